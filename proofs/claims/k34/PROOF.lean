import PyProof.Rows.All
import Wide.All
import OpenK.AllK
import Wide.FinOn
import Lean
import PyProof.EqAt
import PyProof.EqKinds
import PyProof.TupleCall
import PySem.Challenge.RW_sidelink_k34_whole_as_if_at_one_moment
section
open PySem PySem.Spec PyProof.Rows
abbrev Aa:=PySem.W.Frag
def Ab:=@List.getElem?_eq_getElem
def Ac:=@List.getElem?_eq_some_iff
def Ad:=@Heap.get?_push_of_some
def Ae:=@Nat.le_refl
def Ag:=@List.getElem?_append_left
def Ah:=@List.mem_append
def Ai:=@List.mem_append_right
def Aj:=@Option.some.inj
def Ak:=@List.getElem?_set_ne
def Am:=@List.length_append
def An:=@List.size_toArray
def Ao:=@Heap.lt_size
def Ap:=@List.getElem?_append_right
def Aq:=@List.mem_singleton
def Ar:=@List.filter_cons
def As:=@List.getElem?_set_self
def Au:=@Heap.get?_push_size
def Aw:=@List.mem_of_getElem?
def Ax:=@List.mem_cons_of_mem
def Ay:=@Nat.lt_of_lt_of_le
def Az:=@Bool.false_eq_true
def A7:=@List.append_assoc
def A8:=@List.length_take
def A9:=@List.length_cons
def Ba:=@List.map_cons
def Bb:=@Bool.and_eq_true
def Bc:=@Nat.zero_le
def Be:=@Nat.ne_of_lt
def Bf:=@Nat.lt_or_ge
def Bh:=@List.drop_eq_getElem_cons
def Bi:=@Nat.le_trans
def Bj:=@List.mem_cons
def Bm:=@List.mem_filter
def Bo:=@Int.le_refl
def Bp:=@Prod.mk.injEq
def Bq:=@List.length_drop
def Br:=@List.length_map
def Bs:=@List.append_nil
def Bt:=@List.getElem?_map
def Bu:=@List.mem_iff_getElem?
def Bv:=@List.mem_of_mem_take
def Bw:=@Nat.lt_of_le_of_lt
def Bx:=@Bool.false_ne_true
def By:=@Int.toNat_natCast
def Bz:=@List.find?_cons
def B0:=@List.getElem_mem
def B7:=@List.getElem?_take_of_lt
def B8:=@List.length_filter_le
def B9:=@List.getElem?_drop
def Ca:=@List.not_mem_nil
def Cb:=@Option.map_eq_some_iff
def Cc:=@List.mem_range
def Cd:=@List.prefix_rfl
def Ce:=@Heap.size_push
def Cf:=@List.pairwise_cons
def Cg:=@List.getD_eq_getElem?_getD
def Ch:=@List.mem_iff_getElem
def Ci:=@List.any_cons
def Cj:=@List.filter_eq_self
def Ck:=@List.nodup_cons
def Cm:=@Nat.lt_irrefl
def Cn:=@List.getElem?_eq_none
def Co:=@Nat.le_of_not_lt
def Cp:=@List.filter_eq_nil_iff
def Cq:=@Nat.lt_succ_self
def Cr:=@List.drop_length
def Cs:=@List.all_cons
def Cu:=@Nat.ne_of_gt
def Cv:=@List.mem_map
def Cw:=@Nat.le_add_right
def Cy:=@wpAny_bind
def Cz:=@if_neg
def C0:=@if_pos
def C1:=@wpAny_pure
def C4:=@decide_eq_true
def C5:=@of_decide_eq_true
def C6:=@decide_eq_false
def C7:=@pure_bind
abbrev C8:=Value->Shared->Prop
abbrev C9:=List (Addr×Obj)
abbrev Ea:=Str->Option Value
abbrev Ec:=List (Int×Int)
abbrev Ed:=Addr->Prop
abbrev Ee:=List Addr
abbrev Eg:=Int->Option Int
end
-- CHANGE: your row's module here,as the last of these rows
set_option Elab.async false
set_option linter.all false
set_option maxRecDepth 100000
namespace L2
open PySem PySem.Spec PyProof.Rows
abbrev Key:=Sum Int Str
def VR:Key->Value->Bool
 | .inl k,v=>Value.isInt k v
 | .inr x,v=>Value.isStrOf x v
def Qi6 (w:World):Key->Int
 | .inl k=>hashInt k
 | .inr x=>hashStr w x
theorem ZV:∀ {k:Key} {v:Value},VR k v=true->(∃ i t,k=Sum.inl i/\v=Value.int i t)∨(∃ x t,k=Sum.inr x/\v=Value.str x t)
  | .inl i,v,h=>by
    obtain ⟨t,e⟩:=Value.isInt_shape (k:=i) (v:=v) h
    exact .inl ⟨i,t,rfl,e⟩
  | .inr x,v,h=>by
    obtain ⟨t,e⟩:=Value.isStrOf_shape (x:=x) (v:=v) h
    exact .inr ⟨x,t,rfl,e⟩
theorem Qbn (i:Int) (t:Tok):VR (.inl i) (.int i t)=true:=by simp [VR,Value.isInt]
theorem Qbo (x:Str) (t:Tok):VR (.inr x) (.str x t)=true:=by simp [VR,Value.isStrOf]
theorem Qgt (a b:Int):decide ((Sum.inl a:Key)=Sum.inl b)=(a==b):=by
 by_cases e:a=b
 ·subst e;simp
 ·have h:¬ (Sum.inl a:Key)=Sum.inl b:=fun q=>e (Sum.inl.inj q)
  rw [C6 h]
  exact (beq_eq_false_iff_ne.mpr e).symm
theorem Qgw (a b:Str):decide ((Sum.inr a:Key)=Sum.inr b)=decide (a=b):=by
 by_cases e:a=b
 ·subst e;simp
 ·have h:¬ (Sum.inr a:Key)=Sum.inr b:=fun q=>e (Sum.inr.inj q)
  rw [C6 h,C6 e]
def Qgu (a:Int) (b:Str):decide ((Sum.inl a:Key)=Sum.inr b)=false:=C6 (fun q=>nomatch q)
def Qgv (a:Str) (b:Int):decide ((Sum.inr a:Key)=Sum.inl b)=false:=C6 (fun q=>nomatch q)
def ZC (prog:Program) (w:World):PySem.KeyKind prog w Key where
 is:=VR
 hash:=Qi6 w
 inj:=fun v a b ha hb=>by
  rcases ZV ha with ⟨i,t,rfl,rfl⟩ | ⟨x,t,rfl,rfl⟩
  ·rcases ZV hb with ⟨j,u,rfl,e⟩ | ⟨y,u,rfl,e⟩
   ·injection e with e1 _;rw [e1]
   ·exact nomatch e
  ·rcases ZV hb with ⟨j,u,rfl,e⟩ | ⟨y,u,rfl,e⟩
   ·exact nomatch e
   ·injection e with e1 _;rw [e1]
 byValue:=fun k v h=>by
  rcases ZV h with ⟨i,t,rfl,rfl⟩ | ⟨x,t,rfl,rfl⟩<;>rfl
 pyHash:=fun hv h=>by
  rcases ZV hv with ⟨i,t,rfl,rfl⟩ | ⟨x,t,rfl,rfl⟩
  ·exact wpAny_pyHash_int h
  ·exact wpAny_pyHash_str h
 eqBool:=fun hu hv h=>by
  rcases ZV hu with ⟨i,t,rfl,rfl⟩ | ⟨x,t,rfl,rfl⟩
  ·rcases ZV hv with ⟨j,u,rfl,rfl⟩ | ⟨y,u,rfl,rfl⟩
   ·rw [Qgt] at h;exact wpAny_eqBool_int h
   ·rw [Qgu] at h;exact SeqAt.EqAt.int_str i t y u _ _ _ _ h
  ·rcases ZV hv with ⟨j,u,rfl,rfl⟩ | ⟨y,u,rfl,rfl⟩
   ·rw [Qgv] at h;exact SeqAt.EqAt.str_int x t j u _ _ _ _ h
   ·rw [Qgw] at h;exact wpAny_eqBool_str h
 «strs»:=fun k x t v h=>by
  rcases ZV h with ⟨i,u,rfl,e⟩ | ⟨y,u,rfl,e⟩
  ·exact nomatch e
  ·injection e with e1 _
   subst e1
   cases v<;>rfl
def vY (prog:Program) (w:World) (i:Int) (t:Tok):(ZC prog w).is (.inl i) (.int i t)=true:=Qbn i t
def vZ (prog:Program) (w:World) (x:Str) (t:Tok):(ZC prog w).is (.inr x) (.str x t)=true:=Qbo x t
inductive V where
 | non | bl (b:Bool) | int (i:Int) | str (x:Str) | byt (b:Array UInt8) | flt (b:UInt64) | ref (a:Addr) | ty (n:String)
 deriving DecidableEq
def RelV:V->Value->Prop
 | .non,u=>u=Value.none
 | .bl b,u=>u=Value.bool b
 | .int i,u=>∃ t,u=Value.int i t
 | .str x,u=>∃ t,u=Value.str x t
 | .byt b,u=>∃ t,u=Value.bytes b t
 | .flt b,u=>∃ t,u=Value.float b t
 | .ref a,u=>u=Value.ref a
 | .ty n,u=>u=Value.type n
abbrev Vals:List V->List Value->Prop:=Paired RelV
def Vals.length {xs:List V} {us:List Value} (r:Vals xs us):xs.length=us.length:=Paired.length r
theorem Vals.get:∀ {xs:List V} {us:List Value} {i:Nat} {x:V},Vals xs us->xs[i]?=some x->∃ u,us[i]?=some u/\RelV x u
  | _,_,_,_,.nil,e=>by simp at e
  | _,_,0,_,.cons r _,e=>by simp at e;subst e;exact ⟨_,rfl,r⟩
  | _,_,i+1,x,.cons _ t,e=>by
    obtain ⟨u,h1,h2⟩:=Vals.get (i:=i) (x:=x) t (by simpa using e)
    exact ⟨u,by simpa using h1,h2⟩
theorem Vals.set (r:RelV x u):∀ {xs:List V} {us:List Value} (i:Nat),Vals xs us->Vals (xs.set i x) (us.set i u)
 | _,_,_,.nil=>.nil
 | _,_,0,.cons _ t=>.cons r t
 | _,_,i+1,.cons q t=>.cons q (Vals.set r i t)
theorem Vals.append:∀ {xs ys:List V} {us ws:List Value},Vals xs us->Vals ys ws->Vals (xs++ys) (us++ws)
 | _,_,_,_,.nil,s=>s
 | _,_,_,_,.cons r t,s=>.cons r (Vals.append t s)
theorem Vals.take:∀ {xs:List V} {us:List Value} (n:Nat),Vals xs us->Vals (xs.take n) (us.take n)
 | _,_,0,_=>.nil
 | _,_,_+1,.nil=>.nil
 | _,_,n+1,.cons r t=>.cons r (Vals.take n t)
theorem Vals.drop:∀ {xs:List V} {us:List Value} (n:Nat),Vals xs us->Vals (xs.drop n) (us.drop n)
 | _,_,0,r=>r
 | _,_,_+1,.nil=>.nil
 | _,_,n+1,.cons _ t=>Vals.drop n t
def RelO:Option V->Option Value->Prop
 | some v,some u=>RelV v u
 | none,none=>True
 | _,_=>False
def KV {κ:Type}:List (κ×V)->List (κ×Value)->Prop:=Paired fun (p:κ×V) (q:κ×Value)=>p.1=q.1/\RelV p.2 q.2
def kV:Key->V
 | .inl i=>.int i
 | .inr x=>.str x
inductive HO where
  | lst (xs:List V)
  | tup (xs:List V)
  | dK (kvs:List (Key×V)) | dT (kvs:List (List Key×V))
  | set (S:Int->Bool) (n:Nat)
  | ins (C dx:Addr) (fs:List (Str×V))
  | own (x:Addr)
  | xd (fs:List (Str×V))
  | met (f x:Addr)
  | rng (lo hi:Int)
  | frz (o:Obj) (u:HO)
  | tbl (ps:Array Value)
  | ext (φ:Heap->Prop)
abbrev Hp:=Addr->Option HO
def upd (H:Hp) (a:Addr) (o:HO):Hp:=fun b=>if b=a then some o else H b
theorem Za {a:Addr}:upd H a o a=some o:=by unfold upd;rw [C0 rfl]
theorem Q4 {H:Hp} {a b:Addr} (h:b≠a):upd H a o b=H b:=by unfold upd;rw [Cz h]
theorem Qif {H:Hp} {a b:Addr} {o u:HO} (h:H a=some o) (h':H b=some u) (d:o≠u):a≠b:=by
 intro e;subst e;rw [h] at h';exact d (Aj h')
theorem ZF {H:Hp} {a b:Addr} (h:H a=some o) (h':H b=none):a≠b:=by
 intro e;subst e;rw [h] at h';cases h'
section
variable (P:Program) (w:World)
def ObjOk (H:Hp) (h:Heap) (a:Addr):HO->Prop
 | .lst xs=>xs.length<=sizeLine/\∃ (its:List Value) (n:Nat),Vals xs its/\h.get? a=some { cls:=.type "list", data:=.seq its.toArray n }
 | .tup xs=>xs.length<=sizeLine/\∃ its:List Value,Vals xs its/\IsTup h a its.toArray
 | .dK kvs=>kvs.length<=sizeLine/\(a==sysModules)=false/\∃ vs,KV kvs vs/\h.DictOf (ZC P w) a vs
 | .dT kvs=>kvs.length<=sizeLine/\(a==sysModules)=false/\∃ xs:List (List Key×Addr×Value),
   Paired (fun (p:List Key×V) (q:List Key×Addr×Value)=>p.1=q.1/\H q.2.1=some (.tup (p.1.map kV))/\RelV p.2 q.2.2) kvs xs /\
   ∃ o es ep,h.get? a=some o/\o.ExactDict/\o.data=.dict es ep/\es.toList=xs.map (entryOfKey (tupleKind (ZC P w)))/\(xs.map (·.1)).Nodup
 | .set S n=>h.SetOf (intKind P w) a S n
 | .ins C dx fs=>H dx=some (.own a)/\fs.length<=1000/\dx≠a/\h.get? a=some (PySem.W.instObj C dx) /\
   ∃ mA,h.Ns1 dx mA/\(∀ f,RelO (fs.lookup f) (mA f))/\PySem.Within mA (fs.map (·.1))
 | .own _=>∃ o,h.get? a=some o
 | .xd fs=>∃ mA,h.Ns1 a mA/\∀ f,RelO (fs.lookup f) (mA f)
 | .rng lo hi=>∃ t u v,h.get? a=some { cls:=.type "range", data:=.fields #[.int lo t,.int hi u,.int 1 v] }
 | .frz o u=>h.get? a=some o/\ObjOk H h a u
 | .tbl ps=>h.get? a=some { cls:=.none,data:=.fields ps }
 | .met f x=>h.get? a=some (PySem.W.methodObj (.ref f) (.ref x))
 | .ext φ=>φ h/\(∃ o,h.get? a=some o)/\∀ h1 h2:Heap,φ h1->(∀ o,h1.get? a=some o->h2.get? a=some o)->φ h2
def HOk (H:Hp) (h:Heap):Prop:=∀ a o,H a=some o->ObjOk P w H h a o
end
section
variable {P:Program} {w:World} {H H':Hp} {h h':Heap} {a:Addr} {o:HO}
theorem ObjOk.lt (x:ObjOk P w H h a o):a < h.objs.size:=by
 cases o with
 | lst xs=>obtain ⟨_,_,_,_,e⟩:=x;exact Ao e
 | tup xs=>obtain ⟨_,_,_,p⟩:=x;exact p.lt
 | dK kvs=>obtain ⟨_,_,_,_,o,_,_,e,_⟩:=x;exact Ao e
 | dT kvs=>obtain ⟨_,_,_,_,o,_,_,e,_⟩:=x;exact Ao e
 | set S n=>obtain ⟨o,_,_,_,e,_⟩:=x;exact Ao e
 | ins C dx fs=>obtain ⟨_,_,_,e,_⟩:=x;exact Ao e
 | own y=>obtain ⟨_,e⟩:=x;exact Ao e
 | xd fs=>obtain ⟨_,⟨_,_,_,e,_⟩,_⟩:=x;exact Ao e
 | rng lo hi=>obtain ⟨_,_,_,e⟩:=x;exact Ao e
 | frz ob u=>obtain ⟨e,_⟩:=x;exact Ao e
 | tbl ps=>exact Ao (show h.get? a=some _ from x)
 | met f y=>exact Ao (show h.get? a=some _ from x)
 | ext φ=>obtain ⟨_,⟨_,e⟩,_⟩:=x;exact Ao e
theorem Paired.mapP {α β:Type} {F G:α->β->Prop}:∀ {l₁:List α} {l₂:List β},Paired F l₁ l₂->(∀ a b,F a b->G a b)->Paired G l₁ l₂
 | _,_,.nil,_=>.nil
 | _,_,.cons r t,f=>.cons (f _ _ r) (Paired.mapP t f)
theorem ObjOk.stay (x:ObjOk P w H h a o) (k:∀ b u,(b=a∨H b=some (.own a))->h.get? b=some u->h'.get? b=some u)
    (ho:∀ b,H b=some (.own a)->H' b=some (.own a)) (ht:∀ b xs,H b=some (.tup xs)->H' b=some (.tup xs)):ObjOk P w H' h' a o:=by
  induction o with
  | lst xs=>obtain ⟨z,its,n,r,e⟩:=x;exact ⟨z,its,n,r,k _ _ (.inl rfl) e⟩
  | tup xs=>obtain ⟨z,its,r,ob,e,c⟩:=x;exact ⟨z,its,r,ob,k _ _ (.inl rfl) e,c⟩
  | dK kvs=>obtain ⟨z,y,vs,r,ob,es,ep,e,c⟩:=x;exact ⟨z,y,vs,r,ob,es,ep,k _ _ (.inl rfl) e,c⟩
  | dT kvs =>
    obtain ⟨z,y,xs,r,ob,es,ep,e,c⟩:=x
    exact ⟨z,y,xs,Paired.mapP r fun p q z=>⟨z.1,ht _ _ z.2.1,z.2.2⟩,ob,es,ep,k _ _ (.inl rfl) e,c⟩
  | set S n=>obtain ⟨ob,es,ep,t,e,c⟩:=x;exact ⟨ob,es,ep,t,k _ _ (.inl rfl) e,c⟩
  | ins C dx fs =>
    obtain ⟨d,z,ne,e,mA,⟨od,es,ep,e2,c⟩,r⟩:=x
    exact ⟨ho _ d,z,ne,k _ _ (.inl rfl) e,mA,⟨od,es,ep,k _ _ (.inr d) e2,c⟩,r⟩
  | own y=>obtain ⟨ob,e⟩:=x;exact ⟨ob,k _ _ (.inl rfl) e⟩
  | xd fs=>obtain ⟨mA,⟨od,es,ep,e,c⟩,r⟩:=x;exact ⟨mA,⟨od,es,ep,k _ _ (.inl rfl) e,c⟩,r⟩
  | rng lo hi=>obtain ⟨t,u,v,e⟩:=x;exact ⟨t,u,v,k _ _ (.inl rfl) e⟩
  | frz ob u ih=>obtain ⟨e,q⟩:=x;exact ⟨k _ _ (.inl rfl) e,ih q⟩
  | tbl ps =>
    have e:h.get? a=some { cls:=.none,data:=.fields ps }:=x
    show h'.get? a=some { cls:=.none,data:=.fields ps }
    exact k a _ (.inl rfl) e
  | met f y =>
    have e:h.get? a=some (PySem.W.methodObj (.ref f) (.ref y)):=x
    show h'.get? a=some (PySem.W.methodObj (.ref f) (.ref y))
    exact k a _ (.inl rfl) e
  | ext φ=>obtain ⟨p,⟨o,e⟩,st⟩:=x;exact ⟨st _ _ p fun o q=>k _ _ (.inl rfl) q,⟨o,k _ _ (.inl rfl) e⟩,st⟩
def HOk.lt (x:HOk P w H h) (e:H a=some o):a < h.objs.size:=(x a o e).lt
theorem HOk.fresh (x:HOk P w H h) (e:h.objs.size<=a):H a=none:=by
 cases q:H a with
 | none=>rfl
 | some u=>exact absurd (Ay (x.lt q) e) (Cm _)
theorem HOk.kept (x:HOk P w H h) (k:∀ b u,h.get? b=some u->h'.get? b=some u):HOk P w H h':=fun a o e =>
 (x a o e).stay (fun b u _ q=>k b u q) (fun _ q=>q) fun _ _ q=>q
theorem HOk.laid (x:HOk P w H h) (k:∀ b u,h.get? b=some u->h'.get? b=some u) (hp:h.objs.size<=a) (new:ObjOk P w (upd H a o) h' a o):HOk P w (upd H a o) h':=fun b u e=>by
 have hn:=x.fresh hp
 by_cases hb:b=a
 ·subst hb;rw [Za] at e;cases e;exact new
 ·rw [Q4 hb] at e
  exact (x b u e).stay (fun c v _ q=>k c v q) (fun c q=>by rw [Q4 (ZF q hn)];exact q) fun c xs q=>by rw [Q4 (ZF q hn)];exact q
end
def Rd (H:Hp) (a:Addr) (u:HO):Prop:=H a=some u∨∃ o,H a=some (.frz o u)
theorem Rd.ok {w:World} {a:Addr} (r:Rd H a u) (x:HOk P w H h):ObjOk P w H h a u:=by
 rcases r with r | ⟨o,r⟩
 ·exact x a u r
 ·obtain ⟨_,q⟩:=x a _ r
  exact q
def Mut:Option HO->Prop
 | some (.lst _)=>True
 | some (.dK _)=>True
 | some (.dT _)=>True
 | some (.set _ _)=>True
 | some (.ins _ _ _)=>True
 | some (.ext _)=>True
 | _=>False
section
variable {P:Program} {w:World} {H:Hp} {h h':Heap} {x e:Addr} {o':HO}
theorem HOk.write (ok:HOk P w H h) (mu:Mut (H x)) (he:e=x∨H e=some (.own x)) (k:∀ b u,b≠e->h.get? b=some u->h'.get? b=some u) (heo:∃ u,h'.get? e=some u)
  (new:ObjOk P w (upd H x o') h' x o'):HOk P w (upd H x o') h':=fun b u q=>by
 have nown:∀ c y,H c=some (.own y)->c≠x:=fun c y r z=>by subst z;rw [r] at mu;exact mu
 have ntup:∀ c xs,H c=some (.tup xs)->c≠x:=fun c xs r z=>by subst z;rw [r] at mu;exact mu
 by_cases hb:b=x
 ·subst hb;rw [Za] at q;cases q;exact new
 ·rw [Q4 hb] at q
  by_cases hbe:b=e
  ·have q':H b=some (.own x):=by
    rcases he with z | z
    ·exact absurd (hbe.trans z) hb
    ·rw [hbe];exact z
   rw [q] at q';cases q'
   obtain ⟨v,hv⟩:=heo
   exact ⟨v,by rw [hbe];exact hv⟩
  ·refine (ok b u q).stay (fun c v hc r=>k c v ?_ r) (fun c r=>by rw [Q4 (nown c b r)];exact r) fun c xs r=>by rw [Q4 (ntup c xs r)];exact r
   rcases hc with rfl | hc
   ·exact hbe
   ·rintro rfl
    rcases he with z | z
    ·exact nown c b hc z
    ·rw [hc] at z;cases z;exact hb rfl
end
structure Un (fs ex:Ee) (H H':Hp) (h h':Heap):Prop where
 keep:∀ b o,h.get? b=some o->H b=none->b∉fs->b∉ex->h'.get? b=some o
 slot:∀ b o,h.get? b=some o->H b=none->b∈fs->b∉ex->∃ sl,h'.get? b=some { o with slots:=sl }
 free:∀ b o,h.get? b=some o->H b=none->b∉ex->H' b=none
 there:∀ b o,h.get? b=some o->b∉ex->∃ o',h'.get? b=some o'
 tups:∀ b xs,H b=some (.tup xs)->H' b=some (.tup xs)
 frzs:∀ b o u,H b=some (.frz o u)->H' b=some (.frz o u)
 tbls:∀ b ps,H b=some (.tbl ps)->∃ more,H' b=some (.tbl (ps++more))
section
variable {fs fs' ex ex':Ee} {H H1 H2:Hp} {h h1 h2 h':Heap} {a x e:Addr} {o:HO}
theorem Un.any (u:Un fs ex H H1 h h1) {b:Addr} {ob:Obj} (q:h.get? b=some ob) (n:H b=none) (hx:b∉ex):∃ sl,h1.get? b=some { ob with slots:=sl }:=by
 by_cases hb:b∈fs
 ·exact u.slot b ob q n hb hx
 ·exact ⟨ob.slots,u.keep b ob q n hb hx⟩
theorem Un.kept (k:∀ b u,h.get? b=some u->h'.get? b=some u):Un fs ex H H h h' :=
 ⟨fun b ob q _ _ _=>k b ob q,fun b ob q _ _ _=>⟨ob.slots,k b ob q⟩,fun _ _ _ n _=>n,fun b ob q _=>⟨ob,k b ob q⟩,fun _ _ q=>q,fun _ _ _ q=>q,fun _ ps q=>⟨#[],by rw [q];simp⟩⟩
def Un.refl:Un fs ex H H h h:=Un.kept fun _ _ q=>q
theorem Un.laid (k:∀ b u,h.get? b=some u->h'.get? b=some u) (hp:h.objs.size<=a) (hn:H a=none):Un fs ex H (upd H a o) h h' where
 keep:=fun b u q _ _ _=>k b u q
 slot:=fun b u q _ _ _=>⟨u.slots,k b u q⟩
 free:=fun b u q n _=>by rw [Q4 (Be (Ay (Ao q) hp))];exact n
 there:=fun b u q _=>⟨u,k b u q⟩
 tups:=fun b xs q=>by rw [Q4 (ZF q hn)];exact q
 frzs:=fun b u xs q=>by rw [Q4 (ZF q hn)];exact q
 tbls:=fun b ps q=>⟨#[],by rw [Q4 (ZF q hn),q];simp⟩
theorem Un.write (mu:Mut (H x)) (he:e=x∨H e=some (.own x)) (k:∀ b u,b≠e->h.get? b=some u->h'.get? b=some u) (heo:∃ u,h'.get? e=some u):Un fs ex H (upd H x o) h h':=by
 have hx:∀ b,H b=none->b≠x:=fun b n z=>by subst z;rw [n] at mu;exact mu
 have hb:∀ b,H b=none->b≠e:=fun b n z=>by
  subst z
  rcases he with r | r
  ·exact hx b n r
  ·rw [n] at r;cases r
 have hm:∀ b u,H b=some u->¬ Mut (some u)->b≠x:=fun b u q nm z=>by subst z;rw [q] at mu;exact nm mu
 refine ⟨fun b u q n _ _=>k b u (hb b n) q,fun b u q n _ _=>⟨u.slots,k b u (hb b n) q⟩,fun b u q n _=>by rw [Q4 (hx b n)];exact n,fun b u q _=>?_,
  fun b xs q=>by rw [Q4 (hm b _ q fun z=>z)];exact q,fun b u xs q=>by rw [Q4 (hm b _ q fun z=>z)];exact q,fun b ps q=>⟨#[],by rw [Q4 (hm b _ q fun z=>z),q];simp⟩⟩
 by_cases hbe:b=e
 ·subst hbe;exact heo
 ·exact ⟨u,k b u hbe q⟩
end
def trk (h:Heap) (H:Hp):List Addr:=(List.range h.objs.size).filter fun a=>(H a).isSome
def GC (h:Heap) (H:Hp):Heap:=PySem.W.hideAll h (trk h H)
def Qbk (h:Heap) (H:Hp):(GC h H).objs.size=h.objs.size:=PySem.W.hideAll_size _ _
theorem QcH {h:Heap} {H:Hp} {b:Addr} (e:h.get? b=some o) (n:H b=none):(GC h H).get? b=some o :=
 PySem.W.hideAll_get _ e fun hm=>by
  have q:(H b).isSome=true:=(Bm.mp hm).2
  rw [n] at q;simp at q
theorem QeM {h:Heap} {H:Hp} {b:Addr} (e:(GC h H).get? b=some o):h.get? b=some o/\H b=none:=by
  have e':h.get? b=some o:=PySem.W.of_hideAll (trk h H) e
  refine ⟨e',?_⟩
  cases q:H b with
  | none=>rfl
  | some x =>
    have hm:b∈trk h H:=Bm.mpr ⟨Cc.mpr (Ao e'),by simp [q]⟩
    have z:(GC h H).get? b=none:=PySem.W.hideAll_none (trk h H) hm
    rw [z] at e;cases e
def Gj (g h:Heap) (L:Addr):List (Addr×Obj):=(List.range h.objs.size).filterMap fun a=>if a=L∨(g.get? a).isSome=true then none else (h.get? a).map fun o=>(a,o)
theorem V0 {g h:Heap} {L:Addr} {p:Addr×Obj} (hp:p∈Gj g h L):p.1≠L/\g.get? p.1=none/\h.get? p.1=some p.2:=by
  obtain ⟨b,_,e⟩:=List.mem_filterMap.mp hp
  split at e
  . cases e
  . rename_i hn
    cases q:h.get? b with
    | none=>rw [q] at e;simp at e
    | some u =>
      rw [q] at e
      simp only [Option.map_some,Option.some.injEq] at e
      subst e
      refine ⟨fun z=>hn (.inl z),?_,q⟩
      show g.get? b=none
      cases r:g.get? b with
      | none=>rfl
      | some v=>exact (hn (.inr (by simp [r]))).elim
def rest (g h:Heap) (L d:Addr):List (Addr×Obj):=(Gj g h L).filter fun p=>decide (p.1≠d)
def Qc9 {L:Addr}:News g L h (Gj g h L):=fun p hp=>let ⟨a,b,c⟩:=V0 hp;⟨c,a,b⟩
structure Mod (K:Aa) (mg:Ea) (O8:Heap):Prop where
 kin:K.In O8
 glob:O8.Ns mainGlobals mg
 blt:∃ mb,O8.Ns builtinsNs mb/\∀ x:Str,x ≠ "__name__" -> mb x=bootBuiltins x
 nolimit:O8.NoLimit
structure Cx where
 prog:Program
 w:World
 K:Aa
 mg:Str->Option Value
 O8:Heap
 A:Around
 N:List Str
 s₀:Shared
 H₀:Hp
 env:Env
 outer:List Env
 stack:List Env
 ex:List Addr
 fn:Str->Bool
 calm:Bool
 pn:List (Addr×Obj)
 xe:Value->Shared->Prop
def frs (l:List Env):List Addr:=l.filterMap (·.frame)
abbrev Cx.fs (X:Cx):List Addr:=frs X.outer
def Vis (sc:Scope) (x:Str):Prop:=sc.names.lookup x=some .local∨sc.names.lookup x=some .cell∨sc.names.lookup x=some .free
def Loc (sc:Scope) (x:Str):Prop:=sc.names.lookup x=some .local∨sc.names.lookup x=some .cell
def QiY (env:Env) (h:Heap) (m:Ea) (x:Str) (u:Value):Prop :=
 (env.kindOf x=some .local/\m x=some u)∨((env.kindOf x=some .cell∨env.kindOf x=some .free)/\∃ c,env.cells.lookup x=some c/\h.IsCell c (some u))
structure Cx.Ok (X:Cx):Prop where
 mod:Mod X.K X.mg X.O8
 kind:X.env.scope.kind=.function
 glob:X.env.globals=mainGlobals
 blt:X.env.builtins=builtinsNs
 above:X.s₀.heap.objs.size<=X.env.locals
 inj:∀ x y c,X.env.cells.lookup x=some c->X.env.cells.lookup y=some c->x=y
 has:∀ x,(X.env.kindOf x=some .cell∨X.env.kindOf x=some .free)->∃ c,X.env.cells.lookup x=some c
 cab:∀ x c,X.fn x=true->X.env.cells.lookup x=some c->X.s₀.heap.objs.size<=c
 hd:X.calm=true->X.A.handled=none
 frames:X.A.frames=some X.stack
 stk:X.stack=X.outer∨(X.stack=X.env::X.outer/\X.env.frame=some X.env.locals)
 exf:∀ b∈X.ex,b≠X.env.locals/\∀ x c,X.env.cells.lookup x=some c->c≠b
 bs:∀ b o,X.O8.get? b=some o->X.s₀.heap.get? b=some o/\X.H₀ b=none
 bsz:X.O8.objs.size<=X.s₀.heap.objs.size
 noex:∀ b o,X.O8.get? b=some o->b∉X.ex
 exfs:∀ b∈X.ex,b∉X.fs
 funs:X.s₀.heap.FunFrames X.O8 X.outer
 frf:∀ b∈X.fs,X.H₀ b=none
structure Inv (X:Cx) (O9:C9) (σ:List (Option V)) (H:Hp) (s:Shared):Prop where
 ok:X.Ok
 os:s.os=X.s₀.os
 bare:AllBare s.gens
 O8:Un X.fs X.ex X.H₀ H X.s₀.heap s.heap
 loc:∃ m,s.heap.Ns X.env.locals m/\∀ (i:Nat) (x:Str) (v:V),X.N[i]?=some x->σ[i]?=some (some v)->Vis X.env.scope x->∃ u,RelV v u/\QiY X.env s.heap m x u
 cell:∀ x c,X.env.cells.lookup x=some c->∃ v,s.heap.IsCell c v
 free:H X.env.locals=none
 freeC:∀ x c,X.env.cells.lookup x=some c->H c=none
 pin:∀ p∈X.pn++O9,s.heap.get? p.1=some p.2/\H p.1=none/\p.1≠X.env.locals/\p.1∉X.fs/\∀ v,p.2.data≠.cell v
 hok:HOk X.prog X.w H s.heap
 len:σ.length=X.N.length
section
variable {X:Cx} {O9:C9} {σ:List (Option V)} {H H':Hp} {s:Shared} {h':Heap}
theorem Cx.Ok.nofr (ok:X.Ok) {b:Addr} (e:X.O8.get? b=some o):b∉X.fs:=fun hb=>by
 have:=(ok.funs.mem hb).1
 rw [e] at this;cases this
theorem Inv.bs (I:Inv X O9 σ H s):∀ b o,X.O8.get? b=some o->s.heap.get? b=some o/\H b=none:=fun b o e =>
 ⟨I.O8.keep b o (I.ok.bs b o e).1 (I.ok.bs b o e).2 (I.ok.nofr e) (I.ok.noex b o e),I.O8.free b o (I.ok.bs b o e).1 (I.ok.bs b o e).2 (I.ok.noex b o e)⟩
def Inv.bk (I:Inv X O9 σ H s):∀ b o,X.O8.get? b=some o->s.heap.get? b=some o:=fun b o e=>(I.bs b o e).1
def Inv.mod (I:Inv X O9 σ H s):Mod X.K X.mg X.O8:=I.ok.mod
def Inv.kIn (I:Inv X O9 σ H s):X.K.In s.heap:=I.ok.mod.kin.keeps I.bk
theorem Inv.fr (I:Inv X O9 σ H s):∃ m,Fr X.O8 X.env.locals s.heap m :=
 let ⟨m,hn,_⟩:=I.loc
 ⟨m,hn,I.bk,Bi I.ok.bsz I.ok.above⟩
def Inv.lt (I:Inv X O9 σ H s):X.env.locals < s.heap.objs.size:=let ⟨_,hn,_⟩:=I.loc;hn.lt
def Inv.sz (I:Inv X O9 σ H s):X.s₀.heap.objs.size<=s.heap.objs.size:=Bi I.ok.above (Nat.le_of_lt I.lt)
theorem Inv.nofs (I:Inv X O9 σ H s) {a:Addr} (h:s.heap.objs.size<=a):a∉X.fs:=fun hb=>by
 obtain ⟨_,o,ho,_⟩:=I.ok.funs.mem hb
 exact absurd (Ay (Ao ho) (Bi I.sz h)) (Cm _)
theorem Inv.cne (I:Inv X O9 σ H s):∀ x c,X.env.cells.lookup x=some c->c≠X.env.locals:=fun x c e z=>by
 obtain ⟨v,o,ho,hd⟩:=I.cell x c e
 obtain ⟨m,⟨o',es,ep,ho',hd',_⟩,_⟩:=I.loc
 rw [z,ho'] at ho;cases ho;rw [hd'] at hd;cases hd
theorem Inv.funs (I:Inv X O9 σ H s):s.heap.FunFrames X.O8 X.outer:=by
  have all:∀ (l:List Env),(∀ b∈frs l,b∈X.fs)->X.s₀.heap.FunFrames X.O8 l->s.heap.FunFrames X.O8 l:=by
    intro l
    induction l with
    | nil=>intro _ _;trivial
    | cons env r ih =>
      intro hs hl
      obtain ⟨hk,⟨L,o,hf,hn,ho,hd⟩,hr⟩:=hl
      have hL:L∈X.fs:=hs L (by unfold frs;rw [List.filterMap_cons,hf];exact List.mem_cons_self)
      obtain ⟨sl,e⟩:=I.O8.slot L o ho (I.ok.frf L hL) hL fun z=>I.ok.exfs L z hL
      exact ⟨hk,⟨L,_,hf,hn,e,hd⟩,ih (fun b hb=>hs b (by unfold frs;rw [List.filterMap_cons,hf];exact Ax _ hb)) hr⟩
  exact all X.outer (fun _ hb=>hb) I.ok.funs
theorem Inv.stack (I:Inv X O9 σ H s):s.heap.FunFrames X.O8 X.stack:=by
 rcases I.ok.stk with e | ⟨e,hf⟩
 ·rw [e];exact I.funs
 ·rw [e]
  obtain ⟨m,hn,_⟩:=I.loc
  refine .cons (by rw [I.ok.kind];decide) hf hn ?_ I.funs
  exact Heap.get?_none_of_le (Bi I.ok.bsz I.ok.above)
theorem Inv.stkSub (I:Inv X O9 σ H s):∀ b∈frs X.stack,b∈X.env.locals::X.fs:=fun b hb=>by
 rcases I.ok.stk with e | ⟨e,hf⟩
 ·rw [e] at hb;exact Ax _ hb
 ·rw [e] at hb
  unfold frs at hb
  rw [List.filterMap_cons,hf] at hb
  exact hb
theorem Inv.stkFree (I:Inv X O9 σ H s):∀ b∈frs X.stack,H b=none:=fun b hb=>by
 rcases Bj.mp (I.stkSub b hb) with e | hb
 ·rw [e];exact I.free
 ·obtain ⟨_,o,ho,_⟩:=I.ok.funs.mem hb
  exact I.O8.free b o ho (I.ok.frf b hb) fun z=>I.ok.exfs b z hb
theorem Inv.step {g':Array GenState} {t':Nat} {d':Drawn} {ch:Ee} (I:Inv X O9 σ H s)
  (hch:∀ b∈ch,(b∈X.ex∨X.s₀.heap.objs.size<=b)/\b≠X.env.locals/\(∀ x c,X.env.cells.lookup x=some c->c≠b)/\∀ p∈X.pn++O9,p.1≠b)
  (keep:∀ b o,b≠X.env.locals->b∉X.fs->b∉ch->s.heap.get? b=some o->H b=none->h'.get? b=some o)
  (slot:∀ b o,b≠X.env.locals->b∈X.fs->b∉ch->s.heap.get? b=some o->H b=none->∃ sl,h'.get? b=some { o with slots:=sl }) (free:∀ b o,b∉ch->s.heap.get? b=some o->H b=none->H' b=none)
  (there:∀ b o,b∉ch->s.heap.get? b=some o->∃ o',h'.get? b=some o')
  (tups:∀ b xs,H b=some (.tup xs)->H' b=some (.tup xs)) (frzs:∀ b o u,H b=some (.frz o u)->H' b=some (.frz o u)) (tbls:∀ b ps,H b=some (.tbl ps)->∃ more,H' b=some (.tbl (ps++more)))
  (ns:∀ m,s.heap.Ns X.env.locals m->h'.Ns X.env.locals m) (hok:HOk X.prog X.w H' h') (hg:AllBare g') :
  Inv X O9 σ H' { s with heap:=h',gens:=g',drawn:=d',toks:=t' }:=by
 have neL:∀ b o,X.s₀.heap.get? b=some o->b≠X.env.locals:=fun b o e=>Be (Ay (Ao e) I.ok.above)
 have neC:∀ b o,X.s₀.heap.get? b=some o->b∉X.ex->b∉ch:=fun b o e hx hb=>by
  rcases (hch b hb).1 with z | z
  ·exact hx z
  ·exact absurd (Ay (Ao e) z) (Cm _)
 have cellK:∀ x c,X.env.cells.lookup x=some c->∀ v,s.heap.IsCell c v->h'.IsCell c v:=fun x c e v ⟨o,ho,hd⟩=>by
  have nch:c∉ch:=fun z=>(hch c z).2.2.1 x c e rfl
  by_cases hc:c∈X.fs
  ·obtain ⟨sl,q⟩:=slot c o (I.cne x c e) hc nch ho (I.freeC x c e)
   exact ⟨_,q,hd⟩
  ·exact ⟨o,keep c o (I.cne x c e) hc nch ho (I.freeC x c e),hd⟩
 refine ⟨I.ok,I.os,hg,⟨fun b o e n hb hx=>?_,fun b o e n hb hx=>?_,fun b o e n hx=>?_,fun b o e hx=>?_,fun b xs e=>tups b xs (I.O8.tups b xs e),fun b o xs e=>frzs b o xs (I.O8.frzs b o xs e),fun b ps e=>?_⟩,?_,fun x c e=>?_,?_,fun x c e=>?_,fun p hp=>?_,hok,I.len⟩
 ·exact keep b o (neL b o e) hb (neC b o e hx) (I.O8.keep b o e n hb hx) (I.O8.free b o e n hx)
 ·obtain ⟨sl,e1⟩:=I.O8.slot b o e n hb hx
  obtain ⟨sl',e2⟩:=slot b _ (neL b o e) hb (neC b o e hx) e1 (I.O8.free b o e n hx)
  exact ⟨sl',e2⟩
 ·obtain ⟨o',e1⟩:=I.O8.there b o e hx
  exact free b o' (neC b o e hx) e1 (I.O8.free b o e n hx)
 ·obtain ⟨o',e1⟩:=I.O8.there b o e hx
  exact there b o' (neC b o e hx) e1
 ·obtain ⟨m1,e1⟩:=I.O8.tbls b ps e
  obtain ⟨m2,e2⟩:=tbls b _ e1
  exact ⟨m1++m2,by rw [e2,Array.append_assoc]⟩
 ·obtain ⟨m,hn,hl⟩:=I.loc
  refine ⟨m,ns m hn,fun i x v e1 e2 e3=>?_⟩
  obtain ⟨u,r,l⟩:=hl i x v e1 e2 e3
  refine ⟨u,r,?_⟩
  rcases l with l | ⟨k,c,e,z⟩
  ·exact .inl l
  ·exact .inr ⟨k,c,e,cellK x c e _ z⟩
 ·obtain ⟨v,z⟩:=I.cell x c e
  exact ⟨v,cellK x c e v z⟩
 ·obtain ⟨m,⟨o,_,_,ho,_⟩,_⟩:=I.loc
  exact free _ o (fun z=>(hch _ z).2.1 rfl) ho I.free
 ·obtain ⟨v,o,ho,hd⟩:=I.cell x c e
  exact free c o (fun z=>(hch c z).2.2.1 x c e rfl) ho (I.freeC x c e)
 ·obtain ⟨e,n,ne,nf,d⟩:=I.pin p hp
  have nch:p.1∉ch:=fun z=>(hch p.1 z).2.2.2 p hp rfl
  exact ⟨keep p.1 p.2 ne nf nch e n,free p.1 p.2 nch e n,ne,nf,d⟩
theorem Inv.un {t':Nat} (I:Inv X O9 σ H s) (u:Un X.fs [] H H' s.heap h') (hok:HOk X.prog X.w H' h'):Inv X O9 σ H' { s with heap:=h',toks:=t' }:=by
 obtain ⟨m,⟨o,es,ep,ho,r⟩,_⟩:=id I.loc
 obtain ⟨sl,hL⟩:=u.any ho I.free (by simp)
 exact I.step (g':=s.gens) (d':=s.drawn) (ch:=[]) (fun _ z=>nomatch z) (fun b o _ hb _ e n=>u.keep b o e n hb (by simp)) (fun b o _ hb _ e n=>u.slot b o e n hb (by simp)) (fun b o _ e n=>u.free b o e n (by simp)) (fun b o _ e=>u.there b o e (by simp)) u.tups u.frzs u.tbls (fun m' hm=>by
  obtain ⟨o',es',ep',ho',r'⟩:=hm
  rw [ho] at ho';cases ho'
  exact ⟨_,es',ep',hL,r'⟩) hok I.bare
theorem Inv.call {g':Array GenState} {t':Nat} {d':Drawn} (I:Inv X O9 σ H s) (u:Un (frs X.stack) ch H H' s.heap h') (hok:HOk X.prog X.w H' h') (hg:AllBare g')
  (hch:∀ b∈ch,(b∈X.ex∨X.s₀.heap.objs.size<=b)/\b≠X.env.locals/\(∀ x c,X.env.cells.lookup x=some c->c≠b)/\∀ p∈X.pn++O9,p.1≠b) :
  Inv X O9 σ H' { s with heap:=h',gens:=g',drawn:=d',toks:=t' }:=by
 obtain ⟨m,⟨o,es,ep,ho,r⟩,_⟩:=id I.loc
 obtain ⟨sl,hL⟩:=u.any ho I.free fun z=>(hch _ z).2.1 rfl
 exact I.step (ch:=ch) hch (fun b o hL hb hc e n=>u.keep b o e n (fun z=>(Bj.mp (I.stkSub b z)).elim hL hb) hc) (fun b o _ _ hc e n=>u.any e n hc) (fun b o hc e n=>u.free b o e n hc) (fun b o hc e=>u.there b o e hc) u.tups u.frzs u.tbls (fun m' hm=>by
  obtain ⟨o',es',ep',ho',r'⟩:=hm
  rw [ho] at ho';cases ho'
  exact ⟨_,es',ep',hL,r'⟩) hok hg
theorem Inv.turned {t':Nat} {it:Addr} (I:Inv X O9 σ H s) (k:∀ b o,b≠it->s.heap.get? b=some o->h'.get? b=some o) (hn:H it=none) (hL:it≠X.env.locals)
  (h1:it∈X.ex∨X.s₀.heap.objs.size<=it) (h2:∀ x c,X.env.cells.lookup x=some c->c≠it) (h3:∀ p∈X.pn++O9,p.1≠it):Inv X O9 σ H { s with heap:=h',toks:=t' }:=by
 have nit:∀ b u,H b=some u->b≠it:=fun b u e z=>by rw [z,hn] at e;cases e
 refine I.step (g':=s.gens) (d':=s.drawn) (ch:=[it]) (fun b hb=>?_) (fun b o _ _ hc e _=>k b o (fun z=>hc (by simp [z])) e) (fun b o _ _ hc e _=>⟨o.slots,k b o (fun z=>hc (by simp [z])) e⟩) (fun _ _ _ _ n=>n)
  (fun b o hc e=>⟨o,k b o (fun z=>hc (by simp [z])) e⟩) (fun _ _ e=>e) (fun _ _ _ e=>e) (fun b ps e=>⟨#[],by rw [e];simp⟩) (fun m hm=>?_) (fun b u e=>?_) I.bare
 ·have e:b=it:=by simpa using hb
  subst e
  exact ⟨h1,hL,h2,h3⟩
 ·obtain ⟨o,es,ep,ho,r⟩:=hm
  exact ⟨o,es,ep,k _ o (Ne.symm hL) ho,r⟩
 ·refine (I.hok b u e).stay (fun c v hc q=>k c v ?_ q) (fun _ q=>q) fun _ _ q=>q
  rcases hc with z | z
  ·rw [z];exact nit b u e
  ·exact nit c _ z
def Inv.tok (I:Inv X O9 σ H s) (t:Nat):Inv X O9 σ H { s with toks:=t }:=I.un (h':=s.heap) (t':=t) Un.refl I.hok
def Inv.kept {t':Nat} (I:Inv X O9 σ H s) (k:∀ b u,s.heap.get? b=some u->h'.get? b=some u):Inv X O9 σ H { s with heap:=h',toks:=t' }:=I.un (Un.kept k) (I.hok.kept k)
theorem Inv.laid {a:Addr} {t':Nat} (I:Inv X O9 σ H s) (k:∀ b u,s.heap.get? b=some u->h'.get? b=some u) (hp:s.heap.objs.size<=a) (new:ObjOk X.prog X.w (upd H a o) h' a o):
  Inv X O9 σ (upd H a o) { s with heap:=h',toks:=t' }:=I.un (Un.laid k hp (I.hok.fresh hp)) (I.hok.laid k hp new)
theorem Inv.write {x e:Addr} {o:HO} {t':Nat} (I:Inv X O9 σ H s) (mu:Mut (H x)) (he:e=x∨H e=some (.own x)) (k:∀ b u,b≠e->s.heap.get? b=some u->h'.get? b=some u) (heo:∃ u,h'.get? e=some u)
  (new:ObjOk X.prog X.w (upd H x o) h' x o):Inv X O9 σ (upd H x o) { s with heap:=h',toks:=t' }:=I.un (Un.write mu he k heo) (I.hok.write mu he k heo new)
theorem Inv.pins_of (I:Inv X O9 σ H s) (h:∀ p∈pins',s.heap.get? p.1=some p.2/\H p.1=none/\p.1≠X.env.locals/\p.1∉X.fs/\∀ v,p.2.data≠.cell v):Inv X pins' σ H s :=
 ⟨I.ok,I.os,I.bare,I.O8,I.loc,I.cell,I.free,I.freeC,fun p hp=>(Ah.mp hp).elim (fun z=>I.pin p (List.mem_append_left _ z)) (h p),I.hok,I.len⟩
theorem v0 {N:List Str} (hN:N.Nodup) {i j:Nat} {x:Str} (a:N[i]?=some x) (b:N[j]?=some x):i=j:=by
 obtain ⟨h1,e1⟩:=Ac.mp a
 obtain ⟨h2,e2⟩:=Ac.mp b
 exact (List.getElem_inj hN).mp (e1.trans e2.symm)
theorem K9 {M:Model} {A:Around} {E:C8} {i:Nat} {x:Str} {Q:Unit->Shared->Prop} (I:Inv X O9 σ H s) (hN:X.N.Nodup) (hi:X.N[i]?=some x) (hx:Loc X.env.scope x) (r:RelV v u)
  (h:∀ s',Inv X O9 (σ.set i (some v)) H s'->(∃ a,Heap.SameBut a s.heap s'.heap/\(a=X.env.locals∨X.env.cells.lookup x=some a))->Q () s') (hf:X.fn x=true∨X.env.scope.names.lookup x=some .local:=by first | exact .inl rfl | exact .inr rfl | assumption):wpAny M A (storeName X.env x u) Q E s:=by
 obtain ⟨m,hn,hl⟩:=id I.loc
 have hcls:(X.env.scope.kind==.class||(X.env.scope.kind==.module&&X.env.locals != X.env.globals))=false:=by rw [I.ok.kind];rfl
 have hiσ:i < σ.length:=by rw [I.len];exact (Ac.mp hi).1
 have cne:=I.cne
 have tracked:∀ {a:Addr} {h':Heap},(∃ o,s.heap.get? a=some o/\H a=none)->Heap.SameBut a s.heap h'->HOk X.prog X.w H h':=fun {a h'} ha hs b ob e=>by
  obtain ⟨_,_,hfree⟩:=ha
  refine (I.hok b ob e).stay (fun c w' hc q=>(hs.2 c ?_).trans q) (fun _ q=>q) fun _ _ q=>q
  rintro rfl
  rcases hc with rfl | hc
  ·rw [hfree] at e;cases e
  ·rw [hfree] at hc;cases hc
 rcases hx with hk | hk
 ·refine wpAny_storeName_local hk hn (fun h' hn' hs=>?_) hcls
  obtain ⟨oL,_,_,hoL,_⟩:=id hn
  refine h _ ⟨I.ok,I.os,I.bare,⟨fun b o e n hb hx=>?_,fun b o e n hb hx=>?_,I.O8.free,fun b o e hx=>?_,I.O8.tups,I.O8.frzs,I.O8.tbls⟩,⟨_,hn',fun j y v' e1 e2 e3=>?_⟩,fun y c e=>?_,I.free,I.freeC,fun p hp=>?_,tracked ⟨oL,hoL,I.free⟩ hs,by simpa using I.len⟩ ⟨_,hs,.inl rfl⟩
  ·exact (hs.2 b (Be (Ay (Ao e) I.ok.above))).trans (I.O8.keep b o e n hb hx)
  ·obtain ⟨sl,e1⟩:=I.O8.slot b o e n hb hx
   exact ⟨sl,(hs.2 b (Be (Ay (Ao e) I.ok.above))).trans e1⟩
  ·obtain ⟨o',e1⟩:=I.O8.there b o e hx
   exact ⟨o',(hs.2 b (Be (Ay (Ao e) I.ok.above))).trans e1⟩
  ·by_cases hj:j=i
   ·subst hj
    rw [hi] at e1;cases e1
    rw [As hiσ] at e2
    cases e2
    exact ⟨u,r,.inl ⟨hk,by simp⟩⟩
   ·rw [Ak (Ne.symm hj)] at e2
    obtain ⟨u',r',q⟩:=hl j y v' e1 e2 e3
    refine ⟨u',r',?_⟩
    rcases q with ⟨k,e⟩ | ⟨k,c,e,z⟩
    ·refine .inl ⟨k,?_⟩
     have:y≠x:=fun e=>hj (v0 hN e1 (e▸hi))
     simp [this,e]
    ·exact .inr ⟨k,c,e,z.sameBut hs (cne y c e)⟩
  ·obtain ⟨w',z⟩:=I.cell y c e
   exact ⟨w',z.sameBut hs (cne y c e)⟩
  ·obtain ⟨e,n,ne,nf,d⟩:=I.pin p hp
   exact ⟨(hs.2 p.1 ne).trans e,n,ne,nf,d⟩
 ·have hfn:X.fn x=true:=by
   rcases hf with z | z
   ·exact z
   ·rw [z] at hk;cases hk
  obtain ⟨c,hc⟩:=I.ok.has x (.inl hk)
  obtain ⟨w',z⟩:=I.cell x c hc
  refine wpAny_storeName_cell I.ok.kind hk hc z (fun h' hc' hs=>?_)
  obtain ⟨oc,hoc,hocd⟩:=id z
  refine h { s with heap:=h' } ⟨I.ok,I.os,I.bare,⟨fun b o e n hb hx=>?_,fun b o e n hb hx=>?_,I.O8.free,fun b o e hx=>?_,I.O8.tups,I.O8.frzs,I.O8.tbls⟩,⟨m,hn.sameBut hs (Ne.symm (cne x c hc)),fun j y v' e1 e2 e3=>?_⟩,fun y c' e=>?_,I.free,I.freeC,fun p hp=>?_,tracked ⟨oc,hoc,I.freeC x c hc⟩ hs,by simpa using I.len⟩ ⟨c,hs,.inr hc⟩
  ·exact (hs.2 b (Be (Ay (Ao e) (I.ok.cab x c hfn hc)))).trans (I.O8.keep b o e n hb hx)
  ·obtain ⟨sl,e1⟩:=I.O8.slot b o e n hb hx
   exact ⟨sl,(hs.2 b (Be (Ay (Ao e) (I.ok.cab x c hfn hc)))).trans e1⟩
  ·obtain ⟨o',e1⟩:=I.O8.there b o e hx
   exact ⟨o',(hs.2 b (Be (Ay (Ao e) (I.ok.cab x c hfn hc)))).trans e1⟩
  ·by_cases hj:j=i
   ·subst hj
    rw [hi] at e1;cases e1
    rw [As hiσ] at e2
    cases e2
    exact ⟨u,r,.inr ⟨.inl hk,c,hc,hc'⟩⟩
   ·rw [Ak (Ne.symm hj)] at e2
    obtain ⟨u',r',q⟩:=hl j y v' e1 e2 e3
    refine ⟨u',r',?_⟩
    rcases q with q | ⟨k,c',e,z'⟩
    ·exact .inl q
    ·refine .inr ⟨k,c',e,z'.sameBut hs ?_⟩
     rintro rfl
     exact hj (v0 hN e1 (I.ok.inj _ _ _ e hc▸hi))
  ·by_cases hcc:c'=c
   ·subst hcc;exact ⟨_,hc'⟩
   ·obtain ⟨w2,z2⟩:=I.cell y c' e
    exact ⟨w2,z2.sameBut hs hcc⟩
  ·obtain ⟨e,n,ne,nf,d⟩:=I.pin p hp
   refine ⟨(hs.2 p.1 ?_).trans e,n,ne,nf,d⟩
   intro q
   rw [q,hoc] at e
   have q':oc=p.2:=Aj e
   exact d w' (by rw [<- q'];exact hocd)
theorem uB {M:Model} {A:Around} {E:C8} {i:Nat} {x:Str} {Q:Unit->Shared->Prop} (I:Inv X O9 σ H s) (hN:X.N.Nodup) (hi:X.N[i]?=some x) (hx:Loc X.env.scope x) (r:RelV v u)
  (h:∀ s',Inv X O9 (σ.set i (some v)) H s'->Q () s') (hf:X.fn x=true∨X.env.scope.names.lookup x=some .local:=by first | exact .inl rfl | exact .inr rfl | assumption):wpAny M A (storeName X.env x u) Q E s :=
 K9 I hN hi hx r (fun s' I' _=>h s' I') hf
theorem Inv.call' {s':Shared} (I:Inv X O9 σ H s) (ho:s'.os=s.os) (u:Un (frs X.stack) ch H H' s.heap s'.heap) (hok:HOk X.prog X.w H' s'.heap) (hg:AllBare s'.gens)
  (hch:∀ b∈ch,(b∈X.ex∨X.s₀.heap.objs.size<=b)/\b≠X.env.locals/\(∀ x c,X.env.cells.lookup x=some c->c≠b)/\∀ p∈X.pn++O9,p.1≠b):Inv X O9 σ H' s':=by
 obtain ⟨h',g',d',t',o'⟩:=s'
 have e:o'=s.os:=ho
 subst e
 exact I.call (g':=g') (t':=t') (d':=d') u hok hg hch
end
abbrev XK:=Value->Option Addr->Hp->Prop
abbrev St:=List (Option V)
abbrev VK:=V->Hp->Prop
abbrev TE:=St->Hp->VK->Prop
abbrev TT:=St->Hp->(Bool->Hp->Prop)->Prop
abbrev TA:=St->Hp->(List V->Hp->Prop)->Prop
structure Ge where
 nx:St->Hp->Prop
 rt:VK
 bk:St->Hp->Prop:=fun _ _=>False
 ct:St->Hp->Prop:=fun _ _=>False
abbrev TS:=Ge->St->Hp->Prop
def EP (X:Cx) (O9:C9) (σ:St) (Q:VK) (u:Value) (s':Shared):Prop:=∃ v H',Inv X O9 σ H' s'/\RelV v u/\Q v H'
def TP (X:Cx) (O9:C9) (σ:St) (Q:Bool->Hp->Prop) (b:Bool) (s':Shared):Prop:=∃ H',Inv X O9 σ H' s'/\Q b H'
def AP (X:Cx) (O9:C9) (σ:St) (Q:List V->Hp->Prop) (us:List Value) (s':Shared):Prop:=∃ vs H',Inv X O9 σ H' s'/\Vals vs us/\Q vs H'
def SP (X:Cx) (O9:C9) (D:Ge) (f:Flow) (s':Shared):Prop :=
 match f with
 | .next=>∃ σ' H',Inv X O9 σ' H' s'/\D.nx σ' H'
 | .brk=>∃ σ' H',Inv X O9 σ' H' s'/\D.bk σ' H'
 | .cont=>∃ σ' H',Inv X O9 σ' H' s'/\D.ct σ' H'
 | .ret u=>∃ v σ' H',Inv X O9 σ' H' s'/\RelV v u/\D.rt v H'
def PE (X:Cx) (e:Expr) (t:TE):Prop :=
 ∀ (O9:C9) (s:Shared) (σ:St) (H:Hp) (Q:VK),Inv X O9 σ H s->t σ H Q->wpAny (model X.prog X.w) X.A (eval e X.env) (EP X O9 σ Q) X.xe s
def PT (X:Cx) (e:Expr) (t:TT):Prop :=
 ∀ (O9:C9) (s:Shared) (σ:St) (H:Hp) (Q:Bool->Hp->Prop),Inv X O9 σ H s->t σ H Q->wpAny (model X.prog X.w) X.A (isTrue e X.env (eval e X.env)) (TP X O9 σ Q) X.xe s
def PW (X:Cx) (e:Expr) (t:TT):Prop :=
 ∀ (whole:Sem Value) (O9:C9) (s:Shared) (σ:St) (H:Hp) (Q:Bool->Hp->Prop),Inv X O9 σ H s->t σ H Q->wpAny (model X.prog X.w) X.A (isTrue e X.env whole) (TP X O9 σ Q) X.xe s
def PA (X:Cx) (es:List Expr) (t:TA):Prop :=
 ∀ (pos:Pos) (O9:C9) (s:Shared) (σ:St) (H:Hp) (Q:List V->Hp->Prop),Inv X O9 σ H s->t σ H Q->wpAny (model X.prog X.w) X.A (spliced (backTo pos (starEach es X.env))) (AP X O9 σ Q) X.xe s
def PS (X:Cx) (st:Stmt) (t:TS):Prop :=
 ∀ (O9:C9) (s:Shared) (σ:St) (H:Hp) (D:Ge),Inv X O9 σ H s->t D σ H->wpAny (model X.prog X.w) X.A (exec st X.env) (SP X O9 D) X.xe s
def PSs (X:Cx) (st:List Stmt) (t:TS):Prop :=
 ∀ (O9:C9) (s:Shared) (σ:St) (H:Hp) (D:Ge),Inv X O9 σ H s->t D σ H->wpAny (model X.prog X.w) X.A (execs st X.env) (SP X O9 D) X.xe s
def thn {α:Type} {t:Sem α} {Q Q':α->Shared->Prop} (h:wpAny M A t Q E s) (hQ:∀ a s,Q a s->Q' a s):wpAny M A t Q' E s:=wpAny_mono h hQ fun _ _ x=>x
section
variable {X:Cx}
theorem bin {ta tb:TE} (ha:PE X a ta) (hb:PE X b tb) {R:V->V->Hp->Prop} (I:Inv X O9 σ H s) (h:ta σ H fun x H1=>tb σ H1 fun y H2=>R x y H2)
  {α:Type} {Q:α->Shared->Prop} {f:Value->Value->Sem α}
  (hf:∀ v u s2 x y H2,Inv X O9 σ H2 s2->RelV x v->RelV y u->R x y H2->wpAny (model X.prog X.w) X.A (f v u) Q X.xe s2) :
  wpAny (model X.prog X.w) X.A (eval a X.env) (fun v s₁=>wpAny (model X.prog X.w) X.A (eval b X.env) (fun u s₂=>wpAny (model X.prog X.w) X.A (f v u) Q X.xe s₂) X.xe s₁) X.xe s:=by
 refine thn (ha O9 s σ H _ I h) fun v s1 ⟨x,H1,I1,r1,q1⟩=>?_
 refine thn (hb O9 s1 σ H1 _ I1 q1) fun u s2 ⟨y,H2,I2,r2,q2⟩=>?_
 exact hf v u s2 x y H2 I2 r1 r2 q2
def Qjq (i:Nat):TE:=fun σ H Q=>∃ v,σ[i]?=some (some v)/\Q v H
def tC (v:V):TE:=fun _ H Q=>Q v H
theorem Qg0 {i:Nat} {x:Str} {pos:Pos} (hN:X.N[i]?=some x) (hv:Vis X.env.scope x) (hd:(x==("__debug__" : Str))=false:=by decide) (hcd:(x==("__classdict__" : Str))=false:=by decide):PE X (.Name x pos) (Qjq i):=by
 intro O9 s σ H Q I h
 obtain ⟨v,e,h⟩:=h
 obtain ⟨m,hn,hl⟩:=I.loc
 obtain ⟨u,r,l⟩:=hl i x v hN e hv
 have fin:EP X O9 σ Q u s:=⟨v,H,I,r,h⟩
 rcases l with ⟨hk,hm⟩ | ⟨hk,c,hc,hcell⟩
 ·exact wpAny_Name (wpAny_loadName_local I.ok.kind hk hn hm fin) hd
 ·rcases hk with hk | hk
  ·exact wpAny_Name (wpAny_loadName_cell I.ok.kind hk hc hcell fin) hd
  ·exact wpAny_Name (wpAny_loadName_free I.ok.kind hk hc hcell fin hcd) hd
def QgU {i j pos}:PE X (.Constant (.int i) j pos) (tC (.int i)):=fun _ _ _ H _ I h=>wpAny_Constant_int ⟨.int i,H,I.tok _,⟨_,rfl⟩,h⟩
def Qiq {b j pos}:PE X (.Constant (.bool b) j pos) (tC (.bl b)):=fun _ _ _ H _ I h=>Constant_bool ⟨.bl b,H,I,rfl,h⟩
def QgV {j pos}:PE X (.Constant .none j pos) (tC .non):=fun _ _ _ H _ I h=>Constant_none ⟨.non,H,I,rfl,h⟩
def QgY {x j pos}:PE X (.Constant (.str x) j pos) (tC (.str x)):=fun _ _ _ H _ I h=>Calls.Constant_str ⟨.str x,H,I.tok _,⟨_,rfl⟩,h⟩
def Gl (X:Cx) (x:Str):Prop:=X.env.kindOf x=some .globalImplicit
theorem GK {E:C8} {x:Str} {pos:Pos} {Q:C8} (I:Inv X O9 σ H s) (hg:Gl X x) (hm:X.mg x=some u) (h:Q u s)
  (hd:(x==("__debug__" : Str))=false:=by decide):wpAny (model X.prog X.w) X.A (eval (.Name x pos) X.env) Q E s :=
 Calls.Name_function_global I.ok.kind hg (Calls.loadGlobal_global (by rw [I.ok.glob];exact I.mod.glob.keeps I.bk) hm h) hd
theorem yk {E:C8} {x:Str} {pos:Pos} {Q:C8} (I:Inv X O9 σ H s) (hg:Gl X x) (hm:X.mg x=none) (hv:bootBuiltins x=some u) (h:Q u s)
  (hn:x ≠ "__name__" := by decide) (hd:(x==("__debug__" : Str))=false:=by decide):wpAny (model X.prog X.w) X.A (eval (.Name x pos) X.env) Q E s:=by
 obtain ⟨mb,h1,h2⟩:=I.mod.blt
 exact Calls.Name_function_global I.ok.kind hg (Calls.loadGlobal_builtin (by rw [I.ok.glob];exact I.mod.glob.keeps I.bk) hm (by rw [I.ok.blt];exact h1.keeps I.bk) ((h2 x hn).trans hv) h) hd
theorem Qaz {x:Str} {pos:Pos} (hg:Gl X x) (hm:X.mg x=some u) (r:RelV v u) (hd:(x==("__debug__" : Str))=false:=by decide):PE X (.Name x pos) (tC v) :=
 fun _ _ _ H _ I h=>GK I hg hm ⟨v,H,I,r,h⟩ hd
theorem Qay {x:Str} {pos:Pos} (hg:Gl X x) (hm:X.mg x=none) (hv:bootBuiltins x=some u) (r:RelV v u) (hn:x ≠ "__name__" := by decide) (hd:(x==("__debug__" : Str))=false:=by decide):PE X (.Name x pos) (tC v) :=
 fun _ _ _ H _ I h=>yk I hg hm hv ⟨v,H,I,r,h⟩ hn hd
variable {a b:Expr} {ta tb:TE} {pos:Pos}
def PC (X:Cx) (op:CmpOp) (a b:Expr) (t:TE):Prop :=
  ∀ (O9 : List (Addr × Obj)) (s : Shared) (σ : St) (H : Hp) (Q : VK), Inv X O9 σ H s -> t σ H Q ->
    wpAny (model X.prog X.w) X.A (eval a X.env) (fun v s₁=>wpAny (model X.prog X.w) X.A (eval b X.env) (fun u s₂=>wpAny (model X.prog X.w) X.A (compareOp op v u) (EP X O9 σ Q) X.xe s₂) X.xe s₁) X.xe s
theorem Qda (b:Expr) {op:CmpOp} (h:op≠.In) (h2:op≠.NotIn):behindInMarks op b=false:=by
 have e1:(op==CmpOp.In)=false:=by cases op<;>first | rfl | exact absurd rfl h
 have e2:(op==CmpOp.NotIn)=false:=by cases op<;>first | rfl | exact absurd rfl h2
 cases b<;>simp [behindInMarks,e1,e2]
def tB (t:TE):TT:=fun σ H Q=>t σ H fun x H1=>∃ c,x=.bl c/\Q c H1
theorem Qja {op:CmpOp} (h:PC X op a b t) (h1:behindInMarks op b=false:=by first | exact Qda _ (by decide) (by decide) | rfl):PT X (.Compare a [op] [b] pos) (tB t):=by
 intro O9 s σ H Q I hw
 refine wpAny_isTrue_Compare1 (thn (h O9 s σ H _ I hw) fun v s1 h1=>thn h1 fun u s2 h2=>thn h2 fun c s3 ⟨x,H1,I1,r1,q1⟩=>?_) h1
 obtain ⟨d,rfl,q⟩:=q1
 cases r1
 exact wpAny_truthy_bool ⟨H1,I1,q⟩
theorem Qhi {e:Expr} (h:PE X e t) (he:∀ whole,isTrue e X.env whole=(do let v <- whole;standAt e.pos;holding [v] (truthy v)):=by intro _;rfl):PT X e (tB t):=by
 intro O9 s σ H Q I hw
 refine isTrue_plain (thn (h O9 s σ H _ I hw) fun v s1 ⟨x,H1,I1,r1,q1⟩=>?_) (he _)
 obtain ⟨d,rfl,q⟩:=q1
 cases r1
 exact wpAny_truthy_bool ⟨H1,I1,q⟩
variable {tA tB':TT} {rest:List Expr}
def Qji (t u:TT):TT:=fun σ H Q=>t σ H fun c H1=>if c=true then u σ H1 Q else Q false H1
def tOr (t u:TT):TT:=fun σ H Q=>t σ H fun c H1=>if c=true then Q true H1 else u σ H1 Q
def Qjn (t:TT):TT:=fun σ H Q=>t σ H fun c H1=>Q (!c) H1
theorem Qfj (ha:PT X a tA):PW X (.BoolOp .And [a] pos) tA:=by
 intro wh O9 s σ H Q I h
 refine isTrue_and (thn (ha O9 s σ H Q I h) fun c s1 e=>?_)
 cases c with
 | true=>exact isTrue_and_nil e
 | false=>exact e
theorem Qhl (ha:PT X a tA):PW X (.BoolOp .Or [a] pos) tA:=by
 intro wh O9 s σ H Q I h
 refine isTrue_or (thn (ha O9 s σ H Q I h) fun c s1 e=>?_)
 cases c with
 | false=>exact isTrue_or_nil e
 | true=>exact e
theorem Qhk (ha:PT X a tA) (hb:PW X (.BoolOp .And (b::rest) pos) tB'):PW X (.BoolOp .And (a::b::rest) pos) (Qji tA tB'):=by
 intro wh O9 s σ H Q I h
 refine isTrue_and (thn (ha O9 s σ H _ I h) fun c s1 ⟨H1,I1,q1⟩=>?_)
 cases c with
 | true=>exact hb wh O9 s1 σ H1 Q I1 q1
 | false=>exact ⟨H1,I1,q1⟩
theorem Qiw (ha:PT X a tA) (hb:PW X (.BoolOp .Or (b::rest) pos) tB'):PW X (.BoolOp .Or (a::b::rest) pos) (tOr tA tB'):=by
 intro wh O9 s σ H Q I h
 refine isTrue_or (thn (ha O9 s σ H _ I h) fun c s1 ⟨H1,I1,q1⟩=>?_)
 cases c with
 | true=>exact ⟨H1,I1,q1⟩
 | false=>exact hb wh O9 s1 σ H1 Q I1 q1
theorem Qhh (ha:PT X a tA):PT X (.UnaryOp .Not a pos) (Qjn tA):=by
 intro O9 s σ H Q I h
 exact isTrue_not (ha O9 s σ H (fun c H1=>Q (!c) H1) I h)
def QiG (ta tb:TE):TE:=fun σ H Q=>ta σ H fun x H1=>∃ c,x=.bl c/\if c=true then tb σ H1 Q else Q (.bl false) H1
def QiM (ta:TE):TE:=fun σ H Q=>ta σ H fun x H1=>∃ c,x=.bl c/\Q (.bl (!c)) H1
def QgX {op} (h:PE X a t):PE X (.BoolOp op [a] pos) t:=fun O9 s σ H Q I hw=>BoolOp_one (h O9 s σ H Q I hw)
theorem QgS (ha:PE X a ta) (hb:PE X (.BoolOp .And (b::rest) pos) tb):PE X (.BoolOp .And (a::b::rest) pos) (QiG ta tb):=by
 intro O9 s σ H Q I h
 refine BoolOp_and (thn (ha O9 s σ H _ I h) fun v s1 ⟨x,H1,I1,r1,q1⟩=>?_)
 obtain ⟨c,rfl,q1⟩:=q1
 cases r1
 refine wpAny_truthy_bool ?_
 cases c with
 | true=>exact hb O9 s1 σ H1 Q I1 q1
 | false=>exact ⟨.bl false,H1,I1,rfl,q1⟩
theorem QgW (ha:PE X a ta):PE X (.UnaryOp .Not a pos) (QiM ta):=by
 intro O9 s σ H Q I h
 refine UnaryOp_ (thn (ha O9 s σ H _ I h) fun v s1 ⟨x,H1,I1,r1,q1⟩=>?_)
 obtain ⟨c,rfl,q1⟩:=q1
 cases r1
 exact not_of (wpAny_truthy_bool ⟨.bl (!c),H1,I1,rfl,q1⟩)
def tIf (t:TT) (ta tb:TE):TE:=fun σ H Q=>t σ H fun c H1=>if c=true then ta σ H1 Q else tb σ H1 Q
theorem Qdj (hc:PT X c tA) (ha:PE X a ta) (hb:PE X b tb):PE X (.IfExp c a b pos) (tIf tA ta tb):=by
 intro O9 s σ H Q I h
 refine wpAny_IfExp (thn (hc O9 s σ H _ I h) fun d s1 ⟨H1,I1,q1⟩=>?_)
 cases d with
 | true=>exact ha O9 s1 σ H1 Q I1 q1
 | false=>exact hb O9 s1 σ H1 Q I1 q1
end
def SqL (K:Aa) (H:Hp) (a:Addr) (xs:List V):Prop :=
 Rd H a (.lst xs) ∨
  ∃ (o:Obj) (its:Array Value) (n:Nat),K.lookup a=some o/\o.cls=.type "list" /\ o.dict=none/\o.data=.seq its n/\its.size<=sizeLine/\Vals xs its.toList
def SqT (K:Aa) (H:Hp) (a:Addr) (xs:List V):Prop :=
 Rd H a (.tup xs) ∨
  ∃ (o:Obj) (its:Array Value) (n:Nat),K.lookup a=some o/\o.cls=.type "tuple" /\ o.data=.seq its n/\its.size<=sizeLine/\Vals xs its.toList
def QiZ:Value->Option V
 | .none=>some .non
 | .bool b=>some (.bl b)
 | .int i _=>some (.int i)
 | .str x _=>some (.str x)
 | .bytes b _=>some (.byt b)
 | .float b _=>some (.flt b)
 | .ref a=>some (.ref a)
 | .type n=>some (.ty n)
 | _=>none
theorem RelV.abs (r:RelV x u):QiZ u=some x:=by
 cases x with
 | non=>cases r;rfl
 | bl _=>cases r;rfl
 | int _=>obtain ⟨t,rfl⟩:=r;rfl
 | str _=>obtain ⟨t,rfl⟩:=r;rfl
 | byt _=>obtain ⟨t,rfl⟩:=r;rfl
 | flt _=>obtain ⟨t,rfl⟩:=r;rfl
 | ref _=>cases r;rfl
 | ty _=>cases r;rfl
def RelV.inj {x y:V} (r:RelV x u) (q:RelV y u):x=y:=Aj (r.abs.symm.trans q.abs)
theorem Vals.inj:∀ {xs ys:List V} {us:List Value},Vals xs us->Vals ys us->xs=ys
 | _,_,_,.nil,.nil=>rfl
 | _,_,_,.cons r t,.cons r' t'=>by rw [r.inj r',Vals.inj t t']
section
variable {X:Cx} {O9:C9} {σ:St} {H:Hp} {s:Shared} {a:Addr} {xs ys:List V}
def SqL.of {K:Aa} (h:H a=some (.lst xs)):SqL K H a xs:=.inl (.inl h)
def SqT.of {K:Aa} (h:H a=some (.tup xs)):SqT K H a xs:=.inl (.inl h)
theorem Inv.list (I:Inv X O9 σ H s) (h:SqL X.K H a xs):∃ its:List Value,Vals xs its/\PlainL s.heap a its.toArray/\xs.length<=sizeLine:=by
 rcases h with h | ⟨o,its,n,hk,hc,hd,hs,hz,r⟩
 ·obtain ⟨z,its,n,r,e⟩:=h.ok I.hok
  exact ⟨its,r,⟨_,n,e,rfl,rfl,rfl⟩,z⟩
 ·refine ⟨its.toList,r,⟨o,n,I.kIn a o hk,hc,hd,by simpa using hs⟩,?_⟩
  have e:=r.length
  simp only [Array.length_toList] at e
  lia
theorem Inv.tuple (I:Inv X O9 σ H s) (h:SqT X.K H a xs):∃ its:List Value,Vals xs its/\IsTup s.heap a its.toArray/\xs.length<=sizeLine:=by
 rcases h with h | ⟨o,its,n,hk,hc,hs,hz,r⟩
 ·obtain ⟨z,its,r,p⟩:=h.ok I.hok
  exact ⟨its,r,p,z⟩
 ·refine ⟨its.toList,r,⟨o,I.kIn a o hk,hc,n,by simpa using hs⟩,?_⟩
  have e:=r.length
  simp only [Array.length_toList] at e
  lia
theorem Inv.list_inj (I:Inv X O9 σ H s) (h:SqL X.K H a xs) (h':SqL X.K H a ys):xs=ys:=by
 obtain ⟨its,r,⟨o,n,e,_,_,d⟩,_⟩:=I.list h
 obtain ⟨its',r',⟨o',n',e',_,_,d'⟩,_⟩:=I.list h'
 rw [e] at e';cases e'
 rw [d] at d'
 injection d' with d1 _
 have:its=its':=by simpa using congrArg Array.toList d1
 subst this
 exact r.inj r'
theorem Inv.tuple_inj (I:Inv X O9 σ H s) (h:SqT X.K H a xs) (h':SqT X.K H a ys):xs=ys:=by
 obtain ⟨its,r,⟨o,e,_,n,d⟩,_⟩:=I.tuple h
 obtain ⟨its',r',⟨o',e',_,n',d'⟩,_⟩:=I.tuple h'
 rw [e] at e';cases e'
 rw [d] at d'
 injection d' with d1 _
 have:its=its':=by simpa using congrArg Array.toList d1
 subst this
 exact r.inj r'
end
abbrev Cx.wish (X:Cx) (E:C8):Cx:={ X with xe:=E }
abbrev Cx.nox (X:Cx):Cx:=X.wish fun _ _=>False
theorem Cx.Ok.wish {X:Cx} (ok:X.Ok) (E:C8):(X.wish E).Ok :=
 ⟨ok.mod,ok.kind,ok.glob,ok.blt,ok.above,ok.inj,ok.has,ok.cab,ok.hd,ok.frames,ok.stk,ok.exf,ok.bs,ok.bsz,ok.noex,ok.exfs,ok.funs,ok.frf⟩
theorem Cx.Ok.unwish {X:Cx} (ok:(X.wish E).Ok):X.Ok :=
 ⟨ok.mod,ok.kind,ok.glob,ok.blt,ok.above,ok.inj,ok.has,ok.cab,ok.hd,ok.frames,ok.stk,ok.exf,ok.bs,ok.bsz,ok.noex,ok.exfs,ok.funs,ok.frf⟩
section
variable {X:Cx} {O9:C9} {σ:St} {H:Hp} {s:Shared} {E:C8}
def Inv.wish (I:Inv X O9 σ H s) (E:C8):Inv (X.wish E) O9 σ H s:=⟨I.ok.wish E,I.os,I.bare,I.O8,I.loc,I.cell,I.free,I.freeC,I.pin,I.hok,I.len⟩
def Inv.unwish (I:Inv (X.wish E) O9 σ H s):Inv X O9 σ H s:=⟨I.ok.unwish,I.os,I.bare,I.O8,I.loc,I.cell,I.free,I.freeC,I.pin,I.hok,I.len⟩
theorem SP.unwish {D:Ge} {f:Flow} (h:SP (X.wish E) O9 D f s'):SP X O9 D f s':=by
 cases f with
 | next=>obtain ⟨σ',H',I,q⟩:=h;exact ⟨σ',H',I.unwish,q⟩
 | brk=>obtain ⟨σ',H',I,q⟩:=h;exact ⟨σ',H',I.unwish,q⟩
 | cont=>obtain ⟨σ',H',I,q⟩:=h;exact ⟨σ',H',I.unwish,q⟩
 | ret u=>obtain ⟨v,σ',H',I,r,q⟩:=h;exact ⟨v,σ',H',I.unwish,r,q⟩
theorem PSs.nox {st:List Stmt} (h:PSs X.nox st t):PSs X st t:=fun O9 s σ H D I hw =>
 wpAny_mono (h O9 s σ H D (I.wish _) hw) (fun _ _ q=>q.unwish) fun _ _ z=>False.elim z
end
section
variable {X:Cx} {st:Stmt} {rest:List Stmt} {t u:TS} {e:Expr} {te:TE} {pos:Pos}
def QiK:TS:=fun D σ H=>D.nx σ H
def QiO (t u:TS):TS:=fun D σ H=>t { D with nx:=u D } σ H
def pss_nil:PSs X [] QiK:=fun _ _ σ H _ I h=>wpAny_execs_nil ⟨σ,H,I,h⟩
theorem Qdv (h1:PS X st t) (h2:PSs X rest u):PSs X (st::rest) (QiO t u):=by
  intro O9 s σ H D I h
  refine wpAny_execs_cons (thn (h1 O9 s σ H { D with nx:=u D } I h) fun f s1 q=>?_)
  cases f with
  | next =>
    obtain ⟨σ',H',I',q⟩:=q
    exact h2 O9 s1 σ' H' D I' q
  | ret v=>exact q
  | brk=>exact q
  | cont=>exact q
theorem Qfe (h1:PS X st t):PSs X [st] t:=by
 intro O9 s σ H D I h
 refine wpAny_execs_cons (thn (h1 O9 s σ H D I h) fun f s1 q=>?_)
 cases f with
 | next=>exact wpAny_execs_nil q
 | ret v=>exact q
 | brk=>exact q
 | cont=>exact q
theorem Inv.quiet (I:Inv X O9 σ H s):interactive X.env=false:=by simp [interactive,I.ok.kind]
def QiJ (te:TE):TS:=fun D σ H=>te σ H fun _ H1=>D.nx σ H1
theorem Qfd (he:PE X e te) (hs:swapsWith e none pos.line X.env=pure false:=by rfl):PS X (.Expr e pos) (QiJ te):=by
 intro O9 s σ H D I h
 exact wpAny_Expr_any (thn (he O9 s σ H _ I h) fun v s1 ⟨x,H1,I1,r1,q1⟩=>⟨σ,H1,I1,q1⟩) I.quiet hs
def Qjo (te:TE):TS:=fun D σ H=>te σ H D.rt
theorem Qhf (he:PE X e te):PS X (.Return (some e) pos) (Qjo te):=by
 intro O9 s σ H D I h
 exact wpAny_Return_some (thn (he O9 s σ H _ I h) fun v s1 ⟨x,H1,I1,r1,q1⟩=>⟨x,σ,H1,I1,r1,q1⟩)
def Qjl (c:TT) (t u:TS):TS:=fun D σ H=>c σ H fun b H1=>if b=true then t D σ H1 else u D σ H1
theorem Qiu {a b:List Stmt} {tc:TT} (hc:PT X c tc) (ha:PSs X a t) (hb:PSs X b u):PS X (.If c a b pos) (Qjl tc t u):=by
 intro O9 s σ H D I h
 refine wpAny_If (thn (hc O9 s σ H _ I h) fun d s1 ⟨H1,I1,q1⟩=>?_)
 cases d with
 | true=>exact ha O9 s1 σ H1 D I1 q1
 | false=>exact hb O9 s1 σ H1 D I1 q1
def Qht:TS:=fun _ _ _=>False
def Qdt:PS X st Qht:=fun _ _ _ _ _ _ h=>h.elim
end
abbrev TG:=V->St->Hp->(St->Hp->Prop)->Prop
abbrev TGs:=List V->St->Hp->(St->Hp->Prop)->Prop
def PG (X:Cx) (target:Expr) (t:TG):Prop :=
  ∀ (O9 : List (Addr × Obj)) (s : Shared) (σ : St) (H : Hp) (v : V) (u : Value) (Q : St -> Hp -> Prop), Inv X O9 σ H s -> RelV v u -> t v σ H Q ->
    wpAny (model X.prog X.w) X.A (assign target X.env u) (fun _ s'=>∃ σ' H',Inv X O9 σ' H' s'/\Q σ' H') X.xe s
def PGs (X:Cx) (ts:List Expr) (t:TGs):Prop :=
  ∀ (O9 : List (Addr × Obj)) (s : Shared) (σ : St) (H : Hp) (vs : List V) (us : List Value) (Q : St -> Hp -> Prop), Inv X O9 σ H s -> Vals vs us -> t vs σ H Q ->
    wpAny (model X.prog X.w) X.A (assignInOrder ((assignEach ts X.env).map (·.2)) us) (fun _ s'=>∃ σ' H',Inv X O9 σ' H' s'/\Q σ' H') X.xe s
abbrev Qed:=V->V->V->Hp->(Hp->Prop)->Prop
def Qec (X:Cx) (t:Qed):Prop :=
  ∀ (O9 : List (Addr × Obj)) (s : Shared) (σ : St) (H : Hp) (o i v : V) (ov iv u : Value) (Q : Hp -> Prop), Inv X O9 σ H s -> RelV o ov -> RelV i iv -> RelV v u -> t o i v H Q ->
    wpAny (model X.prog X.w) X.A (setItem ov iv u) (fun _ s'=>∃ H',Inv X O9 σ H' s'/\Q H') X.xe s
section
variable {X:Cx} {pos:Pos}
def Qaf (i:Nat):TG:=fun v σ H Q=>Q (σ.set i (some v)) H
theorem GQ {i:Nat} {x:Str} (hN:X.N.Nodup) (hi:X.N[i]?=some x) (hx:Loc X.env.scope x) (hf:X.fn x=true∨X.env.scope.names.lookup x=some .local:=by first | exact .inl rfl | exact .inr rfl | assumption):PG X (.Name x pos) (Qaf i):=by
 intro O9 s σ H v u Q I r h
 exact wpAny_assign_Name (uB I hN hi hx r (fun s' I'=>⟨_,H,I',h⟩) hf)
def Qi2:TGs:=fun vs σ H Q=>vs=[]/\Q σ H
def Qh5 (t:TG) (u:TGs):TGs:=fun vs σ H Q=>∃ v r,vs=v::r/\t v σ H fun σ' H'=>u r σ' H' Q
theorem Qe1:PGs X [] Qi2:=by
 intro O9 s σ H vs us Q I r h
 obtain ⟨e,h⟩:=h
 subst e
 cases r
 exact assignInOrder_nil ⟨σ,H,I,h⟩
theorem Qdq {es:List Expr} {u:TGs} (h1:PG X e t) (h2:PGs X es u)
    (hs:(assignEach (e::es) X.env).map (·.2)=assign e X.env::(assignEach es X.env).map (·.2):=by rfl):PGs X (e::es) (Qh5 t u):=by
  intro O9 s σ H vs us Q I r h
  obtain ⟨v,vr,e1,h⟩:=h
  subst e1
  cases r with
  | cons r rr =>
    rw [hs]
    refine assignInOrder_cons (thn (h1 O9 s σ H _ _ _ I r h) fun _ s1 ⟨σ1,H1,I1,q1⟩=>?_)
    exact h2 O9 s1 σ1 H1 _ _ Q I1 rr q1
def Qi4 (K:Aa) (n:Nat) (t:TGs):TG:=fun v σ H Q=>∃ a xs,v=.ref a/\SqT K H a xs/\xs.length=n/\t xs σ H Q
theorem Qg6 {es:List Expr} {k:Nat} {t:TGs} {n:Nat} (hc:X.calm=true) (h:PGs X es t)
  (hn:(assignEach es X.env).length=n:=by rfl) (hst:(assignEach es X.env).findIdx? (·.1)=none:=by rfl):PG X (.Tuple es k pos) (Qi4 X.K n t):=by
 intro O9 s σ H v u Q I r hw
 obtain ⟨a,xs,e1,hq,hl,hw⟩:=hw
 subst e1
 cases r
 obtain ⟨its,rv,ht,hz⟩:=I.tuple hq
 refine assign_Tuple_tuple (I.ok.hd hc) ht (by simp [hn,<- hl,rv.length]) hst fun h' hx=>?_
 have I1:Inv X O9 σ H { s with heap:=h' }:=I.kept (t':=s.toks) fun b o e=>hx b o (Be (Ao e)) e
 exact h O9 _ σ H xs _ Q I1 (by simpa using rv) hw
def Qi3 (to ti:TE) (t:Qed):TG:=fun v σ H Q=>to σ H fun o H1=>ti σ H1 fun i H2=>t o i v H2 fun H3=>Q σ H3
theorem Qg5 {t:Qed} (ho:PE X o to) (hi:PE X i ti) (hs:Qec X t)
  (ha:∀ v,assign (.Subscript o i pos) X.env v=(do
   let ov <- holding [v] (eval o X.env)
   let iv <- holding [v,ov] (eval i X.env)
   standAt pos
   holding [v,ov,iv] (setItem ov iv v)
   release [v,ov,iv] []):=by intro _;rfl):PG X (.Subscript o i pos) (Qi3 to ti t):=by
 intro O9 s σ H v u Q I r h
 rw [ha]
 refine Cy (wpAny_holding (thn (ho O9 s σ H _ I h) fun ov s1 ⟨x,H1,I1,r1,q1⟩=>?_))
 refine Cy (wpAny_holding (thn (hi O9 s1 σ H1 _ I1 q1) fun iv s2 ⟨y,H2,I2,r2,q2⟩=>?_))
 refine Cy (wpAny_standAt (Cy (wpAny_holding (thn (hs O9 s2 σ H2 x y v ov iv u _ I2 r1 r2 r q2) fun _ s3 ⟨H3,I3,q3⟩=>?_))))
 exact wpAny_release ⟨σ,H3,I3,q3⟩
def Qfy (te:TE) (g:TG):TS:=fun D σ H=>te σ H fun x H1=>g x σ H1 D.nx
theorem Qhc (he:PE X e te) (hg:PG X tg g) (hs:swapsWithSole [tg] e pos.line X.env=pure false:=by rfl) (hw:swappedStores [tg] e X.env=pure none:=by rfl)
  (h1:(assignEach [tg] X.env).map (·.2)=[assign tg X.env]:=by rfl):PS X (.Assign [tg] e pos) (Qfy te g):=by
 intro O9 s σ H D I h
 refine wpAny_Assign_stores (thn (he O9 s σ H _ I h) fun v s1 ⟨x,H1,I1,r1,q1⟩=>?_) hs hw
 rw [h1]
 exact thn (hg O9 s1 σ H1 x v _ I1 r1 q1) fun _ s2 q=>q
theorem Qhg {i:Nat} {x:Str} (hN:X.N.Nodup) (hi:X.N[i]?=some x) (hx:Loc X.env.scope x) (he:PE X e te) (hs:swapsWith e (some (.Name x pos')) pos.line X.env=pure false:=by rfl) (hf:X.fn x=true∨X.env.scope.names.lookup x=some .local:=by first | exact .inl rfl | exact .inr rfl | assumption):
  PS X (.Assign [.Name x pos'] e pos) (Qfy te (Qaf i)):=by
 intro O9 s σ H D I h
 refine wpAny_Assign_Name (thn (he O9 s σ H _ I h) fun v s1 ⟨y,H1,I1,r1,q1⟩=>?_) hs
 exact uB I1 hN hi hx r1 (fun s2 I2=>⟨_,H1,I2,q1⟩) hf
end
section
variable {X:Cx} {pos:Pos}
def Qhu (c:TT) (tb:TS):TS:=fun D σ H=>∃ W:Nat->St->Hp->Prop,(∃ m,W m σ H)/\∀ m σ H,W m σ H ->
 c σ H fun b H1=>if b=true then ∃ N:St->Hp->Prop,(∀ σ' H',N σ' H'->∃ m',m' < m/\W m' σ' H')/\tb { D with nx:=N,ct:=N,bk:=D.nx } σ H1 else D.nx σ H1
theorem Qdu {body:List Stmt} {tc:TT} (hp:PassesOwn (model X.prog X.w) X.A X.env X.xe) (hc:PT X c tc) (hb:PSs X body tb):PS X (.While c body [] pos) (Qhu tc tb):=by
  intro O9 s σ H D I h
  obtain ⟨W,⟨m0,w0⟩,turn⟩:=h
  refine wpAny_While (codeAny_whileLoop (fun n s'=>∃ σ' H',Inv X O9 σ' H' s'/\W n σ' H') ?_ m0 ⟨σ,H,I,w0⟩)
  rintro n s1 ⟨σ1,H1,I1,w1⟩
  refine wpAny_passesOwn hp (thn (hc O9 s1 σ1 H1 _ I1 (turn n σ1 H1 w1)) fun b s2 ⟨H2,I2,q2⟩=>?_)
  cases b with
  | true =>
    obtain ⟨N,hN,q2⟩:=q2
    rw [C0 rfl]
    refine wpAny_passesOwn hp (thn (hb O9 s2 σ1 H2 _ I2 q2) fun f s3 q3=>?_)
    cases f with
    | next =>
      obtain ⟨σ3,H3,I3,n3⟩:=q3
      obtain ⟨m',hm,w3⟩:=hN σ3 H3 n3
      exact ⟨m',hm,σ3,H3,I3,w3⟩
    | cont =>
      obtain ⟨σ3,H3,I3,n3⟩:=q3
      obtain ⟨m',hm,w3⟩:=hN σ3 H3 n3
      exact ⟨m',hm,σ3,H3,I3,w3⟩
    | brk=>exact q3
    | ret v=>exact q3
  | false =>
    rw [Cz Bx]
    exact wpAny_execs_nil ⟨σ1,H2,I2,q2⟩
end
structure It where
 go:Nat->Hp->Prop
 yld:Nat->Hp->V->Hp->Prop
 stop:Nat->Hp->Prop
def UR (X:Cx) (O9:C9) (H:Hp) (b:Addr):Prop :=
 H b=none/\b≠X.env.locals/\b∉X.fs/\(b∈X.ex∨X.s₀.heap.objs.size<=b)/\(∀ x c,X.env.cells.lookup x=some c->c≠b)/\∀ p∈X.pn++O9,p.1≠b
theorem Inv.fpOk {H H':Hp} {s:Shared} {b:Addr} (I:Inv X O9 σ H s) (hb:s.heap.objs.size<=b) (hn:H' b=none):UR X O9 H' b:=by
 refine ⟨hn,Cu (Ay I.lt hb),I.nofs hb,.inr (Bi I.sz hb),fun x c e z=>?_,fun p hp z=>?_⟩
 ·obtain ⟨v,q⟩:=I.cell x c e
  exact absurd (Ay q.lt (by rw [z];exact hb)) (Cm _)
 ·exact absurd (Ay (Ao (I.pin p hp).1) (by rw [z];exact hb)) (Cm _)
structure QaX (P:Program) (w:World) (K:Aa) (tg:Expr) (J:It) (fp:Ee) (it:Addr) (tn:Nat->Heap->Prop):Prop where
 mem:it∈fp
 obj:∀ i h,tn i h->∀ b∈fp,∃ o,h.get? b=some o/\∀ v,o.data≠.cell v
 keep:∀ i h h',tn i h->(∀ b∈fp,∀ o,h.get? b=some o->h'.get? b=some o)->tn i h'
 item:∀ (X:Cx),X.prog=P->X.w=w->X.K=K->X.calm=true->∀ (i:Nat) (O9:C9) (s:Shared) (σ:St) (H:Hp) (E:C8),Inv X O9 σ H s->(∀ b∈fp,UR X O9 H b)->tn i s.heap->J.go i H ->
  wpAny (model P w) X.A (pyNext (.ref it)) (fun r s1=>∃ u,r=some u /\
   wpAny (model P w) X.A (letOwnedTupleGo tg (.ref it) u) (fun _ s2=>∃ x H',Inv X O9 σ H' s2/\RelV x u/\J.yld i H x H'/\tn (i+1) s2.heap/\∀ b∈fp,H' b=none) E s1) E s
 done:∀ (X:Cx),X.prog=P->X.w=w->X.K=K->X.calm=true->∀ (i:Nat) (O9:C9) (s:Shared) (σ:St) (H:Hp) (E:C8),Inv X O9 σ H s->(∀ b∈fp,UR X O9 H b)->tn i s.heap->J.stop i H ->
  wpAny (model P w) X.A (pyNext (.ref it)) (fun r s1=>r=none/\Inv X O9 σ H s1) E s
 self:∀ (A:Around) (i:Nat) (s:Shared) (Q:C8) (E:C8),tn i s.heap->Q (.ref it) s->wpAny (model P w) A (pyIter (.ref it)) Q E s
abbrev TI:=St->Hp->(It->Hp->Prop)->Prop
def PIE (X:Cx) (O9:C9) (σ:St) (tg:Expr) (R:It->Hp->Prop) (itv:Value) (s2:Shared):Prop :=
 ∃ (it:Addr) (fp:Ee) (tn:Nat->Heap->Prop) (J:It) (H':Hp),itv=.ref it/\Inv X O9 σ H' s2/\QaX X.prog X.w X.K tg J fp it tn/\tn 0 s2.heap/\(∀ b∈fp,UR X O9 H' b)/\R J H'
def PI (X:Cx) (tg iter:Expr) (wi:TI):Prop :=
  ∀ (O9 : List (Addr × Obj)) (s : Shared) (σ : St) (H : Hp) (R : It -> Hp -> Prop), Inv X O9 σ H s -> wi σ H R ->
    wpAny (model X.prog X.w) X.A (eval iter X.env) (fun v s1=>wpAny (model X.prog X.w) X.A (pyIter v) (PIE X O9 σ tg R) X.xe s1) X.xe s
theorem QcE {M:Model} {A:Around} {E:C8} {s:Shared} {tg:Expr} {it:Addr} {u:Value} {o:Obj} {n:String} {vs:Array Value} {Q:Unit->Shared->Prop} (ho:s.heap.get? it=some o) (hc:o.cls=.type n) (hd:o.data=.fields vs)
    (hn:["enumerate", "zip", "dict_itemiterator", "dict_reverseitemiterator", "odict_iterator", "itertools.zip_longest", "itertools.pairwise"].contains n=false) (hQ:Q () s):wpAny M A (letOwnedTupleGo tg (.ref it) u) Q E s:=by
  unfold letOwnedTupleGo
  cases tg<;>first
    | exact C1 hQ
    | (cases u<;>first
        | exact C1 hQ
        | (refine Cy (wpAny_load ho ?_)
           rw [hc,hd]
           show wpAny M A (if (["enumerate", "zip", "dict_itemiterator", "dict_reverseitemiterator", "odict_iterator", "itertools.zip_longest", "itertools.pairwise"].contains n&&vs[0]?==some (rawInt _))=true then _ else _) Q E s
           rw [Cz (by intro h;rw [hn,Bool.false_and] at h;cases h)]
           exact C1 hQ))
def Itl (K:Aa) (a:Addr):It :=
 ⟨fun i H=>∃ xs x,SqL K H a xs/\xs[i]?=some x,fun i H x H'=>H'=H/\∀ xs,SqL K H a xs->xs[i]?=some x,fun i H=>∃ xs,SqL K H a xs/\xs.length<=i⟩
def Itt (K:Aa) (a:Addr):It :=
 ⟨fun i H=>∃ xs x,SqT K H a xs/\xs[i]?=some x,fun i H x H'=>H'=H/\∀ xs,SqT K H a xs->xs[i]?=some x,fun i H=>∃ xs,SqT K H a xs/\xs.length<=i⟩
def Itr (lo:Int) (n:Nat):It:=⟨fun i _=>i < n,fun i H x H'=>H'=H/\x=.int (lo+i),fun i _=>n<=i⟩
theorem QbS {w:World} {K:Aa} (a it:Addr):QaX P w K tg (Itl K a) [it] it (fun i h=>h.IsListIter it a i) where
 mem:=by simp
 obj:=fun i h st b hb=>by
  have e:b=it:=by simpa using hb
  subst e
  obtain ⟨o,e,c,d⟩:=st
  exact ⟨o,e,fun v z=>by rw [d] at z;cases z⟩
 keep:=fun i h h' st k=>st.at fun o e=>k it (by simp) o e
 item:=by
  intro X hP hw hK hc i O9 s σ H E I hf st hg
  subst hP hw hK
  obtain ⟨xs,x,hq,hx⟩:=hg
  obtain ⟨its,rv,p,hz⟩:=I.list hq
  obtain ⟨u,hu,ru⟩:=rv.get hx
  obtain ⟨f0,f1,f2,f3,f4,f5⟩:=hf it (by simp)
  refine wpAny_pyNext_list_item st p.isList (x:=u) (by simpa using hu) fun h' st' sb=>?_
  have I1:Inv X O9 σ H { s with heap:=h' }:=I.turned (t':=s.toks) (fun b o hb e=>(sb.2 b hb).trans e) f0 f1 f3 f4 f5
  obtain ⟨o,e,c,d⟩:=id st'
  exact ⟨u,rfl,QcE (s:={ s with heap:=h' }) e c d (by decide) ⟨x,H,I1,ru,⟨rfl,fun ys hy=>by rw [I.list_inj hy hq];exact hx⟩,st',fun b hb=>(hf b hb).1⟩⟩
 done:=by
  intro X hP hw hK hc i O9 s σ H E I hf st hg
  subst hP hw hK
  obtain ⟨xs,hq,hx⟩:=hg
  obtain ⟨its,rv,p,hz⟩:=I.list hq
  obtain ⟨f0,f1,f2,f3,f4,f5⟩:=hf it (by simp)
  have hl:=rv.length
  exact wpAny_pyNext_list_end (I.ok.hd hc) st p.isList (by simp;lia) fun h' eb=>⟨rfl,I.turned (t':=s.toks) (fun b o hb e=>eb b o hb e) f0 f1 f3 f4 f5⟩
 self:=fun _ _ _ _ _ st h=>wpAny_pyIter_listiter st h
theorem kz {w:World} {K:Aa} (a it:Addr):QaX P w K tg (Itt K a) [it] it (fun i h=>h.IsTupleIter it a i) where
 mem:=by simp
 obj:=fun i h st b hb=>by
  have e:b=it:=by simpa using hb
  subst e
  obtain ⟨o,e,c,d⟩:=st
  exact ⟨o,e,fun v z=>by rw [d] at z;cases z⟩
 keep:=fun i h h' st k=>st.at fun o e=>k it (by simp) o e
 item:=by
  intro X hP hw hK hc i O9 s σ H E I hf st hg
  subst hP hw hK
  obtain ⟨xs,x,hq,hx⟩:=hg
  obtain ⟨its,rv,p,hz⟩:=I.tuple hq
  obtain ⟨u,hu,ru⟩:=rv.get hx
  obtain ⟨f0,f1,f2,f3,f4,f5⟩:=hf it (by simp)
  refine wpAny_pyNext_tuple_item st (show s.heap.IsTuple a its.toArray from p) (x:=u) (by simpa using hu) fun h' st' sb=>?_
  have I1:Inv X O9 σ H { s with heap:=h' }:=I.turned (t':=s.toks) (fun b o hb e=>(sb.2 b hb).trans e) f0 f1 f3 f4 f5
  obtain ⟨o,e,c,d⟩:=id st'
  exact ⟨u,rfl,QcE (s:={ s with heap:=h' }) e c d (by decide) ⟨x,H,I1,ru,⟨rfl,fun ys hy=>by rw [I.tuple_inj hy hq];exact hx⟩,st',fun b hb=>(hf b hb).1⟩⟩
 done:=by
  intro X hP hw hK hc i O9 s σ H E I hf st hg
  subst hP hw hK
  obtain ⟨xs,hq,hx⟩:=hg
  obtain ⟨its,rv,p,hz⟩:=I.tuple hq
  obtain ⟨f0,f1,f2,f3,f4,f5⟩:=hf it (by simp)
  have hl:=rv.length
  exact wpAny_pyNext_tuple_end (I.ok.hd hc) st (show s.heap.IsTuple a its.toArray from p) (by simp;lia) fun h' eb=>⟨rfl,I.turned (t':=s.toks) (fun b o hb e=>eb b o hb e) f0 f1 f3 f4 f5⟩
 self:=fun _ _ _ _ _ st h=>wpAny_pyIter_tupleiter st h
theorem ku {w:World} {K:Aa} (it:Addr) (lo:Int) (n:Nat):QaX P w K tg (Itr lo n) [it] it (fun i h=>IsRangeIter h it (lo+(i:Nat) * 1) ((n:Int) - (i:Nat)) 1) where
 mem:=by simp
 obj:=fun i h st b hb=>by
  have e:b=it:=by simpa using hb
  subst e
  exact ⟨_,st,fun v z=>by
   have z':Data.fields _=Data.cell v:=z
   cases z'⟩
 keep:=fun i h h' st k=>k it (by simp) _ st
 item:=by
  intro X hP hw hK hc i O9 s σ H E I hf st hg
  subst hP hw hK
  obtain ⟨f0,f1,f2,f3,f4,f5⟩:=hf it (by simp)
  have W:=Walks.range (prog:=X.prog) (w:=X.w) (I.ok.hd hc) it lo 1 n
  refine W.item i s _ _ hg st fun v h' tk hv st' kk=>?_
  obtain ⟨t,rfl⟩:=hv
  have I1:Inv X O9 σ H { s with heap:=h',toks:=tk }:=I.turned (fun b o hb e=>kk b o (by simpa using hb) e) f0 f1 f3 f4 f5
  refine ⟨_,rfl,QcE (s:={ s with heap:=h',toks:=tk }) (n := "range_iterator") st' rfl rfl (by decide) ⟨.int (lo+i),H,I1,⟨t,?_⟩,⟨rfl,rfl⟩,st',fun b hb=>(hf b hb).1⟩⟩
  rw [Int.mul_one]
 done:=by
  intro X hP hw hK hc i O9 s σ H E I hf st hg
  subst hP hw hK
  obtain ⟨f0,f1,f2,f3,f4,f5⟩:=hf it (by simp)
  exact wpAny_pyNext_range_end (I.ok.hd hc) st (by have:n<=i:=hg;lia) fun h' eb=>⟨rfl,I.turned (t':=s.toks) (fun b o hb e=>eb b o hb e) f0 f1 f3 f4 f5⟩
 self:=fun _ _ _ _ _ st h=>wpAny_pyIter_rangeiter st h
section
variable {X:Cx} {tg:Expr}
def Qh6 (K:Aa) (tl:TE):TI:=fun σ H R=>tl σ H fun x H1=>∃ a,x=.ref a/\(∃ xs,SqL K H1 a xs)/\R (Itl K a) H1
def Qi5 (K:Aa) (tl:TE):TI:=fun σ H R=>tl σ H fun x H1=>∃ a,x=.ref a/\(∃ xs,SqT K H1 a xs)/\R (Itt K a) H1
theorem Qe4 (hl:PE X l tl):PI X tg l (Qh6 X.K tl):=by
 intro O9 s σ H R I h
 refine thn (hl O9 s σ H _ I h) fun v s1 ⟨x,H1,I1,r1,q1⟩=>?_
 obtain ⟨a,e,⟨xs,hq⟩,q⟩:=q1
 subst e
 cases r1
 obtain ⟨its,rv,p,hz⟩:=I1.list hq
 refine wpAny_pyIter_list p.isList ?_
 refine ⟨s1.heap.objs.size,[s1.heap.objs.size],_,_,H1,rfl,I1.kept (t':=s1.toks) fun b o e=>Ad _ e,QbS a _,⟨_,Au _ rfl,rfl,rfl⟩,fun b hb=>?_,q⟩
 have e:b=s1.heap.objs.size:=by simpa using hb
 subst e
 exact I1.fpOk (Ae _) (I1.hok.fresh (Ae _))
theorem Qg7 (hl:PE X l tl):PI X tg l (Qi5 X.K tl):=by
 intro O9 s σ H R I h
 refine thn (hl O9 s σ H _ I h) fun v s1 ⟨x,H1,I1,r1,q1⟩=>?_
 obtain ⟨a,e,⟨xs,hq⟩,q⟩:=q1
 subst e
 cases r1
 obtain ⟨its,rv,p,hz⟩:=I1.tuple hq
 refine wpAny_pyIter_tuple (show s1.heap.IsTuple a its.toArray from p) ?_
 refine ⟨s1.heap.objs.size,[s1.heap.objs.size],_,_,H1,rfl,I1.kept (t':=s1.toks) fun b o e=>Ad _ e,kz a _,⟨_,Au _ rfl,rfl,rfl⟩,fun b hb=>?_,q⟩
 have e:b=s1.heap.objs.size:=by simpa using hb
 subst e
 exact I1.fpOk (Ae _) (I1.hok.fresh (Ae _))
theorem QdA {R:It->Hp->Prop} {E:C8} {lo hi:Int} {t u v:Tok} {tk:Nat} (I:Inv X O9 σ H s) (h1:-(2 ^ 62)<=lo) (h2:lo < 2 ^ 62) (h3:-(2 ^ 62)<=hi) (h4:hi < 2 ^ 62)
  (q:R (Itr lo (hi - lo).toNat) H):wpAny (model X.prog X.w) X.A (pyIter (.ref s.heap.objs.size)) (PIE X O9 σ tg R) E { s with heap:=s.heap.push { cls:=.type "range", data:=.fields #[.int lo t,.int hi u,.int 1 v] },toks:=tk }:=by
 refine wpAny_pyIter_range (IsRange.new ..) (small_one h1 h2 h3 h4) ?_
 have I1:Inv X O9 σ H { s with heap:=s.heap.push { cls:=.type "range", data:=.fields #[.int lo t,.int hi u,.int 1 v] },toks:=tk }:=I.kept fun b o e=>Ad _ e
 refine ⟨(s.heap.push { cls:=.type "range", data:=.fields #[.int lo t,.int hi u,.int 1 v] }).objs.size,[(s.heap.push { cls:=.type "range", data:=.fields #[.int lo t,.int hi u,.int 1 v] }).objs.size],_,_,H,rfl,
  I1.kept (t':=tk) fun b o e=>Ad _ e,ku _ lo (hi - lo).toNat,?_,fun b hb=>?_,q⟩
 ·have e1:lo+((0:Nat):Int) * 1=lo:=by simp
  have e2:(((hi - lo).toNat:Nat):Int) - ((0:Nat):Int)=Builtin.Range.rangeSize lo hi 1:=by rw [rangeSize_one];split<;>lia
  show IsRangeIter _ _ (lo+((0:Nat):Int) * 1) ((((hi - lo).toNat:Nat):Int) - ((0:Nat):Int)) 1
  rw [e1,e2]
  exact Au _ rfl
 ·have e:b=(s.heap.push { cls:=.type "range", data:=.fields #[.int lo t,.int hi u,.int 1 v] }).objs.size:=by simpa using hb
  subst e
  exact I1.fpOk (Ae _) (I1.hok.fresh (Ae _))
def Qh7 (ta:TA):TI:=fun σ H R=>ta σ H fun vs H1=>∃ j:Int,vs=[.int j] /\ -(2 ^ 62)<=j/\j < 2 ^ 62/\R (Itr 0 j.toNat) H1
theorem QbG {p pos:Pos} (hg:Gl X "range") (hm:X.mg "range" = none) (ha:PA X [a] ta) (hs:starEach [a] X.env=[(false,eval a X.env)]:=by rfl):PI X tg (.Call (.Name "range" p) [a] [] pos) (Qh7 ta):=by
  intro O9 s σ H R I h
  refine Call_ (yk I hg hm boot_range (PyProof.Rows.callWith_type1 (thn (ha pos O9 s σ H _ I h) fun us s1 ⟨vs,H1,I1,r1,q1⟩=>?_) hs rfl))
  obtain ⟨j,e,q1,q2,q⟩:=q1
  subst e
  cases r1 with
  | cons r rr =>
    cases rr
    obtain ⟨t,rfl⟩:=r
    exact call_range_1 (QdA I1 (by lia) (by lia) q1 q2 (by simpa using q))
def Qjk (wi:TI) (g:TG) (tb:TS):TS:=fun D σ H=>wi σ H fun J H1=>∃ W:Nat->Nat->St->Hp->Prop,(∃ m,W 0 m σ H1)/\∀ i m σ H,W i m σ H ->
 (J.stop i H/\D.nx σ H)∨(J.go i H/\∃ N:St->Hp->Prop,(∀ σ' H',N σ' H'->∃ m',m' < m/\W (i+1) m' σ' H')/\∀ x H',J.yld i H x H'->g x σ H' fun σ2 H2=>tb { D with nx:=N,ct:=N,bk:=D.nx } σ2 H2)
def V6 (fp:Ee) (h:Heap):List (Addr×Obj):=fp.filterMap fun b=>(h.get? b).map fun o=>(b,o)
theorem qO {h:Heap} {b:Addr} (hb:b∈fp) (e:h.get? b=some o):(b,o)∈V6 fp h:=List.mem_filterMap.mpr ⟨b,hb,by rw [e];rfl⟩
theorem Qbx {fp:Ee} {h:Heap} {p:Addr×Obj} (hp:p∈V6 fp h):p.1∈fp/\h.get? p.1=some p.2:=by
  obtain ⟨b,hb,e⟩:=List.mem_filterMap.mp hp
  cases q:h.get? b with
  | none=>rw [q] at e;cases e
  | some o =>
    rw [q] at e
    have e':(b,o)=p:=Aj e
    subst e'
    exact ⟨hb,q⟩
theorem Inv.pinned {O9:C9} {s:Shared} (I:Inv X O9 σ H s) (hf:∀ b∈fp,UR X O9 H b) (ho:∀ b∈fp,∃ o,s.heap.get? b=some o/\∀ v,o.data≠.cell v):Inv X (O9++V6 fp s.heap) σ H s :=
 I.pins_of fun p hp=>(Ah.mp hp).elim (fun z=>I.pin p (Ai _ z)) fun z=>by
  obtain ⟨hb,e⟩:=Qbx z
  obtain ⟨f0,f1,f2,_⟩:=hf p.1 hb
  obtain ⟨o,e',d⟩:=ho p.1 hb
  rw [e] at e';cases e'
  exact ⟨e,f0,f1,f2,d⟩
def Inv.unpinned {O9 pl:C9} (I:Inv X (O9++pl) σ H s):Inv X O9 σ H s:=I.pins_of fun p hp=>I.pin p (Ai _ (List.mem_append_left _ hp))
theorem Qhe {body:List Stmt} {pos:Pos} (hp:PassesOwn (model X.prog X.w) X.A X.env X.xe) (hc:X.calm=true) (hi:PI X tg iter wi) (hg:PG X tg g) (hb:PSs X body tb)
  (hs:∀ x,foldedSetIterable iter X.env x=pure x:=by intro _;rfl):PS X (.For tg iter body [] pos) (Qjk wi g tb):=by
 intro O9 s σ H D I h
 refine wpAny_For (thn (hi O9 s σ H _ I h) fun v s1 h1=>thn h1 fun itv s2 h2=>?_) hs
 obtain ⟨it,fp,tn,J,H2,e,I2,T,st2,f2,W,⟨m0,w0⟩,turn⟩:=h2
 subst e
 have stat:∀ {H':Hp},(∀ b∈fp,H' b=none)->∀ b∈fp,UR X O9 H' b:=fun hn b hb=>⟨hn b hb,(f2 b hb).2⟩
 refine codeAny_forLoop_any (fun n s'=>∃ i σ' H',Inv X O9 σ' H' s'/\tn i s'.heap/\(∀ b∈fp,H' b=none)/\W i n σ' H') ?_ m0 ⟨0,σ,H2,I2,st2,fun b hb=>(f2 b hb).1,w0⟩
 rintro n s3 ⟨i,σ3,H3,I3,st3,fr3,w3⟩
 rcases turn i n σ3 H3 w3 with ⟨stop,qn⟩ | ⟨go,N,hN,step⟩
 ·refine wpAny_passesOwn hp (thn (T.done X rfl rfl rfl hc i O9 s3 σ3 H3 X.xe I3 (stat fr3) st3 stop) fun r s4 ⟨hr,I4⟩=>?_)
  subst hr
  exact wpAny_execs_nil ⟨σ3,H3,I4,qn⟩
 ·refine wpAny_passesOwn hp (thn (T.item X rfl rfl rfl hc i O9 s3 σ3 H3 X.xe I3 (stat fr3) st3 go) fun r s4 ⟨u,hr,h4⟩=>?_)
  subst hr
  refine wpAny_passesOwn hp (thn h4 fun _ s5 ⟨x,H5,I5,r5,y5,st5,fr5⟩=>?_)
  have I5':=I5.pinned (stat fr5) (T.obj _ _ st5)
  refine wpAny_passesOwn hp (thn (hg _ s5 σ3 H5 x u _ I5' r5 (step x H5 y5)) fun _ s6 ⟨σ6,H6,I6,q6⟩=>?_)
  refine wpAny_passesOwn hp (thn (hb _ s6 σ6 H6 _ I6 q6) fun f s7 q7=>?_)
  have again:∀ {σ7:St} {H7:Hp},Inv X (O9++V6 fp s5.heap) σ7 H7 s7->N σ7 H7->∃ m,m < n/\∃ i σ' H',Inv X O9 σ' H' s7/\tn i s7.heap/\(∀ b∈fp,H' b=none)/\W i m σ' H':=fun {σ7 H7} I7 n7=>by
   obtain ⟨m',hm,w7⟩:=hN σ7 H7 n7
   refine ⟨m',hm,i+1,σ7,H7,I7.unpinned,T.keep _ _ _ st5 fun b hb o e=>(I7.pin (b,o) (Ai _ (Ai _ (qO hb e)))).1,fun b hb=>?_,w7⟩
   obtain ⟨o,e,d⟩:=T.obj _ _ st5 b hb
   exact (I7.pin (b,o) (Ai _ (Ai _ (qO hb e)))).2.1
  cases f with
  | next=>obtain ⟨σ7,H7,I7,n7⟩:=q7;exact again I7 n7
  | cont=>obtain ⟨σ7,H7,I7,n7⟩:=q7;exact again I7 n7
  | brk=>obtain ⟨σ7,H7,I7,q7⟩:=q7;exact ⟨σ7,H7,I7.unpinned,q7⟩
  | ret v=>obtain ⟨x7,σ7,H7,I7,r7,q7⟩:=q7;exact ⟨x7,σ7,H7,I7.unpinned,r7,q7⟩
end
abbrev R2:=V->V->Hp->VK->Prop
def OpR (X:Cx) (f:Value->Value->Sem Value) (r:R2):Prop :=
  ∀ (O9 : List (Addr × Obj)) (s : Shared) (σ : St) (H : Hp) (x y : V) (v u : Value) (Q : VK), Inv X O9 σ H s -> RelV x v -> RelV y u -> r x y H Q ->
    wpAny (model X.prog X.w) X.A (f v u) (EP X O9 σ Q) X.xe s
def UnR (X:Cx) (f:Value->Sem Value) (r:V->Hp->VK->Prop):Prop :=
  ∀ (O9 : List (Addr × Obj)) (s : Shared) (σ : St) (H : Hp) (x : V) (v : Value) (Q : VK), Inv X O9 σ H s -> RelV x v -> r x H Q ->
    wpAny (model X.prog X.w) X.A (f v) (EP X O9 σ Q) X.xe s
def J7 (X:Cx) (f:Value) (r:List V->Hp->VK->Prop):Prop :=
  ∀ (O9 : List (Addr × Obj)) (s : Shared) (σ : St) (H : Hp) (xs : List V) (us : List Value) (Q : VK), Inv X O9 σ H s -> Vals xs us -> r xs H Q ->
    wpAny (model X.prog X.w) X.A (call f us) (EP X O9 σ Q) X.xe s
def tOp (r:R2) (ta tb:TE):TE:=fun σ H Q=>ta σ H fun x H1=>tb σ H1 fun y H2=>r x y H2 Q
def tUn (r:V->Hp->VK->Prop) (ta:TE):TE:=fun σ H Q=>ta σ H fun x H1=>r x H1 Q
def rI (C:Int->Int->Prop) (g:Int->Int->V):R2:=fun x y H Q=>∃ i j,x=.int i/\y=.int j/\C i j/\Q (g i j) H
def rI0 (g:Int->Int->V):R2:=fun x y H Q=>∃ i j,x=.int i/\y=.int j/\Q (g i j) H
def rU (g:Int->V):V->Hp->VK->Prop:=fun x H Q=>∃ i,x=.int i/\Q (g i) H
section
variable {X:Cx} {a b c:Expr} {ta tb tc:TE} {pos:Pos}
theorem Qf7 (ha:PE X a ta) (hb:PE X b tb) {R:V->V->Hp->Prop} (I:Inv X O9 σ H s)
  (h:ta σ H fun x H1=>tb σ H1 fun y H2=>R x y H2) {Q:C8} {f:Value->Value->Sem Value}
  (hf:∀ v u s2 x y H2,Inv X O9 σ H2 s2->RelV x v->RelV y u->R x y H2->wpAny (model X.prog X.w) X.A (f v u) Q X.xe s2) :
  wpAny (model X.prog X.w) X.A (eval a X.env) (fun v s₁=>wpAny (model X.prog X.w) X.A (eval b X.env) (fun u s₂=>wpAny (model X.prog X.w) X.A (f v u) Q X.xe s₂) X.xe s₁) X.xe s:=by
 refine thn (ha O9 s σ H _ I h) fun v s1 ⟨x,H1,I1,r1,q1⟩=>?_
 refine thn (hb O9 s1 σ H1 _ I1 q1) fun u s2 ⟨y,H2,I2,r2,q2⟩=>?_
 exact hf v u s2 x y H2 I2 r1 r2 q2
theorem Qis {op:Operator} {r:R2} (ho:OpR X (binaryOp op) r) (ha:PE X a ta) (hb:PE X b tb):PE X (.BinOp a op b pos) (tOp r ta tb):=by
 intro O9 s σ H Q I h
 exact wpAny_BinOp (Qf7 ha hb I h fun v u s2 x y H2 I2 rx ry q=>ho O9 s2 σ H2 x y v u Q I2 rx ry q)
theorem Qit {op:UnaryOp} {r:V->Hp->VK->Prop} (ho:UnR X (unaryOp op) r) (ha:PE X a ta):PE X (.UnaryOp op a pos) (tUn r ta):=by
 intro O9 s σ H Q I h
 exact UnaryOp_ (thn (ha O9 s σ H _ I h) fun v s1 ⟨x,H1,I1,r1,q1⟩=>ho O9 s1 σ H1 x v Q I1 r1 q1)
theorem opI {f:Value->Value->Sem Value} {C:Int->Int->Prop} {g:Int->Int->Int}
  (rule:∀ (i j:Int) (t u:Tok) (s:Shared) (Q:C8) (E:C8),C i j->Q (.int (g i j) s.toks) { s with toks:=s.toks+1 }->wpAny (model X.prog X.w) X.A (f (.int i t) (.int j u)) Q E s) :
  OpR X f (rI C fun i j=>.int (g i j)):=by
 intro O9 s σ H x y v u Q I rx ry h
 obtain ⟨i,j,rfl,rfl,hc,q⟩:=h
 obtain ⟨t,rfl⟩:=rx
 obtain ⟨t',rfl⟩:=ry
 exact rule i j t t' s _ _ hc ⟨.int (g i j),H,I.tok _,⟨_,rfl⟩,q⟩
theorem Qih {f:Value->Value->Sem Value} {g:Int->Int->Int}
  (rule:∀ (i j:Int) (t u:Tok) (s:Shared) (Q:C8) (E:C8),Q (.int (g i j) s.toks) { s with toks:=s.toks+1 }->wpAny (model X.prog X.w) X.A (f (.int i t) (.int j u)) Q E s) :
  OpR X f (rI0 fun i j=>.int (g i j)):=by
 intro O9 s σ H x y v u Q I rx ry h
 obtain ⟨i,j,rfl,rfl,q⟩:=h
 obtain ⟨t,rfl⟩:=rx
 obtain ⟨t',rfl⟩:=ry
 exact rule i j t t' s _ _ ⟨.int (g i j),H,I.tok _,⟨_,rfl⟩,q⟩
theorem QeO {f:Value->Value->Sem Value} {g:Int->Int->Bool}
  (rule:∀ (i j:Int) (t u:Tok) (s:Shared) (Q:C8) (E:C8),Q (.bool (g i j)) s->wpAny (model X.prog X.w) X.A (f (.int i t) (.int j u)) Q E s) :
  OpR X f (rI0 fun i j=>.bl (g i j)):=by
 intro O9 s σ H x y v u Q I rx ry h
 obtain ⟨i,j,rfl,rfl,q⟩:=h
 obtain ⟨t,rfl⟩:=rx
 obtain ⟨t',rfl⟩:=ry
 exact rule i j t t' s _ _ ⟨.bl (g i j),H,I,rfl,q⟩
def QiV (i j:Int):Prop:=0 < j/\j < 1073741824
def QiW (i j:Int):Prop:=0<=j/\j<=1000000/\i.natAbs < 2 ^ 64
def CMul (i j:Int):Prop:=(-(2 ^ 64) < i/\i < 2 ^ 64)∨(-(2 ^ 64) < j/\j < 2 ^ 64)
theorem CMul.ok {i j:Int} (h:CMul i j):IntMulOk i j:=by
 rcases h with ⟨h1,h2⟩ | ⟨h1,h2⟩
 ·exact .of_left (intBits_le_64 h1 h2)
 ·exact .of_right (intBits_le_64 h1 h2)
def QgH:OpR X (binaryOp .Add) (rI0 fun i j=>.int (i+j)):=Qih fun _ _ _ _ _ _ _ q=>add_int q
def QgM:OpR X (binaryOp .Sub) (rI0 fun i j=>.int (i - j)):=Qih fun _ _ _ _ _ _ _ q=>sub_int q
def QgK:OpR X (binaryOp .Mult) (rI CMul fun i j=>.int (i * j)):=opI fun _ _ _ _ _ _ _ hc q=>mul_int q hc.ok
theorem QeQ:OpR X (binaryOp .FloorDiv) (rI QiV fun i j=>.int (i / j)):=opI fun i j _ _ _ _ _ hc q=>by
 have h1:(0:Int) < j:=hc.1
 have h2:j < 1073741824:=hc.2
 exact floordiv_int (by lia) (by rw [Int.fdiv_eq_ediv_of_nonneg i (by lia)];exact q) (.inl (PyProof.noPylong_small (by lia)))
theorem QgJ:OpR X (binaryOp .Mod) (rI (fun _ j=>0 < j) fun i j=>.int (i % j)):=opI fun i j _ _ _ _ _ hc q=>by
 have h1:(0:Int) < j:=hc
 exact mod_int' (by lia) (by rw [Int.fmod_eq_emod_of_nonneg i (by lia)];exact q)
def QgL:OpR X (binaryOp .Pow) (rI QiW fun i j=>.int (i ^ j.toNat)):=opI fun _ _ _ _ _ _ _ hc q=>pow_int_small hc.1 hc.2.1 hc.2.2 q
theorem unI {f:Value->Sem Value} {g:Int->Int}
  (rule:∀ (i:Int) (t:Tok) (s:Shared) (Q:C8) (E:C8),Q (.int (g i) s.toks) { s with toks:=s.toks+1 }->wpAny (model X.prog X.w) X.A (f (.int i t)) Q E s) :
  UnR X f (rU fun i=>.int (g i)):=by
 intro O9 s σ H x v Q I rx h
 obtain ⟨i,rfl,q⟩:=h
 obtain ⟨t,rfl⟩:=rx
 exact rule i t s _ _ ⟨.int (g i),H,I.tok _,⟨_,rfl⟩,q⟩
def QhB:UnR X (unaryOp .USub) (rU fun i=>.int (-i)):=unI fun _ _ _ _ _ q=>neg_int q
end
section
variable {X:Cx} {a b c:Expr} {ta tb tc:TE} {pos:Pos}
theorem Qcu {Q:VK} {k k':Bool} (I:Inv X O9 σ H s) (q:Q (.bl k) H) (e:k=k'):EP X O9 σ Q (.bool k') s:=by
 subst e
 exact ⟨.bl k,H,I,rfl,q⟩
def Qil:OpR X (compareOp .Lt) (rI0 fun i j=>.bl (decide (i < j))):=QeO fun _ _ _ _ _ _ _ q=>lt_int q
def Qik:OpR X (compareOp .LtE) (rI0 fun i j=>.bl (decide (i<=j))):=QeO fun _ _ _ _ _ _ _ q=>le_int q
def Qij:OpR X (compareOp .Gt) (rI0 fun i j=>.bl (decide (j < i))):=QeO fun _ _ _ _ _ _ _ q=>gt_int q
def Qii:OpR X (compareOp .GtE) (rI0 fun i j=>.bl (decide (j<=i))):=QeO fun _ _ _ _ _ _ _ q=>ge_int q
theorem QgI:OpR X (compareOp .Is) (fun x y H Q=>y=.non/\Q (.bl (decide (x=.non))) H):=by
 intro O9 s σ H x y v u Q I rx ry h
 obtain ⟨rfl,q⟩:=h
 cases ry
 refine is_none_gen (Qcu I q ?_)
 cases x<;>first
  | (cases rx;rfl)
  | (obtain ⟨t,rfl⟩:=rx;rfl)
theorem QeS:OpR X (compareOp .IsNot) (fun x y H Q=>y=.non/\Q (.bl (!decide (x=.non))) H):=by
 intro O9 s σ H x y v u Q I rx ry h
 obtain ⟨rfl,q⟩:=h
 cases ry
 refine isnot_none_gen (Qcu I q ?_)
 cases x<;>first
  | (cases rx;rfl)
  | (obtain ⟨t,rfl⟩:=rx;rfl)
theorem Q0 (b:Expr) {op:CmpOp} (h:op≠.In:=by decide) (h2:op≠.NotIn:=by decide):behindInMarks op b=false:=by
 have e1:(op==CmpOp.In)=false:=by cases op<;>first | rfl | exact absurd rfl h
 have e2:(op==CmpOp.NotIn)=false:=by cases op<;>first | rfl | exact absurd rfl h2
 cases b<;>simp [behindInMarks,e1,e2]
theorem QeW {op:CmpOp} {r:R2} (ho:OpR X (compareOp op) r) (ha:PE X a ta) (hb:PE X b tb) (hm:behindInMarks op b=false):PE X (.Compare a [op] [b] pos) (tOp r ta tb):=by
 intro O9 s σ H Q I h
 exact wpAny_Compare1 (Qf7 ha hb I h fun v u s2 x y H2 I2 rx ry q=>ho O9 s2 σ H2 x y v u Q I2 rx ry q) hm
def Qf0 (t:TE):TT:=fun σ H Q=>t σ H fun x H'=>∃ k,x=.bl k/\Q k H'
theorem Qff {op:CmpOp} {r:R2} (ho:OpR X (compareOp op) r) (ha:PE X a ta) (hb:PE X b tb) (hm:behindInMarks op b=false):PT X (.Compare a [op] [b] pos) (Qf0 (tOp r ta tb)):=by
 intro O9 s σ H Q I h
 refine wpAny_isTrue_Compare1 (thn (ha O9 s σ H _ I h) fun v s1 ⟨x,H1,I1,r1,q1⟩=>thn (hb O9 s1 σ H1 _ I1 q1) fun u s2 ⟨y,H2,I2,r2,q2⟩ =>
  thn (ho O9 s2 σ H2 x y v u _ I2 r1 r2 q2) fun c s3 ⟨z,H3,I3,r3,k,e,q3⟩=>?_) hm
 subst e
 cases r3
 exact wpAny_truthy_bool ⟨H3,I3,q3⟩
def QdU (r r':R2) (ta tb tc:TE):TE:=fun σ H Q=>ta σ H fun x H1=>tb σ H1 fun y H2=>r x y H2 fun z H3=>∃ k,z=.bl k /\
 (if k=true then tc σ H3 fun w' H4=>r' y w' H4 Q else Q (.bl false) H3)
theorem Qdw {op op':CmpOp} {r r':R2} (ho:OpR X (compareOp op) r) (ho':OpR X (compareOp op') r') (ha:PE X a ta) (hb:PE X b tb) (hc:PE X c tc)
    (hm:lastMarks [op,op'] [b,c]=false:=by with_unfolding_all rfl):PT X (.Compare a [op,op'] [b,c] pos) (Qf0 (QdU r r' ta tb tc)):=by
  intro O9 s σ H Q I h
  refine isTrue_chain (thn (ha O9 s σ H _ I h) fun v s1 ⟨x,H1,I1,r1,q1⟩=>test_link (thn (hb O9 s1 σ H1 _ I1 q1) fun u s2 ⟨y,H2,I2,r2,q2⟩ =>
    thn (ho O9 s2 σ H2 x y v u _ I2 r1 r2 q2) fun d s3 ⟨z,H3,I3,r3,k,e,q3⟩=>?_)) hm
  subst e
  cases r3
  refine wpAny_truthy_bool ?_
  cases k with
  | false =>
    obtain ⟨k',e',q'⟩:=q3
    cases e'
    exact ite_ff ⟨H3,I3,q'⟩
  | true =>
    refine ite_tt (test_last (thn (hc O9 s3 σ H3 _ I3 q3) fun w' s4 ⟨z',H4,I4,r4,q4⟩=>thn (ho' O9 s4 σ H4 y z' u w' _ I4 r2 r4 q4) fun d' s5 ⟨z2,H5,I5,r5,k2,e2,q5⟩=>?_))
    subst e2
    cases r5
    exact wpAny_truthy_bool ⟨H5,I5,q5⟩
theorem GM:(sizeLine:Nat) < 2 ^ 63:=by rw [sizeLine_eq];decide
theorem UH {us:List Value} (r:Vals [x] us):∃ u,us=[u]/\RelV x u:=by
 cases r with
 | cons r1 r2=>cases r2;exact ⟨_,rfl,r1⟩
theorem Gb {us:List Value} (r:Vals [x,y] us):∃ u w',us=[u,w']/\RelV x u/\RelV y w':=by
  cases r with
  | cons r1 r2 =>
    cases r2 with
    | cons r3 r4=>cases r4;exact ⟨_,_,rfl,r1,r3⟩
theorem Qa5 (hc:X.calm=true):J7 X (.builtin "max") (fun xs H Q=>∃ i j,xs=[.int i,.int j]/\Q (.int (if j > i then j else i)) H):=by
 intro O9 s σ H xs us Q I r h
 obtain ⟨i,j,rfl,q⟩:=h
 obtain ⟨u,w',rfl,⟨t,rfl⟩,⟨t',rfl⟩⟩:=Gb r
 refine max_two_ints (I.ok.hd hc) fun h' tk k=>⟨_,H,I.kept k,?_,q⟩
 by_cases hj:j > i
 ·rw [C0 hj,C0 hj];exact ⟨_,rfl⟩
 ·rw [Cz hj,Cz hj];exact ⟨_,rfl⟩
theorem Qa6 (hc:X.calm=true):J7 X (.builtin "min") (fun xs H Q=>∃ i j,xs=[.int i,.int j]/\Q (.int (if j < i then j else i)) H):=by
 intro O9 s σ H xs us Q I r h
 obtain ⟨i,j,rfl,q⟩:=h
 obtain ⟨u,w',rfl,⟨t,rfl⟩,⟨t',rfl⟩⟩:=Gb r
 refine min_two_ints (I.ok.hd hc) fun h' tk k=>⟨_,H,I.kept k,?_,q⟩
 by_cases hj:j < i
 ·rw [C0 hj,C0 hj];exact ⟨_,rfl⟩
 ·rw [Cz hj,Cz hj];exact ⟨_,rfl⟩
end
structure ObjM (h:Heap) (x dx C:Addr) (mA:Ea):Prop where
 obj:h.get? x=some (PySem.W.instObj C dx)
 ns:h.Ns1 dx mA
 ne:dx≠x
theorem Qbt {h:Heap} {dx:Addr} {mA:Ea} (n:h.Ns1 dx mA):∃ od,h.get? dx=some od/\∀ name,PySem.W.lookIn name od=some (mA name):=by
 obtain ⟨o,es,ep,ho,hd,hk,_,hm⟩:=n
 refine ⟨o,ho,fun name=>?_⟩
 have e:=hm name
 unfold nsFind findBy at e
 rw [<- Array.find?_toList] at e
 unfold PySem.W.lookIn
 rw [hd]
 dsimp only
 split
 ·rename_i y q
  rw [q] at e
  exact congrArg some e
 ·rename_i q
  rw [q] at e
  have a:es.toList.any (·.refKey)=false:=by
   rw [List.any_eq_false]
   intro y hy
   obtain ⟨z,t,hkey⟩:=hk y (Array.mem_toList_iff.mp hy)
   simp [DictEntry.refKey,hkey]
  have a':¬ es.toList.any (·.refKey)=true:=by rw [a];exact Bx
  rw [Cz a']
  exact congrArg some e
theorem ObjM.look {x dx C:Addr} {mA:Ea} (I:ObjM h x dx C mA):∃ od,PySem.W.InstAt h x (PySem.W.instObj C dx) C (some od)/\∀ name,PySem.W.lookIn name od=some (mA name) :=
 let ⟨od,ho,hl⟩:=Qbt I.ns
 ⟨od,⟨I.obj,rfl,rfl,ho⟩,hl⟩
section
variable {prog:Program} {w:World} {A:Around} {E:C8} {s:Shared} {K:Aa} {x dx C f:Addr} {mA:Ea} {name:Str} {v:Value}
theorem Qez {expr:Bool} {Q:C8} (X:K.In s.heap) (I:ObjM s.heap x dx C mA) (hg:PySem.W.plainGet K C name=true) (hh:PySem.W.hasDictIn K C=true)
  (ha:PySem.W.findIn K (.ref C) name=some none) (hv:mA name=some v) (hv':PySem.W.handedIn v=true) (h:Q v { s with toks:=s.toks+1 }) :
  wpAny (model prog w) A (getAttr (.ref x) name expr) Q E s:=by
 obtain ⟨od,J,hl⟩:=I.look
 exact PySem.W.get_value X J (PySem.W.plainGet_of hg).1 (PySem.W.findObj_own hh ha rfl (by rw [hl,hv])) hv' h
theorem QcD {pl:Sem Bool} {Q:Value×List Value->Shared->Prop} (X:K.In s.heap) (I:ObjM s.heap x dx C mA) (hg:PySem.W.plainGet K C name=true)
  (hf:PySem.W.findIn K (.ref C) name=some (some (.ref f))) (ht:PySem.W.isFn K (.ref f)=true) (hv:mA name=none) (h:Q (.ref f,[.ref x]) s) :
  wpAny (model prog w) A (getMethod (.ref x) name pl) Q E s:=by
 obtain ⟨od,J,hl⟩:=I.look
 exact PySem.W.method_fn X J (PySem.W.plainGet_of hg).1 (PySem.W.plainGet_of hg).2 hf (beq_iff_eq.mp ht) (by show (PySem.W.lookIn name od).map (·.isSome)=some false;rw [hl,hv];rfl) h
theorem Qfu {ns:List Str} {Q:Unit->Shared->Prop} (X:K.In s.heap) (I:ObjM s.heap x dx C mA)
  (hs:PySem.W.findIn K (.ref C) "__setattr__" = some (some (.builtin "object.__setattr__"))) (hp:PySem.W.plainOver K C=true) (ht:PySem.W.takerIn K C name=some none) (hh:PySem.W.hasDictIn K C=true)
  (hw:PySem.Within mA ns) (hsz:ns.length<=sizeLine)
  (h:∀ h',ObjM h' x dx C (fun y=>if y=name then some v else mA y)->Heap.SameBut dx s.heap h'->Q () { s with heap:=h',toks:=s.toks+2 }) :
  wpAny (model prog w) A (setAttr (.ref x) name v) Q E s:=by
 obtain ⟨od,J,hl⟩:=I.look
 refine PySem.W.set_plain X J hs (PySem.W.osa_open (s:={ s with toks:=s.toks+1 }) (r:=none) X J hp ht fun b=>?_)
 obtain ⟨cd,hc,hd'⟩:=PySem.W.any_some hh
 have hx:s.heap.get? x=some ⟨.ref C,some dx,.plain,#[]⟩:=I.obj
 refine Cy (C1 (Cy (Cy (wpAny_loadPart hx (Cy (PySem.W.Looks.here (s:={ s with toks:=s.toks+1 }) (PySem.W.looks_clsIn X hc) ?_))))))
 rw [hd']
 refine C1 (a:=some dx) (Cy (C1 (Cy ?_)))
 refine wpAny_nsSet1 (s:={ s with toks:=s.toks+1 }) I.ns fun h' hn2 hs2=>?_
 obtain ⟨oD,esD,epD,hoD,hdD,hcD⟩:=hn2.count (PySem.Within.cons name v hw)
 refine Cy (wpAny_lookBehind hoD (by rw [hdD];exact pastItsLine_dict (Bi hcD (by rw [A9];lia))) ?_)
 exact C1 (h _ ⟨(hs2.2 _ (Ne.symm I.ne)).trans I.obj,hn2,I.ne⟩ hs2)
theorem Qc1 {R:Result->Shared->Prop} {vs:List Value} {kw:List (Str×Value)} (X:K.In s.heap) (hm:PySem.W.makesIn K C=true)
  (hi:PySem.W.findIn K (.ref C) "__init__" = some (some (.ref f))) (hf:PySem.W.typeIn K (.ref f)=some (.type "function"))
  (h:codeAny (model prog w) (A.under (.builtin "type.__call__" ⟨.ref C::vs,kw⟩)) (.call (.ref f) ⟨.ref (s.heap.objs.size+1)::vs,kw⟩) (PySem.W.InitBack (s.heap.objs.size+1) R)
   { s with heap:=(s.heap.push PySem.W.emptyDict).push (PySem.W.instObj C s.heap.objs.size) }) :
  codeAny (model prog w) A (.call (.ref C) ⟨vs,kw⟩) R s:=by
 obtain ⟨hh,g,d,t,os⟩:=s
 exact PySem.W.make_core (PySem.W.makes_of X hm) (PySem.W.looks_findIn X hi) (fun self=>PySem.W.bind_fn X self hf) (.inl rfl) h
end
def Y6 (f:Str) (v:V):List (Str×V)->List (Str×V)
 | []=>[(f,v)]
 | (g,x)::r=>if g=f then (g,v)::r else (g,x)::Y6 f v r
theorem yG (f g:Str) (v:V):∀ fs:List (Str×V),(Y6 f v fs).lookup g=if g=f then some v else fs.lookup g
  | []=>by
    show List.lookup g [(f,v)]=_
    by_cases h:g=f
    . have hb:(g==f)=true:=beq_iff_eq.mpr h
      simp only [List.lookup,hb,C0 h]
    . have hb:(g==f)=false:=beq_eq_false_iff_ne.mpr h
      simp only [List.lookup,hb,Cz h]
  | (k,x)::r=>by
    have ih:=yG f g v r
    rw [show Y6 f v ((k,x)::r)=(if k=f then (k,v)::r else (k,x)::Y6 f v r) from rfl]
    by_cases hk:k=f
    . rw [C0 hk]
      by_cases h:g=k
      . have hb:(g==k)=true:=beq_iff_eq.mpr h
        simp only [List.lookup,hb,C0 (h.trans hk)]
      . have hb:(g==k)=false:=beq_eq_false_iff_ne.mpr h
        simp only [List.lookup,hb,Cz (fun e:g=f=>h (e.trans hk.symm))]
    . rw [Cz hk]
      by_cases h:g=k
      . have hb:(g==k)=true:=beq_iff_eq.mpr h
        simp only [List.lookup,hb,Cz (fun e:g=f=>hk (h.symm.trans e))]
      . have hb:(g==k)=false:=beq_eq_false_iff_ne.mpr h
        simp only [List.lookup,hb]
        exact ih
theorem yj (f:Str) (v:V):∀ fs:List (Str×V),f∈(Y6 f v fs).map (·.1)/\∀ g,g∈fs.map (·.1)->g∈(Y6 f v fs).map (·.1)
  | []=>⟨by simp [Y6],fun g h=>by simp at h⟩
  | (k,x)::r=>by
    obtain ⟨i1,i2⟩:=yj f v r
    rw [show Y6 f v ((k,x)::r)=(if k=f then (k,v)::r else (k,x)::Y6 f v r) from rfl]
    by_cases hk:k=f
    . rw [C0 hk]
      subst hk
      exact ⟨by simp,fun g h=>by simpa using h⟩
    . rw [Cz hk]
      refine ⟨?_,fun g h=>?_⟩
      . rw [Ba]
        exact Ax _ i1
      . rw [Ba] at h ⊢
        rcases Bj.mp h with e | e
        . exact Bj.mpr (.inl e)
        . exact Ax _ (i2 g e)
theorem yF (f:Str) (v:V):∀ fs:List (Str×V),(Y6 f v fs).length<=fs.length+1
  | []=>by simp [Y6]
  | (k,x)::r=>by
    have ih:=yF f v r
    rw [show Y6 f v ((k,x)::r)=(if k=f then (k,v)::r else (k,x)::Y6 f v r) from rfl]
    by_cases hk:k=f
    . rw [C0 hk,A9,A9];lia
    . rw [Cz hk,A9,A9];lia
theorem RelO.some_of {o:Option Value} (r:RelO (some v) o):∃ u,o=some u/\RelV v u:=by
 cases o with
 | none=>exact (show False from r).elim
 | some u=>exact ⟨u,rfl,r⟩
theorem RelO.none_of {o:Option Value} (r:RelO none o):o=none:=by
 cases o with
 | none=>rfl
 | some u=>exact (show False from r).elim
theorem Qbj (r:RelV v u):PySem.W.handedIn u=true:=by
 cases v with
 | non=>cases (show u=Value.none from r);rfl
 | bl b=>cases (show u=Value.bool b from r);rfl
 | int i=>obtain ⟨t,e⟩:=(show ∃ t,u=Value.int i t from r);cases e;rfl
 | str x=>obtain ⟨t,e⟩:=(show ∃ t,u=Value.str x t from r);cases e;rfl
 | byt b=>obtain ⟨t,e⟩:=(show ∃ t,u=Value.bytes b t from r);cases e;rfl
 | flt b=>obtain ⟨t,e⟩:=(show ∃ t,u=Value.float b t from r);cases e;rfl
 | ref a=>cases (show u=Value.ref a from r);rfl
 | ty n=>cases (show u=Value.type n from r);rfl
section
variable {P:Program} {w:World} {H H':Hp} {h h':Heap} {a C dx:Addr} {fs fs':List (Str×V)}
theorem GD (hok:HOk P w H h) (e:H a=some (.ins C dx fs)):∃ mA,ObjM h a dx C mA/\(∀ f,RelO (fs.lookup f) (mA f))/\PySem.Within mA (fs.map (·.1))/\fs.length<=1000/\H dx=some (.own a):=by
 obtain ⟨d,z,ne,ob,mA,n,r,q⟩:=(show ObjOk P w H h a (.ins C dx fs) from hok a _ e)
 exact ⟨mA,⟨ob,n,ne⟩,r,q,z,d⟩
end
structure Cls (K:Aa) (C:Addr):Prop where
 pg:PySem.W.plainGet K C Str.empty=true
 hd:PySem.W.hasDictIn K C=true
 po:PySem.W.plainOver K C=true
 sa:PySem.W.findIn K (.ref C) "__setattr__" = some (some (.builtin "object.__setattr__"))
def Cls.get {K:Aa} {C:Addr} (c:Cls K C) (f:Str):PySem.W.plainGet K C f=true:=c.pg
def NoAttr (K:Aa) (C:Addr) (f:Str):Prop:=PySem.W.findIn K (.ref C) f=some none
theorem NoAttr.taker {K:Aa} {C:Addr} {f:Str} (n:NoAttr K C f):PySem.W.takerIn K C f=some none:=by
 unfold PySem.W.takerIn
 rw [show PySem.W.findIn K (.ref C) f=some none from n]
 rfl
structure uO (K:Aa) (C:Addr) (m:Str) (f:Addr):Prop where
 at_:PySem.W.findIn K (.ref C) m=some (some (.ref f))
 fn:PySem.W.isFn K (.ref f)=true
 kp:PySem.W.keepIn K (.ref f)=true
section
variable {X:Cx} {O9:C9} {σ:St} {H:Hp} {s:Shared} {a C dx:Addr} {fs:List (Str×V)} {f:Str} {v:V} {A:Around} {E:C8}
theorem VN {b:Bool} {Q:C8} (I:Inv X O9 σ H s) (e:H a=some (.ins C dx fs)) (c:Cls X.K C) (n:NoAttr X.K C f) (l:fs.lookup f=some v)
  (h:∀ u s',Inv X O9 σ H s'->RelV v u->Q u s'):wpAny (model X.prog X.w) A (getAttr (.ref a) f b) Q E s:=by
 obtain ⟨mA,O,r,_,_,_⟩:=GD I.hok e
 obtain ⟨u,hu,ru⟩:=RelO.some_of (v:=v) (o:=mA f) (by rw [<- l];exact r f)
 exact Qez I.kIn O (c.get f) c.hd n hu (Qbj ru) (h u _ (I.tok _) ru)
theorem jH {m:Str} {g:Addr} {pl:Sem Bool} {Q:Value×List Value->Shared->Prop} (I:Inv X O9 σ H s) (e:H a=some (.ins C dx fs)) (c:Cls X.K C) (k:uO X.K C m g) (l:fs.lookup m=none)
  (h:Q (.ref g,[.ref a]) s):wpAny (model X.prog X.w) A (getMethod (.ref a) m pl) Q E s:=by
 obtain ⟨mA,O,r,_,_,_⟩:=GD I.hok e
 have hn:mA m=none:=RelO.none_of (by rw [<- l];exact r m)
 exact QcD I.kIn O (c.get m) k.at_ k.fn hn h
theorem Us {Q:Unit->Shared->Prop} (I:Inv X O9 σ H s) (e:H a=some (.ins C dx fs)) (c:Cls X.K C) (n:NoAttr X.K C f) (hl:fs.length < 1000) (ry:RelV y u)
  (h:∀ s',Inv X O9 σ (upd H a (.ins C dx (Y6 f y fs))) s'->Q () s'):wpAny (model X.prog X.w) A (setAttr (.ref a) f u) Q E s:=by
 obtain ⟨mA,O,r,wi,_,ho⟩:=GD I.hok e
 have hz:(fs.map (·.1)).length<=sizeLine:=by rw [Br,sizeLine_eq];lia
 refine Qfu I.kIn O c.sa c.po n.taker c.hd wi hz fun h' O' sb=>h _ ?_
 have hd:∃ o,h'.get? dx=some o:=let ⟨o,_,_,e',_⟩:=O'.ns;⟨o,e'⟩
 refine I.write (x:=a) (e:=dx) (by rw [e];exact True.intro) (.inr ho) (fun b q hb z=>(sb.2 b hb).trans z) hd ?_
 refine ⟨by rw [Q4 O.ne];exact ho,?_,O.ne,O'.obj,_,O'.ns,fun g=>?_,fun g hg=>?_⟩
 ·have:=yF f y fs;lia
 ·show RelO ((Y6 f y fs).lookup g) (if g=f then some u else mA g)
  rw [yG]
  by_cases q:g=f
  ·rw [C0 q,C0 q];exact ry
  ·rw [Cz q,Cz q];exact r g
 ·by_cases q:g=f
  ·rw [q];exact (yj f y fs).1
  ·refine (yj f y fs).2 g (wi g fun z=>hg ?_)
   show (if g=f then some u else mA g)=none
   rw [Cz q];exact z
theorem Inv.made (I:Inv X O9 σ H s):Inv X O9 σ (upd (upd H s.heap.objs.size (.own (s.heap.objs.size+1))) (s.heap.objs.size+1) (.ins C s.heap.objs.size []))
  { s with heap:=(s.heap.push PySem.W.emptyDict).push (PySem.W.instObj C s.heap.objs.size) }:=by
 have e1:(s.heap.push PySem.W.emptyDict).get? s.heap.objs.size=some PySem.W.emptyDict:=Au s.heap rfl
 have e2:((s.heap.push PySem.W.emptyDict).push (PySem.W.instObj C s.heap.objs.size)).get? (s.heap.objs.size+1)=some (PySem.W.instObj C s.heap.objs.size):=by
  have:=Au (s.heap.push PySem.W.emptyDict) (o:=PySem.W.instObj C s.heap.objs.size) rfl
  rwa [Ce] at this
 have e3:(s.heap.push PySem.W.emptyDict).Ns s.heap.objs.size (fun _=>none):=⟨PySem.W.emptyDict,#[],_,e1,rfl,(fun e he=>absurd he (by simp)),fun _=>rfl⟩
 have I1:=I.laid (a:=s.heap.objs.size) (o:=.own (s.heap.objs.size+1)) (h':=s.heap.push PySem.W.emptyDict) (t':=s.toks) (fun b u q=>Ad _ q) (Ae _) ⟨_,e1⟩
 refine I1.laid (a:=s.heap.objs.size+1) (o:=.ins C s.heap.objs.size []) (t':=s.toks) (fun b u q=>Ad _ q) (Nat.le_of_eq (Ce _ _)) ?_
 have ne:s.heap.objs.size≠s.heap.objs.size+1:=Be (Cq _)
 refine ⟨by rw [Q4 ne,Za],Bc _,ne,e2,fun _=>none,(Heap.Ns1.of_empty e3).at fun o q=>Ad _ q,fun _=>True.intro,fun y hy=>absurd rfl hy⟩
theorem Qei {prog:Program} {w:World} {f:Str} {pos:Pos} {s:Shared} {Q:C8} (hb:attributeBase e f env (eval e env)=eval e env)
  (h:wpAny (model prog w) A (eval e env) (fun o s₁=>wpAny (model prog w) A (getAttr o f true) Q E s₁) E s):wpAny (model prog w) A (eval (.Attribute e f pos) env) Q E s :=
 Attribute_any_ h (by rw [arm_eval_Attribute,hb])
end
def Qjj (K:Aa) (ta:TE) (f:Str):TE:=fun σ H Q=>ta σ H fun x H1=>∃ a C dx fs v,x=.ref a/\H1 a=some (.ins C dx fs)/\Cls K C/\NoAttr K C f/\fs.lookup f=some v/\Q v H1
def Qjh (K:Aa) (ta tv:TE) (f:Str):TS:=fun D σ H=>tv σ H fun y H1=>ta σ H1 fun x H2=>∃ a C dx fs,x=.ref a/\H2 a=some (.ins C dx fs)/\Cls K C/\NoAttr K C f/\fs.length < 1000 /\
 D.nx σ (upd H2 a (.ins C dx (Y6 f y fs)))
def QhO (X:Cx) (op:Operator) (rd:V->V->Hp->VK->Prop):Prop :=
 ∀ (O9:C9) (s:Shared) (σ:St) (H:Hp) (x y:V) (u v:Value) (Q:VK),Inv X O9 σ H s->RelV x u->RelV y v->rd x y H Q->wpAny (model X.prog X.w) X.A (inplaceOp op u v) (EP X O9 σ Q) X.xe s
def Qfs (K:Aa) (ta tv:TE) (rd:V->V->Hp->VK->Prop) (f:Str):TS:=fun D σ H=>ta σ H fun x H1=>∃ a C dx fs v,x=.ref a/\H1 a=some (.ins C dx fs)/\Cls K C/\NoAttr K C f/\fs.lookup f=some v /\
 tv σ H1 fun y H2=>rd v y H2 fun z H3=>∃ dx' fs',H3 a=some (.ins C dx' fs')/\fs'.length < 1000/\D.nx σ (upd H3 a (.ins C dx' (Y6 f z fs')))
section
variable {X:Cx} {o e value:Expr} {f:Str} {pos pos' tpos:Pos} {ta tv:TE}
theorem QgT (he:PE X e ta) (hb:attributeBase e f X.env (eval e X.env)=eval e X.env):PE X (.Attribute e f pos) (Qjj X.K ta f):=by
 intro O9 s σ H Q I h
 refine Qei hb (thn (he O9 s σ H _ I h) fun u s1 ⟨x,H1,I1,rx,a,C,dx,fs,v,ex,ea,c,n,l,q⟩=>?_)
 subst ex
 obtain rfl:u=Value.ref a:=rx
 exact VN I1 ea c n l fun u' s2 I2 ru=>⟨v,H1,I2,ru,q⟩
theorem Qhd (ha:PE X o ta) (hv:PE X value tv) (hs:swapsWith value (some (.Attribute o f pos')) pos.line X.env=pure false):PS X (.Assign [.Attribute o f pos'] value pos) (Qjh X.K ta tv f):=by
 intro O9 s σ H D I h
 refine plainObj_wpAny_Assign_Attribute (thn (hv O9 s σ H _ I h) fun u s1 ⟨y,H1,I1,ry,q⟩=>thn (ha O9 s1 σ H1 _ I1 q) fun ov s2 ⟨x,H2,I2,rx,a,C,dx,fs,ex,ea,c,n,l,q2⟩=>?_) hs
 subst ex
 obtain rfl:ov=Value.ref a:=rx
 exact Us I2 ea c n l ry fun s3 I3=>⟨σ,_,I3,q2⟩
theorem QbH {op:Operator} {rd:V->V->Hp->VK->Prop} (ha:PE X o ta) (hv:PE X value tv) (hop:QhO X op rd):PS X (.AugAssign (.Attribute o f tpos) op value pos) (Qfs X.K ta tv rd f):=by
 intro O9 s σ H D I h
 refine wpAny_AugAssign_AttributeAny (thn (ha O9 s σ H _ I h) fun ov s1 ⟨x,H1,I1,rx,a,C,dx,fs,v,ex,ea,c,n,l,q⟩=>?_)
 subst ex
 obtain rfl:ov=Value.ref a:=rx
 refine VN I1 ea c n l fun u s2 I2 ru=>thn (hv O9 s2 σ H1 _ I2 q) fun w3 s3 ⟨y,H2,I3,ry,q3⟩=>thn (hop O9 s3 σ H2 v y u w3 _ I3 ru ry q3) fun w4 s4 ⟨z,H3,I4,rz,dx',fs',ea',l',q4⟩=>?_
 exact Us I4 ea' c n l' rz fun s5 I5=>⟨σ,_,I5,q4⟩
def Qjb:V->V->Hp->VK->Prop:=fun x y H Q=>∃ i j,x=.int i/\y=.int j/\Q (.int (i+j)) H
theorem Qgq:QhO X .Add Qjb:=by
 rintro O9 s σ H x y u v Q I rx ry ⟨i,j,rfl,rfl,q⟩
 obtain ⟨t,rfl⟩:=(show ∃ t,u=Value.int i t from rx)
 obtain ⟨t',rfl⟩:=(show ∃ t',v=Value.int j t' from ry)
 exact PyProof.Rows.iadd_int ⟨.int (i+j),H,I.tok _,⟨_,rfl⟩,q⟩
theorem QfT {pl:Sem Bool} {m:Str} {apos:Pos} {args:List Expr} {Q:C8} (he:PE X e te) (I:Inv X O9 σ H s)
  (h:te σ H fun x H1=>∃ a C dx fs g,x=.ref a/\H1 a=some (.ins C dx fs)/\Cls X.K C/\uO X.K C m g/\fs.lookup m=none /\
   ∀ s1,Inv X O9 σ H1 s1->wpAny (model X.prog X.w) X.A (callWith pos (.ref g) [.ref a] (backTo pos (starEach args X.env)) (backToKw pos (keywordEach [] X.env))) Q X.xe s1)
  (ht:eval (.Call (.Attribute e m apos) args [] pos) X.env=(do
   let ov <- eval e X.env
   standAt apos.atName
   let (f,first) <- holding [ov] (getMethod ov m pl)
   callWith pos f first (backTo pos (starEach args X.env)) (backToKw pos (keywordEach [] X.env)))) :
  wpAny (model X.prog X.w) X.A (eval (.Call (.Attribute e m apos) args [] pos) X.env) Q X.xe s:=by
 refine PySem.W.methodCall_KW (pl:=pl) (thn (he O9 s σ H _ I h) fun u s1 ⟨x,H1,I1,rx,a,C,dx,fs,g,ex,ea,c,k,l,q⟩=>?_) ht
 subst ex
 obtain rfl:u=Value.ref a:=rx
 exact jH I1 ea c k l (q s1 I1)
end
section
variable {X:Cx} {O9:C9} {σ:St} {H:Hp} {s:Shared} {A:Around} {E:C8} {Q:C8} {c:Value} {b:Bool}
end
structure Room (k:Nat) (A:Around):Prop where
 hd:A.handled=none
 dp:A.depth+3 * k+5 < recursionLimit
 un:A.units+16 * k+200 < cLine
theorem Room.mono {j k:Nat} (r:Room k A) (h:j<=k):Room j A:=⟨r.hd,by have:=r.dp;lia,by have:=r.un;lia⟩
theorem Room.deeper {k:Nat} {A:Around} (r:Room (k+1) A) (env:Env):Room k (A.deeper env) :=
 ⟨r.hd,by have:=r.dp;show A.depth+1+3 * k+5 < _;lia,by have:=r.un;show A.units+3+16 * k+200 < _;lia⟩
theorem gE {A:Around} {C:Addr} {kw:List (Str×Value)}:(A.under (.builtin "type.__call__" ⟨.ref C::us,kw⟩)).depth=A.depth+1:=by
 first | rfl | simp [Around.under,Code.weight,Code.isCreation,Code.isGuard,Code.isCaller,Code.frames,Code.isFrame,guardIds]
theorem gF {A:Around} {C:Addr} {kw:List (Str×Value)}:(A.under (.builtin "type.__call__" ⟨.ref C::us,kw⟩)).units=A.units+1:=by
 first | rfl | simp [Around.under,Code.cUnits,Code.frames,Code.isFrame]
theorem Room.make {k:Nat} {A:Around} (r:Room (k+1) A) (C:Addr) (us:List Value) (kw:List (Str×Value)):Room k (A.under (.builtin "type.__call__" ⟨.ref C::us,kw⟩)) :=
 ⟨r.hd,by have:=r.dp;rw [gE];lia,by have:=r.un;rw [gF];lia⟩
theorem Room.depth {k:Nat} {A:Around} (r:Room k A):A.depth < recursionLimit:=by have:=r.dp;lia
theorem Room.units {k:Nat} {A:Around} (r:Room k A):A.units+64 < cLine:=by have:=r.un;lia
def QiL:TA:=fun _ H Q=>Q [] H
def QiI (ta:TE) (tr:TA):TA:=fun σ H Q=>ta σ H fun x H1=>tr σ H1 fun xs H2=>Q (x::xs) H2
section
variable {X:Cx} {e:Expr} {es:List Expr} {te:TE} {t:TA} {pos:Pos}
def pa_nil:PA X [] QiL:=fun _ _ _ _ H Q I h=>Calls.spliced_nil ⟨[],H,I,.nil,h⟩
theorem Ya (ha:PE X e te) (hr:PA X es t) (hs:starEach (e::es) X.env=(false,eval e X.env)::starEach es X.env:=by rfl):PA X (e::es) (QiI te t):=by
 intro pos O9 s σ H Q I h
 rw [hs]
 show wpAny _ _ (spliced ((false,eval e X.env)::backTo pos (starEach es X.env))) _ _ s
 refine Calls.spliced_cons (thn (ha O9 s σ H _ I h) fun u s1 ⟨x,H1,I1,r1,q1⟩=>?_)
 exact thn (hr pos O9 s1 σ H1 _ I1 q1) fun us s2 ⟨xs,H2,I2,r2,q2⟩=>⟨x::xs,H2,I2,.cons r1 r2,q2⟩
def Qjp (t:TA):TE:=fun σ H Q=>t σ H fun xs H1=>xs.length<=sizeLine/\∀ p,H1 p=none->Q (.ref p) (upd H1 p (.tup xs))
def Qjm (t:TA):TE:=fun σ H Q=>t σ H fun xs H1=>xs.length<=sizeLine/\∀ p,H1 p=none->Q (.ref p) (upd H1 p (.lst xs))
theorem QgZ {x1} (h:PA X es t):PE X (.Tuple es x1 pos) (Qjp t):=by
 intro O9 s σ H Q I hq
 refine wpAny_Tuple_spliced (thn (h pos O9 s σ H _ I hq) fun us s1 ⟨xs,H1,I1,r,z,q⟩=>⟨by rw [<- r.length];exact z,?_⟩)
 have hf:H1 s1.heap.objs.size=none:=I1.hok.fresh (Ae _)
 refine ⟨.ref s1.heap.objs.size,upd H1 s1.heap.objs.size (.tup xs),I1.laid (t':=s1.toks) (fun b u e=>Ad _ e) (Ae _) ?_,rfl,q _ hf⟩
 exact ⟨z,us,r,⟨_,Au _ rfl,rfl,_,rfl⟩⟩
theorem Qdk (h:PA X es t):PE X (.List es pos) (Qjm t):=by
 intro O9 s σ H Q I hq
 refine wpAny_List_spliced (thn (h pos O9 s σ H _ I hq) fun us s1 ⟨xs,H1,I1,r,z,q⟩=>⟨by rw [<- r.length];exact z,?_⟩)
 have hf:H1 s1.heap.objs.size=none:=I1.hok.fresh (Ae _)
 refine ⟨.ref s1.heap.objs.size,upd H1 s1.heap.objs.size (.lst xs),I1.laid (t':=s1.toks) (fun b u e=>Ad _ e) (Ae _) ?_,rfl,q _ hf⟩
 exact ⟨z,us,0,r,Au _ rfl⟩
end
abbrev Sp:=List V->Hp->VK->XK->Prop
abbrev CXT:=List Env->Hp->Shared->XK->Value->Shared->Prop
structure Env0 (P:Program) (w:World) (K:Aa) (mg:Ea) (O8:Heap) (A:Around) (outer:List Env) (s:Shared) (H:Hp):Prop where
 frames:A.frames=some outer
 mod:Mod K mg O8
 bs:∀ b o,O8.get? b=some o->s.heap.get? b=some o/\H b=none
 bsz:O8.objs.size<=s.heap.objs.size
 funs:s.heap.FunFrames O8 outer
 frf:∀ b∈frs outer,H b=none
 hok:HOk P w H s.heap
 bare:AllBare s.gens
def CE (outer:List Env) (P:Program) (w:World) (H:Hp) (s:Shared) (Q:VK) (u:Value) (s':Shared):Prop :=
 ∃ v H',s'.os=s.os/\AllBare s'.gens/\Un (frs outer) [] H H' s.heap s'.heap/\HOk P w H' s'.heap/\RelV v u/\Q v H'
def CR (CX:CXT) (outer:List Env) (P:Program) (w:World) (H:Hp) (s:Shared) (Q:VK) (E:XK) (r:Result) (s':Shared):Prop :=
 match r with
 | .ok (.ret u)=>CE outer P w H s Q u s'
 | .ok _=>False
 | .error e=>CX outer H s E e s'
structure zm (P:Program) (w:World) (K:Aa) (mg:Ea) (O8:Heap) (CX:CXT) (k:Nat) (f:Addr) (fd:FuncData) (ps:List Str) (sp:Sp):Prop where
 len:∀ vs H Q E,sp vs H Q E->vs.length=ps.length
 run:∀ (A:Around) (outer:List Env) (s:Shared) (H:Hp) (args:Args) (us:List Value) (vs:List V) (Q:VK) (E:XK),Room k A->Env0 P w K mg O8 A outer s H->BindsTo s fd args (ps.zip us)->Vals vs us->sp vs H Q E ->
  codeAny (model P w) A (.call (.ref f) args) (CR CX outer P w H s Q E) s
theorem Env0.make {w:World} {K:Aa} (e:Env0 P w K mg O8 A outer s H) (C:Addr) (us:List Value) (kw:List (Str×Value)):
  Env0 P w K mg O8 (A.under (.builtin "type.__call__" ⟨.ref C::us,kw⟩)) outer s H:=⟨by first | exact e.frames | (simpa [Around.under,Code.envs,Code.isFrame,pushEnvs] using e.frames),e.mod,e.bs,e.bsz,e.funs,e.frf,e.hok,e.bare⟩
section
variable {X:Cx} {O9:C9} {σ:St} {H:Hp} {s s':Shared}
theorem Inv.env0 (I:Inv X O9 σ H s):Env0 X.prog X.w X.K X.mg X.O8 X.A X.stack s H :=
 ⟨I.ok.frames,I.ok.mod,I.bs,Bi I.ok.bsz I.sz,I.stack,I.stkFree,I.hok,I.bare⟩
theorem Inv.after (I:Inv X O9 σ H s) (h:CE X.stack X.prog X.w H s Q u s'):EP X O9 σ Q u s':=by
 obtain ⟨v,H',os,bare,un,hok,r,q⟩:=h
 obtain ⟨hh,g,d,t,os'⟩:=s'
 obtain rfl:os'=s.os:=os
 exact ⟨v,H',I.call (h':=hh) (g':=g) (d':=d) (t':=t) (ch:=[]) un hok bare (fun b z=>absurd z (by simp)),r,q⟩
end
def QiH (sp:Sp) (dvs:List V) (E:XK) (t:TA):TE:=fun σ H Q=>t σ H fun vs H1=>sp (vs++dvs) H1 Q E
def QdV (C:Addr) (m:Str) (sp:Sp) (dvs:List V) (E:XK) (ta:TE) (t:TA):TE:=fun σ H Q=>ta σ H fun x H1=>∃ a dx fs,x=.ref a/\H1 a=some (.ins C dx fs)/\fs.lookup m=none /\
 t σ H1 fun vs H2=>sp (x::(vs++dvs)) H2 Q E
def Binds (K:Aa) (fd:FuncData) (ps:List Str) (ds:List Value):Prop :=
 ∀ (s:Shared) (us:List Value),K.In s.heap->(us++ds).length=ps.length->BindsTo s fd ⟨us,[]⟩ (ps.zip (us++ds))
theorem Binds.all {K:Aa} {ps:List Str} (h:∀ us:List Value,us.length=ps.length->bindArgs fd ⟨us,[]⟩=pure (ps.zip us)):Binds K fd ps []:=fun s us _ hl=>by
 rw [Bs] at hl ⊢
 exact .of_eq (h us hl)
def YT (CX:CXT) (X:Cx) (E:XK):Prop:=∀ (O9:C9) (σ:St) (H:Hp) (s:Shared) (e:Value) (s':Shared),Inv X O9 σ H s->CX X.stack H s E e s'->X.xe e s'
section
variable {X:Cx} {CX:CXT} {k:Nat} {f C:Addr} {fd:FuncData} {ps:List Str} {sp:Sp} {dvs:List V} {ds:List Value} {E:XK} {x m:Str} {p pos apos:Pos} {e o:Expr} {es:List Expr} {ta:TE} {t:TA}
theorem gX {O9:C9} {σ:St} {H:Hp} {s:Shared} {Q:VK} {us:List Value} {vs:List V} (F:zm X.prog X.w X.K X.mg X.O8 CX k f fd ps sp) (hr:Room k X.A) (hb:Binds X.K fd ps ds) (hd:Vals dvs ds) (hx:YT CX X E)
    (I:Inv X O9 σ H s) (r:Vals vs us) (h:sp (vs++dvs) H Q E):wpAny (model X.prog X.w) X.A (call (.ref f) us) (EP X O9 σ Q) X.xe s:=by
  have r2:Vals (vs++dvs) (us++ds):=r.append hd
  have hl:(us++ds).length=ps.length:=by rw [<- r2.length];exact F.len _ _ _ _ h
  refine wpAny_call (codeAny_mono (F.run X.A X.stack s H ⟨us,[]⟩ (us++ds) (vs++dvs) Q E hr I.env0 (hb s us I.kIn hl) r2 h) fun r s' hq=>?_)
  cases r with
  | error e=>exact hx O9 σ H s e s' I hq
  | ok fl =>
    cases fl with
    | ret u=>exact I.after hq
    | next=>exact False.elim hq
    | brk=>exact False.elim hq
    | cont=>exact False.elim hq
theorem QeV (F:zm X.prog X.w X.K X.mg X.O8 CX k f fd ps sp) (hr:Room k X.A) (hg:Gl X x) (hm:X.mg x=some (.ref f)) (hk:PySem.W.keepIn X.K (.ref f)=true) (hb:Binds X.K fd ps ds) (hd:Vals dvs ds) (hx:YT CX X E)
  (ha:PA X (e::es) t) (hdb:(x==("__debug__" : Str))=false:=by decide) (he:starEach (e::es) X.env=(false,eval e X.env)::starEach es X.env:=by rfl) (hpl:(backTo pos (starEach es X.env)).any (·.1)=false:=by rfl) :
  PE X (.Call (.Name x p) (e::es) [] pos) (QiH sp dvs E t):=by
 intro O9 s σ H Q I h
 refine wpAny_Call_Name_kw (GK I hg hm ?_ hdb)
 refine PySem.W.callWith_K (h₀:=X.O8) I.ok.mod.kin hk (thn (ha pos O9 s σ H _ I h) fun us s1 ⟨vs,H1,I1,r,q⟩=>⟨I1.kIn,?_⟩) he hpl
 exact gX F hr hb hd hx I1 r q
theorem QeY {pl:Sem Bool} (he:PE X o ta) (c:Cls X.K C) (hm:uO X.K C m f) (F:zm X.prog X.w X.K X.mg X.O8 CX k f fd ps sp) (hr:Room k X.A) (hb:Binds X.K fd ps ds) (hd:Vals dvs ds) (hx:YT CX X E) (ha:PA X (e::es) t)
  (hst:starEach (e::es) X.env=(false,eval e X.env)::starEach es X.env:=by rfl) (hpl:(backTo pos (starEach es X.env)).any (·.1)=false:=by rfl)
  (ht:eval (.Call (.Attribute o m apos) (e::es) [] pos) X.env=(do
   let ov <- eval o X.env
   standAt apos.atName
   let (f,first) <- holding [ov] (getMethod ov m pl)
   callWith pos f first (backTo pos (starEach (e::es) X.env)) (backToKw pos (keywordEach [] X.env))):=by rfl) :
  PE X (.Call (.Attribute o m apos) (e::es) [] pos) (QdV C m sp dvs E ta t):=by
 intro O9 s σ H Q I h
 refine PySem.W.methodCall_KW (pl:=pl) (thn (he O9 s σ H _ I h) fun u s1 ⟨x,H1,I1,rx,a,dx,fs,ex,ea,l,q⟩=>?_) ht
 subst ex
 obtain rfl:u=Value.ref a:=rx
 refine jH I1 ea c hm l ?_
 refine PySem.W.callWith_K (first:=[.ref a]) (h₀:=X.O8) I.ok.mod.kin hm.kp (thn (ha pos O9 s1 σ H1 _ I1 q) fun us s2 ⟨vs,H2,I2,r,q2⟩=>⟨I2.kIn,?_⟩) hst hpl
 exact gX (us:=.ref a::us) (vs:=.ref a::vs) F hr hb hd hx I2 (.cons rfl r) q2
theorem Qdl {pl:Sem Bool} (he:PE X o ta) (c:Cls X.K C) (hm:uO X.K C m f) (F:zm X.prog X.w X.K X.mg X.O8 CX k f fd ps sp) (hr:Room k X.A) (hb:Binds X.K fd ps ds) (hd:Vals dvs ds) (hx:YT CX X E)
  (ht:eval (.Call (.Attribute o m apos) [] [] pos) X.env=(do
   let ov <- eval o X.env
   standAt apos.atName
   let (f,first) <- holding [ov] (getMethod ov m pl)
   callWith pos f first (backTo pos (starEach [] X.env)) (backToKw pos (keywordEach [] X.env))):=by rfl) :
  PE X (.Call (.Attribute o m apos) [] [] pos) (QdV C m sp dvs E ta QiL):=by
 intro O9 s σ H Q I h
 refine PySem.W.methodCall_KW (pl:=pl) (thn (he O9 s σ H _ I h) fun u s1 ⟨x,H1,I1,rx,a,dx,fs,ex,ea,l,q⟩=>?_) ht
 subst ex
 obtain rfl:u=Value.ref a:=rx
 refine jH I1 ea c hm l ?_
 exact PySem.W.callWith_K0 (first:=[.ref a]) I1.kIn hm.kp (gX (us:=[.ref a]) (vs:=[.ref a]) F hr hb hd hx I1 (.cons rfl .nil) q)
structure Mk (K:Aa) (C f:Addr):Prop where
 makes:PySem.W.makesIn K C=true
 init:PySem.W.findIn K (.ref C) "__init__" = some (some (.ref f))
 fn:PySem.W.isFn K (.ref f)=true
 kp:PySem.W.keepIn K (.ref C)=true
end
section
variable {X:Cx} {CX:CXT} {k:Nat} {f C:Addr} {fd:FuncData} {ps ks:List Str} {sp:Sp} {E:XK} {x m:Str} {p pos apos kpos:Pos} {e o:Expr} {es:List Expr} {kws:List Keyword} {te ta:TE} {t tk:TA} {nm:Option Str}
variable {g:List Value->List Value->List Value} {gV:List V->List V->List V}
end
structure Qt (N P:List Str) (sc:Scope):Prop where
 kind:sc.kind=.function
 co:sc.isCoroutine=false
 gen:sc.isGenerator=false
 nd:N.Nodup
 pre:N.take P.length=P
 par:∀ x∈P,sc.names.lookup x=some .local∨sc.names.lookup x=some .cell
 nofree:∀ y∈sc.names,y.2≠.free
theorem Kp {kindOf:Str->Option NameKind} {x:Str}:∀ {binds:List (Str×Value)} {m:Ea},(∀ v,(x,v)∉binds)->bindL kindOf binds m x=m x
  | [],_,_=>rfl
  | (n,v)::r,m,h=>by
    unfold bindL
    rw [Kp fun w hw=>h w (Ax _ hw)]
    split
    . have:x≠n:=by rintro rfl;exact h v List.mem_cons_self
      simp [this]
    . rfl
theorem Kn {kindOf:Str->Option NameKind} {x:Str}:∀ {binds:List (Str×Value)} {m:Ea},(∀ v,(x,v)∉binds)->bindC kindOf binds m x=m x
  | [],_,_=>rfl
  | (n,v)::r,m,h=>by
    unfold bindC
    rw [Kn fun w hw=>h w (Ax _ hw)]
    split
    . rfl
    . have:x≠n:=by rintro rfl;exact h v List.mem_cons_self
      simp [this]
theorem Ko {kindOf:Str->Option NameKind} {x:Str}:∀ {P:List Str} {vs:List Value} {i:Nat} {m:Ea},P.Nodup->P[i]?=some x->vs[i]?=some v->kindOf x=some .local ->
    bindL kindOf (P.zip vs) m x=some v
  | [],_,_,_,_,h,_,_=>by simp at h
  | _::_,[],_,_,_,_,h,_=>by simp at h
  | p::P,w::vs,0,m,nd,h1,h2,hk=>by
    simp at h1 h2;subst h1;subst h2
    show bindL kindOf ((p,w)::P.zip vs) m p=_
    unfold bindL
    rw [Kp fun v hv=>(Ck.mp nd).1 (List.of_mem_zip hv).1,C0 hk]
    simp
  | p::P,w::vs,i+1,m,nd,h1,h2,hk=>by
    show bindL kindOf ((p,w)::P.zip vs) m x=_
    unfold bindL
    exact Ko (i:=i) (Ck.mp nd).2 (by simpa using h1) (by simpa using h2) hk
theorem Km {kindOf:Str->Option NameKind} {x:Str}:∀ {P:List Str} {vs:List Value} {i:Nat} {m:Ea},P.Nodup->P[i]?=some x->vs[i]?=some v->kindOf x≠some .local ->
    bindC kindOf (P.zip vs) m x=some v
  | [],_,_,_,_,h,_,_=>by simp at h
  | _::_,[],_,_,_,_,h,_=>by simp at h
  | p::P,w::vs,0,m,nd,h1,h2,hk=>by
    simp at h1 h2;subst h1;subst h2
    show bindC kindOf ((p,w)::P.zip vs) m p=_
    unfold bindC
    rw [Kn fun v hv=>(Ck.mp nd).1 (List.of_mem_zip hv).1,Cz hk]
    simp
  | p::P,w::vs,i+1,m,nd,h1,h2,hk=>by
    show bindC kindOf ((p,w)::P.zip vs) m x=_
    unfold bindC
    exact Km (i:=i) (Ck.mp nd).2 (by simpa using h1) (by simpa using h2) hk
def start (N:List Str) (vs:List V):St:=vs.map some++List.replicate (N.length - vs.length) none
def y0 (CX:CXT) (P:Program) (w:World) (K:Aa) (mg:Ea) (O8:Heap) (N:List Str) (qual:Str) (scope:Scope) (f:Addr) (cd:Value) (A:Around) (outer:List Env) (s:Shared) (H:Hp) (E:XK):Cx where
 prog:=P
 w:=w
 K:=K
 mg:=mg
 O8:=O8
 A:=A.deeper (envOfC qual scope s.heap.objs.size f cd)
 N:=N
 s₀:=s
 H₀:=H
 env:=envOfC qual scope s.heap.objs.size f cd
 outer:=outer
 stack:=envOfC qual scope s.heap.objs.size f cd::outer
 ex:=[]
 calm:=true
 fn:=fun _=>true
 pn:=[]
 xe:=fun e s'=>wpAny (model P w) (A.deeper (envOfC qual scope s.heap.objs.size f cd)) (leaving (envOfC qual scope s.heap.objs.size f cd) e) (fun _ s''=>CX outer H s E e s'') (fun e' s''=>CX outer H s E e' s'') s'
theorem vt {sc:Scope} {n:Nat} {x:Str} (h:sc.names.lookup x=some .cell):∃ c,(cellsFrom n sc.names []).lookup x=some c:=by
 have q:=PySem.W.cellsFrom_some sc.names n [] (.inl h)
 exact Option.isSome_iff_exists.mp q
theorem Qbm {CX:CXT} {P:Program} {w:World} {K:Aa} {mg:Ea} {O8:Heap} {N ps:List Str} {qual:Str} {scope:Scope} {f:Addr} {cd:Value} {A:Around} {outer:List Env} {s s1:Shared} {H:Hp} {E:XK} {us:List Value} {vs:List V}
  (S:Qt N ps scope) (hd:A.handled=none) (e0:Env0 P w K mg O8 A outer s H) (hl:vs.length=ps.length) (r:Vals vs us)
  (x:InCallC s s.heap.objs.size (bindL (envOfC qual scope s.heap.objs.size f cd).kindOf (ps.zip us) fun _=>none) (cellsFrom (s.heap.objs.size+1) scope.names []) (bindC (envOfC qual scope s.heap.objs.size f cd).kindOf (ps.zip us) fun _=>none) s1) :
  Inv (y0 CX P w K mg O8 N qual scope f cd A outer s H E) [] (start N vs) H s1:=by
 have hpl:ps.length<=N.length:=by have:=congrArg List.length S.pre;rw [A8] at this;lia
 obtain ⟨h1,tk,rfl,hk⟩:=x.done
 have noA:∀ b:Addr,b∉(y0 CX P w K mg O8 N qual scope f cd A outer s H E).ex:=fun b z=>absurd (show b∈([]:Ee) from z) (by simp)
 refine ⟨⟨e0.mod,S.kind,rfl,rfl,Ae _,fun y z c h1 h2=>?_,fun y hy=>?_,fun y c _ h=>?_,fun _=>hd,Around.frames_deeper e0.frames,.inr ⟨rfl,rfl⟩,fun b z=>absurd z (noA b),e0.bs,e0.bsz,fun b _ _=>noA b,fun b z=>absurd z (noA b),e0.funs,e0.frf⟩,
  rfl,e0.bare,Un.kept hk,⟨_,x.toInCall.ns,fun i y v h1 h2 h3=>?_⟩,fun y c h=>⟨_,x.cell y c h⟩,e0.hok.fresh (Ae _),fun y c h=>?_,fun p hp=>absurd (show p∈([]:C9) from hp) (by simp),e0.hok.kept hk,?_⟩
 ·exact name_of_addr x.apart (PySem.mem_of_lookup h1) (PySem.mem_of_lookup h2)
 ·have hy:scope.names.lookup y=some .cell∨scope.names.lookup y=some .free:=hy
  rcases hy with hy | hy
  ·exact vt hy
  ·exact absurd rfl (S.nofree _ (PySem.mem_of_lookup hy))
 ·exact Nat.le_of_lt (x.above y c (PySem.mem_of_lookup h))
 ·have hi:i < vs.length:=by
   unfold start at h2
   by_cases hi:i < vs.length
   ·exact hi
   ·rw [Ap (by simpa using hi)] at h2
    rw [List.getElem?_replicate] at h2
    split at h2<;>cases h2
  have ha:vs[i]?=some v:=by
   unfold start at h2
   rw [Ag (by simpa using hi),Bt] at h2
   cases e:vs[i]? with
   | none=>rw [e] at h2;cases h2
   | some a=>rw [e] at h2;cases h2;rfl
  obtain ⟨u,hu,rv⟩:=r.get ha
  have hp:ps[i]?=some y:=by
   rw [<- S.pre,B7 (by lia)];exact h1
  have ndP:ps.Nodup:=by rw [<- S.pre];exact S.nd.sublist (List.take_sublist _ _)
  refine ⟨u,rv,?_⟩
  rcases S.par y (Aw hp) with k | k
  ·exact .inl ⟨k,Ko ndP hp hu k⟩
  ·obtain ⟨c,e⟩:=vt (n:=s.heap.objs.size+1) k
   refine .inr ⟨.inl k,c,e,?_⟩
   have q:=x.cell y c e
   rw [Km ndP hp hu (by show scope.names.lookup y≠_;rw [k];decide)] at q
   exact q
 ·exact e0.hok.fresh (Nat.le_of_lt (x.above y c (PySem.mem_of_lookup h)))
 ·unfold start
  show _=N.length
  rw [Am,Br,List.length_replicate]
  lia
theorem Qh3 {CX:CXT} {P:Program} {w:World} {K:Aa} {mg:Ea} {O8:Heap} {k:Nat} {f:Addr} {name qual:Str} {params:Arguments} {body:List Stmt} {scope:Scope} {dV kV doc pm cdv ct oc:Value} {an od:Option Addr}
    {osl:Array (Option Value)} {N ps:List Str} {sp:Sp} (lk:K.lookup f=some ⟨oc,od,.func (PySem.W.fnOf name qual params body scope dV kV doc pm an cdv ct),osl⟩) (hcd:PySem.W.codeIn K cdv qual=true) (S:Qt N ps scope)
    (len:∀ vs H Q E,sp vs H Q E->vs.length=ps.length)
    (hbody:∀ (A:Around) (outer:List Env) (s:Shared) (H:Hp) (vs:List V) (Q:VK) (E:XK),Room k (A.deeper (envOfC qual scope s.heap.objs.size f cdv))->sp vs H Q E ->
      ∃ t,PSs (y0 CX P w K mg O8 N qual scope f cdv A outer s H E) body t/\t { nx:=fun _ H'=>Q .non H',rt:=Q } (start N vs) H) :
    zm P w K mg O8 CX (k+1) f (PySem.W.fnOf name qual params body scope dV kV doc pm an cdv ct) ps sp:=by
  refine ⟨len,fun A outer s H args us vs Q E hr e0 hb r hsp=>?_⟩
  have hl:=len _ _ _ _ hsp
  have KX:K.In s.heap:=e0.mod.kin.keeps fun b o e=>(e0.bs b o e).1
  have lim:s.heap.NoLimit:=e0.mod.nolimit.keeps fun b o e=>(e0.bs b o e).1
  have hkind:∀ y∈ps.zip us,scope.names.lookup y.1=some .local∨(scope.names.lookup y.1=some .cell/\((cellsFrom (s.heap.objs.size+1) scope.names []).lookup y.1).isSome=true):=fun ⟨n,v⟩ hy=>by
    rcases S.par n (List.of_mem_zip hy).1 with q | q
    . exact .inl q
    . exact .inr ⟨q,PySem.W.cellsFrom_some _ _ _ (.inl q)⟩
  refine codeAny_call_function hr.depth (KX _ _ lk) rfl S.co S.gen rfl (PySem.W.codeRec_of KX hcd) (hb _ _ _ _ ?_)
  refine wpAny_newFunctionEnv_cells S.kind hkind fun env he s1 x=>?_
  subst he
  refine ⟨lim.keeps x.toInCall.keep,codeAny_func ?_⟩
  obtain ⟨t,ht,hq⟩:=hbody A outer s H vs Q E (hr.deeper _) hsp
  have I:Inv (y0 CX P w K mg O8 N qual scope f cdv A outer s H E) [] (start N vs) H s1:=Qbm S hr.hd e0 hl r x
  refine wpAny_mono (ht [] s1 (start N vs) H _ I hq) (fun fl s' hs=>?_) fun e s' hs=>hs
  have fin:∀ {σ':St} {H':Hp} {v:V} {u:Value},Inv (y0 CX P w K mg O8 N qual scope f cdv A outer s H E) [] σ' H' s'->RelV v u->Q v H'->CE outer P w H s Q u s' :=
    fun {σ' H' v u} J rv q=>⟨v,H',J.os,J.bare,J.O8,J.hok,rv,q⟩
  cases fl with
  | ret u =>
    obtain ⟨v,σ',H',J,rv,q⟩:=hs
    exact fin J rv q
  | next =>
    obtain ⟨σ',H',J,q⟩:=hs
    exact fin (v:=V.non) (u:=Value.none) J rfl q
  | brk =>
    obtain ⟨_,_,_,q⟩:=hs
    exact False.elim q
  | cont =>
    obtain ⟨_,_,_,q⟩:=hs
    exact False.elim q
section
variable {X:Cx} {x:Str} {p pos:Pos} {e:Expr} {es:List Expr} {t:TA} {id T:String} {r:List V->Hp->VK->Prop}
def tCB (r:List V->Hp->VK->Prop) (t:TA):TE:=fun σ H Q=>t σ H fun vs H1=>r vs H1 Q
theorem V4 (hc:J7 X (.builtin id) r) (hg:Gl X x) (hm:X.mg x=none) (hv:bootBuiltins x=some (.builtin id)) (ha:PA X (e::es) t) (hn:x ≠ "__name__" := by decide) (hdb:(x==("__debug__" : Str))=false:=by decide)
  (he:starEach (e::es) X.env=(false,eval e X.env)::starEach es X.env:=by rfl) (hpl:(backTo pos (starEach es X.env)).any (·.1)=false:=by rfl):PE X (.Call (.Name x p) (e::es) [] pos) (tCB r t):=by
 intro O9 s σ H Q I h
 refine wpAny_Call_Name_kw (yk I hg hm hv ?_ hn hdb)
 exact PyProof.Rows.callWith_builtin1 (thn (ha pos O9 s σ H _ I h) fun us s1 ⟨vs,H1,I1,r1,q1⟩=>hc O9 s1 σ H1 vs us Q I1 r1 q1) he hpl
theorem QbB (hc:J7 X (.type T) r) (hg:Gl X x) (hm:X.mg x=none) (hv:bootBuiltins x=some (.type T)) (ha:PA X (e::es) t) (hn:x ≠ "__name__" := by decide) (hdb:(x==("__debug__" : Str))=false:=by decide)
  (he:starEach (e::es) X.env=(false,eval e X.env)::starEach es X.env:=by rfl) (hpl:(backTo pos (starEach es X.env)).any (·.1)=false:=by rfl):PE X (.Call (.Name x p) (e::es) [] pos) (tCB r t):=by
 intro O9 s σ H Q I h
 refine wpAny_Call_Name_kw (yk I hg hm hv ?_ hn hdb)
 exact PyProof.Rows.callWith_type1 (thn (ha pos O9 s σ H _ I h) fun us s1 ⟨vs,H1,I1,r1,q1⟩=>hc O9 s1 σ H1 vs us Q I1 r1 q1) he hpl
end
end L2
namespace HT
open PySem PyProof.Rows
section
open PySem.SeqAt
open PySem.AutoSeq1 (wpAny_loadPart')
open PySem.MeetsSeq PySem.MeetsSeq2 PySem.MeetsSeq3
end
section
variable {prog:Program} {w:World} {A:Around} {E:C8} {s:Shared}
theorem cat_tup {t b:Addr} {vs ws:List Value} {Q:C8} (ht:IsTup s.heap t vs.toArray) (hb:IsTup s.heap b ws.toArray) (hv:vs≠[])
  (h1:ws=[]->Q (.ref t) s) (h2:ws≠[]->Q (.ref s.heap.objs.size) { s with heap:=s.heap.push { cls:=.type "tuple", data:=.seq (vs++ws).toArray } })
  (hsz:vs.length+ws.length<=sizeLine):wpAny (model prog w) A (binaryOp .Add (.ref t) (.ref b)) Q E s:=by
 obtain ⟨⟨cls,dd,data,sl⟩,ho,hc,n,hd⟩:=id ht
 obtain ⟨⟨cls2,dd2,data2,sl2⟩,ho2,hc2,n2,hd2⟩:=id hb
 simp only at hc hd hc2 hd2
 subst hc hd hc2 hd2
 have e:vs.toArray++ws.toArray=(vs++ws).toArray:=by simp
 by_cases hw:ws=[]
 ·exact concat_meets ⟨_,ho,rfl⟩ ⟨_,ho2,rfl⟩ noFill_tuple_add seq_tuple_add PySem.F.slot_tuple_add PySem.F.entry_tuple_add (PySem.F.args_tuple_add_2 _ _)
   (tuple_addW1 t b vs.toArray ws.toArray n n2 dd dd2 sl sl2 (by simpa using hv) (by simp [hw])) ⟨ho,ho2,h1 hw⟩
 ·refine concat_meets ⟨_,ho,rfl⟩ ⟨_,ho2,rfl⟩ noFill_tuple_add seq_tuple_add PySem.F.slot_tuple_add PySem.F.entry_tuple_add (PySem.F.args_tuple_add_2 _ _)
   (tuple_addW2 t b vs.toArray ws.toArray n n2 dd dd2 sl sl2 (by simpa using hv) (by simpa using hw) (by rw [An,An];exact hsz)) ⟨ho,ho2,?_⟩
  rw [e]
  exact h2 hw
def sIx (n d:Nat):Option Int->Nat
 | none=>d
 | some v=>if v < 0 then (v+(n:Int)).toNat else min v.toNat n
theorem sIx_nat (n d k:Nat):sIx n d (some (k:Int))=min k n:=by
 show (if (k:Int) < 0 then ((k:Int)+(n:Int)).toNat else min (k:Int).toNat n)=min k n
 rw [Cz (by lia),By]
theorem Qhn (n d:Nat) (hd:d<=n) (o:Option Int):sIx n d o<=n:=by
  cases o with
  | none=>exact hd
  | some v =>
    show (if v < 0 then (v+(n:Int)).toNat else min v.toNat n)<=n
    by_cases hv:v < 0
    . rw [C0 hv];lia
    . rw [Cz hv];exact Nat.min_le_right _ _
theorem kP (v:Int) (n d:Nat):(if v < 0 then max (v+(n:Int)) 0 else min v (n:Int))=((sIx n d (some v):Nat):Int):=by
 show (if v < 0 then max (v+(n:Int)) 0 else min v (n:Int))=(((if v < 0 then (v+(n:Int)).toNat else min v.toNat n):Nat):Int)
 by_cases hv:v < 0
 ·simp only [C0 hv];lia
 ·simp only [Cz hv];lia
theorem uQ (lo hi:Option Int) (n:Nat):Builtin.Slice.sliceAdjust lo hi 1 (n:Int)=(((sIx n 0 lo:Nat):Int),((sIx n n hi:Nat):Int)):=by
 have h1:¬ ((1:Int) < 0):=by lia
 unfold Builtin.Slice.sliceAdjust
 simp only [h1,if_false]
 refine Prod.ext ?_ ?_
 ·cases lo with
  | none=>rfl
  | some v=>exact kP v n 0
 ·cases hi with
  | none=>rfl
  | some v=>exact kP v n n
theorem gR (i j:Nat):Builtin.Slice.slicePlaces (i:Int) (j:Int) 1=j - i:=by
 unfold Builtin.Slice.slicePlaces
 have h1:(1:Int) > 0:=by lia
 simp only [h1,if_true,Int.ediv_one]
 split<;>lia
theorem Uw {o:Option Int} {Q:Option Int->Shared->Prop} (p:IsPart v o) (h:Q o s):wpAny (model prog w) A (Builtin.Slice.slicePartIndex v) Q E s:=by
 cases p with
 | none=>exact slicePart_none h
 | int i t=>exact slicePart_int h
theorem sliceApplied_gen {sl:Addr} {lo hi:Option Int} {n:Nat} {Q:Int×Int×Nat->Shared->Prop} (hs:s.heap.IsSliceOf sl vl vu .none) (pl:IsPart vl lo) (pu:IsPart vu hi)
  (h:Q (((sIx n 0 lo:Nat):Int),1,sIx n n hi - sIx n 0 lo) s):wpAny (model prog w) A (Builtin.Slice.sliceApplied (.ref sl) (pure (n:Int))) Q E s:=by
 obtain ⟨os,hos,hcs,hds⟩:=id hs
 unfold Builtin.Slice.sliceApplied Builtin.Slice.sliceFields
 refine Cy (Cy (wpAny_field hos hds (x:=vl) rfl (Cy (wpAny_field hos hds (x:=vu) rfl (Cy (wpAny_field hos hds (x:=.none) rfl (C1 ?_)))))))
 refine Cy (slicePart_none ?_)
 show wpAny _ _ (if ((1:Int)==0)=true then _ else _) _ _ s
 rw [Cz (by decide)]
 refine Cy (Uw pl (Cy (Uw pu (Cy (C1 ?_)))))
 show wpAny _ _ (match Builtin.Slice.sliceAdjust lo hi 1 (n:Int) with | (lo,hi)=>pure (lo,(1:Int),Builtin.Slice.slicePlaces lo hi 1)) _ _ s
 rw [uQ lo hi n]
 show wpAny _ _ (pure (((sIx n 0 lo:Nat):Int),(1:Int),Builtin.Slice.slicePlaces ((sIx n 0 lo:Nat):Int) ((sIx n n hi:Nat):Int) 1)) _ _ s
 rw [gR]
 exact C1 h
theorem Qdr (xs:Array Value) (i k:Nat):((List.range k).filterMap fun (m:Nat)=>xs[((i:Int)+(m:Int) * 1).toNat]?).toArray=((xs.toList.drop i).take k).toArray:=by
 have e:(fun (m:Nat)=>xs[((i:Int)+(m:Int) * 1).toNat]?)=fun m=>xs[i+m]?:=by
  funext m
  have:((i:Int)+(m:Int) * 1).toNat=i+m:=by lia
  rw [this]
 rw [e]
 have:=pick_run xs i k
 rw [List.filterMap_map] at this
 have e2:((fun x=>xs[x]?)∘fun x=>i+x)=fun m=>xs[i+m]?:=rfl
 rw [e2] at this
 rw [this]
theorem getItem_tuple_cut {t sl:Addr} {items:Array Value} {lo hi:Option Int} {Q:C8} (ht:IsTup s.heap t items) (hs:s.heap.IsSliceOf sl vl vu .none) (pl:IsPart vl lo) (pu:IsPart vu hi)
  (hw:¬ (sIx items.size 0 lo=0/\sIx items.size items.size hi=items.size))
  (h:Q (.ref s.heap.objs.size) { s with heap:=s.heap.push { cls:=.type "tuple", data:=.seq ((items.toList.drop (sIx items.size 0 lo)).take (sIx items.size items.size hi - sIx items.size 0 lo)).toArray } })
  (hsz:items.size<=sizeLine):wpAny (model prog w) A (getItem (.ref t) (.ref sl)) Q E s:=by
 have htake:sizeOk (.seq ((items.toList.drop (sIx items.size 0 lo)).take (sIx items.size items.size hi - sIx items.size 0 lo)).toArray):=by
  show ((items.toList.drop (sIx items.size 0 lo)).take (sIx items.size items.size hi - sIx items.size 0 lo)).toArray.size<=sizeLine
  rw [An,A8,Bq,Array.length_toList]
  lia
 have hj:sIx items.size items.size hi<=items.size:=Qhn _ _ (Ae _) hi
 obtain ⟨os,hos,hcs,hds⟩:=id hs
 have hTs:s.TypeIs (.ref sl) "slice" := ⟨os,hos,hcs⟩
 unfold getItem
 try with_reducible refine wpAny_holding ?_
 first | refine Cy (C1 ?_) | skip
 refine Cy (wpAny_sequenceKey ht.typeIs (by decide) ?_)
 refine Cy (wpAny_callSpecial?_slot (name:=Str.ofString "__getitem__") ht.typeIs PyProof.Rows.slot_tuple_getitem
  (wpAny_call_entry PyProof.Rows.slot_tuple_getitem ht.typeIs entry_tuple_getitem ?_ (args_tuple_getitem _ _)))
 show wpAny _ _ (Builtin.Tuple.tupleItemsOf (.ref t) >>= _) _ _ s
 refine Cy (tupleItemsOf_ ht ?_)
 refine Cy (wpAny_typeOf hTs ?_)
 rw [C0 (by decide)]
 refine Cy (sliceApplied_gen hs pl pu ?_)
 have hno:¬ ((((sIx items.size 0 lo:Nat):Int)==0&&(1:Int)==1&&(sIx items.size items.size hi - sIx items.size 0 lo)==items.size)=true):=by
  intro q
  rw [Bb,Bb] at q
  have q1:((sIx items.size 0 lo:Nat):Int)=0:=eq_of_beq q.1.1
  have q2:sIx items.size items.size hi - sIx items.size 0 lo=items.size:=eq_of_beq q.2
  exact hw ⟨by lia,by lia⟩
 show wpAny _ _ (if (((sIx items.size 0 lo:Nat):Int)==0&&(1:Int)==1&&(sIx items.size items.size hi - sIx items.size 0 lo)==items.size)=true then _ else _) _ _ s
 rw [Cz hno,Qdr]
 first
  | exact Cy (m:=Builtin.Tuple.tupleExact _) (wpAny_newObj_type (C1 ⟨_,rfl,C1 h⟩) htake)
  | exact Cy (m:=Builtin.Tuple.tupleExact _) (wpAny_newObj_type (Cy (C1 (C1 ⟨_,rfl,C1 h⟩))) htake)
  | exact Cy (Cy (m:=Builtin.Tuple.tupleExact _) (wpAny_newObj_type (C1 (C1 ⟨_,rfl,C1 h⟩)) htake))
  | exact Cy (Cy (m:=Builtin.Tuple.tupleExact _) (wpAny_newObj_type (C1 ⟨_,rfl,C1 h⟩) htake))
end
end HT
namespace L2
open PySem PySem.Spec PyProof.Rows
abbrev TO:=St->Hp->(Option Int->Hp->Prop)->Prop
def PO (X:Cx) (e:Option Expr) (t:TO):Prop :=
  ∀ (O9 : List (Addr × Obj)) (s : Shared) (σ : St) (H : Hp) (Q : Option Int -> Hp -> Prop), Inv X O9 σ H s -> t σ H Q ->
    wpAny (model X.prog X.w) X.A (evalPart e X.env) (fun u s'=>∃ o H',Inv X O9 σ H' s'/\IsPart u o/\Q o H') X.xe s
def Qfz:TO:=fun _ H Q=>Q none H
def QiN (t:TE):TO:=fun σ H Q=>t σ H fun x H1=>∃ i,x=.int i/\Q (some i) H1
section
variable {X:Cx} {e:Expr} {te:TE} {lo hi:Option Expr} {tl th:TO} {pos p2:Pos}
theorem Qe7:PO X none Qfz:=by
 intro O9 s σ H Q I h
 rw [evalPart_none]
 exact C1 ⟨none,H,I,.none,h⟩
theorem Qe8 (h:PE X e te):PO X (some e) (QiN te):=by
 intro O9 s σ H Q I hw
 rw [evalPart_some]
 refine thn (h O9 s σ H _ I hw) fun u s1 ⟨x,H1,I1,r1,q1⟩=>?_
 obtain ⟨i,rfl,q⟩:=q1
 obtain ⟨t,rfl⟩:=r1
 exact ⟨some i,H1,I1,.int i t,q⟩
def SlR (X:Cx) (r:V->Option Int->Option Int->Hp->VK->Prop):Prop :=
  ∀ (O9 : List (Addr × Obj)) (s : Shared) (σ : St) (H : Hp) (x : V) (v vl vu : Value) (lo hi : Option Int) (sl : Addr) (Q : VK), Inv X O9 σ H s -> RelV x v -> s.heap.IsSliceOf sl vl vu .none -> IsPart vl lo -> IsPart vu hi -> r x lo hi H Q ->
    ∃ T id,typeLookup (.type T) "__getitem__" = pure (some (.builtin id))/\s.TypeIs v T/\wpAny (model X.prog X.w) X.A (getItem v (.ref sl)) (EP X O9 σ Q) X.xe s
def tSl (r:V->Option Int->Option Int->Hp->VK->Prop) (te:TE) (tl th:TO):TE:=fun σ H Q=>te σ H fun x H1=>tl σ H1 fun l H2=>th σ H2 fun u H3=>r x l u H3 Q
theorem Qdm {r:V->Option Int->Option Int->Hp->VK->Prop} (hr:SlR X r) (he:PE X e te) (hl:PO X lo tl) (hu:PO X hi th):PE X (.Subscript e (.Slice lo hi none p2) pos) (tSl r te tl th):=by
 intro O9 s σ H Q I h
 refine Subscript_ (thn (he O9 s σ H _ I h) fun v s1 ⟨x,H1,I1,r1,q1⟩=>?_)
 refine wpAny_Slice (thn (hl O9 s1 σ H1 _ I1 q1) fun vl s2 ⟨l,H2,I2,pl,q2⟩=>thn (hu O9 s2 σ H2 _ I2 q2) fun vu s3 ⟨u,H3,I3,pu,q3⟩=>?_)
 rw [evalPart_none]
 refine C1 ?_
 have I4:Inv X O9 σ H3 { s3 with heap:=s3.heap.push { cls:=.type "slice", data:=.fields #[vl,vu,.none] } }:=I3.kept (t':=s3.toks) fun b ob q=>Ad _ q
 obtain ⟨T,id,hT,ht,hg⟩:=hr O9 { s3 with heap:=s3.heap.push { cls:=.type "slice", data:=.fields #[vl,vu,.none] } } σ H3 x v vl vu l u s3.heap.objs.size Q I4 r1 (Heap.IsSliceOf.new ..) pl pu q3
 show wpAny (model X.prog X.w) X.A (subscriptTail e (.Slice lo hi none p2) v (.ref s3.heap.objs.size)) (EP X O9 σ Q) X.xe { s3 with heap:=s3.heap.push { cls:=.type "slice", data:=.fields #[vl,vu,.none] } }
 exact tail_any (ops:=[.ref s3.heap.objs.size,v]) ht hT hg (by with_unfolding_all rfl)
def vB (xs:List V) (lo hi:Option Int):List V:=(xs.drop (HT.sIx xs.length 0 lo)).take (HT.sIx xs.length xs.length hi - HT.sIx xs.length 0 lo)
theorem yA (xs:List V) (lo hi:Option Int):(vB xs lo hi).length<=xs.length:=by
 unfold vB
 rw [A8,Bq]
 lia
def Qjg (K:Aa):V->Option Int->Option Int->Hp->VK->Prop:=fun x lo hi H Q=>∃ a xs,x=.ref a/\SqT K H a xs /\
 ¬ (HT.sIx xs.length 0 lo=0/\HT.sIx xs.length xs.length hi=xs.length)/\∀ p,H p=none->Q (.ref p) (upd H p (.tup (vB xs lo hi)))
theorem Qho:SlR X (Qjg X.K):=by
 intro O9 s σ H x v vl vu lo hi sl Q I rx hs pl pu h
 obtain ⟨a,xs,rfl,hx,hw,q⟩:=h
 cases rx
 obtain ⟨its,r,ht,hz⟩:=I.tuple hx
 have hlen:its.toArray.size=xs.length:=by rw [An];exact r.length.symm
 refine ⟨"tuple", _,PyProof.Rows.slot_tuple_getitem.lookup,ht.typeIs,?_⟩
 refine HT.getItem_tuple_cut ht hs pl pu (by rw [hlen];exact hw) ?_ (by rw [hlen];exact hz)
 rw [hlen]
 refine ⟨.ref s.heap.objs.size,_,I.laid (t':=s.toks) (o:=.tup (vB xs lo hi)) (fun b ob q=>Ad _ q) (Ae _) ?_,rfl,q _ (I.hok.fresh (Ae _))⟩
 exact ⟨Bi (yA xs lo hi) hz,_,(r.drop (HT.sIx xs.length 0 lo)).take (HT.sIx xs.length xs.length hi - HT.sIx xs.length 0 lo),IsTup.new _ _⟩
def Qix (K:Aa):R2:=fun x y H Q=>∃ a b xs ys,x=.ref a/\y=.ref b/\SqT K H a xs/\SqT K H b ys/\xs≠[]/\xs.length+ys.length<=sizeLine /\
 (ys=[]->Q (.ref a) H)/\(ys≠[]->∀ p,H p=none->Q (.ref p) (upd H p (.tup (xs++ys))))
theorem Vals.nil_iff {xs:List V} {us:List Value} (r:Vals xs us):us=[]↔xs=[]:=by
 cases r with
 | nil=>simp
 | cons _ _=>simp
theorem QeP:OpR X (binaryOp .Add) (Qix X.K):=by
 intro O9 s σ H x y v u Q I rx ry h
 obtain ⟨a,b,xs,ys,rfl,rfl,ha,hb,hx,hz,q1,q2⟩:=h
 cases rx
 cases ry
 obtain ⟨its,r1,p1,_⟩:=I.tuple ha
 obtain ⟨its2,r2,p2,_⟩:=I.tuple hb
 refine HT.cat_tup p1 p2 (fun z=>hx (r1.nil_iff.mp z)) (fun z=>⟨.ref a,H,I,rfl,q1 (r2.nil_iff.mp z)⟩) (fun z=>?_) (by rw [<- r1.length,<- r2.length];exact hz)
 refine ⟨.ref s.heap.objs.size,_,I.laid (t':=s.toks) (o:=.tup (xs++ys)) (fun b ob q=>Ad _ q) (Ae _) ?_,rfl,q2 (fun w=>z (r2.nil_iff.mpr w)) _ (I.hok.fresh (Ae _))⟩
 exact ⟨by rw [Am];exact hz,_,r1.append r2,IsTup.new _ _⟩
end
def ixN (n:Nat) (i:Int):Option Nat:=if 0<=i then (if i < n then some i.toNat else none) else if -(n:Int)<=i then some (i+n).toNat else none
def atI {α:Type} (xs:List α) (i:Int):Option α:=(ixN xs.length i).bind fun j=>xs[j]?
theorem Qao {n:Nat} {i:Int} {j:Nat} (h:ixN n i=some j):seqIndex? i n=some j/\j < n /\ -(n:Int)<=i/\i < n:=by
 unfold ixN at h
 by_cases h0:0<=i
 ·rw [C0 h0] at h
  by_cases h1:i < n
  ·rw [C0 h1] at h
   have e:i.toNat=j:=Aj h
   exact ⟨by rw [seqIndex_of h0 h1,e],by lia,by lia,h1⟩
  ·rw [Cz h1] at h;cases h
 ·rw [Cz h0] at h
  by_cases h1:-(n:Int)<=i
  ·rw [C0 h1] at h
   have e:(i+n).toNat=j:=Aj h
   exact ⟨by rw [seqIndex_neg (by lia) h1,e],by lia,h1,by lia⟩
  ·rw [Cz h1] at h;cases h
theorem kL {α:Type} {xs:List α} {i:Int} {v:α} (h:atI xs i=some v):∃ j,seqIndex? i xs.length=some j/\xs[j]?=some v/\j < xs.length /\ -(xs.length:Int)<=i/\i < xs.length:=by
  unfold atI at h
  cases e:ixN xs.length i with
  | none=>rw [e] at h;cases h
  | some j =>
    rw [e] at h
    obtain ⟨h1,h2,h3,h4⟩:=Qao e
    exact ⟨j,h1,h,h2,h3,h4⟩
theorem qB {α:Type} {xs:List α} {j:Nat} {v:α} (h:xs[j]?=some v):atI xs (j:Int)=some v:=by
 have hj:j < xs.length:=(Ac.mp h).1
 have e:ixN xs.length (j:Int)=some j:=by
  unfold ixN
  rw [C0 (by lia),C0 (by lia)];simp
 unfold atI;rw [e];exact h
theorem Qb2 {α:Type} (xs:List α) (v:α):atI (xs++[v]) (-1)=some v:=by
 have hl:(xs++[v]).length=xs.length+1:=by simp
 have e:ixN (xs++[v]).length (-1)=some xs.length:=by
  unfold ixN
  rw [hl,Cz (by decide),C0 (by lia)]
  congr 1
  lia
 unfold atI
 rw [e]
 show (xs++[v])[xs.length]?=some v
 simp
def Gi (b:Expr):Prop:=∀ o i,subscripted b false o i=operate [o,i] (getItem o i)
def IxR (X:Cx) (r:R2):Prop :=
  ∀ (value slice : Expr) (O9 : List (Addr × Obj)) (s : Shared) (σ : St) (H : Hp) (x y : V) (v u : Value) (Q : VK), Inv X O9 σ H s -> RelV x v -> RelV y u -> r x y H Q ->
    subscripted slice false v u=operate [v,u] (getItem v u)->wpAny (model X.prog X.w) X.A (subscriptTail value slice v u) (EP X O9 σ Q) X.xe s
def MtR (X:Cx) (id:String) (r:V->List V->Hp->VK->Prop):Prop :=
  ∀ (O9 : List (Addr × Obj)) (s : Shared) (σ : St) (H : Hp) (x : V) (xs : List V) (v : Value) (us : List Value) (Q : VK), Inv X O9 σ H s -> RelV x v -> Vals xs us -> r x xs H Q ->
    wpAny (model X.prog X.w) X.A (call (.builtin id) (v::us)) (EP X O9 σ Q) X.xe s
section
variable {X:Cx} {a b:Expr} {ta tb:TE} {pos:Pos}
theorem QfX {r:R2} (hr:IxR X r) (ha:PE X a ta) (hb:PE X b tb) (hs:Gi b):PE X (.Subscript a b pos) (tOp r ta tb):=by
 intro O9 s σ H Q I h
 exact Subscript_ (Qf7 ha hb I h fun v u s2 x y H2 I2 rx ry q=>hr a b O9 s2 σ H2 x y v u Q I2 rx ry q (hs _ _))
def Qjd (K:Aa):R2:=fun x y H Q=>∃ p xs i v,x=.ref p/\y=.int i/\SqL K H p xs/\atI xs i=some v/\Q v H
def Qje (K:Aa):R2:=fun x y H Q=>∃ p xs i v,x=.ref p/\y=.int i/\SqT K H p xs/\atI xs i=some v/\Q v H
theorem Qap:IxR X (Qjd X.K):=by
 intro value slice O9 s σ H x y v u Q I rx ry h hs
 obtain ⟨p,xs,i,z,rfl,rfl,hq,he,q⟩:=h
 cases rx
 obtain ⟨t,rfl⟩:=ry
 obtain ⟨its,r,pl,hz⟩:=I.list hq
 obtain ⟨j,h1,h2,h3,h4,h5⟩:=kL he
 obtain ⟨w,ew,rw'⟩:=r.get h2
 have hl:=r.length
 have hn:=GM
 have fin:EP X O9 σ Q w s:=⟨z,H,I,rw',q⟩
 by_cases h0:0<=i
 ·have hj:i.toNat=j:=by
   rw [seqIndex_of h0 h5] at h1
   exact Aj h1
  exact item_listR pl.isList h0 (by lia) (by rw [hj];simpa using ew) fin hs
 ·have hj:(i+(its.toArray.size:Int)).toNat=j:=by
   rw [seqIndex_neg (by lia) h4] at h1
   rw [An,<- hl]
   exact Aj h1
  exact subscriptTail_builtinR (x:=w) pl.isList.typeIs slot_list_getitem.lookup
   (wpAny_getItem_list_neg (Q:=fun r s'=>r=w/\EP X O9 σ Q r s') pl.isList (by lia) (by rw [An]<;>lia) (by lia) (by rw [hj];simpa using ew) ⟨rfl,fin⟩) hs
theorem Qgs:IxR X (Qje X.K):=by
 intro value slice O9 s σ H x y v u Q I rx ry h hs
 obtain ⟨p,xs,i,z,rfl,rfl,hq,he,q⟩:=h
 cases rx
 obtain ⟨t,rfl⟩:=ry
 obtain ⟨its,r,pl,hz⟩:=I.tuple hq
 obtain ⟨j,h1,h2,h3,h4,h5⟩:=kL he
 obtain ⟨w,ew,rw'⟩:=r.get h2
 have hl:=r.length
 have hn:=GM
 have fin:EP X O9 σ Q w s:=⟨z,H,I,rw',q⟩
 exact subscriptTail_builtinR (x:=w) pl.typeIs slot_tuple_getitem.lookup
  (getItem_tuple (j:=j) (Q:=fun r s'=>r=w/\EP X O9 σ Q r s') pl (by lia) (by lia) (by rw [An,<- hl];exact h1) (by simpa using ew) ⟨rfl,fin⟩) hs
theorem gG (its:List Value) (n j:Nat) (u:Value):Obj.mapSeq (·.setIfInBounds j u) { cls:=.type "list", data:=.seq its.toArray n }={ cls:=.type "list", data:=.seq (its.set j u).toArray n }:=by
 simp [Obj.mapSeq]
theorem Inv.lst {H:Hp} {p:Addr} (I:Inv X O9 σ H s) (h:H p=some (.lst xs)):
  ∃ (its:List Value) (n:Nat),Vals xs its/\s.heap.get? p=some { cls:=.type "list", data:=.seq its.toArray n }/\xs.length<=sizeLine:=by
 obtain ⟨z,its,n,r,e⟩:=I.hok p _ h
 exact ⟨its,n,r,e,z⟩
theorem Inv.lstUpd {H:Hp} {p:Addr} {xs ys:List V} {its its':List Value} {n n':Nat} {f:Obj->Obj} (I:Inv X O9 σ H s) (h:H p=some (.lst xs))
  (ho:s.heap.get? p=some { cls:=.type "list", data:=.seq its.toArray n }) (hf:f { cls:=.type "list", data:=.seq its.toArray n }={ cls:=.type "list", data:=.seq its'.toArray n' }) (r:Vals ys its') (hz:ys.length<=sizeLine) (t:Nat) :
  Inv X O9 σ (upd H p (.lst ys)) { s with heap:=s.heap.update p f,toks:=t }:=by
 have e:(s.heap.update p f).get? p=some { cls:=.type "list", data:=.seq its'.toArray n' }:=by
  rw [Heap.get?_update_self f ho (by rw [hf]<;>rfl),hf]
 refine I.write (x:=p) (e:=p) (by rw [h];trivial) (.inl rfl) (fun b u hb q=>(Heap.get?_update_other _ _ (Ne.symm hb)).trans q) ⟨_,e⟩ ?_
 exact ⟨hz,its',n',r,e⟩
def QiB:V->V->V->Hp->(Hp->Prop)->Prop:=fun o i v H Q=>∃ p xs k j,o=.ref p/\i=.int k/\H p=some (.lst xs)/\ixN xs.length k=some j/\Q (upd H p (.lst (xs.set j v)))
theorem QdK:Qec X QiB:=by
 intro O9 s σ H o i v ov iv u Q I ro ri rv h
 obtain ⟨p,xs,k,j,rfl,rfl,hp,hj,q⟩:=h
 cases ro
 obtain ⟨t,rfl⟩:=ri
 obtain ⟨its,n,r,ho,hz⟩:=I.lst hp
 obtain ⟨h1,h2,h3,h4⟩:=Qao hj
 have hl:=r.length
 have hn:=GM
 have I':Inv X O9 σ (upd H p (.lst (xs.set j v))) { s with heap:=s.heap.update p (Obj.mapSeq (·.setIfInBounds j u)) } :=
  I.lstUpd hp ho (gG its n j u) (r.set rv j) (by rw [List.length_set];exact hz) s.toks
 by_cases h0:0<=k
 ·have hk:k.toNat=j:=by
   rw [seqIndex_of h0 h4] at h1
   exact Aj h1
  exact PySem.W.ki_setAt ho h0 (by lia) (by rw [An,<- hl];exact h4) (by rw [hk];exact ⟨_,I',q⟩)
 ·have hk:(k+(its.toArray.size:Int)).toNat=j:=by
   rw [seqIndex_neg (by lia) h3] at h1
   rw [An,<- hl]
   exact Aj h1
  exact PySem.W.ki_setBack ho (by lia) (by rw [An,<- hl];exact h3) (by lia) (by rw [hk];exact ⟨_,I',q⟩)
theorem G4 (lo hi:Option Int) (n:Nat):(sliceBounds lo hi none n).1=((HT.sIx n 0 lo:Nat):Int)/\(sliceBounds lo hi none n).2.1=((HT.sIx n n hi:Nat):Int)/\(sliceBounds lo hi none n).2.2=1:=by
  refine ⟨?_,?_,rfl⟩
  . cases lo with
    | none=>simp [sliceBounds,HT.sIx]
    | some i =>
      simp only [sliceBounds,HT.sIx,Option.getD_none,show (1:Int) > 0 by decide,if_true]
      by_cases h:i < 0
      . simp only [h,if_true]<;>lia
      . simp only [h,if_false]<;>lia
  . cases hi with
    | none=>simp [sliceBounds,HT.sIx]
    | some i =>
      simp only [sliceBounds,HT.sIx,Option.getD_none,show (1:Int) > 0 by decide,if_true]
      by_cases h:i < 0
      . simp only [h,if_true]<;>lia
      . simp only [h,if_false]<;>lia
theorem Kh (its:List Value) (lo hi:Option Int):slicePick its.toArray lo hi none=((its.drop (HT.sIx its.length 0 lo)).take (HT.sIx its.length its.length hi - HT.sIx its.length 0 lo)).toArray:=by
 obtain ⟨h1,h2,h3⟩:=G4 lo hi its.toArray.size
 unfold slicePick
 rw [h1,h2,h3]
 simp only [sliceRange_one,pick_run,An]<;>rfl
def Qjf (K:Aa):V->Option Int->Option Int->Hp->VK->Prop:=fun x lo hi H Q=>∃ a xs,x=.ref a/\SqL K H a xs/\∀ p,H p=none->Q (.ref p) (upd H p (.lst (vB xs lo hi)))
theorem Qfv:SlR X (Qjf X.K):=by
 intro O9 s σ H x v vl vu lo hi sl Q I rx hs pl pu h
 obtain ⟨a,xs,rfl,hx,q⟩:=h
 cases rx
 obtain ⟨its,r,ht,hz⟩:=I.list hx
 have hlen:=r.length
 refine ⟨"list", _,slot_list_getitem.lookup,ht.isList.typeIs,?_⟩
 refine wpAny_getItem_list_slice ht.isList hs pl pu .none (by simp) ?_ (by rw [An]<;>lia)
 rw [Kh,<- hlen]
 refine ⟨.ref s.heap.objs.size,_,I.laid (t':=s.toks) (o:=.lst (vB xs lo hi)) (fun b ob q=>Ad _ q) (Ae _) ?_,rfl,q _ (I.hok.fresh (Ae _))⟩
 exact ⟨Bi (yA xs lo hi) hz,_,0,(r.drop (HT.sIx xs.length 0 lo)).take (HT.sIx xs.length xs.length hi - HT.sIx xs.length 0 lo),Au _ rfl⟩
def YG:V->Bool
 | .non=>true
 | .bl _=>true
 | .int _=>true
 | .str _=>true
 | _=>false
def eqV:V->V->Bool
 | .non,.non=>true
 | .bl a,.bl b=>a==b
 | .bl a,.int b=>(if a then 1 else 0)==b
 | .int a,.bl b=>a==(if b then 1 else 0)
 | .int a,.int b=>a==b
 | .str a,.str b=>a==b
 | _,_=>false
theorem Qgl (ry:RelV y u) (rx:RelV x v) (fy:YG y=true) (fx:YG x=true):SeqAt.EqAt A s u v (eqV y x):=by
  cases y with
  | non =>
    cases ry
    cases x with
    | non=>cases rx;exact SeqAt.EqAt.same _
    | bl b=>cases rx;exact SeqAt.EqAt.none_bool b
    | int b=>obtain ⟨t,rfl⟩:=rx;exact SeqAt.EqAt.none_int b t
    | str b=>obtain ⟨t,rfl⟩:=rx;exact SeqAt.EqAt.none_str b t
    | _=>exact absurd (show false=true from fx) Bx
  | bl a =>
    cases ry
    cases x with
    | non=>cases rx;exact SeqAt.EqAt.bool_none a
    | bl b=>cases rx;exact SeqAt.EqAt.bool_bool a b
    | int b=>obtain ⟨t,rfl⟩:=rx;exact SeqAt.EqAt.bool_int a b t
    | str b=>obtain ⟨t,rfl⟩:=rx;exact SeqAt.EqAt.bool_str a b t
    | _=>exact absurd (show false=true from fx) Bx
  | int a =>
    obtain ⟨t',rfl⟩:=ry
    cases x with
    | non=>cases rx;exact SeqAt.EqAt.int_none a t'
    | bl b=>cases rx;exact SeqAt.EqAt.int_bool a t' b
    | int b=>obtain ⟨t,rfl⟩:=rx;exact SeqAt.EqAt.int_int a t' b t
    | str b=>obtain ⟨t,rfl⟩:=rx;exact SeqAt.EqAt.int_str a t' b t
    | _=>exact absurd (show false=true from fx) Bx
  | str a =>
    obtain ⟨t',rfl⟩:=ry
    cases x with
    | non=>cases rx;exact SeqAt.EqAt.str_none a t'
    | bl b=>cases rx;exact SeqAt.EqAt.str_bool a t' b
    | int b=>obtain ⟨t,rfl⟩:=rx;exact SeqAt.EqAt.str_int a t' b t
    | str b=>obtain ⟨t,rfl⟩:=rx;exact SeqAt.EqAt.str_str a t' b t
    | _=>exact absurd (show false=true from fx) Bx
  | _=>exact absurd (show false=true from fy) Bx
def eqU (x:V) (u:Value):Bool:=match u with
 | .none=>eqV .non x
 | .bool b=>eqV (.bl b) x
 | .int i _=>eqV (.int i) x
 | .str z _=>eqV (.str z) x
 | _=>false
theorem Qct (r:RelV y u) (f:YG y=true):eqU x u=eqV y x:=by
 cases y with
 | non=>cases r;rfl
 | bl b=>cases r;rfl
 | int i=>obtain ⟨t,rfl⟩:=r;rfl
 | str z=>obtain ⟨t,rfl⟩:=r;rfl
 | _=>exact absurd (show false=true from f) Bx
theorem jT:∀ {xs:List V} {us:List Value},Vals xs us->xs.all YG=true->us.any (eqU x)=xs.any fun y=>eqV y x
  | _,_,.nil,_=>rfl
  | y::xs,u::us,.cons r t,f=>by
    rw [Cs,Bb] at f
    rw [Ci,Ci,Qct r f.1,jT t f.2]
theorem zL (rx:RelV x v) (fx:YG x=true):∀ {xs:List V} {us:List Value},Vals xs us->xs.all YG=true->∀ u∈us,SeqAt.EqAt A s u v (eqU x u)
  | _,_,.nil,_=>fun u hu=>by cases hu
  | y::xs,u::us,.cons r t,f=>fun u' hu=>by
    rw [Cs,Bb] at f
    rcases Bj.mp hu with rfl | hu
    . rw [Qct r f.1];exact Qgl r rx f.1 fx
    . exact zL rx fx t f.2 u' hu
def inV (x:V) (xs:List V):Bool:=xs.any fun y=>eqV y x
def rIn (K:Aa) (neg:Bool):R2:=fun x y H Q=>∃ p xs,y=.ref p/\(SqL K H p xs∨SqT K H p xs)/\YG x=true/\xs.all YG=true/\Q (.bl (if neg then !inV x xs else inV x xs)) H
theorem Qby:OpR X (compareOp .In) (rIn X.K false):=by
 intro O9 s σ H x y v u Q I rx ry h
 obtain ⟨p,xs,rfl,hq,fx,fs,q⟩:=h
 cases ry
 rcases hq with hq | hq
 ·obtain ⟨its,r,pl,hz⟩:=I.list hq
  refine SeqAt.in_listAt (eqU x) pl.isList (fun w hw=>zL rx fx r fs w (by simpa using hw)) ⟨.bl _,H,I,rfl,?_⟩
  rw [show its.toArray.any (eqU x)=its.any (eqU x) by simp,jT r fs]
  exact q
 ·obtain ⟨its,r,pl,hz⟩:=I.tuple hq
  refine SeqAt.in_tupleAt (eqU x) pl (fun w hw=>zL rx fx r fs w (by simpa using hw)) ⟨.bl _,H,I,rfl,?_⟩
  rw [show its.toArray.any (eqU x)=its.any (eqU x) by simp,jT r fs]
  exact q
theorem GP:OpR X (compareOp .NotIn) (rIn X.K true):=by
 intro O9 s σ H x y v u Q I rx ry h
 obtain ⟨p,xs,rfl,hq,fx,fs,q⟩:=h
 cases ry
 rcases hq with hq | hq
 ·obtain ⟨its,r,pl,hz⟩:=I.list hq
  refine SeqAt.notIn_listAt (eqU x) pl.isList (fun w hw=>zL rx fx r fs w (by simpa using hw)) ⟨.bl _,H,I,rfl,?_⟩
  rw [show its.toArray.any (eqU x)=its.any (eqU x) by simp,jT r fs]
  exact q
 ·obtain ⟨its,r,pl,hz⟩:=I.tuple hq
  refine SeqAt.notIn_tupleAt (eqU x) pl (fun w hw=>zL rx fx r fs w (by simpa using hw)) ⟨.bl _,H,I,rfl,?_⟩
  rw [show its.toArray.any (eqU x)=its.any (eqU x) by simp,jT r fs]
  exact q
theorem qE:J7 X (.builtin "len") (fun xs H Q=>∃ p ys,xs=[.ref p]/\(SqL X.K H p ys∨SqT X.K H p ys)/\Q (.int ys.length) H):=by
 intro O9 s σ H xs us Q I r h
 obtain ⟨p,ys,rfl,hq,q⟩:=h
 obtain ⟨u,rfl,rx⟩:=UH r
 cases rx
 have hn:=GM
 rcases hq with hq | hq
 ·obtain ⟨its,r',pl,hz⟩:=I.list hq
  have hlen:=r'.length
  exact Calls.call_len_list pl.isList (by simp only [An]<;>lia) ⟨.int ys.length,H,I.tok _,⟨s.toks+1,by rw [An,hlen]⟩,q⟩
 ·obtain ⟨its,r',pl,hz⟩:=I.tuple hq
  have hlen:=r'.length
  exact len_tuple pl (by simp only [An]<;>lia) ⟨.int ys.length,H,I.tok _,⟨s.toks+1,by rw [An,hlen]⟩,q⟩
theorem YV:J7 X (.type "tuple") (fun xs H Q=>∃ p ys,xs=[.ref p]/\((SqL X.K H p ys/\∀ l,H l=none->Q (.ref l) (upd H l (.tup ys)))∨(SqT X.K H p ys/\Q (.ref p) H))):=by
 intro O9 s σ H xs us Q I r h
 obtain ⟨p,ys,rfl,h⟩:=h
 obtain ⟨u,rfl,rx⟩:=UH r
 cases rx
 rcases h with ⟨hq,q⟩ | ⟨hq,q⟩
 ·obtain ⟨its,r',pl,hz⟩:=I.list hq
  have hlen:=r'.length
  refine call_tuple_list pl.isList (fun h' kp=>?_) (by simp only [An]<;>lia)
  have I1:Inv X O9 σ H { s with heap:=h' }:=I.kept (t':=s.toks) kp
  have I2:Inv X O9 σ (upd H h'.objs.size (.tup ys)) { s with heap:=h'.push { cls:=.type "tuple", data:=.seq its.toArray } } :=
   I1.laid (t':=s.toks) (fun b o e=>Ad _ e) (Ae _) (show ObjOk X.prog X.w _ _ _ (.tup ys) from ⟨hz,its,r',IsTup.new _ _⟩)
  exact ⟨.ref h'.objs.size,_,I2,rfl,q _ (I1.hok.fresh (Ae _))⟩
 ·obtain ⟨its,r',pl,hz⟩:=I.tuple hq
  exact call_tuple_same pl ⟨.ref p,H,I,rfl,q⟩
def tyV (K:Aa) (T:String) (x:V) (H:Hp):Prop:=match x with
 | .str _=>T = "str"
 | .int _=>T = "int"
 | .ref p=>(T = "list" /\ ∃ xs,SqL K H p xs)∨(T = "tuple" /\ ∃ o,K.lookup p=some o/\o.cls=.type "tuple" /\ o.dict=none) ∨
   (T = "dict" /\ ((∃ kvs,H p=some (.dK kvs))∨∃ kvs,H p=some (.dT kvs)))∨(T = "set" /\ ∃ S n,H p=some (.set S n))
 | _=>False
theorem QhA {T:String} (I:Inv X O9 σ H s) (r:RelV x v) (ty:tyV X.K T x H):
    s.TypeIs v T/\∀ a,v=.ref a->∃ ob,s.heap.get? a=some ob/\ob.dict=none:=by
  cases x with
  | str z =>
    obtain ⟨t,rfl⟩:=r
    cases (show T = "str" from ty)
    exact ⟨typeIs_str s z t,fun _ e=>nomatch e⟩
  | int i =>
    obtain ⟨t,rfl⟩:=r
    cases (show T = "int" from ty)
    exact ⟨typeIs_int s i t,fun _ e=>nomatch e⟩
  | ref p =>
    cases r
    rcases ty with ⟨rfl,xs,hq⟩ | ⟨rfl,o,hk,hc,hd⟩ | ⟨rfl,hk⟩ | ⟨rfl,S,n,hk⟩
    . obtain ⟨its,_,pl,_⟩:=I.list hq
      refine ⟨pl.isList.typeIs,fun a e=>?_⟩
      cases e
      obtain ⟨o,n,e,c,hd,_⟩:=pl
      exact ⟨o,e,hd⟩
    . refine ⟨⟨o,I.kIn p o hk,hc⟩,fun a e=>?_⟩
      cases e
      exact ⟨o,I.kIn _ o hk,hd⟩
    . have z:∃ o,s.heap.get? p=some o/\o.ExactDict:=by
        rcases hk with ⟨kvs,hk⟩ | ⟨kvs,hk⟩
        . obtain ⟨_,_,_,_,o,_,_,e,ex,_⟩:=I.hok p _ hk
          exact ⟨o,e,ex⟩
        . obtain ⟨_,_,_,_,o,_,_,e,ex,_⟩:=I.hok p _ hk
          exact ⟨o,e,ex⟩
      obtain ⟨o,e,ex⟩:=z
      refine ⟨⟨o,e,ex.1⟩,fun a e2=>?_⟩
      cases e2
      exact ⟨o,e,ex.2.1⟩
    . obtain ⟨o,_,_,_,e,ex,_⟩:=I.hok p _ hk
      refine ⟨⟨o,e,ex.1⟩,fun a e2=>?_⟩
      cases e2
      exact ⟨o,e,ex.2.1⟩
  | _=>exact False.elim ty
def tBM (K:Aa) (T:String) (r:V->List V->Hp->VK->Prop) (to:TE) (t:TA):TE:=fun σ H Q=>to σ H fun x H1=>tyV K T x H1/\t σ H1 fun xs H2=>r x xs H2 Q
variable {o e:Expr} {es:List Expr} {to:TE} {t:TA} {name:Str} {apos cpos:Pos} {T id:String} {r:V->List V->Hp->VK->Prop}
theorem Qir (pa:PlainAttrs T) (slot:Slot T name id) (hty:typeOf (.builtin id)=pure (.type "method_descriptor")) (hm:MtR X id r) (ho:PE X o to) (ha:PA X (e::es) t)
  (hbase:attributeBase o name X.env (eval o X.env)=eval o X.env:=by rfl)
  (hfew:((backTo cpos (starEach (e::es) X.env)).all (fun x=>!x.1)&&(backToKw cpos (keywordEach [] X.env)).all (fun x=>x.1.isSome)
   && decide ((e::es).length+([]:List Keyword).length+(if ([]:List Keyword).isEmpty then 0 else 1) < 30))=true:=by rfl)
  (hline:(apos.endLine==cpos.line)=true:=by rfl) (hs:starEach (e::es) X.env=(false,eval e X.env)::starEach es X.env:=by rfl) (hplain:(backTo cpos (starEach es X.env)).any (·.1)=false:=by rfl) :
  PE X (.Call (.Attribute o name apos) (e::es) [] cpos) (tBM X.K T r to t):=by
 intro O9 s σ H Q I h
 refine wpAny_Call_method_late hbase hfew hline rfl (thn (ho O9 s σ H _ I h) fun v s1 ⟨x,H1,I1,r1,ty,q1⟩=>?_)
 obtain ⟨h1,h2⟩:=QhA I1 r1 ty
 refine ⟨T,id,pa,slot,hty,h1,h2,?_⟩
 have hA:=ha cpos O9 s1 σ H1 _ I1 q1
 rw [hs] at hA ⊢
 refine Calls.callWith_builtin (by show (false||(backTo cpos (starEach es X.env)).any (·.1))=false;rw [hplain]<;>rfl) (Calls.evalArgs_plain ?_)
 exact thn hA fun us s2 ⟨vs,H2,I2,r2,q2⟩=>hm O9 s2 σ H2 x vs v us Q I2 r1 r2 q2
/- xs.append(e),list.index on a module's tuple .. are MtR facts of 06m -/
end
def MtM (X:Cx) (id:String) (r:V->List V->Hp->VK->Prop):Prop :=
  ∀ (O9 : List (Addr × Obj)) (s : Shared) (σ : St) (H : Hp) (x : V) (xs : List V) (v : Value) (us : List Value) (Q : VK), Inv X O9 σ H s -> RelV x v -> Vals xs us -> r x xs H Q ->
    wpAny (model X.prog X.w) X.A (call (.builtin id) (v::us)) (EP X O9 σ Q) X.xe s
theorem Vals.one:∀ {x:V} {us:List Value},Vals [x] us->∃ u,us=[u]/\RelV x u
 | _,_,.cons r .nil=>⟨_,rfl,r⟩
section
variable {X:Cx} {O9:C9} {σ:St} {H:Hp} {s:Shared} {l b:Addr} {xs ys zs:List V}
theorem Inv.lset {its its':List Value} {n:Nat} {f:Array Value->Array Value} {t':Nat} (I:Inv X O9 σ H s) (hH:H l=some (.lst xs))
  (e:s.heap.get? l=some { cls:=.type "list", data:=.seq its.toArray n }) (hf:f its.toArray=its'.toArray) (hv:Vals ys its') (hz:ys.length<=sizeLine) :
  Inv X O9 σ (upd H l (.lst ys)) { s with heap:=s.heap.update l (Obj.mapSeq f),toks:=t' }:=by
 have q:=PySem.IsL.update e f
 rw [hf] at q
 refine I.write (x:=l) (e:=l) (by rw [hH];exact trivial) (.inl rfl) (fun b' u hb hu=>(Heap.get?_update_other s.heap (Obj.mapSeq f) (Ne.symm hb)).trans hu) ⟨_,q⟩ ?_
 exact ⟨hz,its',_,hv,q⟩
theorem Inv.lnew {t':Nat} (I:Inv X O9 σ H s) (hv:Vals ys its) (hz:ys.length<=sizeLine):
  Inv X O9 σ (upd H s.heap.objs.size (.lst ys)) { s with heap:=s.heap.push { cls:=.type "list", data:=.seq its.toArray },toks:=t' } :=
 I.laid (fun _ _ q=>Ad _ q) (Ae _) ⟨hz,its,0,hv,Au _ rfl⟩
def Inv.fresh (I:Inv X O9 σ H s):H s.heap.objs.size=none:=I.hok.fresh (Ae _)
theorem Inv.lstM (I:Inv X O9 σ H s) (hH:H l=some (.lst xs)):xs.length<=sizeLine/\∃ (its:List Value) (n:Nat),Vals xs its/\xs.length=its.length/\s.heap.get? l=some { cls:=.type "list", data:=.seq its.toArray n }:=by
 obtain ⟨z,its,n,r,e⟩:=I.hok l _ hH
 exact ⟨z,its,n,r,r.length,e⟩
theorem Qdb {n:Nat} (h:n<=sizeLine):Builtin.List.listTooLong n=false:=by
 unfold Builtin.List.listTooLong
 exact C6 (by lia)
end
section
variable {X:Cx}
def Qfk:V->List V->Hp->VK->Prop:=fun x vs H Q=>∃ l xs y,x=.ref l/\vs=[y]/\H l=some (.lst xs)/\xs.length < sizeLine/\Q .non (upd H l (.lst (xs++[y])))
theorem KI:MtM X "list.append" Qfk:=by
 intro O9 s σ H x vs v us Q I rx rv h
 obtain ⟨l,xs,y,rfl,rfl,hH,hz,q⟩:=h
 cases rx
 obtain ⟨u,rfl,ru⟩:=rv.one
 obtain ⟨z,its,n,r,hl,e⟩:=I.lstM hH
 refine call_meets F.slot_list_append ⟨_,e,rfl⟩ F.entry_list_append (F.args_list_append_2 _ _) (PySem.list_append l its.toArray n u (by rw [An];lia)) ⟨e,?_⟩
 refine ⟨.non,_,I.lset (its':=its++[u]) hH e (by simp) (r.append (.cons ru .nil)) ?_,rfl,q⟩
 rw [Am,List.length_singleton]
 lia
def Qfl:V->List V->Hp->VK->Prop:=fun x vs H Q=>∃ l b xs zs,x=.ref l/\vs=[.ref b]/\H l=some (.lst xs)/\H b=some (.lst zs)/\xs.length+zs.length<=sizeLine/\Q .non (upd H l (.lst (xs++zs)))
theorem Qbv:MtM X "list.extend" Qfl:=by
 intro O9 s σ H x vs v us Q I rx rv h
 obtain ⟨l,b,xs,zs,rfl,rfl,hH,hB,hz,q⟩:=h
 cases rx
 obtain ⟨u,rfl,ru⟩:=rv.one
 cases ru
 obtain ⟨z,its,n,r,hl,e⟩:=I.lstM hH
 obtain ⟨z2,its2,n2,r2,hl2,e2⟩:=I.lstM hB
 have hsz:its.toArray.size+its2.toArray.size<=sizeLine:=by rw [An,An];lia
 have hlong:¬ (!its.toArray.isEmpty&&Builtin.List.listTooLong (its.toArray.size+its2.toArray.size))=true:=by
  rw [Qdb hsz,Bool.and_false]
  exact Bx
 refine call_meets F.slot_list_extend ⟨_,e,rfl⟩ F.entry_list_extend (F.args_list_extend_2 _ _)
  (AutoSeq1.list_extend_list_list_0 l its.toArray n b its2.toArray n2 hlong (by rw [An];lia) (by lia)) ⟨e,e2,?_⟩
 refine ⟨.non,_,I.lset (its':=its++its2) hH e (by simp) (r.append r2) ?_,rfl,q⟩
 rw [Am]
 lia
end
section
variable {prog:Program} {w:World} {A:Around} {E:C8} {s:Shared}
end
section
variable {X:Cx}
end
end L2
namespace Att
open PySem PySem.W PySem.Calls PyProof.Rows
theorem Vd:∀ (ns:List Int) (vs:List Value),WellAll P h vs (ns.map WData.int)->IntsAre vs ns:=by
  intro ns
  induction ns with
  | nil =>
    intro vs w
    rw [List.map_nil] at w
    cases w
    exact .nil
  | cons n ns ih =>
    intro vs w
    rw [Ba] at w
    cases w with
    | cons a b =>
      cases a
      exact .cons _ _ (ih _ b)
theorem script_of {l:OpenLaw} {n:Nat} (hn:l.most=some n) {P:Params} {h:Heap} {args:List WData} {vals:List Value}
    (hpre:l.row.toRowW.claim.pre args=true) (hwl:WellAll P h vals args) :
    ∃ a vs ns,vals=[Value.ref a]/\args=[WData.list (ns.map WData.int)]/\h.get? a=some { cls:=.type "list", data:=.seq vs.toArray }/\IntsAre vs ns/\ns.length<=n:=by
  have hsh:WShape.hasAll [] args [.list .int]=true:=(pre_splitW hpre).1
  have hc:l.pre.holds [] { args:=args }=true:=(pre_splitW hpre).2
  obtain ⟨d,r,rfl,h1,h2⟩:=hasAllW_cons hsh
  obtain rfl:=hasAllW_nil h2
  obtain ⟨xs,rfl,h3⟩:=hasW_list h1
  obtain ⟨ns,rfl⟩:=items_int h3
  have hlen:ns.length<=n:=by
    unfold OpenLaw.pre at hc
    have h4:(WTm.not (.lt (.lit (.int (n:Int))) (.len (.arg 0)))).holds [] { args:=[.list (ns.map .int)] }=true:=by
      have h4:=(holds_andW hc).1
      rw [hn] at h4
      exact h4
    have h5:=condW_of h4 (w_not (w_lt w_lit (w_len_list (w_arg rfl))))
    rw [Br] at h5
    refine Co fun q=>?_
    have q':(n:Int) < ((ns.length:Nat):Int):=by lia
    first
      | (rw [C4 q'] at h5;exact absurd h5 (by decide))
      | (simp at h5;lia)
  cases hwl with
  | cons w1 w2 =>
    cases w2
    cases w1 with
    | list ho hall=>exact ⟨_,_,ns,rfl,rfl,ho,Vd ns _ hall,hlen⟩
theorem post_true (l:OpenLaw) (args:List WData):l.row.toRowW.claim.post args (.bool true) args=true :=
 postW_of (r:=l.row.toRowW) (X:=(true==true))
  (show WShape.has [] (.bool true) .bool=true by first | rfl | decide | simp [WShape.has,WShape.arms,WShape.armsAll])
  (show (WTm.eq .res (.lit (.bool true))).value [] { args:=args,res:=some (.bool true),after:=args }=some (.bool (true==true)) from w_eq_bool (w_res rfl) w_lit) rfl
section
variable {prog:Program} {w:World} {A:Around} {E:C8} {s:Shared} {K:Frag}
def Qi7 (h:Heap) (L d:Addr):List (Addr×Obj):=(List.range h.objs.size).filterMap fun a=>if a=L∨a=d then none else (h.get? a).map fun o=>(a,o)
end
end Att
namespace L2
open PySem PySem.Spec PyProof.Rows
theorem qt:∀ {vs:List Value} {ns:List Int},IntsAre vs ns->Vals (ns.map V.int) vs
 | _,_,.nil=>.nil
 | _,_,.cons n t h=>.cons ⟨t,rfl⟩ (qt h)
def Qf5 (H:Hp):Prop:=∀ b,H b=none∨∃ o xs,H b=some (.frz o (.lst xs))
theorem QcR {P:Program} {w:World} {K:Aa} {mg mb:Ea} {CX:CXT} {k:Nat} {fa a:Addr} {fd:FuncData} {x:Str} {sp:Sp} {s₁:Shared} {vs:List Value} {ns:List Int}
    (KX:K.In s₁.heap) (hns:s₁.heap.Ns mainGlobals mg) (hb:s₁.heap.Ns builtinsNs mb) (hbb:∀ x:Str,x ≠ "__name__" -> mb x=bootBuiltins x) (hlim:s₁.heap.NoLimit) (hg:s₁.gens = #[])
    (ha:s₁.heap.get? a=some { cls:=.type "list", data:=.seq vs.toArray }) (hi:IntsAre vs ns) (hl:ns.length<=sizeLine) (hr:Room k callerA)
    (F:∀ O8:Heap,K.In O8->O8.Ns mainGlobals mg->zm P w K mg O8 CX k fa fd [x] sp) (hbind:∀ (s:Shared) (u:Value),BindsTo s fd ⟨[u],[]⟩ [(x,u)])
    (hsp:∀ H:Hp,Qf5 H->SqL K H a (ns.map V.int)->sp [.ref a] H (fun v _=>v=.bl true) fun _ _ _=>False)
    (hCX:∀ H e s',CX [] H s₁ (fun _ _ _=>False) e s'->False) :
    codeAny (model P w) callerA (.call (.ref fa) ⟨[.ref a],[]⟩) (fun r s'=>r=.ok (.ret (.bool true))/\OldK s₁.heap s'.heap/\s'.os=s₁.os/\AllBare s'.gens) s₁:=by
  have rv:=qt hi
  have lenV:=hi.length
  have core:∀ H:Hp,Qf5 H->SqL K H a (ns.map V.int)->HOk P w H s₁.heap->(∀ b,H b≠none->b=a)->(H a≠none->K.lookup a=none) ->
      codeAny (model P w) callerA (.call (.ref fa) ⟨[.ref a],[]⟩) (fun r s'=>r=.ok (.ret (.bool true))/\OldK s₁.heap s'.heap/\s'.os=s₁.os/\AllBare s'.gens) s₁:=by
    intro H hO hS hok hA hK
    have base_of:∀ {b:Addr} {o:Obj},s₁.heap.get? b=some o->H b=none->(GC s₁.heap H).get? b=some o:=fun e n=>QcH e n
    have noA:∀ {b:Addr} {o:Obj} {es:Array DictEntry} {ep:Nat},s₁.heap.get? b=some o->o.data=.dict es ep->H b=none:=fun {b o es ep} e d=>by
      cases q:H b with
      | none=>rfl
      | some u =>
        have e':b=a:=hA b (by rw [q];simp)
        subst e'
        rw [ha] at e;cases e
        have d':Data.seq vs.toArray _=Data.dict es ep:=d
        cases d'
    have nsK:∀ {b:Addr} {m:Ea},s₁.heap.Ns b m->(GC s₁.heap H).Ns b m:=fun {b m} ⟨o,es,ep,e,d,r⟩=>⟨o,es,ep,base_of e (noA e d),d,r⟩
    have hKb:K.In (GC s₁.heap H):=fun b o e=>base_of (KX b o e) (by
      cases q:H b with
      | none=>rfl
      | some u =>
        have e':b=a:=hA b (by rw [q];simp)
        subst e'
        rw [hK (by rw [q];simp)] at e;cases e)
    have hM:Mod K mg (GC s₁.heap H):=⟨hKb,nsK hns,⟨mb,nsK hb,hbb⟩,let ⟨mc,h1,h2⟩:=hlim;⟨mc,nsK h1,h2⟩⟩
    have e0:Env0 P w K mg (GC s₁.heap H) callerA [] s₁ H:=⟨rfl,hM,fun b o e=>QeM e,Nat.le_of_eq (Qbk _ _),trivial,fun b hb=>absurd (show b∈([]:Ee) from hb) (by simp),hok,.of_eq hg⟩
    refine codeAny_mono ((F _ hKb (nsK hns)).run callerA [] s₁ H ⟨[.ref a],[]⟩ [.ref a] [.ref a] _ _ hr e0 (hbind s₁ (.ref a)) (.cons rfl .nil) (hsp H hO hS)) fun r s' h=>?_
    cases r with
    | error e=>exact (hCX H e s' h).elim
    | ok fl =>
      cases fl with
      | next=>exact False.elim h
      | brk=>exact False.elim h
      | cont=>exact False.elim h
      | ret u =>
        obtain ⟨v,H',os,bare,un,hok',r',q⟩:=h
        have q':v=.bl true:=q
        subst q'
        obtain rfl:u=Value.bool true:=r'
        refine ⟨rfl,OldK.of_keep fun b o e=>?_,os,bare⟩
        cases q:H b with
        | none=>exact un.keep b o e q (by intro z;exact absurd (show b∈([]:Ee) from z) (by simp)) (by simp)
        | some u =>
          rcases hO b with z | ⟨ob,xs,z⟩
          . rw [q] at z;cases z
          . have z2:=un.frzs b ob _ z
            obtain ⟨e1,_⟩:=hok b _ z
            obtain ⟨e2,_⟩:=hok' b _ z2
            rw [e] at e1;cases e1
            exact e2
  cases hk:K.lookup a with
  | some o =>
    have e:=KX a o hk
    rw [ha] at e
    cases e
    refine core (fun _=>none) (fun _=>.inl rfl) (.inr ⟨_,vs.toArray,_,hk,rfl,rfl,rfl,by rw [An,lenV];exact hl,by simpa using rv⟩) (fun b u z=>by have z':(none:Option HO)=some u:=z;cases z') (fun b z=>absurd rfl z) fun z=>absurd rfl z
  | none =>
    refine core (fun b=>if b=a then some (.frz { cls:=.type "list", data:=.seq vs.toArray } (.lst (ns.map V.int))) else none) (fun b=>?_) (.inl (.inr ⟨{ cls:=.type "list", data:=.seq vs.toArray },C0 rfl⟩)) (fun b u z=>?_) (fun b z=>?_) fun _=>hk
    . by_cases hb:b=a
      . exact .inr ⟨_,_,C0 hb⟩
      . exact .inl (Cz hb)
    . by_cases hb:b=a
      . have z':=(C0 hb).symm.trans z
        cases z'
        subst hb
        exact ⟨ha,by rw [Br];exact hl,vs,_,rv,ha⟩
      . have z':=(Cz hb).symm.trans z
        cases z'
    . by_cases hb:b=a
      . exact hb
      . exact absurd (Cz hb) z
end L2
/- THE LAST THEOREM (shape; LID, My.* are yours):
   My.Adr: a structure of the addresses that your layer names (classes,functions);My.Txt K t: a structure (Prop) of the equations over K;
   My.txt_mk:{K} {implicit addresses ..} (e1:nsIn K mainGlobals "law" = some (some (.ref f))) (e2:K.lookup f=some ⟨oc,od,.func (fnOf "law" "law" params body scope dV kV doc pm an cdv ct),sl⟩) (e3:codeIn K cdv "law" = true) ..:∃ t,My.Txt K t
set_option maxRecDepth 100000 in
set_option maxHeartbeats 0 in
theorem PySem.Challenge.cw_LID_holds : PySem.Challenge.rw_LID.Holds := by
 w_on;o_law;k_head;(case hw=>w_witness2)
 k_fill
 refine L2.walk_of (l:=PySem.Challenge.rw_LID) (n:=63) (k:=40) (x := "script") (CX:=fun w=>..) (sp:=fun _=>My.sp_law) rfl (by decide) rfl ⟨rfl,by decide,by decide⟩ (fun w h Y=>PySem.W.kIn_of Y) ?F ?S ?C
 case F =>
  intro w mg fa h KX G hmg
  have T:∃ t,My.Txt (L2.KOf KX) t:=by
   dsimp only [L2.KOf]                          -- K must stand as «<heap const> w.params» for k_is
   refine' My.txt_mk ?e1 ?e2 ?e3 ..
   (case e1=>PySem.W.k_is)                    -- in the order: a name->its address->its object->its parts
   (case e2=>PySem.W.k_is)
   ..
  obtain ⟨t,T⟩:=T
  have e0:=hmg.symm.trans (PySem.W.mg_of KX G T.law)
  cases e0                                       -- fa is the law's own address
  exact ⟨_,fun s u=>.of_eq rfl,fun O8 kb nb=>My.law_fn T kb nb⟩     -- if «.of_eq rfl» comes too early: refine' ⟨_,?b,fun O8 kb nb=>My.law_fn T kb nb⟩;exact fun s u=>.of_eq rfl
 case S=>exact fun w H a ns hl hO hS=>..
 case C=>exact ..
(the tactic k_is has no namespace: write k_is) -/
namespace L2
open PySem PySem.Spec PyProof.Rows
def Zj (s:Stmt) (j:Nat):Stmt:=match s with
 | .ClassDef _ _ _ body _ _ _ _ _ _ _=>body.getD j (.Pass ⟨0,0,0,0⟩)
 | _=>.Pass ⟨0,0,0,0⟩
def JA (s:Stmt):Arguments:=match s with
 | .FunctionDef _ a _ _ _ _ _ _ _ _=>a
 | _=>{ posonlyargs:=[],args:=[],vararg:=none,kwonlyargs:=[],kw_defaults:=[],kwarg:=none,defaults:=[] }
def ZH (s:Stmt):List Stmt:=match s with
 | .FunctionDef _ _ b _ _ _ _ _ _ _=>b
 | _=>[]
def Qp (s:Stmt):Scope:=match s with
 | .FunctionDef _ _ _ _ _ _ sc _ _ _=>sc
 | _=>{ kind:=.function,names:=[],isGenerator:=false,isCoroutine:=false }
abbrev CX0:CXT:=fun _ _ _ _ _ _=>False
abbrev E0:XK:=fun _ _ _=>False
def QL:YT CX0 X E0:=fun _ _ _ _ _ _ _ h=>h.elim
structure Fun (K:Aa) (x qual:Str) (st:Stmt) (f:Addr) (fd:FuncData):Prop where
 ex:∃ (oc:Value) (od:Option Addr) (kV doc pm:Value) (an:Option Addr) (cdv ct:Value) (osl:Array (Option Value)),
  fd=PySem.W.fnOf x qual (JA st) (ZH st) (Qp st) .none kV doc pm an cdv ct/\K.lookup f=some ⟨oc,od,.func fd,osl⟩/\PySem.W.codeIn K cdv qual=true
 kp:PySem.W.keepIn K (.ref f)=true
section
variable {P:Program} {w:World} {K:Aa} {mg:Ea} {O8:Heap}
theorem Fun.ok {x qual:Str} {st:Stmt} {f:Addr} {fd:FuncData} {N ps:List Str} {k:Nat} {sp:Sp} (F:Fun K x qual st f fd) (S:Qt N ps (Qp st)) (len:∀ vs H Q E,sp vs H Q E->vs.length=ps.length)
  (hbody:∀ (cdv:Value) (A:Around) (outer:List Env) (s:Shared) (H:Hp) (vs:List V) (Q:VK) (E:XK),Room k (A.deeper (envOfC qual (Qp st) s.heap.objs.size f cdv))->sp vs H Q E ->
   ∃ t,PSs (y0 CX0 P w K mg O8 N qual (Qp st) f cdv A outer s H E).nox (ZH st) t/\t { nx:=fun _ H'=>Q .non H',rt:=Q } (start N vs) H):zm P w K mg O8 CX0 (k+1) f fd ps sp:=by
 obtain ⟨oc,od,kV,doc,pm,an,cdv,ct,osl,rfl,lk,hcd⟩:=F.ex
 refine Qh3 lk hcd S len fun A outer s H vs Q E hr hsp=>?_
 obtain ⟨t,h,q⟩:=hbody cdv A outer s H vs Q E hr hsp
 exact ⟨t,h.nox,q⟩
theorem Fun.binds {x qual:Str} {st:Stmt} {f:Addr} {fd:FuncData} {ps:List Str} (F:Fun K x qual st f fd)
  (h:∀ (kV doc pm:Value) (an:Option Addr) (cdv ct:Value) (us:List Value),us.length=ps.length->bindArgs (PySem.W.fnOf x qual (JA st) (ZH st) (Qp st) .none kV doc pm an cdv ct) ⟨us,[]⟩=pure (ps.zip us)):Binds K fd ps []:=by
 obtain ⟨oc,od,kV,doc,pm,an,cdv,ct,osl,rfl,lk,hcd⟩:=F.ex
 exact .all (h kV doc pm an cdv ct)
theorem Gz {x qual:Str} {st:Stmt} {f:Addr} {oc:Value} {od an:Option Addr} {osl:Array (Option Value)} {kV doc pm cdv ct:Value} (l:K.lookup f=some ⟨oc,od,.func (PySem.W.fnOf x qual (JA st) (ZH st) (Qp st) .none kV doc pm an cdv ct),osl⟩)
  (c:PySem.W.codeIn K cdv qual=true) (k:PySem.W.keepIn K (.ref f)=true):Fun K x qual st f (PySem.W.fnOf x qual (JA st) (ZH st) (Qp st) .none kV doc pm an cdv ct):=⟨⟨oc,od,kV,doc,pm,an,cdv,ct,osl,rfl,l,c⟩,k⟩
end
theorem QO {A:Around} {k:Nat} (hr:Room k A):A.units+1 < cLine:=Bw (Nat.add_le_add_left (by decide:1<=64) _) hr.units
section
variable {X:Cx}
end
theorem vU {A B:Prop} (h:B):if false=true then A else B:=by
 rw [Cz Bx]
 exact h
theorem vV {A B:Prop} (h:A):if true=true then A else B:=by
 rw [C0 rfl]
 exact h
end L2
set_option maxHeartbeats 4000000
namespace L2
open PySem PySem.Spec PyProof.Rows
section
variable {κ:Type} [DecidableEq κ]
def Xx (kvs:List (κ×V)) (k:κ):Option V:=(kvs.find? fun kv=>decide (kv.1=k)).map (·.2)
def zi (kvs:List (κ×V)) (k:κ) (v:V):List (κ×V) :=
 if (kvs.any fun kv=>decide (kv.1=k))=true then kvs.map (fun kv=>if kv.1=k then (kv.1,v) else kv) else kvs++[(k,v)]
def j9 (kvs:List (κ×V)) (k:κ):List (κ×V):=kvs.filter fun kv=>decide (kv.1≠k)
theorem UE {p:κ×V} {r:List (κ×V)} {k:κ} (e:p.1=k):Xx (p::r) k=some p.2:=by simp [Xx,Bz,e]
theorem UD {p:κ×V} {r:List (κ×V)} {k:κ} (e:¬ p.1=k):Xx (p::r) k=Xx r k:=by simp [Xx,Bz,e]
theorem uH (k:κ):∀ kvs:List (κ×V),(kvs.any fun kv=>decide (kv.1=k))=(Xx kvs k).isSome
  | []=>rfl
  | p::r=>by
    rw [Ci]
    by_cases e:p.1=k
    . simp only [UE e,C4 e,Bool.true_or,Option.isSome_some]
    . rw [UD e,C6 e,Bool.false_or];exact uH k r
theorem zI (kvs:List (κ×V)) (k:κ) (v:V):(zi kvs k v).length<=kvs.length+1:=by
 unfold zi
 split
 ·rw [Br];lia
 ·rw [Am,A9,List.length_nil];lia
theorem RelO.isSome_eq {o:Option V} {u:Option Value} (r:RelO o u):o.isSome=u.isSome:=by
  cases o with
  | none=>cases u with
    | none=>rfl
    | some _=>exact (show False from r).elim
  | some _=>cases u with
    | none=>exact (show False from r).elim
    | some _=>rfl
theorem RelO.getD {o:Option V} {u:Option Value} (r:RelO o u) (rd:RelV d d'):RelV (o.getD d) (u.getD d'):=by
  cases o with
  | none=>cases u with
    | none=>exact rd
    | some _=>exact (show False from r).elim
  | some _=>cases u with
    | none=>exact (show False from r).elim
    | some _=>exact r
theorem KV.val {kvs:List (κ×V)} {vs:List (κ×Value)} (r:KV kvs vs) (k:κ):RelO (Xx kvs k) (valueAt vs k):=by
  unfold KV at r
  induction r with
  | nil=>exact True.intro
  | @cons p q ps qs h t ih =>
    obtain ⟨h1,h2⟩:=h
    by_cases e:p.1=k
    . have e':q.1=k:=h1.symm.trans e
      have b:valueAt (q::qs) k=some q.2:=by simp [valueAt,Bz,e']
      rw [UE e,b];exact h2
    . have e':¬ q.1=k:=fun z=>e (h1.trans z)
      have b:valueAt (q::qs) k=valueAt qs k:=by simp [valueAt,Bz,e']
      rw [UD e,b];exact ih
theorem KV.any {kvs:List (κ×V)} {vs:List (κ×Value)} (r:KV kvs vs) (k:κ):(kvs.any fun kv=>decide (kv.1=k))=vs.any fun kv=>decide (kv.1=k):=by
 unfold KV at r
 induction r with
 | nil=>rfl
 | cons h t ih=>rw [Ci,Ci,ih,h.1]
theorem KV.repl {kvs:List (κ×V)} {vs:List (κ×Value)} (r:KV kvs vs) (k:κ) (ry:RelV y u):
    KV (kvs.map fun kv=>if kv.1=k then (kv.1,y) else kv) (vs.map fun kv=>if kv.1=k then (kv.1,u) else kv):=by
  unfold KV at r ⊢
  induction r with
  | nil=>exact .nil
  | @cons p q ps qs h t ih =>
    rw [Ba,Ba]
    refine .cons ?_ ih
    obtain ⟨h1,h2⟩:=h
    by_cases e:p.1=k
    . rw [C0 e,C0 (h1.symm.trans e)];exact ⟨h1,ry⟩
    . rw [Cz e,Cz (fun z=>e (h1.trans z))];exact ⟨h1,h2⟩
theorem KV.put {kvs:List (κ×V)} {vs:List (κ×Value)} (r:KV kvs vs) (k:κ) (ry:RelV y u):KV (zi kvs k y) (stored vs k u):=by
 unfold zi stored
 rw [r.any k]
 by_cases e:(vs.any fun kv=>decide (kv.1=k))=true
 ·rw [C0 e,C0 e];exact r.repl k ry
 ·rw [Cz e,Cz e];exact Paired.snoc r ⟨rfl,ry⟩
theorem KV.drop {kvs:List (κ×V)} {vs:List (κ×Value)} (r:KV kvs vs) (k:κ):KV (j9 kvs k) (without vs k):=by
  unfold KV at r ⊢
  unfold j9 without
  induction r with
  | nil=>exact .nil
  | @cons p q ps qs h t ih =>
    obtain ⟨h1,h2⟩:=h
    rw [Ar,Ar]
    by_cases e:p.1=k
    . have a:¬ decide (p.1≠k)=true:=by simp [e]
      have b:¬ decide (q.1≠k)=true:=by simp [h1.symm.trans e]
      rw [Cz a,Cz b];exact ih
    . have e':¬ q.1=k:=fun z=>e (h1.trans z)
      have a:decide (p.1≠k)=true:=by simp [e]
      have b:decide (q.1≠k)=true:=by simp [e']
      rw [C0 a,C0 b];exact .cons ⟨h1,h2⟩ ih
def KV.length {kvs:List (κ×V)} {vs:List (κ×Value)} (r:KV kvs vs):kvs.length=vs.length:=Paired.length r
def vH (kvs:List (κ×V)) (k:κ):(j9 kvs k).length<=kvs.length:=B8 _ _
end
theorem zG {w:World} (r:RelV (kV k) u):(ZC P w).is k u=true:=by
 cases k with
 | inl i=>obtain ⟨t,e⟩:=(show ∃ t,u=Value.int i t from r);subst e;exact vY P w i t
 | inr x=>obtain ⟨t,e⟩:=(show ∃ t,u=Value.str x t from r);subst e;exact vZ P w x t
theorem KD {w:World}:∀ {ks:List Key} {us:List Value},Vals (ks.map kV) us->ItemsAre (ZC P w) ks us
  | [],_,r=>by rw [List.map_nil] at r;cases r;exact .nil
  | k::ks,_,r=>by
    rw [Ba] at r
    cases r with
    | cons h t=>exact .cons (zG h) (KD t)
abbrev KT (H:Hp):List (List Key×V)->List (List Key×Addr×Value)->Prop:=Paired fun p q=>p.1=q.1/\H q.2.1=some (.tup (p.1.map kV))/\RelV p.2 q.2.2
theorem KT.val {kvs:List (List Key×V)} {xs:List (List Key×Addr×Value)} (r:KT H kvs xs) (k:List Key):RelO (Xx kvs k) ((atKey xs k).map (·.2)):=by
  induction r with
  | nil=>exact True.intro
  | @cons p q ps qs h t ih =>
    obtain ⟨h1,_,h2⟩:=h
    by_cases e:p.1=k
    . have e':q.1=k:=h1.symm.trans e
      have b:atKey (q::qs) k=some q.2:=by simp [atKey,Bz,e']
      rw [UE e,b];exact h2
    . have e':¬ q.1=k:=fun z=>e (h1.trans z)
      have b:atKey (q::qs) k=atKey qs k:=by simp [atKey,Bz,e']
      rw [UD e,b];exact ih
theorem KT.repl {kvs:List (List Key×V)} {xs:List (List Key×Addr×Value)} (r:KT H kvs xs) (k:List Key) (ry:RelV y u):
    KT H (kvs.map fun kv=>if kv.1=k then (kv.1,y) else kv) (xs.map (putAt k u)):=by
  induction r with
  | nil=>exact .nil
  | @cons p q ps qs h t ih =>
    rw [Ba,Ba]
    refine .cons ?_ ih
    obtain ⟨h1,h2,h3⟩:=h
    unfold putAt
    by_cases e:p.1=k
    . rw [C0 e,C0 (h1.symm.trans e)];exact ⟨h1,h2,ry⟩
    . rw [Cz e,Cz (fun z=>e (h1.trans z))];exact ⟨h1,h2,h3⟩
theorem KT.put {H:Hp} {kvs:List (List Key×V)} {xs:List (List Key×Addr×Value)} (r:KT H kvs xs) (k:List Key) {b:Addr} (hb:H b=some (.tup (k.map kV))) (ry:RelV y u):
  KT H (zi kvs k y) (storedH xs k b u):=by
 have e:(kvs.any fun kv=>decide (kv.1=k))=(atKey xs k).isSome:=by
  rw [uH,(r.val k).isSome_eq,Option.isSome_map]
 unfold zi storedH
 rw [e]
 by_cases q:(atKey xs k).isSome=true
 ·rw [C0 q,C0 q];exact r.repl k ry
 ·rw [Cz q,Cz q];exact Paired.snoc r ⟨rfl,hb,ry⟩
theorem KT.keeps {H H':Hp} {kvs:List (List Key×V)} {xs:List (List Key×Addr×Value)} (r:KT H kvs xs) (ht:∀ b ys,H b=some (.tup ys)->H' b=some (.tup ys)):KT H' kvs xs :=
 Paired.mapP r fun _ _ z=>⟨z.1,ht _ _ z.2.1,z.2.2⟩
section
variable {P:Program} {w:World} {H:Hp} {h:Heap} {a:Addr}
def QfY (ok:HOk P w H h) (e:Rd H a u):ObjOk P w H h a u:=e.ok ok
theorem yC {kvs:List (Key×V)} (ok:HOk P w H h) (e:Rd H a (.dK kvs)):kvs.length<=sizeLine/\(a==sysModules)=false/\∃ vs,KV kvs vs/\h.DictOf (ZC P w) a vs :=
 show ObjOk P w H h a (.dK kvs) from QfY ok e
def VI {kvs:List (Key×V)} (ok:HOk P w H h) (e:H a=some (.dK kvs)):kvs.length<=sizeLine/\(a==sysModules)=false/\∃ vs,KV kvs vs/\h.DictOf (ZC P w) a vs:=yC ok (.inl e)
theorem jK {ks:List Key} (ok:HOk P w H h) (e:H a=some (.tup (ks.map kV))):(tupleKind (ZC P w)).is h ks a:=by
 obtain ⟨_,its,r,o,h1,h2,n,h3⟩:=(show ObjOk P w H h a (.tup (ks.map kV)) from ok a _ e)
 exact ⟨o,its.toArray,n,h1,h2,h3,by simpa using KD r⟩
theorem VJ {kvs:List (List Key×V)} (ok:HOk P w H h) (e:Rd H a (.dT kvs)):kvs.length<=sizeLine/\(a==sysModules)=false /\
    ∃ xs,KT H kvs xs/\h.DictOfH (tupleKind (ZC P w)) a xs:=by
  obtain ⟨z,y,xs,r,o,es,ep,h1,h2,h3,h4,h5⟩:=(show ObjOk P w H h a (.dT kvs) from QfY ok e)
  refine ⟨z,y,xs,r,o,es,ep,h1,h2,h3,h4,fun x hx=>?_,h5⟩
  have all:∀ {l:List (List Key×V)} {m:List (List Key×Addr×Value)},KT H l m->∀ x∈m,(tupleKind (ZC P w)).is h x.1 x.2.1:=by
    intro l m q
    induction q with
    | nil=>intro x hx;exact nomatch hx
    | @cons p q ps qs hq t ih =>
      intro x hx
      rcases Bj.mp hx with e | hx
      . subst e
        exact jK ok (by rw [<- hq.1];exact hq.2.1)
      . exact ih x hx
  exact all r x hx
theorem X5 {kvs:List (List Key×V)} (ok:HOk P w H h) (e:H a=some (.dT kvs)):kvs.length<=sizeLine/\(a==sysModules)=false /\
  ∃ xs,KT H kvs xs/\h.DictOfH (tupleKind (ZC P w)) a xs:=VJ ok (.inl e)
end
def DGet (H:Hp) (a:Addr) (y:V) (r:Option V):Prop :=
 (∃ kvs k,Rd H a (.dK kvs)/\y=kV k/\r=Xx kvs k)∨∃ kvs k b,Rd H a (.dT kvs)/\y=.ref b/\H b=some (.tup (k.map kV))/\r=Xx kvs k
def DPut (H:Hp) (a:Addr) (y v:V) (H':Hp):Prop :=
 (∃ kvs k,H a=some (.dK kvs)/\y=kV k/\kvs.length < sizeLine/\H'=upd H a (.dK (zi kvs k v))) ∨
 ∃ kvs k b,H a=some (.dT kvs)/\y=.ref b/\H b=some (.tup (k.map kV))/\kvs.length < sizeLine/\H'=upd H a (.dT (zi kvs k v))
def DGet.k {H:Hp} {a:Addr} {kvs:List (Key×V)} {k:Key} (e:H a=some (.dK kvs)):DGet H a (kV k) (Xx kvs k):=.inl ⟨kvs,k,.inl e,rfl,rfl⟩
def DPut.k {H:Hp} {a:Addr} {kvs:List (Key×V)} {k:Key} {v:V} (e:H a=some (.dK kvs)) (hl:kvs.length < sizeLine):DPut H a (kV k) v (upd H a (.dK (zi kvs k v))):=.inl ⟨kvs,k,e,rfl,hl,rfl⟩
section
variable {X:Cx} {O9:C9} {σ:St} {H:Hp} {s:Shared} {a:Addr} {y v:V} {u r:Value} {o:Option V} {A:Around} {E:C8}
theorem Inv.big (I:Inv X O9 σ H s):sysModules < s.heap.objs.size:=by
 have h:mainGlobals < s.heap.objs.size:=(I.mod.glob.keeps I.bk).lt
 exact Nat.lt_trans (by decide) h
theorem Qba {Q:C8} (hu:A.units+1 < cLine) (I:Inv X O9 σ H s) (g:DGet H a y (some v)) (ry:RelV y u) (h:∀ w' s',Inv X O9 σ H s'->RelV v w'->Q w' s'):
  wpAny (model X.prog X.w) A (getItem (.ref a) u) Q E s:=by
 rcases g with ⟨kvs,k,e,ey,l⟩ | ⟨kvs,k,b,e,ey,eb,l⟩
 ·subst ey
  obtain ⟨z,hd,vs,rel,dd⟩:=yC I.hok e
  obtain ⟨w',hw,rw'⟩:=RelO.some_of (v:=v) (o:=valueAt vs k) (by rw [l];exact rel.val k)
  exact wpAny_getItem_of (zG ry) dd.mapOf hw (h w' _ (I.tok _) rw')
 ·subst ey
  cases (show u=Value.ref b from ry)
  obtain ⟨z,hd,xs,rel,dd⟩:=VJ I.hok e
  obtain ⟨w',hw,rw'⟩:=RelO.some_of (v:=v) (o:=(atKey xs k).map (·.2)) (by rw [l];exact rel.val k)
  obtain ⟨p,hp,hp2⟩:=Cb.mp hw
  refine wpAny_getItem_heap (tupleKind_room_in1 hu) (jK I.hok eb) dd hp ?_
  rw [hp2]
  exact h w' _ (I.tok _) rw'
theorem Qi1 {Q:C8} (hu:A.units+1 < cLine) (I:Inv X O9 σ H s) (g:DGet H a y o) (ry:RelV y u) (h:∀ s',Inv X O9 σ H s'->Q (.bool o.isSome) s'):
  wpAny (model X.prog X.w) A (compareOp .In u (.ref a)) Q E s:=by
 rcases g with ⟨kvs,k,e,ey,l⟩ | ⟨kvs,k,b,e,ey,eb,l⟩
 ·subst ey
  obtain ⟨z,hd,vs,rel,dd⟩:=yC I.hok e
  refine wpAny_in_of (zG ry) hd dd.mapOf ?_
  rw [<- (rel.val k).isSome_eq,<- l]
  exact h _ (I.tok _)
 ·subst ey
  cases (show u=Value.ref b from ry)
  obtain ⟨z,hd,xs,rel,dd⟩:=VJ I.hok e
  refine wpAny_in_heap (tupleKind_room_in1 hu) (jK I.hok eb) hd dd ?_
  have q:=(rel.val k).isSome_eq
  rw [Option.isSome_map] at q
  rw [<- q,<- l]
  exact h _ (I.tok _)
theorem Qeo {Q:C8} (hu:A.units+1 < cLine) (I:Inv X O9 σ H s) (g:DGet H a y o) (ry:RelV y u) (h:∀ s',Inv X O9 σ H s'->Q (.bool (!o.isSome)) s'):
  wpAny (model X.prog X.w) A (compareOp .NotIn u (.ref a)) Q E s:=by
 rcases g with ⟨kvs,k,e,ey,l⟩ | ⟨kvs,k,b,e,ey,eb,l⟩
 ·subst ey
  obtain ⟨z,hd,vs,rel,dd⟩:=yC I.hok e
  refine wpAny_notIn_of (zG ry) hd dd.mapOf ?_
  rw [<- (rel.val k).isSome_eq,<- l]
  exact h _ (I.tok _)
 ·subst ey
  cases (show u=Value.ref b from ry)
  obtain ⟨z,hd,xs,rel,dd⟩:=VJ I.hok e
  refine wpAny_notIn_heap (tupleKind_room_in1 hu) (jK I.hok eb) hd dd ?_
  have q:=(rel.val k).isSome_eq
  rw [Option.isSome_map] at q
  rw [<- q,<- l]
  exact h _ (I.tok _)
theorem j7 {h':Heap} {t':Nat} (I:Inv X O9 σ H s) (mu:Mut (H a)) (hs:Heap.SameBut a s.heap h') (he:∃ q,h'.get? a=some q) (new:ObjOk X.prog X.w (upd H a ob) h' a ob):
  Inv X O9 σ (upd H a ob) { s with heap:=h',toks:=t' } :=
 I.write (x:=a) (e:=a) mu (.inl rfl) (fun b q hb z=>(hs.2 b hb).trans z) he new
theorem Gx {w:World} {H':Hp} {h':Heap} {kvs:List (Key×V)} {vs:List (Key×Value)} (z:kvs.length<=sizeLine) (hd:(a==sysModules)=false) (rel:KV kvs vs) (dd:h'.DictOf (ZC P w) a vs):
  ObjOk P w H' h' a (.dK kvs):=⟨z,hd,vs,rel,dd⟩
theorem Qbb {Q:Unit->Shared->Prop} (hu:A.units+1 < cLine) (I:Inv X O9 σ H s) (g:DPut H a y v H') (ry:RelV y u) (rv:RelV v r) (h:∀ s',Inv X O9 σ H' s'->Q () s'):
  wpAny (model X.prog X.w) A (setItem (.ref a) u r) Q E s:=by
 rcases g with ⟨kvs,k,e,ey,l,eH⟩ | ⟨kvs,k,b,e,ey,eb,l,eH⟩
 ·subst ey eH
  obtain ⟨z,hd,vs,rel,dd⟩:=VI I.hok e
  have hz:vs.length<=sizeLine:=by rw [<- rel.length];exact z
  have hl:(zi kvs k v).length<=sizeLine:=by have:=zI kvs k v;lia
  refine wpAny_setItem_pairs (hsz:=hz) (zG ry) dd fun h' dd' hs=>h _ ?_
  have he:∃ q,h'.get? a=some q:=let ⟨q,_,_,hq,_⟩:=dd';⟨q,hq⟩
  exact j7 I (by rw [e];exact True.intro) hs he (Gx hl hd (rel.put k rv) dd')
 ·subst ey eH
  cases (show u=Value.ref b from ry)
  obtain ⟨z,hd,xs,rel,dd⟩:=X5 I.hok e
  have hz:xs.length<=sizeLine:=by rw [<- Paired.length rel];exact z
  have hl:(zi kvs k v).length<=sizeLine:=by have:=zI kvs k v;lia
  refine wpAny_setItem_heap (hsz:=hz) (tupleKind_room_in1 hu) (jK I.hok eb) dd fun h' dd' hs=>h _ ?_
  obtain ⟨q,es,ep,hq,h2,h3,h4,_,h5⟩:=dd'
  refine j7 I (by rw [e];exact True.intro) hs ⟨q,hq⟩ ⟨hl,hd,_,(rel.put k eb rv).keeps fun c ys ec=>?_,q,es,ep,hq,h2,h3,h4,h5⟩
  rw [Q4 (Qif ec e (fun z=>nomatch z))]
  exact ec
end
section
variable {X:Cx} {O9:C9} {σ:St} {H:Hp} {s:Shared} {a:Addr} {kvs:List (Key×V)} {k:Key} {u:Value} {A:Around} {E:C8}
theorem QhM {Q:Unit->Shared->Prop} (I:Inv X O9 σ H s) (e:H a=some (.dK kvs)) (ry:RelV (kV k) u) (l:(Xx kvs k).isSome=true) (h:∀ s',Inv X O9 σ (upd H a (.dK (j9 kvs k))) s'->Q () s'):
  wpAny (model X.prog X.w) A (delItem (.ref a) u) Q E s:=by
 obtain ⟨z,hd,vs,rel,dd⟩:=VI I.hok e
 refine wpAny_delItem_slot dd.typeIs (by decide) PySem.F.slot_dict_delitem
  (call_meetsIn PySem.F.slot_dict_delitem dd.typeIs PySem.F.entry_dict_delitem (PySem.F.args_dict_delitem_2 _ _) (meets_dict_delitem_pairs (ZC X.prog X.w) a (zG ry)) ⟨vs,dd,by rw [<- rel.length];exact z,by rw [<- (rel.val k).isSome_eq];exact l,fun h' dd' hs=>h _ ?_⟩)
 have he:∃ q,h'.get? a=some q:=let ⟨q,_,_,hq,_⟩:=dd';⟨q,hq⟩
 exact j7 I (by rw [e];exact True.intro) hs he (Gx (Bi (vH kvs k) z) hd (rel.drop k) dd')
theorem QfP {more:List Value} {Q:C8} (I:Inv X O9 σ H s) (e:H a=some (.dK kvs)) (ry:RelV (kV k) u) (l:Xx kvs k=some v) (hm:more=[]∨∃ x,more=[x])
  (h:∀ w' s',Inv X O9 σ (upd H a (.dK (j9 kvs k))) s'->RelV v w'->Q w' s'):wpAny (model X.prog X.w) A (call (.builtin "dict.pop") (.ref a::u::more)) Q E s:=by
 obtain ⟨z,hd,vs,rel,dd⟩:=VI I.hok e
 obtain ⟨w',hw,rw'⟩:=RelO.some_of (v:=v) (o:=valueAt vs k) (by rw [<- l];exact rel.val k)
 have hp:(keyPart u).isSome=true:=by
  cases k with
  | inl i=>obtain ⟨t,q⟩:=(show ∃ t,u=Value.int i t from ry);subst q;rfl
  | inr x=>obtain ⟨t,q⟩:=(show ∃ t,u=Value.str x t from ry);subst q;rfl
 have ha:argsOk "dict.pop" ⟨.ref a::u::more,[]⟩:=by
  rcases hm with q | ⟨x,q⟩
  ·subst q;exact PySem.F.args_dict_pop_2 _ _
  ·subst q;exact PySem.F.args_dict_pop_3 _ _ _
 refine call_meetsIn PySem.F.slot_dict_pop dd.typeIs PySem.F.entry_dict_pop ha (meets_dict_pop_there (ZC X.prog X.w) a (zG ry) more hm hp)
  ⟨vs,w',dd,by rw [<- rel.length];exact z,hw,fun h' dd' hs=>h w' _ ?_ rw'⟩
 have he:∃ q,h'.get? a=some q:=let ⟨q,_,_,hq,_⟩:=dd';⟨q,hq⟩
 exact j7 I (by rw [e];exact True.intro) hs he (Gx (Bi (vH kvs k) z) hd (rel.drop k) dd')
theorem Qge {Q:C8} (I:Inv X O9 σ H s) (e:H a=some (.dK kvs)) (ry:RelV (kV k) u) (l:Xx kvs k=none) (h:∀ s',Inv X O9 σ H s'->Q r s'):
  wpAny (model X.prog X.w) A (call (.builtin "dict.pop") [.ref a,u,r]) Q E s:=by
 obtain ⟨z,hd,vs,rel,dd⟩:=VI I.hok e
 have hn:valueAt vs k=none:=RelO.none_of (by rw [<- l];exact rel.val k)
 have hp:(keyPart u).isSome=true:=by
  cases k with
  | inl i=>obtain ⟨t,q⟩:=(show ∃ t,u=Value.int i t from ry);subst q;rfl
  | inr x=>obtain ⟨t,q⟩:=(show ∃ t,u=Value.str x t from ry);subst q;rfl
 exact call_meetsIn PySem.F.slot_dict_pop dd.typeIs PySem.F.entry_dict_pop (PySem.F.args_dict_pop_3 _ _ _) (meets_dict_pop_default (ZC X.prog X.w) a (zG ry) hd hp r) ⟨vs,dd,hn,h _ (I.tok _)⟩
theorem QhY {Q:C8} (I:Inv X O9 σ H s) (e:Rd H a (.dK kvs)) (h:∀ t s',Inv X O9 σ H s'->Q (.int kvs.length t) s'):wpAny (model X.prog X.w) A (call (.builtin "len") [.ref a]) Q E s:=by
 obtain ⟨z,hd,vs,rel,dd⟩:=yC I.hok e
 refine call_len_dict hd dd (by rw [<- rel.length];rw [sizeLine_eq] at z;lia) ?_
 rw [<- rel.length]
 exact h _ _ (I.tok _)
end
theorem vE {s:Shared} {a:Addr} {o:Option V} (I:Inv X O9 σ H s) (g:DGet H a y o):s.TypeIs (.ref a) "dict" := by
 rcases g with ⟨kvs,k,e,_,_⟩ | ⟨kvs,k,b,e,_,_,_⟩
 ·obtain ⟨_,_,vs,_,dd⟩:=yC I.hok e
  exact dd.typeIs
 ·obtain ⟨_,_,xs,_,dd⟩:=VJ I.hok e
  exact dd.typeIs
section
variable {X:Cx} {o i e value:Expr} {pos pos' tpos:Pos} {td ty tv:TE}
end
theorem vF {w:World} (h:Heap) (hb:sysModules < h.objs.size):ObjOk P w H (h.push { cls:=.type "dict", data:=.dict #[] }) h.objs.size (.dK []) :=
 ⟨Bc _,beq_eq_false_iff_ne.mpr (Ne.symm (Be hb)),[],.nil,Heap.DictOf.new h⟩
section
variable {X:Cx} {pos:Pos}
end
def G9:List (TE×TE)->St->Hp->(List (V×V)->Hp->Prop)->Prop
 | [],_,H,Q=>Q [] H
 | (tk,tv)::r,σ,H,Q=>tk σ H fun x H1=>tv σ H1 fun y H2=>G9 r σ H2 fun ps H3=>Q ((x,y)::ps) H3
abbrev VV:List (V×V)->List (Value×Value)->Prop:=Paired fun p q=>RelV p.1 q.1/\RelV p.2 q.2
def PPs (X:Cx) (pos:Pos) (keys:List (Option Expr)) (values:List Expr) (trs:List (TE×TE)):Prop :=
  ∀ (O9 : List (Addr × Obj)) (s : Shared) (σ : St) (H : Hp) (Q : List (V × V) -> Hp -> Prop), Inv X O9 σ H s -> G9 trs σ H Q ->
    wpAny (model X.prog X.w) X.A (evalPairs (pairTrees keys values X.env pos)) (fun vs s'=>∃ ps H',Inv X O9 σ H' s'/\VV ps vs/\Q ps H') X.xe s
def Qe9:PPs X pos [] [] []:=fun O9 s σ H Q I h=>pairTrees_nil_walk ⟨[],H,I,.nil,h⟩
theorem Qds {ks:List (Option Expr)} {vs:List Expr} {trs:List (TE×TE)} (hk:PE X k tk) (hv:PE X v tv) (hr:PPs X pos ks vs trs):
  PPs X pos (some k::ks) (v::vs) ((tk,tv)::trs):=fun O9 s σ H Q I h =>
 pairTrees_cons_walk (thn (hk O9 s σ H _ I h) fun u s1 ⟨x,H1,I1,rx,q1⟩=>thn (hv O9 s1 σ H1 _ I1 q1) fun w2 s2 ⟨y,H2,I2,ry,q2⟩ =>
  thn (hr O9 s2 σ H2 _ I2 q2) fun ws s3 ⟨ps,H3,I3,rel,q3⟩=>⟨(x,y)::ps,H3,I3,.cons ⟨rx,ry⟩ rel,q3⟩)
def X1 (kvs more:List (Key×V)):List (Key×V):=more.foldl (fun acc kv=>zi acc kv.1 kv.2) kvs
theorem KV.merge:∀ {more:List (Key×V)} {rs:List (Key×Value)} {kvs:List (Key×V)} {vs:List (Key×Value)},KV more rs->KV kvs vs->KV (X1 kvs more) (merged vs rs):=by
  intro more rs kvs vs r
  unfold KV at r
  induction r generalizing kvs vs with
  | nil=>intro q;exact q
  | @cons p q ps qs h t ih =>
    intro r0
    have e:KV (zi kvs p.1 p.2) (stored vs q.1 q.2):=by
      have:=r0.put p.1 h.2
      rw [<- h.1];exact this
    exact ih e
theorem jv:∀ (more kvs:List (Key×V)),(X1 kvs more).length<=kvs.length+more.length
  | [],kvs=>by show kvs.length<=kvs.length+0;lia
  | p::r,kvs=>by
    have h1:=jv r (zi kvs p.1 p.2)
    have h2:=zI kvs p.1 p.2
    show (X1 (zi kvs p.1 p.2) r).length<=_
    rw [A9];lia
theorem Vz {w:World}:∀ {kvs:List (Key×V)} {ws:List (Value×Value)},VV (kvs.map fun kv=>(kV kv.1,kv.2)) ws->∃ rs,Carries (ZC P w) ws rs/\KV kvs rs
  | [],_,r=>by rw [List.map_nil] at r;cases r;exact ⟨[],True.intro,.nil⟩
  | p::kvs,_,r=>by
    rw [Ba] at r
    cases r with
    | @cons a b as bs h t =>
      obtain ⟨rs,c,q⟩:=Vz (P:=P) (w:=w) t
      obtain ⟨b1,b2⟩:=b
      exact ⟨(p.1,b2)::rs,⟨zG h.1,rfl,c⟩,.cons ⟨rfl,h.2⟩ q⟩
structure M1 (X:Cx) (o:Expr) (m:Str) (apos:Pos) (e:Expr) (cpos:Pos):Prop where
 O8:attributeBase o m X.env (eval o X.env)=eval o X.env
 few:((backTo cpos (starEach [e] X.env)).all (fun x=>!x.1)&&(backToKw cpos (keywordEach [] X.env)).all (fun x=>x.1.isSome)
  && decide (([e]:List Expr).length+([]:List Keyword).length+(if ([]:List Keyword).isEmpty then 0 else 1) < 30))=true
 line:(apos.endLine==cpos.line)=true
 trees:backTo cpos (starEach [e] X.env)=[(false,eval e X.env)]
structure M2 (X:Cx) (o:Expr) (m:Str) (apos:Pos) (e f:Expr) (cpos:Pos):Prop where
 O8:attributeBase o m X.env (eval o X.env)=eval o X.env
 few:((backTo cpos (starEach [e,f] X.env)).all (fun x=>!x.1)&&(backToKw cpos (keywordEach [] X.env)).all (fun x=>x.1.isSome)
  && decide (([e,f]:List Expr).length+([]:List Keyword).length+(if ([]:List Keyword).isEmpty then 0 else 1) < 30))=true
 line:(apos.endLine==cpos.line)=true
 trees:backTo cpos (starEach [e,f] X.env)=[(false,eval e X.env),(false,eval f X.env)]
section
variable {X:Cx} {O9:C9} {σ:St} {H:Hp} {s:Shared} {a:Addr} {y d:V} {u r:Value} {o:Option V} {A:Around} {E:C8}
theorem Qgc {Q:C8} (hu:A.units+1 < cLine) (I:Inv X O9 σ H s) (g:DGet H a y o) (ry:RelV y u) (h:∀ w' s',Inv X O9 σ H s'->RelV (o.getD .non) w'->Q w' s'):
  wpAny (model X.prog X.w) A (call (.builtin "dict.get") [.ref a,u]) Q E s:=by
 rcases g with ⟨kvs,k,e,ey,l⟩ | ⟨kvs,k,b,e,ey,eb,l⟩
 ·subst ey
  obtain ⟨z,hd,vs,rel,dd⟩:=yC I.hok e
  refine call_meetsIn PySem.F.slot_dict_get dd.typeIs PySem.F.entry_dict_get (PySem.F.args_dict_get_2 _ _) (meets_dict_get (ZC X.prog X.w) a (zG ry) hd) ⟨_,dd.mapOf,h _ _ (I.tok _) ?_⟩
  rw [l]
  exact (rel.val k).getD rfl
 ·subst ey
  cases (show u=Value.ref b from ry)
  obtain ⟨z,hd,xs,rel,dd⟩:=VJ I.hok e
  refine call_meetsIn PySem.F.slot_dict_get dd.typeIs PySem.F.entry_dict_get (PySem.F.args_dict_get_2 _ _) (meetsH_dict_get (tupleKind (ZC X.prog X.w)) a b hd) ⟨tupleKind_room_in1 hu,k,xs,jK I.hok eb,dd,h _ _ (I.tok _) ?_⟩
  rw [l]
  exact (rel.val k).getD rfl
theorem Qgd {Q:C8} (hu:A.units+1 < cLine) (I:Inv X O9 σ H s) (g:DGet H a y o) (ry:RelV y u) (rd:RelV d r) (h:∀ w' s',Inv X O9 σ H s'->RelV (o.getD d) w'->Q w' s'):
  wpAny (model X.prog X.w) A (call (.builtin "dict.get") [.ref a,u,r]) Q E s:=by
 rcases g with ⟨kvs,k,e,ey,l⟩ | ⟨kvs,k,b,e,ey,eb,l⟩
 ·subst ey
  obtain ⟨z,hd,vs,rel,dd⟩:=yC I.hok e
  refine call_meetsIn PySem.F.slot_dict_get dd.typeIs PySem.F.entry_dict_get (PySem.F.args_dict_get_3 _ _ _) (meets_dict_get_default (ZC X.prog X.w) a (zG ry) hd r) ⟨_,dd.mapOf,h _ _ (I.tok _) ?_⟩
  rw [l]
  exact (rel.val k).getD rd
 ·subst ey
  cases (show u=Value.ref b from ry)
  obtain ⟨z,hd,xs,rel,dd⟩:=VJ I.hok e
  refine call_meetsIn PySem.F.slot_dict_get dd.typeIs PySem.F.entry_dict_get (PySem.F.args_dict_get_3 _ _ _) (meetsH_dict_get_default (tupleKind (ZC X.prog X.w)) a b hd r) ⟨tupleKind_room_in1 hu,k,xs,jK I.hok eb,dd,h _ _ (I.tok _) ?_⟩
  rw [l]
  exact (rel.val k).getD rd
end
section
variable {X:Cx} {o e f:Expr} {apos cpos:Pos} {td ty tx:TE}
end
section
variable {X:Cx} {O9:C9} {σ:St} {H:Hp} {s:Shared} {a:Addr} {kvs:List (Key×V)} {A:Around} {E:C8}
end
section
variable {X:Cx} {O9:C9} {σ:St} {H:Hp} {s:Shared} {a:Addr} {y:V} {u:Value} {A:Around} {E:C8}
end
section
variable {X:Cx}
theorem Qa4:J7 X (.builtin "len") (fun xs H Q=>∃ a kvs,xs=[V.ref a]/\H a=some (.dK kvs)/\Q (.int kvs.length) H):=by
 intro O9 s σ H xs us Q I r h
 obtain ⟨a,kvs,rfl,ha,q⟩:=h
 obtain ⟨u,rfl,ru⟩:=UH r
 cases ru
 exact QhY I (.inl ha) fun t s' I'=>⟨.int kvs.length,H,I',⟨t,rfl⟩,q⟩
end
section
variable {κ:Type} [DecidableEq κ]
end
end L2
namespace D
open PySem PySem.Spec PyProof.Rows L2
abbrev St:=L2.St
inductive DV where
 | non | bl (b:Bool) | int (i:Int) | str (x:Str) | tup (xs:List DV) | lst (xs:List DV) | ref (i:Nat)
inductive OV where
 | lst (xs:List DV)
 | dic (kvs:List (Key×DV))
 | ins (c:Str) (fs:List (Str×DV))
abbrev Hs:=List OV
abbrev M:=StateT Hs Option
abbrev Ef:=List DV->M DV
mutual
def RepV (K:Aa) (ρ:Ee) (B:Ed) (H:Hp):DV->V->Prop
 | .non,v=>v=.non
 | .bl b,v=>v=.bl b
 | .int i,v=>v=.int i
 | .str x,v=>v=.str x
 | .tup ds,v=>∃ a xs,v=.ref a/\¬ B a/\SqT K H a xs/\RepL K ρ B H ds xs
 | .lst ds,v=>∃ a xs,v=.ref a/\¬ B a/\SqL K H a xs/\RepL K ρ B H ds xs
 | .ref i,v=>∃ a,v=.ref a/\ρ[i]?=some a
def RepL (K:Aa) (ρ:Ee) (B:Ed) (H:Hp):List DV->List V->Prop
 | [],xs=>xs=[]
 | d::ds,xs=>∃ x r,xs=x::r/\RepV K ρ B H d x/\RepL K ρ B H ds r
end
def ORep (K:Aa) (ρ:Ee) (B:Ed) (H:Hp) (a:Addr):OV->Prop
 | .lst ds=>∃ xs,H a=some (.lst xs)/\RepL K ρ B H ds xs
 | .dic kvs=>∃ xs:List (Key×V),H a=some (.dK xs)/\xs.map (·.1)=kvs.map (·.1)/\RepL K ρ B H (kvs.map (·.2)) (xs.map (·.2))
 | .ins c fs=>∃ (C dx:Addr) (xs:List (Str×V)),PySem.W.nsIn K mainGlobals c=some (some (.ref C))/\H a=some (.ins C dx xs)/\xs.map (·.1)=fs.map (·.1)/\RepL K ρ B H (fs.map (·.2)) (xs.map (·.2))
structure Gr (K:Aa) (ρ:Ee) (B:Ed) (H:Hp) (ρ':Ee) (B':Ed) (H':Hp):Prop where
 pre:ρ <+: ρ'
 ban:∀ a,B a->B' a
 new:∀ a,B' a->B a∨(H a=none/\K.lookup a=none)
 rnew:∀ a∈ρ',a∈ρ∨H a=none
 keep:∀ a o,a∉ρ->H a=some o->H' a=some o
 trk:∀ a,H' a=none->H a=none
structure WOk (K:Aa) (ρ:Ee) (B:Ed) (hp:Hs) (H:Hp):Prop where
 len:ρ.length=hp.length
 nd:ρ.Nodup
 obj:∀ (i:Nat) (a:Addr) (o:OV),ρ[i]?=some a->hp[i]?=some o->ORep K ρ B H a o
 rb:∀ a∈ρ,B a
 bt:∀ a,B a->H a≠none
 bk:∀ a,B a->K.lookup a=none
section
variable {K:Aa} {ρ ρ' ρ'':Ee} {B B' B'':Ed} {H H' H'':Hp}
def Gr.refl:Gr K ρ B H ρ B H:=⟨Cd,fun _ h=>h,fun _ h=>.inl h,fun _ h=>.inl h,fun _ _ _ h=>h,fun _ h=>h⟩
theorem Gr.trans (a:Gr K ρ B H ρ' B' H') (b:Gr K ρ' B' H' ρ'' B'' H''):Gr K ρ B H ρ'' B'' H'' where
 pre:=a.pre.trans b.pre
 ban:=fun x h=>b.ban x (a.ban x h)
 new:=fun x h=>(b.new x h).elim (a.new x) fun z=>.inr ⟨a.trk x z.1,z.2⟩
 rnew:=fun x h=>(b.rnew x h).elim (a.rnew x) fun z=>.inr (a.trk x z)
 keep:=fun x o hn h=>b.keep x o (fun z=>(a.rnew x z).elim hn (fun z=>by rw [h] at z;cases z)) (a.keep x o hn h)
 trk:=fun x h=>a.trk x (b.trk x h)
structure Gs (K:Aa) (ρ:Ee) (B:Ed) (H:Hp) (ρ':Ee) (B':Ed) (H':Hp):Prop where
 pre:ρ <+: ρ'
 new:∀ a,B' a->B a∨(H a=none/\K.lookup a=none)
 keep:∀ a o,¬ B a->H a=some o->H' a=some o
 trk:∀ a,H' a=none->H a=none
def Gr.gs (rb:∀ a∈ρ,B a) (g:Gr K ρ B H ρ' B' H'):Gs K ρ B H ρ' B' H':=⟨g.pre,g.new,fun a o nb h=>g.keep a o (fun z=>nb (rb a z)) h,g.trk⟩
def Gs.refl:Gs K ρ B H ρ B H:=⟨Cd,fun _ h=>.inl h,fun _ _ _ h=>h,fun _ h=>h⟩
theorem Gs.trans (a:Gs K ρ B H ρ' B' H') (b:Gs K ρ' B' H' ρ'' B'' H''):Gs K ρ B H ρ'' B'' H'' where
 pre:=a.pre.trans b.pre
 new:=fun x h=>(b.new x h).elim (a.new x) fun z=>.inr ⟨a.trk x z.1,z.2⟩
 keep:=fun x o nb h=>b.keep x o (fun z=>(a.new x z).elim nb fun q=>by rw [h] at q;cases q.1) (a.keep x o nb h)
 trk:=fun x h=>a.trk x (b.trk x h)
theorem SqT.trk {a:Addr} (h:SqT K H a xs):H a≠none∨∃ o,K.lookup a=some o:=by
 rcases h with (h | ⟨o,h⟩) | ⟨o,_,_,h,_⟩
 ·exact .inl (by rw [h];simp)
 ·exact .inl (by rw [h];simp)
 ·exact .inr ⟨o,h⟩
theorem SqL.trk {a:Addr} (h:SqL K H a xs):H a≠none∨∃ o,K.lookup a=some o:=by
 rcases h with (h | ⟨o,h⟩) | ⟨o,_,_,h,_⟩
 ·exact .inl (by rw [h];simp)
 ·exact .inl (by rw [h];simp)
 ·exact .inr ⟨o,h⟩
theorem Gs.ok {a:Addr} (g:Gs K ρ B H ρ' B' H') (hb:¬ B a) (t:H a≠none∨∃ o,K.lookup a=some o):¬ B' a:=fun z =>
 (g.new a z).elim hb fun ⟨n,k⟩=>t.elim (fun q=>q n) fun ⟨o,q⟩=>by rw [k] at q;cases q
theorem Gs.sqT {a:Addr} (g:Gs K ρ B H ρ' B' H') (hr:¬ B a) (h:SqT K H a xs):SqT K H' a xs:=by
 rcases h with (h | ⟨o,h⟩) | h
 ·exact .inl (.inl (g.keep _ _ hr h))
 ·exact .inl (.inr ⟨o,g.keep _ _ hr h⟩)
 ·exact .inr h
theorem Gs.sqL {a:Addr} (g:Gs K ρ B H ρ' B' H') (hr:¬ B a) (h:SqL K H a xs):SqL K H' a xs:=by
 rcases h with (h | ⟨o,h⟩) | h
 ·exact .inl (.inl (g.keep _ _ hr h))
 ·exact .inl (.inr ⟨o,g.keep _ _ hr h⟩)
 ·exact .inr h
theorem QaB {i:Nat} {a:Addr} (p:ρ <+: ρ') (h:ρ[i]?=some a):ρ'[i]?=some a:=by
 obtain ⟨t,rfl⟩:=p
 rw [Ag (Ac.mp h).1];exact h
mutual
theorem RepV.gs (g:Gs K ρ B H ρ' B' H'):∀ (d:DV) (v:V),RepV K ρ B H d v->RepV K ρ' B' H' d v
  | .non,_,h=>by unfold RepV at h ⊢;exact h
  | .bl _,_,h=>by unfold RepV at h ⊢;exact h
  | .int _,_,h=>by unfold RepV at h ⊢;exact h
  | .str _,_,h=>by unfold RepV at h ⊢;exact h
  | .ref _,_,h=>by
    unfold RepV at h ⊢
    obtain ⟨a,e,h⟩:=h
    exact ⟨a,e,QaB g.pre h⟩
  | .tup ds,_,h=>by
    unfold RepV at h ⊢
    obtain ⟨a,xs,e,nb,sq,rl⟩:=h
    exact ⟨a,xs,e,g.ok nb (SqT.trk sq),g.sqT nb sq,RepL.gs g ds xs rl⟩
  | .lst ds,_,h=>by
    unfold RepV at h ⊢
    obtain ⟨a,xs,e,nb,sq,rl⟩:=h
    exact ⟨a,xs,e,g.ok nb (SqL.trk sq),g.sqL nb sq,RepL.gs g ds xs rl⟩
theorem RepL.gs (g:Gs K ρ B H ρ' B' H'):∀ (ds:List DV) (xs:List V),RepL K ρ B H ds xs->RepL K ρ' B' H' ds xs
  | [],_,h=>by unfold RepL at h ⊢;exact h
  | d::ds,_,h=>by
    unfold RepL at h ⊢
    obtain ⟨x,r,e,h1,h2⟩:=h
    exact ⟨x,r,e,RepV.gs g d x h1,RepL.gs g ds r h2⟩
end
def RepV.grow (rb:∀ a∈ρ,B a) (g:Gr K ρ B H ρ' B' H') (d:DV) (v:V) (h:RepV K ρ B H d v):RepV K ρ' B' H' d v:=RepV.gs (g.gs rb) d v h
def RepL.grow (rb:∀ a∈ρ,B a) (g:Gr K ρ B H ρ' B' H') (ds:List DV) (xs:List V) (h:RepL K ρ B H ds xs):RepL K ρ' B' H' ds xs:=RepL.gs (g.gs rb) ds xs h
theorem RepL.length:∀ {ds:List DV} {xs:List V},RepL K ρ B H ds xs->ds.length=xs.length
  | [],_,h=>by unfold RepL at h;subst h;rfl
  | d::ds,_,h=>by
    unfold RepL at h
    obtain ⟨x,r,rfl,_,h2⟩:=h
    simp [RepL.length h2]
theorem RepL.get:∀ {ds:List DV} {xs:List V} {i:Nat} {d:DV},RepL K ρ B H ds xs->ds[i]?=some d->∃ x,xs[i]?=some x/\RepV K ρ B H d x
  | [],_,_,_,_,e=>by simp at e
  | d::ds,_,0,_,h,e=>by
    unfold RepL at h
    obtain ⟨x,r,rfl,h1,_⟩:=h
    simp at e;subst e
    exact ⟨x,rfl,h1⟩
  | d::ds,_,i+1,_,h,e=>by
    unfold RepL at h
    obtain ⟨x,r,rfl,_,h2⟩:=h
    obtain ⟨y,h3,h4⟩:=RepL.get h2 (by simpa using e)
    exact ⟨y,by simpa using h3,h4⟩
theorem RepL.nil:RepL K ρ B H [] []:=by unfold RepL;rfl
theorem RepL.cons {d:DV} {x:V} (h:RepV K ρ B H d x) (t:RepL K ρ B H ds xs):RepL K ρ B H (d::ds) (x::xs):=by
 unfold RepL;exact ⟨x,xs,rfl,h,t⟩
theorem RepL.append:∀ {ds es:List DV} {xs ys:List V},RepL K ρ B H ds xs->RepL K ρ B H es ys->RepL K ρ B H (ds++es) (xs++ys)
  | [],_,_,_,h,t=>by unfold RepL at h;subst h;exact t
  | d::ds,_,_,_,h,t=>by
    unfold RepL at h
    obtain ⟨x,r,rfl,h1,h2⟩:=h
    exact RepL.cons h1 (RepL.append h2 t)
def RepL.one (h:RepV K ρ B H d x):RepL K ρ B H [d] [x]:=RepL.cons h RepL.nil
theorem RepL.take:∀ (n:Nat) {ds:List DV} {xs:List V},RepL K ρ B H ds xs->RepL K ρ B H (ds.take n) (xs.take n)
  | 0,_,_,_=>by simp;exact RepL.nil
  | _+1,[],_,h=>by unfold RepL at h;subst h;simp;exact RepL.nil
  | n+1,d::ds,_,h=>by
    unfold RepL at h
    obtain ⟨x,r,rfl,h1,h2⟩:=h
    exact RepL.cons h1 (RepL.take n h2)
theorem RepL.drop:∀ (n:Nat) {ds:List DV} {xs:List V},RepL K ρ B H ds xs->RepL K ρ B H (ds.drop n) (xs.drop n)
  | 0,_,_,h=>h
  | _+1,[],_,h=>by unfold RepL at h;subst h;simp;exact RepL.nil
  | n+1,d::ds,_,h=>by
    unfold RepL at h
    obtain ⟨x,r,rfl,h1,h2⟩:=h
    exact RepL.drop n h2
theorem Gr.laid {p:Addr} (h:H p=none):Gr K ρ B H ρ B (upd H p o) where
 pre:=Cd
 ban:=fun _ h=>h
 new:=fun _ h=>.inl h
 rnew:=fun _ h=>.inl h
 keep:=fun a u _ q=>by rw [Q4 (ZF q h)];exact q
 trk:=fun a q=>by
  by_cases e:a=p
  ·subst e;rw [Za] at q;cases q
  ·rw [Q4 e] at q;exact q
theorem ORep.gs {a:Addr} (g:Gs K ρ B H ρ' B' H') (hk:H' a=H a) (h:ORep K ρ B H a o):ORep K ρ' B' H' a o:=by
  cases o with
  | lst ds =>
    obtain ⟨xs,e,rl⟩:=h
    exact ⟨xs,hk.trans e,RepL.gs g _ _ rl⟩
  | dic kvs =>
    obtain ⟨xs,e,ek,rl⟩:=h
    exact ⟨xs,hk.trans e,ek,RepL.gs g _ _ rl⟩
  | ins c fs =>
    obtain ⟨C,dx,xs,nc,e,ek,rl⟩:=h
    exact ⟨C,dx,xs,nc,hk.trans e,ek,RepL.gs g _ _ rl⟩
theorem WOk.laid {p:Addr} (W:WOk K ρ B hp H) (h:H p=none):WOk K ρ B hp (upd H p o) where
 len:=W.len
 nd:=W.nd
 obj:=fun i a u e q=>ORep.gs ((Gr.laid h).gs W.rb) (by
  have hb:=W.bt a (W.rb a (Aw e))
  exact Q4 (fun z=>hb (z▸h))) (W.obj i a u e q)
 rb:=W.rb
 bt:=fun a z q=>W.bt a z ((Gr.laid (K:=K) (ρ:=ρ) (B:=B) h).trk a q)
 bk:=W.bk
end
inductive Sl where
 | un | val (d:DV) | acc (ds:List DV)
abbrev En:=List Sl
structure Ent where
 ρ:List Addr
 B:Addr->Prop
 H:Hp
structure SOk (K:Aa) (Z:Ent) (env:En) (σ:St) (ρ:Ee) (B:Ed) (hp:Hs) (H:Hp):Prop where
 gr:Gr K Z.ρ Z.B Z.H ρ B H
 zb:∀ a,Z.B a->Z.H a≠none
 wo:WOk K ρ B hp H
 slot:∀ (i:Nat) (d:DV),env[i]?=some (.val d)->∃ v,σ[i]?=some (some v)/\RepV K ρ B H d v
 accs:∀ (i:Nat) (ds:List DV),env[i]?=some (.acc ds)->∃ a xs,σ[i]?=some (some (.ref a))/\H a=some (.lst xs)/\Z.H a=none/\B a/\a∉ρ/\RepL K ρ B H ds xs
 adis:∀ (i j:Nat) (ds es:List DV) (a:Addr),env[i]?=some (.acc ds)->env[j]?=some (.acc es)->σ[i]?=some (some (.ref a))->σ[j]?=some (some (.ref a))->i=j
 len:σ.length=env.length
theorem SOk.grow {K:Aa} {Z:Ent} (S:SOk K Z env σ ρ B hp H) (g:Gr K ρ B H ρ' B' H') (W:WOk K ρ' B' hp' H'):SOk K Z env σ ρ' B' hp' H' where
 gr:=S.gr.trans g
 zb:=S.zb
 wo:=W
 slot:=fun i d e=>let ⟨v,h1,h2⟩:=S.slot i d e;⟨v,h1,RepV.grow S.wo.rb g d v h2⟩
 accs:=fun i ds e=>by
  obtain ⟨a,xs,h1,h2,h3,h4,h5,h6⟩:=S.accs i ds e
  refine ⟨a,xs,h1,g.keep a _ h5 h2,h3,g.ban a h4,fun z=>?_,RepL.grow S.wo.rb g ds xs h6⟩
  rcases g.rnew a z with q | q
  ·exact h5 q
  ·rw [h2] at q;cases q
 adis:=S.adis
 len:=S.len
abbrev DEx:=En->M DV
abbrev DTx:=En->M Bool
abbrev DAx:=En->M (List DV)
inductive Fl where
 | nx | rt (d:DV) | bk | ct
abbrev DSx:=En->M (Fl×En)
def Fol (K:Aa) (ρ:Ee) (B:Ed) (H:Hp) (d:DV) (hp':Hs) (Q:VK):Prop :=
 ∀ v ρ' B' H',Gr K ρ B H ρ' B' H'->WOk K ρ' B' hp' H'->RepV K ρ' B' H' d v->Q v H'
def QhN (K:Aa) (ρ:Ee) (B:Ed) (H:Hp) (hp':Hs) (Q:Hp->Prop):Prop :=
 ∀ ρ' B' H',Gr K ρ B H ρ' B' H'->WOk K ρ' B' hp' H'->Q H'
def QiX (K:Aa) (ρ:Ee) (B:Ed) (H:Hp) (ds:List DV) (hp':Hs) (Q:List V->Hp->Prop):Prop :=
 ∀ vs ρ' B' H',Gr K ρ B H ρ' B' H'->WOk K ρ' B' hp' H'->RepL K ρ' B' H' ds vs->Q vs H'
def tD (K:Aa) (f:DEx):TE:=fun σ H Q=>∃ Z env ρ B hp d hp',SOk K Z env σ ρ B hp H/\f env hp=some (d,hp')/\Fol K ρ B H d hp' Q
def tDT (K:Aa) (f:DTx):TT:=fun σ H Q=>∃ Z env ρ B hp d hp',SOk K Z env σ ρ B hp H/\f env hp=some (d,hp')/\QhN K ρ B H hp' (Q d)
def tDA (K:Aa) (f:DAx):TA:=fun σ H Q=>∃ Z env ρ B hp ds hp',SOk K Z env σ ρ B hp H/\f env hp=some (ds,hp')/\QiX K ρ B H ds hp' Q
def DE (X:Cx) (e:Expr) (f:DEx):Prop:=PE X e (tD X.K f)
def DT (X:Cx) (e:Expr) (f:DTx):Prop:=PT X e (tDT X.K f)
def DW (X:Cx) (e:Expr) (f:DTx):Prop:=PW X e (tDT X.K f)
def DA (X:Cx) (es:List Expr) (f:DAx):Prop:=PA X es (tDA X.K f)
def FolS (K:Aa) (Z:Ent) (ρ:Ee) (B:Ed) (H:Hp) (fl:Fl) (env':En) (hp':Hs) (D:Ge):Prop :=
  ∀ σ' ρ' B' H', Gs K ρ B H ρ' B' H' -> SOk K Z env' σ' ρ' B' hp' H' -> match fl with
    | .nx=>D.nx σ' H'
    | .bk=>D.bk σ' H'
    | .ct=>D.ct σ' H'
    | .rt d=>∀ v,RepV K ρ' B' H' d v->D.rt v H'
def tDS (K:Aa) (f:DSx):TS:=fun D σ H=>∃ Z env ρ B hp fl env' hp',SOk K Z env σ ρ B hp H/\f env hp=some ((fl,env'),hp')/\FolS K Z ρ B H fl env' hp' D
def DS (X:Cx) (st:Stmt) (f:DSx):Prop:=PS X st (tDS X.K f)
def DSs (X:Cx) (st:List Stmt) (f:DSx):Prop:=PSs X st (tDS X.K f)
section
variable {X:Cx}
def _root_.L2.PE.imp {t t':TE} (h:PE X e t) (i:∀ σ H Q,t' σ H Q->t σ H Q):PE X e t':=fun O9 s σ H Q I q=>h O9 s σ H Q I (i σ H Q q)
def _root_.L2.PT.imp {t t':TT} (h:PT X e t) (i:∀ σ H Q,t' σ H Q->t σ H Q):PT X e t':=fun O9 s σ H Q I q=>h O9 s σ H Q I (i σ H Q q)
def _root_.L2.PW.imp {t t':TT} (h:PW X e t) (i:∀ σ H Q,t' σ H Q->t σ H Q):PW X e t':=fun wh O9 s σ H Q I q=>h wh O9 s σ H Q I (i σ H Q q)
def _root_.L2.PA.imp {es:List Expr} {t t':TA} (h:PA X es t) (i:∀ σ H Q,t' σ H Q->t σ H Q):PA X es t':=fun pos O9 s σ H Q I q=>h pos O9 s σ H Q I (i σ H Q q)
def _root_.L2.PS.imp {st:Stmt} {t t':TS} (h:PS X st t) (i:∀ Dn σ H,t' Dn σ H->t Dn σ H):PS X st t':=fun O9 s σ H Dn I q=>h O9 s σ H Dn I (i Dn σ H q)
def _root_.L2.PSs.imp {st:List Stmt} {t t':TS} (h:PSs X st t) (i:∀ Dn σ H,t' Dn σ H->t Dn σ H):PSs X st t':=fun O9 s σ H Dn I q=>h O9 s σ H Dn I (i Dn σ H q)
def kE (K:Aa) (H:Hp):Prop:=∀ a o,H a=some o->K.lookup a=none
theorem Inv.kfree (I:Inv X O9 σ H s):kE X.K H:=fun a o e=>by
  cases q:X.K.lookup a with
  | none=>rfl
  | some ob =>
    have:=(I.bs a ob (I.ok.mod.kin a ob q)).2
    rw [e] at this;cases this
theorem _root_.L2.PE.kf {t:TE} (h:PE X e t):PE X e (fun σ H Q=>t σ H fun v H'=>kE X.K H'->Q v H'):=fun O9 s σ H Q I q =>
 thn (h O9 s σ H _ I q) fun u s' ⟨v,H',I',r,z⟩=>⟨v,H',I',r,z (Inv.kfree I')⟩
theorem Qg {α β:Type} {f:M α} {g:α->M β} {y:β} (h:(f >>= g) hp=some (y,hp')):∃ x hp1,f hp=some (x,hp1)/\g x hp1=some (y,hp'):=by
 change (f hp).bind (fun p=>g p.1 p.2)=some (y,hp') at h
 cases q:f hp with
 | none=>rw [q] at h;cases h
 | some p=>rw [q] at h;exact ⟨p.1,p.2,rfl,h⟩
theorem Ql {α:Type} {x y:α} {hp hp':Hs} (h:(pure x:M α) hp=some (y,hp')):x=y/\hp=hp':=by
 change some (x,hp)=some (y,hp') at h
 cases h;exact ⟨rfl,rfl⟩
theorem tD.run {K:Aa} {f:DEx} {Z:Ent} {Q:VK} (S:SOk K Z env σ ρ B hp H) (e:f env hp=some (d,hp1))
  (k:∀ v ρ' B' H',Gr K ρ B H ρ' B' H'->SOk K Z env σ ρ' B' hp1 H'->RepV K ρ' B' H' d v->Q v H'):tD K f σ H Q :=
 ⟨Z,env,ρ,B,hp,d,hp1,S,e,fun v ρ' B' H' g W r=>k v ρ' B' H' g (S.grow g W) r⟩
def Qb (i:Nat):DEx:=fun env=>match env[i]? with
 | some (.val d)=>pure d
 | _=>failure
def eC (d:DV):DEx:=fun _=>pure d
theorem Qbd {i:Nat} {env:En} {hp hp':Hs} (h:Qb i env hp=some (d,hp')):env[i]?=some (.val d)/\hp=hp':=by
  unfold Qb at h
  cases q:env[i]? with
  | none=>rw [q] at h;cases h
  | some z =>
    rw [q] at h
    cases z with
    | val x=>obtain ⟨rfl,rfl⟩:=Ql h;exact ⟨rfl,rfl⟩
    | un=>cases h
    | acc _=>cases h
theorem Qa (i:Nat) {x:Str} {pos:Pos} (hN:X.N[i]?=some x:=by rfl) (hv:Vis X.env.scope x:=by first | exact Or.inl rfl | exact Or.inr (Or.inl rfl) | exact Or.inr (Or.inr rfl)) (hd:(x==("__debug__" : Str))=false:=by decide)
  (hcd:(x==("__classdict__" : Str))=false:=by decide):DE X (.Name x pos) (Qb i) :=
 (Qg0 hN hv hd hcd).imp fun σ H Q ⟨Z,env,ρ,B,hp,d,hp',S,e,k⟩=>by
  obtain ⟨e1,rfl⟩:=Qbd e
  obtain ⟨v,h1,h2⟩:=S.slot i d e1
  exact ⟨v,h1,k v ρ B H Gr.refl S.wo h2⟩
theorem zp (h:PE X e (tC v)) (r:∀ K ρ B H,RepV K ρ B H d v):DE X e (eC d) :=
 h.imp fun σ H Q ⟨Z,env,ρ,B,hp,d',hp',S,e,k⟩=>by
  obtain ⟨rfl,rfl⟩:=Ql e
  exact k v ρ B H Gr.refl S.wo (r _ _ _ _)
theorem Qq {i:Int} {j pos}:DE X (.Constant (.int i) j pos) (eC (.int i)):=zp QgU fun _ _ _ _=>by unfold RepV;rfl
theorem J9 {b:Bool} {j pos}:DE X (.Constant (.bool b) j pos) (eC (.bl b)):=zp Qiq fun _ _ _ _=>by unfold RepV;rfl
theorem ZR {j pos}:DE X (.Constant .none j pos) (eC .non):=zp QgV fun _ _ _ _=>by unfold RepV;rfl
theorem Zm {x:Str} {j pos}:DE X (.Constant (.str x) j pos) (eC (.str x)):=zp QgY fun _ _ _ _=>by unfold RepV;rfl
theorem Ze {x:Str} {i:Int} {t:Tok} {pos:Pos} (hg:Gl X x) (hm:X.mg x=some (.int i t)) (hd:(x==("__debug__" : Str))=false:=by decide):DE X (.Name x pos) (eC (.int i)) :=
 zp (Qaz (v:=.int i) hg hm ⟨t,rfl⟩ hd) fun _ _ _ _=>by unfold RepV;rfl
def tP2 (K:Aa) (g:DV->DV->M DV):R2:=fun x y H Q=>∃ ρ B hp dx dy d hp',WOk K ρ B hp H/\RepV K ρ B H dx x/\RepV K ρ B H dy y/\g dx dy hp=some (d,hp')/\Fol K ρ B H d hp' Q
def P2 (X:Cx) (f:Value->Value->Sem Value) (g:DV->DV->M DV):Prop:=OpR X f (tP2 X.K g)
def Qk (g:DV->DV->M DV) (a b:DEx):DEx:=fun env=>do let x <- a env;let y <- b env;g x y
variable {a b c:Expr} {fa fb fc:DEx} {pos:Pos}
theorem zt {K:Aa} {g:DV->DV->M DV} (h:tD K (Qk g fa fb) σ H Q):tOp (tP2 K g) (tD K fa) (tD K fb) σ H Q:=by
 obtain ⟨Z,env,ρ,B,hp,d,hp',S,e,k⟩:=h
 obtain ⟨x,hp1,e1,e2⟩:=Qg e
 obtain ⟨y,hp2,e3,e4⟩:=Qg e2
 refine tD.run S e1 fun v ρ1 B1 H1 g1 S1 r1=>tD.run S1 e3 fun u ρ2 B2 H2 g2 S2 r2=>?_
 exact ⟨ρ2,B2,hp2,x,y,d,hp',S2.wo,RepV.grow S1.wo.rb g2 _ _ r1,r2,e4,fun w ρ' B' H' g W r=>k w ρ' B' H' (g1.trans (g2.trans g)) W r⟩
theorem QD {op:Operator} {g:DV->DV->M DV} (ho:P2 X (binaryOp op) g) (ha:DE X a fa) (hb:DE X b fb):DE X (.BinOp a op b pos) (Qk g fa fb) :=
 (Qis ho ha hb).imp fun _ _ _ h=>zt h
theorem YW {op:CmpOp} {g:DV->DV->M DV} (ho:P2 X (compareOp op) g) (ha:DE X a fa) (hb:DE X b fb) (hm:behindInMarks op b=false):DE X (.Compare a [op] [b] pos) (Qk g fa fb) :=
 (QeW ho ha hb hm).imp fun _ _ _ h=>zt h
def asB:DV->M Bool
 | .bl b=>pure b
 | _=>failure
def eB (f:DEx):DTx:=fun env=>do asB (<- f env)
theorem qc {d:DV} {c:Bool} {hp hp':Hs} (h:asB d hp=some (c,hp')):d=.bl c/\hp=hp':=by
 cases d with
 | bl b=>obtain ⟨rfl,rfl⟩:=Ql h;exact ⟨rfl,rfl⟩
 | _=>cases h
theorem RepV.blI {K:Aa} {b:Bool} {v:V} (h:RepV K ρ B H (.bl b) v):v=.bl b:=by unfold RepV at h;exact h
theorem RepV.intI {K:Aa} {b:Int} {v:V} (h:RepV K ρ B H (.int b) v):v=.int b:=by unfold RepV at h;exact h
theorem RepV.strI {K:Aa} {b:Str} {v:V} (h:RepV K ρ B H (.str b) v):v=.str b:=by unfold RepV at h;exact h
theorem RepV.nonI {K:Aa} {v:V} (h:RepV K ρ B H .non v):v=.non:=by unfold RepV at h;exact h
theorem RepV.tupI {K:Aa} {B:Ed} {v:V} (h:RepV K ρ B H (.tup ds) v):∃ a xs,v=.ref a/\¬ B a/\SqT K H a xs/\RepL K ρ B H ds xs:=by unfold RepV at h;exact h
theorem RepV.lstI {K:Aa} {B:Ed} {v:V} (h:RepV K ρ B H (.lst ds) v):∃ a xs,v=.ref a/\¬ B a/\SqL K H a xs/\RepL K ρ B H ds xs:=by unfold RepV at h;exact h
theorem RepV.refI {K:Aa} {ρ:Ee} {i:Nat} {v:V} (h:RepV K ρ B H (.ref i) v):∃ a,v=.ref a/\ρ[i]?=some a:=by unfold RepV at h;exact h
section
variable {K:Aa} {ρ:Ee} {B:Ed} {H:Hp}
theorem Jb {b:Bool}:RepV K ρ B H (.bl b) (.bl b):=by unfold RepV;rfl
theorem JE {b:Int}:RepV K ρ B H (.int b) (.int b):=by unfold RepV;rfl
theorem ji:RepV K ρ B H .non .non:=by unfold RepV;rfl
theorem qP {a:Addr} (h1:¬ B a) (h2:SqT K H a xs) (h3:RepL K ρ B H ds xs):RepV K ρ B H (.tup ds) (.ref a):=by unfold RepV;exact ⟨a,xs,rfl,h1,h2,h3⟩
theorem GR {a:Addr} (h1:¬ B a) (h2:SqL K H a xs) (h3:RepL K ρ B H ds xs):RepV K ρ B H (.lst ds) (.ref a):=by unfold RepV;exact ⟨a,xs,rfl,h1,h2,h3⟩
end
theorem X5 {e:Expr} (h:DE X e f) (he:∀ whole,isTrue e X.env whole=(do let v <- whole;standAt e.pos;holding [v] (truthy v)):=by intro _;rfl):DT X e (eB f) :=
 (Qhi h he).imp fun σ H Q ⟨Z,env,ρ,B,hp,d,hp',S,e,k⟩=>by
  obtain ⟨x,hp1,e1,e2⟩:=Qg e
  obtain ⟨rfl,rfl⟩:=qc e2
  exact tD.run S e1 fun v ρ1 B1 H1 g1 S1 r1=>⟨d,r1.blI,k ρ1 B1 H1 g1 S1.wo⟩
theorem Q8 {op:CmpOp} {g:DV->DV->M DV} (ho:P2 X (compareOp op) g) (ha:DE X a fa) (hb:DE X b fb) (hm:behindInMarks op b=false):DT X (.Compare a [op] [b] pos) (eB (Qk g fa fb)) :=
 (Qff ho ha hb hm).imp fun σ H Q ⟨Z,env,ρ,B,hp,d,hp',S,e,k⟩=>by
  obtain ⟨x,hp1,e1,e2⟩:=Qg e
  obtain ⟨rfl,rfl⟩:=qc e2
  exact zt (tD.run S e1 fun v ρ1 B1 H1 g1 S1 r1=>⟨d,r1.blI,k ρ1 B1 H1 g1 S1.wo⟩)
def YA (f g:DTx):DTx:=fun env=>do if <- f env then g env else pure false
def eOr (f g:DTx):DTx:=fun env=>do if <- f env then pure true else g env
def Jx (f:DTx):DTx:=fun env=>do let b <- f env;pure (!b)
def Xn (f g:DEx):DEx:=fun env=>do if <- asB (<- f env) then g env else pure (.bl false)
def VM (f g:DEx):DEx:=fun env=>do if <- asB (<- f env) then pure (.bl true) else g env
def qh (f:DEx):DEx:=fun env=>do let b <- asB (<- f env);pure (.bl (!b))
def eIf (c:DTx) (f g:DEx):DEx:=fun env=>do if <- c env then f env else g env
theorem tDT.run {K:Aa} {f:DTx} {Z:Ent} {d:Bool} {Q:Bool->Hp->Prop} (S:SOk K Z env σ ρ B hp H) (e:f env hp=some (d,hp1))
  (k:∀ ρ' B' H',Gr K ρ B H ρ' B' H'->SOk K Z env σ ρ' B' hp1 H'->Q d H'):tDT K f σ H Q :=
 ⟨Z,env,ρ,B,hp,d,hp1,S,e,fun ρ' B' H' g W=>k ρ' B' H' g (S.grow g W)⟩
variable {ca cb:DTx} {rest:List Expr}
def kY (h:DT X a ca):DW X (.BoolOp .And [a] pos) ca:=Qfj h
def gj (h:DT X a ca):DW X (.BoolOp .Or [a] pos) ca:=Qhl h
theorem Qcm (ha:DT X a ca) (hb:DW X (.BoolOp .And (b::rest) pos) cb):DW X (.BoolOp .And (a::b::rest) pos) (YA ca cb) :=
  (Qhk ha hb).imp fun σ H Q ⟨Z,env,ρ,B,hp,d,hp',S,e,k⟩=>by
    obtain ⟨x,hp1,e1,e2⟩:=Qg e
    refine tDT.run S e1 fun ρ1 B1 H1 g1 S1=>?_
    cases x with
    | true=>exact vV (tDT.run S1 e2 fun ρ2 B2 H2 g2 S2=>k ρ2 B2 H2 (g1.trans g2) S2.wo)
    | false =>
      obtain ⟨rfl,rfl⟩:=Ql e2
      exact vU (k ρ1 B1 H1 g1 S1.wo)
theorem Qcn (ha:DT X a ca) (hb:DW X (.BoolOp .Or (b::rest) pos) cb):DW X (.BoolOp .Or (a::b::rest) pos) (eOr ca cb) :=
  (Qiw ha hb).imp fun σ H Q ⟨Z,env,ρ,B,hp,d,hp',S,e,k⟩=>by
    obtain ⟨x,hp1,e1,e2⟩:=Qg e
    refine tDT.run S e1 fun ρ1 B1 H1 g1 S1=>?_
    cases x with
    | false=>exact vU (tDT.run S1 e2 fun ρ2 B2 H2 g2 S2=>k ρ2 B2 H2 (g1.trans g2) S2.wo)
    | true =>
      obtain ⟨rfl,rfl⟩:=Ql e2
      exact vV (k ρ1 B1 H1 g1 S1.wo)
def DW.pt (h:DW X e f):DT X e f:=h _
theorem Yq (h:DT X a ca):DT X (.UnaryOp .Not a pos) (Jx ca) :=
 (Qhh h).imp fun σ H Q ⟨Z,env,ρ,B,hp,d,hp',S,e,k⟩=>by
  obtain ⟨x,hp1,e1,e2⟩:=Qg e
  obtain ⟨rfl,rfl⟩:=Ql e2
  exact tDT.run S e1 fun ρ1 B1 H1 g1 S1=>k ρ1 B1 H1 g1 S1.wo
def VG {op:BoolOp} (h:DE X a fa):DE X (.BoolOp op [a] pos) fa:=QgX h
theorem VE (ha:DE X a fa) (hb:DE X (.BoolOp .And (b::rest) pos) fb):DE X (.BoolOp .And (a::b::rest) pos) (Xn fa fb) :=
  (QgS ha hb).imp fun σ H Q ⟨Z,env,ρ,B,hp,d,hp',S,e,k⟩=>by
    obtain ⟨x,hp1,e1,e2⟩:=Qg e
    obtain ⟨c,hp2,e3,e4⟩:=Qg e2
    obtain ⟨rfl,rfl⟩:=qc e3
    refine tD.run S e1 fun v ρ1 B1 H1 g1 S1 r1=>⟨c,r1.blI,?_⟩
    cases c with
    | true=>exact vV (tD.run S1 e4 fun v ρ2 B2 H2 g2 S2 r2=>k v ρ2 B2 H2 (g1.trans g2) S2.wo r2)
    | false =>
      obtain ⟨rfl,rfl⟩:=Ql e4
      exact vU (k _ ρ1 B1 H1 g1 S1.wo Jb)
theorem Qgf (ha:DE X a fa):DE X (.UnaryOp .Not a pos) (qh fa) :=
 (QgW ha).imp fun σ H Q ⟨Z,env,ρ,B,hp,d,hp',S,e,k⟩=>by
  obtain ⟨x,hp1,e1,e2⟩:=Qg e
  obtain ⟨c,hp2,e3,e4⟩:=Qg e2
  obtain ⟨rfl,rfl⟩:=qc e3
  obtain ⟨rfl,rfl⟩:=Ql e4
  exact tD.run S e1 fun v ρ1 B1 H1 g1 S1 r1=>⟨c,r1.blI,k _ ρ1 B1 H1 g1 S1.wo Jb⟩
theorem QfQ (hc:DT X c ca) (ha:DE X a fa) (hb:DE X b fb):DE X (.IfExp c a b pos) (eIf ca fa fb) :=
 (Qdj hc ha hb).imp fun σ H Q ⟨Z,env,ρ,B,hp,d,hp',S,e,k⟩=>by
  obtain ⟨x,hp1,e1,e2⟩:=Qg e
  refine tDT.run S e1 fun ρ1 B1 H1 g1 S1=>?_
  cases x with
  | true=>exact vV (tD.run S1 e2 fun v ρ2 B2 H2 g2 S2 r2=>k v ρ2 B2 H2 (g1.trans g2) S2.wo r2)
  | false=>exact vU (tD.run S1 e2 fun v ρ2 B2 H2 g2 S2 r2=>k v ρ2 B2 H2 (g1.trans g2) S2.wo r2)
def Qn:DAx:=fun _=>pure []
def Qc (f:DEx) (g:DAx):DAx:=fun env=>do let x <- f env;let xs <- g env;pure (x::xs)
theorem tDA.run {K:Aa} {f:DAx} {Z:Ent} {Q:List V->Hp->Prop} (S:SOk K Z env σ ρ B hp H) (e:f env hp=some (ds,hp1))
  (k:∀ vs ρ' B' H',Gr K ρ B H ρ' B' H'->SOk K Z env σ ρ' B' hp1 H'->RepL K ρ' B' H' ds vs->Q vs H'):tDA K f σ H Q :=
 ⟨Z,env,ρ,B,hp,ds,hp1,S,e,fun vs ρ' B' H' g W r=>k vs ρ' B' H' g (S.grow g W) r⟩
theorem Qm:DA X [] Qn:=pa_nil.imp fun σ H Q ⟨Z,env,ρ,B,hp,ds,hp',S,e,k⟩=>by
 obtain ⟨rfl,rfl⟩:=Ql e
 exact k [] ρ B H Gr.refl S.wo RepL.nil
theorem Qd {e:Expr} {es:List Expr} (ha:DE X e f) (hr:DA X es g) (hs:starEach (e::es) X.env=(false,eval e X.env)::starEach es X.env:=by rfl):DA X (e::es) (Qc f g) :=
 (Ya ha hr hs).imp fun σ H Q ⟨Z,env,ρ,B,hp,ds,hp',S,e,k⟩=>by
  obtain ⟨x,hp1,e1,e2⟩:=Qg e
  obtain ⟨xs,hp2,e3,e4⟩:=Qg e2
  obtain ⟨rfl,rfl⟩:=Ql e4
  exact tD.run S e1 fun v ρ1 B1 H1 g1 S1 r1=>tDA.run S1 e3 fun vs ρ2 B2 H2 g2 S2 r2=>k _ ρ2 B2 H2 (g1.trans g2) S2.wo (RepL.cons (RepV.grow S1.wo.rb g2 _ _ r1) r2)
def lim:Nat:=100000
theorem GL:lim<=sizeLine:=by decide
def Qx (c:Bool):M Unit:=if c then pure () else failure
theorem QK {c:Bool} {hp hp':Hs} {u:Unit} (h:Qx c hp=some (u,hp')):c=true/\hp=hp':=by
 cases c with
 | true=>obtain ⟨_,rfl⟩:=Ql (show (pure ():M Unit) hp=some (u,hp') from h);exact ⟨rfl,rfl⟩
 | false=>cases h
def zh (ds:List DV):Bool:=decide (ds.length<=lim)
def zX {ds:List DV} (h:zh ds=true):ds.length<=sizeLine:=Bi (C5 h) GL
def Zp (f:DAx):DEx:=fun env=>do let xs <- f env;Qx (zh xs);pure (.tup xs)
def qg (f:DAx):DEx:=fun env=>do let xs <- f env;Qx (zh xs);pure (.lst xs)
theorem xf {K:Aa} {H:Hp} {Q:VK} (W:WOk K ρ B hp H) (r:RepL K ρ B H ds xs) (k:Fol K ρ B H (.tup ds) hp Q):∀ p,H p=none->Q (.ref p) (upd H p (.tup xs)):=fun p hp' =>
 k _ ρ B _ (Gr.laid hp') (W.laid hp') (qP (fun z=>W.bt p z hp') (SqT.of Za) (RepL.grow W.rb (Gr.laid hp') _ _ r))
theorem Vm {K:Aa} {H:Hp} {Q:VK} (W:WOk K ρ B hp H) (r:RepL K ρ B H ds xs) (k:Fol K ρ B H (.lst ds) hp Q):∀ p,H p=none->Q (.ref p) (upd H p (.lst xs)):=fun p hp' =>
 k _ ρ B _ (Gr.laid hp') (W.laid hp') (GR (fun z=>W.bt p z hp') (SqL.of Za) (RepL.grow W.rb (Gr.laid hp') _ _ r))
def Fol.after {K:Aa} (g:Gr K ρ B H ρ1 B1 H1) (k:Fol K ρ B H d hp' Q):Fol K ρ1 B1 H1 d hp' Q:=fun v ρ' B' H' g' W r=>k v ρ' B' H' (g.trans g') W r
theorem Zg {es:List Expr} {x1} (h:DA X es f):DE X (.Tuple es x1 pos) (Zp f) :=
 (QgZ h).imp fun σ H Q ⟨Z,env,ρ,B,hp,d,hp',S,e,k⟩=>by
  obtain ⟨xs,hp1,e1,e2⟩:=Qg e
  obtain ⟨_,hp2,e3,e4⟩:=Qg e2
  obtain ⟨hs,rfl⟩:=QK e3
  obtain ⟨rfl,rfl⟩:=Ql e4
  exact tDA.run S e1 fun vs ρ1 B1 H1 g1 S1 r1=>⟨by rw [<- r1.length];exact zX hs,xf S1.wo r1 (k.after g1)⟩
theorem Gv {es:List Expr} (h:DA X es f):DE X (.List es pos) (qg f) :=
 (Qdk h).imp fun σ H Q ⟨Z,env,ρ,B,hp,d,hp',S,e,k⟩=>by
  obtain ⟨xs,hp1,e1,e2⟩:=Qg e
  obtain ⟨_,hp2,e3,e4⟩:=Qg e2
  obtain ⟨hs,rfl⟩:=QK e3
  obtain ⟨rfl,rfl⟩:=Ql e4
  exact tDA.run S e1 fun vs ρ1 B1 H1 g1 S1 r1=>⟨by rw [<- r1.length];exact zX hs,Vm S1.wo r1 (k.after g1)⟩
end
end D
namespace L2
open PySem PySem.Spec PyProof.Rows
def XY (X:Cx) (scope:Scope) (cl:List (Str×Addr)) (C:Addr) (N:List Str) (s₀:Shared) (H₀:Hp) (ex:Ee):Cx where
 prog:=X.prog
 w:=X.w
 K:=X.K
 mg:=X.mg
 O8:=X.O8
 A:=X.A
 N:=N
 s₀:=s₀
 H₀:=H₀
 env:=compEnvC scope cl C X.env
 outer:=X.stack
 stack:=X.stack
 ex:=ex
 fn:=fun _=>false
 calm:=X.calm
 pn:=[]
 xe:=fun _ _=>False
def AllP {α:Type} (P:α->Prop):List α->Prop
 | []=>True
 | x::r=>P x/\AllP P r
theorem AllP.mem {α:Type} {P:α->Prop}:∀ {l:List α} {x:α},AllP P l->x∈l->P x
 | [],_,_,h=>nomatch h
 | y::r,x,⟨h1,h2⟩,h=>(Bj.mp h).elim (fun e=>e▸h1) fun e=>AllP.mem h2 e
def Caps (X:Cx) (scope:Scope) (cl:List (Str×Addr)):List Str->List Nat->Prop
  | [],[]=>True
  | y :: ys, i :: is => X.N[i]? = some y /\ (X.env.kindOf y = some .cell ∨ X.env.kindOf y = some .free) /\ (∃ c, cl.lookup y = some c) /\
      (relabel scope X.env).names.lookup y≠some .local/\Caps X scope cl ys is
  | _,_=>False
theorem Caps.get {cl:List (Str×Addr)}:∀ {ys:List Str} {is:List Nat} {j:Nat} {y:Str},Caps X scope cl ys is->ys[j]?=some y ->
    ∃ i,is[j]?=some i/\X.N[i]?=some y/\(X.env.kindOf y=some .cell∨X.env.kindOf y=some .free)/\(∃ c,cl.lookup y=some c)/\(relabel scope X.env).names.lookup y≠some .local
  | [],_,_,_,_,h=>by simp at h
  | y::ys,[],_,_,h,_=>by simp [Caps] at h
  | y::ys,i::is,0,z,⟨h1,h2,h3,h4,_⟩,h=>by simp at h;subst h;exact ⟨i,rfl,h1,h2,h3,h4⟩
  | y::ys,i::is,j+1,z,⟨_,_,_,_,h5⟩,h=>by
    obtain ⟨k,a,b⟩:=Caps.get h5 (by simpa using h)
    exact ⟨k,by simpa using a,b⟩
theorem Caps.length {cl:List (Str×Addr)}:∀ {ys:List Str} {is:List Nat},Caps X scope cl ys is->ys.length=is.length
 | [],[],_=>rfl
 | [],_::_,h=>by simp [Caps] at h
 | _::_,[],h=>by simp [Caps] at h
 | _::ys,_::is,⟨_,_,_,_,h⟩=>by simp [Caps.length h]
structure vf (X:Cx) (x:Str) (scope:Scope) (cl:List (Str×Addr)) (caps:List Str) (idx:List Nat):Prop where
 clos:closureFor scope X.env=pure cl
 cell:∀ y∈scope.names,y.2≠.cell
 kind:scope.kind=.function
 names:∀ y∈scope.names,y.2=.local->scope.names.lookup y.1=some .local
 hx:scope.names.lookup x=some .local
 cls:AllP (fun p:Str×Addr=>X.env.cells.lookup p.1=some p.2) cl
 has:((relabel scope X.env).names.all fun p=>!(p.2==.cell||p.2==.free)||(cl.lookup p.1).isSome)=true
 cps:Caps X scope cl caps idx
 nd:(x::caps).Nodup
def cσ (idx:List Nat) (σ:St) (o:Option V):St:=o::idx.map fun i=>(σ[i]?).join
def PTs (X:Cx) (ifs:List Expr) (t:TT):Prop :=
  ∀ (O9 : List (Addr × Obj)) (s : Shared) (σ : St) (H : Hp) (Q : Bool -> Hp -> Prop), Inv X O9 σ H s -> t σ H Q ->
    wpAny (model X.prog X.w) X.A (forIn ifs true fun c r=>if r=true then do let ok <- isTrue c X.env (eval c X.env);pure (ForInStep.yield ok) else pure (ForInStep.yield r)) (TP X O9 σ Q) X.xe s
def Qfg:PTs X [] (fun _ H Q=>Q true H):=fun O9 s σ H Q I h=>wpAny_tests_nil ⟨H,I,h⟩
def Qfh {t:TT} (h:PT X c t):PTs X [c] t:=fun O9 s σ H Q I q=>wpAny_tests_one (h O9 s σ H Q I q)
section
variable {prog:Program} {w:World} {A:Around} {R:Result->Shared->Prop} {s:Shared}
theorem Gu {elt target iter:Expr} {ifs:List Expr} {scope:Scope} {pos:Pos} {it acc:Value} {env:Env} (I:Nat->Shared->Prop)
    (turn:∀ n s,I n s->wpAny (model prog w) A (pyNext it) (fun r s₁=>match r with
      | none=>R (.ok .next) s₁
      | some v=>wpAny (model prog w) A (letOwnedTupleGo target it v) (fun _ s₁'=>wpAny (model prog w) A (assign target env v) (fun _ s₂ =>
          wpAny (model prog w) A (forIn ifs true fun c r=>if r=true then do let ok <- isTrue c env (eval c env);pure (ForInStep.yield ok) else pure (ForInStep.yield r)) (fun ok s₃ =>
            if ok=true then wpAny (model prog w) A (eval elt env) (fun x s₄ =>
              wpAny (model prog w) A (call (.builtin "list.append") [acc,x]) (fun _ s₅=>∃ m,m < n/\I m s₅) (fun _ _=>False) s₄) (fun _ _=>False) s₃
            else ∃ m,m < n/\I m s₃) (fun _ _=>False) s₂) (fun _ _=>False) s₁') (fun _ _=>False) s₁) (fun _ _=>False) s)
    (n:Nat) (h:I n s) :
    codeAny (model prog w) A (.compLoop (.ListComp elt [⟨target,iter,ifs,0⟩] scope pos) 0 it acc env) R s:=by
  refine codeAny_loop rfl I (fun n s hI=>?_) n h
  show wpAny _ A ((compTurn (.ListComp elt [⟨target,iter,ifs,0⟩] scope pos) 0 it acc env).onRaise (fun x=>do noteFrame x env;theTreesLotGoes x)) _ _ s
  refine wpAny_noted ?_
  rw [compTurn_list]
  refine Cy (wpAny_standAt (Cy (wpAny_mono (turn n s hI) (fun r s₁ h₁=>?_) fun _ _ h'=>h'.elim)))
  cases r with
  | none=>exact C1 h₁
  | some v =>
    refine Cy (wpAny_mono h₁ (fun _ s₁' h₁'=>?_) fun _ _ h'=>h'.elim)
    refine Cy (wpAny_mono h₁' (fun _ s₂ h₂=>Cy (wpAny_mono h₂ (fun ok s₃ h₃=>?_) fun _ _ h'=>h'.elim)) fun _ _ h'=>h'.elim)
    cases ok with
    | false=>exact C1 ⟨rfl,h₃⟩
    | true =>
      exact Cy (Cy (wpAny_mono h₃ (fun x s₄ h₄=>Cy (wpAny_mono h₄ (fun _ s₅ h₅=>C1 (C1 ⟨rfl,h₅⟩)) fun _ _ h'=>h'.elim)) fun _ _ h'=>h'.elim))
end
def QaN (K:Aa) (wi:TI) (tt:TT) (te:TE) (idx:List Nat):TE:=fun σ H Q=>wi σ H fun J H1=>∀ D,H1 D=none->K.lookup D=none->∃ W:Nat->Nat->List V->Hp->Prop,(∃ m,W 0 m [] (upd H1 D (.lst []))) /\
  ∀ i m ys H, W i m ys H -> H D = some (.lst ys) /\ ((J.stop i H /\ Q (.ref D) H) ∨ (J.go i H /\ ∀ x H', J.yld i H x H' -> tt (cσ idx σ (some x)) H' fun b H2 =>
    if b=true then te (cσ idx σ (some x)) H2 fun y H3=>H3 D=some (.lst ys)/\ys.length < sizeLine/\∃ m',m' < m/\W (i+1) m' (ys++[y]) (upd H3 D (.lst (ys++[y])))
    else ∃ m',m' < m/\W (i+1) m' ys H2))
section
variable {X:Cx} {elt iter:Expr} {x:Str} {px:Pos} {ifs:List Expr} {scope:Scope} {cl:List (Str×Addr)} {pos:Pos} {caps:List Str} {idx:List Nat} {wi:TI} {tt:TT} {te:TE}
theorem vz {E:C8} {use:Option (Value->Sem Unit)} {QQ:C8} {newpos:Pos} (S:vf X x scope cl caps idx) (hc:X.calm=true) (hi:PI X (.Name x px) iter wi)
    (ht:∀ C s₀ H₀ ex,PTs (XY X scope cl C (x::caps) s₀ H₀ ex) ifs tt) (he:∀ C s₀ H₀ ex,PE (XY X scope cl C (x::caps) s₀ H₀ ex) elt te)
    {O9:C9} {s:Shared} {σ:St} {H:Hp} {Q:VK} (I:Inv X O9 σ H s) (h:QaN X.K wi tt te idx σ H Q)
    (hE:X.xe=E)
    (hend:∀ (D C:Addr) (H':Hp) (s':Shared) (m:Ea),Inv X O9 σ H' s'->Q (.ref D) H'->s'.heap.Ns C m->H' C=none->C≠X.env.locals->X.s₀.heap.objs.size<=C->(∀ x c,X.env.cells.lookup x=some c->c≠C)->(∀ p∈X.pn++O9,p.1≠C) ->
      compPost (model X.prog X.w) X.A E use QQ (.ref D) C (.ok .next) s')
    (hs:∀ x,foldedSetIterable iter X.env x=pure x:=by intro _;rfl) :
    wpAny (model X.prog X.w) X.A (comprehension (.ListComp elt [⟨.Name x px,iter,ifs,0⟩] scope pos) scope X.env newpos (newList []) false (eval iter X.env) use) QQ E s:=by
  subst hE
  refine wpAny_comprehension_free (use:=use) rfl hs S.clos S.kind S.names (thn (hi O9 s σ H _ I h) fun xv s1 h1=>thn h1 fun itv s2 h2=>?_)
  obtain ⟨it,fp,tn,J,H2,rfl,I2,T,st2,f2,hQ⟩:=h2
  refine wpAny_newObj_type (wpAny_newFunctionEnv S.cell (by intro y hy;simp at hy) (fun h₁ hns₁ hsb₁=>?_) S.kind)
  dsimp only at hns₁ hsb₁ ⊢
  generalize hH2:s2.heap.push { cls:=.type "list", dict:=none,data:=.seq ([]:List Value).toArray }=hp3 at hns₁ hsb₁ ⊢
  have hC:hp3.objs.size=s2.heap.objs.size+1:=by rw [<- hH2,Ce]
  have keep3:∀ b o,s2.heap.get? b=some o->hp3.get? b=some o:=fun b o e=>hH2▸Ad _ e
  have hDf:H2 s2.heap.objs.size=none:=I2.hok.fresh (Ae _)
  have I3:Inv X O9 σ (upd H2 s2.heap.objs.size (.lst [])) { s2 with heap:=hp3 } :=
    I2.laid (t':=s2.toks) keep3 (Ae _) ⟨Bc _,[],_,.nil,hH2▸Au _ rfl⟩
  have hDk:X.K.lookup s2.heap.objs.size=none:=by
    cases q:X.K.lookup s2.heap.objs.size with
    | none=>rfl
    | some o=>exact absurd (Ao (I2.kIn _ o q)) (Cm _)
  obtain ⟨W,⟨m0,w0⟩,turn⟩:=hQ _ hDf hDk
  generalize hDd:s2.heap.objs.size=D at *
  generalize hCc:hp3.objs.size=C at *
  have ltC:∀ b o,hp3.get? b=some o->b≠C:=fun b o e=>by rw [<- hCc];exact Be (Ao e)
  have keep4:∀ b o,hp3.get? b=some o->h₁.get? b=some o:=fun b o e=>hsb₁.extBut b o (ltC b o e) (Ad _ e)
  have s3sz:({ s2 with heap:=hp3 }:Shared).heap.objs.size=C:=hCc
  have clE:∀ y c,cl.lookup y=some c->X.env.cells.lookup y=some c:=fun y c e=>S.cls.mem (PySem.mem_of_lookup e)
  have fpLt:∀ b∈fp,∃ o,s2.heap.get? b=some o:=fun b hb=>let ⟨o,e,_⟩:=T.obj _ _ st2 b hb;⟨o,e⟩
  have fpC:∀ b∈fp,b≠C:=fun b hb=>let ⟨o,e⟩:=fpLt b hb;ltC b o (keep3 b o e)
  have fpD:∀ b∈fp,b≠D:=fun b hb=>let ⟨o,e⟩:=fpLt b hb;by rw [<- hDd];exact Be (Ao e)
  have fr3:∀ b∈fp,(upd H2 D (.lst [])) b=none:=fun b hb=>by rw [Q4 (fpD b hb)];exact (f2 b hb).1
  have cellLt:∀ y c,X.env.cells.lookup y=some c->c≠C:=fun y c e=>let ⟨v,o,ho,_⟩:=I3.cell y c e;ltC c o ho
  have fpStk:∀ b∈fp,b∉frs X.stack:=fun b hb z=>(Bj.mp (I2.stkSub b z)).elim (f2 b hb).2.1 (f2 b hb).2.2.1
  let X':=XY X scope cl C (x::caps) { s2 with heap:=hp3 } (upd H2 D (.lst [])) fp
  have ok':X'.Ok:=by
    refine ⟨I3.ok.mod,by show (relabel scope X.env).kind=_;exact S.kind,I3.ok.glob,I3.ok.blt,by show hp3.objs.size<=C;rw [hCc];exact Ae _,fun y z c h1 h2=>I3.ok.inj y z c (clE y c h1) (clE z c h2),fun y hy=>?_,
      fun y c z=>(by cases z),I3.ok.hd,I3.ok.frames,.inl rfl,fun b hb=>⟨fpC b hb,fun y c e=>(f2 b hb).2.2.2.2.1 y c (clE y c e)⟩,I3.bs,Bi I3.ok.bsz I3.sz,
      fun b o e hb=>?_,fun b hb=>fpStk b hb,I3.stack,I3.stkFree⟩
    . have hy':(relabel scope X.env).names.lookup y=some .cell∨(relabel scope X.env).names.lookup y=some .free:=hy
      have q:=S.has
      rw [List.all_eq_true] at q
      have:(cl.lookup y).isSome=true:=by
        rcases hy' with z | z
        . have q:=q _ (PySem.mem_of_lookup z);simpa using q
        . have q:=q _ (PySem.mem_of_lookup z);simpa using q
      exact Option.isSome_iff_exists.mp this
    . have:=(f2 b hb).2.2.2.1
      have e3:=(I2.ok.bs b o e).1
      rcases this with z | z
      . exact I2.ok.noex b o e z
      . exact absurd (Ay (Ao e3) z) (Cm _)
  have capsLen:=S.cps.length
  have I4:Inv X' [] (cσ idx σ none) (upd H2 D (.lst [])) { s2 with heap:=h₁,toks:=s2.toks+([]:List (Str×Value)).length }:=by
    refine ⟨ok',rfl,I3.bare,Un.kept keep4,⟨_,hns₁,fun i y v e1 e2 e3=>?_⟩,fun y c e=>?_,?_,fun y c e=>I3.freeC y c (clE y c e),fun p hp=>absurd (show p∈([]:C9) from hp) (by simp),I3.hok.kept keep4,?_⟩
    . cases i with
      | zero=>exact absurd e2 (by simp [cσ])
      | succ j =>
        obtain ⟨k,h1,h2,h3,⟨c,h4⟩,h5⟩:=S.cps.get (show caps[j]?=some y by have e1':(x::caps)[j+1]?=some y:=e1;simpa using e1')
        have e2':(σ[k]?).join=some v:=by simpa [cσ,h1] using e2
        have e2'':σ[k]?=some (some v):=by
          cases q:σ[k]? with
          | none=>rw [q] at e2';cases e2'
          | some z=>rw [q] at e2';exact congrArg some e2'
        obtain ⟨mL,hnL,hl⟩:=I3.loc
        have vis:Vis X.env.scope y:=by rcases h3 with z | z;exact .inr (.inl z);exact .inr (.inr z)
        obtain ⟨u,r,l⟩:=hl k y v h2 e2'' vis
        refine ⟨u,r,.inr ⟨?_,c,h4,?_⟩⟩
        . have e3':(relabel scope X.env).names.lookup y=some .local∨(relabel scope X.env).names.lookup y=some .cell∨(relabel scope X.env).names.lookup y=some .free:=e3
          rcases e3' with z | z | z
          . exact absurd z h5
          . exact .inl z
          . exact .inr z
        . rcases l with ⟨z,_⟩ | ⟨_,c',e,z⟩
          . rcases h3 with q | q <;> · rw [q] at z;cases z
          . rw [clE y c h4] at e;cases e
            obtain ⟨o,ho,hd⟩:=z
            exact ⟨o,keep4 _ _ ho,hd⟩
    . obtain ⟨v,o,ho,hd⟩:=I3.cell y c (clE y c e)
      exact ⟨v,o,keep4 _ _ ho,hd⟩
    . exact I3.hok.fresh (by show hp3.objs.size<=C;rw [hCc];exact Ae _)
    . simp [cσ,X',XY,capsLen]
  have st4:tn 0 h₁:=T.keep _ _ _ st2 fun b _ o e=>keep4 b o (keep3 b o e)
  have fpX:∀ {H':Hp} {pins':C9},(∀ b∈fp,H' b=none)->(pins'=[])->∀ b∈fp,UR X' pins' H' b:=fun hn e b hb=>by
    subst e
    exact ⟨hn b hb,fpC b hb,fpStk b hb,.inl hb,fun y c e=>(f2 b hb).2.2.2.2.1 y c (clE y c e),fun p hp=>absurd (show p∈([]:C9) from hp) (by simp)⟩
  have loop:∀ s₃:Shared,s₃={ s2 with heap:=h₁,toks:=s2.toks+([]:List (Str×Value)).length } ->
      codeAny (model X.prog X.w) X.A (.compLoop (.ListComp elt [⟨.Name x px,iter,ifs,0⟩] scope pos) 0 (.ref it) (.ref D) (compEnvC scope cl C X.env)) (compPost (model X.prog X.w) X.A X.xe use QQ (.ref D) C) s₃:=by
    rintro s₃ rfl
    refine Gu (fun n s'=>∃ i o H' ys,Inv X' [] (cσ idx σ o) H' s'/\tn i s'.heap/\(∀ b∈fp,H' b=none)/\W i n ys H') ?_ m0 ⟨0,none,_,[],I4,st4,fr3,w0⟩
    rintro n s5 ⟨i,o,H5,ys,I5,st5,fr5,w5⟩
    obtain ⟨hD,tw⟩:=turn i n ys H5 w5
    rcases tw with ⟨stop,q⟩ | ⟨go,step⟩
    . refine thn (T.done X' rfl rfl rfl hc i [] s5 _ H5 _ I5 (fpX fr5 rfl) st5 stop) fun r s6 ⟨hr,I6⟩=>?_
      subst hr
      obtain ⟨m6,hn6,_⟩:=I6.loc
      have I7:Inv X O9 σ H5 s6:=I3.call' (s':=s6) (ch:=fp) I6.os I6.O8 I6.hok I6.bare fun b hb=>⟨(f2 b hb).2.2.2.1,(f2 b hb).2.1,(f2 b hb).2.2.2.2.1,(f2 b hb).2.2.2.2.2⟩
      refine hend D C H5 s6 m6 I7 q hn6 I6.free ?_ ?_ cellLt fun p hp=>?_
      . rw [<- hCc];exact Cu I3.lt
      . rw [<- hCc];exact I3.sz
      . exact ltC p.1 p.2 (I3.pin p hp).1
    . refine thn (T.item X' rfl rfl rfl hc i [] s5 _ H5 _ I5 (fpX fr5 rfl) st5 go) fun r s6 ⟨u,hr,h6⟩=>?_
      subst hr
      refine thn h6 fun _ s7 ⟨y,H7,I7,r7,y7,st7,fr7⟩=>?_
      have I7':=I7.pinned (fpX fr7 rfl) (T.obj _ _ st7)
      refine thn (GQ (X:=X') (i:=0) S.nd rfl (.inl (lookup_relabel_local S.hx)) (.inr (lookup_relabel_local S.hx)) _ s7 _ H7 y u (fun σ' H'=>σ'=cσ idx σ (some y)/\H'=H7) I7' r7 ⟨rfl,rfl⟩) fun _ s8 ⟨σ8,H8,I8,e8,e8'⟩=>?_
      subst e8
      subst e8'
      have again:∀ {H9:Hp} {s9:Shared} {ys':List V},Inv X' ([]++V6 fp s7.heap) (cσ idx σ (some y)) H9 s9->(∃ m',m' < n/\W (i+1) m' ys' H9) ->
          ∃ m,m < n/\∃ i o H' ys,Inv X' [] (cσ idx σ o) H' s9/\tn i s9.heap/\(∀ b∈fp,H' b=none)/\W i m ys H':=fun {H9 s9 ys'} I9 ⟨m',hm,w9⟩=>by
        refine ⟨m',hm,i+1,some y,H9,ys',I9.unpinned,T.keep _ _ _ st7 fun b hb o e=>(I9.pin (b,o) (Ai _ (Ai _ (qO hb e)))).1,fun b hb=>?_,w9⟩
        obtain ⟨o,e,d⟩:=T.obj _ _ st7 b hb
        exact (I9.pin (b,o) (Ai _ (Ai _ (qO hb e)))).2.1
      refine thn (ht _ _ _ _ _ s8 _ H8 _ I8 (step y H8 y7)) fun ok s9 ⟨H9,I9,q9⟩=>?_
      cases ok with
      | false=>exact again I9 (by rw [Cz Bx] at q9;exact q9)
      | true =>
        rw [C0 rfl] at q9 ⊢
        refine thn (he _ _ _ _ _ s9 _ H9 _ I9 q9) fun v s10 ⟨z,H10,I10,r10,hD10,hlen,m',hm,w10⟩=>?_
        refine thn (KI (X:=X') _ s10 _ H10 (.ref D) [z] (.ref D) [v] (fun _ H'=>H'=upd H10 D (.lst (ys++[z]))) I10 rfl (.cons r10 .nil) ⟨D,ys,z,rfl,rfl,hD10,hlen,rfl⟩) fun _ s11 ⟨_,H11,I11,_,e11⟩=>?_
        subst e11
        exact again I11 ⟨m',hm,w10⟩
  exact codeAny_compStart_list (loop _ rfl) (T.self X.A 0 _ _ _ st4 (loop _ rfl))
end
section
variable {X:Cx} {elt iter:Expr} {x:Str} {px:Pos} {ifs:List Expr} {scope:Scope} {cl:List (Str×Addr)} {pos:Pos} {caps:List Str} {idx:List Nat} {wi:TI} {tt:TT} {te:TE}
theorem QeX (S:vf X x scope cl caps idx) (hc:X.calm=true) (hi:PI X (.Name x px) iter wi)
  (ht:∀ C s₀ H₀ ex,PTs (XY X scope cl C (x::caps) s₀ H₀ ex) ifs tt) (he:∀ C s₀ H₀ ex,PE (XY X scope cl C (x::caps) s₀ H₀ ex) elt te)
  (hs:∀ x,foldedSetIterable iter X.env x=pure x:=by intro _;rfl):PE X (.ListComp elt [⟨.Name x px,iter,ifs,0⟩] scope pos) (QaN X.K wi tt te idx):=by
 intro O9 s σ H Q I h
 rw [eval_ListComp]
 refine vz (use:=none) S hc hi ht he I h rfl (fun D C H' s' m I' q hn hC h1 h2 h3 h4=>?_) hs
 show ∃ m,s'.heap.Ns C m/\∀ h',Heap.SameBut C s'.heap h'->EP X O9 σ Q (.ref D) { s' with heap:=h' }
 exact ⟨m,hn,fun h' hs=>⟨.ref D,H',I'.turned (t':=s'.toks) (fun b o hb e=>hs.extBut b o hb e) hC (Ne.symm (Ne.symm h1)) (.inr h2) h3 h4,rfl,q⟩⟩
theorem Qfc {i:Nat} {y:Str} {py spos:Pos} (S:vf X x scope cl caps idx) (hc:X.calm=true) (hi:PI X (.Name x px) iter wi)
  (ht:∀ C s₀ H₀ ex,PTs (XY X scope cl C (x::caps) s₀ H₀ ex) ifs tt) (he:∀ C s₀ H₀ ex,PE (XY X scope cl C (x::caps) s₀ H₀ ex) elt te)
  (hN:X.N.Nodup) (hy:X.N[i]?=some y) (hx:Loc X.env.scope y) (hsw:swapsWith (.ListComp elt [⟨.Name x px,iter,ifs,0⟩] scope pos) (some (.Name y py)) spos.line X.env=pure true)
  (hf:X.fn y=true∨X.env.scope.names.lookup y=some .local:=by first | exact .inl rfl | exact .inr rfl | assumption)
  (hs:∀ x,foldedSetIterable iter X.env x=pure x:=by intro _;rfl):PS X (.Assign [.Name y py] (.ListComp elt [⟨.Name x px,iter,ifs,0⟩] scope pos) spos) (Qfy (QaN X.K wi tt te idx) (Qaf i)):=by
 intro O9 s σ H D I h
 rw [exec_Assign_Name_used _ _ _ _ hsw]
 refine Cy (wpAny_standAt (Cy ?_))
 show wpAny _ X.A (do let _ <- comprehension (.ListComp elt [⟨.Name x px,iter,ifs,0⟩] scope pos) scope X.env _ (newList []) false (eval iter X.env) (some (assign (.Name y py) X.env))) _ _ s
 refine Cy (wpAny_mono (vz (use:=some (assign (.Name y py) X.env)) (QQ:=fun _ s'=>SP X O9 D .next s') S hc hi ht he I h rfl (fun Da C H' s' m I' q hn hC h1 h2 h3 h4=>?_) hs) (fun _ s' hq=>C1 (C1 hq)) fun _ _ e=>e)
 show wpAny _ X.A (assign (.Name y py) X.env (.ref Da)) (fun _ s''=>∃ m,s''.heap.Ns C m/\∀ h',Heap.SameBut C s''.heap h'->SP X O9 D .next { s'' with heap:=h' }) _ s'
 refine wpAny_assign_Name (K9 I' hN hy hx (v:=.ref Da) rfl (fun s'' I'' ⟨a,hs,ha⟩=>?_) hf)
 refine ⟨m,hn.sameBut hs ?_,fun h' hs'=>⟨_,H',I''.turned (t':=s''.toks) (fun b o hb e=>hs'.extBut b o hb e) hC h1 (.inr h2) h3 h4,q⟩⟩
 rcases ha with rfl | ha
 ·exact h1
 ·exact Ne.symm (h3 _ _ ha)
end
end L2
namespace D
open PySem PySem.Spec PyProof.Rows L2
section
variable {K:Aa} {Z:Ent} {env:En} {σ:St} {ρ ρ':Ee} {B B':Ed} {hp hp':Hs} {H H':Hp}
theorem SOk.set {i:Nat} (S:SOk K Z env σ ρ B hp H) (r:RepV K ρ B H d v):SOk K Z (env.set i (.val d)) (σ.set i (some v)) ρ B hp H where
 gr:=S.gr
 zb:=S.zb
 wo:=S.wo
 slot:=fun j e h=>by
  by_cases hj:j=i
  ·subst hj
   have hl:j < env.length:=by have:=(Ac.mp h).1;simpa using this
   rw [As hl] at h;cases h
   exact ⟨v,As (by rw [S.len];exact hl),r⟩
  ·rw [Ak (Ne.symm hj)] at h ⊢
   exact S.slot j e h
 accs:=fun j ds h=>by
  by_cases hj:j=i
  ·subst hj
   have hl:j < env.length:=by have:=(Ac.mp h).1;simpa using this
   rw [As hl] at h;cases h
  ·rw [Ak (Ne.symm hj)] at h ⊢
   exact S.accs j ds h
 adis:=fun j k ds es a h1 h2 h3 h4=>by
  have nj:∀ {j:Nat} {ds:List DV},(env.set i (.val d))[j]?=some (.acc ds)->j≠i:=fun {j ds} h e=>by
   subst e
   have hl:j < env.length:=by have:=(Ac.mp h).1;simpa using this
   rw [As hl] at h;cases h
  have hj:=nj h1
  have hk:=nj h2
  rw [Ak (Ne.symm hj)] at h1 h3
  rw [Ak (Ne.symm hk)] at h2 h4
  exact S.adis j k ds es a h1 h2 h3 h4
 len:=by simp [S.len]
end
section
variable {X:Cx} {e a b c:Expr} {f fa fb:DEx} {ca cb:DTx} {pos:Pos} {st:Stmt} {sts rest:List Stmt} {s s':DSx}
theorem FolS.after {K:Aa} {Z:Ent} {fl:Fl} {D:Ge} (g:Gs K ρ B H ρ1 B1 H1) (k:FolS K Z ρ B H fl env' hp' D):FolS K Z ρ1 B1 H1 fl env' hp' D :=
 fun σ' ρ' B' H' g' S=>k σ' ρ' B' H' (g.trans g') S
def Q6:DSx:=fun env=>pure (.nx,env)
def Qr (f g:DSx):DSx:=fun env=>do
 let r <- f env
 match r.1 with
 | .nx=>g r.2
 | _=>pure r
def sIf (c:DTx) (f g:DSx):DSx:=fun env=>do if <- c env then f env else g env
def QF (f:DEx):DSx:=fun env=>do let d <- f env;pure (.rt d,env)
def zQ:DSx:=fun env=>pure (.rt .non,env)
def ZP (f:DEx):DSx:=fun env=>do let _ <- f env;pure (.nx,env)
def QC (i:Nat) (f:DEx):DSx:=fun env=>do let d <- f env;pure (.nx,env.set i (.val d))
theorem QM:DSs X [] Q6:=pss_nil.imp fun D σ H ⟨Z,env,ρ,B,hp,fl,env',hp',S,e,k⟩=>by
 obtain ⟨e1,rfl⟩:=Ql e
 cases e1
 exact k σ ρ B H Gs.refl S
theorem QdE {K:Aa} {D:Ge} (h:tDS K (Qr s s') D σ H):QiO (tDS K s) (tDS K s') D σ H:=by
 obtain ⟨Z,env,ρ,B,hp,fl,env',hp',S,e,k⟩:=h
 obtain ⟨⟨f1,env1⟩,hp1,e1,e2⟩:=Qg e
 refine ⟨Z,env,ρ,B,hp,f1,env1,hp1,S,e1,fun σ' ρ' B' H' g S'=>?_⟩
 cases f1 with
 | nx=>exact ⟨Z,env1,ρ',B',hp1,fl,env',hp',S',e2,k.after g⟩
 | rt d=>obtain ⟨z,rfl⟩:=Ql e2;cases z;exact k σ' ρ' B' H' g S'
 | bk=>obtain ⟨z,rfl⟩:=Ql e2;cases z;exact k σ' ρ' B' H' g S'
 | ct=>obtain ⟨z,rfl⟩:=Ql e2;cases z;exact k σ' ρ' B' H' g S'
def Qh (h1:DS X st s) (h2:DSs X rest s'):DSs X (st::rest) (Qr s s'):=(Qdv h1 h2).imp fun _ _ _ h=>QdE h
def Qo (h1:DS X st s):DSs X [st] s:=Qfe h1
theorem Zk {x y:List Stmt} (hc:DT X c ca) (h1:DSs X x s) (h2:DSs X y s'):DS X (.If c x y pos) (sIf ca s s') :=
 (Qiu hc h1 h2).imp fun D σ H ⟨Z,env,ρ,B,hp,fl,env',hp',S,e,k⟩=>by
  obtain ⟨x,hp1,e1,e2⟩:=Qg e
  refine tDT.run S e1 fun ρ1 B1 H1 g1 S1=>?_
  cases x with
  | true=>exact vV ⟨Z,env,ρ1,B1,hp1,fl,env',hp',S1,e2,k.after (g1.gs S.wo.rb)⟩
  | false=>exact vU ⟨Z,env,ρ1,B1,hp1,fl,env',hp',S1,e2,k.after (g1.gs S.wo.rb)⟩
theorem Qs (h:DE X e f):DS X (.Return (some e) pos) (QF f) :=
 (Qhf h).imp fun D σ H ⟨Z,env,ρ,B,hp,fl,env',hp',S,e,k⟩=>by
  obtain ⟨d,hp1,e1,e2⟩:=Qg e
  obtain ⟨z,rfl⟩:=Ql e2;cases z
  exact tD.run S e1 fun v ρ1 B1 H1 g1 S1 r1=>k σ ρ1 B1 H1 (g1.gs S.wo.rb) S1 v r1
theorem Jn (h:DE X e f) (hs:swapsWith e none pos.line X.env=pure false:=by rfl):DS X (.Expr e pos) (ZP f) :=
 (Qfd h hs).imp fun D σ H ⟨Z,env,ρ,B,hp,fl,env',hp',S,e,k⟩=>by
  obtain ⟨d,hp1,e1,e2⟩:=Qg e
  obtain ⟨z,rfl⟩:=Ql e2;cases z
  exact tD.run S e1 fun v ρ1 B1 H1 g1 S1 r1=>k σ ρ1 B1 H1 (g1.gs S.wo.rb) S1
theorem ul {K:Aa} {D:Ge} {σ:St} {i:Nat} {t:TE} (ht:∀ σ H Q,tD K f σ H Q->t σ H Q) (h:tDS K (QC i f) D σ H):Qfy t (Qaf i) D σ H:=by
 obtain ⟨Z,env,ρ,B,hp,fl,env',hp',S,e,k⟩:=h
 obtain ⟨d,hp1,e1,e2⟩:=Qg e
 obtain ⟨z,rfl⟩:=Ql e2;cases z
 exact ht _ _ _ (tD.run S e1 fun v ρ1 B1 H1 g1 S1 r1=>k _ ρ1 B1 H1 (g1.gs S.wo.rb) (S1.set r1))
theorem QE (i:Nat) {x:Str} {pos':Pos} (hN:X.N.Nodup) (he:DE X e f) (hi:X.N[i]?=some x:=by rfl) (hx:Loc X.env.scope x:=by first | exact Or.inl rfl | exact Or.inr rfl) (hs:swapsWith e (some (.Name x pos')) pos.line X.env=pure false:=by rfl)
  (hf:X.fn x=true∨X.env.scope.names.lookup x=some .local:=by first | exact .inl rfl | exact .inr rfl | assumption):DS X (.Assign [.Name x pos'] e pos) (QC i f) :=
 (Qhg hN hi hx he hs hf).imp fun _ _ _ h=>ul (fun _ _ _ q=>q) h
abbrev DGx:=DV->En->M En
def tDG (K:Aa) (g:DGx):TG:=fun v σ H Q=>∃ Z env ρ B hp d env' hp',SOk K Z env σ ρ B hp H/\RepV K ρ B H d v/\g d env hp=some (env',hp')/\∀ σ' ρ' B' H',Gs K ρ B H ρ' B' H'->SOk K Z env' σ' ρ' B' hp' H'->Q σ' H'
def gN (i:Nat):DGx:=fun d env=>pure (env.set i (.val d))
theorem jb (i:Nat) {x:Str} (hN:X.N.Nodup) (hi:X.N[i]?=some x:=by rfl) (hx:Loc X.env.scope x:=by first | exact Or.inl rfl | exact Or.inr rfl) (hf:X.fn x=true∨X.env.scope.names.lookup x=some .local:=by first | exact .inl rfl | exact .inr rfl | assumption):PG X (.Name x pos) (tDG X.K (gN i)):=by
 intro O9 s σ H v u Q I r h
 refine GQ hN hi hx hf O9 s σ H v u Q I r ?_
 obtain ⟨Z,env,ρ,B,hp,d,env',hp',S,rd,e,k⟩:=h
 obtain ⟨rfl,rfl⟩:=Ql e
 exact k _ ρ B H Gs.refl (S.set rd)
def QaW (K:Aa) (ρ:Ee) (B:Ed) (H:Hp) (ds:List DV) (J:It):Prop :=
 ∀ ρ1 B1 H1,Gs K ρ B H ρ1 B1 H1->(∀ b∈ρ1,B1 b)->(∀ a,B1 a->H1 a≠none)->(∀ (i:Nat) (d:DV),ds[i]?=some d->J.go i H1/\∀ x H',J.yld i H1 x H'->RepV K ρ1 B1 H' d x/\(H'=H1∨∃ p o,H1 p=none/\H'=upd H1 p o))/\J.stop ds.length H1
abbrev DIx:=En->M (List DV)
def tDI (K:Aa) (f:DIx):TI:=fun σ H R=>∃ Z env ρ B hp ds hp',SOk K Z env σ ρ B hp H/\f env hp=some (ds,hp')/\∀ J ρ' B' H',Gr K ρ B H ρ' B' H'->WOk K ρ' B' hp' H'->QaW K ρ' B' H' ds J->R J H'
def DI (X:Cx) (tg iter:Expr) (f:DIx):Prop:=PI X tg iter (tDI X.K f)
def uE:DV->M (List DV)
 | .tup ds=>pure ds
 | _=>failure
def iTp (f:DEx):DIx:=fun env=>do uE (<- f env)
theorem jk {d:DV} {hp hp':Hs} (h:uE d hp=some (ds,hp')):d=.tup ds/\hp=hp':=by
 cases d with
 | tup xs=>obtain ⟨rfl,rfl⟩:=Ql h;exact ⟨rfl,rfl⟩
 | _=>cases h
theorem QeC {K:Aa} {B:Ed} {a:Addr} (nb:¬ B a) (sq:SqL K H a xs) (rl:RepL K ρ B H ds xs):QaW K ρ B H ds (Itl K a):=fun ρ1 B1 H1 g _ _=>by
 have sq1:=g.sqL nb sq
 have rl1:=RepL.gs g _ _ rl
 refine ⟨fun i d e=>?_,xs,sq1,by rw [rl1.length];exact Ae _⟩
 obtain ⟨x,hx,r⟩:=rl1.get e
 refine ⟨⟨xs,x,sq1,hx⟩,fun y H' ⟨e',q⟩=>?_⟩
 subst e'
 have:=q xs sq1
 rw [hx] at this;cases this
 exact ⟨r,.inl rfl⟩
theorem Qgr {K:Aa} {B:Ed} {a:Addr} (nb:¬ B a) (sq:SqT K H a xs) (rl:RepL K ρ B H ds xs):QaW K ρ B H ds (Itt K a):=fun ρ1 B1 H1 g _ _=>by
 have sq1:=g.sqT nb sq
 have rl1:=RepL.gs g _ _ rl
 refine ⟨fun i d e=>?_,xs,sq1,by rw [rl1.length];exact Ae _⟩
 obtain ⟨x,hx,r⟩:=rl1.get e
 refine ⟨⟨xs,x,sq1,hx⟩,fun y H' ⟨e',q⟩=>?_⟩
 subst e'
 have:=q xs sq1
 rw [hx] at this;cases this
 exact ⟨r,.inl rfl⟩
def Zb (lo:Int) (n:Nat):List DV:=(List.range n).map fun (i:Nat)=>.int (lo+(i:Int))
theorem QcM {K:Aa} {lo:Int} {n:Nat}:QaW K ρ B H (Zb lo n) (Itr lo n):=fun ρ1 B1 H1 g _ _=>by
 refine ⟨fun i d e=>?_,by show n<=_;simp [Zb]⟩
 have hi:i < n:=by have:=(Ac.mp e).1;simpa [Zb] using this
 refine ⟨hi,fun y H' ⟨e',q⟩=>?_⟩
 subst e' q
 have:d=.int (lo+i):=by simp [Zb,hi] at e;exact e.symm
 subst this
 exact ⟨JE,.inl rfl⟩
variable {tg iter:Expr}
def _root_.L2.PI.imp {wi wi':TI} (h:PI X tg iter wi) (i:∀ σ H R,wi' σ H R->wi σ H R):PI X tg iter wi':=fun O9 s σ H R I q=>h O9 s σ H R I (i σ H R q)
theorem Qci (h:DE X iter f):DI X tg iter (iTp f):=(Qg7 h).imp fun σ H R ⟨Z,env,ρ,B,hp,ds,hp',S,e,k⟩=>by
 obtain ⟨d,hp1,e1,e2⟩:=Qg e
 obtain ⟨rfl,rfl⟩:=jk e2
 refine tD.run S e1 fun v ρ1 B1 H1 g1 S1 r1=>?_
 obtain ⟨a,xs,rfl,nb,sq,rl⟩:=r1.tupI
 exact ⟨a,rfl,⟨xs,sq⟩,k _ ρ1 B1 H1 g1 S1.wo (Qgr nb sq rl)⟩
def Ux (j:Int):Bool:=decide (-(2 ^ 62)<=j/\j < 2 ^ 62)
def QbK:List DV->M (List DV)
 | [.int j]=>do Qx (Ux j);pure (Zb 0 j.toNat)
 | _=>failure
def Vc (f:DAx):DIx:=fun env=>do QbK (<- f env)
theorem QbL {ds out:List DV} {hp hp':Hs} (h:QbK ds hp=some (out,hp')):∃ j:Int,ds=[.int j]/\Ux j=true/\out=Zb 0 j.toNat/\hp=hp':=by
 unfold QbK at h
 split at h
 ·obtain ⟨u,hp1,e1,e2⟩:=Qg h
  obtain ⟨h1,rfl⟩:=QK e1
  obtain ⟨rfl,rfl⟩:=Ql e2
  exact ⟨_,rfl,h1,rfl,rfl⟩
 ·cases h
theorem RepL.ints1 {K:Aa} {j:Int} {vs:List V} (h:RepL K ρ B H [.int j] vs):vs=[.int j]:=by
 unfold RepL at h
 obtain ⟨x,r,rfl,h1,h2⟩:=h
 unfold RepL at h2
 rw [h1.intI,h2]
theorem RepL.ints2 {K:Aa} {i j:Int} {vs:List V} (h:RepL K ρ B H [.int i,.int j] vs):vs=[.int i,.int j]:=by
 unfold RepL at h
 obtain ⟨x,r,rfl,h1,h2⟩:=h
 rw [h1.intI,h2.ints1]
theorem qf {x:Expr} {p:Pos} {f:DAx} (hg:Gl X "range") (hm:X.mg "range" = none) (ha:DA X [x] f) (hs:starEach [x] X.env=[(false,eval x X.env)]:=by rfl):DI X tg (.Call (.Name "range" p) [x] [] pos) (Vc f) :=
 (QbG hg hm ha hs).imp fun σ H R ⟨Z,env,ρ,B,hp,ds,hp',S,e,k⟩=>by
  obtain ⟨d,hp1,e1,e2⟩:=Qg e
  obtain ⟨j,rfl,h1,rfl,rfl⟩:=QbL e2
  refine tDA.run S e1 fun vs ρ1 B1 H1 g1 S1 r1=>?_
  have h1':=C5 h1
  exact ⟨j,r1.ints1,h1'.1,h1'.2,k _ ρ1 B1 H1 g1 S1.wo QcM⟩
def QcB (b:DV->DSx):List DV->DSx
  | [],env=>pure (.nx,env)
  | d::ds,env=>do
    let r <- b d env
    match r.1 with
    | .nx=>QcB b ds r.2
    | .ct=>QcB b ds r.2
    | .bk=>pure (.nx,r.2)
    | .rt x=>pure (.rt x,r.2)
def kA {K:Aa} {B:Ed} {H:Hp} {p:Addr} (rb:∀ a∈ρ,B a) (h:H p=none):Gs K ρ B H ρ B (upd H p o):=(Gr.laid h).gs rb
def X2 (c:DTx) (b:DSx):Nat->DSx
  | 0,_=>failure
  | n+1,env=>do
    if <- c env then
      let r <- b env
      match r.1 with
      | .nx=>X2 c b n r.2
      | .ct=>X2 c b n r.2
      | .bk=>pure (.nx,r.2)
      | .rt x=>pure (.rt x,r.2)
    else pure (.nx,env)
theorem Qck (n:Nat) {body:List Stmt} (hp:PassesOwn (model X.prog X.w) X.A X.env X.xe) (hc:DT X c ca) (hb:DSs X body sb):DS X (.While c body [] pos) (X2 ca sb n) :=
  (Qdu hp hc hb).imp fun D σ H ⟨Z,env,ρ,B,hp,fl,env',hp',S,e,k⟩=>by
    refine ⟨fun m σ H1=>∃ env1 ρ1 B1 hp1,SOk X.K Z env1 σ ρ1 B1 hp1 H1/\Gs X.K ρ B H ρ1 B1 H1/\X2 ca sb m env1 hp1=some ((fl,env'),hp'),⟨n,env,ρ,B,hp,S,Gs.refl,e⟩,?_⟩
    rintro m σ H1 ⟨env1,ρ1,B1,hp1,S1,g1,e1⟩
    cases m with
    | zero=>cases e1
    | succ m =>
      obtain ⟨x,hp2,e2,e3⟩:=Qg e1
      refine tDT.run S1 e2 fun ρ2 B2 H2 g2 S2=>?_
      have G2:=g1.trans (g2.gs S1.wo.rb)
      cases x with
      | false =>
        obtain ⟨z,rfl⟩:=Ql e3;cases z
        exact vU (k σ ρ2 B2 H2 G2 S2)
      | true =>
        obtain ⟨⟨f1,env4⟩,hp4,e4,e5⟩:=Qg e3
        refine vV ⟨fun σ' H'=>∃ env1 ρ1 B1 hp1,SOk X.K Z env1 σ' ρ1 B1 hp1 H'/\Gs X.K ρ B H ρ1 B1 H'/\X2 ca sb m env1 hp1=some ((fl,env'),hp'),fun σ' H' q=>⟨m,Cq m,q⟩,?_⟩
        refine ⟨Z,env1,ρ2,B2,hp2,f1,env4,hp4,S2,e4,fun σ6 ρ6 B6 H6 g6 S6=>?_⟩
        have G6:=G2.trans g6
        cases f1 with
        | nx=>exact ⟨env4,ρ6,B6,hp4,S6,G6,e5⟩
        | ct=>exact ⟨env4,ρ6,B6,hp4,S6,G6,e5⟩
        | bk=>obtain ⟨z,rfl⟩:=Ql e5;cases z;exact k σ6 ρ6 B6 H6 G6 S6
        | rt d=>obtain ⟨z,rfl⟩:=Ql e5;cases z;exact k σ6 ρ6 B6 H6 G6 S6
end
section
variable {K:Aa} {Z:Ent} {env:En} {σ:St} {ρ ρ':Ee} {B B':Ed} {hp hp':Hs} {H H':Hp}
def xX (B:Ed) (p:Addr):Addr->Prop:=fun a=>B a∨a=p
theorem Gr.banned {p:Addr} (h:H p=none) (kf:K.lookup p=none):Gr K ρ B H ρ (xX B p) (upd H p o) where
 pre:=Cd
 ban:=fun _ h=>.inl h
 new:=fun a z=>z.elim .inl fun e=>.inr (e▸⟨h,kf⟩)
 rnew:=fun _ h=>.inl h
 keep:=fun a u _ q=>by rw [Q4 (ZF q h)];exact q
 trk:=(Gr.laid (K:=K) (ρ:=ρ) (B:=B) h).trk
theorem WOk.banned {p:Addr} (W:WOk K ρ B hp H) (h:H p=none) (kf:K.lookup p=none):WOk K ρ (xX B p) hp (upd H p o) where
 len:=W.len
 nd:=W.nd
 obj:=fun i a u e q=>ORep.gs ((Gr.banned h kf).gs W.rb) (Q4 (fun z=>W.bt a (W.rb a (Aw e)) (z▸h))) (W.obj i a u e q)
 rb:=fun a h=>.inl (W.rb a h)
 bt:=fun a z q=>by
  have q':=(Gr.laid (K:=K) (ρ:=ρ) (B:=B) h).trk a q
  rcases z with z | rfl
  ·exact W.bt a z q'
  ·rw [Za] at q;cases q
 bk:=fun a z=>z.elim (W.bk a) fun e=>e▸kf
end
section
variable {X:Cx} {e a b c:Expr} {f fa fb:DEx} {ca cb:DTx} {pos:Pos} {st:Stmt} {sts rest:List Stmt} {s s':DSx}
def Ua (i:Nat):DSx:=fun env=>pure (.nx,env.set i (.acc []))
def y6 (i:Nat) (env:En):En:=match env[i]? with
 | some (.acc ds)=>env.set i (.val (.lst ds))
 | _=>env
def Uc (i:Nat) (f:DSx):DSx:=fun env=>f (y6 i env)
def Ub (i:Nat) (f:DEx):DSx:=fun env=>do
 let d <- f env
 match env[i]? with
 | some (.acc ds)=>if ds.length < lim then pure (.nx,env.set i (.acc (ds++[d]))) else failure
 | _=>failure
def Qa7:Sl->Sl
 | .val d=>.val d
 | _=>.un
def cE (idx:List Nat) (env:En) (d:DV):En:=.val d::idx.map fun i=>Qa7 ((env[i]?).getD .un)
def UA:DTx:=fun _=>pure true
variable {elt iter:Expr} {x:Str} {px:Pos} {ifs:List Expr} {scope:Scope} {cl:List (Str×Addr)} {caps:List Str} {idx:List Nat} {src:DIx} {te:DTx}
theorem cσ_ok {K:Aa} {Z:Ent} (S:SOk K Z env σ ρ B hp H) (g:Gs K ρ B H ρ1 B1 H1) (W:WOk K ρ1 B1 hp1 H1) (r:RepV K ρ1 B1 H1 d v):
    SOk K ⟨ρ1,B1,H1⟩ (cE idx env d) (cσ idx σ (some v)) ρ1 B1 hp1 H1:=by
  refine ⟨Gr.refl,W.bt,W,fun i e h=>?_,fun i es h=>?_,fun i j es es' a h=>?_,by simp [cE,cσ]⟩
  . cases i with
    | zero =>
      have:d=e:=by simpa [cE] using h
      subst this
      exact ⟨v,by simp [cσ],r⟩
    | succ i =>
      cases q:idx[i]? with
      | none=>simp [cE,q] at h
      | some k =>
        have h':Qa7 ((env[k]?).getD .un)=.val e:=by simpa [cE,q] using h
        cases z:env[k]? with
        | none=>rw [z] at h';cases h'
        | some sl =>
          rw [z] at h'
          cases sl with
          | un=>cases h'
          | acc _=>cases h'
          | val e' =>
            have:e'=e:=by simpa [Qa7] using h'
            subst this
            obtain ⟨u,h1,h2⟩:=S.slot k e' z
            exact ⟨u,by simp [cσ,q,h1],RepV.gs g _ _ h2⟩
  . exfalso
    cases i with
    | zero=>simp [cE] at h
    | succ i =>
      cases q:idx[i]? with
      | none=>simp [cE,q] at h
      | some k =>
        have h':Qa7 ((env[k]?).getD .un)=.acc es:=by simpa [cE,q] using h
        cases z:(env[k]?).getD .un with
        | un=>rw [z] at h';cases h'
        | acc _=>rw [z] at h';cases h'
        | val _=>rw [z] at h';cases h'
  . exfalso
    cases i with
    | zero=>simp [cE] at h
    | succ i =>
      cases q:idx[i]? with
      | none=>simp [cE,q] at h
      | some k =>
        have h':Qa7 ((env[k]?).getD .un)=.acc es:=by simpa [cE,q] using h
        cases z:(env[k]?).getD .un with
        | un=>rw [z] at h';cases h'
        | acc _=>rw [z] at h';cases h'
        | val _=>rw [z] at h';cases h'
def DTs (X:Cx) (ifs:List Expr) (t:DTx):Prop:=PTs X ifs (tDT X.K t)
theorem xa:DTs X [] UA:=fun O9 s σ H Q I ⟨Z,env,ρ,B,hp,d,hp',S,e,k⟩=>by
 obtain ⟨rfl,rfl⟩:=Ql e
 exact Qfg O9 s σ H Q I (k ρ B H Gr.refl S.wo)
def Vl (h:DT X c te):DTs X [c] te:=Qfh h
def Q9 (n:Nat) (body:DSx):List DV->M DV:=fun ds=>do
 let r <- body (ds.map .val++List.replicate (n - ds.length) .un)
 match r.1 with
 | .nx=>pure .non
 | .rt d=>pure d
 | _=>failure
def spD (K:Aa) (n:Nat) (F:Ef):Sp:=fun vs H Q _=>vs.length=n/\∃ ρ B hp ds d hp',WOk K ρ B hp H/\RepL K ρ B H ds vs/\F ds hp=some (d,hp')/\Fol K ρ B H d hp' Q
structure Has (P:Program) (w:World) (K:Aa) (mg:Ea) (O8:Heap) (x:Str) (k n:Nat) (F:Ef):Prop where
 ex:∃ (g:Addr) (fd:FuncData) (ps:List Str),zm P w K mg O8 CX0 k g fd ps (spD K n F)/\Binds K fd ps []/\PySem.W.keepIn K (.ref g)=true/\mg x=some (.ref g)
theorem yr {K:Aa} {N:List Str} (W:WOk K ρ B hp H) (r:RepL K ρ B H ds vs):
  SOk K ⟨ρ,B,H⟩ (ds.map .val++List.replicate (N.length - ds.length) .un) (L2.start N vs) ρ B hp H:=by
 have hl:=r.length
 have at_:∀ {i:Nat} {z:Sl},(ds.map Sl.val++List.replicate (N.length - ds.length) Sl.un)[i]?=some z->z=.un∨∃ d,ds[i]?=some d/\z=.val d:=fun {i z} h=>by
  by_cases hi:i < ds.length
  ·rw [Ag (by simpa using hi),Bt,Ab hi] at h
   cases h
   exact .inr ⟨_,Ab hi,rfl⟩
  ·rw [Ap (by simpa using hi),List.getElem?_replicate] at h
   split at h
   ·cases h;exact .inl rfl
   ·cases h
 refine ⟨Gr.refl,W.bt,W,fun i d h=>?_,fun i es h=>?_,fun i j es es' a h=>?_,by unfold L2.start;simp;lia⟩
 ·rcases at_ h with z | ⟨d',q,z⟩
  ·cases z
  ·cases z
   obtain ⟨v,h1,h2⟩:=r.get q
   refine ⟨v,?_,h2⟩
   unfold L2.start
   have hi:i < vs.length:=(Ac.mp h1).1
   rw [Ag (by simpa using hi),Bt,h1]
   rfl
 ·rcases at_ h with z | ⟨d',q,z⟩<;>cases z
 ·rcases at_ h with z | ⟨d',q,z⟩<;>cases z
theorem Qgn {P:Program} {w:World} {K:Aa} {mg:Ea} {O8:Heap} {x:Str} {g:Addr} {k:Nat} {body:DSx} (F:Fun K x x stm g fd) (Sc:Qt N ps (Qp stm)) (hm:mg x=some (.ref g))
  (hb:∀ (kV doc pm:Value) (an:Option Addr) (cdv ct:Value) (us:List Value),us.length=ps.length->bindArgs (PySem.W.fnOf x x (JA stm) (ZH stm) (Qp stm) .none kV doc pm an cdv ct) ⟨us,[]⟩=pure (ps.zip us))
  (h:∀ (cdv:Value) (A:Around) (outer:List Env) (s:Shared) (H:Hp) (E:XK),Room k (A.deeper (envOfC x (Qp stm) s.heap.objs.size g cdv))->DSs (y0 CX0 P w K mg O8 N x (Qp stm) g cdv A outer s H E).nox (ZH stm) body) :
  Has P w K mg O8 x (k+1) ps.length (Q9 N.length body):=by
 refine ⟨g,fd,ps,F.ok Sc (fun vs H Q E h=>h.1) (fun cdv A outer s H vs Q E hr sp=>?_),F.binds hb,F.kp,hm⟩
 obtain ⟨hn,ρ,B,hp,ds,d,hp',W,r,e,k⟩:=sp
 obtain ⟨⟨fl,env'⟩,hp1,e1,e2⟩:=Qg e
 refine ⟨_,h cdv A outer s H E hr,⟨ρ,B,H⟩,_,ρ,B,hp,fl,env',hp1,yr W r,e1,fun σ' ρ' B' H' g' S'=>?_⟩
 cases fl with
 | nx=>obtain ⟨rfl,rfl⟩:=Ql e2;exact k .non ρ' B' H' S'.gr S'.wo ji
 | rt x=>obtain ⟨rfl,rfl⟩:=Ql e2;exact fun v rv=>k v ρ' B' H' S'.gr S'.wo rv
 | bk=>cases e2
 | ct=>cases e2
def QI (n:Nat) (F:Ef) (a:DAx):DEx:=fun env=>do
 let ds <- a env
 Qx (decide (ds.length=n))
 F ds
theorem Q2 {y:Str} {k j n:Nat} {F:Ef} {e:Expr} {es:List Expr} {fa:DAx} {p:Pos} (h:Has X.prog X.w X.K X.mg X.O8 y j n F) (hr:Room k X.A) (hj:j<=k) (hx:YT CX0 X E0) (ha:DA X (e::es) fa) (hg:Gl X y:=by rfl)
  (hdb:(y==("__debug__" : Str))=false:=by decide) (he:starEach (e::es) X.env=(false,eval e X.env)::starEach es X.env:=by rfl) (hpl:(backTo pos (starEach es X.env)).any (·.1)=false:=by rfl):DE X (.Call (.Name y p) (e::es) [] pos) (QI n F fa):=by
 obtain ⟨g,fd,ps,F',hb,hk,hm⟩:=h.ex
 refine L2.PE.imp (QeV F' (hr.mono hj) hg hm hk hb .nil hx ha hdb he hpl) fun σ H Q ⟨Z,env,ρ,B,hp,d,hp',S,e,k⟩=>?_
 obtain ⟨ds,hp1,e1,e2⟩:=Qg e
 obtain ⟨_,hp2,e3,e4⟩:=Qg e2
 obtain ⟨hl,rfl⟩:=QK e3
 refine tDA.run S e1 fun vs ρ1 B1 H1 g1 S1 r1=>?_
 refine ⟨by rw [Bs,<- r1.length];exact C5 hl,ρ1,B1,hp1,ds,d,hp',S1.wo,by rw [Bs];exact r1,e4,k.after g1⟩
end
section
variable {X:Cx} {e a b c:Expr} {f fa fb fc:DEx} {ca cb:DTx} {pos:Pos}
def qK (C:Int->Int->Bool) (g:Int->Int->DV):DV->DV->M DV
 | .int i,.int j=>if C i j then pure (g i j) else failure
 | _,_=>failure
theorem yi {C:Int->Int->Bool} {g:Int->Int->DV} {x y d:DV} {hp hp':Hs} (h:qK C g x y hp=some (d,hp')):∃ i j,x=.int i/\y=.int j/\C i j=true/\d=g i j/\hp=hp':=by
 unfold qK at h
 split at h
 ·rename_i i j
  by_cases hc:C i j=true
  ·rw [C0 hc] at h
   obtain ⟨rfl,rfl⟩:=Ql h
   exact ⟨i,j,rfl,rfl,hc,rfl,rfl⟩
  ·rw [Cz hc] at h;cases h
 ·cases h
theorem V2 {g:Value->Value->Sem Value} {C:Int->Int->Bool} {P:Int->Int->Prop} {q:Int->Int->Int} (ho:OpR X g (rI P fun i j=>.int (q i j))) (hC:∀ i j,C i j=true->P i j):P2 X g (qK C fun i j=>.int (q i j)):=by
 intro O9 s σ H x y v u Q I rx ry h
 refine ho O9 s σ H x y v u Q I rx ry ?_
 obtain ⟨ρ,B,hp,dx,dy,d,hp',W,r1,r2,e,k⟩:=h
 obtain ⟨i,j,rfl,rfl,hc,rfl,rfl⟩:=yi e
 exact ⟨i,j,r1.intI,r2.intI,hC i j hc,k _ ρ B H Gr.refl W JE⟩
theorem QeU {g:Value->Value->Sem Value} {q:Int->Int->Int} (ho:OpR X g (rI0 fun i j=>.int (q i j))):P2 X g (qK (fun _ _=>true) fun i j=>.int (q i j)):=by
 intro O9 s σ H x y v u Q I rx ry h
 refine ho O9 s σ H x y v u Q I rx ry ?_
 obtain ⟨ρ,B,hp,dx,dy,d,hp',W,r1,r2,e,k⟩:=h
 obtain ⟨i,j,rfl,rfl,hc,rfl,rfl⟩:=yi e
 exact ⟨i,j,r1.intI,r2.intI,k _ ρ B H Gr.refl W JE⟩
theorem Vp {g:Value->Value->Sem Value} {q:Int->Int->Bool} (ho:OpR X g (rI0 fun i j=>.bl (q i j))):P2 X g (qK (fun _ _=>true) fun i j=>.bl (q i j)):=by
 intro O9 s σ H x y v u Q I rx ry h
 refine ho O9 s σ H x y v u Q I rx ry ?_
 obtain ⟨ρ,B,hp,dx,dy,d,hp',W,r1,r2,e,k⟩:=h
 obtain ⟨i,j,rfl,rfl,hc,rfl,rfl⟩:=yi e
 exact ⟨i,j,r1.intI,r2.intI,k _ ρ B H Gr.refl W Jb⟩
def QhT (i j:Int):Bool:=decide ((-(2 ^ 64) < i/\i < 2 ^ 64)∨(-(2 ^ 64) < j/\j < 2 ^ 64))
def QhR (_ j:Int):Bool:=decide (0 < j/\j < 1073741824)
def QhS (_ j:Int):Bool:=decide (0 < j)
def Qi0 (i j:Int):Bool:=decide (0<=j/\j<=1000000/\i.natAbs < 2 ^ 64)
def xQ:DV->DV->M DV:=qK (fun _ _=>true) fun i j=>.int (i - j)
def Qbw:DV->DV->M DV:=qK QhT fun i j=>.int (i * j)
def YX:DV->DV->M DV:=qK QhR fun i j=>.int (i / j)
def XS:DV->DV->M DV:=qK QhS fun i j=>.int (i % j)
def Y4:DV->DV->M DV:=qK Qi0 fun i j=>.int (i ^ j.toNat)
def ltD:DV->DV->M DV:=qK (fun _ _=>true) fun i j=>.bl (decide (i < j))
def leD:DV->DV->M DV:=qK (fun _ _=>true) fun i j=>.bl (decide (i<=j))
def gtD:DV->DV->M DV:=qK (fun _ _=>true) fun i j=>.bl (decide (j < i))
def geD:DV->DV->M DV:=qK (fun _ _=>true) fun i j=>.bl (decide (j<=i))
def yI:P2 X (binaryOp .Sub) xQ:=QeU QgM
def QfW:P2 X (binaryOp .Mult) Qbw:=V2 QgK fun i j h=>C5 (p:=(-(2 ^ 64) < i/\i < 2 ^ 64)∨(-(2 ^ 64) < j/\j < 2 ^ 64)) h
def xB:P2 X (binaryOp .FloorDiv) YX:=V2 QeQ fun i j h=>C5 (p:=0 < j/\j < 1073741824) h
def qj:P2 X (binaryOp .Mod) XS:=V2 QgJ fun _ _ h=>C5 h
def yH:P2 X (binaryOp .Pow) Y4:=V2 QgL fun i j h=>C5 (p:=0<=j/\j<=1000000/\i.natAbs < 2 ^ 64) h
def xC:P2 X (compareOp .Lt) ltD:=Vp Qil
def Qdf:P2 X (compareOp .LtE) leD:=Vp Qik
def QgN:P2 X (compareOp .Gt) gtD:=Vp Qij
def Qim:P2 X (compareOp .GtE) geD:=Vp Qii
def Qig:DV->M DV
 | .int i=>pure (.int (-i))
 | _=>failure
def YB (f:DEx):DEx:=fun env=>do Qig (<- f env)
theorem ga (h:DE X a f):DE X (.UnaryOp .USub a pos) (YB f):=L2.PE.imp (Qit QhB h) fun σ H Q ⟨Z,env,ρ,B,hp,d,hp',S,e,k⟩=>by
 obtain ⟨x,hp1,e1,e2⟩:=Qg e
 refine tD.run S e1 fun v ρ1 B1 H1 g1 S1 r1=>?_
 cases x with
 | int i=>obtain ⟨rfl,rfl⟩:=Ql e2;exact ⟨i,r1.intI,k _ ρ1 B1 H1 g1 S1.wo JE⟩
 | _=>cases e2
theorem Qdd:OpR X (binaryOp .Add) (fun x y H Q=>∃ a b ys,x=.ref a/\y=.ref b/\SqT X.K H a []/\SqT X.K H b ys/\ys.length<=sizeLine/\Q (.ref b) H):=by
 intro O9 s σ H x y v u Q I rx ry h
 obtain ⟨a,b,ys,rfl,rfl,ha,hb,hz,q⟩:=h
 cases rx
 cases ry
 obtain ⟨its,r1,p1,_⟩:=I.tuple ha
 obtain ⟨its2,r2,p2,_⟩:=I.tuple hb
 obtain ⟨m,F⟩:=I.fr
 have z:its=[]:=by cases r1;rfl
 subst z
 exact add_tuples F (Qc9 (g:=X.O8) (L:=X.env.locals)) p1 p2 (fun _=>⟨.ref b,H,I,rfl,q⟩) (fun n=>absurd rfl n) (fun n=>absurd rfl n) (by have:=r2.length;simp;lia)
def Jd:DV->DV->M DV
 | .int i,.int j=>pure (.int (i+j))
 | .tup xs,.tup ys=>do Qx (zh (xs++ys));pure (.tup (xs++ys))
 | .lst xs,.lst ys=>do Qx (zh (xs++ys));pure (.lst (xs++ys))
 | _,_=>failure
theorem Qfm:OpR X (binaryOp .Add) (fun x y H Q=>∃ l b xs zs,x=.ref l/\y=.ref b/\SqL X.K H l xs/\SqL X.K H b zs/\xs.length+zs.length<=sizeLine/\∀ p,H p=none->Q (.ref p) (upd H p (.lst (xs++zs)))):=by
 intro O9 s σ H x y v u Q I rx ry h
 obtain ⟨l,b,xs,zs,rfl,rfl,hl,hb,hz,q⟩:=h
 cases rx
 cases ry
 obtain ⟨its,r1,⟨⟨k1,dd1,da1,sl1⟩,n1,e1,c1,d1,s1⟩,_⟩:=I.list hl
 obtain ⟨its2,r2,⟨⟨k2,dd2,da2,sl2⟩,n2,e2,c2,d2,s2⟩,_⟩:=I.list hb
 simp only at c1 d1 s1 c2 d2 s2
 subst c1 d1 s1 c2 d2 s2
 have ea:its.toArray++its2.toArray=(its++its2).toArray:=by simp
 have hz':its.length+its2.length<=sizeLine:=by rw [<- r1.length,<- r2.length];exact hz
 refine concat_meets (T := "list") ⟨_,e1,rfl⟩ ⟨_,e2,rfl⟩ noFill_list_add seq_list_add PySem.F.slot_list_add PySem.F.entry_list_add (PySem.F.args_list_add_2 _ _) (list_addW l b its.toArray its2.toArray n1 n2 none none sl1 sl2 (by simpa using hz')) ⟨e1,e2,?_⟩
 rw [ea]
 exact ⟨.ref _,_,I.lnew (t':=s.toks) (r1.append r2) (by rw [Am];exact hz),rfl,q _ I.fresh⟩
theorem Xc:P2 X (binaryOp .Add) Jd:=by
 intro O9 s σ H x y v u Q I rx ry h
 obtain ⟨ρ,B,hp,dx,dy,d,hp',W,r1,r2,e,k⟩:=h
 unfold Jd at e
 split at e
 ·obtain ⟨rfl,rfl⟩:=Ql e
  exact QgH O9 s σ H x y v u Q I rx ry ⟨_,_,r1.intI,r2.intI,k _ ρ B H Gr.refl W JE⟩
 ·rename_i xs ys
  obtain ⟨_,hp1,e1,e2⟩:=Qg e
  obtain ⟨hs,rfl⟩:=QK e1
  obtain ⟨rfl,rfl⟩:=Ql e2
  obtain ⟨a,vs,rfl,n1,q1,l1⟩:=r1.tupI
  obtain ⟨b,ws,rfl,n2,q2,l2⟩:=r2.tupI
  have hz:vs.length+ws.length<=sizeLine:=by
   have:=zX hs
   rw [Am] at this
   rw [<- l1.length,<- l2.length];exact this
  by_cases hv:vs=[]
  ·subst hv
   have:xs=[]:=by have:=l1.length;cases xs with | nil=>rfl | cons _ _=>simp at this
   subst this
   exact Qdd O9 s σ H _ _ v u Q I rx ry ⟨a,b,ws,rfl,rfl,q1,q2,by simp at hz;exact hz,k _ ρ B H Gr.refl W (qP n2 q2 l2)⟩
  ·refine QeP O9 s σ H _ _ v u Q I rx ry ⟨a,b,vs,ws,rfl,rfl,q1,q2,hv,hz,fun hw=>?_,fun hw=>xf W (RepL.append l1 l2) k⟩
   subst hw
   have:ys=[]:=by have:=l2.length;cases ys with | nil=>rfl | cons _ _=>simp at this
   subst this
   rw [Bs] at k
   exact k _ ρ B H Gr.refl W (qP n1 q1 l1)
 ·rename_i xs ys
  obtain ⟨_,hp1,e1,e2⟩:=Qg e
  obtain ⟨hs,rfl⟩:=QK e1
  obtain ⟨rfl,rfl⟩:=Ql e2
  obtain ⟨a,vs,rfl,n1,q1,l1⟩:=r1.lstI
  obtain ⟨b,ws,rfl,n2,q2,l2⟩:=r2.lstI
  have hz:vs.length+ws.length<=sizeLine:=by
   have:=zX hs
   rw [Am] at this
   rw [<- l1.length,<- l2.length];exact this
  exact Qfm O9 s σ H _ _ v u Q I rx ry ⟨a,b,vs,ws,rfl,rfl,q1,q2,hz,Vm W (RepL.append l1 l2) k⟩
 ·cases e
def isN:DV->Bool
 | .non=>true
 | _=>false
theorem Qal {K:Aa} {v:V} (r:RepV K ρ B H d v):decide (v=.non)=isN d:=by
 cases d with
 | non=>rw [r.nonI];rfl
 | bl b=>rw [r.blI];rfl
 | int b=>rw [r.intI];rfl
 | str b=>rw [r.strI];rfl
 | tup b=>obtain ⟨a,xs,rfl,_⟩:=r.tupI;rfl
 | lst b=>obtain ⟨a,xs,rfl,_⟩:=r.lstI;rfl
 | ref b=>obtain ⟨a,rfl,_⟩:=r.refI;rfl
def isD:DV->DV->M DV
 | x,.non=>pure (.bl (isN x))
 | .bl p,.bl q=>pure (.bl (p==q))
 | _,_=>failure
def Ve:DV->DV->M DV
 | x,.non=>pure (.bl (!isN x))
 | .bl p,.bl q=>pure (.bl (p != q))
 | _,_=>failure
theorem gM:P2 X (compareOp .Is) isD:=by
 intro O9 s σ H x y v u Q I rx ry h
 obtain ⟨ρ,B,hp,dx,dy,d,hp',W,r1,r2,e,k⟩:=h
 unfold isD at e
 split at e
 ·obtain ⟨rfl,rfl⟩:=Ql e
  refine QgI O9 s σ H x y v u Q I rx ry ⟨r2.nonI,?_⟩
  rw [Qal r1]
  exact k _ ρ B H Gr.refl W Jb
 ·obtain ⟨rfl,rfl⟩:=Ql e
  obtain rfl:=r1.blI
  obtain rfl:=r2.blI
  cases rx;cases ry
  exact is_bool ⟨.bl _,H,I,rfl,k _ ρ B H Gr.refl W Jb⟩
 ·cases e
theorem Qav:P2 X (compareOp .IsNot) Ve:=by
 intro O9 s σ H x y v u Q I rx ry h
 obtain ⟨ρ,B,hp,dx,dy,d,hp',W,r1,r2,e,k⟩:=h
 unfold Ve at e
 split at e
 ·obtain ⟨rfl,rfl⟩:=Ql e
  refine QeS O9 s σ H x y v u Q I rx ry ⟨r2.nonI,?_⟩
  rw [Qal r1]
  exact k _ ρ B H Gr.refl W Jb
 ·obtain ⟨rfl,rfl⟩:=Ql e
  obtain rfl:=r1.blI
  obtain rfl:=r2.blI
  cases rx;cases ry
  exact isnot_bool ⟨.bl _,H,I,rfl,k _ ρ B H Gr.refl W Jb⟩
 ·cases e
theorem Gm {K:Aa} {i:Int} (r:RepL K ρ B H ds xs) (h:atI ds i=some d):∃ x,atI xs i=some x/\RepV K ρ B H d x:=by
  unfold atI at h ⊢
  rw [<- r.length]
  cases q:ixN ds.length i with
  | none=>rw [q] at h;cases h
  | some j =>
    rw [q] at h
    exact r.get h
def ixD:DV->DV->M DV
  | .tup ds,.int i=>match atI ds i with
    | some d=>pure d
    | none=>failure
  | .lst ds,.int i=>match atI ds i with
    | some d=>pure d
    | none=>failure
  | _,_=>failure
theorem Qin:IxR X (tP2 X.K ixD):=by
  intro value slice O9 s σ H x y v u Q I rx ry h hsub
  obtain ⟨ρ,B,hp,dx,dy,d,hp',W,r1,r2,e,k⟩:=h
  unfold ixD at e
  split at e
  . rename_i ds i
    cases q:atI ds i with
    | none=>rw [q] at e;cases e
    | some d' =>
      rw [q] at e
      obtain ⟨rfl,rfl⟩:=Ql e
      obtain ⟨a,xs,rfl,n1,q1,l1⟩:=r1.tupI
      obtain ⟨z,hz,rz⟩:=Gm l1 q
      exact Qgs value slice O9 s σ H _ _ v u Q I rx ry ⟨a,xs,i,z,rfl,r2.intI,q1,hz,k _ ρ B H Gr.refl W rz⟩ hsub
  . rename_i ds i
    cases q:atI ds i with
    | none=>rw [q] at e;cases e
    | some d' =>
      rw [q] at e
      obtain ⟨rfl,rfl⟩:=Ql e
      obtain ⟨a,xs,rfl,n1,q1,l1⟩:=r1.lstI
      obtain ⟨z,hz,rz⟩:=Gm l1 q
      exact Qap value slice O9 s σ H _ _ v u Q I rx ry ⟨a,xs,i,z,rfl,r2.intI,q1,hz,k _ ρ B H Gr.refl W rz⟩ hsub
  . cases e
theorem JG (ha:DE X a fa) (hb:DE X b fb) (hs:Gi b:=by intro _ _;rfl):DE X (.Subscript a b pos) (Qk ixD fa fb):=L2.PE.imp (QfX Qin ha hb hs) fun _ _ _ h=>zt h
end
mutual
def toP:DV->PyData
 | .non=>.none
 | .bl b=>.bool b
 | .int i=>.int i
 | .str x=>.str x
 | .tup xs=>.tuple (toPs xs)
 | .lst xs=>.list (toPs xs)
 | .ref _=>.none
def toPs:List DV->List PyData
 | []=>[]
 | d::ds=>toP d::toPs ds
end
mutual
def KJ:DV->Bool
 | .ref _=>false
 | .tup xs=>noRefs xs
 | .lst xs=>noRefs xs
 | _=>true
def noRefs:List DV->Bool
 | []=>true
 | d::ds=>KJ d&&noRefs ds
end
section
variable {X:Cx} {O9:C9} {σ:St} {H:Hp} {s:Shared} {ρ:Ee} {B:Ed}
mutual
theorem V9 (I:Inv X O9 σ H s):∀ (d:DV) (v:V) (u:Value),RepV X.K ρ B H d v->RelV v u->KJ d=true->∃ as,Reads s.heap u (toP d) as
  | .non,_,_,r,ru,_=>by obtain rfl:=r.nonI;cases ru;exact ⟨[],by unfold toP;exact .none⟩
  | .bl b,_,_,r,ru,_=>by obtain rfl:=r.blI;cases ru;exact ⟨[],by unfold toP;exact .bool b⟩
  | .int i,_,_,r,ru,_=>by obtain rfl:=r.intI;obtain ⟨t,rfl⟩:=ru;exact ⟨[],by unfold toP;exact .int i t⟩
  | .str x,_,_,r,ru,_=>by obtain rfl:=r.strI;obtain ⟨t,rfl⟩:=ru;exact ⟨[],by unfold toP;exact .str x t⟩
  | .ref _,_,_,_,_,n=>by cases n
  | .tup ds,_,_,r,ru,n=>by
    obtain ⟨a,xs,rfl,_,sq,rl⟩:=r.tupI
    cases ru
    obtain ⟨its,rv,⟨o,e,hc,k,hd⟩,_⟩:=I.tuple sq
    obtain ⟨as,q⟩:=reads_all I ds xs its rl rv (by unfold KJ at n;exact n)
    exact ⟨_,by unfold toP;exact reads_tuple_at e hc hd (by simpa using q)⟩
  | .lst ds,_,_,r,ru,n=>by
    obtain ⟨a,xs,rfl,_,sq,rl⟩:=r.lstI
    cases ru
    obtain ⟨its,rv,⟨o,k,e,hc,_,hd⟩,_⟩:=I.list sq
    obtain ⟨as,q⟩:=reads_all I ds xs its rl rv (by unfold KJ at n;exact n)
    exact ⟨_,by unfold toP;exact reads_list_at e hc hd (by simpa using q)⟩
theorem reads_all (I:Inv X O9 σ H s):∀ (ds:List DV) (xs:List V) (us:List Value),RepL X.K ρ B H ds xs->Vals xs us->noRefs ds=true->∃ as,ReadsAll s.heap us (toPs ds) as
  | [],_,_,r,ru,_=>by unfold RepL at r;subst r;cases ru;exact ⟨[],by unfold toPs;exact .nil⟩
  | d::ds,_,_,r,ru,n=>by
    unfold RepL at r
    obtain ⟨x,xs,rfl,r1,r2⟩:=r
    cases ru with
    | cons q1 q2 =>
      unfold noRefs at n
      rw [Bb] at n
      obtain ⟨as,h1⟩:=V9 I d x _ r1 q1 n.1
      obtain ⟨bs,h2⟩:=reads_all I ds xs _ r2 q2 n.2
      exact ⟨_,by unfold toPs;exact .cons h1 h2⟩
end
end
def okP (d:DV):Bool:=KJ d&&SeqAt.shaped (toP d)
def eqD:DV->DV->M DV:=fun x y=>do Qx (okP x&&okP y);pure (.bl (PyData.eqv (toP x) (toP y)))
def neD:DV->DV->M DV:=fun x y=>do Qx (okP x&&okP y);pure (.bl (!PyData.eqv (toP x) (toP y)))
section
variable {X:Cx} {e a b c:Expr} {f fa fb fc:DEx} {ca cb:DTx} {pos:Pos}
theorem Qbz (hu:X.A.units+64 < cLine):P2 X (compareOp .Eq) eqD:=by
 intro O9 s σ H x y v u Q I rx ry h
 obtain ⟨ρ,B,hp,dx,dy,d,hp',W,r1,r2,e,k⟩:=h
 obtain ⟨_,hp1,e1,e2⟩:=Qg e
 obtain ⟨hs,rfl⟩:=QK e1
 obtain ⟨rfl,rfl⟩:=Ql e2
 simp only [okP,Bb] at hs
 obtain ⟨as,q1⟩:=V9 I dx x v r1 rx hs.1.1
 obtain ⟨bs,q2⟩:=V9 I dy y u r2 ry hs.2.1
 exact eq_dataH q1 q2 hs.1.2 hs.2.2 hu ⟨.bl _,H,I,rfl,k _ ρ B H Gr.refl W Jb⟩
def tPn (K:Aa) (g:Ef):List V->Hp->VK->Prop:=fun xs H Q=>∃ ρ B hp ds d hp',WOk K ρ B hp H/\RepL K ρ B H ds xs/\g ds hp=some (d,hp')/\Fol K ρ B H d hp' Q
def Zx (g:Ef) (a:DAx):DEx:=fun env=>do g (<- a env)
theorem vJ {K:Aa} {g:Ef} {fa:DAx} {σ:St} {H:Hp} {Q:VK} (h:tD K (Zx g fa) σ H Q):tCB (tPn K g) (tDA K fa) σ H Q:=by
 obtain ⟨Z,env,ρ,B,hp,d,hp',S,e,k⟩:=h
 obtain ⟨ds,hp1,e1,e2⟩:=Qg e
 exact tDA.run S e1 fun vs ρ1 B1 H1 g1 S1 r1=>⟨ρ1,B1,hp1,ds,d,hp',S1.wo,r1,e2,k.after g1⟩
theorem ZZ {x:Str} {id:String} {g:Ef} {e:Expr} {es:List Expr} {fa:DAx} {p:Pos} (hc:J7 X (.builtin id) (tPn X.K g)) (hm:X.mg x=none) (hv:bootBuiltins x=some (.builtin id)) (ha:DA X (e::es) fa) (hg:Gl X x:=by rfl) (hn:x ≠ "__name__" := by decide) (hdb:(x==("__debug__" : Str))=false:=by decide)
  (he:starEach (e::es) X.env=(false,eval e X.env)::starEach es X.env:=by rfl) (hpl:(backTo pos (starEach es X.env)).any (·.1)=false:=by rfl):DE X (.Call (.Name x p) (e::es) [] pos) (Zx g fa) :=
 L2.PE.imp (V4 hc hg hm hv ha hn hdb he hpl) fun _ _ _ h=>vJ h
theorem Qcf {x:Str} {T:String} {g:Ef} {e:Expr} {es:List Expr} {fa:DAx} {p:Pos} (hc:J7 X (.type T) (tPn X.K g)) (hm:X.mg x=none) (hv:bootBuiltins x=some (.type T)) (ha:DA X (e::es) fa) (hg:Gl X x:=by rfl) (hn:x ≠ "__name__" := by decide) (hdb:(x==("__debug__" : Str))=false:=by decide)
  (he:starEach (e::es) X.env=(false,eval e X.env)::starEach es X.env:=by rfl) (hpl:(backTo pos (starEach es X.env)).any (·.1)=false:=by rfl):DE X (.Call (.Name x p) (e::es) [] pos) (Zx g fa) :=
 L2.PE.imp (QbB hc hg hm hv ha hn hdb he hpl) fun _ _ _ h=>vJ h
theorem RepL.oneI {K:Aa} {vs:List V} (h:RepL K ρ B H [d] vs):∃ v,vs=[v]/\RepV K ρ B H d v:=by
 unfold RepL at h
 obtain ⟨x,r,rfl,h1,h2⟩:=h
 unfold RepL at h2;subst h2
 exact ⟨x,rfl,h1⟩
def qN:List DV->M DV
 | [.tup ds]=>pure (.int ds.length)
 | [.lst ds]=>pure (.int ds.length)
 | _=>failure
theorem kO:J7 X (.builtin "len") (tPn X.K qN):=by
 intro O9 s σ H xs us Q I r h
 obtain ⟨ρ,B,hp,ds,d,hp',W,rl,e,k⟩:=h
 unfold qN at e
 split at e
 ·obtain ⟨rfl,rfl⟩:=Ql e
  obtain ⟨v,rfl,rv⟩:=rl.oneI
  obtain ⟨a,ys,rfl,_,sq,l⟩:=rv.tupI
  exact qE O9 s σ H _ us Q I r ⟨a,ys,rfl,.inr sq,by rw [<- l.length];exact k _ ρ B H Gr.refl W JE⟩
 ·obtain ⟨rfl,rfl⟩:=Ql e
  obtain ⟨v,rfl,rv⟩:=rl.oneI
  obtain ⟨a,ys,rfl,_,sq,l⟩:=rv.lstI
  exact qE O9 s σ H _ us Q I r ⟨a,ys,rfl,.inl sq,by rw [<- l.length];exact k _ ρ B H Gr.refl W JE⟩
 ·cases e
def QeJ:List DV->M DV
 | [.int i,.int j]=>pure (.int (if j < i then j else i))
 | _=>failure
def QeG:List DV->M DV
 | [.int i,.int j]=>pure (.int (if j > i then j else i))
 | _=>failure
theorem QhW (hc:X.calm=true):J7 X (.builtin "min") (tPn X.K QeJ):=by
 intro O9 s σ H xs us Q I r h
 obtain ⟨ρ,B,hp,ds,d,hp',W,rl,e,k⟩:=h
 unfold QeJ at e
 split at e
 ·obtain ⟨rfl,rfl⟩:=Ql e
  exact Qa6 hc O9 s σ H xs us Q I r ⟨_,_,rl.ints2,k _ ρ B H Gr.refl W JE⟩
 ·cases e
theorem QhV (hc:X.calm=true):J7 X (.builtin "max") (tPn X.K QeG):=by
 intro O9 s σ H xs us Q I r h
 obtain ⟨ρ,B,hp,ds,d,hp',W,rl,e,k⟩:=h
 unfold QeG at e
 split at e
 ·obtain ⟨rfl,rfl⟩:=Ql e
  exact Qa5 hc O9 s σ H xs us Q I r ⟨_,_,rl.ints2,k _ ρ B H Gr.refl W JE⟩
 ·cases e
def Qhy:List DV->M DV
 | [.lst ds]=>pure (.tup ds)
 | [.tup ds]=>pure (.tup ds)
 | _=>failure
theorem Qel:J7 X (.type "tuple") (tPn X.K Qhy):=by
 intro O9 s σ H xs us Q I r h
 obtain ⟨ρ,B,hp,ds,d,hp',W,rl,e,k⟩:=h
 unfold Qhy at e
 split at e
 ·obtain ⟨rfl,rfl⟩:=Ql e
  obtain ⟨v,rfl,rv⟩:=rl.oneI
  obtain ⟨a,ys,rfl,_,sq,l⟩:=rv.lstI
  exact YV O9 s σ H _ us Q I r ⟨a,ys,rfl,.inl ⟨sq,xf W l k⟩⟩
 ·obtain ⟨rfl,rfl⟩:=Ql e
  obtain ⟨v,rfl,rv⟩:=rl.oneI
  obtain ⟨a,ys,rfl,nb,sq,l⟩:=rv.tupI
  exact YV O9 s σ H _ us Q I r ⟨a,ys,rfl,.inr ⟨sq,k _ ρ B H Gr.refl W (qP nb sq l)⟩⟩
 ·cases e
def UB:DV->Option String
 | .non=>some "NoneType"
 | .bl _=>some "bool"
 | .int _=>some "int"
 | .str _=>some "str"
 | .tup _=>some "tuple"
 | .lst _=>some "list"
 | .ref _=>none
def U6 (t T:String):Bool:=t==T||(t == "bool" && T == "int")
def Qgk (T:String) (f:DEx):DEx:=fun env=>do
 match UB (<- f env) with
 | some t=>pure (.bl (U6 t T))
 | none=>failure
theorem QfN {T:String} (hT:T∈["int", "bool", "tuple", "str", "list"]):J7 X (.builtin "isinstance") (fun xs H Q=>∃ ρ B d x t,xs=[x,.ty T]/\RepV X.K ρ B H d x/\UB d=some t/\Q (.bl (U6 t T)) H):=by
  intro O9 s σ H xs us Q I r h
  obtain ⟨ρ,B,d,x,t,rfl,rv,ht,q⟩:=h
  obtain ⟨u,w',rfl,ru,rw'⟩:=Gb r
  cases rw'
  have fin:∀ tk,EP X O9 σ Q (.bool (U6 t T)) { s with toks:=tk }:=fun tk=>⟨.bl _,H,I.tok _,rfl,q⟩
  have kit:PySem.W.kitOne X.K (.type t) (.type T)=some (U6 t T):=by
    have:t∈["NoneType", "bool", "int", "str", "tuple", "list"]:=by
      cases d<;>cases ht<;>simp
    simp only [Bj,Ca,or_false] at this hT
    rcases this with rfl | rfl | rfl | rfl | rfl | rfl<;>rcases hT with rfl | rfl | rfl | rfl | rfl<;>first | rfl | decide | with_unfolding_all rfl | kernel_rfl
  cases d with
  | non=>obtain rfl:=rv.nonI;cases ht;cases ru;exact PySem.W.kia_one PySem.W.kitx_none I.kIn True.intro kit (fun z=>nomatch z) fin
  | bl b=>obtain rfl:=rv.blI;cases ht;cases ru;exact PySem.W.kia_one PySem.W.kitx_bool I.kIn True.intro kit (fun z=>nomatch z) fin
  | int b=>obtain rfl:=rv.intI;cases ht;obtain ⟨tk,rfl⟩:=ru;exact PySem.W.kia_one PySem.W.kitx_int I.kIn True.intro kit (fun z=>nomatch z) fin
  | str b=>obtain rfl:=rv.strI;cases ht;obtain ⟨tk,rfl⟩:=ru;exact PySem.W.kia_one PySem.W.kitx_str I.kIn True.intro kit (fun z=>nomatch z) fin
  | ref b=>cases ht
  | tup b =>
    cases ht
    obtain ⟨a,ys,rfl,_,sq,_⟩:=rv.tupI
    cases ru
    obtain ⟨its,_,⟨o,e1,e2,_⟩,_⟩:=I.tuple sq
    exact PySem.W.kia_one PySem.W.kitx_tuple I.kIn ⟨o,e1,e2⟩ kit (fun z=>nomatch z) fin
  | lst b =>
    cases ht
    obtain ⟨a,ys,rfl,_,sq,_⟩:=rv.lstI
    cases ru
    obtain ⟨its,_,⟨o,k,e1,e2,_⟩,_⟩:=I.list sq
    exact PySem.W.kia_one PySem.W.kitx_list I.kIn ⟨o,e1,e2⟩ kit (fun z=>nomatch z) fin
theorem Qce {T:String} {p p':Pos} (hm:X.mg "isinstance" = none) (hm':X.mg (Str.ofString T)=none) (hv:bootBuiltins (Str.ofString T)=some (.type T)) (hT:T∈["int", "bool", "tuple", "str", "list"]) (h:DE X e f) (hg:Gl X "isinstance" := by rfl) (hg':Gl X (Str.ofString T):=by rfl)
    (hn:Str.ofString T ≠ "__name__" := by decide) (hdb:(Str.ofString T==("__debug__" : Str))=false:=by decide) (hs:starEach [e,.Name (Str.ofString T) p'] X.env=(false,eval e X.env)::starEach [.Name (Str.ofString T) p'] X.env:=by rfl)
    (hs2:starEach [.Name (Str.ofString T) p'] X.env=(false,eval (.Name (Str.ofString T) p') X.env)::starEach [] X.env:=by rfl) (hpl:(backTo pos (starEach [.Name (Str.ofString T) p'] X.env)).any (·.1)=false:=by rfl):DE X (.Call (.Name "isinstance" p) [e,.Name (Str.ofString T) p'] [] pos) (Qgk T f) :=
  L2.PE.imp (V4 (QfN hT) hg hm boot_isinstance (Ya h (Ya (Qay (v:=.ty T) hg' hm' hv rfl hn hdb) pa_nil hs2) hs) (by decide) (by decide) hs hpl) fun σ H Q ⟨Z,env,ρ,B,hp,d,hp',S,e,k⟩=>by
    obtain ⟨x,hp1,e1,e2⟩:=Qg e
    refine tD.run S e1 fun v ρ1 B1 H1 g1 S1 r1=>?_
    cases q:UB x with
    | none=>rw [q] at e2;cases e2
    | some t =>
      rw [q] at e2
      obtain ⟨rfl,rfl⟩:=Ql e2
      exact ⟨ρ1,B1,x,v,t,rfl,r1,q,k _ ρ1 B1 H1 g1 S1.wo Jb⟩
def Z0 (g g':DV->DV->M DV) (fa fb fc:DEx):DEx:=fun env=>do
 let x <- fa env
 let y <- fb env
 let z <- g x y
 if <- asB z then
  let u <- fc env
  g' y u
 else pure (.bl false)
end
section
variable {X:Cx} {e a b c:Expr} {f fa fb fc:DEx} {ca cb:DTx} {pos:Pos}
theorem gm {K:Aa} {g g':DV->DV->M DV} (h:tD K (Z0 g g' fa fb fc) σ H Q):QdU (tP2 K g) (tP2 K g') (tD K fa) (tD K fb) (tD K fc) σ H Q:=by
  obtain ⟨Z,env,ρ,B,hp,d,hp',S,e,k⟩:=h
  obtain ⟨x,hp1,e1,e⟩:=Qg e
  obtain ⟨y,hp2,e2,e⟩:=Qg e
  obtain ⟨z,hp3,e3,e⟩:=Qg e
  obtain ⟨t,hp4,e4,e⟩:=Qg e
  obtain ⟨rfl,rfl⟩:=qc e4
  refine tD.run S e1 fun v ρ1 B1 H1 g1 S1 r1=>tD.run S1 e2 fun u ρ2 B2 H2 g2 S2 r2=>?_
  refine ⟨ρ2,B2,hp2,x,y,_,_,S2.wo,RepV.grow S1.wo.rb g2 _ _ r1,r2,e3,fun w ρ3 B3 H3 g3 W3 r3=>⟨t,r3.blI,?_⟩⟩
  have S3:=S2.grow g3 W3
  cases t with
  | false =>
    obtain ⟨rfl,rfl⟩:=Ql e
    exact vU (k _ ρ3 B3 H3 (g1.trans (g2.trans g3)) W3 Jb)
  | true =>
    obtain ⟨q,hp5,e5,e6⟩:=Qg e
    refine vV (tD.run S3 e5 fun p ρ4 B4 H4 g4 S4 r4=>?_)
    exact ⟨ρ4,B4,hp5,y,q,d,hp',S4.wo,RepV.grow S3.wo.rb g4 _ _ (RepV.grow S2.wo.rb g3 _ _ r2),r4,e6,k.after (g1.trans (g2.trans (g3.trans g4)))⟩
theorem zr {op op':CmpOp} {g g':DV->DV->M DV} (ho:P2 X (compareOp op) g) (ho':P2 X (compareOp op') g') (ha:DE X a fa) (hb:DE X b fb) (hc:DE X c fc) (hm:lastMarks [op,op'] [b,c]=false:=by with_unfolding_all rfl):DT X (.Compare a [op,op'] [b,c] pos) (eB (Z0 g g' fa fb fc)) :=
 L2.PT.imp (Qdw ho ho' ha hb hc hm) fun σ H Q ⟨Z,env,ρ,B,hp,d,hp',S,e,k⟩=>by
  obtain ⟨x,hp1,e1,e2⟩:=Qg e
  obtain ⟨rfl,rfl⟩:=qc e2
  exact gm (tD.run S e1 fun v ρ1 B1 H1 g1 S1 r1=>⟨d,r1.blI,k ρ1 B1 H1 g1 S1.wo⟩)
abbrev DOx:=En->M (Option Int)
def tDO (K:Aa) (f:DOx):TO:=fun σ H Q=>∃ Z env ρ B hp d hp',SOk K Z env σ ρ B hp H/\f env hp=some (d,hp')/\QhN K ρ B H hp' (Q d)
def DO (X:Cx) (e:Option Expr) (f:DOx):Prop:=PO X e (tDO X.K f)
def ZN:DOx:=fun _=>pure none
def asI:DV->M Int
 | .int i=>pure i
 | _=>failure
theorem Vs {d:DV} {c:Int} {hp hp':Hs} (h:asI d hp=some (c,hp')):d=.int c/\hp=hp':=by
 cases d with
 | int b=>obtain ⟨rfl,rfl⟩:=Ql h;exact ⟨rfl,rfl⟩
 | _=>cases h
def ZO (f:DEx):DOx:=fun env=>do let i <- asI (<- f env);pure (some i)
theorem JS:DO X none ZN:=fun O9 s σ H Q I ⟨Z,env,ρ,B,hp,d,hp',S,e,k⟩=>by
 obtain ⟨rfl,rfl⟩:=Ql e
 exact Qe7 O9 s σ H Q I (k ρ B H Gr.refl S.wo)
theorem JT (h:DE X e f):DO X (some e) (ZO f):=fun O9 s σ H Q I ⟨Z,env,ρ,B,hp,d,hp',S,e,k⟩=>by
 obtain ⟨x,hp1,e1,e2⟩:=Qg e
 obtain ⟨i,hp2,e3,e4⟩:=Qg e2
 obtain ⟨rfl,rfl⟩:=Vs e3
 obtain ⟨rfl,rfl⟩:=Ql e4
 exact Qe8 h O9 s σ H Q I (tD.run S e1 fun v ρ1 B1 H1 g1 S1 r1=>⟨i,r1.intI,k ρ1 B1 H1 g1 S1.wo⟩)
theorem tDO.run {K:Aa} {f:DOx} {Z:Ent} {d:Option Int} {Q:Option Int->Hp->Prop} (S:SOk K Z env σ ρ B hp H) (e:f env hp=some (d,hp1))
  (k:∀ ρ' B' H',Gr K ρ B H ρ' B' H'->SOk K Z env σ ρ' B' hp1 H'->Q d H'):tDO K f σ H Q :=
 ⟨Z,env,ρ,B,hp,d,hp1,S,e,fun ρ' B' H' g W=>k ρ' B' H' g (S.grow g W)⟩
def UZ (ds:List DV) (lo hi:Option Int):List DV:=(ds.drop (HT.sIx ds.length 0 lo)).take (HT.sIx ds.length ds.length hi - HT.sIx ds.length 0 lo)
theorem vA {K:Aa} {lo hi:Option Int} (r:RepL K ρ B H ds xs):RepL K ρ B H (UZ ds lo hi) (vB xs lo hi):=by
 unfold UZ vB
 rw [r.length]
 exact RepL.take _ (RepL.drop _ r)
def slD (d:DV) (lo hi:Option Int):M DV:=match d with
 | .lst ds=>pure (.lst (UZ ds lo hi))
 | .tup ds=>pure (.tup (UZ ds lo hi))
 | _=>failure
def eSl (f:DEx) (lo hi:DOx):DEx:=fun env=>do let d <- f env;let l <- lo env;let h <- hi env;slD d l h
def tPs (K:Aa):V->Option Int->Option Int->Hp->VK->Prop:=fun x lo hi H Q=>∃ ρ B hp d r hp',WOk K ρ B hp H/\RepV K ρ B H d x/\slD d lo hi hp=some (r,hp')/\Fol K ρ B H r hp' Q
theorem uF {prog:Program} {w:World} {A:Around} {E:C8} {s:Shared} {t sl:Addr} {items:Array Value} {lo hi:Option Int} {Q:C8} (ht:IsTup s.heap t items) (hs:s.heap.IsSliceOf sl vl vu .none) (pl:IsPart vl lo) (pu:IsPart vu hi)
  (h0:HT.sIx items.size 0 lo=0) (h1:HT.sIx items.size items.size hi=items.size) (h:Q (.ref t) s):wpAny (model prog w) A (getItem (.ref t) (.ref sl)) Q E s:=by
 obtain ⟨os,hos,hcs,hds⟩:=id hs
 have hTs:s.TypeIs (.ref sl) "slice" := ⟨os,hos,hcs⟩
 unfold getItem
 try with_reducible refine wpAny_holding ?_
 first | refine Cy (C1 ?_) | skip
 refine Cy (wpAny_sequenceKey ht.typeIs (by decide) ?_)
 refine Cy (wpAny_callSpecial?_slot (name:=Str.ofString "__getitem__") ht.typeIs PyProof.Rows.slot_tuple_getitem (wpAny_call_entry PyProof.Rows.slot_tuple_getitem ht.typeIs entry_tuple_getitem ?_ (args_tuple_getitem _ _)))
 show wpAny _ _ (Builtin.Tuple.tupleItemsOf (.ref t) >>= _) _ _ s
 refine Cy (tupleItemsOf_ ht ?_)
 refine Cy (wpAny_typeOf hTs ?_)
 rw [C0 (by decide)]
 refine Cy (HT.sliceApplied_gen hs pl pu ?_)
 have yes:(((HT.sIx items.size 0 lo:Nat):Int)==0&&(1:Int)==1&&(HT.sIx items.size items.size hi - HT.sIx items.size 0 lo)==items.size)=true:=by rw [h0,h1];simp
 show wpAny _ _ (if (((HT.sIx items.size 0 lo:Nat):Int)==0&&(1:Int)==1&&(HT.sIx items.size items.size hi - HT.sIx items.size 0 lo)==items.size)=true then _ else _) _ _ s
 rw [C0 yes]
 have ex:∀ {Q':Bool->Shared->Prop} {A':Around} {E':C8},Q' true s->wpAny (model prog w) A' (Builtin.Tuple.tupleIsExact (.ref t)) Q' E' s:=fun {Q' A' E'} q=>by
  unfold Builtin.Tuple.tupleIsExact
  exact Cy (wpAny_typeOf ht.typeIs (C1 (by rw [show (Value.type "tuple" == Value.type "tuple")=true from beq_self_eq_true _];exact q)))
 refine Cy (ex ?_)
 rw [C0 rfl]
 first
  | exact Cy (wpAny_rule (C1 ⟨_,rfl,C1 h⟩))
  | exact Cy (wpAny_rule (Cy (C1 (C1 ⟨_,rfl,C1 h⟩))))
theorem Qfw:SlR X (fun x lo hi H Q=>∃ a xs,x=.ref a/\SqT X.K H a xs/\(HT.sIx xs.length 0 lo=0/\HT.sIx xs.length xs.length hi=xs.length)/\Q (.ref a) H):=by
 intro O9 s σ H x v vl vu lo hi sl Q I rx hs pl pu h
 obtain ⟨a,xs,rfl,hx,⟨h0,h1⟩,q⟩:=h
 cases rx
 obtain ⟨its,r,ht,hz⟩:=I.tuple hx
 have hlen:its.toArray.size=xs.length:=by rw [An];exact r.length.symm
 exact ⟨"tuple", _,PyProof.Rows.slot_tuple_getitem.lookup,ht.typeIs,uF ht hs pl pu (by rw [hlen];exact h0) (by rw [hlen];exact h1) ⟨.ref a,H,I,rfl,q⟩⟩
theorem Qa9 {α:Type} (ds:List α) (i j:Nat) (h0:i=0) (h1:j=ds.length):(ds.drop i).take (j - i)=ds:=by subst h0 h1;simp
theorem Qi8:SlR X (tPs X.K):=by
  intro O9 s σ H x v vl vu lo hi sl Q I rx hs pl pu h
  obtain ⟨ρ,B,hp,d,r,hp',W,rv,e,k⟩:=h
  cases d with
  | lst ds =>
    obtain ⟨rfl,rfl⟩:=Ql e
    obtain ⟨a,xs,rfl,nb,sq,rl⟩:=rv.lstI
    exact Qfv O9 s σ H _ v vl vu lo hi sl Q I rx hs pl pu ⟨a,xs,rfl,sq,Vm W (vA rl) k⟩
  | tup ds =>
    obtain ⟨rfl,rfl⟩:=Ql e
    obtain ⟨a,xs,rfl,nb,sq,rl⟩:=rv.tupI
    by_cases hw:HT.sIx xs.length 0 lo=0/\HT.sIx xs.length xs.length hi=xs.length
    . refine Qfw O9 s σ H _ v vl vu lo hi sl Q I rx hs pl pu ⟨a,xs,rfl,sq,hw,?_⟩
      have:UZ ds lo hi=ds:=by unfold UZ;exact Qa9 ds _ _ (by rw [rl.length];exact hw.1) (by rw [rl.length];exact hw.2)
      rw [this] at k
      exact k _ ρ B H Gr.refl W (qP nb sq rl)
    . exact Qho O9 s σ H _ v vl vu lo hi sl Q I rx hs pl pu ⟨a,xs,rfl,sq,hw,xf W (vA rl) k⟩
  | non=>cases e
  | bl _=>cases e
  | int _=>cases e
  | str _=>cases e
  | ref _=>cases e
theorem qe {lo hi:Option Expr} {ol oh:DOx} (h:DE X e f) (hl:DO X lo ol) (hh:DO X hi oh):DE X (.Subscript e (.Slice lo hi none p2) pos) (eSl f ol oh) :=
 L2.PE.imp (Qdm Qi8 h hl hh) fun σ H Q ⟨Z,env,ρ,B,hp,d,hp',S,e,k⟩=>by
  obtain ⟨x,hp1,e1,e⟩:=Qg e
  obtain ⟨l,hp2,e2,e⟩:=Qg e
  obtain ⟨u,hp3,e3,e⟩:=Qg e
  refine tD.run S e1 fun v ρ1 B1 H1 g1 S1 r1=>tDO.run S1 e2 fun ρ2 B2 H2 g2 S2=>tDO.run S2 e3 fun ρ3 B3 H3 g3 S3=>?_
  exact ⟨ρ3,B3,hp3,x,d,hp',S3.wo,RepV.grow S1.wo.rb (g2.trans g3) _ _ r1,e,k.after (g1.trans (g2.trans g3))⟩
theorem Qh4 {P:Program} {w:World} {K:Aa} {mg:Ea} {O8:Heap} {x:Str} {g:Addr} {k:Nat} {body:DSx} (F:Fun K x x stm g fd) (Sc:Qt N ps (Qp stm))
  (h:∀ (cdv:Value) (A:Around) (outer:List Env) (s:Shared) (H:Hp) (E:XK),Room k (A.deeper (envOfC x (Qp stm) s.heap.objs.size g cdv))->DSs (y0 CX0 P w K mg O8 N x (Qp stm) g cdv A outer s H E).nox (ZH stm) body) :
  zm P w K mg O8 CX0 (k+1) g fd ps (spD K ps.length (Q9 N.length body)):=by
 refine F.ok Sc (fun vs H Q E h=>h.1) (fun cdv A outer s H vs Q E hr sp=>?_)
 obtain ⟨hn,ρ,B,hp,ds,d,hp',W,r,e,k⟩:=sp
 obtain ⟨⟨fl,env'⟩,hp1,e1,e2⟩:=Qg e
 refine ⟨_,h cdv A outer s H E hr,⟨ρ,B,H⟩,_,ρ,B,hp,fl,env',hp1,yr W r,e1,fun σ' ρ' B' H' g' S'=>?_⟩
 cases fl with
 | nx=>obtain ⟨rfl,rfl⟩:=Ql e2;exact k .non ρ' B' H' S'.gr S'.wo ji
 | rt x=>obtain ⟨rfl,rfl⟩:=Ql e2;exact fun v rv=>k v ρ' B' H' S'.gr S'.wo rv
 | bk=>cases e2
 | ct=>cases e2
theorem uh {K:Aa}:∀ ns:List Int,RepL K ρ B H (ns.map DV.int) (ns.map V.int)
 | []=>RepL.nil
 | _::r=>RepL.cons JE (uh r)
theorem QgA {K:Aa} {F:Ef} {a:Addr} {ns:List Int} (h:∃ hp',F [.lst (ns.map .int)] []=some (.bl true,hp')) (hS:SqL K H a (ns.map V.int)):spD K 1 F [.ref a] H (fun v _=>v=.bl true) E:=by
 obtain ⟨hp',h⟩:=h
 refine ⟨rfl,[],fun _=>False,[],[.lst (ns.map .int)],.bl true,hp',⟨rfl,List.nodup_nil,fun i a o h=>by simp at h,fun a h=>absurd h (by simp),fun a h=>absurd h (fun z=>z),fun a h=>h.elim⟩,RepL.one (GR (fun z=>z) hS (uh ns)),h,fun v _ _ _ _ _ r=>r.blI⟩
end
end D
namespace L2
open PySem PySem.Spec PyProof.Rows
section
variable {prog:Program} {w:World} {A:Around} {E:C8} {s:Shared}
theorem jl {p q:Addr} {n:Nat} {xs:Array Value} {Q:C8} (a1:s.heap.IsTupleIter p q n) (a2:s.heap.IsTuple q xs) (a3:xs[n]?=some v)
  (k:∀ g,g.IsTupleIter p q (n+1)->Heap.SameBut p s.heap g->Q v { s with heap:=g }):wpAny (model prog w) A (Builtin.SmallTypes.nextOf (.ref p)) Q E s:=by
 obtain ⟨ob,b1,b2,b3⟩:=id a1
 obtain ⟨oq,b4,_,m,b5⟩:=a2
 unfold Builtin.SmallTypes.nextOf
 refine Cy (wpAny_callSpecial?_slot (name:=Str.ofString "__next__") a1.typeIs F.slot_tuple_iterator_next (wpAny_call_entry F.slot_tuple_iterator_next a1.typeIs F.entry_tuple_iterator_next ?_ (F.args_tuple_iterator_next_1 _)))
 show wpAny _ _ (field (.ref p) 0 >>= _) _ _ s
 refine Cy (wpAny_field b1 b3 (x:=.ref q) rfl ?_)
 show wpAny _ _ (if (Value.ref q==Value.none)=true then _ else _) _ _ s
 rw [Cz (show ¬ ((Value.ref q==Value.none)=true) from Bx)]
 show wpAny _ _ (field (.ref p) 1 >>= _) _ _ s
 refine Cy (wpAny_field b1 b3 (x:=.int n 0) rfl ?_)
 show wpAny _ _ (seqItems? (.ref q) >>= _) _ _ s
 refine Cy (wpAny_seqItems b4 b5 ?_)
 simp only [By,a3]
 refine Cy (wpAny_setField b1 b3 (by simp) (C1 ⟨v,rfl,C1 (k _ ?_ (Heap.SameBut.update ..))⟩))
 exact ⟨_,Heap.get?_update_self _ b1 (Obj.isFreed_of_fields (Obj.data_mapFields b3 _)),(Obj.cls_mapFields ..).trans b2,by rw [Obj.data_mapFields b3];simp [rawInt]⟩
theorem ve {p q:Addr} {n:Nat} {xs:Array Value} {Q:C8} (hh:A.handled=none) (a1:s.heap.IsTupleIter p q n) (a2:s.heap.IsTuple q xs) (a3:xs[n]?=none)
  (k:∀ g x,Heap.ExtBut p s.heap g->(∃ o,g.get? x=some o/\o.cls=.type "StopIteration")->E (.ref x) { s with heap:=g }):wpAny (model prog w) A (Builtin.SmallTypes.nextOf (.ref p)) Q E s:=by
 obtain ⟨ob,b1,b2,b3⟩:=id a1
 obtain ⟨oq,b4,_,m,b5⟩:=a2
 unfold Builtin.SmallTypes.nextOf
 refine Cy (wpAny_callSpecial?_slot (name:=Str.ofString "__next__") a1.typeIs F.slot_tuple_iterator_next (wpAny_call_entry F.slot_tuple_iterator_next a1.typeIs F.entry_tuple_iterator_next ?_ (F.args_tuple_iterator_next_1 _)))
 show wpAny _ _ (field (.ref p) 0 >>= _) _ _ s
 refine Cy (wpAny_field b1 b3 (x:=.ref q) rfl ?_)
 show wpAny _ _ (if (Value.ref q==Value.none)=true then _ else _) _ _ s
 rw [Cz (show ¬ ((Value.ref q==Value.none)=true) from Bx)]
 show wpAny _ _ (field (.ref p) 1 >>= _) _ _ s
 refine Cy (wpAny_field b1 b3 (x:=.int n 0) rfl ?_)
 show wpAny _ _ (seqItems? (.ref q) >>= _) _ _ s
 refine Cy (wpAny_seqItems b4 b5 ?_)
 simp only [By,a3]
 refine Cy (wpAny_rule (Cy (wpAny_setField b1 b3 (by simp) ?_)))
 show wpAny _ _ (newExc (.type "StopIteration") [] >>= _) _ _ _
 refine Cy ?_
 simp only [newExc,newTuple]
 refine Cy (wpAny_newObj_type ?_ (by size_fits))
 refine Cy (m:=firstArgMember _ _) (wpAny_of_eq (a:=Value.none) (by first | rfl | (simp only [firstArgMember];rfl)) ?_)
 refine wpAny_newObj_type ?_ (by size_fits)
 simp only [raiseNew]
 refine Cy (wpAny_handled ?_)
 first | rw [show A.in1.handled=none from hh] | rw [hh]
 refine Cy (C1 (wpAny_throw ?_))
 exact k _ _ (((Heap.SameBut.update ..).extBut.push _).push _) ⟨_,Au _ rfl,rfl⟩
structure ZA (z p o i j a b:Addr):Prop where
 pz:p≠z
 oz:o≠z
 iz:i≠z
 jz:j≠z
 po:p≠o
 pi:p≠i
 pj:p≠j
 oi:o≠i
 oj:o≠j
 ij:i≠j
 az:a≠z
 ao:a≠o
 ai:a≠i
 aj:a≠j
 bz:b≠z
 bo:b≠o
 bi:b≠i
 bj:b≠j
end
section
variable {X:Cx} {O9:C9} {σ:L2.St} {H:Hp} {s:Shared} {h':Heap}
theorem Inv.turnL {t':Nat} {fp:Ee} (I:Inv X O9 σ H s) (hf:∀ b∈fp,UR X O9 H b) (k:∀ b o,b∉fp->s.heap.get? b=some o->h'.get? b=some o):Inv X O9 σ H { s with heap:=h',toks:=t' }:=by
 refine I.step (g':=s.gens) (d':=s.drawn) (ch:=fp) (fun b hb=>⟨(hf b hb).2.2.2.1,(hf b hb).2.1,(hf b hb).2.2.2.2.1,(hf b hb).2.2.2.2.2⟩) (fun b o _ _ hc e _=>k b o hc e) (fun b o _ _ hc e _=>⟨o.slots,k b o hc e⟩) (fun _ _ _ _ n=>n)
  (fun b o hc e=>⟨o,k b o hc e⟩) (fun _ _ e=>e) (fun _ _ _ e=>e) (fun b ps e=>⟨#[],by rw [e];simp⟩) (fun m hm=>?_) (fun b u e=>?_) I.bare
 ·obtain ⟨o,es,ep,ho,r⟩:=hm
  exact ⟨o,es,ep,k _ o (fun z=>(hf _ z).2.1 rfl) ho,r⟩
 ·have nf:∀ c u,H c=some u->c∉fp:=fun c u q z=>by rw [(hf c z).1] at q;cases q
  refine (I.hok b u e).stay (fun c v hc q=>k c v ?_ q) (fun _ q=>q) fun _ _ q=>q
  rcases hc with z | z
  ·rw [z];exact nf b u e
  ·exact nf c _ z
theorem Inv.turnNew {t':Nat} {fp:Ee} {vs:List V} {us:List Value} (I:Inv X O9 σ H s) (hf:∀ b∈fp,UR X O9 H b) (k:∀ b o,b∉fp->s.heap.get? b=some o->h'.get? b=some o)
  (hv:Vals vs us) (hz:vs.length<=sizeLine) (hT:IsTup h' s.heap.objs.size us.toArray):Inv X O9 σ (upd H s.heap.objs.size (.tup vs)) { s with heap:=h',toks:=t' }:=by
 have hn:H s.heap.objs.size=none:=I.hok.fresh (Ae _)
 refine I.step (g':=s.gens) (d':=s.drawn) (ch:=fp) (fun b hb=>⟨(hf b hb).2.2.2.1,(hf b hb).2.1,(hf b hb).2.2.2.2.1,(hf b hb).2.2.2.2.2⟩) (fun b o _ _ hc e _=>k b o hc e) (fun b o _ _ hc e _=>⟨o.slots,k b o hc e⟩)
  (fun b o _ e n=>by rw [Q4 (Be (Ao e))];exact n) (fun b o hc e=>⟨o,k b o hc e⟩) (fun b xs e=>by rw [Q4 (ZF e hn)];exact e) (fun b o u e=>by rw [Q4 (ZF e hn)];exact e) (fun b ps e=>⟨#[],by rw [Q4 (ZF e hn),e];simp⟩) (fun m hm=>?_) (fun b u e=>?_) I.bare
 ·obtain ⟨o,es,ep,ho,r⟩:=hm
  exact ⟨o,es,ep,k _ o (fun z=>(hf _ z).2.1 rfl) ho,r⟩
 ·by_cases hb:b=s.heap.objs.size
  ·subst hb
   rw [Za] at e;cases e
   exact ⟨hz,us,hv,hT⟩
  ·rw [Q4 hb] at e
   have nf:∀ c u,H c=some u->c∉fp:=fun c u q z=>by rw [(hf c z).1] at q;cases q
   refine (I.hok b u e).stay (fun c v hc q=>k c v ?_ q) (fun c q=>by rw [Q4 (ZF q hn)];exact q) fun c xs q=>by rw [Q4 (ZF q hn)];exact q
   rcases hc with z | z
   ·rw [z];exact nf b u e
   ·exact nf c _ z
end
def Itz (K:Aa) (a b:Addr):It :=
  ⟨fun i H=>∃ xs ys x y,SqT K H a xs/\SqT K H b ys/\xs[i]?=some x/\ys[i]?=some y,
   fun i H v H'=>∃ p x y,H p=none/\(∀ xs,SqT K H a xs->xs[i]?=some x)/\(∀ ys,SqT K H b ys->ys[i]?=some y)/\v=.ref p/\H'=upd H p (.tup [x,y]),
   fun i H=>∃ xs ys,SqT K H a xs/\SqT K H b ys/\(xs.length<=i∨ys.length<=i)⟩
abbrev zt1 (h:Heap) (a:Addr):Heap:=h.push { cls:=.type "tuple_iterator", data:=.fields #[.ref a,.int 0 0] }
abbrev zt2 (h:Heap) (a b:Addr):Heap:=(zt1 h a).push { cls:=.type "tuple_iterator", data:=.fields #[.ref b,.int 0 0] }
abbrev zt3 (h:Heap) (a b:Addr):Heap:=(zt2 h a b).push { cls:=.type "tuple", data:=.seq #[.ref h.objs.size,.ref (zt1 h a).objs.size] }
abbrev zt4 (h:Heap) (a b:Addr):Heap:=(zt3 h a b).push { cls:=.type "tuple", data:=.seq #[.none,.none] }
abbrev zt5 (h:Heap) (a b:Addr):Heap:=(zt4 h a b).push { cls:=.type "zip", data:=.fields #[.none,.bool false,.bool false,.ref (zt2 h a b).objs.size,.ref (zt3 h a b).objs.size] }
theorem QfJ (a b:Addr) (xs ys:Array Value):Meets (Builtin.«zip.__new__» ⟨[.type "zip", .ref a,.ref b],[]⟩) (fun _ R s=>s.heap.IsTuple a xs/\s.heap.IsTuple b ys/\R (.ok (.ret (.ref (zt4 s.heap a b).objs.size))) { s with heap:=zt5 s.heap a b }) :=
 .of_wp fun prog w A R s h=>by
  obtain ⟨hp,g,d,tk,os⟩:=s;obtain ⟨q1,q2,h⟩:=h
  have hsub:=sub_zip
  have t1:Heap.IsTuple (Shared.heap ⟨hp,g,d,tk,os⟩) a xs:=q1
  have t2:Heap.IsTuple (Shared.heap ⟨hp.push { cls:=.type "tuple_iterator", data:=.fields #[.ref a,.int 0 0] },g,d,tk,os⟩) b ys:=let ⟨ob,e,r⟩:=q2;⟨ob,Ad _ e,r⟩
  wp_walk using wpAny_pyIter_tuple t1,wpAny_pyIter_tuple t2
  exact ⟨_,rfl,h⟩
section
variable {X:Cx} {elts:List Expr} {kt:Nat} {p2:Pos}
def Qh8 (K:Aa) (ta:TA):TI:=fun σ H R=>ta σ H fun vs H1=>∃ a b xs ys,vs=[.ref a,.ref b]/\SqT K H1 a xs/\SqT K H1 b ys/\R (Itz K a b) H1
end
end L2
namespace D
open PySem PySem.Spec PyProof.Rows L2
def Xy:List DV->List DV->List DV
 | x::xs,y::ys=>.tup [x,y]::Xy xs ys
 | _,_=>[]
theorem uN:∀ {xs ys:List DV} {i:Nat} {d:DV},(Xy xs ys)[i]?=some d->∃ x y,xs[i]?=some x/\ys[i]?=some y/\d=.tup [x,y]
  | x::xs,y::ys,0,d,h=>by simp [Xy] at h;exact ⟨x,y,rfl,rfl,h.symm⟩
  | x::xs,y::ys,i+1,d,h=>by
    obtain ⟨a,b,h1,h2,h3⟩:=uN (xs:=xs) (ys:=ys) (i:=i) (by simpa [Xy] using h)
    exact ⟨a,b,by simpa using h1,by simpa using h2,h3⟩
  | [],_,_,_,h=>by simp [Xy] at h
  | _::_,[],_,_,h=>by simp [Xy] at h
theorem ja:∀ (xs ys:List DV),(Xy xs ys).length=min xs.length ys.length
 | x::xs,y::ys=>by simp only [Xy,A9,ja xs ys];lia
 | [],_=>by simp [Xy]
 | _::_,[]=>by simp [Xy]
def QcI (f g:DEx):DIx:=fun env=>do
 let x <- f env
 let xs <- uE x
 let y <- g env
 let ys <- uE y
 pure (Xy xs ys)
theorem QcN {K:Aa} {B:Ed} {a b:Addr} (na:¬ B a) (qa:SqT K H a xs) (ra:RepL K ρ B H ds xs) (nb:¬ B b) (qb:SqT K H b ys) (rb:RepL K ρ B H es ys):QaW K ρ B H (Xy ds es) (Itz K a b):=fun ρ1 B1 H1 g r1 t1=>by
 have qa1:=g.sqT na qa
 have qb1:=g.sqT nb qb
 have ra1:=RepL.gs g _ _ ra
 have rb1:=RepL.gs g _ _ rb
 refine ⟨fun i d e=>?_,xs,ys,qa1,qb1,?_⟩
 ·obtain ⟨x,y,h1,h2,rfl⟩:=uN e
  obtain ⟨u,hu,ru⟩:=ra1.get h1
  obtain ⟨v,hv,rv⟩:=rb1.get h2
  refine ⟨⟨xs,ys,u,v,qa1,qb1,hu,hv⟩,fun z H' ⟨p,u',v',hn,h3,h4,e1,e2⟩=>?_⟩
  subst e1 e2
  have e3:=h3 xs qa1
  have e4:=h4 ys qb1
  rw [hu] at e3;cases e3
  rw [hv] at e4;cases e4
  refine ⟨qP (fun z=>t1 p z hn) (SqT.of Za) (RepL.gs (kA r1 hn) _ _ (RepL.cons ru (RepL.one rv))),.inr ⟨p,_,hn,rfl⟩⟩
 ·rw [ja,ra1.length,rb1.length]
  rcases Nat.le_total xs.length ys.length with q | q
  ·exact .inl (by rw [Nat.min_eq_left q];exact Ae _)
  ·exact .inr (by rw [Nat.min_eq_right q];exact Ae _)
section
variable {X:Cx} {elts:List Expr} {kt:Nat} {p2:Pos} {f g:DEx}
def gT (ix:List Nat):DGx:=fun d env=>do
 let ds <- uE d
 Qx (decide (ds.length=ix.length))
 pure ((ix.zip ds).foldl (fun en q=>en.set q.1 (.val q.2)) env)
def Gh (X:Cx):List Nat->List Expr->Prop
 | [],[]=>True
 | i::is,.Name x _::es=>X.N[i]?=some x/\Loc X.env.scope x/\(X.fn x=true∨X.env.scope.names.lookup x=some .local)/\Gh X is es
 | _,_=>False
theorem KM (hN:X.N.Nodup):∀ (ix:List Nat) (es:List Expr),Gh X ix es->(∀ es' x p,(assignEach (.Name x p::es') X.env).map (·.2)=assign (.Name x p) X.env::(assignEach es' X.env).map (·.2)) ->
    PGs X es (fun vs σ H Q=>vs.length=ix.length/\Q ((ix.zip vs).foldl (fun s q=>s.set q.1 (some q.2)) σ) H)
  | [],[],_,_=>by
    intro O9 s σ H vs us Q I r h
    obtain ⟨h1,h2⟩:=h
    have:vs=[]:=by cases vs with | nil=>rfl | cons _ _=>simp at h1
    subst this
    exact Qe1 O9 s σ H [] us Q I r ⟨rfl,by simpa using h2⟩
  | i::is,.Name x p::es,⟨h1,h2,h3,h4⟩,ha=>by
    intro O9 s σ H vs us Q I r h
    obtain ⟨h5,h6⟩:=h
    cases vs with
    | nil=>simp at h5
    | cons v vs =>
      exact Qdq (GQ hN h1 h2 h3) (KM hN is es h4 ha) (ha _ _ _) O9 s σ H (v::vs) us Q I r ⟨v,vs,rfl,by simpa using h5,by simpa using h6⟩
theorem Qae {K:Aa} {Z:Ent}:∀ (ix:List Nat) (ds:List DV) (vs:List V) {env:En} {σ:L2.St},RepL K ρ B H ds vs->SOk K Z env σ ρ B hp H ->
    SOk K Z ((ix.zip ds).foldl (fun en q=>en.set q.1 (.val q.2)) env) ((ix.zip vs).foldl (fun s q=>s.set q.1 (some q.2)) σ) ρ B hp H
  | [],_,_,_,_,_,S=>by simpa using S
  | i::is,[],_,_,_,r,S=>by unfold RepL at r;subst r;simpa using S
  | i::is,d::ds,_,_,_,r,S=>by
    unfold RepL at r
    obtain ⟨v,vs,rfl,r1,r2⟩:=r
    simpa using Qae is ds vs r2 (S.set (i:=i) r1)
theorem Qgh (ix:List Nat) (hN:X.N.Nodup) (hn:Gh X ix elts) (hc:X.calm=true) (ha:∀ es' x p,(assignEach (.Name x p::es') X.env).map (·.2)=assign (.Name x p) X.env::(assignEach es' X.env).map (·.2))
  (hl:(assignEach elts X.env).length=ix.length:=by rfl) (hst:(assignEach elts X.env).findIdx? (·.1)=none:=by rfl):PG X (.Tuple elts kt p2) (tDG X.K (gT ix)):=by
 intro O9 s σ H v u Q I r h
 refine Qg6 hc (KM hN ix elts hn ha) hl hst O9 s σ H v u Q I r ?_
 obtain ⟨Z,env,ρ,B,hp,d,env',hp',S,rd,e,k⟩:=h
 obtain ⟨ds,hp1,e1,e⟩:=Qg e
 obtain ⟨rfl,rfl⟩:=jk e1
 obtain ⟨_,hp2,e2,e⟩:=Qg e
 obtain ⟨hs,rfl⟩:=QK e2
 obtain ⟨rfl,rfl⟩:=Ql e
 obtain ⟨a,xs,rfl,na,qa,la⟩:=rd.tupI
 have hl':xs.length=ix.length:=by rw [<- la.length];exact C5 hs
 exact ⟨a,xs,rfl,qa,hl',hl',k _ ρ B H Gs.refl (Qae ix ds xs la S)⟩
def Xw (f:DEx) (g:DGx):DSx:=fun env=>do let d <- f env;let env' <- g d env;pure (.nx,env')
theorem ya {tg e:Expr} {g:DGx} {pos:Pos} (he:DE X e f) (hg:PG X tg (tDG X.K g)) (hs:swapsWithSole [tg] e pos.line X.env=pure false:=by rfl) (hw:swappedStores [tg] e X.env=pure none:=by rfl)
  (h1:(assignEach [tg] X.env).map (·.2)=[assign tg X.env]:=by rfl):DS X (.Assign [tg] e pos) (Xw f g) :=
 L2.PS.imp (Qhc he hg hs hw h1) fun D σ H ⟨Z,env,ρ,B,hp,fl,env',hp',S,e,k⟩=>by
  obtain ⟨d,hp1,e1,e⟩:=Qg e
  obtain ⟨env1,hp2,e2,e⟩:=Qg e
  obtain ⟨z,rfl⟩:=Ql e;cases z
  exact tD.run S e1 fun v ρ1 B1 H1 g1 S1 r1=>⟨Z,env,ρ1,B1,hp1,d,env',hp2,S1,r1,e2,fun σ' ρ' B' H' g' S'=>k σ' ρ' B' H' ((g1.gs S.wo.rb).trans g') S'⟩
end
theorem gW {lo:Int} {n i:Nat} {d:DV} (h:(Zb lo n)[i]?=some d):i < n/\d=.int (lo+i):=by
 have hi:i < n:=by have:=(Ac.mp h).1;simpa [Zb] using this
 refine ⟨hi,?_⟩
 simp [Zb,hi] at h
 exact h.symm
theorem Jq (lo:Int) (n:Nat):(Zb lo n).length=n:=by simp [Zb]
theorem Vo (i:Int):okP (.int i)=true:=by rfl
def Qab (i j:Int):PyData.eqv (.int i) (.int j)=(i==j):=rfl
theorem Z9 (i j:Int):eqD (.int i) (.int j)=pure (.bl (i==j)):=by
 simp only [eqD,Vo,Bool.and_self,Qx,if_true,C7,toP,Qab]
theorem Xs (i j:Int):neD (.int i) (.int j)=pure (.bl (!(i==j))):=by
 simp only [neD,Vo,Bool.and_self,Qx,if_true,C7,toP,Qab]
theorem Qf6 {α:Type} {xs:List α} {i:Int} (h0:0<=i) (h1:i < xs.length):atI xs i=xs[i.toNat]?:=by
 unfold atI ixN
 rw [C0 h0,C0 h1];rfl
theorem Gk (ns:List Int) {i:Int} (h0:0<=i) (h1:i < ns.length):atI (ns.map DV.int) i=some (.int (ns.getD i.toNat 0)):=by
 have hl:i.toNat < ns.length:=by lia
 rw [Qf6 h0 (by simpa using h1),Bt,Ab hl]
 simp [Cg,hl]
def opt:Option Int->DV
 | none=>.non
 | some i=>.int i
theorem Jt (x y:Int) (h:0 < y):XS (.int x) (.int y)=pure (.int (x % y)):=by simp [XS,qK,QhS,h]
theorem Xm (x y:Int) (h:0 < y) (h':y < 1073741824):YX (.int x) (.int y)=pure (.int (x / y)):=by simp [YX,qK,QhR,h,h']
theorem Qc5 (x y:Int) (h:-(2 ^ 64) < x) (h':x < 2 ^ 64):Qbw (.int x) (.int y)=pure (.int (x * y)):=by
 simp only [Qbw,qK,QhT,C4 (Or.inl (b:=(-(2 ^ 64) < y/\y < 2 ^ 64)) (And.intro h h')),if_true]
def Js (x y:Int):Jd (.int x) (.int y)=pure (.int (x+y)):=rfl
def JP (x y:Int):xQ (.int x) (.int y)=pure (.int (x - y)):=rfl
def JB (x y:Int):gtD (.int x) (.int y)=pure (.bl (decide (y < x))):=rfl
def JC (x y:Int):ltD (.int x) (.int y)=pure (.bl (decide (x < y))):=rfl
def JW (x y:Int):leD (.int x) (.int y)=pure (.bl (decide (x<=y))):=rfl
def JU (x y:Int):geD (.int x) (.int y)=pure (.bl (decide (y<=x))):=rfl
def JJ (x:Int):Qig (.int x)=pure (.int (-x)):=rfl
def q8:Y4 (.int 10) (.int 30)=pure (.int 1000000000000000000000000000000):=rfl
def zO:Y4 (.int 10) (.int 21)=pure (.int 1000000000000000000000):=rfl
def V7:Y4 (.int 10) (.int 9)=pure (.int 1000000000):=rfl
theorem QdR {m:Int} (h0:0<=m) (h1:m<=1000000):Ux m=true:=C4 ⟨by lia,by lia⟩
def Yi {ds:List DV} (h:ds.length<=100000):zh ds=true:=C4 h
theorem ZS {f g:DSx} (h:f env=pure (.nx,env1)):Qr f g env=g env1:=by simp only [Qr,h,C7]
theorem Qft {f g:DSx} (h:f env=pure (.rt d,env1)):Qr f g env=pure (.rt d,env1):=by simp only [Qr,h,C7]
theorem Z2 {i:Nat} {f:DEx} {env:En} (h:f env=pure d):QC i f env=pure (.nx,env.set i (.val d)):=by simp only [QC,h,C7]
theorem QiE {c:DTx} {f g:DSx} (h:c env=pure true):sIf c f g env=f env:=by simp only [sIf,h,C7,if_true]
theorem QiD {c:DTx} {f g:DSx} (h:c env=pure false):sIf c f g env=g env:=by simp only [sIf,h,C7,Az,if_false]
theorem Yf {f:DEx} (h:f env=pure d):QF f env=pure (.rt d,env):=by simp only [QF,h,C7]
theorem YK {n:Nat} {body:DSx} {ds:List DV} (h:body (ds.map .val++List.replicate (n - ds.length) .un)=pure (.rt d,env)):Q9 n body ds=pure d:=by simp only [Q9,h,C7]
theorem Qh0 {f:DEx} {b:Bool} (h:f env=pure (.bl b)):eB f env=pure b:=by simp only [eB,h,C7,asB]
theorem jd {g:DV->DV->M DV} {f f':DEx} (h:f env=pure x) (h':f' env=pure y) (hg:g x y=pure d):Qk g f f' env=pure d:=by simp only [Qk,h,h',C7,hg]
theorem yb {F:Ef} {f f':DEx} (h:f env=pure x) (h':f' env=pure y) (hF:F [x,y]=pure d):QI 2 F (Qc f (Qc f' Qn)) env=pure d:=by simp [QI,Qc,Qn,h,h',Qx,hF]
theorem Qcp {F:Ef} {f f' f'':DEx} (h:f env=pure x) (h':f' env=pure y) (h'':f'' env=pure z) (hF:F [x,y,z]=pure d):QI 3 F (Qc f (Qc f' (Qc f'' Qn))) env=pure d:=by simp [QI,Qc,Qn,h,h',h'',Qx,hF]
section
variable {K:Aa} {ρ:Ee} {B:Ed} {hp:Hs} {H:Hp}
theorem Gr.wnew {p:Addr} (h:H p=none) (kf:K.lookup p=none):Gr K ρ B H (ρ++[p]) (xX B p) (upd H p o) where
 pre:=List.prefix_append _ _
 ban:=fun _ h=>.inl h
 new:=fun a z=>z.elim .inl fun e=>.inr (e▸⟨h,kf⟩)
 rnew:=fun a z=>(Ah.mp z).elim .inl fun q=>.inr (by rw [Aq.mp q];exact h)
 keep:=fun a u _ q=>by rw [Q4 (ZF q h)];exact q
 trk:=(Gr.laid (K:=K) (ρ:=ρ) (B:=B) h).trk
theorem WOk.wnew {p:Addr} (W:WOk K ρ B hp H) (h:H p=none) (kf:K.lookup p=none) (hv:ORep K (ρ++[p]) (xX B p) (upd H p o) p v):WOk K (ρ++[p]) (xX B p) (hp++[v]) (upd H p o) where
 len:=by simp [W.len]
 nd:=List.nodup_append.mpr ⟨W.nd,by simp,fun a ha b hb=>by rw [Aq.mp hb];exact fun z=>W.bt a (W.rb a ha) (z▸h)⟩
 obj:=fun i a u e q=>by
  by_cases hi:i < ρ.length
  ·rw [Ag hi] at e
   rw [Ag (by rw [<- W.len];exact hi)] at q
   exact ORep.gs ((Gr.wnew h kf).gs W.rb) (Q4 (fun z=>W.bt a (W.rb a (Aw e)) (z▸h))) (W.obj i a u e q)
  ·rw [Ap (by lia)] at e
   rw [Ap (by rw [<- W.len];lia)] at q
   have hi0:i - ρ.length=0:=by
    have:=(Ac.mp e).1
    simp at this;lia
   rw [hi0] at e
   rw [<- W.len,hi0] at q
   simp at e q
   subst e q
   exact hv
 rb:=fun a z=>(Ah.mp z).elim (fun q=>.inl (W.rb a q)) fun q=>.inr (Aq.mp q)
 bt:=fun a z q=>by
  have q':=(Gr.laid (K:=K) (ρ:=ρ) (B:=B) h).trk a q
  rcases z with z | rfl
  ·exact W.bt a z q'
  ·rw [Za] at q;cases q
 bk:=fun a z=>z.elim (W.bk a) fun e=>e▸kf
theorem Gr.wset {i:Nat} {a:Addr} (ha:ρ[i]?=some a) (h:H a=some o):Gr K ρ B H ρ B (upd H a o') where
 pre:=Cd
 ban:=fun _ h=>h
 new:=fun _ h=>.inl h
 rnew:=fun _ h=>.inl h
 keep:=fun b u nb q=>by rw [Q4 (show b≠a from fun z=>nb (by rw [z];exact Aw ha))];exact q
 trk:=fun b q=>by
  by_cases e:b=a
  ·subst e;rw [Za] at q;cases q
  ·rw [Q4 e] at q;exact q
theorem WOk.wset {i:Nat} {a:Addr} (W:WOk K ρ B hp H) (ha:ρ[i]?=some a) (h:H a=some o) (hv:ORep K ρ B (upd H a o') a v):WOk K ρ B (hp.set i v) (upd H a o') where
 len:=by simp [W.len]
 nd:=W.nd
 obj:=fun j b u e q=>by
  by_cases hj:j=i
  ·subst hj
   rw [ha] at e;cases e
   have hl:j < hp.length:=by rw [<- W.len];exact (Ac.mp ha).1
   rw [As hl] at q;cases q
   exact hv
  ·rw [Ak (Ne.symm hj)] at q
   have hb:b≠a:=fun z=>hj (by
    subst z
    exact (List.getElem?_inj (Ac.mp e).1 W.nd).mp (e.trans ha.symm))
   exact ORep.gs ((Gr.wset ha h).gs W.rb) (Q4 hb) (W.obj j b u e q)
 rb:=W.rb
 bt:=fun b z q=>W.bt b z ((Gr.wset (K:=K) (B:=B) ha h).trk b q)
 bk:=W.bk
end
section
variable {X:Cx} {e a b c:Expr} {f fa fb fc:DEx} {pos:Pos}
def XX (o:OV):M DV:=fun h=>some (.ref h.length,h++[o])
def ZI (i:Nat):M OV:=fun h=>match h[i]? with
 | some o=>some (o,h)
 | none=>none
def xL (i:Nat) (o:OV):M Unit:=fun h=>some ((),h.set i o)
theorem ZJ {i:Nat} {hp hp':Hs} (h:ZI i hp=some (o,hp')):hp[i]?=some o/\hp=hp':=by
 unfold ZI at h
 cases q:hp[i]? with
 | none=>rw [q] at h;cases h
 | some z=>rw [q] at h;cases h;exact ⟨rfl,rfl⟩
def XR (f:DAx):DEx:=fun env=>do let ds <- f env;Qx (zh ds);XX (.lst ds)
theorem Qad {K:Aa} {H:Hp} {hp:Hs} {Q:VK} (W:WOk K ρ B hp H) (r:RepL K ρ B H ds xs) (k:Fol K ρ B H (.ref hp.length) (hp++[.lst ds]) Q):∀ p,H p=none->kE K (upd H p (.lst xs))->Q (.ref p) (upd H p (.lst xs)):=fun p hp' kf=>by
 have kp:=kf p _ Za
 have g:Gr K ρ B H (ρ++[p]) (xX B p) (upd H p (.lst xs)):=Gr.wnew hp' kp
 refine k _ _ _ _ g (W.wnew hp' kp ⟨xs,Za,RepL.grow W.rb g _ _ r⟩) ?_
 unfold RepV
 exact ⟨p,rfl,by rw [<- W.len];simp⟩
theorem j8 {es:List Expr} {f:DAx} (h:DA X es f):DE X (.List es pos) (XR f) :=
 L2.PE.imp (Qdk h).kf fun σ H Q ⟨Z,env,ρ,B,hp,d,hp',S,e,k⟩=>by
  obtain ⟨xs,hp1,e1,e2⟩:=Qg e
  obtain ⟨_,hp2,e3,e4⟩:=Qg e2
  obtain ⟨hs,rfl⟩:=QK e3
  cases e4
  exact tDA.run S e1 fun vs ρ1 B1 H1 g1 S1 r1=>⟨by rw [<- r1.length];exact zX hs,Qad S1.wo r1 (k.after g1)⟩
theorem RepV.refW {K:Aa} {ρ:Ee} {hp:Hs} {i:Nat} {v:V} (W:WOk K ρ B hp H) (r:RepV K ρ B H (.ref i) v) (h:hp[i]?=some o):∃ a,v=.ref a/\ρ[i]?=some a/\ORep K ρ B H a o:=by
 obtain ⟨a,rfl,e⟩:=r.refI
 exact ⟨a,rfl,e,W.obj i a o e h⟩
def ixW:DV->DV->M DV
  | .ref n,.int i=>do
    match <- ZI n with
    | .lst ds=>match atI ds i with
      | some d=>pure d
      | none=>failure
    | _=>failure
  | x,y=>ixD x y
def Vi:List DV->M DV
  | [.ref n]=>do
    match <- ZI n with
    | .lst ds=>pure (.tup ds)
    | _=>failure
  | xs=>Qhy xs
theorem Vy:J7 X (.type "tuple") (tPn X.K Vi):=by
  intro O9 s σ H xs us Q I r h
  obtain ⟨ρ,B,hp,ds,d,hp',W,rl,e,k⟩:=h
  unfold Vi at e
  split at e
  . rename_i n
    obtain ⟨o,hp1,e1,e2⟩:=Qg e
    obtain ⟨e3,rfl⟩:=ZJ e1
    cases o with
    | dic _=>cases e2
    | ins _ _=>cases e2
    | lst zs =>
      obtain ⟨rfl,rfl⟩:=Ql e2
      obtain ⟨v,rfl,rv⟩:=rl.oneI
      obtain ⟨a,rfl,_,ys,h1,l1⟩:=RepV.refW W rv e3
      exact YV O9 s σ H _ us Q I r ⟨a,ys,rfl,.inl ⟨SqL.of h1,xf W l1 k⟩⟩
  . exact Qel O9 s σ H xs us Q I r ⟨ρ,B,hp,_,d,hp',W,rl,e,k⟩
end
theorem QcG {P:Program} {w:World} {K:Aa} {mg:Ea} {O8:Heap} {x:Str} {stm:Stmt} {g:Addr} {fd:FuncData} {ps:List Str} {k:Nat} (F:Fun K x x stm g fd) (hm:mg x=some (.ref g))
  (hb:∀ (kV doc pm:Value) (an:Option Addr) (cdv ct:Value) (us:List Value),us.length=ps.length->bindArgs (PySem.W.fnOf x x (JA stm) (ZH stm) (Qp stm) .none kV doc pm an cdv ct) ⟨us,[]⟩=pure (ps.zip us)) :
  Has P w K mg O8 x k ps.length (fun _=>failure):=by
 have no:∀ vs H Q E,¬ spD K ps.length (fun _=>failure) vs H Q E:=fun vs H Q E h=>by
  obtain ⟨_,ρ,B,hp,ds,d,hp',_,_,e,_⟩:=h
  cases e
 exact ⟨g,fd,ps,⟨fun vs H Q E h=>absurd h (no vs H Q E),fun A outer s H args us vs Q E _ _ _ _ h=>absurd h (no vs H Q E)⟩,F.binds hb,F.kp,hm⟩
section
variable {f g:DSx} {env env1 env2:En} {c ca cb:DTx} {e fa fb:DEx} {d x y:DV} {r:Fl×En}
end
theorem Qf {α β:Type} {m:M α} {k:α->M β} {x:α} (h:m hp=some (x,hp1)):(m >>= k) hp=k x hp1:=by
 show (m hp).bind (fun p=>k p.1 p.2)=_
 rw [h];rfl
def Qj {f g:DSx} (h:f env hp=some ((.nx,env1),hp1)):Qr f g env hp=g env1 hp1:=Qf h
def QR {i:Nat} {f:DEx} {env:En} (h:f env hp=some (d,hp1)):QC i f env hp=some ((.nx,env.set i (.val d)),hp1):=Qf h
theorem QeD {i:Int} (h:atI ds i=some d):ixD (.tup ds) (.int i)=pure d:=by simp only [ixD,h]
theorem Qcd (ds:List DV) (m:Nat):D.UZ ds none (some (m:Int))=ds.take m:=by
 unfold D.UZ
 rw [HT.sIx_nat]
 show (ds.drop 0).take (min m ds.length - 0)=ds.take m
 simp
theorem vC (ds:List DV) (m:Nat):D.UZ ds (some (m:Int)) none=ds.drop m:=by
 unfold D.UZ
 rw [HT.sIx_nat]
 show (ds.drop (min m ds.length)).take (ds.length - min m ds.length)=ds.drop m
 rcases Nat.le_total m ds.length with h | h
 ·rw [Nat.min_eq_left h,List.take_of_length_le (by simp)]
 ·rw [Nat.min_eq_right h,List.drop_of_length_le h,List.drop_of_length_le (Ae _)]
  simp
theorem Uv (ds:List DV) (m:Nat):slD (.tup ds) none (some (m:Int))=pure (.tup (ds.take m)):=by rw [<- Qcd];rfl
theorem Uu (ds:List DV) (m:Nat):slD (.tup ds) (some (m:Int)) none=pure (.tup (ds.drop m)):=by rw [<- vC];rfl
theorem vL {f g:DEx} {ds:List DV} {m:Nat} (h:f env=pure (.tup ds)) (h':g env=pure (.int (m:Int))):eSl f ZN (ZO g) env=pure (.tup (ds.take m)):=by
 simp only [eSl,ZN,ZO,h,h',C7,asI,Uv]
theorem vK {f g:DEx} {ds:List DV} {m:Nat} (h:f env=pure (.tup ds)) (h':g env=pure (.int (m:Int))):eSl f (ZO g) ZN env=pure (.tup (ds.drop m)):=by
 simp only [eSl,ZN,ZO,h,h',C7,asI,Uu]
end D
namespace L2
open PySem PySem.Spec PyProof.Rows
section
variable {X:Cx}
def Qjc:R2:=fun x y H Q=>∃ a kvs k v,x=.ref a/\y=kV k/\H a=some (.dK kvs)/\Xx kvs k=some v/\Q v H
theorem QeE (hu:X.A.units+1 < cLine):IxR X Qjc:=by
 intro value slice O9 s σ H x y v u Q I rx ry h hs
 obtain ⟨a,kvs,k,z,rfl,rfl,hH,hv,q⟩:=h
 cases rx
 have g:DGet H a (kV k) (some z):=hv▸DGet.k hH
 exact tail_any (vE I g) PySem.F.slot_dict_getitem.lookup (Qba hu I g ry fun w' s' I' rw'=>⟨z,H,I',rw',q⟩) hs
theorem gJ (hu:X.A.units+1 < cLine):OpR X (compareOp .In) (fun x y H Q=>∃ a kvs k,y=.ref a/\x=kV k/\H a=some (.dK kvs)/\Q (.bl (Xx kvs k).isSome) H):=by
 intro O9 s σ H x y v u Q I rx ry h
 obtain ⟨a,kvs,k,rfl,rfl,hH,q⟩:=h
 cases ry
 exact Qi1 hu I (DGet.k hH) rx fun s' I'=>⟨.bl _,H,I',rfl,q⟩
theorem U7 (hu:X.A.units+1 < cLine):OpR X (compareOp .NotIn) (fun x y H Q=>∃ a kvs k,y=.ref a/\x=kV k/\H a=some (.dK kvs)/\Q (.bl (!(Xx kvs k).isSome)) H):=by
 intro O9 s σ H x y v u Q I rx ry h
 obtain ⟨a,kvs,k,rfl,rfl,hH,q⟩:=h
 cases ry
 exact Qeo hu I (DGet.k hH) rx fun s' I'=>⟨.bl _,H,I',rfl,q⟩
def QiA:V->V->V->Hp->(Hp->Prop)->Prop:=fun o i v H Q=>∃ a kvs k,o=.ref a/\i=kV k/\H a=some (.dK kvs)/\kvs.length < sizeLine/\Q (upd H a (.dK (zi kvs k v)))
theorem QdJ (hu:X.A.units+1 < cLine):Qec X QiA:=fun O9 s σ H o i v ov iv u Q I ro ri rv h=>by
 obtain ⟨a,kvs,k,rfl,rfl,hH,hl,q⟩:=h
 cases ro
 exact Qbb hu I (DPut.k hH hl) ri rv fun s' I'=>⟨_,I',q⟩
def Qiz:V->List V->Hp->VK->Prop:=fun x vs H Q=>∃ a kvs k,x=.ref a/\H a=some (.dK kvs)/\((vs=[kV k]/\∃ v,Xx kvs k=some v/\Q v (upd H a (.dK (j9 kvs k)))) ∨
 ∃ z,vs=[kV k,z]/\(∀ v,Xx kvs k=some v->Q v (upd H a (.dK (j9 kvs k))))/\(Xx kvs k=none->Q z H))
theorem GO:MtR X "dict.pop" Qiz:=by
 intro O9 s σ H x vs v us Q I rx rv h
 obtain ⟨a,kvs,k,rfl,hH,h⟩:=h
 cases rx
 rcases h with ⟨rfl,w,hw,q⟩ | ⟨z,rfl,q1,q2⟩
 ·obtain ⟨u,rfl,ru⟩:=UH rv
  exact QfP I hH ru hw (.inl rfl) fun w' s' I' rw'=>⟨w,_,I',rw',q⟩
 ·obtain ⟨u,u2,rfl,ru,ru2⟩:=Gb rv
  cases l:Xx kvs k with
  | some w=>exact QfP I hH ru l (.inr ⟨u2,rfl⟩) fun w' s' I' rw'=>⟨w,_,I',rw',q1 w l⟩
  | none=>exact Qge I hH ru l fun s' I'=>⟨z,H,I',ru2,q2 l⟩
def Qiy:V->List V->Hp->VK->Prop:=fun x vs H Q=>∃ a kvs k,x=.ref a/\H a=some (.dK kvs)/\((vs=[kV k]/\Q ((Xx kvs k).getD .non) H)∨∃ z,vs=[kV k,z]/\Q ((Xx kvs k).getD z) H)
theorem Qat (hu:X.A.units+1 < cLine):MtR X "dict.get" Qiy:=by
 intro O9 s σ H x vs v us Q I rx rv h
 obtain ⟨a,kvs,k,rfl,hH,h⟩:=h
 cases rx
 rcases h with ⟨rfl,q⟩ | ⟨z,rfl,q⟩
 ·obtain ⟨u,rfl,ru⟩:=UH rv
  exact Qgc hu I (DGet.k hH) ru fun w' s' I' rw'=>⟨_,H,I',rw',q⟩
 ·obtain ⟨u,u2,rfl,ru,ru2⟩:=Gb rv
  exact Qgd hu I (DGet.k hH) ru ru2 fun w' s' I' rw'=>⟨_,H,I',rw',q⟩
def Qia (n:Nat) (i:Int):Nat:=if i < 0 then (i+(n:Int)).toNat else min i.toNat n
end
end L2
namespace D
open PySem PySem.Spec PyProof.Rows L2
def zq:DV->Option Key
 | .int i=>some (.inl i)
 | .str x=>some (.inr x)
 | _=>none
def Z3 (kvs:List (Key×DV)) (k:Key):Option DV:=(kvs.find? fun kv=>decide (kv.1=k)).map (·.2)
def Y5 (kvs:List (Key×DV)) (k:Key) (d:DV):List (Key×DV) :=
 if (kvs.any fun kv=>decide (kv.1=k))=true then kvs.map (fun kv=>if kv.1=k then (kv.1,d) else kv) else kvs++[(k,d)]
def J1 (kvs:List (Key×DV)) (k:Key):List (Key×DV):=kvs.filter fun kv=>decide (kv.1≠k)
section
variable {K:Aa} {ρ:Ee} {B:Ed} {H:Hp} {hp:Hs}
theorem XQ {v:V} (h:zq d=some k) (r:RepV K ρ B H d v):v=kV k:=by
 cases d<;>simp [zq] at h<;>subst h
 ·exact r.intI
 ·exact r.strI
abbrev RepK (K:Aa) (ρ:Ee) (B:Ed) (H:Hp):List (Key×DV)->List (Key×V)->Prop:=Paired fun p q=>p.1=q.1/\RepV K ρ B H p.2 q.2
theorem QaF:∀ {kvs:List (Key×DV)} {xs:List (Key×V)},xs.map (·.1)=kvs.map (·.1)->RepL K ρ B H (kvs.map (·.2)) (xs.map (·.2))->RepK K ρ B H kvs xs
  | [],[],_,_=>.nil
  | [],_::_,e,_=>by simp at e
  | _::_,[],e,_=>by simp at e
  | p::kvs,q::xs,e,r=>by
    simp only [Ba,List.cons.injEq] at e
    simp only [Ba] at r
    unfold RepL at r
    obtain ⟨x,t,e2,h1,h2⟩:=r
    simp only [List.cons.injEq] at e2
    obtain ⟨rfl,rfl⟩:=e2
    exact .cons ⟨e.1.symm,h1⟩ (QaF e.2 h2)
theorem RepK.to {kvs:List (Key×DV)} {xs:List (Key×V)} (r:RepK K ρ B H kvs xs):xs.map (·.1)=kvs.map (·.1)/\RepL K ρ B H (kvs.map (·.2)) (xs.map (·.2)):=by
 induction r with
 | nil=>exact ⟨rfl,RepL.nil⟩
 | cons h _ ih=>exact ⟨by simp [ih.1,h.1],by simpa using RepL.cons h.2 ih.2⟩
theorem RepK.val (r:RepK K ρ B H kvs xs) (k:Key):(Z3 kvs k=none/\Xx xs k=none)∨∃ d v,Z3 kvs k=some d/\Xx xs k=some v/\RepV K ρ B H d v:=by
  induction r with
  | nil=>exact .inl ⟨rfl,rfl⟩
  | @cons p q _ _ h _ ih =>
    by_cases e:p.1=k
    . exact .inr ⟨p.2,q.2,by simp [Z3,Bz,e],by simp [Xx,Bz,h.1▸e],h.2⟩
    . have e':¬ q.1=k:=h.1▸e
      simpa [Z3,Xx,Bz,e,e'] using ih
theorem RepK.any {kvs:List (Key×DV)} {xs:List (Key×V)} (r:RepK K ρ B H kvs xs) (k:Key):(kvs.any fun kv=>decide (kv.1=k))=xs.any fun kv=>decide (kv.1=k):=by
 induction r with
 | nil=>rfl
 | cons h _ ih=>simp only [Ci,ih,h.1]
theorem RepK.repl {kvs:List (Key×DV)} {xs:List (Key×V)} (r:RepK K ρ B H kvs xs) (k:Key) (rd:RepV K ρ B H d v):RepK K ρ B H (kvs.map fun kv=>if kv.1=k then (kv.1,d) else kv) (xs.map fun kv=>if kv.1=k then (kv.1,v) else kv):=by
  induction r with
  | nil=>exact .nil
  | @cons p q _ _ h _ ih =>
    refine .cons ?_ ih
    dsimp only
    by_cases e:p.1=k
    . rw [C0 e,C0 (h.1▸e)];exact ⟨h.1,rd⟩
    . rw [Cz e,Cz (h.1▸e)];exact h
theorem RepK.snoc {kvs:List (Key×DV)} {xs:List (Key×V)} (r:RepK K ρ B H kvs xs) (rd:RepV K ρ B H d v):RepK K ρ B H (kvs++[(k,d)]) (xs++[(k,v)]):=by
 induction r with
 | nil=>exact .cons ⟨rfl,rd⟩ .nil
 | cons h _ ih=>exact .cons h ih
theorem RepK.put (r:RepK K ρ B H kvs xs) (k:Key) (rd:RepV K ρ B H d v):RepK K ρ B H (Y5 kvs k d) (zi xs k v):=by
 unfold Y5 zi
 rw [r.any k]
 split
 ·exact r.repl k rd
 ·exact r.snoc rd
theorem RepK.drop (r:RepK K ρ B H kvs xs) (k:Key):RepK K ρ B H (J1 kvs k) (j9 xs k):=by
  induction r with
  | nil=>exact .nil
  | @cons p q _ _ h _ ih =>
    unfold J1 j9 at ih ⊢
    by_cases e:p.1=k
    . have e':q.1=k:=h.1▸e
      simpa [e,e'] using ih
    . have e':¬ q.1=k:=h.1▸e
      rw [List.filter_cons_of_pos (by simpa using e),List.filter_cons_of_pos (by simpa using e')];exact .cons h ih
def RepK.len {kvs:List (Key×DV)} {xs:List (Key×V)} (r:RepK K ρ B H kvs xs):kvs.length=xs.length:=Paired.length r
def RepK.gs (g:Gs K ρ B H ρ' B' H') (r:RepK K ρ B H kvs xs):RepK K ρ' B' H' kvs xs:=L2.Paired.mapP r fun _ _ h=>⟨h.1,RepV.gs g _ _ h.2⟩
theorem ORep.dic {a:Addr} (h:ORep K ρ B H a (.dic kvs)):∃ xs,H a=some (.dK xs)/\RepK K ρ B H kvs xs:=by
 obtain ⟨xs,e,ek,rl⟩:=h
 exact ⟨xs,e,QaF ek rl⟩
def RepK.orep {a:Addr} (r:RepK K ρ B H kvs xs) (e:H a=some (.dK xs)):ORep K ρ B H a (.dic kvs):=⟨xs,e,r.to.1,r.to.2⟩
theorem UN {n:Nat} {a:Addr} (W:WOk K ρ B hp H) (i:ρ[n]?=some a) (e:H a=some (.dK xs)) (r:RepK K ρ B H kvs' xs'):Gr K ρ B H ρ B (upd H a (.dK xs'))/\WOk K ρ B (hp.set n (.dic kvs')) (upd H a (.dK xs')):=by
 have g:Gr K ρ B H ρ B (upd H a (.dK xs')):=Gr.wset i e
 exact ⟨g,W.wset (o':=.dK xs') (v:=.dic kvs') i e ((r.gs (g.gs W.rb)).orep Za)⟩
theorem UO {n:Nat} {a:Addr} (W:WOk K ρ B hp H) (i:ρ[n]?=some a) (e:H a=some o) (r:RepL K ρ B H ds' xs'):Gr K ρ B H ρ B (upd H a (.lst xs'))/\WOk K ρ B (hp.set n (.lst ds')) (upd H a (.lst xs')):=by
 have g:Gr K ρ B H ρ B (upd H a (.lst xs')):=Gr.wset i e
 exact ⟨g,W.wset (o':=.lst xs') (v:=.lst ds') i e ⟨xs',Za,RepL.grow W.rb g _ _ r⟩⟩
end
section
variable {X:Cx} {e a b c:Expr} {f fa fb fc:DEx} {pos:Pos}
def zN (o:Option DV):M DV:=match o with
 | some d=>pure d
 | none=>failure
theorem jg {o:Option DV} {hp hp':Hs} (h:zN o hp=some (d,hp')):o=some d/\hp=hp':=by
 cases o with
 | none=>cases h
 | some z=>obtain ⟨rfl,rfl⟩:=Ql h;exact ⟨rfl,rfl⟩
def Xq (d:DV):M Key:=match zq d with
 | some k=>pure k
 | none=>failure
theorem Xb {hp hp':Hs} (h:Xq d hp=some (k,hp')):zq d=some k/\hp=hp':=by
 unfold Xq at h
 cases q:zq d with
 | none=>rw [q] at h;cases h
 | some z=>rw [q] at h;obtain ⟨rfl,rfl⟩:=Ql h;exact ⟨rfl,rfl⟩
def ixG:DV->DV->M DV
  | .ref n,y=>do
    match <- ZI n with
    | .lst ds=>do let i <- asI y;zN (atI ds i)
    | .dic kvs=>do let k <- Xq y;zN (Z3 kvs k)
    | _=>failure
  | x,y=>ixD x y
theorem Qio (hu:X.A.units+1 < cLine):IxR X (tP2 X.K ixG):=by
  intro value slice O9 s σ H x y v u Q I rx ry h hsub
  obtain ⟨ρ,B,hp,dx,dy,d,hp',W,r1,r2,e,k⟩:=h
  unfold ixG at e
  split at e
  . rename_i n
    obtain ⟨o,hp1,e1,e2⟩:=Qg e
    obtain ⟨e3,rfl⟩:=ZJ e1
    obtain ⟨a,rfl,i1,ro⟩:=RepV.refW W r1 e3
    cases o with
    | ins _ _=>cases e2
    | dic kvs =>
      obtain ⟨ky,hp2,e4,e5⟩:=Qg e2
      obtain ⟨hk,rfl⟩:=Xb e4
      obtain ⟨hv,rfl⟩:=jg e5
      obtain ⟨xs,h1,rk⟩:=ro.dic
      rcases rk.val ky with ⟨z,_⟩ | ⟨d',v',z,zv,rz⟩
      . rw [hv] at z;cases z
      . rw [hv] at z;cases z
        exact QeE hu value slice O9 s σ H _ _ v u Q I rx ry ⟨a,xs,ky,v',rfl,XQ hk r2,h1,zv,k _ ρ B H Gr.refl W rz⟩ hsub
    | lst ds =>
      obtain ⟨i,hp2,e4,e5⟩:=Qg e2
      obtain ⟨rfl,rfl⟩:=Vs e4
      obtain ⟨hv,rfl⟩:=jg e5
      obtain ⟨xs,h1,l1⟩:=ro
      obtain ⟨z,hz,rz⟩:=Gm l1 hv
      exact Qap value slice O9 s σ H _ _ v u Q I rx ry ⟨a,xs,i,z,rfl,r2.intI,SqL.of h1,hz,k _ ρ B H Gr.refl W rz⟩ hsub
  . exact Qin value slice O9 s σ H x y v u Q I rx ry ⟨ρ,B,hp,_,_,d,hp',W,r1,r2,e,k⟩ hsub
theorem QA (hu:X.A.units+1 < cLine) (ha:DE X a fa) (hb:DE X b fb) (hs:Gi b:=by intro _ _;rfl):DE X (.Subscript a b pos) (Qk ixG fa fb):=L2.PE.imp (QfX (Qio hu) ha hb hs) fun _ _ _ h=>zt h
def Jy:List DV->M DV
  | [.ref n]=>do
    match <- ZI n with
    | .lst ds=>pure (.int ds.length)
    | .dic kvs=>pure (.int kvs.length)
    | _=>failure
  | xs=>qN xs
theorem Xl:J7 X (.builtin "len") (tPn X.K Jy):=by
  intro O9 s σ H xs us Q I r h
  obtain ⟨ρ,B,hp,ds,d,hp',W,rl,e,k⟩:=h
  unfold Jy at e
  split at e
  . rename_i n
    obtain ⟨o,hp1,e1,e2⟩:=Qg e
    obtain ⟨e3,rfl⟩:=ZJ e1
    obtain ⟨v,rfl,rv⟩:=rl.oneI
    obtain ⟨a,rfl,_,ro⟩:=RepV.refW W rv e3
    cases o with
    | ins _ _=>cases e2
    | lst zs =>
      obtain ⟨rfl,rfl⟩:=Ql e2
      obtain ⟨ys,h1,l1⟩:=ro
      exact qE O9 s σ H _ us Q I r ⟨a,ys,rfl,.inl (SqL.of h1),by rw [<- l1.length];exact k _ ρ B H Gr.refl W JE⟩
    | dic kvs =>
      obtain ⟨rfl,rfl⟩:=Ql e2
      obtain ⟨ys,h1,l1⟩:=ro.dic
      exact Qa4 O9 s σ H _ us Q I r ⟨a,ys,rfl,h1,by rw [<- l1.len];exact k _ ρ B H Gr.refl W JE⟩
  . exact kO O9 s σ H xs us Q I r ⟨ρ,B,hp,_,d,hp',W,rl,e,k⟩
def QeN (g:DV->M DV):List DV->M DV
 | [d]=>g d
 | _=>failure
theorem KL {g:DV->M DV} {ds:List DV} (h:QeN g ds hp=some (d,hp')):∃ x,ds=[x]/\g x hp=some (d,hp'):=by
 unfold QeN at h
 split at h
 ·exact ⟨_,rfl,h⟩
 ·cases h
end
def drf:Nat->Hs->DV->Option DV
  | 0,_,_=>none
  | n+1,hp,d=>match d with
    | .ref i=>match hp[i]? with
      | some (.lst ds)=>(ds.mapM (drf n hp)).map .lst
      | _=>none
    | .tup ds=>(ds.mapM (drf n hp)).map .tup
    | .lst ds=>(ds.mapM (drf n hp)).map .lst
    | d=>some d
theorem VW {α β:Type} {f:α->Option β} {x:α} {xs:List α} {ys:List β} (h:(x::xs).mapM f=some ys):∃ y zs,f x=some y/\xs.mapM f=some zs/\ys=y::zs:=by
  rw [List.mapM_cons] at h
  cases q:f x with
  | none=>rw [q] at h;cases h
  | some y =>
    cases q2:xs.mapM f with
    | none=>rw [q,q2] at h;cases h
    | some zs=>rw [q,q2] at h;exact ⟨y,zs,rfl,rfl,(Aj h).symm⟩
section
variable {X:Cx} {O9:C9} {σ:St} {H:Hp} {s:Shared} {ρ:Ee} {B:Ed} {hp:Hs}
theorem qk (I:Inv X O9 σ H s) (W:WOk X.K ρ B hp H):∀ (n:Nat) (d d':DV) (v:V) (u:Value),drf n hp d=some d'->RepV X.K ρ B H d v->RelV v u->∃ as,Reads s.heap u (toP d') as
  | 0,_,_,_,_,h,_,_=>by cases h
  | n+1,d,d',v,u,h,r,ru=>by
    have all:∀ (ds ds':List DV) (xs:List V) (us:List Value),ds.mapM (drf n hp)=some ds'->RepL X.K ρ B H ds xs->Vals xs us->∃ as,ReadsAll s.heap us (toPs ds') as:=by
      intro ds
      induction ds with
      | nil =>
        intro ds' xs us h r ru
        rw [List.mapM_nil] at h;cases h
        unfold RepL at r;subst r;cases ru
        exact ⟨[],by unfold toPs;exact .nil⟩
      | cons x ds ih =>
        intro ds' xs us h r ru
        obtain ⟨y,zs,h1,h2,rfl⟩:=VW h
        unfold RepL at r
        obtain ⟨z,t,rfl,r1,r2⟩:=r
        cases ru with
        | cons q1 q2 =>
          obtain ⟨as,a1⟩:=qk I W n x y z _ h1 r1 q1
          obtain ⟨bs,a2⟩:=ih zs t _ h2 r2 q2
          exact ⟨_,by unfold toPs;exact .cons a1 a2⟩
    have lst:∀ (ds ds':List DV) (a:Addr) (xs:List V),ds.mapM (drf n hp)=some ds'->SqL X.K H a xs->RepL X.K ρ B H ds xs->∃ as,Reads s.heap (.ref a) (toP (.lst ds')) as:=by
      intro ds ds' a xs h sq rl
      obtain ⟨its,rv,⟨o,k,e,hc,_,hd⟩,_⟩:=I.list sq
      obtain ⟨as,q⟩:=all ds ds' xs its h rl rv
      exact ⟨_,by unfold toP;exact reads_list_at e hc hd (by simpa using q)⟩
    unfold drf at h
    cases d with
    | non=>cases h;obtain rfl:=r.nonI;cases ru;exact ⟨[],by unfold toP;exact .none⟩
    | bl b=>cases h;obtain rfl:=r.blI;cases ru;exact ⟨[],by unfold toP;exact .bool b⟩
    | int i=>cases h;obtain rfl:=r.intI;obtain ⟨t,rfl⟩:=ru;exact ⟨[],by unfold toP;exact .int i t⟩
    | str x=>cases h;obtain rfl:=r.strI;obtain ⟨t,rfl⟩:=ru;exact ⟨[],by unfold toP;exact .str x t⟩
    | tup ds =>
      obtain ⟨ds',h1,rfl⟩:=Cb.mp h
      obtain ⟨a,xs,rfl,_,sq,rl⟩:=r.tupI
      cases ru
      obtain ⟨its,rv,⟨o,e,hc,k,hd⟩,_⟩:=I.tuple sq
      obtain ⟨as,q⟩:=all ds ds' xs its h1 rl rv
      exact ⟨_,by unfold toP;exact reads_tuple_at e hc hd (by simpa using q)⟩
    | lst ds =>
      obtain ⟨ds',h1,rfl⟩:=Cb.mp h
      obtain ⟨a,xs,rfl,_,sq,rl⟩:=r.lstI
      cases ru
      exact lst ds ds' a xs h1 sq rl
    | ref i =>
      cases q:hp[i]? with
      | none=>simp only [q] at h;cases h
      | some o =>
        simp only [q] at h
        cases o with
        | dic _=>cases h
        | ins _ _=>cases h
        | lst ds =>
          obtain ⟨ds',h1,rfl⟩:=Cb.mp h
          obtain ⟨a,rfl,_,xs,h2,l⟩:=RepV.refW W r q
          cases ru
          exact lst ds ds' a xs h1 (SqL.of h2) l
end
def Qbc (d:DV):M DV:=fun hp=>(drf 40 hp d).map fun x=>(x,hp)
theorem Kv {hp hp':Hs} (h:Qbc d hp=some (d',hp')):drf 40 hp d=some d'/\hp=hp':=by
 obtain ⟨x,h1,h2⟩:=Cb.mp h
 cases h2;exact ⟨h1,rfl⟩
def U0 (x y:DV):M Bool:=do
 let x' <- Qbc x
 let y' <- Qbc y
 Qx (SeqAt.shaped (toP x')&&SeqAt.shaped (toP y'))
 pure (PyData.eqv (toP x') (toP y'))
def eqG:DV->DV->M DV:=fun x y=>do let b <- U0 x y;pure (.bl b)
def neG:DV->DV->M DV:=fun x y=>do let b <- U0 x y;pure (.bl (!b))
section
variable {X:Cx} {e a b c:Expr} {f fa fb fc:DEx} {ca cb:DTx} {pos:Pos}
theorem Ky {k:Bool} {hp hp':Hs} (h:U0 x y hp=some (k,hp')):∃ x' y',drf 40 hp x=some x'/\drf 40 hp y=some y'/\SeqAt.shaped (toP x')=true/\SeqAt.shaped (toP y')=true/\k=PyData.eqv (toP x') (toP y')/\hp=hp':=by
 obtain ⟨x',hp1,e1,h⟩:=Qg h
 obtain ⟨y',hp2,e2,h⟩:=Qg h
 obtain ⟨_,hp3,e3,h⟩:=Qg h
 obtain ⟨q1,rfl⟩:=Kv e1
 obtain ⟨q2,rfl⟩:=Kv e2
 obtain ⟨hs,rfl⟩:=QK e3
 obtain ⟨rfl,rfl⟩:=Ql h
 rw [Bb] at hs
 exact ⟨x',y',q1,q2,hs.1,hs.2,rfl,rfl⟩
theorem qZ (hu:X.A.units+64 < cLine):P2 X (compareOp .Eq) eqG:=by
 intro O9 s σ H x y v u Q I rx ry h
 obtain ⟨ρ,B,hp,dx,dy,d,hp',W,r1,r2,e,k⟩:=h
 obtain ⟨b,hp1,e1,e2⟩:=Qg e
 obtain ⟨rfl,rfl⟩:=Ql e2
 obtain ⟨x',y',q1,q2,s1,s2,rfl,rfl⟩:=Ky e1
 obtain ⟨as,a1⟩:=qk I W _ _ _ _ _ q1 r1 rx
 obtain ⟨bs,a2⟩:=qk I W _ _ _ _ _ q2 r2 ry
 exact eq_dataH a1 a2 s1 s2 hu ⟨.bl _,H,I,rfl,k _ ρ B H Gr.refl W Jb⟩
theorem Qaw (hu:X.A.units+64 < cLine):P2 X (compareOp .NotEq) neG:=by
 intro O9 s σ H x y v u Q I rx ry h
 obtain ⟨ρ,B,hp,dx,dy,d,hp',W,r1,r2,e,k⟩:=h
 obtain ⟨b,hp1,e1,e2⟩:=Qg e
 obtain ⟨rfl,rfl⟩:=Ql e2
 obtain ⟨x',y',q1,q2,s1,s2,rfl,rfl⟩:=Ky e1
 obtain ⟨as,a1⟩:=qk I W _ _ _ _ _ q1 r1 rx
 obtain ⟨bs,a2⟩:=qk I W _ _ _ _ _ q2 r2 ry
 exact ne_dataH a1 a2 s1 s2 hu ⟨.bl _,H,I,rfl,k _ ρ B H Gr.refl W Jb⟩
def Xa:DV->Bool
 | .non=>true
 | .bl _=>true
 | .int _=>true
 | .str _=>true
 | _=>false
def eqF:DV->DV->Bool
 | .non,.non=>true
 | .bl a,.bl b=>a==b
 | .bl a,.int b=>(if a then 1 else 0)==b
 | .int a,.bl b=>a==(if b then 1 else 0)
 | .int a,.int b=>a==b
 | .str a,.str b=>a==b
 | _,_=>false
def vOf:DV->V
 | .non=>.non
 | .bl b=>.bl b
 | .int i=>.int i
 | .str x=>.str x
 | _=>.non
theorem QaQ {K:Aa} {v:V} (h:Xa d=true) (r:RepV K ρ B H d v):v=vOf d:=by
 cases d<;>simp [Xa] at h
 ·exact r.nonI
 ·exact r.blI
 ·exact r.intI
 ·exact r.strI
theorem vN (h:Xa d=true):YG (vOf d)=true:=by cases d<;>simp [Xa] at h<;>rfl
theorem Qet {d e:DV} (h:Xa d=true) (h':Xa e=true):eqV (vOf d) (vOf e)=eqF d e:=by cases d<;>simp [Xa] at h<;>cases e<;>simp [Xa] at h'<;>rfl
theorem QaP {K:Aa}:∀ {ds:List DV} {xs:List V},ds.all Xa=true->RepL K ρ B H ds xs->xs=ds.map vOf
  | [],_,_,r=>by unfold RepL at r;exact r
  | d::ds,_,h,r=>by
    unfold RepL at r
    obtain ⟨x,t,rfl,r1,r2⟩:=r
    rw [Cs,Bb] at h
    rw [QaQ h.1 r1,QaP h.2 r2];rfl
def inB (d:DV) (ds:List DV):Bool:=ds.any fun y=>eqF y d
theorem Qaj {d:DV} (h:Xa d=true):∀ {ds:List DV},ds.all Xa=true->inV (vOf d) (ds.map vOf)=inB d ds
  | [],_=>rfl
  | x::ds,h'=>by
    rw [Cs,Bb] at h'
    have ih:=Qaj h h'.2
    unfold inV inB at ih ⊢
    rw [Ba,Ci,Ci,ih,Qet h'.1 h]
theorem vj:∀ {ds:List DV},ds.all Xa=true->(ds.map vOf).all YG=true
  | [],_=>rfl
  | x::ds,h=>by
    rw [Cs,Bb] at h
    rw [Ba,Cs,vN h.1,vj h.2];rfl
def QeH (x:DV):DV->M Bool
  | .ref n=>do
    match <- ZI n with
    | .lst ds=>do Qx (Xa x&&ds.all Xa);pure (inB x ds)
    | .dic kvs=>do let k <- Xq x;pure (Z3 kvs k).isSome
    | _=>failure
  | .tup ds=>do Qx (Xa x&&ds.all Xa);pure (inB x ds)
  | .lst ds=>do Qx (Xa x&&ds.all Xa);pure (inB x ds)
  | _=>failure
def inG:DV->DV->M DV:=fun x y=>do let b <- QeH x y;pure (.bl b)
def gH:DV->DV->M DV:=fun x y=>do let b <- QeH x y;pure (.bl (!b))
theorem VX {k:Bool} {hp hp':Hs} {K:Aa} (W:WOk K ρ B hp H) (r1:RepV K ρ B H x vx) (r2:RepV K ρ B H y vy) (h:QeH x y hp=some (k,hp')):hp=hp' /\
    ((∃ p xs,vy=.ref p/\(SqL K H p xs∨SqT K H p xs)/\YG vx=true/\xs.all YG=true/\k=inV vx xs)∨∃ a kvs ky,vy=.ref a/\vx=kV ky/\H a=some (.dK kvs)/\k=(Xx kvs ky).isSome):=by
  have seq:∀ (ds:List DV) (xs:List V) (p:Addr),(do Qx (Xa x&&ds.all Xa);pure (inB x ds):M Bool) hp=some (k,hp')->RepL K ρ B H ds xs->(SqL K H p xs∨SqT K H p xs)->vy=.ref p->hp=hp'/\(∃ p xs,vy=.ref p/\(SqL K H p xs∨SqT K H p xs)/\YG vx=true/\xs.all YG=true/\k=inV vx xs):=by
    intro ds xs p h rl sq ev
    obtain ⟨_,hp1,e1,e2⟩:=Qg h
    obtain ⟨hs,rfl⟩:=QK e1
    obtain ⟨rfl,rfl⟩:=Ql e2
    rw [Bb] at hs
    have ex:=QaP hs.2 rl
    have e0:=QaQ hs.1 r1
    subst ex e0
    exact ⟨rfl,p,_,ev,sq,vN hs.1,vj hs.2,(Qaj hs.1 hs.2).symm⟩
  cases y with
  | tup ds =>
    obtain ⟨a,xs,rfl,_,sq,rl⟩:=r2.tupI
    exact (seq ds xs a h rl (.inr sq) rfl).imp id .inl
  | lst ds =>
    obtain ⟨a,xs,rfl,_,sq,rl⟩:=r2.lstI
    exact (seq ds xs a h rl (.inl sq) rfl).imp id .inl
  | ref n =>
    obtain ⟨o,hp1,e1,e2⟩:=Qg h
    obtain ⟨e3,rfl⟩:=ZJ e1
    obtain ⟨a,rfl,_,ro⟩:=RepV.refW W r2 e3
    cases o with
    | lst ds =>
      obtain ⟨xs,h1,rl⟩:=ro
      exact (seq ds xs a e2 rl (.inl (SqL.of h1)) rfl).imp id .inl
    | dic kvs =>
      obtain ⟨ky,hp2,e4,e5⟩:=Qg e2
      obtain ⟨hk,rfl⟩:=Xb e4
      obtain ⟨rfl,rfl⟩:=Ql e5
      obtain ⟨xs,h1,rk⟩:=ro.dic
      refine ⟨rfl,.inr ⟨a,xs,ky,rfl,XQ hk r1,h1,?_⟩⟩
      rcases rk.val ky with ⟨z1,z2⟩ | ⟨_,_,z1,z2,_⟩<;>rw [z1,z2]<;>rfl
    | ins _ _=>cases e2
  | non=>cases h
  | bl _=>cases h
  | int _=>cases h
  | str _=>cases h
theorem QfV (hu:X.A.units+1 < cLine):P2 X (compareOp .In) inG:=by
 intro O9 s σ H x y v u Q I rx ry h
 obtain ⟨ρ,B,hp,dx,dy,d,hp',W,r1,r2,e,k⟩:=h
 obtain ⟨b,hp1,e1,e2⟩:=Qg e
 obtain ⟨rfl,rfl⟩:=Ql e2
 obtain ⟨rfl,h⟩:=VX W r1 r2 e1
 have fin:=k _ ρ B H Gr.refl W (Jb (b:=b))
 rcases h with ⟨p,xs,rfl,sq,f1,f2,rfl⟩ | ⟨a,kvs,ky,rfl,rfl,h1,rfl⟩
 ·exact Qby O9 s σ H _ _ v u Q I rx ry ⟨p,xs,rfl,sq,f1,f2,fin⟩
 ·exact gJ hu O9 s σ H _ _ v u Q I rx ry ⟨a,kvs,ky,rfl,rfl,h1,fin⟩
theorem QgQ (hu:X.A.units+1 < cLine):P2 X (compareOp .NotIn) gH:=by
 intro O9 s σ H x y v u Q I rx ry h
 obtain ⟨ρ,B,hp,dx,dy,d,hp',W,r1,r2,e,k⟩:=h
 obtain ⟨b,hp1,e1,e2⟩:=Qg e
 obtain ⟨rfl,rfl⟩:=Ql e2
 obtain ⟨rfl,h⟩:=VX W r1 r2 e1
 have fin:=k _ ρ B H Gr.refl W (Jb (b:=!b))
 rcases h with ⟨p,xs,rfl,sq,f1,f2,rfl⟩ | ⟨a,kvs,ky,rfl,rfl,h1,rfl⟩
 ·exact GP O9 s σ H _ _ v u Q I rx ry ⟨p,xs,rfl,sq,f1,f2,fin⟩
 ·exact U7 hu O9 s σ H _ _ v u Q I rx ry ⟨a,kvs,ky,rfl,rfl,h1,fin⟩
def yq (o i d:DV):M Unit:=match o with
  | .ref n=>do
    match <- ZI n with
    | .lst ds=>do
      let k <- asI i
      match ixN ds.length k with
      | some j=>xL n (.lst (ds.set j d))
      | none=>failure
    | .dic kvs=>do
      let k <- Xq i
      Qx (decide (kvs.length < lim))
      xL n (.dic (Y5 kvs k d))
    | _=>failure
  | _=>failure
def tP3 (K:Aa) (g:DV->DV->DV->M Unit):Qed:=fun o i v H Q=>∃ ρ B hp dO di dv hp',WOk K ρ B hp H/\RepV K ρ B H dO o/\RepV K ρ B H di i/\RepV K ρ B H dv v/\g dO di dv hp=some ((),hp')/\∀ ρ' B' H',Gr K ρ B H ρ' B' H'->WOk K ρ' B' hp' H'->Q H'
theorem RepL.set {K:Aa} (r:RepV K ρ B H d x):∀ {ds:List DV} {xs:List V} (i:Nat),RepL K ρ B H ds xs->RepL K ρ B H (ds.set i d) (xs.set i x)
  | [],_,i,h=>by unfold RepL at h;subst h;exact RepL.nil
  | _::ds,_,0,h=>by
    unfold RepL at h
    obtain ⟨y,t,rfl,_,h2⟩:=h
    exact RepL.cons r h2
  | _::ds,_,i+1,h=>by
    unfold RepL at h
    obtain ⟨y,t,rfl,h1,h2⟩:=h
    exact RepL.cons h1 (RepL.set r i h2)
theorem Qip (hu:X.A.units+1 < cLine):Qec X (tP3 X.K yq):=by
  intro O9 s σ H o i v ov iv u Q I ro ri rv h
  obtain ⟨ρ,B,hp,dO,di,dv,hp',W,r1,r2,r3,e,k⟩:=h
  cases dO with
  | ref n =>
    obtain ⟨ob,hp1,e1,e2⟩:=Qg e
    obtain ⟨e3,rfl⟩:=ZJ e1
    obtain ⟨a,rfl,i1,rob⟩:=RepV.refW W r1 e3
    cases ob with
    | ins _ _=>cases e2
    | lst ds =>
      obtain ⟨j,hp2,e4,e5⟩:=Qg e2
      obtain ⟨rfl,rfl⟩:=Vs e4
      obtain ⟨xs,h1,l1⟩:=rob
      cases q:ixN ds.length j with
      | none=>simp only [q] at e5;cases e5
      | some m =>
        simp only [q] at e5
        cases e5
        obtain ⟨g,W'⟩:=UO W i1 h1 (RepL.set r3 m l1)
        exact QdK O9 s σ H _ _ v ov iv u Q I ro ri rv ⟨a,xs,j,m,rfl,r2.intI,h1,by rw [<- l1.length];exact q,k ρ B _ g W'⟩
    | dic kvs =>
      obtain ⟨ky,hp2,e4,e5⟩:=Qg e2
      obtain ⟨hk,rfl⟩:=Xb e4
      obtain ⟨_,hp3,e6,e7⟩:=Qg e5
      obtain ⟨hl,rfl⟩:=QK e6
      cases e7
      obtain ⟨xs,h1,rk⟩:=rob.dic
      obtain ⟨g,W'⟩:=UN W i1 h1 (rk.put ky r3)
      exact QdJ hu O9 s σ H _ _ v ov iv u Q I ro ri rv ⟨a,xs,ky,rfl,XQ hk r2,h1,by rw [<- rk.len];exact Ay (C5 hl) GL,k ρ B _ g W'⟩
  | non=>cases e
  | bl _=>cases e
  | int _=>cases e
  | str _=>cases e
  | tup _=>cases e
  | lst _=>cases e
def gSb (f g:DEx):DGx:=fun d env=>do
 let o <- f env
 let i <- g env
 yq o i d
 pure env
theorem x8 (hu:X.A.units+1 < cLine) (ho:DE X o fo) (hi:DE X i fi)
  (ha:∀ v,assign (.Subscript o i pos) X.env v=(do
   let ov <- holding [v] (eval o X.env)
   let iv <- holding [v,ov] (eval i X.env)
   standAt pos
   holding [v,ov,iv] (setItem ov iv v)
   release [v,ov,iv] []):=by intro _;rfl):PG X (.Subscript o i pos) (tDG X.K (gSb fo fi)):=by
 intro O9 s σ H v u Q I r h
 refine Qg5 ho hi (Qip hu) ha O9 s σ H v u Q I r ?_
 obtain ⟨Z,env,ρ,B,hp,d,env',hp',S,rd,e,k⟩:=h
 obtain ⟨x,hp1,e1,e⟩:=Qg e
 obtain ⟨y,hp2,e2,e⟩:=Qg e
 obtain ⟨z,hp3,e3,e⟩:=Qg e
 obtain ⟨rfl,rfl⟩:=Ql e
 refine tD.run S e1 fun vx ρ1 B1 H1 g1 S1 r1=>tD.run S1 e2 fun vy ρ2 B2 H2 g2 S2 r2=>?_
 exact ⟨ρ2,B2,hp2,x,y,d,hp3,S2.wo,RepV.grow S1.wo.rb g2 _ _ r1,r2,RepV.grow S.wo.rb (g1.trans g2) _ _ rd,e3,fun ρ3 B3 H3 g3 W3=>k _ ρ3 B3 H3 ((g1.trans (g2.trans g3)).gs S.wo.rb) (S2.grow g3 W3)⟩
def Xr:String->DV->M Unit
  | "list", .lst _=>pure ()
  | "str", .str _=>pure ()
  | T,.ref n=>do
    match <- ZI n with
    | .lst _=>Qx (T == "list")
    | .dic _=>Qx (T == "dict")
    | _=>failure
  | _,_=>failure
theorem QcP {T:String} {hp hp':Hs} {K:Aa} {u:Unit} (W:WOk K ρ B hp H) (r:RepV K ρ B H d v) (h:Xr T d hp=some (u,hp')):hp=hp'/\tyV K T v H:=by
  unfold Xr at h
  split at h
  . obtain ⟨_,rfl⟩:=Ql h
    obtain ⟨a,xs,rfl,_,sq,_⟩:=r.lstI
    exact ⟨rfl,.inl ⟨rfl,xs,sq⟩⟩
  . obtain ⟨_,rfl⟩:=Ql h
    obtain rfl:=r.strI
    exact ⟨rfl,rfl⟩
  . obtain ⟨o,hp1,e1,e2⟩:=Qg h
    obtain ⟨e3,rfl⟩:=ZJ e1
    obtain ⟨a,rfl,_,ro⟩:=RepV.refW W r e3
    cases o with
    | lst ds =>
      obtain ⟨hT,rfl⟩:=QK e2
      obtain ⟨xs,h1,_⟩:=ro
      exact ⟨rfl,.inl ⟨by simpa using hT,xs,SqL.of h1⟩⟩
    | dic kvs =>
      obtain ⟨hT,rfl⟩:=QK e2
      obtain ⟨xs,h1,_⟩:=ro
      exact ⟨rfl,.inr (.inr (.inl ⟨by simpa using hT,.inl ⟨xs,h1⟩⟩))⟩
    | ins _ _=>cases e2
  . cases h
def tPm (K:Aa) (m:DV->List DV->M DV):V->List V->Hp->VK->Prop:=fun x vs H Q=>∃ ρ B hp dx ds d hp',WOk K ρ B hp H/\RepV K ρ B H dx x/\RepL K ρ B H ds vs/\m dx ds hp=some (d,hp')/\Fol K ρ B H d hp' Q
def Z1 (T:String) (m:DV->List DV->M DV) (f:DEx) (a:DAx):DEx:=fun env=>do
 let x <- f env
 Xr T x
 let ds <- a env
 m x ds
theorem Yp {T id:String} {name:Str} {es:List Expr} {m:DV->List DV->M DV} {apos cpos:Pos} (hm:MtR X id (tPm X.K m)) (pa:PlainAttrs T) (slot:Slot T name id) (hty:typeOf (.builtin id)=pure (.type "method_descriptor")) (ho:DE X o fo) (ha:DA X (e::es) fs)
  (hbase:attributeBase o name X.env (eval o X.env)=eval o X.env:=by rfl)
  (hfew:((backTo cpos (starEach (e::es) X.env)).all (fun x=>!x.1)&&(backToKw cpos (keywordEach [] X.env)).all (fun x=>x.1.isSome)
   && decide ((e::es).length+([]:List Keyword).length+(if ([]:List Keyword).isEmpty then 0 else 1) < 30))=true:=by rfl)
  (hline:(apos.endLine==cpos.line)=true:=by rfl) (hs:starEach (e::es) X.env=(false,eval e X.env)::starEach es X.env:=by rfl) (hplain:(backTo cpos (starEach es X.env)).any (·.1)=false:=by rfl) :
  DE X (.Call (.Attribute o name apos) (e::es) [] cpos) (Z1 T m fo fs) :=
 L2.PE.imp (Qir pa slot hty hm ho ha hbase hfew hline hs hplain) fun σ H Q ⟨Z,env,ρ,B,hp,d,hp',S,e,k⟩=>by
  obtain ⟨x,hp1,e1,ea⟩:=Qg e
  obtain ⟨_,hp2,e2,eb⟩:=Qg ea
  obtain ⟨ds,hp3,e3,ec⟩:=Qg eb
  refine tD.run S e1 fun v ρ1 B1 H1 g1 S1 r1=>?_
  obtain ⟨z,ty⟩:=QcP S1.wo r1 e2
  rw [<- z] at e3
  exact ⟨ty,tDA.run S1 e3 fun vs ρ2 B2 H2 g2 S2 r2=>⟨ρ2,B2,hp3,x,ds,d,hp',S2.wo,RepV.grow S1.wo.rb g2 _ _ r1,r2,ec,k.after (g1.trans g2)⟩⟩
def onL (x:DV) (k:Nat->List DV->M DV):M DV:=match x with
  | .ref n=>do
    match <- ZI n with
    | .lst ds=>k n ds
    | _=>failure
  | _=>failure
def onD (x:DV) (k:Nat->List (Key×DV)->M DV):M DV:=match x with
  | .ref n=>do
    match <- ZI n with
    | .dic ds=>k n ds
    | _=>failure
  | _=>failure
theorem V1 {x d:DV} {k:Nat->List DV->M DV} {hp hp':Hs} (h:onL x k hp=some (d,hp')):∃ n ds,x=.ref n/\hp[n]?=some (.lst ds)/\k n ds hp=some (d,hp'):=by
  cases x with
  | ref n =>
    obtain ⟨o,hp1,e1,e2⟩:=Qg h
    obtain ⟨e3,rfl⟩:=ZJ e1
    cases o with
    | lst ds=>exact ⟨n,ds,rfl,e3,e2⟩
    | dic _=>cases e2
    | ins _ _=>cases e2
  | _=>cases h
theorem xw {x d:DV} {k:Nat->List (Key×DV)->M DV} {hp hp':Hs} (h:onD x k hp=some (d,hp')):∃ n ds,x=.ref n/\hp[n]?=some (.dic ds)/\k n ds hp=some (d,hp'):=by
  cases x with
  | ref n =>
    obtain ⟨o,hp1,e1,e2⟩:=Qg h
    obtain ⟨e3,rfl⟩:=ZJ e1
    cases o with
    | dic ds=>exact ⟨n,ds,rfl,e3,e2⟩
    | lst _=>cases e2
    | ins _ _=>cases e2
  | _=>cases h
def ZD (x:DV):List DV->M DV
 | [d]=>onL x fun n ds=>do Qx (decide (ds.length < lim));xL n (.lst (ds++[d]));pure .non
 | _=>failure
theorem zJ:MtR X "list.append" (tPm X.K ZD):=by
 intro O9 s σ H x vs v us Q I rx rv h
 obtain ⟨ρ,B,hp,dx,es,d,hp',W,r1,r2,e,k⟩:=h
 unfold ZD at e
 split at e
 ·rename_i y
  obtain ⟨n,ds,rfl,h0,e⟩:=V1 e
  obtain ⟨_,hp1,e1,e2⟩:=Qg e
  obtain ⟨hl,rfl⟩:=QK e1
  cases e2
  obtain ⟨a,rfl,i1,xs,h1,l1⟩:=RepV.refW W r1 h0
  obtain ⟨w,rfl,rw'⟩:=r2.oneI
  obtain ⟨g,W'⟩:=UO W i1 h1 (RepL.append l1 (RepL.one rw'))
  exact KI O9 s σ H _ _ v us Q I rx rv ⟨a,xs,w,rfl,rfl,h1,by rw [<- l1.length];exact Ay (C5 hl) GL,k _ ρ B _ g W' ji⟩
 ·cases e
def X9 (x:DV):List DV->M DV
 | [.int i,d]=>onL x fun n ds=>do Qx (decide (ds.length < lim)&&Ux i);xL n (.lst (ds.take (Qia ds.length i)++d::ds.drop (Qia ds.length i)));pure .non
 | _=>failure
def YJ (x:DV):List DV->M DV
  | [y]=>onD x fun n kvs=>do
    let k <- Xq y
    let d <- zN (Z3 kvs k)
    xL n (.dic (J1 kvs k))
    pure d
  | [y,z]=>onD x fun n kvs=>do
    let k <- Xq y
    match Z3 kvs k with
    | some d=>do xL n (.dic (J1 kvs k));pure d
    | none=>pure z
  | _=>failure
theorem QgC:MtR X "dict.pop" (tPm X.K YJ):=by
 intro O9 s σ H x vs v us Q I rx rv h
 obtain ⟨ρ,B,hp,dx,es,d,hp',W,r1,r2,e,k⟩:=h
 unfold YJ at e
 split at e
 ·rename_i y
  obtain ⟨n,kvs,rfl,h0,e⟩:=xw e
  obtain ⟨ky,hp1,e1,e⟩:=Qg e
  obtain ⟨hk,rfl⟩:=Xb e1
  obtain ⟨d',hp2,e2,e⟩:=Qg e
  obtain ⟨hv,rfl⟩:=jg e2
  cases e
  obtain ⟨a,rfl,i1,ro⟩:=RepV.refW W r1 h0
  obtain ⟨xs,h1,rk⟩:=ro.dic
  obtain ⟨w,rfl,rw'⟩:=r2.oneI
  obtain rfl:=XQ hk rw'
  obtain ⟨g,W'⟩:=UN W i1 h1 (rk.drop ky)
  rcases rk.val ky with ⟨z,_⟩ | ⟨d'',v',z,zv,rz⟩
  ·rw [hv] at z;cases z
  ·rw [hv] at z;cases z
   exact GO O9 s σ H _ _ v us Q I rx rv ⟨a,xs,ky,rfl,h1,.inl ⟨rfl,v',zv,k _ ρ B _ g W' (RepV.grow W.rb g _ _ rz)⟩⟩
 ·rename_i y z
  obtain ⟨n,kvs,rfl,h0,e⟩:=xw e
  obtain ⟨ky,hp1,e1,e⟩:=Qg e
  obtain ⟨hk,rfl⟩:=Xb e1
  obtain ⟨a,rfl,i1,ro⟩:=RepV.refW W r1 h0
  obtain ⟨xs,h1,rk⟩:=ro.dic
  unfold RepL at r2
  obtain ⟨w,t,rfl,rw',r2⟩:=r2
  obtain rfl:=XQ hk rw'
  obtain ⟨w2,rfl,rw2⟩:=r2.oneI
  rcases rk.val ky with ⟨z1,zv⟩ | ⟨d'',v',z1,zv,rz⟩
  ·rw [z1] at e
   obtain ⟨rfl,rfl⟩:=Ql e
   exact GO O9 s σ H _ _ v us Q I rx rv ⟨a,xs,ky,rfl,h1,.inr ⟨w2,rfl,(fun v hv=>by rw [zv] at hv;cases hv),fun _=>k _ ρ B H Gr.refl W rw2⟩⟩
  ·rw [z1] at e
   cases e
   obtain ⟨g,W'⟩:=UN W i1 h1 (rk.drop ky)
   exact GO O9 s σ H _ _ v us Q I rx rv ⟨a,xs,ky,rfl,h1,.inr ⟨w2,rfl,(fun v hv=>by rw [zv] at hv;cases hv;exact k _ ρ B _ g W' (RepV.grow W.rb g _ _ rz)),fun hn=>by rw [zv] at hn;cases hn⟩⟩
 ·cases e
def JD (x:DV):List DV->M DV
  | [y]=>onD x fun n kvs=>do
    let k <- Xq y
    pure ((Z3 kvs k).getD .non)
  | [y,z]=>onD x fun n kvs=>do
    let k <- Xq y
    pure ((Z3 kvs k).getD z)
  | _=>failure
theorem GN (hu:X.A.units+1 < cLine):MtR X "dict.get" (tPm X.K JD):=by
 intro O9 s σ H x vs v us Q I rx rv h
 obtain ⟨ρ,B,hp,dx,es,d,hp',W,r1,r2,e,k⟩:=h
 unfold JD at e
 split at e
 ·rename_i y
  obtain ⟨n,kvs,rfl,h0,e⟩:=xw e
  obtain ⟨ky,hp1,e1,e⟩:=Qg e
  obtain ⟨hk,rfl⟩:=Xb e1
  obtain ⟨rfl,rfl⟩:=Ql e
  obtain ⟨a,rfl,i1,ro⟩:=RepV.refW W r1 h0
  obtain ⟨xs,h1,rk⟩:=ro.dic
  obtain ⟨w,rfl,rw'⟩:=r2.oneI
  obtain rfl:=XQ hk rw'
  refine Qat hu O9 s σ H _ _ v us Q I rx rv ⟨a,xs,ky,rfl,h1,.inl ⟨rfl,k _ ρ B H Gr.refl W ?_⟩⟩
  rcases rk.val ky with ⟨z1,zv⟩ | ⟨d'',v',z1,zv,rz⟩<;>rw [z1,zv]
  ·exact ji
  ·exact rz
 ·rename_i y z
  obtain ⟨n,kvs,rfl,h0,e⟩:=xw e
  obtain ⟨ky,hp1,e1,e⟩:=Qg e
  obtain ⟨hk,rfl⟩:=Xb e1
  obtain ⟨rfl,rfl⟩:=Ql e
  obtain ⟨a,rfl,i1,ro⟩:=RepV.refW W r1 h0
  obtain ⟨xs,h1,rk⟩:=ro.dic
  unfold RepL at r2
  obtain ⟨w,t,rfl,rw',r2⟩:=r2
  obtain rfl:=XQ hk rw'
  obtain ⟨w2,rfl,rw2⟩:=r2.oneI
  refine Qat hu O9 s σ H _ _ v us Q I rx rv ⟨a,xs,ky,rfl,h1,.inr ⟨w2,rfl,k _ ρ B H Gr.refl W ?_⟩⟩
  rcases rk.val ky with ⟨z1,zv⟩ | ⟨d'',v',z1,zv,rz⟩<;>rw [z1,zv]
  ·exact rw2
  ·exact rz
 ·cases e
end
end D
namespace L2
open PySem PySem.Spec PyProof.Rows
theorem Inv.kfresh {X:Cx} {s:Shared} (I:Inv X O9 σ H s):X.K.lookup s.heap.objs.size=none:=by
 cases q:X.K.lookup s.heap.objs.size with
 | none=>rfl
 | some o=>exact absurd (Ao (I.kIn _ o q)) (Cm _)
def Qhs (K:Aa) (trs:List (TE×TE)):TE:=fun σ H Q=>∀ p,H p=none->K.lookup p=none->G9 trs σ (upd H p (.dK [])) fun ps H2=>H2 p=some (.dK [])/\∃ kvs:List (Key×V),ps=kvs.map (fun kv=>(kV kv.1,kv.2))/\kvs.length<=15/\Q (.ref p) (upd H2 p (.dK (X1 [] kvs)))
theorem Qdi {keys:List (Option Expr)} {values:List Expr} {trs:List (TE×TE)} (h:PPs X pos keys values trs) (hall:keys.all (·.isSome)=true) (hl:keys.length=values.length) (h0:keys≠[])
  (h15:keys.length<=15):PE X (.Dict keys values pos) (Qhs X.K trs):=by
 intro O9 s σ H Q I q
 have hn:=I.hok.fresh (Ae s.heap.objs.size)
 have I1:=I.laid (a:=s.heap.objs.size) (o:=.dK []) (h':=s.heap.push { cls:=.type "dict", data:=.dict #[] }) (t':=s.toks) (fun _ _ q=>Ad _ q) (Ae _) (vF s.heap I.big)
 refine wpAny_Dict_walk (knd:=ZC X.prog X.w) hall hl h0 h15 (thn (h O9 _ σ _ _ I1 (q _ hn I.kfresh)) fun ws s2 ⟨ps,H2,I2,rel,e,kvs,ep,lk,q2⟩=>?_)
 subst ep
 obtain ⟨rs,c,rk⟩:=Vz (P:=X.prog) (w:=X.w) rel
 obtain ⟨z,hd,vs0,r0,dd⟩:=VI I2.hok e
 cases r0
 refine ⟨rs,c,dd,fun h' dd' hs=>⟨.ref s.heap.objs.size,_,?_,rfl,q2⟩⟩
 have hz:(X1 [] kvs).length<=sizeLine:=by
  have h1:=jv kvs []
  rw [List.length_nil] at h1
  rw [sizeLine_eq];lia
 have he:∃ q,h'.get? s.heap.objs.size=some q:=let ⟨q,_,_,hq,_⟩:=dd';⟨q,hq⟩
 exact j7 I2 (by rw [e];exact True.intro) hs he (Gx hz hd (rk.merge .nil) dd')
theorem QbC {X:Cx}:PE X (.Dict [] [] pos) (fun _ H Q=>∀ p,H p=none->X.K.lookup p=none->Q (.ref p) (upd H p (.dK []))):=fun O9 s σ H Q I h =>
 wpAny_Dict_empty ⟨.ref s.heap.objs.size,_,I.laid (a:=s.heap.objs.size) (o:=.dK []) (t':=s.toks) (fun _ _ q=>Ad _ q) (Ae _) (vF s.heap I.big),rfl,h _ (I.hok.fresh (Ae _)) I.kfresh⟩
end L2
namespace D
open PySem PySem.Spec PyProof.Rows L2
section
variable {X:Cx} {e a b c:Expr} {f fa fb fc:DEx} {ca cb:DTx} {pos:Pos}
def evP:List (DEx×DEx)->En->M (List (Key×DV))
  | [],_=>pure []
  | (f,g)::r,env=>do
    let x <- f env
    let k <- Xq x
    let y <- g env
    let ps <- evP r env
    pure ((k,y)::ps)
def VY (kvs more:List (Key×DV)):List (Key×DV):=more.foldl (fun acc kv=>Y5 acc kv.1 kv.2) kvs
def YF (ps:List (DEx×DEx)):DEx:=fun env=>do
 let kvs <- evP ps env
 Qx (decide (kvs.length<=15))
 XX (.dic (VY [] kvs))
def Qf1 (K:Aa) (ps:List (DEx×DEx)):List (TE×TE):=ps.map fun p=>(tD K p.1,tD K p.2)
structure DPs (X:Cx) (pos:Pos) (keys:List (Option Expr)) (values:List Expr) (ps:List (DEx×DEx)):Prop where
 out:PPs X pos keys values (Qf1 X.K ps)
def Qgi:DPs X pos [] [] []:=⟨Qe9⟩
def kS {k v:Expr} {ks:List (Option Expr)} {vs:List Expr} {ps:List (DEx×DEx)} (hk:DE X k fa) (hv:DE X v fb) (hr:DPs X pos ks vs ps):DPs X pos (some k::ks) (v::vs) ((fa,fb)::ps):=⟨Qds hk hv hr.out⟩
theorem RepK.merge {K:Aa} (r:RepK K ρ B H more ms):∀ {kvs:List (Key×DV)} {xs:List (Key×V)},RepK K ρ B H kvs xs->RepK K ρ B H (VY kvs more) (X1 xs ms):=by
  induction r with
  | nil=>intro kvs xs r;exact r
  | @cons p q _ _ h _ ih =>
    intro kvs xs r
    unfold VY X1 at ih ⊢
    rw [List.foldl_cons,List.foldl_cons,h.1]
    exact ih (r.put q.1 h.2)
theorem Qac {K:Aa}:∀ (ps:List (DEx×DEx)) {Z:Ent} {env:En} {σ:St} {ρ:Ee} {B:Ed} {hp hp1:Hs} {H:Hp} {kvs:List (Key×DV)} {R:List (V×V)->Hp->Prop},SOk K Z env σ ρ B hp H->evP ps env hp=some (kvs,hp1) ->
    (∀ xs ρ' B' H',Gr K ρ B H ρ' B' H'->SOk K Z env σ ρ' B' hp1 H'->RepK K ρ' B' H' kvs xs->R (xs.map fun kv=>(kV kv.1,kv.2)) H')->G9 (Qf1 K ps) σ H R
  | [],_,_,_,_,_,_,_,_,_,_,S,e,k=>by
    obtain ⟨rfl,rfl⟩:=Ql e
    exact k [] _ _ _ Gr.refl S .nil
  | (f,g)::r,_,_,_,_,_,_,_,_,_,_,S,e,k=>by
    obtain ⟨x,hp2,e1,e⟩:=Qg e
    obtain ⟨ky,hp3,e2,e⟩:=Qg e
    obtain ⟨hk,rfl⟩:=Xb e2
    obtain ⟨y,hp4,e3,e⟩:=Qg e
    obtain ⟨ps,hp5,e4,e⟩:=Qg e
    obtain ⟨rfl,rfl⟩:=Ql e
    refine tD.run S e1 fun v ρ1 B1 H1 g1 S1 r1=>tD.run S1 e3 fun u ρ2 B2 H2 g2 S2 r2=>Qac r S2 e4 fun xs ρ3 B3 H3 g3 S3 r3=>?_
    obtain rfl:=XQ hk r1
    exact k ((ky,u)::xs) ρ3 B3 H3 (g1.trans (g2.trans g3)) S3 (.cons ⟨rfl,RepV.grow S2.wo.rb g3 _ _ r2⟩ r3)
theorem Qeq {keys:List (Option Expr)} {values:List Expr} {ps:List (DEx×DEx)} (h:DPs X pos keys values ps) (hall:keys.all (·.isSome)=true:=by rfl) (hl:keys.length=values.length:=by rfl) (h0:keys≠[]:=by exact List.cons_ne_nil _ _) (h15:keys.length<=15:=by exact Nat.le_of_ble_eq_true rfl):DE X (.Dict keys values pos) (YF ps) :=
 L2.PE.imp (Qdi h.out hall hl h0 h15) fun σ H Q ⟨Z,env,ρ,B,hp,d,hp',S,e,k⟩=>by
  obtain ⟨kvs,hp1,e1,e2⟩:=Qg e
  obtain ⟨_,hp2,e3,e4⟩:=Qg e2
  obtain ⟨hs,rfl⟩:=QK e3
  cases e4
  intro p hn hk
  have g0:Gr X.K ρ B H ρ (xX B p) (upd H p (.dK [])):=Gr.banned hn hk
  have W0:=S.wo.banned (o:=.dK []) hn hk
  have np:p∉ρ:=fun z=>S.wo.bt p (S.wo.rb p z) hn
  refine Qac ps (S.grow g0 W0) e1 fun xs ρ1 B1 H1 g1 S1 r1=>?_
  have np1:p∉ρ1:=fun z=>(g1.rnew p z).elim np fun q=>by rw [Za] at q;cases q
  have hp1':H1 p=some (.dK []):=g1.keep p _ np Za
  refine ⟨hp1',xs,rfl,by rw [<- r1.len];exact C5 hs,?_⟩
  have G:=g0.trans g1
  have trk:∀ b,(upd H1 p (.dK (X1 [] xs))) b=none->H1 b=none:=fun b q=>by
   by_cases e:b=p
   ·subst e;rw [Za] at q;cases q
   ·rw [Q4 e] at q;exact q
  have bp:B1 p:=g1.ban p (.inr rfl)
  have g2:Gs X.K ρ1 B1 H1 (ρ1++[p]) B1 (upd H1 p (.dK (X1 [] xs))):=⟨List.prefix_append _ _,fun _ h=>.inl h,fun b o nb h=>by rw [Q4 (show b≠p from fun z=>nb (by rw [z];exact bp))];exact h,trk⟩
  have G':Gr X.K ρ B H (ρ1++[p]) B1 (upd H1 p (.dK (X1 [] xs))) :=
   ⟨G.pre.trans (List.prefix_append _ _),G.ban,G.new,fun a z=>(Ah.mp z).elim (G.rnew a) fun q=>.inr (by rw [Aq.mp q];exact hn),
    fun a o na h=>by rw [Q4 (show a≠p from fun z=>by rw [z,hn] at h;cases h)];exact G.keep a o na h,fun a q=>G.trk a (trk a q)⟩
  have W1:=S1.wo
  have oD:ORep X.K (ρ1++[p]) B1 (upd H1 p (.dK (X1 [] xs))) p (.dic (VY [] kvs)):=((RepK.merge r1 (kvs:=[]) (xs:=[]) .nil).gs g2).orep Za
  have W2:WOk X.K (ρ1++[p]) B1 (hp1++[.dic (VY [] kvs)]) (upd H1 p (.dK (X1 [] xs))):=by
   refine ⟨by simp [W1.len],List.nodup_append.mpr ⟨W1.nd,by simp,fun a ha b hb=>by rw [Aq.mp hb];exact fun z=>np1 (z▸ha)⟩,fun i a u e q=>?_,fun a z=>(Ah.mp z).elim (W1.rb a) fun q=>by rw [Aq.mp q];exact bp,fun a z q=>W1.bt a z (trk a q),W1.bk⟩
   by_cases hi:i < ρ1.length
   ·rw [Ag hi] at e
    rw [Ag (by rw [<- W1.len];exact hi)] at q
    exact ORep.gs g2 (Q4 (fun z=>np1 (by rw [<- z];exact Aw e))) (W1.obj i a u e q)
   ·rw [Ap (by lia)] at e
    rw [Ap (by rw [<- W1.len];lia)] at q
    have hi0:i - ρ1.length=0:=by
     have:=(Ac.mp e).1
     simp at this;lia
    rw [hi0] at e
    rw [<- W1.len,hi0] at q
    simp at e q
    subst e q
    exact oD
  refine k _ _ _ _ G' W2 ?_
  unfold RepV
  exact ⟨p,rfl,by rw [<- W1.len];simp⟩
def JY:DEx:=fun _=>XX (.dic [])
theorem VF:DE X (.Dict [] [] pos) JY:=L2.PE.imp QbC fun σ H Q ⟨Z,env,ρ,B,hp,d,hp',S,e,k⟩=>by
 cases e
 intro p hn hk
 have g:Gr X.K ρ B H (ρ++[p]) (xX B p) (upd H p (.dK [])):=Gr.wnew hn hk
 refine k _ _ _ _ g (S.wo.wnew hn hk (RepK.orep (xs:=[]) .nil Za)) ?_
 unfold RepV
 exact ⟨p,rfl,by rw [<- S.wo.len];simp⟩
abbrev NX:=Nat->M (Option DV)
def kG (K:Aa) (ρ:Ee) (B:Ed) (H:Hp) (nxt:NX) (J:It):Prop :=
  ∀ ρ1 B1 hp1 H1, Gs K ρ B H ρ1 B1 H1 -> WOk K ρ1 B1 hp1 H1 -> ∀ (i : Nat) (o : Option DV) (hp2 : Hs), nxt i hp1 = some (o, hp2) -> hp2 = hp1 /\ match o with
    | none=>J.stop i H1
    | some d=>J.go i H1/\∀ x H',J.yld i H1 x H'->RepV K ρ1 B1 H' d x/\(H'=H1∨∃ p o,H1 p=none/\H'=upd H1 p o)
abbrev DXx:=En->M NX
def tDX (K:Aa) (f:DXx):TI:=fun σ H R=>∃ Z env ρ B hp nxt hp',SOk K Z env σ ρ B hp H/\f env hp=some (nxt,hp')/\∀ J ρ' B' H',Gr K ρ B H ρ' B' H'->WOk K ρ' B' hp' H'->kG K ρ' B' H' nxt J->R J H'
def DX (X:Cx) (tg iter:Expr) (f:DXx):Prop:=PI X tg iter (tDX X.K f)
def nxD (ds:List DV):NX:=fun i=>if i<=ds.length then pure ds[i]? else failure
def nxW (n:Nat):NX:=fun i=>do
 match <- ZI n with
 | .lst ds=>pure ds[i]?
 | _=>failure
theorem gI {K:Aa} (h:QaW K ρ B H ds J):kG K ρ B H (nxD ds) J:=fun ρ1 B1 hp1 H1 g W i o hp2 e=>by
  unfold nxD at e
  by_cases hi:i<=ds.length
  . rw [C0 hi] at e
    obtain ⟨rfl,rfl⟩:=Ql e
    obtain ⟨h1,h2⟩:=h ρ1 B1 H1 g W.rb W.bt
    refine ⟨rfl,?_⟩
    cases q:ds[i]? with
    | none =>
      have:i=ds.length:=by have:=List.getElem?_eq_none_iff.mp q;lia
      subst this
      exact h2
    | some d=>exact h1 i d q
  . rw [Cz hi] at e;cases e
theorem QgE {K:Aa} {ρ:Ee} {n:Nat} {a:Addr} (ha:ρ[n]?=some a) (kf:∀ H1:Hp,∀ xs ys,H1 a=some (.lst xs)->SqL K H1 a ys->ys=xs):kG K ρ B H (nxW n) (Itl K a):=fun ρ1 B1 hp1 H1 g W i o hp2 e=>by
  obtain ⟨ob,hp3,e1,e2⟩:=Qg e
  obtain ⟨e3,rfl⟩:=ZJ e1
  have ha1:=QaB g.pre ha
  cases ob with
  | dic _=>cases e2
  | ins _ _=>cases e2
  | lst ds =>
    obtain ⟨rfl,rfl⟩:=Ql e2
    obtain ⟨xs,h1,l1⟩:=W.obj n a _ ha1 e3
    refine ⟨rfl,?_⟩
    cases q:ds[i]? with
    | none=>exact ⟨xs,SqL.of h1,by rw [<- l1.length];exact List.getElem?_eq_none_iff.mp q⟩
    | some d =>
      obtain ⟨x,hx,rx⟩:=l1.get q
      refine ⟨⟨xs,x,SqL.of h1,hx⟩,fun y H' ⟨eH,hy⟩=>?_⟩
      subst eH
      have:=hy xs (SqL.of h1)
      rw [hx] at this;cases this
      exact ⟨rx,.inl rfl⟩
theorem QdS {K:Aa} {a:Addr} (hk:K.lookup a=none) (H:Hp) (xs ys:List V) (h:H a=some (.lst xs)) (h':SqL K H a ys):ys=xs:=by
 rcases h' with (h' | ⟨o,h'⟩) | ⟨o,_,_,h',_⟩
 ·rw [h] at h';cases h';rfl
 ·rw [h] at h';cases h'
 ·rw [hk] at h';cases h'
def xOf (f:DIx):DXx:=fun env=>do let ds <- f env;pure (nxD ds)
def xLs (f:DEx):DXx:=fun env=>do
  match <- f env with
  | .lst ds=>pure (nxD ds)
  | .ref n=>do
    match <- ZI n with
    | .lst _=>pure (nxW n)
    | _=>failure
  | _=>failure
variable {tg iter:Expr}
theorem yD (h:DI X tg iter g):DX X tg iter (xOf g):=L2.PI.imp h fun σ H R ⟨Z,env,ρ,B,hp,nxt,hp',S,e,k⟩=>by
 obtain ⟨ds,hp1,e1,e2⟩:=Qg e
 obtain ⟨rfl,rfl⟩:=Ql e2
 exact ⟨Z,env,ρ,B,hp,ds,hp1,S,e1,fun J ρ' B' H' g W it=>k J ρ' B' H' g W (gI it)⟩
theorem qG (h:DE X iter f):DX X tg iter (xLs f):=L2.PI.imp (Qe4 (L2.PE.kf h)) fun σ H R ⟨Z,env,ρ,B,hp,nxt,hp',S,e,k⟩=>by
  obtain ⟨d,hp1,e1,e2⟩:=Qg e
  refine tD.run S e1 fun v ρ1 B1 H1 g1 S1 r1 kf=>?_
  cases d with
  | lst ds =>
    obtain ⟨rfl,rfl⟩:=Ql e2
    obtain ⟨a,xs,rfl,nb,sq,rl⟩:=r1.lstI
    exact ⟨a,rfl,⟨xs,sq⟩,k _ ρ1 B1 H1 g1 S1.wo (gI (QeC nb sq rl))⟩
  | ref n =>
    obtain ⟨o,hp2,e3,e4⟩:=Qg (show (ZI n >>= fun o=>(match o with | .lst _=>pure (nxW n) | _=>failure:M NX)) hp1=some (nxt,hp') from e2)
    obtain ⟨e5,e6⟩:=ZJ e3
    cases o with
    | lst ds =>
      obtain ⟨rfl,z⟩:=Ql e4
      rw [<- z,<- e6] at k
      obtain ⟨a,rfl,i1,xs,h1,_⟩:=RepV.refW S1.wo r1 e5
      exact ⟨a,rfl,⟨xs,SqL.of h1⟩,k _ ρ1 B1 H1 g1 S1.wo (QgE i1 (QdS (kf a _ h1)))⟩
    | dic _=>cases e4
    | ins _ _=>cases e4
  | non=>cases e2
  | bl _=>cases e2
  | int _=>cases e2
  | str _=>cases e2
  | tup _=>cases e2
def JZ (nxt:NX) (b:DV->DSx):Nat->Nat->DSx
  | 0,_,_=>failure
  | m+1,i,env=>do
    match <- nxt i with
    | none=>pure (.nx,env)
    | some d=>do
      let r <- b d env
      match r.1 with
      | .nx=>JZ nxt b m (i+1) r.2
      | .ct=>JZ nxt b m (i+1) r.2
      | .bk=>pure (.nx,r.2)
      | .rt x=>pure (.rt x,r.2)
def X7 (f:DXx) (g:DGx) (body:DSx):DSx:=fun env=>do let nxt <- f env;JZ nxt (fun d env=>do let env' <- g d env;body env') 100000 0 env
theorem qF {body:List Stmt} {fi:DXx} {g:DGx} {sb:DSx} (hp:PassesOwn (model X.prog X.w) X.A X.env X.xe) (hc:X.calm=true) (hi:DX X tg iter fi) (hg:PG X tg (tDG X.K g)) (hb:DSs X body sb)
    (hs:∀ x,foldedSetIterable iter X.env x=pure x:=by intro _;rfl):DS X (.For tg iter body [] pos) (X7 fi g sb) :=
  (Qhe hp hc hi hg hb hs).imp fun D σ H ⟨Z,env,ρ,B,hp,fl,env',hp',S,e,k⟩=>by
    obtain ⟨nxt,hp1,e1,e2⟩:=Qg e
    refine ⟨Z,env,ρ,B,hp,nxt,hp1,S,e1,fun J ρ1 B1 H1 g1 W1 it=>?_⟩
    have k1:=k.after (g1.gs S.wo.rb)
    refine ⟨fun i m σ H=>∃ env ρ B hp,SOk X.K Z env σ ρ B hp H/\Gs X.K ρ1 B1 H1 ρ B H/\JZ nxt (fun d env=>do let env' <- g d env;sb env') m i env hp=some ((fl,env'),hp'),
      ⟨100000,env,ρ1,B1,hp1,S.grow g1 W1,Gs.refl,e2⟩,?_⟩
    rintro i m σ H ⟨env2,ρ2,B2,hp2,S2,g2,e3⟩
    cases m with
    | zero=>cases e3
    | succ m =>
      obtain ⟨o,hpo,eo,e3⟩:=Qg e3
      obtain ⟨rfl,ito⟩:=it ρ2 B2 hp2 H g2 S2.wo i o hpo eo
      cases o with
      | none =>
        obtain ⟨z,rfl⟩:=Ql e3;cases z
        exact .inl ⟨ito,k1 σ ρ2 B2 H g2 S2⟩
      | some d =>
        obtain ⟨go,yl⟩:=ito
        obtain ⟨⟨f1,env4⟩,hp4,e4,e5⟩:=Qg e3
        obtain ⟨env3,hp3,e6,e7⟩:=Qg e4
        refine .inr ⟨go,fun σ' H'=>∃ env ρ B hp,SOk X.K Z env σ' ρ B hp H'/\Gs X.K ρ1 B1 H1 ρ B H'/\JZ nxt (fun d env=>do let env' <- g d env;sb env') m (i+1) env hp=some ((fl,env'),hp'),
          fun σ' H' q=>⟨m,Cq m,q⟩,fun x H' y=>?_⟩
        obtain ⟨rx,hx⟩:=yl x H' y
        have S3:SOk X.K Z env2 σ ρ2 B2 hpo H'/\Gs X.K ρ2 B2 H ρ2 B2 H':=by
          rcases hx with rfl | ⟨p,o,hn,rfl⟩
          . exact ⟨S2,Gs.refl⟩
          . exact ⟨S2.grow (Gr.laid hn) (S2.wo.laid hn),kA S2.wo.rb hn⟩
        refine ⟨Z,env2,ρ2,B2,hpo,d,env3,hp3,S3.1,rx,e6,fun σ5 ρ5 B5 H5 g5 S5=>⟨Z,env3,ρ5,B5,hp3,f1,env4,hp4,S5,e7,fun σ6 ρ6 B6 H6 g6 S6=>?_⟩⟩
        have G6:=g2.trans (S3.2.trans (g5.trans g6))
        cases f1 with
        | nx=>exact ⟨env4,ρ6,B6,hp4,S6,G6,e5⟩
        | ct=>exact ⟨env4,ρ6,B6,hp4,S6,G6,e5⟩
        | bk=>obtain ⟨z,rfl⟩:=Ql e5;cases z;exact k1 σ6 ρ6 B6 H6 G6 S6
        | rt d=>obtain ⟨z,rfl⟩:=Ql e5;cases z;exact k1 σ6 ρ6 B6 H6 G6 S6
def Z8 (nxt:NX) (g:DV->M Bool) (f:DV->M DV):Nat->Nat->M (List DV)
  | 0,_=>failure
  | m+1,i=>do
    match <- nxt i with
    | none=>pure []
    | some d=>do
      if <- g d then
        let y <- f d
        let ys <- Z8 nxt g f m (i+1)
        pure (y::ys)
      else Z8 nxt g f m (i+1)
def Z4 (nw:Bool) (src:DXx) (idx:List Nat) (t:DTx) (f:DEx):DEx:=fun env=>do
 let nxt <- src env
 let out <- Z8 nxt (fun d=>t (cE idx env d)) (fun d=>f (cE idx env d)) lim 0
 if nw then XX (.lst out) else pure (.lst out)
variable {elt:Expr} {x:Str} {px:Pos} {ifs:List Expr} {scope:Scope} {cl:List (Str×Addr)} {caps:List Str} {idx:List Nat} {src:DXx} {te:DTx} {nw:Bool}
theorem VL {K:Aa} (h:tD K (Z4 nw src idx te f) σ H Q):QaN K (tDX K src) (tDT K te) (tD K f) idx σ H Q:=by
  obtain ⟨Z,env,ρ,B,hp,d,hp',S,e,k⟩:=h
  obtain ⟨nxt,hp1,e1,e2⟩:=Qg e
  obtain ⟨out,hp3,e5,e6⟩:=Qg e2
  refine ⟨Z,env,ρ,B,hp,nxt,hp1,S,e1,fun J ρ1 B1 H1 g1 W1 it D hD hK=>?_⟩
  have g1s:=g1.gs S.wo.rb
  refine ⟨fun i m ys H2=>H2 D=some (.lst ys)/\i+m=lim/\∃ ρ2 B2 hp2 don rst,Gr K ρ1 B1 H1 ρ2 B2 H2/\WOk K ρ2 B2 hp2 H2/\B2 D/\D∉ρ2/\RepL K ρ2 B2 H2 don ys/\don.length<=i /\
    Z8 nxt (fun d=>te (cE idx env d)) (fun d=>f (cE idx env d)) m i hp2=some (rst,hp3)/\don++rst=out,?_,?_⟩
  . exact ⟨lim,Za,Nat.zero_add _,ρ1,xX B1 D,hp1,[],out,Gr.banned hD hK,W1.banned hD hK,.inr rfl,fun z=>W1.bt D (W1.rb D z) hD,RepL.nil,Ae _,e5,rfl⟩
  . rintro i m ys H2 ⟨hDs,him,ρ2,B2,hp2,don,rst,g2,W2,bD,nD,rd,dn,e7,e8⟩
    refine ⟨hDs,?_⟩
    cases m with
    | zero=>cases e7
    | succ m =>
      obtain ⟨o,hpo,eo,e7⟩:=Qg e7
      obtain ⟨rfl,ito⟩:=it ρ2 B2 hp2 H2 (g2.gs W1.rb) W2 i o hpo eo
      cases o with
      | some d0 =>
        obtain ⟨go,yl⟩:=ito
        obtain ⟨b,hp4,e9,e10⟩:=Qg e7
        refine .inr ⟨go,fun x H3 y=>?_⟩
        obtain ⟨rx,hx⟩:=yl x H3 y
        have S3:Gr K ρ2 B2 H2 ρ2 B2 H3/\WOk K ρ2 B2 hpo H3:=by
          rcases hx with rfl | ⟨p,o,hn,rfl⟩
          . exact ⟨Gr.refl,W2⟩
          . exact ⟨Gr.laid hn,W2.laid hn⟩
        have g3:=g2.trans S3.1
        have C3:=cσ_ok (idx:=idx) S (g1s.trans (g3.gs W1.rb)) S3.2 rx
        refine tDT.run C3 e9 fun ρ4 B4 H4 g4 S4=>?_
        have hD4:H4 D=some (.lst ys):=g4.keep D _ nD (S3.1.keep D _ nD hDs)
        have nD4:D∉ρ4:=fun z=>(g4.rnew D z).elim nD fun q=>by rw [S3.1.keep D _ nD hDs] at q;cases q
        cases b with
        | false =>
          exact vU ⟨m,Cq m,hD4,by lia,ρ4,B4,hp4,don,rst,g3.trans g4,S4.wo,g4.ban D bD,nD4,RepL.grow W2.rb (S3.1.trans g4) _ _ rd,by lia,e10,e8⟩
        | true =>
          obtain ⟨z,hp5,e11,e12⟩:=Qg e10
          obtain ⟨zs,hp6,e13,e14⟩:=Qg e12
          obtain ⟨rfl,rfl⟩:=Ql e14
          refine vV (tD.run S4 e11 fun v ρ5 B5 H5 g5 S5 r5=>?_)
          have hD5:H5 D=some (.lst ys):=g5.keep D _ nD4 hD4
          have nD5:D∉ρ5:=fun z=>(g5.rnew D z).elim nD4 fun q=>by rw [hD4] at q;cases q
          have bD5:B5 D:=g5.ban D (g4.ban D bD)
          have G5:=g3.trans (g4.trans g5)
          have rd5:=RepL.grow W2.rb (S3.1.trans (g4.trans g5)) _ _ rd
          have trk:∀ b,(upd H5 D (.lst (ys++[v]))) b=none->H5 b=none:=fun b q=>by
            by_cases e:b=D
            . subst e;rw [Za] at q;cases q
            . rw [Q4 e] at q;exact q
          have g6:Gs K ρ5 B5 H5 ρ5 B5 (upd H5 D (.lst (ys++[v]))):=⟨Cd,fun _ h=>.inl h,fun b o nb h=>by rw [Q4 (show b≠D from fun z=>nb (by rw [z];exact bD5))];exact h,trk⟩
          refine ⟨hD5,?_,m,Cq m,Za,by lia,ρ5,B5,hp5,don++[z],zs,?_,?_,bD5,nD5,RepL.gs g6 _ _ (RepL.append rd5 (RepL.one r5)),by simp;lia,e13,by rw [<- e8];simp⟩
          . have h1:=rd5.length
            have h2:lim < sizeLine:=by decide
            lia
          . exact ⟨G5.pre,G5.ban,G5.new,G5.rnew,fun b o nb h=>by rw [Q4 (show b≠D from fun q=>by rw [q,hD] at h;cases h)];exact G5.keep b o nb h,fun b q=>G5.trk b (trk b q)⟩
          . exact ⟨S5.wo.len,S5.wo.nd,fun j b o q1 q2=>ORep.gs g6 (Q4 (show b≠D from fun z=>nD5 (by rw [<- z];exact Aw q1))) (S5.wo.obj j b o q1 q2),S5.wo.rb,fun b z q=>S5.wo.bt b z (trk b q),S5.wo.bk⟩
      | none =>
        obtain ⟨z,z'⟩:=Ql e7
        subst z
        subst z'
        refine .inl ⟨ito,?_⟩
        rw [Bs] at e8
        subst e8
        cases nw with
        | false =>
          obtain ⟨rfl,rfl⟩:=Ql (show (pure (.lst don):M DV) hpo=some (d,hp') from e6)
          have gU:Gs K ρ2 B2 H2 ρ2 (fun b=>B2 b/\b≠D) H2:=⟨Cd,fun _ h=>.inl h.1,fun _ _ _ h=>h,fun _ h=>h⟩
          refine k (.ref D) ρ2 (fun b=>B2 b/\b≠D) H2 (g1.trans ⟨g2.pre,fun b z=>⟨g2.ban b z,fun q=>W1.bt b z (q▸hD)⟩,fun b z=>g2.new b z.1,g2.rnew,g2.keep,g2.trk⟩)
            ⟨W2.len,W2.nd,fun j b o q1 q2=>ORep.gs gU rfl (W2.obj j b o q1 q2),fun b z=>⟨W2.rb b z,fun q=>nD (q▸z)⟩,fun b z=>W2.bt b z.1,fun b z=>W2.bk b z.1⟩ (GR (fun z=>z.2 rfl) (SqL.of hDs) (RepL.gs gU _ _ rd))
        | true =>
          cases (show some (DV.ref hpo.length,hpo++[OV.lst don])=some (d,hp') from e6)
          have gU:Gs K ρ2 B2 H2 (ρ2++[D]) B2 H2:=⟨List.prefix_append _ _,fun _ h=>.inl h,fun _ _ _ h=>h,fun _ h=>h⟩
          refine k (.ref D) (ρ2++[D]) B2 H2 (g1.trans ⟨g2.pre.trans (List.prefix_append _ _),g2.ban,g2.new,fun a z=>(Ah.mp z).elim (g2.rnew a) fun q=>.inr (by rw [Aq.mp q];exact hD),g2.keep,g2.trk⟩)
            ⟨by simp [W2.len],List.nodup_append.mpr ⟨W2.nd,by simp,fun a ha b hb=>by rw [Aq.mp hb];exact fun z=>nD (z▸ha)⟩,fun j b o q1 q2=>?_,fun b z=>(Ah.mp z).elim (W2.rb b) fun q=>by rw [Aq.mp q];exact bD,W2.bt,W2.bk⟩ ?_
          . by_cases hi:j < ρ2.length
            . rw [Ag hi] at q1
              rw [Ag (by rw [<- W2.len];exact hi)] at q2
              exact ORep.gs gU rfl (W2.obj j b o q1 q2)
            . rw [Ap (by lia)] at q1
              rw [Ap (by rw [<- W2.len];lia)] at q2
              have hi0:j - ρ2.length=0:=by
                have:=(Ac.mp q1).1
                simp at this;lia
              rw [hi0] at q1
              rw [<- W2.len,hi0] at q2
              simp at q1 q2
              subst q1 q2
              exact ⟨ys,hDs,RepL.gs gU _ _ rd⟩
          . unfold RepV
            exact ⟨D,rfl,by rw [<- W2.len];simp⟩
theorem XO (S:vf X x scope cl caps idx) (hc:X.calm=true) (hi:DX X (.Name x px) iter src)
  (ht:∀ C s₀ H₀ ex,DTs (XY X scope cl C (x::caps) s₀ H₀ ex) ifs te) (he:∀ C s₀ H₀ ex,DE (XY X scope cl C (x::caps) s₀ H₀ ex) elt f)
  (hs:∀ x,foldedSetIterable iter X.env x=pure x:=by intro _;rfl):DE X (.ListComp elt [⟨.Name x px,iter,ifs,0⟩] scope pos) (Z4 nw src idx te f) :=
 L2.PE.imp (QeX (tt:=tDT X.K te) (te:=tD X.K f) S hc hi ht he hs) fun _ _ _ h=>VL h
theorem Qcj (i:Nat) {y:Str} {py spos:Pos} (hN:X.N.Nodup) (S:vf X x scope cl caps idx) (hc:X.calm=true) (hi:DX X (.Name x px) iter src)
  (ht:∀ C s₀ H₀ ex,DTs (XY X scope cl C (x::caps) s₀ H₀ ex) ifs te) (he:∀ C s₀ H₀ ex,DE (XY X scope cl C (x::caps) s₀ H₀ ex) elt f)
  (hy:X.N[i]?=some y:=by rfl) (hx:Loc X.env.scope y:=by first | exact Or.inl rfl | exact Or.inr rfl)
  (hsw:swapsWith (.ListComp elt [⟨.Name x px,iter,ifs,0⟩] scope pos) (some (.Name y py)) spos.line X.env=pure true:=by with_unfolding_all rfl)
  (hf:X.fn y=true∨X.env.scope.names.lookup y=some .local:=by first | exact .inl rfl | exact .inr rfl | assumption)
  (hs:∀ x,foldedSetIterable iter X.env x=pure x:=by intro _;rfl):DS X (.Assign [.Name y py] (.ListComp elt [⟨.Name x px,iter,ifs,0⟩] scope pos) spos) (QC i (Z4 nw src idx te f)) :=
 L2.PS.imp (Qfc (tt:=tDT X.K te) (te:=tD X.K f) S hc hi ht he hN hy hx hsw hf hs) fun _ _ _ h=>ul (fun _ _ _ q=>VL q) h
end
def WP {α:Type} (m:M α) (hp:Hs) (Q:α->Hs->Prop):Prop:=∃ x hp',m hp=some (x,hp')/\Q x hp'
section
variable {α β:Type} {m:M α} {k:α->M β} {hp:Hs} {Q:α->Hs->Prop} {R:β->Hs->Prop}
theorem WP_pure {x:α}:WP (pure x) hp Q↔Q x hp:=⟨fun ⟨y,h,e,q⟩=>by obtain ⟨rfl,rfl⟩:=Ql e;exact q,fun q=>⟨x,hp,rfl,q⟩⟩
theorem Vk:WP (m >>= k) hp R↔WP m hp fun x h=>WP (k x) h R:=⟨fun ⟨y,h,e,q⟩=>by obtain ⟨x,h1,e1,e2⟩:=Qg e;exact ⟨x,h1,e1,y,h,e2,q⟩,fun ⟨x,h1,e1,y,h,e2,q⟩=>⟨y,h,(Qf e1).trans e2,q⟩⟩
def WP.mono {Q':α->Hs->Prop} (h:WP m hp Q) (hq:∀ x h,Q x h->Q' x h):WP m hp Q':=let ⟨x,h1,e,q⟩:=h;⟨x,h1,e,hq x h1 q⟩
def WP.of {x:α} (e:m hp=some (x,hp')) (q:Q x hp'):WP m hp Q:=⟨x,hp',e,q⟩
end
section
variable {hp:Hs} {env:En} {Q:Fl×En->Hs->Prop}
theorem QiU {b:DV->DSx} (I:Nat->En->Hs->Prop) (ds:List DV) (h0:I 0 env hp) (hs:∀ (i:Nat) d,ds[i]?=some d->∀ env hp,I i env hp->WP (b d env) hp fun r h=>match r.1 with
    | .nx=>I (i+1) r.2 h
    | .ct=>I (i+1) r.2 h
    | .bk=>Q (.nx,r.2) h
    | .rt x=>Q (.rt x,r.2) h) (he:∀ env hp,I ds.length env hp->Q (.nx,env) hp):WP (QcB b ds env) hp Q:=by
  suffices h:∀ (m i:Nat) env hp,m+i=ds.length->I i env hp->WP (QcB b (ds.drop i) env) hp Q by simpa using h ds.length 0 env hp rfl h0
  intro m
  induction m with
  | zero =>
    intro i env hp e hI
    have:i=ds.length:=by lia
    subst this
    rw [Cr]
    exact WP_pure.mpr (he env hp hI)
  | succ m ih =>
    intro i env hp e hI
    have hlt:i < ds.length:=by lia
    rw [Bh hlt,QcB,Vk]
    refine (hs i ds[i] (Ab hlt) env hp hI).mono fun r h q=>?_
    obtain ⟨fl,env1⟩:=r
    cases fl with
    | nx=>exact ih (i+1) env1 h (by lia) q
    | ct=>exact ih (i+1) env1 h (by lia) q
    | bk=>exact WP_pure.mpr q
    | rt x=>exact WP_pure.mpr q
theorem kH {nxt:NX} {b:DV->DSx} (ds:List DV) (I:Nat->En->Hs->Prop) (hl:ds.length < 100000) (hn:∀ (i:Nat) env hp,i<=ds.length->I i env hp->nxt i hp=some (ds[i]?,hp)) (h0:I 0 env hp) (hs:∀ (i:Nat) d,ds[i]?=some d->∀ env hp,I i env hp->WP (b d env) hp fun r h=>match r.1 with
    | .nx=>I (i+1) r.2 h
    | .ct=>I (i+1) r.2 h
    | .bk=>Q (.nx,r.2) h
    | .rt x=>Q (.rt x,r.2) h) (he:∀ env hp,I ds.length env hp->Q (.nx,env) hp):WP (JZ nxt b 100000 0 env) hp Q:=by
  suffices h:∀ (m i n:Nat) env hp,m+i=ds.length->m < n->I i env hp->WP (JZ nxt b n i env) hp Q from h ds.length 0 100000 env hp rfl hl h0
  intro m
  induction m with
  | zero =>
    intro i n env hp e hn' hI
    have:i=ds.length:=by lia
    subst this
    obtain ⟨n,rfl⟩:∃ k,n=k+1:=⟨n - 1,by lia⟩
    rw [JZ,Vk]
    refine WP.of (hn _ env hp (Ae _) hI) ?_
    rw [show ds[ds.length]?=none by simp]
    exact WP_pure.mpr (he env hp hI)
  | succ m ih =>
    intro i n env hp e hn' hI
    have hlt:i < ds.length:=by lia
    obtain ⟨n,rfl⟩:∃ k,n=k+1:=⟨n - 1,by lia⟩
    rw [JZ,Vk]
    refine WP.of (hn i env hp (by lia) hI) ?_
    simp only [Ab hlt]
    rw [Vk]
    refine (hs i ds[i] (Ab hlt) env hp hI).mono fun r h q=>?_
    obtain ⟨fl,env1⟩:=r
    cases fl with
    | nx=>exact ih (i+1) n env1 h (by lia) (by lia) q
    | ct=>exact ih (i+1) n env1 h (by lia) (by lia) q
    | bk=>exact WP_pure.mpr q
    | rt x=>exact WP_pure.mpr q
theorem XD (ds:List DV) (i:Nat) (h:i<=ds.length) (hp:Hs):nxD ds i hp=some (ds[i]?,hp):=by unfold nxD;rw [C0 h];rfl
theorem yn {n:Nat} {ds:List DV} {hp:Hs} (h:hp[n]?=some (.lst ds)) (i:Nat):nxW n i hp=some (ds[i]?,hp):=by
 unfold nxW
 have:ZI n hp=some (.lst ds,hp):=by unfold ZI;rw [h]
 rw [Qf this];rfl
theorem Qb1 {b:DV->DSx} (ds:List DV) (I:Nat->En->Hs->Prop) (hl:ds.length < 100000) (h0:I 0 env hp) (hs:∀ (i:Nat) d,ds[i]?=some d->∀ env hp,I i env hp->WP (b d env) hp fun r h=>match r.1 with
  | .nx=>I (i+1) r.2 h
  | .ct=>I (i+1) r.2 h
  | .bk=>Q (.nx,r.2) h
  | .rt x=>Q (.rt x,r.2) h) (he:∀ env hp,I ds.length env hp->Q (.nx,env) hp):WP (JZ (nxD ds) b 100000 0 env) hp Q :=
 kH ds I hl (fun i env hp h _=>XD ds i h hp) h0 hs he
end
theorem uY {nxt:NX} {t:DV->M Bool} {f:DV->M DV} {p:Int->Bool} {g:Int->Int} (ns:List Int) (hn:∀ i,i<=ns.length->nxt i hp=some ((ns.map DV.int)[i]?,hp)) (ht:∀ x,t (.int x) hp=some (p x,hp)) (hf:∀ x,f (.int x) hp=some (.int (g x),hp)) (hl:ns.length < 100000):
    Z8 nxt t f 100000 0 hp=some (((ns.filter p).map g).map .int,hp):=by
  suffices h:∀ (m i n:Nat),m+i=ns.length->m < n->Z8 nxt t f n i hp=some ((((ns.drop i).filter p).map g).map .int,hp) by simpa using h ns.length 0 100000 rfl hl
  intro m
  induction m with
  | zero =>
    intro i n e hn'
    obtain ⟨n,rfl⟩:∃ k,n=k+1:=⟨n - 1,by lia⟩
    have:i=ns.length:=by lia
    subst this
    have e1:=hn ns.length (Ae _)
    rw [show (ns.map DV.int)[ns.length]?=none by simp] at e1
    rw [Z8,Qf e1,Cr]
    rfl
  | succ m ih =>
    intro i n e hn'
    obtain ⟨n,rfl⟩:∃ k,n=k+1:=⟨n - 1,by lia⟩
    have hlt:i < ns.length:=by lia
    have e1:=hn i (by lia)
    rw [Bt,Ab hlt] at e1
    have hi:=ih (i+1) n (by lia) (by lia)
    rw [Z8,Qf e1]
    simp only [Option.map_some]
    rw [Qf (ht ns[i]),Bh hlt]
    cases q:p ns[i] with
    | false=>rw [List.filter_cons_of_neg (by simp [q])];simpa using hi
    | true =>
      rw [List.filter_cons_of_pos q]
      simp only [if_true]
      rw [Qf (hf ns[i]),Qf hi]
      rfl
def kU (n:Nat) (hp:Hs) (i:Int):drf (n+1) hp (.int i)=some (.int i):=rfl
def kW (n:Nat) (hp:Hs) (b:Str):drf (n+1) hp (.str b)=some (.str b):=rfl
theorem ym {α:Type} {f:α->Option α}:∀ {xs:List α},(∀ x∈xs,f x=some x)->xs.mapM f=some xs
  | [],_=>rfl
  | x::xs,h=>by
    rw [List.mapM_cons,h x (by simp),ym fun y hy=>h y (Ax _ hy)];rfl
theorem kT (h:drf 40 hp d=some d'):Qbc d hp=some (d',hp):=by unfold Qbc;rw [h];rfl
theorem Qaa (hx:drf 40 hp x=some x') (hy:drf 40 hp y=some y') (s1:okP x'=true) (s2:okP y'=true):U0 x y hp=some (PyData.eqv (toP x') (toP y'),hp):=by
 unfold U0
 simp only [okP,Bb] at s1 s2
 rw [Qf (kT hx),Qf (kT hy)]
 simp only [s1.2,s2.2,Bool.and_self,Qx,if_true,C7]
 rfl
def vM (i j:Int) (hp:Hs):U0 (.int i) (.int j) hp=some (i==j,hp):=Qaa (kU 39 hp i) (kU 39 hp j) (Vo i) (Vo j)
theorem Xd (p:Key×DV) (r:List (Key×DV)) (j:Key):Z3 (p::r) j=if p.1=j then some p.2 else Z3 r j:=by
 by_cases e:p.1=j
 ·simp [Z3,Bz,e]
 ·simp [Z3,Bz,e]
theorem Qd0 (a b:List (Key×DV)) (j:Key):Z3 (a++b) j=match Z3 a j with
    | some d=>some d
    | none=>Z3 b j:=by
  induction a with
  | nil=>rfl
  | cons p r ih =>
    rw [List.cons_append,Xd,Xd]
    split
    . rfl
    . exact ih
theorem QdZ (kvs:List (Key×DV)) (k:Key):(kvs.any fun kv=>decide (kv.1=k))=(Z3 kvs k).isSome:=by
  induction kvs with
  | nil=>rfl
  | cons p r ih =>
    rw [Ci,Xd,ih]
    by_cases e:p.1=k<;>simp [e]
theorem QbU (kvs:List (Key×DV)) (k j:Key) (d:DV):Z3 (kvs.map fun kv=>if kv.1=k then (kv.1,d) else kv) j=(Z3 kvs j).map fun x=>if j=k then d else x:=by
  induction kvs with
  | nil=>rfl
  | cons p r ih =>
    rw [Ba,Xd,Xd,ih]
    by_cases e:p.1=k
    . rw [C0 e]
      by_cases e2:p.1=j
      . have:j=k:=e2▸e
        simp [e2,this]
      . simp [e2]
    . rw [Cz e]
      by_cases e2:p.1=j
      . have:¬ j=k:=e2▸e
        simp [e2,this]
      . simp [e2]
theorem Qd1 (kvs:List (Key×DV)) (k j:Key) (d:DV):Z3 (Y5 kvs k d) j=if j=k then some d else Z3 kvs j:=by
  unfold Y5
  rw [QdZ]
  cases q:Z3 kvs k with
  | none =>
    rw [Cz (by simp),Qd0,Xd]
    by_cases e:j=k
    . subst e;simp [q]
    . rw [Cz e,Cz (Ne.symm e)]
      cases Z3 kvs j<;>rfl
  | some x =>
    rw [C0 (show (some x).isSome=true from rfl),QbU]
    by_cases e:j=k
    . subst e;simp [q]
    . simp only [Cz e]
      cases Z3 kvs j<;>rfl
theorem Qdx (kvs:List (Key×DV)) (k:Key) (d:DV):(Y5 kvs k d).length<=kvs.length+1:=by
 unfold Y5;split<;>simp
theorem Zi {n:Nat} {hp:Hs} (h:hp[n]?=some o):ZI n hp=some (o,hp):=by unfold ZI;rw [h]
theorem ud {n:Nat} {kvs:List (Key×DV)} {hp:Hs} (h:hp[n]?=some (.dic kvs)) (hk:zq i=some k) (hl:kvs.length < 100000):yq (.ref n) i d hp=some ((),hp.set n (.dic (Y5 kvs k d))):=by
 show (ZI n >>= _) hp=_
 rw [Qf (Zi h)]
 have e1:Xq i hp=some (k,hp):=by unfold Xq;rw [hk];rfl
 have e2:Qx (decide (kvs.length < lim)) hp=some ((),hp):=by rw [show decide (kvs.length < lim)=true from C4 hl];rfl
 show (Xq i >>= fun k=>Qx (decide (kvs.length < lim)) >>= fun _=>xL n (.dic (Y5 kvs k d))) hp=_
 rw [Qf e1,Qf e2];rfl
theorem GU {f:DEx} {g:DGx} (h:f env hp=some (d,hp1)) (h':g d env hp1=some (env',hp2)):Xw f g env hp=some ((.nx,env'),hp2):=by
 unfold Xw
 rw [Qf h,Qf h'];rfl
theorem ZB {α:Type} {m:M α} {x:α} (h:m=pure x) (hp:Hs):m hp=some (x,hp):=by rw [h];rfl
theorem QdD {c:DTx} {b:Bool} (h:c env hp=some (b,hp1)):sIf c f g env hp=if b=true then f env hp1 else g env hp1:=by
 unfold sIf
 rw [Qf h]
 cases b<;>rfl
theorem QU {f:DEx} {b:Bool} (h:f env hp=some (.bl b,hp1)):eB f env hp=some (b,hp1):=by
 unfold eB
 rw [Qf h];rfl
theorem Qi {g:DV->DV->M DV} {f f':DEx} (h:f env hp=some (x,hp1)) (h':f' env hp1=some (y,hp2)) (hg:g x y hp2=some (d,hp3)):Qk g f f' env hp=some (d,hp3):=by
 unfold Qk
 rw [Qf h,Qf h',hg]
theorem Qy {f:DEx} (h:f env hp=some (d,hp1)):QF f env hp=some ((.rt d,env),hp1):=by
 unfold QF
 rw [Qf h];rfl
theorem Q5 {f g:DSx} (h:f env hp=some ((.rt d,env1),hp1)):Qr f g env hp=some ((.rt d,env1),hp1):=by
 unfold Qr
 rw [Qf h];rfl
theorem JN {f:DEx} (h:f env hp=some (d,hp1)):ZP f env hp=some ((.nx,env),hp1):=by
 unfold ZP
 rw [Qf h];rfl
theorem Qv {n:Nat} {body:DSx} {ds:List DV} (h:body (ds.map .val++List.replicate (n - ds.length) .un) hp=some ((.rt d,env),hp1)):Q9 n body ds hp=some (d,hp1):=by
 unfold Q9
 rw [Qf h];rfl
theorem Xp {c:DTx} {b:Bool} (h:c env hp=some (b,hp1)):Jx c env hp=some (!b,hp1):=by
 unfold Jx
 rw [Qf h];rfl
theorem vI {f g:DEx} {b:Bool} (h:f env hp=some (.bl b,hp1)):Xn f g env hp=if b=true then g env hp1 else some (.bl false,hp1):=by
 unfold Xn
 rw [Qf h]
 cases b<;>rfl
variable {X:Cx}
def srt (ns:List Int):List Int:=ns.mergeSort (fun a b=>decide (a<=b))
def Uy (ns:List Int):(srt ns).Perm ns:=List.mergeSort_perm _ _
theorem km (ns:List Int):(srt ns).Pairwise (· <= ·):=by
 have:=List.pairwise_mergeSort (le:=fun a b:Int=>decide (a<=b)) (fun a b c h1 h2=>by simp at *;lia) (fun a b=>by simp;lia) ns
 exact this.imp fun h=>by simpa using h
theorem Uz {ns ms:List Int} (p:ms.Perm ns) (h:ms.Pairwise (· <= ·)):ms=srt ns :=
 (p.trans (Uy ns).symm).eq_of_pairwise (fun a b _ _ h1 h2=>Int.le_antisymm h1 h2) h (km ns)
theorem KC:∀ {ns:List Int} {us:List Value},Vals (ns.map V.int) us->IntsAre us ns
 | [],_,.nil=>.nil
 | n::ns,_,.cons ⟨t,e⟩ r=>by subst e;exact .cons n t (KC r)
theorem qt:∀ {us:List Value} {ns:List Int},IntsAre us ns->Vals (ns.map V.int) us
 | _,_,.nil=>.nil
 | _,_,.cons n t r=>.cons ⟨t,rfl⟩ (qt r)
theorem Qak:∀ {us:List Value} {ns:List Int},us.length=ns.length->(∀ (j:Nat) (u:Value) (n:Int),us[j]?=some u->ns[j]?=some n->∃ t,u=.int n t)->IntsAre us ns
  | [],[],_,_=>.nil
  | u::us,n::ns,hl,h=>by
    obtain ⟨t,rfl⟩:=h 0 u n rfl rfl
    exact .cons n t (Qak (by simpa using hl) fun j u n a b=>h (j+1) u n a b)
theorem Qaq:∀ {kvs:List (Key×V)} {vs:List (Key×Value)},KV kvs vs->vs.map (·.1)=kvs.map (·.1)
 | _,_,.nil=>rfl
 | _,_,.cons a b=>by rw [Ba,Ba,Qaq b,a.1]
def QbY (K:Aa) (H:Hp) (p:Addr) (ns:List Int):Prop:=SqL K H p (ns.map .int)∨∃ kvs:List (Key×V),H p=some (.dK kvs)/\kvs.map (·.1)=ns.map .inl
def Kt:List DV->Option (List Int)
 | []=>some []
 | .int n::r=>(Kt r).map (n :: ·)
 | _=>none
def xo:List (Key×DV)->Option (List Int)
 | []=>some []
 | (.inl n,_)::r=>(xo r).map (n :: ·)
 | _=>none
def gK {α:Type}:Option α->M α
 | some d=>pure d
 | none=>failure
theorem yo {α:Type} {o:Option α} {d:α} {hp hp':Hs} (h:gK o hp=some (d,hp')):o=some d/\hp=hp':=by
 cases o with
 | none=>cases h
 | some x=>obtain ⟨rfl,rfl⟩:=Ql h;exact ⟨rfl,rfl⟩
def QcK:DV->M (List Int)
  | .lst ds=>gK (Kt ds)
  | .ref n=>do
    match <- ZI n with
    | .lst ds=>gK (Kt ds)
    | .dic kvs=>gK (xo kvs)
    | _=>failure
  | _=>failure
variable {K:Aa} {ρ:Ee} {B:Ed} {H:Hp}
theorem x5:∀ {ds:List DV} {ns:List Int} {xs:List V},Kt ds=some ns->RepL K ρ B H ds xs->xs=ns.map .int
  | [],_,xs,h,r=>by cases h;exact r
  | .int n::ds,ns,xs,h,⟨x,q,e,r1,r2⟩=>by
    obtain ⟨ms,h1,rfl⟩:=Cb.mp (show (Kt ds).map (n :: ·)=some ns from h)
    rw [e,r1.intI,x5 h1 r2];rfl
theorem KB:∀ ns:List Int,RepL K ρ B H (ns.map .int) (ns.map .int)
 | []=>rfl
 | n::ns=>⟨_,_,rfl,JE,KB ns⟩
theorem VQ:∀ {kvs:List (Key×DV)} {ns:List Int},xo kvs=some ns->kvs.map (·.1)=ns.map .inl
  | [],_,h=>by cases h;rfl
  | (.inl n,d)::kvs,ns,h=>by
    obtain ⟨ms,h1,rfl⟩:=Cb.mp (show (xo kvs).map (n :: ·)=some ns from h)
    rw [Ba,Ba,VQ h1]
abbrev ClsN (K:Aa) (c:Str) (C:Addr):Prop:=PySem.W.nsIn K mainGlobals c=some (some (.ref C))
theorem ClsN.uniq {K:Aa} {c:Str} {C C':Addr} (h:ClsN K c C) (h':ClsN K c C'):C=C':=by
 have e:=h.symm.trans h';cases e;rfl
structure X8 (K:Aa) (c f:Str):Prop where
 ex:∃ C,ClsN K c C/\Cls K C/\NoAttr K C f
structure Xj (P:Program) (w:World) (K:Aa) (mg:Ea) (O8:Heap) (c m:Str) (k n:Nat) (F:Ef):Prop where
 ex:∃ (C f:Addr) (fd:FuncData) (ps:List Str),ClsN K c C/\Cls K C/\uO K C m f/\zm P w K mg O8 CX0 k f fd ps (spD K n F)/\Binds K fd ps []
structure QaV (P:Program) (w:World) (K:Aa) (mg:Ea) (O8:Heap) (c:Str) (k n:Nat) (F:Ef):Prop where
 ex:∃ (C f:Addr) (fd:FuncData) (ps:List Str),ClsN K c C/\mg c=some (.ref C)/\Mk K C f/\zm P w K mg O8 CX0 k f fd ps (spD K n F)/\Binds K fd ps []
section
variable {K:Aa} {ρ:Ee} {B:Ed} {H:Hp} {hp:Hs}
abbrev RepF (K:Aa) (ρ:Ee) (B:Ed) (H:Hp):List (Str×DV)->List (Str×V)->Prop:=Paired fun p q=>p.1=q.1/\RepV K ρ B H p.2 q.2
theorem QaE:∀ {fs:List (Str×DV)} {xs:List (Str×V)},xs.map (·.1)=fs.map (·.1)->RepL K ρ B H (fs.map (·.2)) (xs.map (·.2))->RepF K ρ B H fs xs
  | [],[],_,_=>.nil
  | [],_::_,e,_=>by simp at e
  | _::_,[],e,_=>by simp at e
  | p::fs,q::xs,e,r=>by
    simp only [Ba,List.cons.injEq] at e
    simp only [Ba] at r
    unfold RepL at r
    obtain ⟨x,t,e2,h1,h2⟩:=r
    simp only [List.cons.injEq] at e2
    obtain ⟨rfl,rfl⟩:=e2
    exact .cons ⟨e.1.symm,h1⟩ (QaE e.2 h2)
theorem RepF.to {fs:List (Str×DV)} {xs:List (Str×V)} (r:RepF K ρ B H fs xs):xs.map (·.1)=fs.map (·.1)/\RepL K ρ B H (fs.map (·.2)) (xs.map (·.2)):=by
 induction r with
 | nil=>exact ⟨rfl,RepL.nil⟩
 | cons h _ ih=>exact ⟨by simp [ih.1,h.1],by simpa using RepL.cons h.2 ih.2⟩
theorem RepF.look {fs:List (Str×DV)} {xs:List (Str×V)} (r:RepF K ρ B H fs xs) (f:Str):(fs.lookup f=none/\xs.lookup f=none)∨∃ d v,fs.lookup f=some d/\xs.lookup f=some v/\RepV K ρ B H d v:=by
  induction r with
  | nil=>exact .inl ⟨rfl,rfl⟩
  | @cons p q _ _ h _ ih =>
    obtain ⟨p1,p2⟩:=p
    obtain ⟨q1,q2⟩:=q
    obtain ⟨h1,h2⟩:=h
    have h1:p1=q1:=h1
    subst h1
    cases e:f==p1 with
    | true=>exact .inr ⟨p2,q2,by simp [List.lookup,e],by simp [List.lookup,e],h2⟩
    | false=>simpa [List.lookup,e] using ih
def JK (f:Str) (d:DV):List (Str×DV)->List (Str×DV)
 | []=>[(f,d)]
 | (g,x)::r=>if g=f then (g,d)::r else (g,x)::JK f d r
theorem RepF.put (r:RepF K ρ B H fs xs) (f:Str) (rd:RepV K ρ B H d v):RepF K ρ B H (JK f d fs) (Y6 f v xs):=by
  induction r with
  | nil=>exact .cons ⟨rfl,rd⟩ .nil
  | @cons p q _ _ h t ih =>
    obtain ⟨p1,p2⟩:=p
    obtain ⟨q1,q2⟩:=q
    obtain ⟨h1,h2⟩:=h
    have h1:p1=q1:=h1
    subst h1
    unfold JK Y6
    by_cases e:p1=f
    . rw [C0 e,C0 e];exact .cons ⟨rfl,rd⟩ t
    . rw [Cz e,Cz e];exact .cons ⟨rfl,h2⟩ ih
def RepF.len {fs:List (Str×DV)} {xs:List (Str×V)} (r:RepF K ρ B H fs xs):fs.length=xs.length:=Paired.length r
def RepF.gs (g:Gs K ρ B H ρ' B' H') (r:RepF K ρ B H fs xs):RepF K ρ' B' H' fs xs:=L2.Paired.mapP r fun _ _ h=>⟨h.1,RepV.gs g _ _ h.2⟩
theorem ORep.ins {a:Addr} {c:Str} (h:ORep K ρ B H a (.ins c fs)):∃ C dx xs,ClsN K c C/\H a=some (.ins C dx xs)/\RepF K ρ B H fs xs:=by
 obtain ⟨C,dx,xs,nc,e,ek,rl⟩:=h
 exact ⟨C,dx,xs,nc,e,QaE ek rl⟩
def RepF.orep {a C dx:Addr} {c:Str} (nc:ClsN K c C) (r:RepF K ρ B H fs xs) (e:H a=some (.ins C dx xs)):ORep K ρ B H a (.ins c fs):=⟨C,dx,xs,nc,e,r.to.1,r.to.2⟩
theorem Qd8 {n:Nat} {a C dx:Addr} {c:Str} (W:WOk K ρ B hp H) (i:ρ[n]?=some a) (nc:ClsN K c C) (e:H a=some (.ins C dx xs)) (r:RepF K ρ B H fs' xs'):Gr K ρ B H ρ B (upd H a (.ins C dx xs'))/\WOk K ρ B (hp.set n (.ins c fs')) (upd H a (.ins C dx xs')):=by
 have g:Gr K ρ B H ρ B (upd H a (.ins C dx xs')):=Gr.wset i e
 exact ⟨g,W.wset (o':=.ins C dx xs') (v:=.ins c fs') i e ((r.gs (g.gs W.rb)).orep nc Za)⟩
end
def onI {α:Type} (c:Str) (x:DV) (k:Nat->List (Str×DV)->M α):M α:=match x with
  | .ref n=>do
    match <- ZI n with
    | .ins c' fs=>do Qx (decide (c'=c));k n fs
    | _=>failure
  | _=>failure
theorem xA {α:Type} {c:Str} {x:DV} {d:α} {k:Nat->List (Str×DV)->M α} {hp hp':Hs} (h:onI c x k hp=some (d,hp')):∃ n fs,x=.ref n/\hp[n]?=some (.ins c fs)/\k n fs hp=some (d,hp'):=by
  cases x with
  | ref n =>
    obtain ⟨o,hp1,e1,e2⟩:=Qg (show (ZI n >>= fun o=>(match o with | .ins c' fs=>do Qx (decide (c'=c));k n fs | _=>failure:M α)) hp=some (d,hp') from h)
    obtain ⟨e3,rfl⟩:=ZJ e1
    cases o with
    | ins c' fs =>
      obtain ⟨_,hp2,e4,e5⟩:=Qg e2
      obtain ⟨hl,rfl⟩:=QK e4
      obtain rfl:=C5 hl
      exact ⟨n,fs,rfl,e3,e5⟩
    | lst _=>cases e2
    | dic _=>cases e2
  | non=>cases h
  | bl _=>cases h
  | int _=>cases h
  | str _=>cases h
  | tup _=>cases h
  | lst _=>cases h
def jG (c f:Str) (x:DV):M DV:=onI c x fun _ fs=>zN (fs.lookup f)
def jO (c f:Str) (x d:DV):M Unit:=onI c x fun n fs=>do Qx (decide (fs.length < 1000));xL n (.ins c (JK f d fs))
def Qz (c f:Str) (g:DEx):DEx:=fun env=>do let x <- g env;jG c f x
def Zc (c f:Str) (fo fv:DEx):DSx:=fun env=>do let y <- fv env;let x <- fo env;jO c f x y;pure (.nx,env)
def X6 (c f:Str) (op:DV->DV->M DV) (fo fv:DEx):DSx:=fun env=>do let x <- fo env;let v <- jG c f x;let y <- fv env;let z <- op v y;jO c f x z;pure (.nx,env)
def zo:DV->DV->M DV
 | .int i,.int j=>pure (.int (i+j))
 | _,_=>failure
def G8:DV->DV->M DV
 | .int i,.int j=>pure (.int (i - j))
 | _,_=>failure
def QJ (c m:Str) (n:Nat) (F:Ef) (fo:DEx) (fa:DAx):DEx:=fun env=>do
 let x <- fo env
 onI c x fun _ fs=>Qx (fs.lookup m).isNone
 let ds <- fa env
 Qx (decide (ds.length+1=n))
 F (x::ds)
def Xo (c:Str) (n:Nat) (F:Ef) (fa:DAx):DEx:=fun env=>do
 let ds <- fa env
 Qx (decide (ds.length+1=n))
 let x <- XX (.ins c [])
 let r <- F (x::ds)
 match r with
 | .non=>pure x
 | _=>failure
section
variable {X:Cx} {o e value:Expr} {c f m:Str} {pos pos' tpos apos:Pos} {fo fv:DEx}
theorem vP {K:Aa} {H:Hp} {hp hp':Hs} {v:V} (W:WOk K ρ B hp H) (r:RepV K ρ B H x v) (h:jG c f x hp=some (d,hp')):hp=hp'/\∃ a C dx xs u,v=.ref a/\ClsN K c C/\H a=some (.ins C dx xs)/\xs.lookup f=some u/\RepV K ρ B H d u:=by
 obtain ⟨n,fs,rfl,e1,e2⟩:=xA h
 obtain ⟨hl,rfl⟩:=jg e2
 obtain ⟨a,rfl,i,ro⟩:=RepV.refW W r e1
 obtain ⟨C,dx,xs,nc,e,rf⟩:=ro.ins
 rcases rf.look f with ⟨z,_⟩ | ⟨d',u,z,zu,ru⟩
 ·rw [hl] at z;cases z
 ·rw [hl] at z;cases z
  exact ⟨rfl,a,C,dx,xs,u,rfl,nc,e,zu,ru⟩
theorem uv {K:Aa} {H:Hp} {v y:V} {z:Unit} (W:WOk K ρ B hp H) (r:RepV K ρ B H x v) (rd:RepV K ρ B H d y) (h:jO c f x d hp=some (z,hp')):∃ a C dx xs,v=.ref a/\ClsN K c C/\H a=some (.ins C dx xs)/\xs.length < 1000/\Gr K ρ B H ρ B (upd H a (.ins C dx (Y6 f y xs)))/\WOk K ρ B hp' (upd H a (.ins C dx (Y6 f y xs))):=by
 obtain ⟨n,fs,rfl,e1,e2⟩:=xA h
 obtain ⟨_,hp1,e3,e4⟩:=Qg e2
 obtain ⟨hl,rfl⟩:=QK e3
 cases e4
 obtain ⟨a,rfl,i,ro⟩:=RepV.refW W r e1
 obtain ⟨C,dx,xs,nc,e,rf⟩:=ro.ins
 obtain ⟨g,W'⟩:=Qd8 W i nc e (rf.put f rd)
 exact ⟨a,C,dx,xs,rfl,nc,e,by rw [<- rf.len];exact C5 hl,g,W'⟩
theorem Qw (hk:X8 X.K c f) (ho:DE X o fo) (hb:attributeBase o f X.env (eval o X.env)=eval o X.env:=by rfl):DE X (.Attribute o f pos) (Qz c f fo) :=
 L2.PE.imp (QgT ho hb) fun σ H Q ⟨Z,env,ρ,B,hp,d,hp',S,e,k⟩=>by
  obtain ⟨x,hp1,e1,e2⟩:=Qg e
  refine tD.run S e1 fun v ρ1 B1 H1 g1 S1 r1=>?_
  obtain ⟨rfl,a,C,dx,xs,u,rfl,nc,ea,hl,ru⟩:=vP S1.wo r1 e2
  obtain ⟨C',nc',cl,na⟩:=hk.ex
  obtain rfl:=nc.uniq nc'
  exact ⟨a,C,dx,xs,u,rfl,ea,cl,na,hl,k u ρ1 B1 H1 g1 S1.wo ru⟩
theorem Zh (hk:X8 X.K c f) (ho:DE X o fo) (hv:DE X value fv) (hs:swapsWith value (some (.Attribute o f pos')) pos.line X.env=pure false:=by rfl):DS X (.Assign [.Attribute o f pos'] value pos) (Zc c f fo fv) :=
 L2.PS.imp (Qhd ho hv hs) fun D σ H ⟨Z,env,ρ,B,hp,fl,env',hp',S,e,k⟩=>by
  obtain ⟨y,hp1,e1,e⟩:=Qg e
  obtain ⟨x,hp2,e2,e⟩:=Qg e
  obtain ⟨z,hp3,e3,e⟩:=Qg e
  obtain ⟨q,rfl⟩:=Ql e
  cases q
  refine tD.run S e1 fun u ρ1 B1 H1 g1 S1 r1=>tD.run S1 e2 fun v ρ2 B2 H2 g2 S2 r2=>?_
  obtain ⟨a,C,dx,xs,rfl,nc,ea,hl,g,W⟩:=uv S2.wo r2 (RepV.grow S1.wo.rb g2 _ _ r1) e3
  obtain ⟨C',nc',cl,na⟩:=hk.ex
  obtain rfl:=nc.uniq nc'
  exact ⟨a,C,dx,xs,rfl,ea,cl,na,hl,k σ ρ2 B2 _ ((g1.trans (g2.trans g)).gs S.wo.rb) (S2.grow g W)⟩
theorem jc (hk:X8 X.K c f) (ho:DE X o fo) (hv:DE X value fv):DS X (.AugAssign (.Attribute o f tpos) .Add value pos) (X6 c f zo fo fv) :=
 L2.PS.imp (QbH ho hv Qgq) fun D σ H ⟨Z,env,ρ,B,hp,fl,env',hp',S,e,k⟩=>by
  obtain ⟨x,hp1,e1,e⟩:=Qg e
  obtain ⟨v,hp2,e2,e⟩:=Qg e
  obtain ⟨y,hp3,e3,e⟩:=Qg e
  obtain ⟨z,hp4,e4,e⟩:=Qg e
  obtain ⟨_,hp5,e5,e⟩:=Qg e
  obtain ⟨q,rfl⟩:=Ql e
  cases q
  refine tD.run S e1 fun vx ρ1 B1 H1 g1 S1 r1=>?_
  obtain ⟨rfl,a,C,dx,xs,u,rfl,nc,ea,hl,ru⟩:=vP S1.wo r1 e2
  obtain ⟨C',nc',cl,na⟩:=hk.ex
  obtain rfl:=nc.uniq nc'
  refine ⟨a,C,dx,xs,u,rfl,ea,cl,na,hl,tD.run S1 e3 fun w ρ2 B2 H2 g2 S2 r2=>?_⟩
  have ru2:=RepV.grow S1.wo.rb g2 _ _ ru
  have r12:=RepV.grow S1.wo.rb g2 _ _ r1
  unfold zo at e4
  split at e4
  ·obtain ⟨rfl,rfl⟩:=Ql e4
   refine ⟨_,_,ru2.intI,r2.intI,?_⟩
   obtain ⟨a',C2,dx',xs',q1,nc2,ea',hl',g,W⟩:=uv S2.wo r12 JE e5
   cases q1
   obtain rfl:=nc2.uniq nc
   exact ⟨dx',xs',ea',hl',k σ ρ2 B2 _ ((g1.trans (g2.trans g)).gs S.wo.rb) (S2.grow g W)⟩
  ·cases e4
theorem Qc3 {C:Addr} {n:Nat} {F:Ef} (nc:ClsN X.K c C) (h:tD X.K (QJ c m n F fo fa) σ H Q):QdV C m (spD X.K n F) [] E0 (tD X.K fo) (tDA X.K fa) σ H Q:=by
 obtain ⟨Z,env,ρ,B,hp,d,hp',S,e,k⟩:=h
 obtain ⟨x,hp1,e1,e⟩:=Qg e
 obtain ⟨_,hp2,e2,e⟩:=Qg e
 obtain ⟨ds,hp3,e3,e⟩:=Qg e
 obtain ⟨_,hp4,e4,ef⟩:=Qg e
 obtain ⟨hl,rfl⟩:=QK e4
 refine tD.run S e1 fun v ρ1 B1 H1 g1 S1 r1=>?_
 obtain ⟨i,fs,rfl,w1,w2⟩:=xA e2
 obtain ⟨hn,rfl⟩:=QK w2
 obtain ⟨a,rfl,_,ro⟩:=RepV.refW S1.wo r1 w1
 obtain ⟨C',dx,xs,nc',ea,rf⟩:=ro.ins
 obtain rfl:=nc'.uniq nc
 have hx:xs.lookup m=none:=by
  rcases rf.look m with ⟨_,z⟩ | ⟨_,_,z,_,_⟩
  ·exact z
  ·rw [z] at hn;cases hn
 refine ⟨a,dx,xs,rfl,ea,hx,tDA.run S1 e3 fun vs ρ2 B2 H2 g2 S2 r2=>?_⟩
 refine ⟨?_,ρ2,B2,hp3,_,d,hp',S2.wo,?_,ef,k.after (g1.trans g2)⟩
 ·rw [Bs,A9,<- r2.length];exact C5 hl
 ·rw [Bs];exact RepL.cons (RepV.grow S1.wo.rb g2 _ _ r1) r2
theorem Zf {k j n:Nat} {F:Ef} {es:List Expr} {pl:Sem Bool} (h:Xj X.prog X.w X.K X.mg X.O8 c m j n F) (hr:Room k X.A) (hj:j<=k) (hx:YT CX0 X E0) (ho:DE X o fo) (ha:DA X (e::es) fa)
  (hst:starEach (e::es) X.env=(false,eval e X.env)::starEach es X.env:=by rfl) (hpl:(backTo pos (starEach es X.env)).any (·.1)=false:=by rfl)
  (ht:eval (.Call (.Attribute o m apos) (e::es) [] pos) X.env=(do
   let ov <- eval o X.env
   standAt apos.atName
   let (f,first) <- holding [ov] (getMethod ov m pl)
   callWith pos f first (backTo pos (starEach (e::es) X.env)) (backToKw pos (keywordEach [] X.env))):=by rfl):DE X (.Call (.Attribute o m apos) (e::es) [] pos) (QJ c m n F fo fa):=by
 obtain ⟨C,g,fd,ps,nc,cl,hm,F',hb⟩:=h.ex
 exact L2.PE.imp (QeY (pl:=pl) ho cl hm F' (hr.mono hj) hb .nil hx ha hst hpl ht) fun σ H Q q=>Qc3 nc q
theorem JH {k j n:Nat} {F:Ef} {pl:Sem Bool} (h:Xj X.prog X.w X.K X.mg X.O8 c m j n F) (hr:Room k X.A) (hj:j<=k) (hx:YT CX0 X E0) (ho:DE X o fo)
  (ht:eval (.Call (.Attribute o m apos) [] [] pos) X.env=(do
   let ov <- eval o X.env
   standAt apos.atName
   let (f,first) <- holding [ov] (getMethod ov m pl)
   callWith pos f first (backTo pos (starEach [] X.env)) (backToKw pos (keywordEach [] X.env))):=by rfl):DE X (.Call (.Attribute o m apos) [] [] pos) (QJ c m n F fo Qn):=by
 obtain ⟨C,g,fd,ps,nc,cl,hm,F',hb⟩:=h.ex
 refine L2.PE.imp (Qdl (pl:=pl) ho cl hm F' (hr.mono hj) hb .nil hx ht) fun σ H Q q=>?_
 obtain ⟨Z,env,ρ,B,hp,d,hp',S,e,k⟩:=q
 obtain ⟨x,hp1,e1,e⟩:=Qg e
 obtain ⟨_,hp2,e2,e⟩:=Qg e
 obtain ⟨ds,hp3,e3,e⟩:=Qg e
 obtain ⟨_,hp4,e4,ef⟩:=Qg e
 obtain ⟨hl,rfl⟩:=QK e4
 obtain ⟨rfl,rfl⟩:=Ql e3
 refine tD.run S e1 fun v ρ1 B1 H1 g1 S1 r1=>?_
 obtain ⟨i,fs,rfl,w1,w2⟩:=xA e2
 obtain ⟨hn,rfl⟩:=QK w2
 obtain ⟨a,rfl,_,ro⟩:=RepV.refW S1.wo r1 w1
 obtain ⟨C',dx,xs,nc',ea,rf⟩:=ro.ins
 obtain rfl:=nc'.uniq nc
 have hx:xs.lookup m=none:=by
  rcases rf.look m with ⟨_,z⟩ | ⟨_,_,z,_,_⟩
  ·exact z
  ·rw [z] at hn;cases hn
 exact ⟨a,dx,xs,rfl,ea,hx,C5 hl,ρ1,B1,hp1,_,d,hp',S1.wo,RepL.cons r1 RepL.nil,ef,k.after g1⟩
theorem QbM {k:Nat} {C g:Addr} {O9:C9} {σ:St} {H:Hp} {s:Shared} {Q:VK} {us:List Value} {vs:List V} (M:Mk X.K C g) (F:zm X.prog X.w X.K X.mg X.O8 CX0 k g fd ps sp) (hr:Room (k+1) X.A) (hb:Binds X.K fd ps [])
    (hx:YT CX0 X E0) (I:Inv X O9 σ H s) (r:Vals vs us)
    (h:∀ x dx,H x=none->H dx=none->dx≠x->X.K.lookup x=none->sp (.ref x::vs) (upd (upd H dx (.own x)) x (.ins C dx [])) (fun v H2=>v=.non/\Q (.ref x) H2) E0) :
    wpAny (model X.prog X.w) X.A (call (.ref C) us) (EP X O9 σ Q) X.xe s:=by
  have kf:X.K.lookup (s.heap.objs.size+1)=none:=by
    cases q:X.K.lookup (s.heap.objs.size+1) with
    | none=>rfl
    | some o=>exact absurd (Ao (I.kIn _ _ q)) (Nat.not_lt.mpr (Nat.le_succ _))
  have hq:=h _ _ (I.hok.fresh (Nat.le_succ _)) (I.hok.fresh (Ae _)) (Be (Cq _)) kf
  have J:=Inv.made (C:=C) I
  have rr:Vals (V.ref (s.heap.objs.size+1)::vs) (Value.ref (s.heap.objs.size+1)::us):=.cons rfl r
  have ll:((Value.ref (s.heap.objs.size+1)::us)++[]).length=ps.length:=by
    rw [Bs,<- rr.length];exact F.len _ _ _ _ hq
  have bb:=hb _ (Value.ref (s.heap.objs.size+1)::us) J.kIn ll
  rw [Bs] at bb
  refine wpAny_call (Qc1 (f:=g) I.kIn M.makes M.init (beq_iff_eq.mp M.fn) (codeAny_mono (F.run _ X.stack _ _ ⟨Value.ref (s.heap.objs.size+1)::us,[]⟩ _ _ _ E0 (hr.make C us []) (J.env0.make C us []) bb rr hq) fun q s' z=>?_))
  cases q with
  | error e=>exact hx O9 σ _ _ e s' J z
  | ok fl =>
    cases fl with
    | ret u =>
      obtain ⟨v,H',I3,rv,ev,q3⟩:=J.after z
      subst ev
      exact ⟨rv,⟨V.ref (s.heap.objs.size+1),H',I3,rfl,q3⟩⟩
    | next=>exact z.elim
    | brk=>exact z.elim
    | cont=>exact z.elim
theorem Qc0 {C:Addr} {n:Nat} {F:Ef} {K:Aa} {hp hp':Hs} {ds:List DV} {d:DV} {Q:VK} (nc:ClsN K c C) (hl:ds.length+1=n) (W:WOk K ρ B hp H) (r:RepL K ρ B H ds vs)
  (e:(do let x <- XX (.ins c []);let r <- F (x::ds);match r with | .non=>pure x | _=>failure:M DV) hp=some (d,hp')) (k:Fol K ρ B H d hp' Q) :
  ∀ x dx,H x=none->H dx=none->dx≠x->K.lookup x=none->spD K n F (.ref x::vs) (upd (upd H dx (.own x)) x (.ins C dx [])) (fun v H2=>v=.non/\Q (.ref x) H2) E0:=by
 intro x dx hx hdx ne kf
 have e1:F (.ref hp.length::ds) (hp++[.ins c []])=some (.non,hp')/\d=.ref hp.length:=by
  obtain ⟨y,hp1,a1,a2⟩:=Qg e
  cases a1
  obtain ⟨y,hp2,a3,a4⟩:=Qg a2
  cases y with
  | non=>obtain ⟨rfl,rfl⟩:=Ql a4;exact ⟨a3,rfl⟩
  | bl _=>cases a4
  | int _=>cases a4
  | str _=>cases a4
  | tup _=>cases a4
  | lst _=>cases a4
  | ref _=>cases a4
 obtain ⟨e1,rfl⟩:=e1
 have hx':upd H dx (.own x) x=none:=by rw [Q4 (Ne.symm ne)];exact hx
 have g0:Gr K ρ B H ρ B (upd H dx (.own x)):=Gr.laid hdx
 have g1:Gr K ρ B (upd H dx (.own x)) (ρ++[x]) (xX B x) (upd (upd H dx (.own x)) x (.ins C dx [])):=Gr.wnew hx' kf
 have W1:WOk K (ρ++[x]) (xX B x) (hp++[.ins c []]) (upd (upd H dx (.own x)) x (.ins C dx [])):=(W.laid hdx).wnew hx' kf (RepF.orep nc .nil Za)
 have rx:RepV K (ρ++[x]) (xX B x) (upd (upd H dx (.own x)) x (.ins C dx [])) (.ref hp.length) (.ref x):=by
  unfold RepV
  exact ⟨x,rfl,by rw [<- W.len];simp⟩
 refine ⟨?_,ρ++[x],xX B x,hp++[.ins c []],.ref hp.length::ds,.non,hp',W1,RepL.cons rx (RepL.grow W.rb (g0.trans g1) _ _ r),e1,fun v ρ' B' H' g' W' r'=>?_⟩
 ·rw [A9,<- r.length];exact hl
 ·exact ⟨r'.nonI,k _ ρ' B' H' ((g0.trans g1).trans g') W' (RepV.grow W1.rb g' _ _ rx)⟩
theorem Gw {k j n:Nat} {F:Ef} {es:List Expr} {p:Pos} (h:QaV X.prog X.w X.K X.mg X.O8 c j n F) (hr:Room k X.A) (hj:j+1<=k) (hx:YT CX0 X E0) (ha:DA X (e::es) fa) (hg:Gl X c:=by rfl)
  (hdb:(c==("__debug__" : Str))=false:=by decide) (he:starEach (e::es) X.env=(false,eval e X.env)::starEach es X.env:=by rfl) (hpl:(backTo pos (starEach es X.env)).any (·.1)=false:=by rfl):DE X (.Call (.Name c p) (e::es) [] pos) (Xo c n F fa):=by
 obtain ⟨C,g,fd,ps,nc,hm,M,F',hb⟩:=h.ex
 intro O9 s σ H Q I q
 obtain ⟨Z,env,ρ,B,hp,d,hp',S,e,k⟩:=q
 obtain ⟨ds,hp1,e1,e2⟩:=Qg e
 obtain ⟨_,hp2,e3,e4⟩:=Qg e2
 obtain ⟨hl,rfl⟩:=QK e3
 refine wpAny_Call_Name_kw (GK I hg hm ?_ hdb)
 refine PySem.W.callWith_K (h₀:=X.O8) I.ok.mod.kin M.kp (thn (ha pos O9 s σ H _ I (tDA.run S e1 fun vs ρ1 B1 H1 g1 S1 r1=>Qc0 (Q:=Q) nc (C5 hl) S1.wo r1 e4 (k.after g1))) fun us s1 ⟨vs,H1,I1,r,q⟩=>⟨I1.kIn,?_⟩) he hpl
 exact QbM M F' (hr.mono hj) hb hx I1 r q
end
theorem QcA {P:Program} {w:World} {K:Aa} {mg:Ea} {O8:Heap} {x qual:Str} {g:Addr} {k:Nat} {body:DSx} (F:Fun K x qual stm g fd) (Sc:Qt N ps (Qp stm))
  (h:∀ (cdv:Value) (A:Around) (outer:List Env) (s:Shared) (H:Hp) (E:XK),Room k (A.deeper (envOfC qual (Qp stm) s.heap.objs.size g cdv))->DSs (y0 CX0 P w K mg O8 N qual (Qp stm) g cdv A outer s H E).nox (ZH stm) body) :
  zm P w K mg O8 CX0 (k+1) g fd ps (spD K ps.length (Q9 N.length body)):=by
 refine F.ok Sc (fun vs H Q E h=>h.1) (fun cdv A outer s H vs Q E hr sp=>?_)
 obtain ⟨hn,ρ,B,hp,ds,d,hp',W,r,e,k⟩:=sp
 obtain ⟨⟨fl,env'⟩,hp1,e1,e2⟩:=Qg e
 refine ⟨_,h cdv A outer s H E hr,⟨ρ,B,H⟩,_,ρ,B,hp,fl,env',hp1,yr W r,e1,fun σ' ρ' B' H' g' S'=>?_⟩
 cases fl with
 | nx=>obtain ⟨rfl,rfl⟩:=Ql e2;exact k .non ρ' B' H' S'.gr S'.wo ji
 | rt x=>obtain ⟨rfl,rfl⟩:=Ql e2;exact fun v rv=>k v ρ' B' H' S'.gr S'.wo rv
 | bk=>cases e2
 | ct=>cases e2
theorem Qc2 {P:Program} {w:World} {K:Aa} {mg:Ea} {O8:Heap} {c m qual:Str} {C g:Addr} {k:Nat} {body:DSx} (nc:ClsN K c C) (cl:Cls K C) (me:uO K C m g) (F:Fun K m qual stm g fd) (Sc:Qt N ps (Qp stm))
  (hb:∀ (kV doc pm:Value) (an:Option Addr) (cdv ct:Value) (us:List Value),us.length=ps.length->bindArgs (PySem.W.fnOf m qual (JA stm) (ZH stm) (Qp stm) .none kV doc pm an cdv ct) ⟨us,[]⟩=pure (ps.zip us))
  (h:∀ (cdv:Value) (A:Around) (outer:List Env) (s:Shared) (H:Hp) (E:XK),Room k (A.deeper (envOfC qual (Qp stm) s.heap.objs.size g cdv))->DSs (y0 CX0 P w K mg O8 N qual (Qp stm) g cdv A outer s H E).nox (ZH stm) body) :
  Xj P w K mg O8 c m (k+1) ps.length (Q9 N.length body):=⟨C,g,fd,ps,nc,cl,me,QcA F Sc h,F.binds hb⟩
theorem QcJ {P:Program} {w:World} {K:Aa} {mg:Ea} {O8:Heap} {c qual:Str} {C g:Addr} {k:Nat} {body:DSx} (nc:ClsN K c C) (hm:mg c=some (.ref C)) (me:Mk K C g) (F:Fun K "__init__" qual stm g fd) (Sc:Qt N ps (Qp stm))
  (hb:∀ (kV doc pm:Value) (an:Option Addr) (cdv ct:Value) (us:List Value),us.length=ps.length->bindArgs (PySem.W.fnOf "__init__" qual (JA stm) (ZH stm) (Qp stm) .none kV doc pm an cdv ct) ⟨us,[]⟩=pure (ps.zip us))
  (h:∀ (cdv:Value) (A:Around) (outer:List Env) (s:Shared) (H:Hp) (E:XK),Room k (A.deeper (envOfC qual (Qp stm) s.heap.objs.size g cdv))->DSs (y0 CX0 P w K mg O8 N qual (Qp stm) g cdv A outer s H E).nox (ZH stm) body) :
  QaV P w K mg O8 c (k+1) ps.length (Q9 N.length body):=⟨C,g,fd,ps,nc,hm,me,QcA F Sc h,F.binds hb⟩
section
variable {X:Cx}
def QdC:DSx:=fun _=>failure
theorem kX {st:Stmt}:DS X st QdC:=L2.PS.imp Qdt fun D σ H ⟨Z,env,ρ,B,hp,fl,env',hp',S,e,k⟩=>by cases e
def GV (i:Nat) (op:DV->DV->M DV) (fe:DEx):DSx:=fun env=>do let v <- Qb i env;let y <- fe env;let z <- op v y;pure (.nx,env.set i (.val z))
end
theorem JL {α β:Type} (m:M α) (k:α->M β) (hp:Hs):(m >>= k) hp=(m hp).bind fun p=>k p.1 p.2:=by
 show (StateT.bind m k hp)=_
 unfold StateT.bind
 cases m hp with
 | none=>rfl
 | some p=>obtain ⟨a,h⟩:=p;rfl
theorem Yc {α β:Type} (f:α->β) (m:M α) (hp:Hs):(f <$> m) hp=(m hp).map fun p=>(f p.1,p.2):=by
 show (StateT.map f m hp)=_
 unfold StateT.map
 cases m hp with
 | none=>rfl
 | some p=>obtain ⟨a,h⟩:=p;rfl
def JM {α:Type} (a:α) (hp:Hs):(pure a:M α) hp=some (a,hp):=rfl
def Xt {α:Type} (hp:Hs):(failure:M α) hp=none:=rfl
theorem JX (b:Bool) (hp:Hs):Qx b hp=if b=true then some ((),hp) else none:=by cases b<;>rfl
theorem Yb (n:Nat) (hp:Hs):ZI n hp=(hp[n]?).map fun o=>(o,hp):=by unfold ZI;cases hp[n]?<;>rfl
def Ye (n:Nat) (o:OV) (hp:Hs):xL n o hp=some ((),hp.set n o):=rfl
def Yd (o:OV) (hp:Hs):XX o hp=some (.ref hp.length,hp++[o]):=rfl
theorem Zv (hp:Hs) (k:Nat) (X:OV) (h:(hp[k]?).isSome=true):(hp.set k X)[k]?=some X:=by
 have:k < hp.length:=by
  rcases Bf k hp.length with q | q
  ·exact q
  ·rw [Cn q] at h;cases h
 rw [As this]
def QP (hp:Hs) (k n:Nat) (X:OV) (h:k≠n):(hp.set k X)[n]?=hp[n]?:=Ak h
theorem Jo (hp:Hs) (X:OV):(hp++[X])[hp.length]?=some X:=by simp
mutual
def KRep (K:Aa):DV->V->Prop
 | .non,v=>v=.non
 | .bl b,v=>v=.bl b
 | .int i,v=>v=.int i
 | .str x,v=>v=.str x
 | .tup ds,v=>∃ (a:Addr) (o:Obj) (its:Array Value) (n:Nat) (xs:List V),v=.ref a/\K.lookup a=some o/\o.cls=.type "tuple" /\ o.data=.seq its n/\its.size<=sizeLine/\Vals xs its.toList/\KRepL K ds xs
 | _,_=>False
def KRepL (K:Aa):List DV->List V->Prop
 | [],xs=>xs=[]
 | d::ds,xs=>∃ x r,xs=x::r/\KRep K d x/\KRepL K ds r
end
mutual
theorem KRep.rep {K:Aa} {B:Ed} (hb:∀ a,B a->K.lookup a=none):∀ (d:DV) (v:V),KRep K d v->RepV K ρ B H d v
  | .non,_,h=>by unfold KRep at h;unfold RepV;exact h
  | .bl _,_,h=>by unfold KRep at h;unfold RepV;exact h
  | .int _,_,h=>by unfold KRep at h;unfold RepV;exact h
  | .str _,_,h=>by unfold KRep at h;unfold RepV;exact h
  | .lst _,_,h=>by unfold KRep at h;exact h.elim
  | .ref _,_,h=>by unfold KRep at h;exact h.elim
  | .tup ds,_,h=>by
    unfold KRep at h;unfold RepV
    obtain ⟨a,o,its,n,xs,rfl,h1,h2,h3,h4,h5,h6⟩:=h
    exact ⟨a,xs,rfl,fun z=>(by rw [hb a z] at h1;cases h1),.inr ⟨o,its,n,h1,h2,h3,h4,h5⟩,KRepL.rep hb ds xs h6⟩
theorem KRepL.rep {K:Aa} {B:Ed} (hb:∀ a,B a->K.lookup a=none):∀ (ds:List DV) (xs:List V),KRepL K ds xs->RepL K ρ B H ds xs
  | [],_,h=>by unfold KRepL at h;unfold RepL;exact h
  | d::ds,_,h=>by
    unfold KRepL at h;unfold RepL
    obtain ⟨x,r,e,h1,h2⟩:=h
    exact ⟨x,r,e,KRep.rep hb d x h1,KRepL.rep hb ds r h2⟩
end
theorem gz {K:Aa} {a:Addr} {od:Option Addr} {its:Array Value} {n:Nat} {sl:Array (Option Value)} (h:K.lookup a=some ⟨.type "tuple", od,.seq its n,sl⟩) (hs:its.size<=sizeLine) (hv:Vals xs its.toList) (hl:KRepL K ds xs):KRep K (.tup ds) (.ref a):=by
 unfold KRep;exact ⟨a,_,its,n,xs,rfl,h,rfl,rfl,hs,hv,hl⟩
theorem QcQ {K:Aa}:KRep K .non .non:=by unfold KRep;rfl
theorem Qgy {K:Aa} {i:Int}:KRep K (.int i) (.int i):=by unfold KRep;rfl
theorem GG {K:Aa}:KRepL K [] []:=by unfold KRepL;rfl
theorem zH {K:Aa} {d:DV} {x:V} (h:KRep K d x) (h':KRepL K ds r):KRepL K (d::ds) (x::r):=by unfold KRepL;exact ⟨x,r,rfl,h,h'⟩
theorem Qep {X:Cx} {x:Str} {a:Addr} {pos:Pos} (hg:Gl X x) (hm:X.mg x=some (.ref a)) (hk:KRep X.K (.tup ds) (.ref a)) (hd:(x==("__debug__" : Str))=false:=by decide):DE X (.Name x pos) (eC (.tup ds)) :=
 (Qaz (v:=.ref a) hg hm rfl hd).imp fun σ H Q ⟨Z,env,ρ,B,hp,d',hp',S,e,k⟩=>by
  obtain ⟨rfl,rfl⟩:=Ql e
  exact k _ ρ B H Gr.refl S.wo (KRep.rep S.wo.bk _ _ hk)
theorem QcC (hp:Hs) (x:OV) (t:Hs):(hp++x::t)[hp.length]?=some x:=by simp
theorem QdI (hp:Hs) (x y:OV) (t:Hs):(hp++x::t).set hp.length y=hp++y::t:=by
 rw [List.set_append_right _ _ (Ae _)];simp
theorem G0 {hp:Hs} {n:Nat} (h:hp[n]?=some x):hp.set n x=hp:=by
 obtain ⟨hl,rfl⟩:=Ac.mp h
 exact List.set_getElem_self hl
theorem xE {n i:Nat} {d:DV} (h:(Zb 0 n)[i]?=some d):i < n/\d=.int (i:Int):=by
 obtain ⟨h1,h2⟩:=gW h
 exact ⟨h1,by rw [h2];simp⟩
theorem QbQ {n:Nat} (h:n<=1000000):Ux (n:Int)=true:=QdR (by lia) (by lia)
theorem Qc8 {i:Int} (h:0<=i):∃ j:Nat,i=j:=⟨i.toNat,by lia⟩
theorem Qan {n i:Nat} (h:i < n):ixN n (i:Int)=some i:=by unfold ixN;rw [C0 (by lia),C0 (by lia)];simp
theorem Qfo {m:Nat} (h:m<=1000000) (hp:Hs):QbK [.int (m:Int)] hp=some (Zb 0 m,hp):=by
 have e:QbK [.int (m:Int)]=pure (Zb 0 (m:Int).toNat):=by
  simp only [QbK,QbQ h,Qx,if_true,C7]
 rw [e,By];rfl
theorem xk {f:DAx} {m:Nat} (h:f env hp=some ([.int (m:Int)],hp1)) (hm:m<=1000000):Vc f env hp=some (Zb 0 m,hp1):=by
 unfold Vc
 rw [Qf h];exact Qfo hm hp1
section
variable {X:Cx}
def xu (x:DV):List DV->M DV
 | [y]=>onL x fun n ds=>onL y fun _ es=>do Qx (decide (ds.length+es.length<=lim));xL n (.lst (ds++es));pure .non
 | _=>failure
theorem QcZ:MtR X "list.extend" (tPm X.K xu):=by
 intro O9 s σ H x vs v us Q I rx rv h
 obtain ⟨ρ,B,hp,dx,es,d,hp',W,r1,r2,e,k⟩:=h
 unfold xu at e
 split at e
 ·rename_i y
  obtain ⟨n,ds,rfl,h0,e⟩:=V1 e
  obtain ⟨m,zs,rfl,h0',e⟩:=V1 e
  obtain ⟨_,hp1,e1,e2⟩:=Qg e
  obtain ⟨hl,rfl⟩:=QK e1
  cases e2
  obtain ⟨a,rfl,i1,xs,h1,l1⟩:=RepV.refW W r1 h0
  obtain ⟨w,rfl,rw'⟩:=r2.oneI
  obtain ⟨b,rfl,i2,ys,h2,l2⟩:=RepV.refW W rw' h0'
  obtain ⟨g,W'⟩:=UO W i1 h1 (RepL.append l1 l2)
  exact Qbv O9 s σ H _ _ v us Q I rx rv ⟨a,b,xs,ys,rfl,rfl,h1,h2,by rw [<- l1.length,<- l2.length];exact Bi (C5 hl) GL,k _ ρ B _ g W' ji⟩
 ·cases e
end
end D
namespace L2
open PySem PySem.Spec PyProof.Rows
abbrev XW (h:Heap) (z p o:Addr) (f:Value) (b:Bool):Prop:=h.get? z=some { cls:=Value.type "zip", data:=Data.fields #[f,Value.bool b,Value.bool false,Value.ref p,Value.ref o] }
structure ZU (h:Heap) (z p o i j a b:Addr) (n:Nat):Prop where
 zz:∃ f fl,XW h z p o f fl/\(f=.none∨∃ T:Nat,f=rawInt T)
 pp:IsPair h p (.ref i) (.ref j)
 oo:∃ x y,IsPair h o x y
 ii:h.IsTupleIter i a n
 jj:h.IsTupleIter j b n
section
variable {prog:Program} {w:World} {A:Around} {E:C8} {s:Shared}
theorem uM {a:Addr} {Q:Option Obj->Shared->Prop} (h:Q (s.heap.get? a) s):wpAny (model prog w) A (loadIfAlive a) Q E s:=by
 intro Γ p hΓ
 unfold loadIfAlive
 rw [Sem.wp_loadIfAlive]
 exact C1 (M:=model prog w) (A:=A) (E:=E) h Γ p hΓ
theorem QaU {z p o:Addr} {f:Value} {fl:Bool} {Q:Bool->Shared->Prop} (zz:XW s.heap z p o f fl) (hf:f=.none∨∃ T:Nat,f=rawInt T) (q1:Q true s) (q2:∀ g,XW g z p o f true->Heap.ExtBut z s.heap g->g.objs.size=s.heap.objs.size->Q false { s with heap:=g }):
    wpAny (model prog w) A (Builtin.SmallTypes.ownedTupleIsFree (.ref z)) Q E s:=by
  unfold Builtin.SmallTypes.ownedTupleIsFree
  rcases hf with rfl | ⟨T,rfl⟩
  . exact Cy (wpAny_field zz rfl (x:=.none) rfl (C1 q1))
  . refine Cy (wpAny_field zz rfl (x:=rawInt T) rfl ?_)
    show wpAny _ _ (loadIfAlive (T:Int).toNat >>= _) _ _ _
    refine Cy (uM ?_)
    cases hT:s.heap.get? (T:Int).toNat with
    | none=>exact C1 q1
    | some ob =>
      show wpAny _ _ (field (.ref z) 1 >>= _) _ _ _
      refine Cy (wpAny_field zz rfl (x:=.bool fl) rfl ?_)
      cases fl with
      | true=>exact C1 (q2 _ zz (fun _ _ _ e=>e) rfl)
      | false =>
        show wpAny _ _ (setField (.ref z) 1 (.bool true) >>= _) _ _ _
        exact Cy (wpAny_setField_rec zz (by simp) fun g z1 k1=>C1 (q2 g z1 k1.extBut k1.1))
theorem QfK {z p o i j a b:Addr} {n:Nat} {xs ys:Array Value} {Q:C8} (D:ZA z p o i j a b) (S:ZU s.heap z p o i j a b n) (ha:s.heap.IsTuple a xs) (hb:s.heap.IsTuple b ys) (hx:xs[n]?=some x) (hy:ys[n]?=some y)
  (k:∀ g,ZU g z p o i j a b (n+1)->IsPair g s.heap.objs.size x y->g.objs.size=s.heap.objs.size+1->(∀ c u,c≠z->c≠o->c≠i->c≠j->s.heap.get? c=some u->g.get? c=some u)->Q (.ref s.heap.objs.size) { s with heap:=g }) :
  wpAny (model prog w) A (Builtin.«zip.__next__» ⟨[.ref z],[]⟩) (fun fin s'=>∃ v,fin=.done (.ret v)/\Q v s') E s:=by
 obtain ⟨⟨f,fl,zz,hf⟩,pp,⟨u1,u2,oo⟩,ii,jj⟩:=S
 have ht:∀ {g g':Heap} {q c:Addr} {vs:Array Value},Heap.SameBut q g g'->c≠q->g.IsTuple c vs->g'.IsTuple c vs:=fun {g g' q c vs} sb hc ⟨ob,e,r⟩=>⟨ob,sb.extBut _ _ hc e,r⟩
 show wpAny _ _ (field (.ref z) 2 >>= _) _ _ _
 refine Cy (wpAny_field zz rfl (x:=.bool false) rfl ?_)
 show wpAny _ _ (field (.ref z) 3 >>= _) _ _ _
 refine Cy (wpAny_field zz rfl (x:=.ref p) rfl ?_)
 refine Cy (wpAny_seqItems pp rfl ?_)
 show wpAny _ _ (Builtin.SmallTypes.ownedTupleIsFree (.ref z) >>= _) _ _ _
 refine Cy (QaU zz hf ?_ ?_)
 ·simp only [if_true]
  refine Cy (wpAny_rule ?_)
  refine Cy (wpAny_field zz rfl (x:=.ref o) rfl ?_)
  refine Cy (wpAny_setField_rec zz (by simp) fun g1 z1 k1=>?_)
  replace z1:XW g1 z p o .ellipsis fl:=z1
  refine Cy ?_
  simp only [List.zipIdx_cons,List.zipIdx_nil,List.forIn_cons,List.forIn_nil]
  refine Cy (Cy (wpAny_onRaise ?_))
  show wpAny _ _ (Builtin.SmallTypes.nextOf (.ref i) >>= _) _ _ _
  refine Cy (jl (ii.extBut k1.extBut D.iz) (ht k1 D.az ha) hx fun g2 i2 k2=>C1 ?_)
  have o2:IsPair g2 o u1 u2:=k2.extBut _ _ D.oi (k1.extBut _ _ D.oz oo)
  refine Cy (wpAny_seqItems o2 rfl ?_)
  refine Cy (wpAny_updateSeq_pair o2 fun g3 o3 k3=>?_)
  replace o3:IsPair g3 o x u2:=o3
  refine Cy (wpAny_letGo (C1 ?_))
  refine Cy (Cy (wpAny_onRaise ?_))
  show wpAny _ _ (Builtin.SmallTypes.nextOf (.ref j) >>= _) _ _ _
  refine Cy (jl (((jj.extBut k1.extBut D.jz).extBut k2.extBut D.ij.symm).extBut k3.extBut D.oj.symm) (ht k3 D.bo (ht k2 D.bi (ht k1 D.bz hb))) hy fun g4 j4 k4=>C1 ?_)
  have o4:IsPair g4 o x u2:=k4.extBut _ _ D.oj o3
  refine Cy (wpAny_seqItems o4 rfl ?_)
  refine Cy (wpAny_updateSeq_pair o4 fun g5 o5 k5=>?_)
  replace o5:IsPair g5 o x y:=o5
  refine Cy (wpAny_letGo (C1 (C1 ?_)))
  refine Cy (wpAny_seqItems o5 rfl ?_)
  refine Cy (wpAny_newTuple ?_)
  have sz:g5.objs.size=s.heap.objs.size:=by rw [k5.1,k4.1,k3.1,k2.1,k1.1]
  have z5:XW g5 z p o .ellipsis fl:=k5.extBut _ _ D.oz.symm (k4.extBut _ _ D.jz.symm (k3.extBut _ _ D.oz.symm (k2.extBut _ _ D.iz.symm z1)))
  have kk:∀ c u,c≠z->c≠o->c≠i->c≠j->s.heap.get? c=some u->g5.get? c=some u:=fun c u c1 c2 c3 c4 e=>k5.extBut _ _ c2 (k4.extBut _ _ c4 (k3.extBut _ _ c2 (k2.extBut _ _ c3 (k1.extBut _ _ c1 e))))
  have i5:g5.IsTupleIter i a (n+1):=((i2.extBut k3.extBut D.oi.symm).extBut k4.extBut D.ij).extBut k5.extBut D.oi.symm
  have j5:g5.IsTupleIter j b (n+1):=j4.extBut k5.extBut D.oj.symm
  have zl:z < g5.objs.size:=Ao z5
  show wpAny _ _ (Builtin.SmallTypes.ownedTupleHandOut (.ref z) (.ref g5.objs.size) >>= _) _ _ _
  refine Cy ?_
  unfold Builtin.SmallTypes.ownedTupleHandOut
  have z6:XW (g5.push { cls:=.type "tuple", data:=.seq #[x,y] }) z p o .ellipsis fl:=Ad _ z5
  refine Cy (wpAny_setField_rec z6 (by simp) fun g7 z7 k7=>?_)
  replace z7:XW g7 z p o (rawInt g5.objs.size) fl:=z7
  refine wpAny_setField_rec z7 (by simp) fun g8 z8 k8=>?_
  replace z8:XW g8 z p o (rawInt g5.objs.size) false:=z8
  have up:∀ c u,c≠z->g5.get? c=some u->g8.get? c=some u:=fun c u c1 e=>k8.extBut _ _ c1 (k7.extBut _ _ c1 (Ad _ e))
  have t8:IsPair g8 g5.objs.size x y:=k8.extBut _ _ (Cu zl) (k7.extBut _ _ (Cu zl) (Au _ rfl))
  have s8:g8.objs.size=g5.objs.size+1:=by rw [k8.1,k7.1,Ce]
  refine C1 ⟨_,rfl,?_⟩
  show Q (.ref g5.objs.size) _
  rw [sz] at z8 t8 s8
  rw [sz]
  exact k g8 ⟨⟨_,_,z8,.inr ⟨_,rfl⟩⟩,up _ _ D.pz (kk _ _ D.pz D.po D.pi D.pj pp),⟨x,y,up _ _ D.oz o5⟩,i5.at fun u e=>up _ u D.iz e,j5.at fun u e=>up _ u D.jz e⟩ t8 s8 fun c u c1 c2 c3 c4 e=>up c u c1 (kk c u c1 c2 c3 c4 e)
 ·intro g1 z1 k1 sz1
  simp only [Az,if_false]
  refine Cy ?_
  have ia1:g1.IsTuple a xs:=let ⟨ob,e,r⟩:=ha;⟨ob,k1 _ _ D.az e,r⟩
  have ib1:g1.IsTuple b ys:=let ⟨ob,e,r⟩:=hb;⟨ob,k1 _ _ D.bz e,r⟩
  simp only [List.forIn_toArray,List.forIn_cons,List.forIn_nil]
  refine Cy (Cy (wpAny_holding ?_))
  show wpAny _ _ (Builtin.SmallTypes.nextOf (.ref i) >>= _) _ _ _
  refine Cy (jl (s:={ s with heap:=g1 }) (ii.extBut k1 D.iz) ia1 hx fun g2 i2 k2=>C1 (C1 ?_))
  refine Cy (Cy (wpAny_holding ?_))
  show wpAny _ _ (Builtin.SmallTypes.nextOf (.ref j) >>= _) _ _ _
  refine Cy (jl (s:={ s with heap:=g2 }) ((jj.extBut k1 D.jz).extBut k2.extBut D.ij.symm) (ht k2 D.bi ib1) hy fun g3 j3 k3=>C1 (C1 ?_))
  refine C1 ?_
  refine Cy (wpAny_newTuple ?_ (show (2:Nat)<=sizeLine by decide))
  have sz:g3.objs.size=s.heap.objs.size:=by rw [k3.1,k2.1,sz1]
  have kk:∀ c u,c≠z->c≠i->c≠j->s.heap.get? c=some u->(g3.push { cls:=.type "tuple", data:=.seq #[x,y] }).get? c=some u:=fun c u c1 c3 c4 e=>Ad _ (k3.extBut _ _ c4 (k2.extBut _ _ c3 (k1 _ _ c1 e)))
  have z3:XW (g3.push { cls:=.type "tuple", data:=.seq #[x,y] }) z p o f true:=Ad _ (k3.extBut _ _ D.jz.symm (k2.extBut _ _ D.iz.symm z1))
  refine C1 ⟨_,rfl,?_⟩
  show Q (.ref g3.objs.size) _
  rw [sz]
  refine k _ ⟨⟨f,true,z3,hf⟩,kk _ _ D.pz D.pi D.pj pp,⟨u1,u2,kk _ _ D.oz D.oi D.oj oo⟩,(i2.extBut k3.extBut D.ij).at fun u e=>Ad _ e,j3.at fun u e=>Ad _ e⟩ ?_ (by rw [Ce,sz]) fun c u c1 _ c3 c4 e=>kk c u c1 c3 c4 e
  rw [<- sz];exact Au _ rfl
theorem QfL {z p o i j a b:Addr} {n:Nat} {xs ys:Array Value} {Q:PySem.Fin->Shared->Prop} (hh:A.handled=none) (D:ZA z p o i j a b) (S:ZU s.heap z p o i j a b n) (ha:s.heap.IsTuple a xs) (hb:s.heap.IsTuple b ys) (he:xs[n]?=none∨ys[n]?=none)
    (k:∀ g x,(∀ c u,c≠z->c≠o->c≠i->c≠j->s.heap.get? c=some u->g.get? c=some u)->(∃ u,g.get? x=some u/\u.cls=.type "StopIteration")->E (.ref x) { s with heap:=g }) :
    wpAny (model prog w) A (Builtin.«zip.__next__» ⟨[.ref z],[]⟩) Q E s:=by
  obtain ⟨⟨f,fl,zz,hf⟩,pp,⟨u1,u2,oo⟩,ii,jj⟩:=S
  have ht:∀ {g g':Heap} {q c:Addr} {vs:Array Value},Heap.SameBut q g g'->c≠q->g.IsTuple c vs->g'.IsTuple c vs:=fun {g g' q c vs} sb hc ⟨ob,e,r⟩=>⟨ob,sb.extBut _ _ hc e,r⟩
  show wpAny _ _ (field (.ref z) 2 >>= _) _ _ _
  refine Cy (wpAny_field zz rfl (x:=.bool false) rfl ?_)
  show wpAny _ _ (field (.ref z) 3 >>= _) _ _ _
  refine Cy (wpAny_field zz rfl (x:=.ref p) rfl ?_)
  refine Cy (wpAny_seqItems pp rfl ?_)
  show wpAny _ _ (Builtin.SmallTypes.ownedTupleIsFree (.ref z) >>= _) _ _ _
  refine Cy (QaU zz hf ?_ ?_)
  . simp only [if_true]
    refine Cy (wpAny_rule ?_)
    refine Cy (wpAny_field zz rfl (x:=.ref o) rfl ?_)
    refine Cy (wpAny_setField_rec zz (by simp) fun g1 z1 k1=>?_)
    replace z1:XW g1 z p o .ellipsis fl:=z1
    refine Cy ?_
    simp only [List.zipIdx_cons,List.zipIdx_nil,List.forIn_cons,List.forIn_nil]
    refine Cy (Cy (wpAny_onRaise ?_))
    show wpAny _ _ (Builtin.SmallTypes.nextOf (.ref i) >>= _) _ _ _
    cases hx:xs[n]? with
    | none =>
      refine Cy (ve hh (ii.extBut k1.extBut D.iz) (ht k1 D.az ha) hx fun g2 x k2 h2=>?_)
      obtain ⟨oe,h3,h4⟩:=h2
      have z2:XW g2 z p o .ellipsis fl:=k2 _ _ D.iz.symm z1
      have xz:x≠z:=fun q=>by subst q;rw [z2] at h3;cases h3;simp at h4
      exact wpAny_setField_rec z2 (by simp) fun g3 _ k3=>k g3 x (fun c u c1 _ c3 _ e=>k3.extBut _ _ c1 (k2 _ _ c3 (k1.extBut _ _ c1 e))) ⟨oe,k3.extBut _ _ xz h3,h4⟩
    | some x0 =>
      have hy:ys[n]?=none:=by rcases he with h | h;rw [hx] at h;cases h;exact h
      refine Cy (jl (ii.extBut k1.extBut D.iz) (ht k1 D.az ha) hx fun g2 i2 k2=>C1 ?_)
      have o2:IsPair g2 o u1 u2:=k2.extBut _ _ D.oi (k1.extBut _ _ D.oz oo)
      refine Cy (wpAny_seqItems o2 rfl ?_)
      refine Cy (wpAny_updateSeq_pair o2 fun g3 o3 k3=>?_)
      refine Cy (wpAny_letGo (C1 ?_))
      refine Cy (Cy (wpAny_onRaise ?_))
      show wpAny _ _ (Builtin.SmallTypes.nextOf (.ref j) >>= _) _ _ _
      refine Cy (ve hh (((jj.extBut k1.extBut D.jz).extBut k2.extBut D.ij.symm).extBut k3.extBut D.oj.symm) (ht k3 D.bo (ht k2 D.bi (ht k1 D.bz hb))) hy fun g4 x k4 h2=>?_)
      obtain ⟨oe,h3,h4⟩:=h2
      have z4:XW g4 z p o .ellipsis fl:=k4 _ _ D.jz.symm (k3.extBut _ _ D.oz.symm (k2.extBut _ _ D.iz.symm z1))
      have xz:x≠z:=fun q=>by subst q;rw [z4] at h3;cases h3;simp at h4
      exact wpAny_setField_rec z4 (by simp) fun g5 _ k5=>k g5 x (fun c u c1 c2 c3 c4 e=>k5.extBut _ _ c1 (k4 _ _ c4 (k3.extBut _ _ c2 (k2.extBut _ _ c3 (k1.extBut _ _ c1 e))))) ⟨oe,k5.extBut _ _ xz h3,h4⟩
  . intro g1 z1 k1 sz1
    simp only [Az,if_false]
    refine Cy ?_
    have ia1:g1.IsTuple a xs:=let ⟨ob,e,r⟩:=ha;⟨ob,k1 _ _ D.az e,r⟩
    have ib1:g1.IsTuple b ys:=let ⟨ob,e,r⟩:=hb;⟨ob,k1 _ _ D.bz e,r⟩
    simp only [List.forIn_toArray,List.forIn_cons,List.forIn_nil]
    refine Cy (Cy (wpAny_holding ?_))
    show wpAny _ _ (Builtin.SmallTypes.nextOf (.ref i) >>= _) _ _ _
    cases hx:xs[n]? with
    | none =>
      exact Cy (ve (s:={ s with heap:=g1 }) hh (ii.extBut k1 D.iz) ia1 hx fun g2 x k2 h2=>k g2 x (fun c u c1 _ c3 _ e=>k2 _ _ c3 (k1 _ _ c1 e)) h2)
    | some x0 =>
      have hy:ys[n]?=none:=by rcases he with h | h;rw [hx] at h;cases h;exact h
      refine Cy (jl (s:={ s with heap:=g1 }) (ii.extBut k1 D.iz) ia1 hx fun g2 i2 k2=>C1 (C1 ?_))
      refine Cy (Cy (wpAny_holding ?_))
      show wpAny _ _ (Builtin.SmallTypes.nextOf (.ref j) >>= _) _ _ _
      exact Cy (ve (s:={ s with heap:=g2 }) hh ((jj.extBut k1 D.jz).extBut k2.extBut D.ij.symm) (ht k2 D.bi ib1) hy fun g3 x k3 h2=>k g3 x (fun c u c1 _ c3 c4 e=>k3 _ _ c4 (k2.extBut _ _ c3 (k1 _ _ c1 e))) h2)
end
theorem ZU.at {h h':Heap} {z p o i j a b:Addr} {n:Nat} (S:ZU h z p o i j a b n) (k:∀ c∈[z,p,o,i,j],∀ u,h.get? c=some u->h'.get? c=some u):ZU h' z p o i j a b n:=by
 obtain ⟨⟨f,fl,zz,hf⟩,pp,⟨u1,u2,oo⟩,ii,jj⟩:=S
 exact ⟨⟨f,fl,k z (by simp) _ zz,hf⟩,k p (by simp) _ pp,⟨u1,u2,k o (by simp) _ oo⟩,ii.at fun u e=>k i (by simp) u e,jj.at fun u e=>k j (by simp) u e⟩
inductive Qb0:Expr->Prop
 | nm (x:Str) (p:Pos):Qb0 (.Name x p)
 | tp (l:List Expr) (k:Nat) (p:Pos):Qb0 (.Tuple l k p)
theorem QiT {prog:Program} {w:World} {A:Around} {E:C8} {s:Shared} (ht:Qb0 tg) {z p o i j a b T:Addr} {n:Nat} {Q:Unit->Shared->Prop} (D:ZA z p o i j a b) (S:ZU s.heap z p o i j a b n) (hQ:∀ h',ZU h' z p o i j a b n->Heap.ExtBut z s.heap h'->Q () { s with heap:=h' }):wpAny (model prog w) A (letOwnedTupleGo tg (.ref z) (.ref T)) Q E s:=by
  cases ht with
  | nm x p'=>exact C1 (hQ s.heap S fun _ _ _ e=>e)
  | tp l k p' =>
    obtain ⟨f,fl,zz,hf⟩:=S.zz
    unfold letOwnedTupleGo
    refine Cy (wpAny_load zz ?_)
    dsimp only
    split
    . refine Cy (wpAny_rule ?_)
      show wpAny _ _ (setField (.ref z) 0 .none) Q E s
      obtain ⟨_,pp,⟨u1,u2,oo⟩,ii,jj⟩:=S
      exact wpAny_setField_rec zz (by simp) fun h' z' k'=>hQ h' ⟨⟨.none,fl,z',.inl rfl⟩,k'.extBut _ _ D.pz pp,⟨u1,u2,k'.extBut _ _ D.oz oo⟩,ii.extBut k'.extBut D.iz,jj.extBut k'.extBut D.jz⟩ k'.extBut
    . exact C1 (hQ s.heap S fun _ _ _ e=>e)
theorem Ga {P:Program} {w:World} {K:Aa} {tg:Expr} (ht:Qb0 tg) {z p o i j a b:Addr} (D:ZA z p o i j a b):QaX P w K tg (Itz K a b) [z,p,o,i,j] z (fun n h=>ZU h z p o i j a b n) where
 mem:=by simp
 obj:=fun n h S c hc=>by
  obtain ⟨⟨f,fl,zz,hf⟩,pp,⟨u1,u2,oo⟩,⟨oi,ei,ci,di⟩,⟨oj,ej,cj,dj⟩⟩:=S
  simp only [Bj,Ca,or_false] at hc
  rcases hc with rfl | rfl | rfl | rfl | rfl
  ·exact ⟨_,zz,fun v q=>by have q':Data.fields _=Data.cell v:=q;cases q'⟩
  ·exact ⟨_,pp,fun v q=>by have q':Data.seq _ _=Data.cell v:=q;cases q'⟩
  ·exact ⟨_,oo,fun v q=>by have q':Data.seq _ _=Data.cell v:=q;cases q'⟩
  ·exact ⟨oi,ei,fun v q=>by rw [di] at q;cases q⟩
  ·exact ⟨oj,ej,fun v q=>by rw [dj] at q;cases q⟩
 keep:=fun n h h' S k=>S.at k
 item:=by
  intro X hP hw hK hc n O9 s σ H E I hf S hg
  subst hP hw hK
  obtain ⟨xs,ys,x,y,qa,qb,hx,hy⟩:=hg
  obtain ⟨ia,ra,pa,_⟩:=I.tuple qa
  obtain ⟨ib,rb,pb,_⟩:=I.tuple qb
  obtain ⟨u,hu,ru⟩:=ra.get hx
  obtain ⟨v,hv,rv⟩:=rb.get hy
  obtain ⟨f0,fl0,zz0,hf0⟩:=S.zz
  have hT:s.TypeIs (.ref z) "zip" := ⟨_,zz0,rfl⟩
  unfold pyNext
  refine Cy (wpAny_attempt (wpAny_callSpecial?_slot (name:=Str.ofString "__next__") hT F.slot_zip_next (wpAny_call_entry F.slot_zip_next hT F.entry_zip_next
   (QfK D S (show s.heap.IsTuple a ia.toArray from pa) (show s.heap.IsTuple b ib.toArray from pb) (by simpa using hu) (by simpa using hv) fun g' S' tp sz kp=>C1 ?_) (F.args_zip_next_1 _))))
  refine ⟨_,rfl,QiT (s:={ s with heap:=g' }) ht D S' fun g2 S' kx=>?_⟩
  replace tp:=kx _ _ (Cu (Ao zz0)) tp
  have kp':∀ c q,c∉[z,p,o,i,j]->s.heap.get? c=some q->g2.get? c=some q:=fun c q hc e=>by
   simp only [Bj,Ca,or_false,not_or] at hc
   refine kx _ _ hc.1 (kp c q hc.1 hc.2.2.1 hc.2.2.2.1 hc.2.2.2.2 e)
  have ne:∀ c∈[z,p,o,i,j],c≠s.heap.objs.size:=fun c hc e=>by
   obtain ⟨_,pp,⟨u1,u2,oo⟩,⟨oi,ei,_⟩,⟨oj,ej,_⟩⟩:=S
   simp only [Bj,Ca,or_false] at hc
   rcases hc with rfl | rfl | rfl | rfl | rfl
   ·exact Be (Ao zz0) e
   ·exact Be (Ao pp) e
   ·exact Be (Ao oo) e
   ·exact Be (Ao ei) e
   ·exact Be (Ao ej) e
  refine ⟨.ref s.heap.objs.size,upd H s.heap.objs.size (.tup [x,y]),I.turnNew (t':=s.toks) hf kp' (us:=[u,v]) (.cons ru (.cons rv .nil)) (show 2<=sizeLine by decide) ⟨_,tp,rfl,_,rfl⟩,rfl,
   ⟨_,x,y,I.hok.fresh (Ae _),fun xs' h=>by rw [I.tuple_inj h qa];exact hx,fun ys' h=>by rw [I.tuple_inj h qb];exact hy,rfl,rfl⟩,S',fun c hc=>?_⟩
  rw [Q4 (ne c hc)];exact (hf c hc).1
 done:=by
  intro X hP hw hK hc n O9 s σ H E I hf S hg
  subst hP hw hK
  obtain ⟨xs,ys,qa,qb,hs⟩:=hg
  obtain ⟨ia,ra,pa,_⟩:=I.tuple qa
  obtain ⟨ib,rb,pb,_⟩:=I.tuple qb
  have l1:=ra.length
  have l2:=rb.length
  obtain ⟨f0,fl0,zz0,hf0⟩:=S.zz
  have hT:s.TypeIs (.ref z) "zip" := ⟨_,zz0,rfl⟩
  unfold pyNext
  refine Cy (wpAny_attempt (wpAny_callSpecial?_slot (name:=Str.ofString "__next__") hT F.slot_zip_next (wpAny_call_entry F.slot_zip_next hT F.entry_zip_next
   (QfL (I.ok.hd hc) D S (show s.heap.IsTuple a ia.toArray from pa) (show s.heap.IsTuple b ib.toArray from pb) (by rcases hs with q | q;exact .inl (by simp;lia);exact .inr (by simp;lia)) fun g x kp hx=>?_) (F.args_zip_next_1 _))))
  obtain ⟨ox,h1,h2⟩:=hx
  refine Cy (wpAny_isInstance (T := "StopIteration") (b:=true) ⟨ox,h1,h2⟩ isSubtype_stop ?_)
  refine C1 ⟨rfl,I.turnL (t':=s.toks) hf fun c q hc e=>?_⟩
  simp only [Bj,Ca,or_false,not_or] at hc
  exact kp c q hc.1 hc.2.2.1 hc.2.2.2.1 hc.2.2.2.2 e
 self:=fun _ _ _ _ _ S h=>by
  obtain ⟨f0,fl0,zz0,hf0⟩:=S.zz
  have hT:Shared.TypeIs _ (Value.ref z) "zip" := ⟨_,zz0,rfl⟩
  refine wpAny_pyIter_slot hT F.slot_zip_iter (wpAny_call_entry F.slot_zip_iter hT F.entry_zip_iter ?_ (F.args_zip_iter_1 _))
  exact C1 ⟨_,rfl, "zip", _,hT,(F.slot_zip_next).1,h⟩
section
variable {X:Cx} {xn:Str} {p2:Pos} {O9:C9} {σ:L2.St}
theorem QhL {E:C8} {Q:C8} {a b:Addr} (I:Inv X O9 σ H s) (qa:SqT X.K H a xs) (qb:SqT X.K H b ys)
  (k:∀ (s':Shared) (z p o i j:Addr),Inv X O9 σ H s'->ZA z p o i j a b->ZU s'.heap z p o i j a b 0->(∀ c∈[z,p,o,i,j],UR X O9 H c)->Q (.ref z) s'):wpAny (model X.prog X.w) X.A (call (.type "zip") [.ref a,.ref b]) Q E s:=by
 obtain ⟨ia,ra,pa,_⟩:=I.tuple qa
 obtain ⟨ib,rb,pb,_⟩:=I.tuple qb
 refine callType_new F.called_zip (by decide) (F.typeCall_zip_2 _ _) (F.newCall_zip_2 _ _) (fun obj=>F.args_object_init_3 obj _ _) F.entry_zip_new (QfJ a b ia.toArray ib.toArray) ⟨show s.heap.IsTuple a ia.toArray from pa,show s.heap.IsTuple b ib.toArray from pb,?_⟩
 have z1:(zt1 s.heap a).objs.size=s.heap.objs.size+1:=Ce ..
 have z2:(zt2 s.heap a b).objs.size=s.heap.objs.size+2:=by rw [Ce,z1]
 have z3:(zt3 s.heap a b).objs.size=s.heap.objs.size+3:=by rw [Ce,z2]
 have z4:(zt4 s.heap a b).objs.size=s.heap.objs.size+4:=by rw [Ce,z3]
 have g5:(zt5 s.heap a b).get? (zt4 s.heap a b).objs.size=some _:=Au _ rfl
 have g4:(zt5 s.heap a b).get? (zt3 s.heap a b).objs.size=some _:=Ad _ (Au _ rfl)
 have g3:(zt5 s.heap a b).get? (zt2 s.heap a b).objs.size=some _:=Ad _ (Ad _ (Au _ rfl))
 have g2:(zt5 s.heap a b).get? (zt1 s.heap a).objs.size=some _:=Ad _ (Ad _ (Ad _ (Au _ rfl)))
 have g1:(zt5 s.heap a b).get? s.heap.objs.size=some _:=Ad _ (Ad _ (Ad _ (Ad _ (Au _ rfl))))
 show _/\_
 have kp:∀ c o,s.heap.get? c=some o->(zt5 s.heap a b).get? c=some o:=fun c o e=>Ad _ (Ad _ (Ad _ (Ad _ (Ad _ e))))
 refine ⟨⟨_,g5,rfl⟩,?_⟩
 rw [z2,z3,z4] at g5
 rw [z1,z2] at g3
 rw [z3] at g4
 rw [z1] at g2
 rw [z4]
 have la:a < s.heap.objs.size:=by obtain ⟨o,e,_⟩:=pa;exact Ao e
 have lb:b < s.heap.objs.size:=by obtain ⟨o,e,_⟩:=pb;exact Ao e
 have D:ZA (s.heap.objs.size+4) (s.heap.objs.size+2) (s.heap.objs.size+3) s.heap.objs.size (s.heap.objs.size+1) a b:=by constructor<;>first | exact Be la | exact Be lb | exact Be (Ay la (Cw _ _)) | exact Be (Ay lb (Cw _ _)) | exact Be (by lia) | exact Cu (by lia)
 have I1:Inv X O9 σ H { s with heap:=zt5 s.heap a b }:=I.kept (t':=s.toks) kp
 have S:ZU (zt5 s.heap a b) (s.heap.objs.size+4) (s.heap.objs.size+2) (s.heap.objs.size+3) s.heap.objs.size (s.heap.objs.size+1) a b 0:=⟨⟨_,_,g5,.inl rfl⟩,g3,⟨_,_,g4⟩,⟨_,g1,rfl,rfl⟩,⟨_,g2,rfl,rfl⟩⟩
 refine k { s with heap:=zt5 s.heap a b } _ _ _ _ _ I1 D S fun c hc=>?_
 have hc':s.heap.objs.size<=c:=by
  simp only [Bj,Ca,or_false] at hc
  rcases hc with rfl | rfl | rfl | rfl | rfl<;>first | exact Ae _ | exact Cw _ _
 exact I.fpOk hc' (I.hok.fresh hc')
theorem QaS (ht:Qb0 tg) {R:It->Hp->Prop} {E:C8} {a b:Addr} (I:Inv X O9 σ H s) (qa:SqT X.K H a xs) (qb:SqT X.K H b ys) (q:R (Itz X.K a b) H):
  wpAny (model X.prog X.w) X.A (call (.type "zip") [.ref a,.ref b]) (fun v s1=>wpAny (model X.prog X.w) X.A (pyIter v) (PIE X O9 σ tg R) E s1) E s :=
 QhL I qa qb fun s' z p o i j I1 D S hf=>(Ga (K:=X.K) ht D).self _ _ _ _ _ S ⟨_,[z,p,o,i,j],_,Itz X.K a b,H,rfl,I1,Ga ht D,S,hf,q⟩
theorem Qe6 {p pos:Pos} (hg:Gl X "zip") (hm:X.mg "zip" = none) (ha:PA X [x,y] ta) (hs:starEach [x,y] X.env=[(false,eval x X.env),(false,eval y X.env)]:=by rfl) (hs2:starEach [y] X.env=[(false,eval y X.env)]:=by rfl):
    PI X (.Name xn p2) (.Call (.Name "zip" p) [x,y] [] pos) (Qh8 X.K ta):=by
  intro O9 s σ H R I h
  refine Call_ (yk I hg hm boot_zip (PyProof.Rows.callWith_type1 (thn (ha pos O9 s σ H _ I h) fun us s1 ⟨vs,H1,I1,r1,q1⟩=>?_) (by rw [hs,hs2]) (by rw [hs2];rfl)))
  obtain ⟨a,b,xs,ys,e,qa,qb,q⟩:=q1
  subst e
  cases r1 with
  | cons r rr =>
    cases rr with
    | cons r' rr =>
      cases rr
      cases r
      cases r'
      exact QaS (.nm ..) I1 qa qb q
end
end L2
namespace D
open PySem PySem.Spec PyProof.Rows L2
section
variable {X:Cx} {xn:Str} {p2:Pos} {f g:DEx}
theorem Qes {p pos:Pos} (hg:Gl X "zip") (hm:X.mg "zip" = none) (hx:DE X x f) (hy:DE X y g) (hs:starEach [x,y] X.env=[(false,eval x X.env),(false,eval y X.env)]:=by rfl) (hs2:starEach [y] X.env=[(false,eval y X.env)]:=by rfl):
  DI X (.Name xn p2) (.Call (.Name "zip" p) [x,y] [] pos) (QcI f g) :=
 L2.PI.imp (Qe6 hg hm (Ya hx (Ya hy pa_nil (by rw [hs2];rfl)) (by rw [hs,hs2])) hs hs2) fun σ H R ⟨Z,env,ρ,B,hp,ds,hp',S,e,k⟩=>by
  obtain ⟨d1,hp1,e1,e⟩:=Qg e
  obtain ⟨xs,hp2,e2,e⟩:=Qg e
  obtain ⟨rfl,rfl⟩:=jk e2
  obtain ⟨d2,hp3,e3,e⟩:=Qg e
  obtain ⟨ys,hp4,e4,e⟩:=Qg e
  obtain ⟨rfl,rfl⟩:=jk e4
  obtain ⟨rfl,rfl⟩:=Ql e
  refine tD.run S e1 fun v ρ1 B1 H1 g1 S1 r1=>tD.run S1 e3 fun u ρ2 B2 H2 g2 S2 r2=>?_
  obtain ⟨a,vs,rfl,na,qa,la⟩:=(RepV.grow S1.wo.rb g2 _ _ r1).tupI
  obtain ⟨b,us,rfl,nb,qb,lb⟩:=r2.tupI
  exact ⟨a,b,vs,us,rfl,qa,qb,k _ ρ2 B2 H2 (g1.trans g2) S2.wo (QcN na qa la nb qb lb)⟩
end
end D
namespace TR
structure Pg where
 lv:Nat
 ks:List Int
 ps:List Int
 hi:Option Int
 sd:Option Nat
structure Sh where
 O2:Nat
 pg:List Pg
 top:Nat
 rd:Int
 wr:Int
inductive Deed where
 | find (k:Int) | put (k w:Int) | cut (k:Int) | stretch (l h:Int)
def Deed.key:Deed->Int
 | .find k=>k
 | .put k _=>k
 | .cut k=>k
 | .stretch l _=>l
structure Wk where
 O0:Deed
 aim:Int
 O4:Nat
 O6:Option Nat
 O3:List (Nat×Nat)
 Oz:Option Nat
 O1:Option Int
 O5:List (Int×Int)
 O7:Bool
inductive Row where
 | non
 | side (n t:Nat)
 | down (n t:Nat)
 | found (n:Nat) (w:Option Int)
 | put (n:Nat) (w:Option Int) (k:Option Nat)
 | cut (n:Nat) (w:Option Int)
 | read (n:Nat) (ps:Ec) (t:Option (Nat×Int))
 | told (n:Nat) (k:Option Nat)
 | raised (n t:Nat)
def cLe (ks:List Int) (k:Int):Nat:=(ks.filter fun x=>decide (x<=k)).length
def cLt (ks:List Int) (k:Int):Nat:=(ks.filter fun x=>decide (x < k)).length
def JV (fs:List (Nat×Nat)) (k:Nat):Option Nat:=(fs.find? fun p=>decide (p.1=k)).map (·.2)
def zP (fs:List (Nat×Nat)) (k v:Nat):List (Nat×Nat):=if (fs.any fun p=>decide (p.1=k))=true then fs.map (fun p=>if p.1=k then (p.1,v) else p) else fs++[(k,v)]
def Jf (p:Pg) (k:Int):Bool:=match p.hi with
 | none=>false
 | some h=>decide (h<=k)
def QY (p:Pg) (k:Int):Option Int:=if cLt p.ks k=cLe p.ks k then none else p.ps[cLt p.ks k]?
def QW (p:Pg) (k w:Int):Pg:={ p with ks:=p.ks.take (cLt p.ks k)++k::p.ks.drop (cLe p.ks k),ps:=p.ps.take (cLt p.ks k)++w::p.ps.drop (cLe p.ks k) }
def without (p:Pg) (k:Int):Pg:={ p with ks:=p.ks.take (cLt p.ks k)++p.ks.drop (cLe p.ks k),ps:=p.ps.take (cLt p.ks k)++p.ps.drop (cLe p.ks k) }
def Zn (p:Pg) (k:Int) (c:Nat):Pg:={ p with ks:=p.ks.take (cLe p.ks k)++k::p.ks.drop (cLe p.ks k),ps:=p.ps.take (cLe p.ks k+1)++(c:Int)::p.ps.drop (cLe p.ks k+1) }
def mid (p:Pg):Nat:=p.ks.length / 2
def Zo (p:Pg):Nat:=if p.lv=0 then mid p else mid p+1
def J6 (p:Pg):Int:=p.ks.getD (mid p) 0
def QZ (p:Pg) (n:Nat):Pg:=⟨p.lv,p.ks.take (mid p),p.ps.take (Zo p),some (J6 p),some n⟩
def QN (p:Pg):Pg:=⟨p.lv,p.ks.drop (Zo p),p.ps.drop (Zo p),p.hi,p.sd⟩
def Qu (S:Sh) (w:Wk) (n:Nat) (p:Pg):Option Nat×Sh×Wk :=
 if p.ks.length<=S.O2 then (none,{ S with pg:=S.pg.set n p,wr:=S.wr+1 },{ w with O7:=true })
 else (some S.pg.length,{ S with pg:=(S.pg++[QN p]).set n (QZ p S.pg.length),wr:=S.wr+1+1 },{ w with Oz:=some S.pg.length,aim:=J6 p,O4:=p.lv+1,O6:=JV w.O3 (p.lv+1) })
def Q3 (p:Pg) (l h:Int):List (Int×Int):=(p.ks.zip p.ps).filter fun q=>decide (l<=q.1)&&decide (q.1 < h)
def Ja (S:Sh) (w:Wk) (n:Nat) (p:Pg):Row×Sh×Wk:=match w.O0 with
  | .find _=>(.found n (QY p w.aim),S,{ w with O1:=QY p w.aim,O7:=true })
  | .put _ x=>match Qu S { w with O1:=QY p w.aim } n (QW p w.aim x) with
    | (r,S2,w2)=>(.put n (QY p w.aim) r,S2,w2)
  | .cut _=>(.cut n (QY p w.aim),if (QY p w.aim).isSome=true then { S with pg:=S.pg.set n (without p w.aim),wr:=S.wr+1 } else S,{ w with O1:=QY p w.aim,O7:=true })
  | .stretch l h=>match p.hi,p.sd with
    | some x,some s=>if h<=x then (.read n (Q3 p l h) none,S,{ w with O5:=w.O5++Q3 p l h,O7:=true })
        else (.read n (Q3 p l h) (some (s,x)),S,{ w with O5:=w.O5++Q3 p l h,aim:=x,O6:=some s })
    | _,_=>(.read n (Q3 p l h) none,S,{ w with O5:=w.O5++Q3 p l h,O7:=true })
def JO (S:Sh) (w:Wk):Option (Row×Sh×Wk) :=
  if w.O7=true then some (.non,S,w) else
  match S.pg[w.O6.getD S.top]? with
  | none=>none
  | some p =>
    if w.O6=none/\p.lv < w.O4 then
      match w.Oz with
      | none=>none
      | some k=>some (.raised S.top S.pg.length,{ S with rd:=S.rd+1,pg:=S.pg++[⟨p.lv+1,[w.aim],[(S.top:Int),(k:Int)],none,none⟩],top:=S.pg.length,wr:=S.wr+1 },{ w with O7:=true })
    else if Jf p w.aim=true then
      match p.sd with
      | none=>none
      | some s=>some (.side (w.O6.getD S.top) s,{ S with rd:=S.rd+1 },{ w with O6:=some s })
    else if w.O4 < p.lv then
      match p.ps[cLe p.ks w.aim]? with
      | none=>none
      | some c=>some (.down (w.O6.getD S.top) c.toNat,{ S with rd:=S.rd+1 },{ w with O3:=zP w.O3 p.lv (w.O6.getD S.top),O6:=some c.toNat })
    else if 0 < w.O4 then
      match w.Oz with
      | none=>none
      | some k=>match Qu { S with rd:=S.rd+1 } w (w.O6.getD S.top) (Zn p w.aim k) with
        | (r,S2,w2)=>some (.told (w.O6.getD S.top) r,S2,w2)
    else some (Ja { S with rd:=S.rd+1 } w (w.O6.getD S.top) p)
theorem YQ {ks:List Int} (h:ks.Pairwise (· < ·)) (k:Int):ks.take (cLe ks k)=ks.filter (fun x=>decide (x<=k))/\ks.drop (cLe ks k)=ks.filter (fun x=>decide (k < x)):=by
  unfold cLe
  induction ks with
  | nil=>simp
  | cons x xs ih =>
    obtain ⟨h1,h2⟩:=Cf.mp h
    by_cases q:x<=k
    . obtain ⟨i1,i2⟩:=ih h2
      have q':¬ k < x:=by lia
      simp [Ar,q,q',i1,i2]
    . have e:xs.filter (fun y=>decide (y<=k))=[]:=by
        rw [Cp]
        intro y hy;have:=h1 y hy;simp;lia
      have e2:xs.filter (fun y=>decide (k < y))=xs:=by
        rw [Cj]
        intro y hy;have:=h1 y hy;simp;lia
      have q':k < x:=by lia
      simp [Ar,q,q',e,e2]
theorem qS {ks:List Int} (h:ks.Pairwise (· < ·)) (k:Int):ks.take (cLt ks k)=ks.filter (fun x=>decide (x < k))/\ks.drop (cLt ks k)=ks.filter (fun x=>decide (k<=x)):=by
  unfold cLt
  induction ks with
  | nil=>simp
  | cons x xs ih =>
    obtain ⟨h1,h2⟩:=Cf.mp h
    by_cases q:x < k
    . obtain ⟨i1,i2⟩:=ih h2
      have q':¬ k<=x:=by lia
      simp [Ar,q,q',i1,i2]
    . have e:xs.filter (fun y=>decide (y < k))=[]:=by
        rw [Cp]
        intro y hy;have:=h1 y hy;simp;lia
      have e2:xs.filter (fun y=>decide (k<=y))=xs:=by
        rw [Cj]
        intro y hy;have:=h1 y hy;simp;lia
      have q':k<=x:=by lia
      simp [Ar,q,q',e,e2]
def Xk (ks:List Int) (k:Int):cLe ks k<=ks.length:=B8 _ _
def xY (ks:List Int) (k:Int):cLt ks k<=ks.length:=B8 _ _
theorem Go (ks:List Int) (k:Int):cLt ks k<=cLe ks k:=by
  unfold cLt cLe
  induction ks with
  | nil=>simp
  | cons x xs ih =>
    by_cases q:x < k
    . have:x<=k:=by lia
      simp [Ar,q,this,ih]
    . by_cases q2:x<=k
      . simp [Ar,q,q2];lia
      . simp [Ar,q,q2,ih]
theorem Qb8 {ks:List Int} (h:ks.Pairwise (· < ·)) (k:Int):cLe ks k<=cLt ks k+1:=by
  unfold cLt cLe
  induction ks with
  | nil=>simp
  | cons x xs ih =>
    obtain ⟨h1,h2⟩:=Cf.mp h
    by_cases q:x < k
    . have:x<=k:=by lia
      have:=ih h2
      simp [Ar,q, *]
    . have e:xs.filter (fun y=>decide (y<=k))=[]:=by
        rw [Cp]
        intro y hy;have:=h1 y hy;simp;lia
      by_cases q2:x<=k<;>simp [Ar,q,q2,e]
theorem VP {ks:List Int} (h:ks.Pairwise (· < ·)) (k:Int):(ks.take (cLt ks k)++k::ks.drop (cLe ks k)).Pairwise (· < ·):=by
 rw [(qS h k).1,(YQ h k).2]
 rw [List.pairwise_append]
 refine ⟨h.filter _,Cf.mpr ⟨fun y hy=>?_,h.filter _⟩,fun x hx y hy=>?_⟩
 ·simpa using (Bm.mp hy).2
 ·have h1:x < k:=by simpa using (Bm.mp hx).2
  rcases Bj.mp hy with rfl | hy
  ·exact h1
  ·have h2:k < y:=by simpa using (Bm.mp hy).2
   lia
theorem xm {ks:List Int} (h:ks.Pairwise (· < ·)) {k x:Int} (hx:x∈ks.take (cLt ks k)++k::ks.drop (cLe ks k)):x=k∨x∈ks:=by
 rcases Ah.mp hx with hx | hx
 ·exact .inr (Bv hx)
 ·rcases Bj.mp hx with rfl | hx
  ·exact .inl rfl
  ·exact .inr (List.mem_of_mem_drop hx)
theorem gb {ks:List Int} (h:ks.Pairwise (· < ·)) (k:Int):(ks.take (cLt ks k)++ks.drop (cLe ks k)).Pairwise (· < ·):=by
 rw [(qS h k).1,(YQ h k).2]
 rw [List.pairwise_append]
 refine ⟨h.filter _,h.filter _,fun x hx y hy=>?_⟩
 have h1:x < k:=by simpa using (Bm.mp hx).2
 have h2:k < y:=by simpa using (Bm.mp hy).2
 lia
theorem kR {ks:List Int} {k x:Int} (hx:x∈ks.take (cLt ks k)++ks.drop (cLe ks k)):x∈ks:=by
 rcases Ah.mp hx with hx | hx
 ·exact Bv hx
 ·exact List.mem_of_mem_drop hx
theorem Qb9 {ks:List Int} (h:k∉ks):cLt ks k=cLe ks k:=by
 unfold cLt cLe
 congr 1
 apply List.filter_congr
 intro x hx
 have:x≠k:=fun e=>h (e▸hx)
 by_cases q:x < k
 ·have:x<=k:=by lia
  simp [q,this]
 ·have:¬ x<=k:=by lia
  simp [q,this]
theorem zx (fs:List (Nat×Nat)) (k v j:Nat):JV (zP fs k v) j=if j=k then some v else JV fs j:=by
  unfold zP JV
  by_cases h:(fs.any fun p=>decide (p.1=k))=true
  . rw [C0 h]
    induction fs with
    | nil=>simp at h
    | cons p fs ih =>
      simp only [Ba,Bz]
      by_cases q:p.1=k
      . by_cases e:j=k
        . subst e;simp [q]
        . have:¬ k=j:=fun z=>e z.symm
          simp only [q,if_true,this,decide_false]
          by_cases h2:(fs.any fun p=>decide (p.1=k))=true
          . have:=ih h2;simpa [e] using this
          . have hid:fs.map (fun p=>if p.1=k then (p.1,v) else p)=fs:=by
              conv=>rhs;rw [<- List.map_id fs]
              apply List.map_congr_left
              intro x hx
              have:¬ x.1=k:=fun z=>h2 (by rw [List.any_eq_true];exact ⟨x,hx,by simpa using z⟩)
              simp [this]
            rw [hid,Cz e]
      . have h2:(fs.any fun p=>decide (p.1=k))=true:=by simpa [Ci,q] using h
        have:=ih h2
        simp only [q,if_false]
        by_cases e:p.1=j
        . have:¬ j=k:=fun z=>q (e.trans z)
          simp [e,this]
        . simpa [e] using this
  . rw [Cz h,List.find?_append]
    have hn:∀ p∈fs,¬ p.1=k:=fun p hp z=>h (by rw [List.any_eq_true];exact ⟨p,hp,by simpa using z⟩)
    by_cases e:j=k
    . subst e
      have:fs.find? (fun p=>decide (p.1=j))=none:=by
        rw [List.find?_eq_none];intro p hp;simpa using hn p hp
      simp [this]
    . have:¬ k=j:=fun z=>e z.symm
      simp [this,e]
abbrev Bg:=Nat->Option Int
def leB (b:Option Int) (x:Int):Prop:=∀ v,b=some v->v<=x
def ltB (b:Option Int) (x:Int):Prop:=∀ v,b=some v->v < x
def ltH (x:Int) (h:Option Int):Prop:=∀ v,h=some v->x < v
def leBB (b c:Option Int):Prop:=∀ v,b=some v->∃ u,c=some u/\v<=u
def leBB.refl (b:Option Int):leBB b b:=fun v h=>⟨v,h,Bo _⟩
theorem leBB.trans {a b c:Option Int} (h:leBB a b) (g:leBB b c):leBB a c:=fun v e=>by
 obtain ⟨u,e1,l1⟩:=h v e
 obtain ⟨x,e2,l2⟩:=g u e1
 exact ⟨x,e2,by lia⟩
def Jj (b:Option Int) (ks:List Int):Nat->Option Int
 | 0=>b
 | j+1=>ks[j]?
structure JF (O2:Nat) (b:Option Int) (p:Pg):Prop where
 sorted:p.ks.Pairwise (· < ·)
 few:p.ks.length<=O2
 parts:p.ps.length=p.ks.length+(if p.lv=0 then 0 else 1)
 low:∀ k∈p.ks,leB b k
 lowF:0 < p.lv->∀ k∈p.ks,ltB b k
 high:∀ k∈p.ks,ltH k p.hi
 wide:∀ h,p.hi=some h->ltB b h
structure Tree (S:Sh) (bg:Bg):Prop where
 room2:2<=S.O2
 root:∃ r:Pg,S.pg[S.top]?=some r/\∀ (n:Nat) (p:Pg),S.pg[n]?=some p->p.lv<=r.lv
 rbg:bg S.top=none
 page:∀ (n:Nat) (p:Pg),S.pg[n]?=some p->JF S.O2 (bg n) p
 link:∀ (n:Nat) (p:Pg),S.pg[n]?=some p->(p.hi=none/\p.sd=none)∨∃ (h:Int) (s:Nat) (q:Pg),p.hi=some h/\p.sd=some s/\S.pg[s]?=some q/\q.lv=p.lv/\bg s=some h
 kid:∀ (n:Nat) (p:Pg),S.pg[n]?=some p->0 < p.lv->∀ j k,p.ps[j]?=some k->∃ (c:Nat) (q:Pg),k=(c:Int)/\S.pg[c]?=some q/\q.lv+1=p.lv/\bg c=Jj (bg n) p.ks j
 dis:∀ (n m:Nat) (p q:Pg),S.pg[n]?=some p->S.pg[m]?=some q->p.lv=q.lv->n≠m->(∃ h v,p.hi=some h/\bg m=some v/\h<=v)∨(∃ h v,q.hi=some h/\bg n=some v/\h<=v)
 pred:∀ (n:Nat) (p:Pg),S.pg[n]?=some p->∀ v,bg n=some v->∃ (m:Nat) (q:Pg),S.pg[m]?=some q/\q.lv=p.lv/\q.hi=some v
theorem Tree.uniq {S:Sh} {bg:Bg} (T:Tree S bg) {n m:Nat} {p q:Pg} (hn:S.pg[n]?=some p) (hm:S.pg[m]?=some q) (hl:p.lv=q.lv) (hb:bg n=bg m):n=m:=by
 rcases Nat.decEq n m with h | h
 ·exfalso
  rcases T.dis n m p q hn hm hl h with ⟨x,v,h1,h2,h3⟩ | ⟨x,v,h1,h2,h3⟩
  ·have:=(T.page n p hn).wide x h1 v (hb.trans h2);lia
  ·have:=(T.page m q hm).wide x h1 v (hb.symm.trans h2);lia
 ·exact h
structure Yz (S:Sh) (bg:Bg) (S':Sh) (bg':Bg):Prop where
 old:∀ (n:Nat) (p:Pg),S.pg[n]?=some p->bg' n=bg n/\∃ p':Pg,S'.pg[n]?=some p'/\p'.lv=p.lv
def Untold (S:Sh) (k:Nat):Prop:=∀ (n:Nat) (p:Pg),S.pg[n]?=some p->0 < p.lv->(k:Int)∉p.ps
structure WOk (S:Sh) (bg:Bg) (w:Wk):Prop where
 at_:∀ n:Nat,w.O6=some n->∃ p:Pg,S.pg[n]?=some p/\w.O4<=p.lv/\leB (bg n) w.aim
 none_:w.O6=none->∀ l f,JV w.O3 l=some f->l < w.O4
 kept:∀ l f,JV w.O3 l=some f->∃ p:Pg,S.pg[f]?=some p/\p.lv=l
 above:∀ (n:Nat) (p:Pg),w.O6=some n->S.pg[n]?=some p->∀ l f,JV w.O3 l=some f->p.lv < l->leBB (bg f) (bg n)
 chain:∀ l f l' f',JV w.O3 l=some f->JV w.O3 l'=some f'->w.O4<=l->l < l'->leBB (bg f') (bg f)
 gap:∀ (n:Nat) (p:Pg),w.O6=some n->S.pg[n]?=some p->w.O4 < p.lv->∀ l f,JV w.O3 l=some f->l < w.O4∨p.lv < l
 full:∀ (n:Nat) (p:Pg),w.O6=some n->S.pg[n]?=some p->∀ l' f',JV w.O3 l'=some f'->∀ l,p.lv < l->l<=l'->∃ f,JV w.O3 l=some f
 tell:0 < w.O4->∃ (k:Nat) (q:Pg),w.Oz=some k/\S.pg[k]?=some q/\q.lv+1=w.O4/\bg k=some w.aim
theorem WOk.grow {w:Wk} (W:WOk S bg w) (g:Yz S bg S' bg'):WOk S' bg' w where
 at_:=fun n h=>by
  obtain ⟨p,h1,h2,h3⟩:=W.at_ n h
  obtain ⟨e,p',h4,h5⟩:=g.old n p h1
  exact ⟨p',h4,by lia,by rw [e];exact h3⟩
 none_:=W.none_
 kept:=fun l f h=>by
  obtain ⟨p,h1,h2⟩:=W.kept l f h
  obtain ⟨e,p',h4,h5⟩:=g.old f p h1
  exact ⟨p',h4,by lia⟩
 above:=fun n p' hp hn l f hf hl=>by
  obtain ⟨p,h1,_⟩:=W.at_ n hp
  obtain ⟨e,p2,h4,h5⟩:=g.old n p h1
  rw [h4] at hn;cases hn
  obtain ⟨pf,h6,_⟩:=W.kept l f hf
  rw [e,(g.old f pf h6).1]
  exact W.above n p hp h1 l f hf (by lia)
 chain:=fun l f l' f' h h' a b=>by
  obtain ⟨p,h1,_⟩:=W.kept l f h
  obtain ⟨p',h1',_⟩:=W.kept l' f' h'
  rw [(g.old f p h1).1,(g.old f' p' h1').1]
  exact W.chain l f l' f' h h' a b
 gap:=fun n p' hp hn a l f hf=>by
  obtain ⟨p,h1,_⟩:=W.at_ n hp
  obtain ⟨e,p2,h4,h5⟩:=g.old n p h1
  rw [h4] at hn;cases hn
  rw [h5]
  exact W.gap n p hp h1 (by lia) l f hf
 full:=fun n p' hp hn l' f' hf l a b=>by
  obtain ⟨p,h1,_⟩:=W.at_ n hp
  obtain ⟨e,p2,h4,h5⟩:=g.old n p h1
  rw [h4] at hn;cases hn
  exact W.full n p hp h1 l' f' hf l (by lia) b
 tell:=fun h=>by
  obtain ⟨k,q,h1,h2,h3,h4⟩:=W.tell h
  obtain ⟨e,p',h5,h6⟩:=g.old k q h2
  exact ⟨k,p',h1,h5,by lia,by rw [e];exact h4⟩
theorem WOk.fresh {w:Wk} (h1:w.O6=none) (h2:w.O3=[]) (h3:w.O4=0):WOk S bg w where
 at_:=fun n h=>by rw [h1] at h;cases h
 none_:=fun _ l f h=>by rw [h2] at h;cases h
 kept:=fun l f h=>by rw [h2] at h;cases h
 above:=fun n p h=>by rw [h1] at h;cases h
 chain:=fun l f l' f' h=>by rw [h2] at h;cases h
 gap:=fun n p h=>by rw [h1] at h;cases h
 full:=fun n p h=>by rw [h1] at h;cases h
 tell:=fun h=>by lia
theorem QT {α:Type} {xs:List α} {n m:Nat} {x y:α} (h:(xs.set n x)[m]?=some y):(m=n/\y=x/\n < xs.length)∨(m≠n/\xs[m]?=some y):=by
 by_cases e:m=n
 ·subst e
  by_cases hl:m < xs.length
  ·rw [As hl] at h;cases h;exact .inl ⟨rfl,rfl,hl⟩
  ·rw [Cn (by simpa using hl)] at h;cases h
 ·rw [Ak (Ne.symm e)] at h;exact .inr ⟨e,h⟩
theorem QaJ {α:Type} {xs:List α} {n m:Nat} {x y:α} (h:xs[m]?=some y):(xs.set n x)[m]?=some (if m=n then x else y):=by
 have hl:=(Ac.mp h).1
 by_cases e:m=n
 ·subst e;rw [As hl,C0 rfl]
 ·rw [Ak (Ne.symm e),h,Cz e]
theorem Tree.write {S:Sh} {bg:Bg} (T:Tree S bg) {n:Nat} {p p':Pg} {x y:Int} (hn:S.pg[n]?=some p) (hl:p'.lv=p.lv) (hh:p'.hi=p.hi) (hs:p'.sd=p.sd) (ok:JF S.O2 (bg n) p')
  (hk:0 < p.lv->∀ j k,p'.ps[j]?=some k->∃ (c:Nat) (q:Pg),k=(c:Int)/\S.pg[c]?=some q/\q.lv+1=p.lv/\bg c=Jj (bg n) p'.ks j) :
  Tree { S with pg:=S.pg.set n p',rd:=x,wr:=y } bg/\Yz S bg { S with pg:=S.pg.set n p',rd:=x,wr:=y } bg:=by
 have old:∀ (m:Nat) (q:Pg),S.pg[m]?=some q->∃ q':Pg,(S.pg.set n p')[m]?=some q'/\q'.lv=q.lv/\q'.hi=q.hi/\q'.sd=q.sd:=fun m q h=>by
  refine ⟨_,QaJ h,?_⟩
  by_cases e:m=n
  ·subst e;rw [hn] at h;cases h;simp [hl,hh,hs]
  ·simp [e]
 have new:∀ (m:Nat) (q':Pg),(S.pg.set n p')[m]?=some q'->∃ q:Pg,S.pg[m]?=some q/\q'.lv=q.lv/\q'.hi=q.hi/\q'.sd=q.sd:=fun m q' h=>by
  rcases QT h with ⟨rfl,rfl,_⟩ | ⟨_,h⟩
  ·exact ⟨p,hn,hl,hh,hs⟩
  ·exact ⟨q',h,rfl,rfl,rfl⟩
 refine ⟨⟨T.room2,?_,T.rbg,fun m q h=>?_,fun m q h=>?_,fun m q h h0 j k hj=>?_,fun a b q r ha hb hab e=>?_,fun m q h v hv=>?_⟩,⟨fun m q h=>⟨rfl,by obtain ⟨q',h1,h2,_⟩:=old m q h;exact ⟨q',h1,h2⟩⟩⟩⟩
 ·obtain ⟨r,h1,h2⟩:=T.root
  obtain ⟨r',h3,h4,_⟩:=old _ _ h1
  exact ⟨r',h3,fun m q h=>by obtain ⟨q0,h5,h6,_⟩:=new m q h;rw [h6,h4];exact h2 m q0 h5⟩
 ·rcases QT h with ⟨rfl,rfl,_⟩ | ⟨_,h⟩
  ·exact ok
  ·exact T.page m q h
 ·obtain ⟨q0,h1,h2,h3,h4⟩:=new m q h
  rcases T.link m q0 h1 with ⟨a,b⟩ | ⟨x,s,r,a,b,c,d,e⟩
  ·exact .inl ⟨h3.trans a,h4.trans b⟩
  ·obtain ⟨r',c1,c2,_⟩:=old s r c
   exact .inr ⟨x,s,r',h3.trans a,h4.trans b,c1,by rw [c2,d,h2],e⟩
 ·rcases QT h with ⟨rfl,rfl,_⟩ | ⟨_,h⟩
  ·obtain ⟨c,r,h1,h2,h3,h4⟩:=hk (by lia) j k hj
   obtain ⟨r',c1,c2,_⟩:=old c r h2
   exact ⟨c,r',h1,c1,by lia,h4⟩
  ·obtain ⟨c,r,h1,h2,h3,h4⟩:=T.kid m q h h0 j k hj
   obtain ⟨r',c1,c2,_⟩:=old c r h2
   exact ⟨c,r',h1,c1,by lia,h4⟩
 ·obtain ⟨q0,h1,h2,h3,_⟩:=new a q ha
  obtain ⟨r0,h5,h6,h7,_⟩:=new b r hb
  rw [h3,h7]
  exact T.dis a b q0 r0 h1 h5 (by lia) e
 ·obtain ⟨q0,h1,h2,_⟩:=new m q h
  obtain ⟨a,r,h3,h4,h5⟩:=T.pred m q0 h1 v hv
  obtain ⟨r',c1,c2,c3,_⟩:=old a r h3
  exact ⟨a,r',c1,by lia,c3.trans h5⟩
theorem Jh {α:Type} {xs:List α} {x:α} {m:Nat} {y:α} (h:(xs++[x])[m]?=some y):(m=xs.length/\y=x)∨xs[m]?=some y:=by
 rcases Bf m xs.length with q | q
 ·rw [Ag q] at h;exact .inr h
 ·rw [Ap q] at h
  by_cases e:m - xs.length=0
  ·rw [e] at h;simp at h;exact .inl ⟨by lia,h.symm⟩
  ·rw [Cn (by simp;lia)] at h;cases h
theorem J3 {α:Type} {xs:List α} {x:α} {m:Nat} {y:α} (h:xs[m]?=some y):(xs++[x])[m]?=some y:=by
 rw [Ag (Ac.mp h).1];exact h
def QB {α:Type} {xs:List α} {m:Nat} {y:α} (h:xs[m]?=some y):m < xs.length:=(Ac.mp h).1
def X4 (bg:Bg) (l:Nat) (k:Option Int):Bg:=fun i=>if i=l then k else bg i
theorem Kl {bg:Bg} {l:Nat} {k:Option Int} {i:Nat} (h:i < l):X4 bg l k i=bg i:=by unfold X4;rw [Cz (by lia)]
theorem Z6 {l:Nat} {k:Option Int}:X4 bg l k l=k:=by unfold X4;rw [C0 rfl]
section
variable {S:Sh} {bg:Bg} {n:Nat} {p P:Pg}
theorem qL (h3:1<=P.ks.length):P.ks[mid P]?=some (J6 P):=by
 have:mid P < P.ks.length:=by unfold mid;lia
 unfold J6
 rw [Cg,Ab this];rfl
theorem qR {ks:List Int} (h:ks.Pairwise (· < ·)) {i j:Nat} {x y:Int} (hi:ks[i]?=some x) (hj:ks[j]?=some y) (hij:i < j):x < y:=by
 obtain ⟨a,rfl⟩:=Ac.mp hi
 obtain ⟨b,rfl⟩:=Ac.mp hj
 exact List.pairwise_iff_getElem.mp h i j a b hij
theorem GE (ok:JF P.ks.length (bg n) P) (h3:3<=P.ks.length):ltB (bg n) (J6 P):=by
 intro v hv
 have h0:P.ks[0]?=some (P.ks[0]'(by lia)):=Ab _
 have a:=ok.low _ (B0 (by lia:0 < P.ks.length)) v hv
 have b:=qR ok.sorted h0 (qL (P:=P) (by lia)) (by unfold mid;lia)
 lia
theorem QgG (ok:JF P.ks.length (bg n) P) (h3:3<=P.ks.length) (hr:P.ks.length<=S.O2+1) (l:Nat):JF S.O2 (bg n) (QZ P l) where
 sorted:=ok.sorted.sublist (List.take_sublist _ _)
 few:=by show (P.ks.take (mid P)).length<=_;rw [A8];unfold mid;lia
 parts:=by
  show (P.ps.take (Zo P)).length=(P.ks.take (mid P)).length+(if P.lv=0 then 0 else 1)
  have:=ok.parts
  rw [A8,A8]
  unfold Zo mid
  split at this<;>split<;>simp_all<;>lia
 low:=fun k hk=>ok.low k (Bv hk)
 lowF:=fun h k hk=>ok.lowF h k (Bv hk)
 high:=fun k hk v hv=>by
  cases hv
  obtain ⟨i,hi,e⟩:=Ch.mp hk
  simp only [QZ,List.getElem_take] at e
  have hi':i < mid P:=by have:=hi;rw [show (QZ P l).ks=P.ks.take (mid P) from rfl,A8] at this;lia
  exact qR ok.sorted (i:=i) (by rw [<- e];exact Ab _) (qL (P:=P) (by lia)) hi'
 wide:=fun h hh=>by cases hh;exact GE ok h3
theorem QgD (ok:JF P.ks.length (bg n) P) (h3:3<=P.ks.length) (hr:P.ks.length<=S.O2+1):JF S.O2 (some (J6 P)) (QN P) where
 sorted:=ok.sorted.sublist (List.drop_sublist _ _)
 few:=by show (P.ks.drop (Zo P)).length<=_;rw [Bq];unfold Zo mid;split<;>lia
 parts:=by
  show (P.ps.drop (Zo P)).length=(P.ks.drop (Zo P)).length+(if P.lv=0 then 0 else 1)
  have:=ok.parts
  rw [Bq,Bq]
  unfold Zo mid
  split at this<;>split<;>simp_all<;>lia
 low:=fun k hk v hv=>by
  cases hv
  obtain ⟨i,hi,e⟩:=Ch.mp hk
  rw [show (QN P).ks=P.ks.drop (Zo P) from rfl] at hi
  have hi2:Zo P+i < P.ks.length:=by rw [Bq] at hi;lia
  have e':P.ks[Zo P+i]?=some k:=by rw [<- e];rw [Ab hi2];simp [QN]
  rcases Bf (mid P) (Zo P+i) with q | q
  ·exact Int.le_of_lt (qR ok.sorted (qL (P:=P) (by lia)) e' q)
  ·have:mid P=Zo P+i:=by unfold Zo at q ⊢;split<;>simp_all<;>lia
   rw [<- this,qL (P:=P) (by lia)] at e';cases e';lia
 lowF:=fun h k hk v hv=>by
  cases hv
  obtain ⟨i,hi,e⟩:=Ch.mp hk
  rw [show (QN P).ks=P.ks.drop (Zo P) from rfl] at hi
  have hi2:Zo P+i < P.ks.length:=by rw [Bq] at hi;lia
  have e':P.ks[Zo P+i]?=some k:=by rw [<- e];rw [Ab hi2];simp [QN]
  have h':0 < P.lv:=h
  exact qR ok.sorted (qL (P:=P) (by lia)) e' (by unfold Zo;rw [Cz (by lia)];lia)
 high:=fun k hk=>ok.high k (List.mem_of_mem_drop hk)
 wide:=fun h hh v hv=>by
  cases hv
  exact ok.high _ (Aw (qL (P:=P) (by lia))) h hh
theorem Tree.split (T:Tree S bg) {x y:Int} (hn:S.pg[n]?=some p) (hl:P.lv=p.lv) (hh:P.hi=p.hi) (hs:P.sd=p.sd) (ok:JF P.ks.length (bg n) P) (h1:S.O2 < P.ks.length) (h2:P.ks.length<=S.O2+1)
  (hk:0 < p.lv->∀ j k,P.ps[j]?=some k->∃ (c:Nat) (q:Pg),k=(c:Int)/\S.pg[c]?=some q/\q.lv+1=p.lv/\bg c=Jj (bg n) P.ks j) :
  Tree { S with pg:=(S.pg++[QN P]).set n (QZ P S.pg.length),rd:=x,wr:=y } (X4 bg S.pg.length (some (J6 P)))/\Yz S bg { S with pg:=(S.pg++[QN P]).set n (QZ P S.pg.length),rd:=x,wr:=y } (X4 bg S.pg.length (some (J6 P))):=by
 have r2:=T.room2
 have h3:3<=P.ks.length:=by lia
 have hnl:=QB hn
 have kg:=qL (P:=P) (by lia)
 have kl:=GE ok h3
 have kh:∀ h,p.hi=some h->J6 P < h:=fun h e=>ok.high _ (Aw kg) h (hh.trans e)
 have bo:∀ m q,S.pg[m]?=some q->X4 bg S.pg.length (some (J6 P)) m=bg m:=fun m q h=>Kl (QB h)
 have old:∀ (m:Nat) (q:Pg),S.pg[m]?=some q->∃ q':Pg,((S.pg++[QN P]).set n (QZ P S.pg.length))[m]?=some q'/\q'.lv=q.lv/\(m≠n->q'=q)/\(m=n->q'=QZ P S.pg.length):=fun m q h=>by
  refine ⟨_,QaJ (J3 h),?_,fun e=>by rw [Cz e],fun e=>by rw [C0 e]⟩
  by_cases e:m=n
  ·subst e;rw [hn] at h;cases h;rw [C0 rfl];exact hl
  ·rw [Cz e]
 have gl:((S.pg++[QN P]).set n (QZ P S.pg.length))[S.pg.length]?=some (QN P):=by
  rw [Ak (by lia),Ap (Ae _)];simp
 have gn:((S.pg++[QN P]).set n (QZ P S.pg.length))[n]?=some (QZ P S.pg.length):=by
  rw [As (by simp;lia)]
 have new:∀ (m:Nat) (q:Pg),((S.pg++[QN P]).set n (QZ P S.pg.length))[m]?=some q->(m=n/\q=QZ P S.pg.length)∨(m=S.pg.length/\q=QN P)∨(m≠n/\S.pg[m]?=some q):=fun m q h=>by
  rcases QT h with ⟨a,b,_⟩ | ⟨a,b⟩
  ·exact .inl ⟨a,b⟩
  ·rcases Jh b with c | c
   ·exact .inr (.inl c)
   ·exact .inr (.inr ⟨a,c⟩)
 have olv:(QZ P S.pg.length).lv=p.lv:=hl
 have nlv:(QN P).lv=p.lv:=hl
 refine ⟨⟨r2,?_,?_,fun m q h=>?_,fun m q h=>?_,fun m q h h0 j k hj=>?_,fun a b q r ha hb hab e=>?_,fun m q h v hv=>?_⟩,⟨fun m q h=>⟨bo m q h,by obtain ⟨q',a,b,_⟩:=old m q h;exact ⟨q',a,b⟩⟩⟩⟩
 ·obtain ⟨r,a,b⟩:=T.root
  obtain ⟨r',c,d,_⟩:=old _ _ a
  refine ⟨r',c,fun m q h=>?_⟩
  rcases new m q h with ⟨_,rfl⟩ | ⟨_,rfl⟩ | ⟨_,h⟩
  ·rw [olv,d];exact b n p hn
  ·rw [nlv,d];exact b n p hn
  ·rw [d];exact b m q h
 ·obtain ⟨r,a,_⟩:=T.root
  rw [show X4 bg S.pg.length (some (J6 P)) S.top=bg S.top from bo _ _ a];exact T.rbg
 ·rcases new m q h with ⟨rfl,rfl⟩ | ⟨rfl,rfl⟩ | ⟨_,h⟩
  ·rw [bo _ _ hn];exact QgG ok h3 h2 _
  ·rw [Z6];exact QgD ok h3 h2
  ·rw [bo _ _ h];exact T.page m q h
 ·rcases new m q h with ⟨rfl,rfl⟩ | ⟨rfl,rfl⟩ | ⟨_,h⟩
  ·exact .inr ⟨J6 P,S.pg.length,QN P,rfl,rfl,gl,rfl,Z6⟩
  ·rcases T.link n p hn with ⟨a,b⟩ | ⟨z,s,r,a,b,c,d,e⟩
   ·exact .inl ⟨hh.trans a,hs.trans b⟩
   ·obtain ⟨r',c1,c2,_⟩:=old s r c
    exact .inr ⟨z,s,r',hh.trans a,hs.trans b,c1,by rw [c2,d,nlv],by rw [bo _ _ c];exact e⟩
  ·rcases T.link m q h with ⟨a,b⟩ | ⟨z,s,r,a,b,c,d,e⟩
   ·exact .inl ⟨a,b⟩
   ·obtain ⟨r',c1,c2,_⟩:=old s r c
    exact .inr ⟨z,s,r',a,b,c1,by rw [c2,d],by rw [bo _ _ c];exact e⟩
 ·have lift:∀ {b0:Option Int} {ks0:List Int} {j0:Nat} {b1:Option Int} {ks1:List Int} {l1:Nat},Jj b0 ks0 j0=Jj b1 ks1 j->l1=p.lv->(∃ (c:Nat) (q:Pg),k=(c:Int)/\S.pg[c]?=some q/\q.lv+1=p.lv/\bg c=Jj b0 ks0 j0)->∃ (c:Nat) (q:Pg),k=(c:Int)/\((S.pg++[QN P]).set n (QZ P S.pg.length))[c]?=some q/\q.lv+1=l1/\X4 bg S.pg.length (some (J6 P)) c=Jj b1 ks1 j:=fun {b0 ks0 j0 b1 ks1 l1} e el ⟨c,q,a1,a2,a3,a4⟩=>by
   obtain ⟨q',c1,c2,_⟩:=old c q a2
   exact ⟨c,q',a1,c1,by lia,by rw [bo _ _ a2,a4,e]⟩
  rcases new m q h with ⟨rfl,rfl⟩ | ⟨rfl,rfl⟩ | ⟨_,h⟩
  ·rw [olv] at h0
   have hc:Zo P=mid P+1:=by unfold Zo;rw [Cz (by lia)]
   have hjl:j < mid P+1:=by
    have:=QB hj
    rw [show (QZ P S.pg.length).ps=P.ps.take (Zo P) from rfl,A8,hc] at this;lia
   have hj':P.ps[j]?=some k:=by
    rw [show (QZ P S.pg.length).ps=P.ps.take (Zo P) from rfl,B7 (by lia)] at hj;exact hj
   refine lift ?_ olv (hk h0 j k hj')
   rw [bo _ _ hn]
   cases j with
   | zero=>rfl
   | succ i=>show P.ks[i]?=(P.ks.take (mid P))[i]?;rw [B7 (by lia)]
  ·rw [nlv] at h0
   have hc:Zo P=mid P+1:=by unfold Zo;rw [Cz (by lia)]
   have hj':P.ps[mid P+1+j]?=some k:=by
    rw [show (QN P).ps=P.ps.drop (Zo P) from rfl,B9,hc] at hj;exact hj
   refine lift ?_ nlv (hk h0 _ k hj')
   rw [Z6]
   cases j with
   | zero=>show P.ks[mid P+0]?=some (J6 P);exact kg
   | succ i=>show P.ks[mid P+1+i]?=(P.ks.drop (Zo P))[i]?;rw [B9,hc]
  ·obtain ⟨c,r,a1,a2,a3,a4⟩:=T.kid m q h h0 j k hj
   obtain ⟨r',c1,c2,_⟩:=old c r a2
   exact ⟨c,r',a1,c1,by lia,by rw [bo _ _ a2,bo _ _ h,a4]⟩
 ·have on:∀ (b:Nat) (r:Pg),b≠n->S.pg[b]?=some r->p.lv=r.lv->(∃ h v,(QZ P S.pg.length).hi=some h/\X4 bg S.pg.length (some (J6 P)) b=some v/\h<=v)∨(∃ h v,r.hi=some h/\X4 bg S.pg.length (some (J6 P)) n=some v/\h<=v):=fun b r hbn hb hlv=>by
   rcases T.dis n b p r hn hb hlv (Ne.symm hbn) with ⟨h,v,a1,a2,a3⟩ | ⟨h,v,a1,a2,a3⟩
   ·exact .inl ⟨J6 P,v,rfl,by rw [bo _ _ hb];exact a2,by have:=kh h a1;lia⟩
   ·exact .inr ⟨h,v,a1,by rw [bo _ _ hn];exact a2,a3⟩
  have nn:∀ (b:Nat) (r:Pg),b≠n->S.pg[b]?=some r->p.lv=r.lv->(∃ h v,(QN P).hi=some h/\X4 bg S.pg.length (some (J6 P)) b=some v/\h<=v)∨(∃ h v,r.hi=some h/\X4 bg S.pg.length (some (J6 P)) S.pg.length=some v/\h<=v):=fun b r hbn hb hlv=>by
   rcases T.dis n b p r hn hb hlv (Ne.symm hbn) with ⟨h,v,a1,a2,a3⟩ | ⟨h,v,a1,a2,a3⟩
   ·exact .inl ⟨h,v,hh.trans a1,by rw [bo _ _ hb];exact a2,a3⟩
   ·exact .inr ⟨h,J6 P,a1,Z6,by have:=kl v a2;lia⟩
  rcases new a q ha with ⟨rfl,rfl⟩ | ⟨rfl,rfl⟩ | ⟨na,ha2⟩
  ·rcases new b r hb with ⟨rfl,rfl⟩ | ⟨rfl,rfl⟩ | ⟨nb,hb2⟩
   ·exact absurd rfl e
   ·exact .inl ⟨J6 P,J6 P,rfl,Z6,Bo _⟩
   ·exact on b r nb hb2 (by rw [<- hab,olv])
  ·rcases new b r hb with ⟨rfl,rfl⟩ | ⟨rfl,rfl⟩ | ⟨nb,hb2⟩
   ·exact .inr ⟨J6 P,J6 P,rfl,Z6,Bo _⟩
   ·exact absurd rfl e
   ·exact nn b r nb hb2 (by rw [<- hab,nlv])
  ·rcases new b r hb with ⟨rfl,rfl⟩ | ⟨rfl,rfl⟩ | ⟨nb,hb2⟩
   ·exact (on a q na ha2 (by rw [hab,olv])).symm
   ·exact (nn a q na ha2 (by rw [hab,nlv])).symm
   ·rcases T.dis a b q r ha2 hb2 hab e with ⟨h,v,a1,a2,a3⟩ | ⟨h,v,a1,a2,a3⟩
    ·exact .inl ⟨h,v,a1,by rw [bo _ _ hb2];exact a2,a3⟩
    ·exact .inr ⟨h,v,a1,by rw [bo _ _ ha2];exact a2,a3⟩
 ·have pr:∀ (l:Nat) (z:Pg),S.pg[l]?=some z->z.hi=some v->∃ (m:Nat) (q:Pg),((S.pg++[QN P]).set n (QZ P S.pg.length))[m]?=some q/\q.lv=z.lv/\q.hi=some v:=fun l z hz hv=>by
   by_cases e:l=n
   ·subst e;rw [hn] at hz;cases hz
    exact ⟨_,_,gl,nlv,hh.trans hv⟩
   ·obtain ⟨z',c1,c2,c3,_⟩:=old l z hz
    exact ⟨l,z',c1,c2,by rw [c3 e];exact hv⟩
  rcases new m q h with ⟨rfl,rfl⟩ | ⟨rfl,rfl⟩ | ⟨nm,h⟩
  ·rw [bo _ _ hn] at hv
   obtain ⟨a,z,b1,b2,b3⟩:=T.pred m p hn v hv
   obtain ⟨c,z',d1,d2,d3⟩:=pr a z b1 b3
   exact ⟨c,z',d1,by rw [d2,b2,olv],d3⟩
  ·rw [Z6] at hv
   exact ⟨n,_,gn,by rw [olv,nlv],hv⟩
  ·rw [bo _ _ h] at hv
   obtain ⟨a,z,b1,b2,b3⟩:=T.pred m q h v hv
   obtain ⟨c,z',d1,d2,d3⟩:=pr a z b1 b3
   exact ⟨c,z',d1,by rw [d2,b2],d3⟩
end
section
variable {S:Sh} {bg:Bg} {n:Nat} {p:Pg}
theorem Tree.raise (T:Tree S bg) {r q:Pg} {k:Nat} {aim x y:Int} (hr:S.pg[S.top]?=some r) (hk:S.pg[k]?=some q) (hl:q.lv=r.lv) (hb:bg k=some aim):
    Tree { S with rd:=x,pg:=S.pg++[⟨r.lv+1,[aim],[(S.top:Int),(k:Int)],none,none⟩],top:=S.pg.length,wr:=y } (X4 bg S.pg.length none)/\Yz S bg { S with rd:=x,pg:=S.pg++[⟨r.lv+1,[aim],[(S.top:Int),(k:Int)],none,none⟩],top:=S.pg.length,wr:=y } (X4 bg S.pg.length none):=by
  have r2:=T.room2
  have lev:∀ (m:Nat) (z:Pg),S.pg[m]?=some z->z.lv<=r.lv:=fun m z h=>by
    obtain ⟨r',a,b⟩:=T.root
    rw [hr] at a;cases a;exact b m z h
  have bo:∀ (m:Nat) (z:Pg),S.pg[m]?=some z->X4 bg S.pg.length none m=bg m:=fun m z h=>Kl (QB h)
  have gl:(S.pg++[(⟨r.lv+1,[aim],[(S.top:Int),(k:Int)],none,none⟩:Pg)])[S.pg.length]?=some ⟨r.lv+1,[aim],[(S.top:Int),(k:Int)],none,none⟩:=by simp
  refine ⟨⟨r2,⟨_,gl,fun m z h=>?_⟩,Z6,fun m z h=>?_,fun m z h=>?_,fun m z h h0 j c hj=>?_,fun a b z z' ha hb' hab e=>?_,fun m z h v hv=>?_⟩,⟨fun m z h=>⟨bo m z h,z,J3 h,rfl⟩⟩⟩
  . rcases Jh h with ⟨_,rfl⟩ | h
    . exact Ae _
    . exact Nat.le_succ_of_le (lev m z h)
  . rcases Jh h with ⟨rfl,rfl⟩ | h
    . rw [Z6]
      exact ⟨by simp,by show 1<=S.O2;lia,by simp,fun k hk v hv=>(by cases hv),fun _ k hk v hv=>(by cases hv),fun k hk v hv=>(by cases hv),fun h hh=>(by cases hh)⟩
    . rw [bo _ _ h];exact T.page m z h
  . rcases Jh h with ⟨rfl,rfl⟩ | h
    . exact .inl ⟨rfl,rfl⟩
    . rcases T.link m z h with a | ⟨z1,s,z2,a,b,c,d,e⟩
      . exact .inl a
      . exact .inr ⟨z1,s,z2,a,b,J3 c,d,by rw [bo _ _ c];exact e⟩
  . rcases Jh h with ⟨rfl,rfl⟩ | h
    . match j,hj with
      | 0,hj =>
        cases hj
        exact ⟨S.top,r,rfl,J3 hr,rfl,by rw [bo _ _ hr,Z6];exact T.rbg⟩
      | 1,hj =>
        cases hj
        exact ⟨k,q,rfl,J3 hk,by show q.lv+1=r.lv+1;lia,by rw [bo _ _ hk];exact hb⟩
      | j+2,hj=>simp at hj
    . obtain ⟨c',z',a1,a2,a3,a4⟩:=T.kid m z h h0 j c hj
      exact ⟨c',z',a1,J3 a2,a3,by rw [bo _ _ a2,bo _ _ h,a4]⟩
  . rcases Jh ha with ⟨rfl,rfl⟩ | ha2
    . rcases Jh hb' with ⟨rfl,rfl⟩ | hb2
      . exact absurd rfl e
      . have:=lev b z' hb2;have:r.lv+1=z'.lv:=hab;lia
    . rcases Jh hb' with ⟨rfl,rfl⟩ | hb2
      . have:=lev a z ha2;have:z.lv=r.lv+1:=hab;lia
      . rcases T.dis a b z z' ha2 hb2 hab e with ⟨h,v,a1,a2,a3⟩ | ⟨h,v,a1,a2,a3⟩
        . exact .inl ⟨h,v,a1,by rw [bo _ _ hb2];exact a2,a3⟩
        . exact .inr ⟨h,v,a1,by rw [bo _ _ ha2];exact a2,a3⟩
  . rcases Jh h with ⟨rfl,rfl⟩ | h
    . rw [Z6] at hv;cases hv
    . rw [bo _ _ h] at hv
      obtain ⟨a,z1,b1,b2,b3⟩:=T.pred m z h v hv
      exact ⟨a,z1,J3 b1,b2,b3⟩
theorem Vx {k:Int} (h:Jf p k=false):ltH k p.hi:=fun v hv=>by
 unfold Jf at h;rw [hv] at h;simp at h;lia
theorem uI {O2:Nat} (ok:JF O2 (bg n) p) (hl:p.lv=0) {k x:Int} (h1:leB (bg n) k) (h2:ltH k p.hi):JF (QW p k x).ks.length (bg n) (QW p k x) where
 sorted:=VP ok.sorted k
 few:=Ae _
 parts:=by
  have a:=ok.parts
  rw [C0 hl] at a
  have b:=xY p.ks k
  have c:=Xk p.ks k
  show (p.ps.take (cLt p.ks k)++x::p.ps.drop (cLe p.ks k)).length=(p.ks.take (cLt p.ks k)++k::p.ks.drop (cLe p.ks k)).length+(if p.lv=0 then 0 else 1)
  rw [C0 hl]
  simp only [Am,A9,A8,Bq];lia
 low:=fun y hy=>by
  rcases xm ok.sorted hy with rfl | hy
  ·exact h1
  ·exact ok.low y hy
 lowF:=fun h=>by have:0 < p.lv:=h;lia
 high:=fun y hy=>by
  rcases xm ok.sorted hy with rfl | hy
  ·exact h2
  ·exact ok.high y hy
 wide:=ok.wide
theorem xR {O2:Nat} (ok:JF O2 (bg n) p) {k x:Int}:(QW p k x).ks.length<=O2+1:=by
 have b:=xY p.ks k
 have c:=Xk p.ks k
 have d:=Go p.ks k
 have e:=ok.few
 show (p.ks.take (cLt p.ks k)++k::p.ks.drop (cLe p.ks k)).length<=_
 simp only [Am,A9,A8,Bq];lia
theorem kC {O2:Nat} (ok:JF O2 (bg n) p) (hl:p.lv=0) {k:Int}:JF O2 (bg n) (without p k) where
 sorted:=gb ok.sorted k
 few:=by
  have b:=xY p.ks k
  have c:=Xk p.ks k
  have d:=Go p.ks k
  have e:=ok.few
  show (p.ks.take (cLt p.ks k)++p.ks.drop (cLe p.ks k)).length<=_
  simp only [Am,A8,Bq];lia
 parts:=by
  have a:=ok.parts
  rw [C0 hl] at a
  have b:=xY p.ks k
  have c:=Xk p.ks k
  show (p.ps.take (cLt p.ks k)++p.ps.drop (cLe p.ks k)).length=(p.ks.take (cLt p.ks k)++p.ks.drop (cLe p.ks k)).length+(if p.lv=0 then 0 else 1)
  rw [C0 hl]
  simp only [Am,A8,Bq];lia
 low:=fun y hy=>ok.low y (kR hy)
 lowF:=fun h=>by have:0 < p.lv:=h;lia
 high:=fun y hy=>ok.high y (kR hy)
 wide:=ok.wide
theorem QdX (T:Tree S bg) (hn:S.pg[n]?=some p) {k:Nat} {q:Pg} {aim:Int} (hk:S.pg[k]?=some q) (hl:q.lv+1=p.lv) (hb:bg k=some aim) (hu:Untold S k):aim∉p.ks/\bg n≠some aim:=by
 have ok:=T.page n p hn
 have h0:0 < p.lv:=by lia
 have pl:=ok.parts
 rw [Cz (by lia)] at pl
 have key:∀ j,Jj (bg n) p.ks j=some aim->j < p.ps.length->False:=fun j e hj=>by
  obtain ⟨c,z,a1,a2,a3,a4⟩:=T.kid n p hn h0 j _ (Ab hj)
  have:c=k:=T.uniq a2 hk (by lia) (by rw [a4,e,hb])
  subst this
  exact hu n p hn h0 (by rw [<- a1];exact B0 hj)
 refine ⟨fun hm=>?_,fun e=>key 0 e (by lia)⟩
 obtain ⟨i,hi,e⟩:=Ch.mp hm
 exact key (i+1) (by show p.ks[i]?=some aim;rw [Ab hi,e]) (by lia)
theorem qT {k:Int} {c:Nat} (h:k∉p.ks):(Zn p k c).ks=p.ks.take (cLt p.ks k)++k::p.ks.drop (cLe p.ks k):=by
 show p.ks.take (cLe p.ks k)++k::p.ks.drop (cLe p.ks k)=_
 rw [Qb9 h]
theorem kB {O2:Nat} (ok:JF O2 (bg n) p) (hl:0 < p.lv) {k:Int} {c:Nat} (hk:k∉p.ks) (h1:ltB (bg n) k) (h2:ltH k p.hi):JF (Zn p k c).ks.length (bg n) (Zn p k c) where
 sorted:=by rw [qT hk];exact VP ok.sorted k
 few:=Ae _
 parts:=by
  have a:=ok.parts
  rw [Cz (by lia)] at a
  have d:=Xk p.ks k
  show (p.ps.take (cLe p.ks k+1)++(c:Int)::p.ps.drop (cLe p.ks k+1)).length=(p.ks.take (cLe p.ks k)++k::p.ks.drop (cLe p.ks k)).length+(if p.lv=0 then 0 else 1)
  rw [Cz (by lia)]
  simp only [Am,A9,A8,Bq];lia
 low:=fun y hy=>by
  rw [qT hk] at hy
  rcases xm ok.sorted hy with rfl | hy
  ·exact fun v hv=>Int.le_of_lt (h1 v hv)
  ·exact ok.low y hy
 lowF:=fun h y hy=>by
  rw [qT hk] at hy
  rcases xm ok.sorted hy with rfl | hy
  ·exact h1
  ·exact ok.lowF hl y hy
 high:=fun y hy=>by
  rw [qT hk] at hy
  rcases xm ok.sorted hy with rfl | hy
  ·exact h2
  ·exact ok.high y hy
 wide:=ok.wide
theorem yU {O2:Nat} (ok:JF O2 (bg n) p) {k:Int} {c:Nat}:(Zn p k c).ks.length<=O2+1:=by
 have d:=Xk p.ks k
 have e:=ok.few
 show (p.ks.take (cLe p.ks k)++k::p.ks.drop (cLe p.ks k)).length<=_
 simp only [Am,A9,A8,Bq];lia
theorem va (T:Tree S bg) (hn:S.pg[n]?=some p) {k:Nat} {q:Pg} {aim:Int} (hk:S.pg[k]?=some q) (hl:q.lv+1=p.lv) (hb:bg k=some aim):
    ∀ j c,(Zn p aim k).ps[j]?=some c->∃ (c':Nat) (q:Pg),c=(c':Int)/\S.pg[c']?=some q/\q.lv+1=p.lv/\bg c'=Jj (bg n) (Zn p aim k).ks j:=by
  intro j c hj
  have ok:=T.page n p hn
  have h0:0 < p.lv:=by lia
  have pl:=ok.parts
  rw [Cz (by lia)] at pl
  have d:=Xk p.ks aim
  have hj:(p.ps.take (cLe p.ks aim+1)++(k:Int)::p.ps.drop (cLe p.ks aim+1))[j]?=some c:=hj
  show ∃ (c':Nat) (q:Pg),c=(c':Int)/\S.pg[c']?=some q/\q.lv+1=p.lv/\bg c'=Jj (bg n) (p.ks.take (cLe p.ks aim)++aim::p.ks.drop (cLe p.ks aim)) j
  have lt:(p.ps.take (cLe p.ks aim+1)).length=cLe p.ks aim+1:=by rw [A8];lia
  have lk:(p.ks.take (cLe p.ks aim)).length=cLe p.ks aim:=by rw [A8];lia
  rcases Bf j (cLe p.ks aim+1) with h | h
  . rw [Ag (by lia),B7 h] at hj
    obtain ⟨c',z,a1,a2,a3,a4⟩:=T.kid n p hn h0 j c hj
    refine ⟨c',z,a1,a2,a3,?_⟩
    rw [a4]
    cases j with
    | zero=>rfl
    | succ i =>
      show p.ks[i]?=(p.ks.take (cLe p.ks aim)++aim::p.ks.drop (cLe p.ks aim))[i]?
      rw [Ag (by lia),B7 (by lia)]
  . rw [Ap (by lia),lt] at hj
    rcases Bf (cLe p.ks aim+1) j with h2 | h2
    . obtain ⟨i,rfl⟩:∃ i,j=cLe p.ks aim+2+i:=⟨j - (cLe p.ks aim+2),by lia⟩
      rw [show cLe p.ks aim+2+i - (cLe p.ks aim+1)=i+1 by lia,List.getElem?_cons_succ,B9] at hj
      obtain ⟨c',z,a1,a2,a3,a4⟩:=T.kid n p hn h0 _ c hj
      refine ⟨c',z,a1,a2,a3,?_⟩
      rw [a4]
      rw [show cLe p.ks aim+1+i=(cLe p.ks aim+i)+1 by lia,show cLe p.ks aim+2+i=(cLe p.ks aim+1+i)+1 by lia]
      show p.ks[cLe p.ks aim+i]?=(p.ks.take (cLe p.ks aim)++aim::p.ks.drop (cLe p.ks aim))[cLe p.ks aim+1+i]?
      rw [Ap (by lia),lk,show cLe p.ks aim+1+i - cLe p.ks aim=i+1 by lia,List.getElem?_cons_succ,B9]
    . have e:j=cLe p.ks aim+1:=by lia
      subst e
      rw [show cLe p.ks aim+1 - (cLe p.ks aim+1)=0 by lia] at hj
      cases hj
      refine ⟨k,q,rfl,hk,hl,?_⟩
      rw [hb]
      show some aim=(p.ks.take (cLe p.ks aim)++aim::p.ks.drop (cLe p.ks aim))[cLe p.ks aim]?
      rw [Ap (by lia),lk];simp
end
structure All (S:Sh) (bg:Bg) (ws:List Wk):Prop where
 ok:∀ (i:Nat) (w:Wk),ws[i]?=some w->w.O7=false->WOk S bg w
 unt:∀ (i:Nat) (w:Wk) (k:Nat),ws[i]?=some w->w.O7=false->0 < w.O4->w.Oz=some k->Untold S k
 diff:∀ (i j:Nat) (w v:Wk) (k:Nat),i≠j->ws[i]?=some w->ws[j]?=some v->w.O7=false->v.O7=false->0 < w.O4->0 < v.O4->w.Oz=some k->v.Oz≠some k
structure Stp (S:Sh) (bg:Bg) (w:Wk) (S':Sh) (bg':Bg) (w':Wk):Prop where
 tree:Tree S' bg'
 grow:Yz S bg S' bg'
 wok:w'.O7=false->WOk S' bg' w'
 unt:∀ k v,Untold S k->bg k=some v->(0 < w.O4->w.Oz≠some k)->Untold S' k
 new:∀ k,w'.O7=false->0 < w'.O4->w'.Oz=some k->Untold S' k/\((0 < w.O4/\w.Oz=some k)∨S.pg.length<=k)
 O2:S'.O2=S.O2
 len:S'.pg.length<=S.pg.length+1
theorem All.step {ws:List Wk} {i:Nat} {w w':Wk} (A:All S bg ws) (hi:ws[i]?=some w) (hw:w.O7=false) (st:Stp S bg w S' bg' w'):All S' bg' (ws.set i w') where
 ok:=fun j v hj hv=>by
  rcases QT hj with ⟨rfl,rfl,_⟩ | ⟨_,h⟩
  ·exact st.wok hv
  ·exact (A.ok j v h hv).grow st.grow
 unt:=fun j v k hj hv hg hk=>by
  rcases QT hj with ⟨rfl,rfl,_⟩ | ⟨e,h⟩
  ·exact (st.new k hv hg hk).1
  ·obtain ⟨k',q,a1,a2,a3,a4⟩:=(A.ok j v h hv).tell hg
   rw [hk] at a1;cases a1
   exact st.unt k _ (A.unt j v k h hv hg hk) a4 fun g0=>(A.diff j i v w k e h hi hv hw hg g0 hk)
 diff:=fun a b u v k e ha hb hu hv gu gv hk hk'=>by
  have key:∀ (c:Nat) (x:Wk),c≠i->ws[c]?=some x->x.O7=false->0 < x.O4->x.Oz=some k->w'.O7=false->0 < w'.O4->w'.Oz=some k->False:=fun c x hc hx he hg hk he' hg' hk'=>by
   rcases (st.new k he' hg' hk').2 with ⟨g0,n0⟩ | l
   ·exact A.diff c i x w k hc hx hi he hw hg g0 hk n0
   ·obtain ⟨k',q,a1,a2,_⟩:=(A.ok c x hx he).tell hg
    rw [hk] at a1;cases a1
    have:=QB a2;lia
  rcases QT ha with ⟨rfl,rfl,_⟩ | ⟨ea,ha2⟩
  ·rcases QT hb with ⟨rfl,rfl,_⟩ | ⟨eb,hb2⟩
   ·exact e rfl
   ·exact key b v eb hb2 hv gv hk' hu gu hk
  ·rcases QT hb with ⟨rfl,rfl,_⟩ | ⟨eb,hb2⟩
   ·exact key a u ea ha2 hu gu hk hv gv hk'
   ·exact A.diff a b u v k e ha2 hb2 hu hv gu gv hk hk'
theorem All.put {ws:List Wk} {i:Nat} {w:Wk} (A:All S bg ws) (h1:w.O6=none) (h2:w.O3=[]) (h3:w.O4=0):All S bg (ws.set i w) where
 ok:=fun j v hj hv=>by
  rcases QT hj with ⟨rfl,rfl,_⟩ | ⟨_,h⟩
  ·exact WOk.fresh h1 h2 h3
  ·exact A.ok j v h hv
 unt:=fun j v k hj hv hg hk=>by
  rcases QT hj with ⟨rfl,rfl,_⟩ | ⟨_,h⟩
  ·lia
  ·exact A.unt j v k h hv hg hk
 diff:=fun a b u v k e ha hb hu hv gu gv hk=>by
  rcases QT ha with ⟨rfl,rfl,_⟩ | ⟨_,ha⟩
  ·lia
  ·rcases QT hb with ⟨rfl,rfl,_⟩ | ⟨_,hb⟩
   ·lia
   ·exact A.diff a b u v k e ha hb hu hv gu gv hk
def Tree.rd {S:Sh} (T:Tree S bg) (x y:Int):Tree { S with rd:=x,wr:=y } bg:=⟨T.room2,T.root,T.rbg,T.page,T.link,T.kid,T.dis,T.pred⟩
section
variable {S:Sh} {bg:Bg} {n:Nat} {p P:Pg} {w:Wk}
theorem Untold.set {S:Sh} {n:Nat} {p P:Pg} {k:Nat} {x y:Int} (h:Untold S k) (hn:S.pg[n]?=some p) (hl:P.lv=p.lv) (hs:0 < p.lv->(k:Int)∈P.ps->(k:Int)∈p.ps):Untold { S with pg:=S.pg.set n P,rd:=x,wr:=y } k:=fun m q hm h0 hk=>by
 rcases QT hm with ⟨rfl,rfl,_⟩ | ⟨_,hm⟩
 ·exact h m p hn (by lia) (hs (by lia) hk)
 ·exact h m q hm h0 hk
theorem Untold.halves {S:Sh} {n:Nat} {p P:Pg} {k l:Nat} {x y:Int} (h:Untold S k) (hn:S.pg[n]?=some p) (hl:P.lv=p.lv) (hs:0 < p.lv->(k:Int)∈P.ps->(k:Int)∈p.ps):Untold { S with pg:=(S.pg++[QN P]).set n (QZ P l),rd:=x,wr:=y } k:=fun m q hm h0 hk=>by
 rcases QT hm with ⟨rfl,rfl,_⟩ | ⟨_,hm⟩
 ·have h0':0 < P.lv:=h0
  exact h m p hn (by lia) (hs (by lia) (Bv hk))
 ·rcases Jh hm with ⟨rfl,rfl⟩ | hm
  ·have h0':0 < P.lv:=h0
   exact h n p hn (by lia) (hs (by lia) (List.mem_of_mem_drop hk))
  ·exact h m q hm h0 hk
theorem Tree.untold_new (T:Tree S bg) {k:Nat} (h:S.pg.length<=k):Untold S k:=fun m q hm h0 hk=>by
 obtain ⟨j,hj,e⟩:=Ch.mp hk
 obtain ⟨c,z,a1,a2,_⟩:=T.kid m q hm h0 j _ (Ab hj)
 rw [e] at a1
 have:k=c:=by lia
 have:=QB a2;lia
theorem KZ (T:Tree S bg) (hn:S.pg[n]?=some p) (hl:P.lv=p.lv) (hh:P.hi=p.hi) (hs:P.sd=p.sd) (ok:JF P.ks.length (bg n) P) (h2:P.ks.length<=S.O2+1)
  (hk:0 < p.lv->∀ j k,P.ps[j]?=some k->∃ (c:Nat) (q:Pg),k=(c:Int)/\S.pg[c]?=some q/\q.lv+1=p.lv/\bg c=Jj (bg n) P.ks j)
  (W:WOk S bg w) (hw:w.O7=false) (hpl:w.O6=some n∨w.O6=none) (hg:p.lv=w.O4) (hsub:∀ k:Nat,0 < p.lv->(k:Int)∈P.ps->(k:Int)∈p.ps∨(0 < w.O4/\w.Oz=some k)) :
  ∃ bg',Stp S bg w (Qu S w n P).2.1 bg' (Qu S w n P).2.2:=by
 unfold Qu
 by_cases hr:P.ks.length<=S.O2
 ·rw [C0 hr]
  obtain ⟨T',G⟩:=T.write (x:=S.rd) (y:=S.wr+1) (p':=P) hn hl hh hs ⟨ok.sorted,hr,ok.parts,ok.low,ok.lowF,ok.high,ok.wide⟩ hk
  refine ⟨bg,T',G,fun h=>(by cases h),fun k v hu hb hne=>hu.set hn hl fun h0 hm=>?_,fun k h=>(by cases h),rfl,(by simp)⟩
  rcases hsub k h0 hm with a | ⟨a,b⟩
  ·exact a
  ·exact absurd b (hne a)
 ·rw [Cz hr]
  obtain ⟨T',G⟩:=T.split (x:=S.rd) (y:=S.wr+1+1) hn hl hh hs ok (by lia) h2 hk
  have r2:=T.room2
  have kl:=GE ok (by lia)
  have gl:((S.pg++[QN P]).set n (QZ P S.pg.length))[S.pg.length]?=some (QN P):=by
   rw [Ak (by have:=QB hn;lia),Ap (Ae _)];simp
  have pln:∀ f,JV w.O3 (p.lv+1)=some f->w.O6=some n:=fun f hf=>by
   rcases hpl with h | h
   ·exact h
   ·have:=W.none_ h _ f hf;lia
  refine ⟨_,T',G,fun _=>?_,fun k v hu hb hne=>hu.halves hn hl fun h0 hm=>?_,fun k _ _ e=>?_,rfl,by simp⟩
  ·have lv':P.lv=w.O4:=hl.trans hg
   refine ⟨fun f hf=>?_,fun hnone l f hf=>?_,fun l f hf=>?_,fun f q hf hq l f' hf' hlt=>?_,fun l f l' f' hf hf' a b=>?_,fun f q hf hq hlt=>?_,fun f q hf hq l' f' hf' l a b=>?_,fun _=>⟨S.pg.length,QN P,rfl,gl,rfl,Z6⟩⟩
   ·have hf:JV w.O3 (P.lv+1)=some f:=hf
    rw [hl] at hf
    obtain ⟨q,a1,a2⟩:=W.kept _ f hf
    obtain ⟨e,q',a3,a4⟩:=G.old f q a1
    refine ⟨q',a3,?_,?_⟩
    ·show P.lv+1<=q'.lv;lia
    ·rw [e]
     intro v hv
     obtain ⟨u,b1,b2⟩:=W.above n p (pln f hf) hn _ f hf (by lia) v hv
     have:=kl u b1;show v<=J6 P;lia
   ·have hnone:JV w.O3 (P.lv+1)=none:=hnone
    show l < P.lv+1
    rcases Bf l (P.lv+1) with h | h
    ·exact h
    ·exfalso
     rcases hpl with hp | hp
     ·obtain ⟨f0,hf0⟩:=W.full n p hp hn l f hf (P.lv+1) (by lia) h
      rw [hnone] at hf0;cases hf0
     ·have:=W.none_ hp l f hf;lia
   ·obtain ⟨q,a1,a2⟩:=W.kept l f hf
    obtain ⟨e,q',a3,a4⟩:=G.old f q a1
    exact ⟨q',a3,by lia⟩
   ·have hf:JV w.O3 (P.lv+1)=some f:=hf
    obtain ⟨q0,a1,a2⟩:=W.kept _ f hf
    obtain ⟨q1,b1,b2⟩:=W.kept _ f' hf'
    obtain ⟨e,q',a3,a4⟩:=G.old f q0 a1
    rw [e,(G.old f' q1 b1).1]
    rw [a3] at hq;cases hq
    exact W.chain _ f l f' hf hf' (by lia) (by lia)
   ·obtain ⟨q0,a1,a2⟩:=W.kept _ f hf
    obtain ⟨q1,b1,b2⟩:=W.kept _ f' hf'
    rw [(G.old f q0 a1).1,(G.old f' q1 b1).1]
    have a:P.lv+1<=l:=a
    exact W.chain l f l' f' hf hf' (by lia) b
   ·have hf:JV w.O3 (P.lv+1)=some f:=hf
    obtain ⟨q0,a1,a2⟩:=W.kept _ f hf
    obtain ⟨e,q',a3,a4⟩:=G.old f q0 a1
    have hlt2:P.lv+1 < q.lv:=hlt
    rw [a3] at hq;cases hq
    lia
   ·have hf:JV w.O3 (P.lv+1)=some f:=hf
    obtain ⟨q0,a1,a2⟩:=W.kept _ f hf
    obtain ⟨e,q',a3,a4⟩:=G.old f q0 a1
    rw [a3] at hq;cases hq
    rw [hl] at hf
    exact W.full n p (pln f hf) hn l' f' hf' l (by lia) b
  ·rcases hsub k h0 hm with a | ⟨a,b⟩
   ·exact a
   ·exact absurd b (hne a)
  ·have e:S.pg.length=k:=Aj e
   subst e
   refine ⟨(T.untold_new (Ae _)).halves hn hl fun h0 hm=>?_,.inr (Ae _)⟩
   obtain ⟨j,hj,e⟩:=Ch.mp hm
   obtain ⟨c,z,a1,a2,_⟩:=hk h0 j _ (Ab hj)
   rw [e] at a1
   have:S.pg.length=c:=by lia
   have:=QB a2;lia
end
section
variable {S:Sh} {bg:Bg} {n:Nat} {p:Pg} {w:Wk}
theorem Qbq {ks:List Int} (h:ks.Pairwise (· < ·)) {k x:Int} {i:Nat} (hi:i < cLe ks k) (hx:ks[i]?=some x):x<=k:=by
 have e:(ks.take (cLe ks k))[i]?=some x:=by rw [B7 hi];exact hx
 rw [(YQ h k).1] at e
 simpa using (Bm.mp (Aw e)).2
theorem Qag (T:Tree S bg) (W:WOk S bg w) (hpl:w.O6=some n∨w.O6=none) (hn:S.pg[n]?=some p) (hg:w.O4<=p.lv) {s:Nat} {q:Pg} {h:Int} (hh:p.hi=some h) (hs:S.pg[s]?=some q) (hl:q.lv=p.lv) (hb:bg s=some h) {w':Wk} (e1:w'.O6=some s) (e2:w'.O3=w.O3) (e3:w'.O4=w.O4) (e4:h<=w'.aim) (e5:0 < w.O4->w'.Oz=w.Oz/\w'.aim=w.aim):WOk S bg w' where
 at_:=fun m hm=>by
  rw [e1] at hm;cases hm
  exact ⟨q,hs,by lia,fun v hv=>by rw [hb] at hv;cases hv;exact e4⟩
 none_:=fun hm=>by rw [e1] at hm;cases hm
 kept:=fun l f hf=>W.kept l f (e2▸hf)
 above:=fun m z hm hz l f hf hlt=>by
  rw [e1] at hm;cases hm
  rw [hs] at hz;cases hz
  rw [e2] at hf
  rcases hpl with hp | hp
  ·refine (W.above n p hp hn l f hf (by lia)).trans fun v hv=>⟨h,hb,?_⟩
   have:=(T.page n p hn).wide h hh v hv;lia
  ·have:=W.none_ hp l f hf;lia
 chain:=fun l f l' f' hf hf' a b=>W.chain l f l' f' (e2▸hf) (e2▸hf') (e3▸a) b
 gap:=fun m z hm hz hlt l f hf=>by
  rw [e1] at hm;cases hm
  rw [hs] at hz;cases hz
  rw [e2] at hf
  rcases hpl with hp | hp
  ·rcases W.gap n p hp hn (by lia) l f hf with a | a
   ·exact .inl (by lia)
   ·exact .inr (by lia)
  ·exact .inl (by have:=W.none_ hp l f hf;lia)
 full:=fun m z hm hz l' f' hf' l a b=>by
  rw [e1] at hm;cases hm
  rw [hs] at hz;cases hz
  rw [e2] at hf' ⊢
  rcases hpl with hp | hp
  ·exact W.full n p hp hn l' f' hf' l (by lia) b
  ·have:=W.none_ hp l' f' hf';lia
 tell:=fun h0=>by
  rw [e3] at h0 ⊢
  obtain ⟨k,z,a1,a2,a3,a4⟩:=W.tell h0
  obtain ⟨b1,b2⟩:=e5 h0
  exact ⟨k,z,b1.trans a1,a2,a3,by rw [b2];exact a4⟩
theorem QeA (T:Tree S bg) (W:WOk S bg w) (hpl:w.O6=some n∨(w.O6=none/\n=S.top)) (hn:S.pg[n]?=some p) (hg:w.O4 < p.lv) {c:Nat} {q:Pg} (hc:S.pg[c]?=some q) (hl:q.lv+1=p.lv) (hb:bg c=Jj (bg n) p.ks (cLe p.ks w.aim)):WOk S bg { w with O3:=zP w.O3 p.lv n,O6:=some c }:=by
  have ok:=T.page n p hn
  have lb:leBB (bg n) (bg c):=by
    rw [hb]
    cases e:cLe p.ks w.aim with
    | zero=>exact leBB.refl _
    | succ i =>
      intro v hv
      have hi:i < p.ks.length:=by have:=Xk p.ks w.aim;lia
      refine ⟨p.ks[i],Ab hi,Int.le_of_lt (ok.lowF (by lia) _ (B0 hi) v hv)⟩
  have la:leB (bg n) w.aim:=by
    rcases hpl with hp | ⟨_,rfl⟩
    . obtain ⟨p',a1,a2,a3⟩:=W.at_ n hp
      exact a3
    . intro v hv;rw [T.rbg] at hv;cases hv
  have ca:leB (bg c) w.aim:=by
    rw [hb]
    cases e:cLe p.ks w.aim with
    | zero=>exact la
    | succ i=>intro v hv;exact Qbq ok.sorted (by lia) hv
  have old:∀ l f,JV w.O3 l=some f->l≠p.lv->l < w.O4∨(p.lv < l/\w.O6=some n):=fun l f hf hne=>by
    rcases hpl with hp | ⟨hp,_⟩
    . rcases W.gap n p hp hn hg l f hf with a | a
      . exact .inl a
      . exact .inr ⟨a,hp⟩
    . exact .inl (W.none_ hp l f hf)
  have gp:∀ l f,JV (zP w.O3 p.lv n) l=some f->(l=p.lv/\f=n)∨(l≠p.lv/\JV w.O3 l=some f):=fun l f hf=>by
    rw [zx] at hf
    by_cases e:l=p.lv
    . rw [C0 e] at hf;cases hf;exact .inl ⟨e,rfl⟩
    . rw [Cz e] at hf;exact .inr ⟨e,hf⟩
  refine ⟨fun m hm=>?_,fun hm=>(by cases hm),fun l f hf=>?_,fun m z hm hz l f hf hlt=>?_,fun l f l' f' hf hf' a b=>?_,fun m z hm hz hlt l f hf=>?_,fun m z hm hz l' f' hf' l a b=>?_,W.tell⟩
  . cases hm
    refine ⟨q,hc,?_,ca⟩
    show w.O4<=q.lv;lia
  . rcases gp l f hf with ⟨rfl,rfl⟩ | ⟨_,h⟩
    . exact ⟨p,hn,rfl⟩
    . exact W.kept l f h
  . cases hm
    rw [hc] at hz;cases hz
    rcases gp l f hf with ⟨rfl,rfl⟩ | ⟨hne,h⟩
    . exact lb
    . rcases old l f h hne with a | ⟨a,hp⟩
      . lia
      . exact (W.above n p hp hn l f h a).trans lb
  . have a:w.O4<=l:=a
    rcases gp l f hf with ⟨rfl,rfl⟩ | ⟨hne,h⟩
    . rcases gp l' f' hf' with ⟨rfl,rfl⟩ | ⟨hne',h'⟩
      . lia
      . rcases old l' f' h' hne' with c1 | ⟨c1,hp⟩
        . lia
        . exact W.above _ p hp hn l' f' h' c1
    . rcases gp l' f' hf' with ⟨rfl,rfl⟩ | ⟨hne',h'⟩
      . rcases old l f h hne with c1 | ⟨c1,hp⟩<;>lia
      . exact W.chain l f l' f' h h' a b
  . cases hm
    rw [hc] at hz;cases hz
    show l < w.O4∨_
    rcases gp l f hf with ⟨rfl,rfl⟩ | ⟨hne,h⟩
    . exact .inr (by lia)
    . rcases old l f h hne with c1 | ⟨c1,hp⟩
      . exact .inl c1
      . exact .inr (by lia)
  . cases hm
    rw [hc] at hz;cases hz
    by_cases e:l=p.lv
    . exact ⟨n,by rw [zx,C0 e]⟩
    . rcases gp l' f' hf' with ⟨rfl,rfl⟩ | ⟨hne,h⟩
      . lia
      . rcases old l' f' h hne with c1 | ⟨c1,hp⟩
        . lia
        . obtain ⟨f,hf⟩:=W.full n p hp hn l' f' h l (by lia) b
          exact ⟨f,by rw [zx,Cz e];exact hf⟩
def Stp.of_rd {S':Sh} {bg':Bg} {w':Wk} {x y:Int} (h:Stp { S with rd:=x,wr:=y } bg w S' bg' w'):Stp S bg w S' bg' w':=⟨h.tree,⟨h.grow.old⟩,h.wok,h.unt,h.new,h.O2,h.len⟩
theorem Stp.still (T:Tree S bg) {w':Wk} {x y:Int} (hu:0 < w.O4->∀ k,w.Oz=some k->Untold S k) (h:w'.O7=false->WOk S bg w'/\(w'.O4=w.O4/\(0 < w.O4->w'.Oz=w.Oz))):Stp S bg w { S with rd:=x,wr:=y } bg w' where
 tree:=T.rd x y
 grow:=⟨fun n p h=>⟨rfl,p,h,rfl⟩⟩
 wok:=fun e=>let W:=(h e).1;⟨W.at_,W.none_,W.kept,W.above,W.chain,W.gap,W.full,W.tell⟩
 unt:=fun k v hu _ _=>hu
 new:=fun k e g0 hk=>by
  obtain ⟨_,e1,e2⟩:=h e
  rw [e1] at g0
  rw [e2 g0] at hk
  exact ⟨hu g0 k hk,.inl ⟨g0,hk⟩⟩
 O2:=rfl
 len:=Nat.le_succ _
def WOk.rd (W:WOk S bg w) (x y:Int):WOk { S with rd:=x,wr:=y } bg w:=⟨W.at_,W.none_,W.kept,W.above,W.chain,W.gap,W.full,W.tell⟩
theorem QaM (T:Tree S bg) (W:WOk S bg w) (hw:w.O7=false) (hu:0 < w.O4->∀ k,w.Oz=some k->Untold S k):∃ r S' w' bg',JO S w=some (r,S',w')/\Stp S bg w S' bg' w':=by
  obtain ⟨n,hn0,hpl⟩:∃ n,w.O6.getD S.top=n/\(w.O6=some n∨(w.O6=none/\n=S.top)):=by
    cases e:w.O6 with
    | none=>exact ⟨S.top,rfl,.inr ⟨rfl,rfl⟩⟩
    | some m=>exact ⟨m,rfl,.inl rfl⟩
  obtain ⟨p,hn⟩:∃ p,S.pg[n]?=some p:=by
    rcases hpl with hp | ⟨_,rfl⟩
    . obtain ⟨p,a,_⟩:=W.at_ n hp;exact ⟨p,a⟩
    . obtain ⟨p,a,_⟩:=T.root;exact ⟨p,a⟩
  have hpl':w.O6=some n∨w.O6=none:=hpl.imp id And.left
  have ok:=T.page n p hn
  have la:leB (bg n) w.aim:=by
    rcases hpl with hp | ⟨_,rfl⟩
    . obtain ⟨p',a1,a2,a3⟩:=W.at_ n hp
      exact a3
    . intro v hv;rw [T.rbg] at hv;cases hv
  unfold JO
  rw [Cz (by rw [hw];simp),hn0]
  simp only [hn]
  by_cases hr:w.O6=none/\p.lv < w.O4
  . rw [C0 hr]
    have htop:n=S.top:=by
      rcases hpl with hp | ⟨_,e⟩
      . rw [hr.1] at hp;cases hp
      . exact e
    subst htop
    obtain ⟨k,q,a1,a2,a3,a4⟩:=W.tell (by lia)
    simp only [a1]
    have lev:q.lv<=p.lv:=by
      obtain ⟨r,b1,b2⟩:=T.root
      rw [hn] at b1;cases b1;exact b2 k q a2
    obtain ⟨T',G⟩:=T.raise (x:=S.rd+1) (y:=S.wr+1) hn a2 (by lia) a4
    refine ⟨_,_,_,_,rfl,T',G,fun h=>(by cases h),fun k' v hu' hb hne m z hm h0 hk'=>?_,fun k' h=>(by cases h),rfl,by simp⟩
    rcases Jh hm with ⟨rfl,rfl⟩ | hm
    . have hk2:(k':Int)=(S.top:Int)∨(k':Int)=(k:Int):=by simpa using hk'
      rcases hk2 with e | e
      . have:k'=S.top:=by lia
        subst this;rw [T.rbg] at hb;cases hb
      . have:k'=k:=by lia
        subst this;exact hne (by lia) a1
    . exact hu' m z hm h0 hk'
  . rw [Cz hr]
    have hg:w.O4<=p.lv:=by
      rcases hpl with hp | ⟨hp,_⟩
      . obtain ⟨p',b1,b2,_⟩:=W.at_ n hp
        rw [hn] at b1;cases b1;exact b2
      . exact Co fun h=>hr ⟨hp,h⟩
    cases hb:Jf p w.aim with
    | true =>
      rw [C0 rfl]
      rcases T.link n p hn with ⟨a,b⟩ | ⟨h,s,q,a,b,c,d,e⟩
      . unfold Jf at hb;rw [a] at hb;cases hb
      . simp only [b]
        have ha:h<=w.aim:=by unfold Jf at hb;rw [a] at hb;simpa using hb
        exact ⟨_,_,_,bg,rfl,Stp.still T hu fun _=>⟨Qag T W hpl' hn hg a c d e rfl rfl rfl ha fun _=>⟨rfl,rfl⟩,rfl,fun _=>rfl⟩⟩
    | false =>
      have lh:=Vx hb
      rw [Cz (by simp)]
      by_cases hd:w.O4 < p.lv
      . rw [C0 hd]
        have pl:=ok.parts
        rw [Cz (by lia)] at pl
        have hc:cLe p.ks w.aim < p.ps.length:=by have:=Xk p.ks w.aim;lia
        obtain ⟨c,q,a1,a2,a3,a4⟩:=T.kid n p hn (by lia) _ _ (Ab hc)
        rw [Ab hc,a1]
        simp only [By]
        exact ⟨_,_,_,bg,rfl,Stp.still T hu fun _=>⟨QeA T W hpl hn hd a2 a3 a4,rfl,fun _=>rfl⟩⟩
      . rw [Cz hd]
        have hlv:p.lv=w.O4:=by lia
        by_cases h0:0 < w.O4
        . rw [C0 h0]
          obtain ⟨k,q,a1,a2,a3,a4⟩:=W.tell h0
          simp only [a1]
          obtain ⟨n1,n2⟩:=QdX T hn a2 (by lia) a4 (hu h0 k a1)
          have lt:ltB (bg n) w.aim:=fun v hv=>by
            have:=la v hv
            have:v≠w.aim:=fun e=>n2 (by rw [hv,e])
            lia
          obtain ⟨bg',st⟩:=KZ (S:={ S with rd:=S.rd+1,wr:=S.wr }) (P:=Zn p w.aim k) (T.rd _ _) hn rfl rfl rfl (kB ok (by lia) n1 lt lh) (yU ok) (fun _=>va T hn a2 (by lia) a4) (W.rd _ _) hw hpl' hlv (fun k' _ hm=>by
            rcases Ah.mp hm with hm | hm
            . exact .inl (Bv hm)
            . rcases Bj.mp hm with e | hm
              . have:k'=k:=by lia
                subst this;exact .inr ⟨h0,a1⟩
              . exact .inl (List.mem_of_mem_drop hm))
          exact ⟨_,_,_,bg',rfl,st.of_rd⟩
        . rw [Cz h0]
          have hz:p.lv=0:=by lia
          have g0:w.O4=0:=by lia
          unfold Ja
          cases hdd:w.O0 with
          | find k=>exact ⟨_,_,_,bg,rfl,Stp.still T hu fun h=>(by cases h)⟩
          | put k x =>
            have W1:WOk { S with rd:=S.rd+1,wr:=S.wr } bg ({ O0:=.put k x,aim:=w.aim,O4:=w.O4,O6:=w.O6,O3:=w.O3,Oz:=w.Oz,O1:=QY p w.aim,O5:=w.O5,O7:=w.O7 }:Wk):=⟨W.at_,W.none_,W.kept,W.above,W.chain,W.gap,W.full,W.tell⟩
            obtain ⟨bg',st⟩:=KZ (S:={ S with rd:=S.rd+1,wr:=S.wr }) (w:=({ O0:=.put k x,aim:=w.aim,O4:=w.O4,O6:=w.O6,O3:=w.O3,Oz:=w.Oz,O1:=QY p w.aim,O5:=w.O5,O7:=w.O7 }:Wk)) (P:=QW p w.aim x) (T.rd _ _) hn rfl rfl rfl (uI ok hz la lh) (xR ok) (fun h=>(by lia)) W1 hw hpl' hlv (fun k' h=>(by lia))
            exact ⟨_,_,_,bg',rfl,⟨st.tree,⟨st.grow.old⟩,st.wok,st.unt,st.new,st.O2,st.len⟩⟩
          | cut k =>
            dsimp only
            by_cases hs:(QY p w.aim).isSome=true
            . rw [C0 hs]
              obtain ⟨T',G⟩:=T.write (x:=S.rd+1) (y:=S.wr+1) (p':=without p w.aim) hn rfl rfl rfl (kC ok hz) (fun h=>(by lia))
              exact ⟨_,_,_,bg,rfl,T',G,fun h=>(by cases h),fun k' v hu' _ _=>hu'.set hn rfl fun h=>(by lia),fun k' h=>(by cases h),rfl,by simp⟩
            . rw [Cz hs]
              exact ⟨_,_,_,bg,rfl,Stp.still T hu fun h=>(by cases h)⟩
          | stretch l h =>
            dsimp only
            rcases T.link n p hn with ⟨a,b⟩ | ⟨x,s,q,a,b,c,d,e⟩
            . simp only [a,b]
              exact ⟨_,_,_,bg,rfl,Stp.still T hu fun h=>(by cases h)⟩
            . simp only [a,b]
              by_cases hx:h<=x
              . rw [C0 hx]
                exact ⟨_,_,_,bg,rfl,Stp.still T hu fun h=>(by cases h)⟩
              . rw [Cz hx]
                exact ⟨_,_,_,bg,rfl,Stp.still T hu fun _=>⟨Qag T W hpl' hn hg a c d e rfl rfl rfl (Bo _) (fun z=>(by lia)),rfl,fun _=>rfl⟩⟩
end
def ltO:Option Int->Option Int->Bool
 | none,some _=>true
 | some v,some u=>decide (v < u)
 | _,none=>false
theorem qi {a b c:Option Int} (h:ltO a b=true) (g:ltO b c=true):ltO a c=true:=by
 cases a<;>cases b<;>cases c<;>simp_all [ltO];lia
theorem jf (a:Option Int):ltO a a=false:=by cases a<;>simp [ltO]
theorem VT {b:Option Int} {h:Int} (w:ltB b h):ltO b (some h)=true:=by
 cases b with
 | none=>rfl
 | some v=>simpa [ltO] using w v rfl
theorem Gy {α:Type} (p q:α->Bool):∀ l:List α,(∀ x∈l,q x=true->p x=true)->(l.filter q).length<=(l.filter p).length
  | [],_=>Ae _
  | x::l,h=>by
    have ih:=Gy p q l fun y hy=>h y (Ax _ hy)
    have hx:=h x (by simp)
    by_cases a:q x=true
    . simp [Ar,a,hx a,ih]
    . by_cases b:p x=true
      . simp [Ar,a,b];lia
      . simp [Ar,a,b,ih]
theorem xc {α:Type} (p q:α->Bool):∀ l:List α,(∀ x∈l,q x=true->p x=true)->(∃ a∈l,p a=true/\q a=false)->(l.filter q).length < (l.filter p).length
  | [],_,h=>by obtain ⟨a,h,_⟩:=h;cases h
  | x::l,h,⟨a,ha,pa,qa⟩=>by
    have le:=Gy p q l fun y hy=>h y (Ax _ hy)
    rcases Bj.mp ha with rfl | ha
    . simp [Ar,pa,qa];lia
    . have ih:=xc p q l (fun y hy=>h y (Ax _ hy)) ⟨a,ha,pa,qa⟩
      have hx:=h x (by simp)
      by_cases a:q x=true
      . simp [Ar,a,hx a];lia
      . by_cases b:p x=true
        . simp [Ar,a,b];lia
        . simp [Ar,a,b];lia
inductive Chain (S:Sh):Nat->List Nat->Prop
 | last {n:Nat} {p:Pg}:S.pg[n]?=some p->p.sd=none->Chain S n [n]
 | next {n:Nat} {p:Pg} {s:Nat} {r:List Nat}:S.pg[n]?=some p->p.sd=some s->Chain S s r->Chain S n (n::r)
section
variable {S:Sh} {bg:Bg}
theorem Vr (T:Tree S bg) {n s:Nat} {p:Pg} (hn:S.pg[n]?=some p) (hs:p.sd=some s):∃ h q,p.hi=some h/\S.pg[s]?=some q/\q.lv=p.lv/\bg s=some h/\ltO (bg n) (bg s)=true:=by
 rcases T.link n p hn with ⟨_,b⟩ | ⟨h,s',q,a,b,c,d,e⟩
 ·rw [hs] at b;cases b
 ·rw [hs] at b;cases b
  exact ⟨h,q,a,c,d,e,by rw [e];exact VT ((T.page n p hn).wide h a)⟩
def mu (S:Sh) (bg:Bg) (n:Nat):Nat:=((List.range S.pg.length).filter fun m=>ltO (bg n) (bg m)).length
theorem vv (T:Tree S bg):∀ (m n:Nat) (p:Pg),mu S bg n < m->S.pg[n]?=some p->∃ r,Chain S n r
  | 0,_,_,h,_=>by lia
  | m+1,n,p,h,hn=>by
    cases hs:p.sd with
    | none=>exact ⟨_,.last hn hs⟩
    | some s =>
      obtain ⟨x,q,a1,a2,a3,a4,a5⟩:=Vr T hn hs
      have:mu S bg s < mu S bg n:=by
        refine xc _ _ _ (fun y _ hy=>qi a5 hy) ⟨s,Cc.mpr (QB a2),a5,jf _⟩
      obtain ⟨r,hr⟩:=vv T m s q (by lia) a2
      exact ⟨_,.next hn hs hr⟩
theorem Chain.facts (T:Tree S bg) {n:Nat} {r:List Nat} (c:Chain S n r):∀ p,S.pg[n]?=some p->(∀ m∈r,∃ q,S.pg[m]?=some q/\q.lv=p.lv)/\(∀ m∈r,m=n∨ltO (bg n) (bg m)=true)/\r.Pairwise (fun a b=>ltO (bg a) (bg b)=true)/\(∀ m∈r,∀ q s,S.pg[m]?=some q->q.sd=some s->s∈r)/\n∈r:=by
  induction c with
  | @last n p0 hn hs =>
    intro p hp
    rw [hn] at hp;cases hp
    refine ⟨fun m hm=>?_,fun m hm=>?_,by simp,fun m hm q s hq hqs=>?_,by simp⟩
    . rw [Aq.mp hm];exact ⟨_,hn,rfl⟩
    . exact .inl (Aq.mp hm)
    . rw [Aq.mp hm,hn] at hq;cases hq;rw [hs] at hqs;cases hqs
  | @next n p0 s r hn hs c ih =>
    intro p hp
    rw [hn] at hp;cases hp
    obtain ⟨x,q,a1,a2,a3,a4,a5⟩:=Vr T hn hs
    obtain ⟨i1,i2,i3,i4,i5⟩:=ih q a2
    have up:∀ m∈r,ltO (bg n) (bg m)=true:=fun m hm=>by
      rcases i2 m hm with rfl | h
      . exact a5
      . exact qi a5 h
    refine ⟨fun m hm=>?_,fun m hm=>?_,Cf.mpr ⟨up,i3⟩,fun m hm q' s' hq hqs=>?_,by simp⟩
    . rcases Bj.mp hm with rfl | hm
      . exact ⟨_,hn,rfl⟩
      . obtain ⟨z,b1,b2⟩:=i1 m hm
        exact ⟨z,b1,b2.trans a3⟩
    . rcases Bj.mp hm with rfl | hm
      . exact .inl rfl
      . exact .inr (up m hm)
    . rcases Bj.mp hm with rfl | hm
      . rw [hn] at hq;cases hq
        rw [hs] at hqs;cases hqs
        exact Ax _ i5
      . exact Ax _ (i4 m hm q' s' hq hqs)
theorem v7 {r:List Nat} (h:r.Pairwise (fun a b=>ltO (bg a) (bg b)=true)):r.Nodup :=
 h.imp fun {a b} hab e=>by subst e;rw [jf] at hab;cases hab
theorem Kq (T:Tree S bg) {n:Nat} {r:List Nat} {p:Pg} (c:Chain S n r) (hn:S.pg[n]?=some p) (hb:bg n=none):∀ (k m:Nat) (q:Pg),((List.range S.pg.length).filter fun x=>ltO (bg x) (bg m)).length < k->S.pg[m]?=some q->q.lv=p.lv->m∈r
  | 0,_,_,h,_,_=>by lia
  | k+1,m,q,h,hm,hl=>by
    obtain ⟨f1,f2,f3,f4,f5⟩:=c.facts T p hn
    cases e:bg m with
    | none=>rw [T.uniq hm hn hl (by rw [e,hb])];exact f5
    | some v =>
      obtain ⟨a,z,b1,b2,b3⟩:=T.pred m q hm v e
      have lt:ltO (bg a) (bg m)=true:=by rw [e];exact VT ((T.page a z b1).wide v b3)
      have:((List.range S.pg.length).filter fun x=>ltO (bg x) (bg a)).length < ((List.range S.pg.length).filter fun x=>ltO (bg x) (bg m)).length :=
        xc _ _ _ (fun y _ hy=>qi hy lt) ⟨a,Cc.mpr (QB b1),lt,jf _⟩
      have ha:=Kq T c hn hb k a z (by lia) b1 (by lia)
      rcases T.link a z b1 with ⟨g1,_⟩ | ⟨x,s,y,g1,g2,g3,g4,g5⟩
      . rw [b3] at g1;cases g1
      . rw [b3] at g1;cases g1
        have:s=m:=T.uniq g3 hm (by lia) (by rw [g5,e])
        subst this
        exact f4 a ha z s b1 g2
theorem Qhm (T:Tree S bg) {n:Nat} {p:Pg} (hn:S.pg[n]?=some p) (hb:bg n=none):∃ r,Chain S n r/\r.Nodup/\(∀ m,m∈r↔∃ q,S.pg[m]?=some q/\q.lv=p.lv):=by
 obtain ⟨r,c⟩:=vv T (mu S bg n+1) n p (by lia) hn
 obtain ⟨f1,f2,f3,f4,f5⟩:=c.facts T p hn
 exact ⟨r,c,v7 f3,fun m=>⟨f1 m,fun ⟨q,h1,h2⟩=>Kq T c hn hb _ m q (Cq _) h1 h2⟩⟩
def lvB (S:Sh) (f:Nat->Bool) (n:Nat):Bool:=match S.pg[n]? with
 | some p=>f p.lv
 | none=>false
theorem Qfq (T:Tree S bg) {l:Nat} {r:List Nat} (h:r.Nodup) (hm:∀ m,m∈r↔∃ q,S.pg[m]?=some q/\q.lv=l):r.length=((List.range S.pg.length).filter (lvB S fun x=>decide (x=l))).length:=by
 refine List.Perm.length_eq ((List.perm_ext_iff_of_nodup h (List.nodup_range.filter _)).mpr fun m=>?_)
 rw [hm m,Bm,Cc]
 constructor
 ·rintro ⟨q,h1,h2⟩
  exact ⟨QB h1,by unfold lvB;rw [h1];simpa using h2⟩
 ·rintro ⟨h1,h2⟩
  unfold lvB at h2
  rw [Ab h1] at h2
  exact ⟨_,Ab h1,by simpa using h2⟩
theorem Yh (S:Sh) (j:Nat):∀ l:List Nat,(l.filter (lvB S fun x=>decide (x < j+1))).length=(l.filter (lvB S fun x=>decide (x < j))).length+(l.filter (lvB S fun x=>decide (x=j))).length
  | []=>rfl
  | n::l=>by
    have ih:=Yh S j l
    have e:∀ f:Nat->Bool,((n::l).filter (lvB S f)).length=(if lvB S f n=true then 1 else 0)+(l.filter (lvB S f)).length:=fun f=>by
      by_cases h:lvB S f n=true
      . simp [Ar,h];lia
      . simp [Ar,h]
    rw [e,e,e,ih]
    unfold lvB
    cases S.pg[n]? with
    | none=>simp
    | some p =>
      simp only [decide_eq_true_eq]
      rcases Nat.lt_trichotomy p.lv j with h | h | h
      . rw [C0 (by lia),C0 h,Cz (by lia)];lia
      . rw [C0 (by lia),Cz (by lia),C0 h];lia
      . rw [Cz (by lia),Cz (by lia),Cz (by lia)];lia
theorem VD (S:Sh) (l:List Nat):(l.filter (lvB S fun x=>decide (x < 0))).length=0:=by
 rw [List.length_eq_zero_iff,Cp]
 intro n _
 unfold lvB
 cases S.pg[n]?<;>simp
theorem x4 {L:Nat} (h:∀ (n:Nat) (p:Pg),S.pg[n]?=some p->p.lv<=L):((List.range S.pg.length).filter (lvB S fun x=>decide (x < L+1))).length=S.pg.length:=by
 rw [Cj.mpr,List.length_range]
 intro n hn
 rw [Cc] at hn
 unfold lvB
 rw [Ab hn]
 have:=h n _ (Ab hn)
 simp;lia
inductive Lefts (S:Sh) (bg:Bg):Nat->List Nat->Prop
 | leaf {n:Nat} {p:Pg}:S.pg[n]?=some p->p.lv=0->bg n=none->Lefts S bg n [n]
 | fork {n c:Nat} {p:Pg} {r:List Nat}:S.pg[n]?=some p->0 < p.lv->bg n=none->p.ps[0]?=some (c:Int)->Lefts S bg c r->Lefts S bg n (n::r)
theorem vW (T:Tree S bg):∀ (l n:Nat) (p:Pg),p.lv=l->S.pg[n]?=some p->bg n=none->∃ r,Lefts S bg n r/\r.length=l+1
  | 0,n,p,h,hn,hb=>⟨_,.leaf hn h hb,rfl⟩
  | l+1,n,p,h,hn,hb=>by
    have ok:=T.page n p hn
    have pl:=ok.parts
    rw [Cz (by lia)] at pl
    have h0:0 < p.ps.length:=by lia
    obtain ⟨c,q,a1,a2,a3,a4⟩:=T.kid n p hn (by lia) 0 _ (Ab h0)
    obtain ⟨r,b1,b2⟩:=vW T l c q (by lia) a2 (by rw [a4];exact hb)
    exact ⟨_,.fork hn (by lia) hb (by rw [Ab h0,a1]) b1,by simp [b2]⟩
theorem Lefts.get {n:Nat} {r:List Nat} (h:Lefts S bg n r):∀ (T:Tree S bg) (p:Pg),S.pg[n]?=some p->r.length=p.lv+1/\∀ i c,r[i]?=some c->∃ q,S.pg[c]?=some q/\q.lv+i=p.lv/\bg c=none:=by
  induction h with
  | @leaf n p0 hn h0 hb =>
    intro T p hp
    rw [hn] at hp;cases hp
    refine ⟨by simp [h0],fun i c hc=>?_⟩
    match i,hc with
    | 0,hc=>cases hc;exact ⟨_,hn,rfl,hb⟩
    | i+1,hc=>simp at hc
  | @fork n c p0 r hn h0 hb hc l ih =>
    intro T p hp
    rw [hn] at hp;cases hp
    obtain ⟨c',q,a1,a2,a3,a4⟩:=T.kid n p0 hn h0 0 _ hc
    have:c=c':=by lia
    subst this
    obtain ⟨i1,i2⟩:=ih T q a2
    refine ⟨by simp [i1];lia,fun i d hd=>?_⟩
    match i,hd with
    | 0,hd=>cases hd;exact ⟨_,hn,rfl,hb⟩
    | i+1,hd =>
      obtain ⟨z,b1,b2,b3⟩:=i2 i d (by simpa using hd)
      exact ⟨z,b1,by lia,b3⟩
end
theorem Qdy (fs:List (Nat×Nat)) (k v:Nat):(zP fs k v).length<=fs.length+1:=by
 unfold zP;split<;>simp
theorem xN (S:Sh) (w:Wk) (n:Nat) (P:Pg):(Qu S w n P).2.2.O3=w.O3/\(Qu S w n P).2.2.O5=w.O5:=by
 unfold Qu;split<;>exact ⟨rfl,rfl⟩
theorem v9 (p:Pg) (l h:Int):(Q3 p l h).length<=p.ks.length:=by
 unfold Q3
 refine Bi (B8 _ _) ?_
 rw [List.length_zip];lia
theorem gB (S:Sh) (w:Wk) (n:Nat) (p:Pg):(Ja S w n p).2.2.O3=w.O3/\(Ja S w n p).2.2.O5.length<=w.O5.length+p.ks.length:=by
  obtain ⟨O0,aim,O4,O6,O3,Oz,O1,O5,O7⟩:=w
  cases O0 with
  | find k=>exact ⟨rfl,by simp [Ja]⟩
  | put k x =>
    have:=xN S ⟨.put k x,aim,O4,O6,O3,Oz,QY p aim,O5,O7⟩ n (QW p aim x)
    refine ⟨this.1,?_⟩
    show (Qu S ⟨.put k x,aim,O4,O6,O3,Oz,QY p aim,O5,O7⟩ n (QW p aim x)).2.2.O5.length<=_
    rw [this.2]
    exact Cw _ _
  | cut k=>exact ⟨rfl,by simp [Ja]⟩
  | stretch l h =>
    have pl:=v9 p l h
    unfold Ja
    dsimp only
    split
    . split
      . exact ⟨rfl,by simp;lia⟩
      . exact ⟨rfl,by simp;lia⟩
    . exact ⟨rfl,by simp;lia⟩
theorem ko {S S':Sh} {w w':Wk} {r:Row} {m:Nat} (hk:∀ (n:Nat) (p:Pg),S.pg[n]?=some p->p.ks.length<=m) (h:JO S w=some (r,S',w')):w'.O3.length<=w.O3.length+1/\w'.O5.length<=w.O5.length+m:=by
 unfold JO at h
 split at h
 ·cases h;exact ⟨by lia,by lia⟩
 ·split at h
  ·cases h
  ·rename_i p hp
   have kl:=hk _ p hp
   split at h
   ·split at h
    ·cases h
    ·cases h;exact ⟨by simp,by simp⟩
   ·split at h
    ·split at h
     ·cases h
     ·cases h;exact ⟨by simp,by simp⟩
    ·split at h
     ·split at h
      ·cases h
      ·cases h;exact ⟨Qdy _ _ _,by simp⟩
     ·split at h
      ·split at h
       ·cases h
       ·rename_i c hc
        have z:=xN { S with rd:=S.rd+1 } w (w.O6.getD S.top) (Zn p w.aim c)
        have e:=Aj h
        have e2:(Qu { S with rd:=S.rd+1 } w (w.O6.getD S.top) (Zn p w.aim c)).2.2=w':=congrArg (fun t=>t.2.2) e
        rw [e2] at z
        exact ⟨by rw [z.1];lia,by rw [z.2];lia⟩
      ·have e:=Aj h
       have z:=gB { S with rd:=S.rd+1 } w (w.O6.getD S.top) p
       rw [e] at z
       have z2:w'.O5.length<=w.O5.length+p.ks.length:=z.2
       have z1:w'.O3=w.O3:=z.1
       exact ⟨by rw [z1];lia,by lia⟩
def fresh (d:Deed):Wk:=⟨d,d.key,0,none,[],none,none,[],false⟩
end TR
namespace D
open PySem PySem.Spec PyProof.Rows L2
def oN:Option Nat->DV
 | none=>.non
 | some n=>.int n
def pgD (p:TR.Pg):DV:=.tup [.int p.lv,.tup (p.ks.map .int),.tup (p.ps.map .int),opt p.hi,oN p.sd]
def QS:TR.Deed->DV
 | .find k=>.tup [.str "find", .int k]
 | .put k w=>.tup [.str "put", .int k,.int w]
 | .cut k=>.tup [.str "cut", .int k]
 | .stretch l h=>.tup [.str "stretch", .int l,.int h]
def fkD (fs:List (Nat×Nat)):List (Key×DV):=fs.map fun p=>(.inl p.1,.int p.2)
def prD (ps:Ec):List DV:=ps.map fun p=>.tup [.int p.1,.int p.2]
def wkF (s f q:Nat) (d a g p n w e:DV):List (Str×DV):=[("shelf", .ref s),("deed", d),("aim", a),("goal", g),("place", p),("forks", .ref f),("new_page", n),("worth", w),("pairs", .ref q),("ended", e)]
def wkO (s f q:Nat) (w:TR.Wk):OV:=.ins "Walk" (wkF s f q (QS w.O0) (.int w.aim) (.int w.O4) (oN w.O6) (oN w.Oz) (opt w.O1) (.bl w.O7))
def GS:TR.Row->DV
 | .non=>.non
 | .side n t=>.tup [.str "side", .int n,.int t]
 | .down n t=>.tup [.str "down", .int n,.int t]
 | .found n w=>.tup [.str "found", .int n,opt w]
 | .put n w k=>.tup [.str "put", .int n,opt w,oN k]
 | .cut n w=>.tup [.str "cut", .int n,opt w]
 | .read n ps none=>.tup [.str "read", .int n,.tup (prD ps),.non,.non]
 | .read n ps (some (t,a))=>.tup [.str "read", .int n,.tup (prD ps),.int t,.int a]
 | .told n k=>.tup [.str "told", .int n,oN k]
 | .raised n t=>.tup [.str "raised", .int n,.int t]
section
variable (s f q:Nat) (d a g p n w e x:DV)
theorem QbW:List.lookup ("shelf" : Str) (wkF s f q d a g p n w e)=some (.ref s):=by rfl
theorem xS:List.lookup ("deed" : Str) (wkF s f q d a g p n w e)=some d:=by rfl
theorem YR:List.lookup ("aim" : Str) (wkF s f q d a g p n w e)=some a:=by rfl
theorem uL:List.lookup ("goal" : Str) (wkF s f q d a g p n w e)=some g:=by rfl
theorem qu:List.lookup ("place" : Str) (wkF s f q d a g p n w e)=some p:=by rfl
theorem Gc:List.lookup ("forks" : Str) (wkF s f q d a g p n w e)=some (.ref f):=by rfl
theorem vd:List.lookup ("new_page" : Str) (wkF s f q d a g p n w e)=some n:=by rfl
theorem qv:List.lookup ("worth" : Str) (wkF s f q d a g p n w e)=some w:=by rfl
theorem QbV:List.lookup ("pairs" : Str) (wkF s f q d a g p n w e)=some (.ref q):=by rfl
theorem yv:List.lookup ("ended" : Str) (wkF s f q d a g p n w e)=some e:=by rfl
def QfE:(wkF s f q d a g p n w e).length=10:=rfl
theorem Qd4:List.lookup ("go_on" : Str) (wkF s f q d a g p n w e)=none:=by rfl
theorem QhC:List.lookup ("do_deed" : Str) (wkF s f q d a g p n w e)=none:=by rfl
theorem QhD:List.lookup ("tell_fork" : Str) (wkF s f q d a g p n w e)=none:=by rfl
theorem QhE:List.lookup ("raise_root_over" : Str) (wkF s f q d a g p n w e)=none:=by rfl
theorem Qd5:List.lookup ("settle" : Str) (wkF s f q d a g p n w e)=none:=by rfl
theorem QhF:List.lookup ("find_worth" : Str) (wkF s f q d a g p n w e)=none:=by rfl
theorem QhG:List.lookup ("put_pair" : Str) (wkF s f q d a g p n w e)=none:=by rfl
theorem QhH:List.lookup ("cut_key" : Str) (wkF s f q d a g p n w e)=none:=by rfl
theorem QhI:List.lookup ("read_pairs" : Str) (wkF s f q d a g p n w e)=none:=by rfl
theorem QfF:List.lookup ("step" : Str) (wkF s f q d a g p n w e)=none:=by rfl
theorem QfG:List.lookup ("over" : Str) (wkF s f q d a g p n w e)=none:=by rfl
end
theorem Qew (fs:List (Nat×Nat)) (k v:Nat):Y5 (fkD fs) (.inl (k:Int)) (.int v)=fkD (TR.zP fs k v):=by
 unfold Y5 TR.zP
 have e:((fkD fs).any fun kv=>decide (kv.1=(.inl (k:Int):Key)))=fs.any fun p=>decide (p.1=k):=by
  unfold fkD
  rw [List.any_map]
  congr 1
  funext p
  simp only [Function.comp]
  congr 1
  simp
  lia
 rw [e]
 by_cases h:(fs.any fun p=>decide (p.1=k))=true
 ·rw [C0 h,C0 h]
  unfold fkD
  rw [List.map_map,List.map_map]
  apply List.map_congr_left
  intro p _
  simp only [Function.comp]
  by_cases q:p.1=k
  ·simp [q]
  ·have:¬ ((p.1:Int)=(k:Int)):=by lia
   simp [q,this]
 ·rw [Cz h,Cz h]
  simp [fkD]
theorem Qex (fs:List (Nat×Nat)) (k:Nat):Z3 (fkD fs) (.inl (k:Int))=(TR.JV fs k).map fun v=>.int v:=by
  induction fs with
  | nil=>rfl
  | cons p r ih =>
    rw [show fkD (p::r)=(.inl (p.1:Int),.int p.2)::fkD r from rfl,Xd,ih]
    unfold TR.JV
    rw [Bz]
    by_cases q:p.1=k
    . simp [q]
    . have:¬ ((p.1:Int)=(k:Int)):=by lia
      simp [q,this]
def Qev (fs:List (Nat×Nat)):(fkD fs).length=fs.length:=Br _
section
variable {c f m:Str} {o e:DEx} {fa:DAx} {env:En} {hp hp1 hp2:Hs} {a n:Nat} {fs:List (Str×DV)} {d v:DV} {ds:List DV} {F:Ef}
theorem xy {α:Type} {k:Nat->List (Str×DV)->M α} (h:hp[a]?=some (.ins c fs)):onI c (.ref a) k hp=k a fs hp:=by
 show (ZI a >>= _) hp=_
 rw [Qf (Zi h)]
 show (Qx (decide (c=c)) >>= fun _=>k a fs) hp=_
 rw [C4 rfl];rfl
theorem Jg (he:e env hp=some (v,hp1)) (ho:o env hp1=some (.ref a,hp1)) (h:hp1[a]?=some (.ins c fs)) (hl:fs.length < 1000):Zc c f o e env hp=some ((.nx,env),hp1.set a (.ins c (JK f v fs))):=by
 unfold Zc
 rw [Qf he,Qf ho]
 unfold jO
 have:onI c (.ref a) (fun n fs=>do Qx (decide (fs.length < 1000));xL n (.ins c (JK f v fs))) hp1=some ((),hp1.set a (.ins c (JK f v fs))):=by
  rw [xy h,C4 hl];rfl
 rw [Qf this];rfl
theorem QV (ho:o env hp=some (.ref a,hp1)) (h:hp1[a]?=some (.ins c fs)) (hf:fs.lookup f=some d):Qz c f o env hp=some (d,hp1):=by
 unfold Qz
 rw [Qf ho]
 unfold jG
 rw [xy h,hf];rfl
theorem Q7 (ho:o env hp=some (.ref a,hp)) (h:hp[a]?=some (.ins c fs)) (hm:fs.lookup m=none) (ha:fa env hp=some (ds,hp1)) (hn:ds.length+1=n) (hF:F (.ref a::ds) hp1=some (d,hp2)):QJ c m n F o fa env hp=some (d,hp2):=by
 unfold QJ
 rw [Qf ho]
 have:onI c (.ref a) (fun _ fs=>Qx (fs.lookup m).isNone) hp=some ((),hp):=by rw [xy h,hm];rfl
 rw [Qf this,Qf ha,C4 hn]
 show (Qx true >>= fun _=>F (.ref a::ds)) hp1=_
 exact hF
def zn:Qn env hp=some ([],hp):=rfl
theorem Zq (h:e env hp=some (v,hp1)):Qc e Qn env hp=some ([v],hp1):=by unfold Qc;rw [Qf h];rfl
theorem ZM {e':DEx} (h:e env hp=some (v,hp1)) (h':e' env hp1=some (v',hp2)):Qc e (Qc e' Qn) env hp=some ([v,v'],hp2):=by
 have:=Zq h'
 unfold Qc at this ⊢;rw [Qf h,Qf this];rfl
theorem X3 {e' e'':DEx} (h:e env hp=some (v,hp1)) (h':e' env hp1=some (v',hp2)) (h'':e'' env hp2=some (v'',hp3)):Qc e (Qc e' (Qc e'' Qn)) env hp=some ([v,v',v''],hp3):=by
 have:=ZM h' h''
 unfold Qc at this ⊢;rw [Qf h,Qf this];rfl
theorem Qe {i:Nat} (h:env[i]?=some (.val d)):Qb i env hp=some (d,hp):=by unfold Qb;rw [h];rfl
theorem Zw {k:Nat} (ha:fa env hp=some (ds,hp1)) (hk:ds.length=k) (hF:F ds hp1=some (d,hp2)):QI k F fa env hp=some (d,hp2):=by
 unfold QI;rw [Qf ha,C4 hk];exact hF
theorem Zl {c:DTx} {f g:DSx} (h:c env hp=some (true,hp1)):sIf c f g env hp=f env hp1:=by rw [QdD h];rfl
theorem QG {c:DTx} {f g:DSx} (h:c env hp=some (false,hp1)):sIf c f g env hp=g env hp1:=by rw [QdD h];rfl
def QH:Q6 env hp=some ((.nx,env),hp):=rfl
theorem Vn {i:Nat} (h:hp[a]?=some (.lst ds)) (hd:ds[i]?=some d):ixG (.ref a) (.int i) hp=some (d,hp):=by
 show (ZI a >>= _) hp=_
 rw [Qf (Zi h)]
 show (asI (.int (i:Int)) >>= fun i=>zN (atI ds i)) hp=_
 simp only [asI,C7,qB hd];rfl
end
theorem Qer {o:DEx} {fa:DAx} {hp:Hs} {a:Nat} {fs:List (Nat×Nat)} {j:Nat} (ho:o env hp=some (.ref a,hp)) (h:hp[a]?=some (.dic (fkD fs))) (ha:fa env hp=some ([.int (j:Int)],hp)):Z1 "dict" JD o fa env hp=some (oN (TR.JV fs j),hp):=by
 unfold Z1
 rw [Qf ho]
 have e2:Xr "dict" (.ref a) hp=some ((),hp):=by
  show (ZI a >>= _) hp=_
  rw [Qf (Zi h)];rfl
 rw [Qf e2,Qf ha]
 show (ZI a >>= _) hp=_
 rw [Qf (Zi h)]
 show some (((Z3 (fkD fs) (.inl (j:Int))).getD .non),hp)=_
 rw [Qex]
 cases TR.JV fs j<;>rfl
theorem wl {s f q:Nat} {d a g p n w e:DV}:(wkF s f q d a g p n w e).length < 1000:=by rw [QfE];decide
theorem Q1 {xs:List DV} {i:Nat} (h:xs[i]?=some d) (hp:Hs):ixG (.tup xs) (.int i) hp=some (d,hp):=by
 show ixD (.tup xs) (.int i) hp=_
 simp only [ixD,qB h];rfl
def Qdn (p:TR.Pg) (hp:Hs):ixG (pgD p) (.int 0) hp=some (.int p.lv,hp):=Q1 (i:=0) rfl hp
def Qg2 (p:TR.Pg) (hp:Hs):ixG (pgD p) (.int 1) hp=some (.tup (p.ks.map .int),hp):=Q1 (i:=1) rfl hp
def Qg3 (p:TR.Pg) (hp:Hs):ixG (pgD p) (.int 2) hp=some (.tup (p.ps.map .int),hp):=Q1 (i:=2) rfl hp
def Qg1 (p:TR.Pg) (hp:Hs):ixG (pgD p) (.int 3) hp=some (opt p.hi,hp):=Q1 (i:=3) rfl hp
def Qdo (p:TR.Pg) (hp:Hs):ixG (pgD p) (.int 4) hp=some (oN p.sd,hp):=Q1 (i:=4) rfl hp
theorem Qcg (d:TR.Deed) (hp:Hs):ixG (QS d) (.int 1) hp=some (.int d.key,hp):=by cases d<;>exact Q1 (i:=1) rfl hp
section
variable {e e' e'' e3 e4:DEx} {fa:DAx} {env:En} {hp hp1 hp2 hp3 hp4 hp5:Hs} {v v' v'' v3 v4 d:DV} {ds:List DV}
theorem Jc (ha:fa env hp=some (ds,hp1)) (hs:ds.length<=100000):Zp fa env hp=some (.tup ds,hp1):=by
 unfold Zp
 rw [Qf ha]
 have:zh ds=true:=C4 hs
 rw [this];rfl
theorem vh (h:e env hp=some (v,hp1)) (h':e' env hp1=some (v',hp2)) (h'':e'' env hp2=some (v'',hp3)) (h3:e3 env hp3=some (v3,hp4)):Qc e (Qc e' (Qc e'' (Qc e3 Qn))) env hp=some ([v,v',v'',v3],hp4):=by
 have:=X3 h' h'' h3
 unfold Qc at this ⊢;rw [Qf h,Qf this];rfl
theorem kJ (h:e env hp=some (v,hp1)) (h':e' env hp1=some (v',hp2)) (h'':e'' env hp2=some (v'',hp3)) (h3:e3 env hp3=some (v3,hp4)) (h4:e4 env hp4=some (v4,hp5)):Qc e (Qc e' (Qc e'' (Qc e3 (Qc e4 Qn)))) env hp=some ([v,v',v'',v3,v4],hp5):=by
 have:=vh h' h'' h3 h4
 unfold Qc at this ⊢;rw [Qf h,Qf this];rfl
end
theorem Qa8 {t:DV->M Bool} {f:DV->M DV} {p:DV->Bool} (ds:List DV) (ht:∀ d∈ds,t d hp=some (p d,hp)) (hf:∀ d∈ds,f d hp=some (d,hp)) (hl:ds.length < 100000):Z8 (nxD ds) t f 100000 0 hp=some (ds.filter p,hp):=by
  suffices h:∀ (m i n:Nat),m+i=ds.length->m < n->Z8 (nxD ds) t f n i hp=some ((ds.drop i).filter p,hp) by simpa using h ds.length 0 100000 rfl hl
  intro m
  induction m with
  | zero =>
    intro i n e hn'
    obtain ⟨n,rfl⟩:∃ k,n=k+1:=⟨n - 1,by lia⟩
    have:i=ds.length:=by lia
    subst this
    have e1:=XD ds ds.length (Ae _) hp
    rw [show ds[ds.length]?=none by simp] at e1
    rw [Z8,Qf e1,Cr]
    rfl
  | succ m ih =>
    intro i n e hn'
    obtain ⟨n,rfl⟩:∃ k,n=k+1:=⟨n - 1,by lia⟩
    have hlt:i < ds.length:=by lia
    have e1:=XD ds i (by lia) hp
    rw [Ab hlt] at e1
    have hi:=ih (i+1) n (by lia) (by lia)
    rw [Z8,Qf e1]
    simp only
    rw [Qf (ht ds[i] (B0 hlt)),Bh hlt]
    cases q:p ds[i] with
    | false=>rw [List.filter_cons_of_neg (by simp [q])];simpa using hi
    | true =>
      rw [List.filter_cons_of_pos q]
      simp only [if_true]
      rw [Qf (hf ds[i] (B0 hlt)),Qf hi]
      rfl
theorem QaT:∀ (ks ps:List Int),Xy (ks.map .int) (ps.map .int)=prD (ks.zip ps)
  | [],_=>by cases ‹List Int› <;> rfl
  | _::_,[]=>rfl
  | k::ks,p::ps=>by
    show .tup [.int k,.int p]::Xy (ks.map .int) (ps.map .int)=_
    rw [QaT ks ps];rfl
def Qfb (l h:Int):DV->Bool
 | .tup [.int x,_]=>decide (l<=x)&&decide (x < h)
 | _=>false
theorem gS (l h:Int) (zs:Ec):(prD zs).filter (Qfb l h)=prD (zs.filter fun q=>decide (l<=q.1)&&decide (q.1 < h)):=by
 unfold prD
 rw [List.filter_map];rfl
theorem Qbf {o:DEx} {fa:DAx} {hp:Hs} {a b:Nat} {ds es:List DV} (ho:o env hp=some (.ref a,hp)) (h:hp[a]?=some (.lst ds)) (ha:fa env hp=some ([.ref b],hp)) (hb:hp[b]?=some (.lst es)) (hl:ds.length+es.length<=100000):Z1 "list" xu o fa env hp=some (.non,hp.set a (.lst (ds++es))):=by
 unfold Z1
 rw [Qf ho]
 have e2:Xr "list" (.ref a) hp=some ((),hp):=by
  show (ZI a >>= _) hp=_
  rw [Qf (Zi h)];rfl
 rw [Qf e2,Qf ha]
 show (ZI a >>= _) hp=_
 rw [Qf (Zi h)]
 show (ZI b >>= _) hp=_
 rw [Qf (Zi hb)]
 show (Qx (decide (ds.length+es.length<=lim)) >>= fun _=>xL a (.lst (ds++es)) >>= fun _=>pure DV.non) hp=_
 rw [show decide (ds.length+es.length<=lim)=true from C4 hl];rfl
def jh (zs:Ec):(prD zs).length=zs.length:=Br _
theorem Qfa (zs ys:Ec):prD zs++prD ys=prD (zs++ys):=by simp [prD]
theorem yp (o:Option Int):isD (opt o) .non=pure (.bl o.isNone):=by cases o<;>rfl
theorem gL (o:Option Int):Ve (opt o) .non=pure (.bl o.isSome):=by cases o<;>rfl
theorem VZ (o:Option Nat):isD (oN o) .non=pure (.bl o.isNone):=by cases o<;>rfl
theorem Qau {x:Str} (h:PyData.strOk x=true):okP (.str x)=true:=by simp [okP,KJ,toP,SeqAt.shaped,PyData.canLay0,PyData.depth,h]
theorem eqS {x y:Str} (hp:Hs) (h1:PyData.strOk x=true) (h2:PyData.strOk y=true) {b:Bool} (h:(x==y)=b):eqG (.str x) (.str y) hp=some (.bl b,hp):=by
 unfold eqG
 have e:U0 (.str x) (.str y) hp=some (x==y,hp):=by
  rw [Qaa (kW 39 hp x) (kW 39 hp y) (Qau h1) (Qau h2)];rfl
 rw [Qf e,h];rfl
section
variable {c c':DTx} {e e':DEx} {env:En} {hp hp1:Hs} {b:Bool}
theorem Qcr (h:c env hp=some (true,hp1)):eOr c c' env hp=some (true,hp1):=by unfold eOr;rw [Qf h];rfl
theorem Kw (h:c env hp=some (false,hp1)):eOr c c' env hp=c' env hp1:=by unfold eOr;rw [Qf h];rfl
theorem Qco (h:c env hp=some (true,hp1)):YA c c' env hp=c' env hp1:=by unfold YA;rw [Qf h];rfl
theorem gk (h:c env hp=some (false,hp1)):YA c c' env hp=some (false,hp1):=by unfold YA;rw [Qf h];rfl
theorem Qh2 (h:c env hp=some (true,hp1)):eIf c e e' env hp=e env hp1:=by unfold eIf;rw [Qf h];rfl
theorem Qh1 (h:c env hp=some (false,hp1)):eIf c e e' env hp=e' env hp1:=by unfold eIf;rw [Qf h];rfl
end
theorem VS {w:TR.Wk} {i:Nat} {k:Int} (h:w.O0=.find k):TR.Ja S w i p=(.found i (TR.QY p w.aim),S,{ w with O1:=TR.QY p w.aim,O7:=true }):=by
 cases w;simp only at h;subst h;rfl
theorem KG {w:TR.Wk} {i:Nat} {k x:Int} (h:w.O0=.put k x):TR.Ja S w i p=(.put i (TR.QY p w.aim) (TR.Qu S { w with O1:=TR.QY p w.aim } i (TR.QW p w.aim x)).1,(TR.Qu S { w with O1:=TR.QY p w.aim } i (TR.QW p w.aim x)).2.1,(TR.Qu S { w with O1:=TR.QY p w.aim } i (TR.QW p w.aim x)).2.2):=by
 cases w;simp only at h;subst h;rfl
theorem KF {S:TR.Sh} {w:TR.Wk} {i:Nat} {k:Int} (h:w.O0=.cut k):TR.Ja S w i p=(.cut i (TR.QY p w.aim),if (TR.QY p w.aim).isSome=true then { S with pg:=S.pg.set i (TR.without p w.aim),wr:=S.wr+1 } else S,{ w with O1:=TR.QY p w.aim,O7:=true }):=by
 cases w;simp only at h;subst h;rfl
theorem Qbr {w:TR.Wk} {i:Nat} {p:TR.Pg} {l h:Int} (e:w.O0=.stretch l h) (h1:p.hi=none):TR.Ja S w i p=(.read i (TR.Q3 p l h) none,S,{ w with O5:=w.O5++TR.Q3 p l h,O7:=true }):=by
 cases w;cases p;simp only at e h1;subst e h1;rfl
theorem QcW {w:TR.Wk} {i:Nat} {p:TR.Pg} {l h x:Int} {s:Nat} (e:w.O0=.stretch l h) (h1:p.hi=some x) (h2:p.sd=some s):TR.Ja S w i p=if h<=x then (.read i (TR.Q3 p l h) none,S,{ w with O5:=w.O5++TR.Q3 p l h,O7:=true }) else (.read i (TR.Q3 p l h) (some (s,x)),S,{ w with O5:=w.O5++TR.Q3 p l h,aim:=x,O6:=some s }):=by
 cases w;cases p;simp only at e h1 h2;subst e h1 h2;rfl
theorem Qhq {e o j:DEx} {hp:Hs} {a l v:Nat} {fs:List (Nat×Nat)} (he:e env hp=some (.int (v:Int),hp)) (ho:o env hp=some (.ref a,hp)) (hj:j env hp=some (.int (l:Int),hp)) (h:hp[a]?=some (.dic (fkD fs))) (hf:fs.length < 5000):Xw e (gSb o j) env hp=some ((.nx,env),hp.set a (.dic (fkD (TR.zP fs l v)))):=by
 refine GU he ?_
 unfold gSb
 rw [Qf ho,Qf hj]
 have:=ud (d:=.int (v:Int)) h (show zq (.int (l:Int))=some (.inl (l:Int)) from rfl) (by rw [Qev];lia)
 rw [Qew] at this
 rw [Qf this];rfl
section
variable {f g:DEx} {fa:DAx} {env:En} {hp hp1 hp2:Hs} {d x y:DV} {ds:List DV} {F:Ef}
theorem XC (h:fa env hp=some (ds,hp1)) (hF:F ds hp1=some (d,hp2)):Zx F fa env hp=some (d,hp2):=by unfold Zx;rw [Qf h];exact hF
def QcX (ds:List DV) (hp:Hs):Jy [.lst ds] hp=some (.int ds.length,hp):=rfl
theorem QcY {n:Nat} (h:hp[n]?=some (.lst ds)):Jy [.ref n] hp=some (.int ds.length,hp):=by
 show (ZI n >>= _) hp=_
 rw [Qf (Zi h)];rfl
theorem neI (i j:Int) (hp:Hs):neG (.int i) (.int j) hp=some (.bl (!(i==j)),hp):=by
 unfold neG;rw [Qf (vM i j hp)];rfl
theorem Qie (i:Int) (hp:Hs):neG (.int i) (.int i) hp=some (.bl false,hp):=by rw [neI];simp
theorem eqI (i j:Int) (hp:Hs):eqG (.int i) (.int j) hp=some (.bl (i==j),hp):=by
 unfold eqG;rw [Qf (vM i j hp)];rfl
end
theorem yw {f:DIx} (h:f env hp=some (ds,hp1)):xOf f env hp=some (nxD ds,hp1):=by unfold xOf;rw [Qf h];rfl
section
variable {c:DTx} {b:DSx} {n:Nat} {env env1:En} {hp hp1 hp2:Hs}
theorem QfC (h:c env hp=some (true,hp1)) (hb:b env hp1=some ((.nx,env1),hp2)):X2 c b (n+1) env hp=X2 c b n env1 hp2:=by
 rw [X2,Qf h]
 simp only [if_true]
 rw [Qf hb]
theorem QfB (h:c env hp=some (false,hp1)):X2 c b (n+1) env hp=some ((.nx,env),hp1):=by
 rw [X2,Qf h];rfl
end
theorem xU {o e:DEx} {hp:Hs} {a:Nat} {ds:List DV} (ho:o env hp=some (.ref a,hp)) (h:hp[a]?=some (.lst ds)) (he:e env hp=some (d,hp)) (hl:ds.length < 100000):Z1 "list" ZD o (Qc e Qn) env hp=some (.non,hp.set a (.lst (ds++[d]))):=by
 unfold Z1
 rw [Qf ho]
 have e2:Xr "list" (.ref a) hp=some ((),hp):=by
  show (ZI a >>= _) hp=_
  rw [Qf (Zi h)];rfl
 rw [Qf e2,Qf (Zq he)]
 show (ZI a >>= _) hp=_
 rw [Qf (Zi h)]
 show (Qx (decide (ds.length < lim)) >>= fun _=>xL a (.lst (ds++[d])) >>= fun _=>pure DV.non) hp=_
 rw [show decide (ds.length < lim)=true from C4 hl];rfl
theorem QaH {n:Nat} {body:DSx} {ds:List DV} (h:body (ds.map .val++List.replicate (n - ds.length) .un) hp=some ((.nx,env),hp1)):Q9 n body ds hp=some (.non,hp1):=by
 unfold Q9
 rw [Qf h];rfl
theorem ub (f:Str) (d:DV):∀ fs:List (Str×DV),(JK f d fs).length<=fs.length+1
  | []=>Ae _
  | (g,x)::r=>by
    unfold JK
    split
    . simp
    . simpa using ub f d r
def J2 {f:Str} {fs:List (Str×DV)} {m:Nat} (h:fs.length<=m):(JK f d fs).length<=m+1:=Bi (ub f d fs) (Nat.succ_le_succ h)
section
variable {X:Cx} {e:Expr} {f:DEx} {pos:Pos}
def xb (T:String) (f:DEx):DEx:=fun env=>do
  let x <- f env
  match x with
  | .ref n=>do
    match <- ZI n with
    | .lst _=>pure (.bl (U6 "list" T))
    | _=>failure
  | x=>match UB x with
    | some t=>pure (.bl (U6 t T))
    | none=>failure
theorem Qf8 {T:String} (hT:T∈["int", "bool", "tuple", "str", "list"]):J7 X (.builtin "isinstance") (fun xs H Q=>(∃ ρ B d x t,xs=[x,.ty T]/\RepV X.K ρ B H d x/\UB d=some t/\Q (.bl (U6 t T)) H)∨∃ a ys,xs=[.ref a,.ty T]/\SqL X.K H a ys/\Q (.bl (U6 "list" T)) H):=by
 intro O9 s σ H xs us Q I r h
 rcases h with h | ⟨a,ys,rfl,sq,q⟩
 ·exact QfN hT O9 s σ H xs us Q I r h
 ·obtain ⟨u,w',rfl,ru,rw'⟩:=Gb r
  cases rw'
  have fin:∀ tk,EP X O9 σ Q (.bool (U6 "list" T)) { s with toks:=tk }:=fun tk=>⟨.bl _,H,I.tok _,rfl,q⟩
  have kit:PySem.W.kitOne X.K (.type "list") (.type T)=some (U6 "list" T):=by
   simp only [Bj,Ca,or_false] at hT
   rcases hT with rfl | rfl | rfl | rfl | rfl<;>first | rfl | decide | with_unfolding_all rfl | kernel_rfl
  cases ru
  obtain ⟨its,_,⟨o,k,e1,e2,_⟩,_⟩:=I.list sq
  exact PySem.W.kia_one PySem.W.kitx_list I.kIn ⟨o,e1,e2⟩ kit (fun z=>nomatch z) fin
theorem YE {T:String} {p p':Pos} (hm:X.mg "isinstance" = none) (hm':X.mg (Str.ofString T)=none) (hv:bootBuiltins (Str.ofString T)=some (.type T)) (hT:T∈["int", "bool", "tuple", "str", "list"]) (h:DE X e f) (hg:Gl X "isinstance" := by rfl) (hg':Gl X (Str.ofString T):=by rfl)
    (hn:Str.ofString T ≠ "__name__" := by decide) (hdb:(Str.ofString T==("__debug__" : Str))=false:=by decide) (hs:starEach [e,.Name (Str.ofString T) p'] X.env=(false,eval e X.env)::starEach [.Name (Str.ofString T) p'] X.env:=by rfl)
    (hs2:starEach [.Name (Str.ofString T) p'] X.env=(false,eval (.Name (Str.ofString T) p') X.env)::starEach [] X.env:=by rfl) (hpl:(backTo pos (starEach [.Name (Str.ofString T) p'] X.env)).any (·.1)=false:=by rfl):DE X (.Call (.Name "isinstance" p) [e,.Name (Str.ofString T) p'] [] pos) (xb T f) :=
  L2.PE.imp (V4 (Qf8 hT) hg hm boot_isinstance (Ya h (Ya (Qay (v:=.ty T) hg' hm' hv rfl hn hdb) pa_nil hs2) hs) (by decide) (by decide) hs hpl) fun σ H Q ⟨Z,env,ρ,B,hp,d,hp',S,e,k⟩=>by
    obtain ⟨x,hp1,e1,e2⟩:=Qg e
    refine tD.run S e1 fun v ρ1 B1 H1 g1 S1 r1=>?_
    cases x with
    | ref n =>
      obtain ⟨o,hp2,e3,e4⟩:=Qg e2
      obtain ⟨e5,rfl⟩:=ZJ e3
      cases o with
      | lst zs =>
        obtain ⟨rfl,rfl⟩:=Ql e4
        obtain ⟨a,rfl,_,ys,h1,l1⟩:=RepV.refW S1.wo r1 e5
        exact .inr ⟨a,ys,rfl,SqL.of h1,k _ ρ1 B1 H1 g1 S1.wo Jb⟩
      | dic _=>cases e4
      | ins _ _=>cases e4
    | non=>obtain ⟨rfl,rfl⟩:=Ql e2;exact .inl ⟨ρ1,B1,_,v,_,rfl,r1,rfl,k _ ρ1 B1 H1 g1 S1.wo Jb⟩
    | bl _=>obtain ⟨rfl,rfl⟩:=Ql e2;exact .inl ⟨ρ1,B1,_,v,_,rfl,r1,rfl,k _ ρ1 B1 H1 g1 S1.wo Jb⟩
    | int _=>obtain ⟨rfl,rfl⟩:=Ql e2;exact .inl ⟨ρ1,B1,_,v,_,rfl,r1,rfl,k _ ρ1 B1 H1 g1 S1.wo Jb⟩
    | str _=>obtain ⟨rfl,rfl⟩:=Ql e2;exact .inl ⟨ρ1,B1,_,v,_,rfl,r1,rfl,k _ ρ1 B1 H1 g1 S1.wo Jb⟩
    | tup _=>obtain ⟨rfl,rfl⟩:=Ql e2;exact .inl ⟨ρ1,B1,_,v,_,rfl,r1,rfl,k _ ρ1 B1 H1 g1 S1.wo Jb⟩
    | lst _=>obtain ⟨rfl,rfl⟩:=Ql e2;exact .inl ⟨ρ1,B1,_,v,_,rfl,r1,rfl,k _ ρ1 B1 H1 g1 S1.wo Jb⟩
end
def Pl:Nat->DV->Prop
 | _,.non=>True
 | _,.bl _=>True
 | _,.int _=>True
 | _,.str x=>PyData.strOk x=true
 | n+1,.tup ds=>∀ d∈ds,Pl n d
 | n+1,.lst ds=>∀ d∈ds,Pl n d
 | _,_=>False
theorem gh:∀ (n:Nat) (d:DV) (k:Nat) (hp:Hs),Pl n d->drf (n+k+1) hp d=some d
  | n,.non,k,hp,_=>rfl
  | n,.bl _,k,hp,_=>rfl
  | n,.int _,k,hp,_=>rfl
  | n,.str _,k,hp,_=>rfl
  | 0,.tup ds,k,hp,h=>h.elim
  | 0,.lst ds,k,hp,h=>h.elim
  | 0,.ref _,k,hp,h=>h.elim
  | n+1,.ref _,k,hp,h=>h.elim
  | n+1,.tup ds,k,hp,h=>by
    show (ds.mapM (drf (n+1+k) hp)).map DV.tup=_
    rw [ym fun d hd=>(by rw [Nat.add_right_comm];exact gh n d k hp (h d hd))];rfl
  | n+1,.lst ds,k,hp,h=>by
    show (ds.mapM (drf (n+1+k) hp)).map DV.lst=_
    rw [ym fun d hd=>(by rw [Nat.add_right_comm];exact gh n d k hp (h d hd))];rfl
theorem GI:∀ (ds:List DV),(∀ d∈ds,(toP d).canLay0=true)->PyData.canLayAll0 (toPs ds)=true
 | [],_=>by unfold toPs PyData.canLayAll0;rfl
 | d::ds,h=>by unfold toPs PyData.canLayAll0;rw [h d (by simp),GI ds fun x hx=>h x (Ax _ hx)];rfl
theorem GJ:∀ (n:Nat) (d:DV),Pl n d->(toP d).canLay0=true
 | n,.non,_=>by unfold toP PyData.canLay0;rfl
 | n,.bl _,_=>by unfold toP PyData.canLay0;rfl
 | n,.int _,_=>by unfold toP PyData.canLay0;rfl
 | n,.str x,h=>by cases n<;>(unfold toP PyData.canLay0;exact h)
 | 0,.tup ds,h=>h.elim
 | 0,.lst ds,h=>h.elim
 | 0,.ref _,h=>h.elim
 | n+1,.ref _,h=>h.elim
 | n+1,.tup ds,h=>by unfold toP PyData.canLay0;exact GI ds fun d hd=>GJ n d (h d hd)
 | n+1,.lst ds,h=>by unfold toP PyData.canLay0;exact GI ds fun d hd=>GJ n d (h d hd)
theorem x6 (n:Nat):∀ (ds:List DV),(∀ d∈ds,(toP d).depth<=n)->PyData.depthAll (toPs ds)<=n
 | [],_=>by unfold toPs PyData.depthAll;exact Bc _
 | d::ds,h=>by unfold toPs PyData.depthAll;exact Nat.max_le.mpr ⟨h d (by simp),x6 n ds fun x hx=>h x (Ax _ hx)⟩
theorem VH:∀ (n:Nat) (d:DV),Pl n d->(toP d).depth<=n
 | n,.non,_=>by unfold toP PyData.depth;exact Bc _
 | n,.bl _,_=>by unfold toP PyData.depth;exact Bc _
 | n,.int _,_=>by unfold toP PyData.depth;exact Bc _
 | n,.str x,h=>by unfold toP PyData.depth;exact Bc _
 | 0,.tup ds,h=>h.elim
 | 0,.lst ds,h=>h.elim
 | 0,.ref _,h=>h.elim
 | n+1,.ref _,h=>h.elim
 | n+1,.tup ds,h=>by unfold toP PyData.depth;exact Nat.succ_le_succ (x6 n ds fun d hd=>VH n d (h d hd))
 | n+1,.lst ds,h=>by unfold toP PyData.depth;exact Nat.succ_le_succ (x6 n ds fun d hd=>VH n d (h d hd))
theorem K6 {n:Nat} (h:Pl n d) (hn:n<=64):SeqAt.shaped (toP d)=true:=by
 unfold SeqAt.shaped;rw [GJ n d h,C4 (Bi (VH n d h) hn)];rfl
theorem vG {n:Nat} (h:Pl n d) (hn:n < 40) (hp:Hs):drf 40 hp d=some d:=by
 have:=gh n d (39 - n) hp h
 rwa [show n+(39 - n)+1=40 by lia] at this
theorem Qg8 (n:Nat) (i:Int):Pl n (.int i):=by cases n<;>trivial
theorem QaA (n:Nat) (b:Bool):Pl n (.bl b):=by cases n<;>trivial
theorem Qha {n:Nat} {x:Str} (h:PyData.strOk x=true):Pl n (.str x):=by cases n<;>exact h
theorem Qbe {n m:Nat} (h:Pl n x) (h':Pl m y) (hn:n < 40) (hm:m < 40) (hp:Hs):U0 x y hp=some (PyData.eqv (toP x) (toP y),hp):=by
 unfold U0 Qbc
 show ((Option.map _ (drf 40 hp x)).bind _)=_
 rw [vG h hn]
 show ((Option.map _ (drf 40 hp y)).bind _)=_
 rw [vG h' hm]
 show (Qx (SeqAt.shaped (toP x)&&SeqAt.shaped (toP y)) >>= fun _=>pure (PyData.eqv (toP x) (toP y)):M Bool) hp=_
 rw [K6 h (by lia),K6 h' (by lia)]
 rfl
theorem Kx {n:Nat} (h:Pl n x) (hn:n < 40) (hp:Hs):U0 x x hp=some (true,hp):=by
 rw [Qbe h h hn hn,SeqAt.eqv_refl _ (GJ n x h)]
theorem Qcs {n:Nat} (h:Pl n x) (hn:n < 40) (hp:Hs):eqG x x hp=some (.bl true,hp):=by
 unfold eqG;rw [Qf (Kx h hn hp)];rfl
theorem zM {n:Nat} (h:Pl n x) (hn:n < 40) (hp:Hs):neG x x hp=some (.bl false,hp):=by
 unfold neG;rw [Qf (Kx h hn hp)];rfl
theorem Ks {t:DV->M Bool} {f:DV->M DV} {g:DV->DV} (ds:List DV) (ht:∀ d∈ds,t d hp=some (true,hp)) (hf:∀ d∈ds,f d hp=some (g d,hp)) (hl:ds.length < 100000):Z8 (nxD ds) t f 100000 0 hp=some (ds.map g,hp):=by
  suffices h:∀ (m i n:Nat),m+i=ds.length->m < n->Z8 (nxD ds) t f n i hp=some ((ds.drop i).map g,hp) by simpa using h ds.length 0 100000 rfl hl
  intro m
  induction m with
  | zero =>
    intro i n e hn'
    obtain ⟨n,rfl⟩:∃ k,n=k+1:=⟨n - 1,by lia⟩
    have:i=ds.length:=by lia
    subst this
    have e1:=XD ds ds.length (Ae _) hp
    rw [show ds[ds.length]?=none by simp] at e1
    rw [Z8,Qf e1,Cr];rfl
  | succ m ih =>
    intro i n e hn'
    obtain ⟨n,rfl⟩:∃ k,n=k+1:=⟨n - 1,by lia⟩
    have hlt:i < ds.length:=by lia
    have e1:=XD ds i (by lia) hp
    rw [Ab hlt] at e1
    rw [Z8,Qf e1]
    simp only
    rw [Qf (ht ds[i] (B0 hlt)),Bh hlt]
    simp only [if_true]
    rw [Qf (hf ds[i] (B0 hlt)),Qf (ih (i+1) n (by lia) (by lia))];rfl
def kM {α:Type} {m:M α} {x:α} (h:∀ hp,m hp=some (x,hp)):m=pure x:=funext h
section
variable {env:En} {hp hp1 hp2 hp3 hp4 hp5 hp6 hp7:Hs} {e e' e'' e3 e4 e5 e6:DEx} {v v' v'' v3 v4 v5 v6:DV}
end
open AutoListH (joined_fits)
theorem Qbs (l:Addr) (items:Array Value) (n:Nat) (sl:Array (Option Value)) (x:Int) (u:Tok) (hc0:¬(!Builtin.List.listFitsIndex x)=true) (hc1:¬items.size * x.toNat > (2 ^ 63 - 1) / 8) (hc2:¬Builtin.List.listTooLong (items.size * x.toNat)=true):
  Meets (Builtin.«list.__mul__» ⟨[.ref l,.int x u],[]⟩) (fun _ R s=>s.heap.get? l=some { cls:=.type "list", dict:=none,data:=.seq items n,slots:=sl }/\R (.ok (.ret (Value.ref s.heap.objs.size))) { s with heap:=s.heap.push { cls:=Value.type "list", data:=Data.seq (List.foldl (fun x1 x2=>x1++x2) #[] (List.replicate (if items.isEmpty=true then 0 else x.toNat) items)) },toks:=s.toks }) :=
 .of_wp fun prog w A R s h=>by
  obtain ⟨hp,g,d,tk,os⟩:=s;obtain ⟨hl,h⟩:=h
  have hsz:=joined_fits hc2
  wp_walk;refine wpAny_ite_false (C6 (Nat.not_lt.mpr hsz)) ?_;wp_walk;exact ⟨_,rfl,h⟩
theorem Qbl (a:Int) (t:Tok) (l:Addr) (items:Array Value) (n:Nat) (sl:Array (Option Value)):
  Meets (Builtin.«int.__rmul__» ⟨[.int a t,.ref l],[]⟩) (fun _ R s=>s.heap.get? l=some { cls:=.type "list", dict:=none,data:=.seq items n,slots:=sl }/\R (.ok (.ret Value.notImplemented)) s) :=
 .of_wp fun prog w A R s h=>by obtain ⟨hp,g,d,tk,os⟩:=s;obtain ⟨hl,h⟩:=h;wp_walk;exact ⟨_,rfl,h⟩
theorem vO (v:Value):∀ (n:Nat) (a:Array Value),(List.replicate n #[v]).foldl (fun x1 x2=>x1++x2) a=a++(List.replicate n v).toArray
  | 0,a=>by simp
  | n+1,a=>by
    rw [List.replicate_succ,List.foldl_cons,vO v n,List.replicate_succ]
    apply Array.ext'
    simp
section
variable {X:Cx} {tg e a b c:Expr} {f fa fb:DEx} {pos:Pos}
theorem Qfn:OpR X (binaryOp .Mult) (fun x y H Q=>∃ l z n,x=.ref l/\y=.int n/\SqL X.K H l [z]/\0<=n/\n.toNat<=100000/\∀ p,H p=none->Q (.ref p) (upd H p (.lst (List.replicate n.toNat z)))):=by
  intro O9 s σ H x y v u Q I rx ry h
  obtain ⟨l,z,n,rfl,rfl,hl,h0,h1,q⟩:=h
  cases rx
  obtain ⟨t,rfl⟩:=ry
  obtain ⟨its,r1,⟨⟨k1,dd1,da1,sl1⟩,n1,e1,c1,d1,s1⟩,_⟩:=I.list hl
  simp only at c1 d1 s1
  subst c1 d1 s1
  cases r1 with
  | cons r rr =>
    cases rr
    rename_i w
    have hz:(([w]:List Value).toArray.size) * n.toNat=n.toNat:=by simp
    refine wpAny_binaryOp_repeat_ref (T := "list") (U := "int") (by decide) ⟨_,e1,rfl⟩ (fun s'=>typeIs_int s' n t) noFill_list_mul F.fills_int_mul F.slot_int_rmul repeat_list F.slot_int_index.lookup
      (call_meets F.slot_int_rmul (typeIs_int s n t) F.entry_int_rmul (F.args_int_rmul_2 _ _) (Qbl n t l _ n1 sl1)
        ⟨e1,rfl,⟨_,e1,rfl⟩,call_meets F.slot_list_mul ⟨_,e1,rfl⟩ F.entry_list_mul (F.args_list_mul_2 _ _)
          (Qbs l _ n1 sl1 n t (by simp [Builtin.List.listFitsIndex];lia) (by rw [hz];lia) (by rw [hz];simp [Builtin.List.listTooLong,sizeLine];lia))
          ⟨e1,?_⟩⟩)
    have ef:List.foldl (fun x1 x2=>x1++x2) #[] (List.replicate (if ([w]:List Value).toArray.isEmpty=true then 0 else n.toNat) [w].toArray)=(List.replicate n.toNat w).toArray:=by
      rw [Cz (by simp)]
      have:=vO w n.toNat #[]
      simpa using this
    rw [ef]
    have vr:Vals (List.replicate n.toNat z) (List.replicate n.toNat w):=by
      generalize n.toNat=m
      induction m with
      | zero=>exact .nil
      | succ m ih=>exact .cons r ih
    exact ⟨.ref _,_,I.lnew (t':=s.toks) vr (by rw [List.length_replicate];exact Bi h1 (by decide)),rfl,q _ I.fresh⟩
theorem ue {K:Aa} (r:RepV K ρ B H d z):∀ n:Nat,RepL K ρ B H (List.replicate n d) (List.replicate n z)
 | 0=>RepL.nil
 | n+1=>by unfold List.replicate RepL;exact ⟨z,_,rfl,r,ue r n⟩
end
end D
namespace D
open PySem PySem.Spec PyProof.Rows L2
section
variable {env:En} {hp hp1 hp2 hp3:Hs} {f g h:DEx} {ds:List DV} {d:DV}
def je {n:Nat} (hf:f env hp=some (.ref n,hp)) (hn:hp[n]?=some (.lst ds)):Zx Jy (Qc f Qn) env hp=some (.int ds.length,hp):=XC (Zq hf) (QcY hn)
end
end D
namespace TR
def prs (p:Pg):List (Int×Int):=p.ks.zip p.ps
theorem mem_zip_iff {xs ys:List Int} {a b:Int}:(a,b)∈xs.zip ys↔∃ i:Nat,xs[i]?=some a/\ys[i]?=some b:=by
 rw [Bu]
 constructor
 ·rintro ⟨i,h⟩
  have:=List.getElem?_zip_eq_some.mp h
  exact ⟨i,this.1,this.2⟩
 ·rintro ⟨i,h1,h2⟩
  exact ⟨i,List.getElem?_zip_eq_some.mpr ⟨h1,h2⟩⟩
def UQ (a b:List Int) (n:Nat):(a.zip b).take n=(a.take n).zip (b.take n):=List.take_zipWith
def UP (a b:List Int) (n:Nat):(a.zip b).drop n=(a.drop n).zip (b.drop n):=List.drop_zipWith
theorem gD {ks:List Int} (h:ks.Pairwise (· < ·)) {i:Nat} {a k:Int} (ha:ks[i]?=some a):i < cLt ks k↔a < k:=by
 obtain ⟨h1,h2⟩:=qS h k
 constructor
 ·intro hi
  have:a∈ks.take (cLt ks k):=Bu.mpr ⟨i,by rw [List.getElem?_take,C0 hi];exact ha⟩
  rw [h1] at this
  simpa using (Bm.mp this).2
 ·intro hl
  refine Nat.lt_of_not_le fun hi=>?_
  have:a∈ks.drop (cLt ks k):=Bu.mpr ⟨i - cLt ks k,by rw [B9,show cLt ks k+(i - cLt ks k)=i by lia];exact ha⟩
  rw [h2] at this
  have:k<=a:=by simpa using (Bm.mp this).2
  lia
theorem gC {ks:List Int} (h:ks.Pairwise (· < ·)) {i:Nat} {a k:Int} (ha:ks[i]?=some a):i < cLe ks k↔a<=k:=by
 obtain ⟨h1,h2⟩:=YQ h k
 constructor
 ·intro hi
  have:a∈ks.take (cLe ks k):=Bu.mpr ⟨i,by rw [List.getElem?_take,C0 hi];exact ha⟩
  rw [h1] at this
  simpa using (Bm.mp this).2
 ·intro hl
  refine Nat.lt_of_not_le fun hi=>?_
  have:a∈ks.drop (cLe ks k):=Bu.mpr ⟨i - cLe ks k,by rw [B9,show cLe ks k+(i - cLe ks k)=i by lia];exact ha⟩
  rw [h2] at this
  have:k < a:=by simpa using (Bm.mp this).2
  lia
theorem Qb4 {ks:List Int} (h:ks.Pairwise (· < ·)) {i:Nat} {k:Int} (hi:ks[i]?=some k):cLt ks k=i/\cLe ks k=i+1:=by
 have a:=not_congr (gD (k:=k) h hi)
 have b:=(gC (k:=k) h hi).mpr (Bo _)
 have c:=Qb8 h k
 have d:=a.mpr (by lia)
 lia
theorem QbX {p:Pg} (h:p.ks.Pairwise (· < ·)) {k v:Int}:QY p k=some v↔(k,v)∈prs p:=by
 unfold QY prs
 rw [mem_zip_iff]
 constructor
 ·intro e
  by_cases q:cLt p.ks k=cLe p.ks k
  ·rw [C0 q] at e;cases e
  ·rw [Cz q] at e
   have hk:k∈p.ks:=Classical.byContradiction fun z=>q (Qb9 z)
   obtain ⟨i,hi⟩:=Bu.mp hk
   have:=(Qb4 h hi).1
   exact ⟨i,hi,by rw [<- this];exact e⟩
 ·rintro ⟨i,hi,hv⟩
  obtain ⟨a,b⟩:=Qb4 h hi
  rw [Cz (by lia),a];exact hv
theorem xD {p:Pg} {k v:Int} (h:(k,v)∈prs p):k∈p.ks:=by
 obtain ⟨i,h1,_⟩:=mem_zip_iff.mp h
 exact Aw h1
theorem vc {p:Pg} (h:p.ks.Pairwise (· < ·)) (hl:p.ps.length=p.ks.length) (k x:Int):prs (QW p k x)=(prs p).take (cLt p.ks k)++(k,x)::(prs p).drop (cLe p.ks k):=by
 unfold QW prs
 rw [List.zip_append (by rw [A8,A8,hl]),List.zip_cons_cons,UQ,UP]
theorem uK {p:Pg} (h:p.ks.Pairwise (· < ·)) (hl:p.ps.length=p.ks.length) (k:Int):prs (without p k)=(prs p).take (cLt p.ks k)++(prs p).drop (cLe p.ks k):=by
 unfold without prs
 rw [List.zip_append (by rw [A8,A8,hl]),UQ,UP]
theorem KN {p:Pg} (h:p.ks.Pairwise (· < ·)) (k:Int) {a b:Int}:((a,b)∈(prs p).take (cLt p.ks k)∨(a,b)∈(prs p).drop (cLe p.ks k))↔a≠k/\(a,b)∈prs p:=by
 have ix:∀ {i:Nat},(prs p)[i]?=some (a,b)->p.ks[i]?=some a:=fun e=>(List.getElem?_zip_eq_some.mp e).1
 constructor
 ·rintro (m | m)
  ·obtain ⟨i,hi⟩:=Bu.mp m
   rw [List.getElem?_take] at hi
   by_cases q:i < cLt p.ks k
   ·rw [C0 q] at hi
    have:=(gD h (ix hi)).mp q
    exact ⟨by lia,Aw hi⟩
   ·rw [Cz q] at hi;cases hi
  ·obtain ⟨i,hi⟩:=Bu.mp m
   rw [B9] at hi
   have:=(not_congr (gC (k:=k) h (ix hi))).mp (by lia)
   exact ⟨by lia,Aw hi⟩
 ·rintro ⟨ne,m⟩
  obtain ⟨i,hi⟩:=Bu.mp m
  rcases Int.lt_or_gt_of_ne ne with l | l
  ·have:=(gD h (ix hi)).mpr l
   exact .inl (Bu.mpr ⟨i,by rw [List.getElem?_take,C0 this];exact hi⟩)
  ·have:=(not_congr (gC (k:=k) h (ix hi))).mpr (by lia)
   exact .inr (Bu.mpr ⟨i - cLe p.ks k,by rw [B9,show cLe p.ks k+(i - cLe p.ks k)=i by lia];exact hi⟩)
theorem vb {p:Pg} (h:p.ks.Pairwise (· < ·)) (hl:p.ps.length=p.ks.length) (k x:Int) {a b:Int}:(a,b)∈prs (QW p k x)↔(a=k/\b=x)∨(a≠k/\(a,b)∈prs p):=by
 rw [vc h hl,Ah,Bj,<- KN h k]
 constructor
 ·rintro (m | m | m)
  ·exact .inr (.inl m)
  ·cases m;exact .inl ⟨rfl,rfl⟩
  ·exact .inr (.inr m)
 ·rintro (⟨rfl,rfl⟩ | m | m)
  ·exact .inr (.inl rfl)
  ·exact .inl m
  ·exact .inr (.inr m)
theorem uJ {p:Pg} (h:p.ks.Pairwise (· < ·)) (hl:p.ps.length=p.ks.length) (k:Int) {a b:Int}:(a,b)∈prs (without p k)↔a≠k/\(a,b)∈prs p:=by
 rw [uK h hl,Ah,<- KN h k]
theorem gt {P:Pg} (hz:P.lv=0) (n:Nat):prs (QZ P n)++prs (QN P)=prs P:=by
 have hc:Zo P=mid P:=by unfold Zo;rw [C0 hz]
 unfold prs QZ QN
 rw [hc]
 show (P.ks.take (mid P)).zip (P.ps.take (mid P))++(P.ks.drop (mid P)).zip (P.ps.drop (mid P))=P.ks.zip P.ps
 rw [<- UQ,<- UP,List.take_append_drop]
def Lf (S:Sh) (k v:Int):Prop:=∃ (n:Nat) (p:Pg),S.pg[n]?=some p/\p.lv=0/\(k,v)∈prs p
def TabIs (S:Sh) (F:Eg):Prop:=∀ k v,F k=some v↔Lf S k v
def uD (F:Eg) (k x:Int):Int->Option Int:=fun j=>if j=k then some x else F j
def Kk (F:Eg) (k:Int):Int->Option Int:=fun j=>if j=k then none else F j
def Lo (S:Sh) (n:Nat) (k v:Int):Prop:=∃ (m:Nat) (p:Pg),m≠n/\S.pg[m]?=some p/\p.lv=0/\(k,v)∈prs p
section
variable {S:Sh} {bg:Bg} {n:Nat} {p P:Pg} {k v:Int} {F:Eg}
theorem Tree.len0 (T:Tree S bg) (hn:S.pg[n]?=some p) (hz:p.lv=0):p.ps.length=p.ks.length:=by
 have:=(T.page n p hn).parts;rw [C0 hz] at this;exact this
theorem Lf.split (hn:S.pg[n]?=some p) (hz:p.lv=0):Lf S k v↔Lo S n k v∨(k,v)∈prs p:=by
 constructor
 ·rintro ⟨m,q,h1,h2,h3⟩
  by_cases e:m=n
  ·subst e;rw [hn] at h1;cases h1;exact .inr h3
  ·exact .inl ⟨m,q,e,h1,h2,h3⟩
 ·rintro (⟨m,q,_,h1,h2,h3⟩ | h)
  ·exact ⟨m,q,h1,h2,h3⟩
  ·exact ⟨n,p,hn,hz,h⟩
theorem Tree.lo_none (T:Tree S bg) (hn:S.pg[n]?=some p) (hz:p.lv=0) (h1:leB (bg n) k) (h2:ltH k p.hi):¬ Lo S n k v:=by
 rintro ⟨m,q,e,hm,hq,h3⟩
 have ok:=T.page m q hm
 have hk:=xD h3
 rcases T.dis n m p q hn hm (by lia) (fun x=>e x.symm) with ⟨h,u,a,b,c⟩ | ⟨h,u,a,b,c⟩
 ·have:=h2 h a;have:=ok.low k hk u b;lia
 ·have:=h1 u b;have:=ok.high k hk h a;lia
theorem Tree.tab_worth (T:Tree S bg) (hT:TabIs S F) (hn:S.pg[n]?=some p) (hz:p.lv=0) (h1:leB (bg n) k) (h2:ltH k p.hi):QY p k=F k:=by
  have so:=(T.page n p hn).sorted
  have key:∀ v,QY p k=some v↔F k=some v:=fun v=>by
    rw [QbX so,hT k v,Lf.split hn hz]
    exact ⟨.inr,fun h=>h.elim (fun h=>absurd h (T.lo_none hn hz h1 h2)) id⟩
  cases e:F k with
  | some v=>exact (key v).mpr e
  | none =>
    cases e':QY p k with
    | none=>rfl
    | some v=>rw [(key v).mp e'] at e;cases e
theorem QbP {w:Wk} (hn:S.pg[n]?=some p) (hz:p.lv=0) (hl:P.lv=p.lv) (k v:Int):Lf (Qu S w n P).2.1 k v↔Lo S n k v∨(k,v)∈prs P:=by
 have ln:=QB hn
 unfold Qu
 by_cases hr:P.ks.length<=S.O2
 ·rw [C0 hr]
  constructor
  ·rintro ⟨m,q,h1,h2,h3⟩
   rcases QT h1 with ⟨rfl,rfl,_⟩ | ⟨e,h⟩
   ·exact .inr h3
   ·exact .inl ⟨m,q,e,h,h2,h3⟩
  ·rintro (⟨m,q,e,h1,h2,h3⟩ | h)
   ·exact ⟨m,q,by show (S.pg.set n P)[m]?=_;rw [Ak (fun x=>e x.symm)];exact h1,h2,h3⟩
   ·exact ⟨n,P,by show (S.pg.set n P)[n]?=_;rw [As ln],by lia,h⟩
 ·rw [Cz hr]
  have hv:=gt (P:=P) (by lia) S.pg.length
  constructor
  ·rintro ⟨m,q,h1,h2,h3⟩
   rcases QT (xs:=S.pg++[QN P]) h1 with ⟨rfl,rfl,_⟩ | ⟨e,h⟩
   ·exact .inr (by rw [<- hv];exact List.mem_append_left _ h3)
   ·rcases Jh h with ⟨rfl,rfl⟩ | h
    ·exact .inr (by rw [<- hv];exact Ai _ h3)
    ·exact .inl ⟨m,q,e,h,h2,h3⟩
  ·rintro (⟨m,q,e,h1,h2,h3⟩ | h)
   ·exact ⟨m,q,by show ((S.pg++[QN P]).set n (QZ P S.pg.length))[m]?=_;rw [Ak (fun x=>e x.symm)];exact J3 h1,h2,h3⟩
   ·rw [<- hv] at h
    rcases Ah.mp h with h | h
    ·exact ⟨n,QZ P S.pg.length,by show ((S.pg++[QN P]).set n (QZ P S.pg.length))[n]?=_;rw [As (by simp;lia)],by show P.lv=0;lia,h⟩
    ·exact ⟨S.pg.length,QN P,by show ((S.pg++[QN P]).set n (QZ P S.pg.length))[S.pg.length]?=_;rw [Ak (by lia)];simp,by show P.lv=0;lia,h⟩
theorem QbO {w:Wk} (hn:S.pg[n]?=some p) (hz:0 < p.lv) (hl:P.lv=p.lv) (k v:Int):Lf (Qu S w n P).2.1 k v↔Lf S k v:=by
 have ln:=QB hn
 unfold Qu
 by_cases hr:P.ks.length<=S.O2
 ·rw [C0 hr]
  constructor
  ·rintro ⟨m,q,h1,h2,h3⟩
   rcases QT h1 with ⟨rfl,rfl,_⟩ | ⟨e,h⟩
   ·lia
   ·exact ⟨m,q,h,h2,h3⟩
  ·rintro ⟨m,q,h1,h2,h3⟩
   have e:m≠n:=fun e=>by subst e;rw [hn] at h1;cases h1;lia
   exact ⟨m,q,by show (S.pg.set n P)[m]?=_;rw [Ak (fun x=>e x.symm)];exact h1,h2,h3⟩
 ·rw [Cz hr]
  constructor
  ·rintro ⟨m,q,h1,h2,h3⟩
   rcases QT (xs:=S.pg++[QN P]) h1 with ⟨rfl,rfl,_⟩ | ⟨e,h⟩
   ·have:P.lv=0:=h2
    lia
   ·rcases Jh h with ⟨rfl,rfl⟩ | h
    ·have:P.lv=0:=h2
     lia
    ·exact ⟨m,q,h,h2,h3⟩
  ·rintro ⟨m,q,h1,h2,h3⟩
   have e:m≠n:=fun e=>by subst e;rw [hn] at h1;cases h1;lia
   exact ⟨m,q,by show ((S.pg++[QN P]).set n (QZ P S.pg.length))[m]?=_;rw [Ak (fun x=>e x.symm)];exact J3 h1,h2,h3⟩
theorem Tree.tab_put (T:Tree S bg) (hT:TabIs S F) (hn:S.pg[n]?=some p) (hz:p.lv=0) (h1:leB (bg n) k) (h2:ltH k p.hi) {x:Int} (hS:∀ a b,Lf S' a b↔Lo S n a b∨(a,b)∈prs (QW p k x)):TabIs S' (uD F k x):=fun a b=>by
 have so:=(T.page n p hn).sorted
 rw [hS,vb so (T.len0 hn hz)]
 unfold uD
 by_cases e:a=k
 ·subst e
  rw [C0 rfl]
  constructor
  ·intro h;cases h;exact .inr (.inl ⟨rfl,rfl⟩)
  ·rintro (h | ⟨_,rfl⟩ | ⟨h,_⟩)
   ·exact absurd h (T.lo_none hn hz h1 h2)
   ·rfl
   ·exact absurd rfl h
 ·rw [Cz e,hT,Lf.split hn hz]
  constructor
  ·rintro (h | h)
   ·exact .inl h
   ·exact .inr (.inr ⟨e,h⟩)
  ·rintro (h | ⟨h,_⟩ | ⟨_,h⟩)
   ·exact .inl h
   ·exact absurd h e
   ·exact .inr h
theorem Tree.tab_cut (T:Tree S bg) (hT:TabIs S F) (hn:S.pg[n]?=some p) (hz:p.lv=0) (h1:leB (bg n) k) (h2:ltH k p.hi) (hS:∀ a b,Lf S' a b↔Lo S n a b∨(a,b)∈prs (without p k)):TabIs S' (Kk F k):=fun a b=>by
 have so:=(T.page n p hn).sorted
 rw [hS,uJ so (T.len0 hn hz)]
 unfold Kk
 by_cases e:a=k
 ·subst e
  rw [C0 rfl]
  constructor
  ·intro h;cases h
  ·rintro (h | ⟨h,_⟩)
   ·exact absurd h (T.lo_none hn hz h1 h2)
   ·exact absurd rfl h
 ·rw [Cz e,hT,Lf.split hn hz]
  exact ⟨fun h=>h.imp id fun h=>⟨e,h⟩,fun h=>h.imp id And.right⟩
theorem TabIs.same {S':Sh} (hT:TabIs S F) (h:S'.pg=S.pg):TabIs S' F:=fun k v=>by
 rw [hT k v];unfold Lf;rw [h]
end
def Aim (S:Sh) (bg:Bg) (w:Wk):Prop:=w.O4=0->match w.O0 with
 | .stretch l h=>l < h/\(w.aim=l∨∃ (s:Nat) (p:Pg),w.O6=some s/\S.pg[s]?=some p/\p.lv=0/\bg s=some w.aim/\l < w.aim/\w.aim < h)
 | .find k=>w.aim=k
 | .put k _=>w.aim=k
 | .cut k=>w.aim=k
theorem Aim.grow {w:Wk} (A:Aim S bg w) (g:Yz S bg S' bg'):Aim S' bg' w:=fun h0=>by
  have a:=A h0
  cases hd:w.O0 with
  | find k=>rw [hd] at a;exact a
  | put k x=>rw [hd] at a;exact a
  | cut k=>rw [hd] at a;exact a
  | stretch l h =>
    rw [hd] at a
    obtain ⟨a1,a2⟩:=a
    refine ⟨a1,a2.imp id ?_⟩
    rintro ⟨s,p,b1,b2,b0,b3,b4⟩
    obtain ⟨e,p',e1,e2⟩:=g.old s p b2
    exact ⟨s,p',b1,e1,e2.trans b0,by rw [e];exact b3,b4⟩
def Rds (F:Eg) (a e:Int) (ps:Ec):Prop:=ps.Pairwise (fun x y=>x.1 < y.1)/\∀ k v,(k,v)∈ps↔F k=some v/\a<=k/\k < e
def Did (F F':Eg) (w w':Wk):Row->Prop
  | .non=>False
  | .found _ x=>∃ k,w.O0=.find k/\x=F k/\F'=F/\w'.O1=F k/\w'.O5=w.O5/\w'.O7=true
  | .put _ x t=>∃ k y,w.O0=.put k y/\x=F k/\F'=uD F k y/\w'.O1=F k/\w'.O5=w.O5/\w'.O7=t.isNone/\(w'.O7=false->0 < w'.O4)
  | .cut _ x=>∃ k,w.O0=.cut k/\x=F k/\F'=Kk F k/\w'.O1=F k/\w'.O5=w.O5/\w'.O7=true
  | .read _ ps t=>∃ l h,w.O0=.stretch l h/\F'=F/\w'.O5=w.O5++ps/\w'.O1=w.O1/\match t with
    | none=>Rds F w.aim h ps/\w'.O7=true
    | some (_,x)=>w.aim < x/\x < h/\Rds F w.aim x ps/\w'.aim=x/\w'.O7=false/\w'.O4=0
  | .side _ _=>F'=F/\w'.O1=w.O1/\w'.O5=w.O5/\w'.O7=false/\w'.O4=w.O4/\w'.aim=w.aim
  | .down _ _=>F'=F/\w'.O1=w.O1/\w'.O5=w.O5/\w'.O7=false/\w'.O4=w.O4/\w'.aim=w.aim
  | .told _ t=>0 < w.O4/\F'=F/\w'.O1=w.O1/\w'.O5=w.O5/\w'.O7=t.isNone/\(w'.O7=false->0 < w'.O4)
  | .raised _ _=>0 < w.O4/\F'=F/\w'.O1=w.O1/\w'.O5=w.O5/\w'.O7=true
theorem V8 {p:Pg} (h:p.ks.Pairwise (· < ·)):(prs p).Pairwise (fun x y=>x.1 < y.1):=by
 rw [List.pairwise_iff_getElem] at h ⊢
 intro i j hi hj hij
 have a:(prs p)[i].1=p.ks[i]'(by have:=hi;simp [prs] at this;lia):=by simp [prs]
 have b:(prs p)[j].1=p.ks[j]'(by have:=hj;simp [prs] at this;lia):=by simp [prs]
 rw [a,b];exact h i j _ _ hij
section
variable {S S':Sh} {bg:Bg} {n:Nat} {p P:Pg} {w w':Wk} {F:Eg} {r:Row}
theorem K4 (S:Sh) (w:Wk) (n:Nat) (P:Pg):(Qu S w n P).2.2.O0=w.O0/\(Qu S w n P).2.2.O1=w.O1/\(Qu S w n P).2.2.O5=w.O5/\(w.O7=false->(Qu S w n P).2.2.O7=(Qu S w n P).1.isNone)/\((Qu S w n P).2.2.O7=false->w.O7=false->0 < (Qu S w n P).2.2.O4)/\((Qu S w n P).2.2.O4=0->(Qu S w n P).2.2.aim=w.aim/\(Qu S w n P).2.2.O6=w.O6):=by
 unfold Qu
 by_cases hr:P.ks.length<=S.O2
 ·rw [C0 hr];exact ⟨rfl,rfl,rfl,fun _=>rfl,fun h=>(by cases h),fun _=>⟨rfl,rfl⟩⟩
 ·rw [Cz hr];exact ⟨rfl,rfl,rfl,fun h=>h,fun _ _=>Nat.succ_pos _,fun h=>(by cases h)⟩
theorem QdT (T:Tree S bg) (W:WOk S bg w) (A:Aim S bg w) (hw:w.O7=false) (hT:TabIs S F) (hs:JO S w=some (r,S',w')):∃ F',TabIs S' F'/\Did F F' w w' r/\Aim S bg w'/\w'.O0=w.O0:=by
  obtain ⟨n,hn0,hpl⟩:∃ n,w.O6.getD S.top=n/\(w.O6=some n∨(w.O6=none/\n=S.top)):=by
    cases e:w.O6 with
    | none=>exact ⟨S.top,rfl,.inr ⟨rfl,rfl⟩⟩
    | some m=>exact ⟨m,rfl,.inl rfl⟩
  obtain ⟨p,hn⟩:∃ p,S.pg[n]?=some p:=by
    rcases hpl with hp | ⟨_,rfl⟩
    . obtain ⟨p,a,_⟩:=W.at_ n hp;exact ⟨p,a⟩
    . obtain ⟨p,a,_⟩:=T.root;exact ⟨p,a⟩
  have ok:=T.page n p hn
  have la:leB (bg n) w.aim:=by
    rcases hpl with hp | ⟨_,rfl⟩
    . obtain ⟨p',a1,a2,a3⟩:=W.at_ n hp
      exact a3
    . intro v hv;rw [T.rbg] at hv;cases hv
  unfold JO at hs
  rw [Cz (by rw [hw];simp),hn0] at hs
  simp only [hn] at hs
  by_cases hr:w.O6=none/\p.lv < w.O4
  . rw [C0 hr] at hs
    obtain ⟨k,q,a1,a2,a3,a4⟩:=W.tell (by lia)
    simp only [a1] at hs
    cases hs
    refine ⟨F,fun a b=>?_,⟨by lia,rfl,rfl,rfl,rfl⟩,fun h0=>absurd (show w.O4=0 from h0) (by lia),rfl⟩
    rw [hT a b]
    constructor
    . rintro ⟨m,q,h1,h2,h3⟩
      exact ⟨m,q,J3 h1,h2,h3⟩
    . rintro ⟨m,q,h1,h2,h3⟩
      rcases Jh h1 with ⟨rfl,rfl⟩ | h
      . cases h2
      . exact ⟨m,q,h,h2,h3⟩
  . rw [Cz hr] at hs
    cases hb:Jf p w.aim with
    | true =>
      rw [hb,C0 rfl] at hs
      rcases T.link n p hn with ⟨a,b⟩ | ⟨h,s,q,a,b,c,d,e⟩
      . unfold Jf at hb;rw [a] at hb;cases hb
      . simp only [b] at hs
        cases hs
        refine ⟨F,hT.same rfl,⟨rfl,rfl,rfl,hw,rfl,rfl⟩,fun h0=>?_,rfl⟩
        have a5:=A h0
        cases hd:w.O0 with
        | find k=>rw [hd] at a5;exact a5
        | put k x=>rw [hd] at a5;exact a5
        | cut k=>rw [hd] at a5;exact a5
        | stretch l h' =>
          rw [hd] at a5
          obtain ⟨a6,a7⟩:=a5
          refine ⟨a6,?_⟩
          rcases a7 with a7 | ⟨s',p',b1,b2,b0,b3,b4,b5⟩
          . exact .inl a7
          . exfalso
            have:s'=n:=by
              rcases hpl with hp | ⟨hp,_⟩
              . rw [hp] at b1;exact (Aj b1).symm
              . rw [hp] at b1;cases b1
            subst this
            have:=ok.wide h a _ b3
            unfold Jf at hb;rw [a] at hb
            have:h<=w.aim:=by simpa using hb
            lia
    | false =>
      have lh:=Vx hb
      rw [hb,Cz (by simp)] at hs
      by_cases hd:w.O4 < p.lv
      . rw [C0 hd] at hs
        have pl:=ok.parts
        rw [Cz (by lia)] at pl
        have hc:cLe p.ks w.aim < p.ps.length:=by have:=Xk p.ks w.aim;lia
        rw [Ab hc] at hs
        simp only at hs
        cases hs
        refine ⟨F,hT.same rfl,⟨rfl,rfl,rfl,hw,rfl,rfl⟩,fun h0=>?_,rfl⟩
        have a5:=A h0
        cases hd':w.O0 with
        | find k=>rw [hd'] at a5;exact a5
        | put k x=>rw [hd'] at a5;exact a5
        | cut k=>rw [hd'] at a5;exact a5
        | stretch l h' =>
          rw [hd'] at a5
          obtain ⟨a6,a7⟩:=a5
          refine ⟨a6,?_⟩
          rcases a7 with a7 | ⟨s',p',b1,b2,b0,b3,b4,b5⟩
          . exact .inl a7
          . exfalso
            have:s'=n:=by
              rcases hpl with hp | ⟨hp,_⟩
              . rw [hp] at b1;exact (Aj b1).symm
              . rw [hp] at b1;cases b1
            subst this
            rw [hn] at b2;cases b2;lia
      . rw [Cz hd] at hs
        have hg:w.O4<=p.lv:=by
          rcases hpl with hp | ⟨hp,_⟩
          . obtain ⟨p',b1,b2,_⟩:=W.at_ n hp
            rw [hn] at b1;cases b1;exact b2
          . exact Co fun h=>hr ⟨hp,h⟩
        have hlv:p.lv=w.O4:=by lia
        by_cases h0:0 < w.O4
        . rw [C0 h0] at hs
          obtain ⟨k,q,a1,a2,a3,a4⟩:=W.tell h0
          simp only [a1] at hs
          cases hs
          obtain ⟨c1,c2,c3,c4,c5,c6⟩:=K4 { S with rd:=S.rd+1 } w n (Zn p w.aim k)
          refine ⟨F,fun a b=>?_,⟨h0,rfl,c2,c3,c4 hw,fun h=>c5 h hw⟩,fun h1=>?_,c1⟩
          . rw [QbO (S:={ S with rd:=S.rd+1 }) (p:=p) (P:=Zn p w.aim k) hn (by lia) rfl];exact hT a b
          . exfalso
            by_cases e:(Qu { S with rd:=S.rd+1 } w n (Zn p w.aim k)).2.2.O7=false
            . exact absurd h1 (Cu (c5 e hw))
            . unfold Qu at h1
              by_cases q1:(Zn p w.aim k).ks.length<=S.O2
              . rw [C0 q1] at h1;have:w.O4=0:=h1;lia
              . rw [Cz q1] at h1;cases h1
        . rw [Cz h0] at hs
          have hz:p.lv=0:=by lia
          have g0:w.O4=0:=by lia
          have a5:=A g0
          have wt:=T.tab_worth hT hn hz la lh
          have hs:=Aj hs
          unfold Ja at hs
          cases hdd:w.O0 with
          | find k =>
            rw [hdd] at a5 hs
            cases hs
            have a5:w.aim=k:=a5
            subst a5
            exact ⟨F,hT.same rfl,⟨_,hdd,wt,rfl,wt,rfl,rfl⟩,fun _=>by simp [hdd],by simp [hdd]⟩
          | put k x =>
            rw [hdd] at a5 hs
            have a5:w.aim=k:=a5
            subst a5
            obtain ⟨c1,c2,c3,c4,c5,c6⟩:=K4 { S with rd:=S.rd+1 } { w with O1:=QY p w.aim } n (QW p w.aim x)
            dsimp only at hs
            simp only [Bp] at hs
            obtain ⟨rfl,rfl,rfl⟩:=hs
            rw [hdd] at c1 c2 c3 c4 c5 c6
            refine ⟨uD F w.aim x,?_,⟨_,_,hdd,wt,rfl,c2.trans wt,c3,c4 hw,fun h=>c5 h hw⟩,fun h1=>?_,c1⟩
            . exact T.tab_put hT hn hz la lh fun a b=>by rw [QbP (S:={ S with rd:=S.rd+1 }) (p:=p) (P:=QW p w.aim x) hn hz rfl];exact Iff.rfl
            . have:=(c6 h1).1
              rw [c1]
              exact this
          | cut k =>
            rw [hdd] at a5 hs
            have a5:w.aim=k:=a5
            subst a5
            dsimp only at hs
            cases hs
            refine ⟨Kk F w.aim,?_,⟨_,hdd,wt,rfl,wt,rfl,rfl⟩,fun _=>by simp [hdd],by simp [hdd]⟩
            by_cases hq:(QY p w.aim).isSome=true
            . rw [C0 hq]
              refine T.tab_cut hT hn hz la lh fun a b=>?_
              have ln:=QB hn
              constructor
              . rintro ⟨m,q,h1,h2,h3⟩
                rcases QT h1 with ⟨rfl,rfl,_⟩ | ⟨e,h⟩
                . exact .inr h3
                . exact .inl ⟨m,q,e,h,h2,h3⟩
              . rintro (⟨m,q,e,h1,h2,h3⟩ | h)
                . exact ⟨m,q,by show (S.pg.set n (without p w.aim))[m]?=_;rw [Ak (fun x=>e x.symm)];exact h1,h2,h3⟩
                . exact ⟨n,without p w.aim,by show (S.pg.set n (without p w.aim))[n]?=_;rw [As ln],hz,h⟩
            . rw [Cz hq]
              have fn:F w.aim=none:=by rw [<- wt];exact Option.not_isSome_iff_eq_none.mp hq
              have:Kk F w.aim=F:=funext fun j=>by
                unfold Kk
                by_cases e:j=w.aim
                . rw [C0 e,e,fn]
                . rw [Cz e]
              rw [this];exact hT.same rfl
          | stretch l h =>
            rw [hdd] at a5 hs
            obtain ⟨a6,a7⟩:=a5
            dsimp only at hs
            have so:=V8 ok.sorted
            have ge:∀ k v,(k,v)∈prs p->l<=k->w.aim<=k:=fun k v hm hlk=>by
              rcases a7 with a7 | ⟨s',p',b1,b2,b0,b3,b4,b5⟩
              . lia
              . have:s'=n:=by
                  rcases hpl with hp | ⟨hp,_⟩
                  . rw [hp] at b1;exact (Aj b1).symm
                  . rw [hp] at b1;cases b1
                subst this
                exact ok.low k (xD hm) _ b3
            have al:l<=w.aim:=by rcases a7 with a7 | ⟨_,_,_,_,_,_,b4,_⟩<;>lia
            have ah:w.aim < h:=by rcases a7 with a7 | ⟨_,_,_,_,_,_,_,b5⟩<;>lia
            have rd:∀ e:Int,e<=h->(∀ x,p.hi=some x->e<=x)->(∀ k v,(k,v)∈prs p->k < h->k < e)->Rds F w.aim e (Q3 p l h):=fun e he hx hk=>by
              refine ⟨List.Pairwise.filter _ so,fun k v=>?_⟩
              unfold Q3
              rw [Bm,hT k v,Lf.split hn hz]
              constructor
              . rintro ⟨m,c⟩
                simp only [Bb,decide_eq_true_eq] at c
                exact ⟨.inr m,ge k v m c.1,hk k v m c.2⟩
              . rintro ⟨m,c1,c2⟩
                have lb:leB (bg n) k:=fun u hu=>by have:=la u hu;lia
                have lk:ltH k p.hi:=fun u hu=>by have:=hx u hu;lia
                rcases m with m | m
                . exact absurd m (T.lo_none hn hz lb lk)
                . exact ⟨m,by simp only [Bb,decide_eq_true_eq];lia⟩
            rcases T.link n p hn with ⟨a,b⟩ | ⟨x,s,q,a,b,c,d,e⟩
            . simp only [a,b] at hs
              cases hs
              exact ⟨F,hT.same rfl,⟨l,h,hdd,rfl,rfl,rfl,rd h (Bo _) (fun x hx=>by rw [a] at hx;cases hx) (fun k v _ c=>c),rfl⟩,fun _=>by simp only [hdd];exact ⟨a6,a7⟩,by simp [hdd]⟩
            . simp only [a,b] at hs
              have ax:w.aim < x:=lh x a
              by_cases hx:h<=x
              . rw [C0 hx] at hs
                cases hs
                exact ⟨F,hT.same rfl,⟨l,h,hdd,rfl,rfl,rfl,rd h (Bo _) (fun y hy=>by rw [a] at hy;cases hy;exact hx) (fun k v _ c=>c),rfl⟩,fun _=>by simp only [hdd];exact ⟨a6,a7⟩,by simp [hdd]⟩
              . rw [Cz hx] at hs
                cases hs
                refine ⟨F,hT.same rfl,⟨l,h,hdd,rfl,rfl,rfl,ax,by lia,rd x (by lia) (fun y hy=>by rw [a] at hy;cases hy;exact Bo _) (fun k v m _=>ok.high k (xD m) x a),rfl,hw,g0⟩,fun _=>?_,by simp [hdd]⟩
                simp only [hdd]
                exact ⟨a6,.inr ⟨s,q,rfl,c,by lia,e,by lia,by lia⟩⟩
end
def Kd (S:Sh) (c:Nat):Prop:=∃ (m:Nat) (q:Pg),S.pg[m]?=some q/\0 < q.lv/\(c:Int)∈q.ps
def Tells (ws:List Wk) (c:Nat):Prop:=∃ (i:Nat) (w:Wk),ws[i]?=some w/\w.O7=false/\0 < w.O4/\w.Oz=some c
def Tld (S:Sh) (ws:List Wk):Prop:=∀ n:Nat,n < S.pg.length->n≠S.top->Kd S n∨Tells ws n
section
variable {S S':Sh} {bg:Bg} {n:Nat} {p P:Pg} {w w':Wk} {r:Row} {ws:List Wk} {i:Nat}
theorem KY {w:Wk} (hn:S.pg[n]?=some p) (hl:P.lv=p.lv) (hsub:0 < p.lv->∀ x∈p.ps,x∈P.ps) {c:Nat} (h:Kd S c∨(0 < P.lv/\(c:Int)∈P.ps)):Kd (Qu S w n P).2.1 c:=by
 have ln:=QB hn
 have key:(∃ (m:Nat) (q:Pg),m≠n/\S.pg[m]?=some q/\0 < q.lv/\(c:Int)∈q.ps)∨(0 < P.lv/\(c:Int)∈P.ps):=by
  rcases h with ⟨m,q,h1,h2,h3⟩ | h
  ·by_cases e:m=n
   ·subst e;rw [hn] at h1;cases h1;exact .inr ⟨by lia,hsub h2 _ h3⟩
   ·exact .inl ⟨m,q,e,h1,h2,h3⟩
  ·exact .inr h
 unfold Qu
 by_cases hr:P.ks.length<=S.O2
 ·rw [C0 hr]
  rcases key with ⟨m,q,e,h1,h2,h3⟩ | ⟨h1,h2⟩
  ·exact ⟨m,q,by show (S.pg.set n P)[m]?=_;rw [Ak (fun x=>e x.symm)];exact h1,h2,h3⟩
  ·exact ⟨n,P,by show (S.pg.set n P)[n]?=_;rw [As ln],h1,h2⟩
 ·rw [Cz hr]
  rcases key with ⟨m,q,e,h1,h2,h3⟩ | ⟨h1,h2⟩
  ·exact ⟨m,q,by show ((S.pg++[QN P]).set n (QZ P S.pg.length))[m]?=_;rw [Ak (fun x=>e x.symm)];exact J3 h1,h2,h3⟩
  ·rw [<- List.take_append_drop (Zo P) P.ps] at h2
   rcases Ah.mp h2 with h | h
   ·exact ⟨n,QZ P S.pg.length,by show ((S.pg++[QN P]).set n (QZ P S.pg.length))[n]?=_;rw [As (by simp;lia)],h1,h⟩
   ·exact ⟨S.pg.length,QN P,by show ((S.pg++[QN P]).set n (QZ P S.pg.length))[S.pg.length]?=_;rw [Ak (by lia)];simp,h1,h⟩
theorem Tells.other {c:Nat} (h:Tells ws c) (hi:ws[i]?=some w) (hne:w.O7=false->0 < w.O4->w.Oz≠some c):Tells (ws.set i w') c:=by
 obtain ⟨j,v,a,b,d,e⟩:=h
 have ne:j≠i:=fun z=>by subst z;rw [hi] at a;cases a;exact hne b d e
 exact ⟨j,v,by rw [Ak (fun x=>ne x.symm)];exact a,b,d,e⟩
theorem Tells.self {c:Nat} (hi:ws[i]?=some w) (h1:w'.O7=false) (h2:0 < w'.O4) (h3:w'.Oz=some c):Tells (ws.set i w') c :=
 ⟨i,w',As (QB hi),h1,h2,h3⟩
theorem G1 {w:Wk} (S:Sh) (n:Nat) (P:Pg) (h:S.O2 < P.ks.length) (hw:w.O7=false):(Qu S w n P).2.2.O7=false/\0 < (Qu S w n P).2.2.O4/\(Qu S w n P).2.2.Oz=some S.pg.length:=by
 unfold Qu;rw [Cz (by lia)];exact ⟨hw,Nat.succ_pos _,rfl⟩
theorem kc {w:Wk} (S:Sh) (n:Nat) (P:Pg) {c:Nat} (hc:c < (Qu S w n P).2.1.pg.length):c < S.pg.length∨(c=S.pg.length/\S.O2 < P.ks.length):=by
 unfold Qu at hc
 by_cases hr:P.ks.length<=S.O2
 ·rw [C0 hr] at hc;exact .inl (by simpa using hc)
 ·rw [Cz hr] at hc
  have:c < S.pg.length+1:=by simpa using hc
  rcases Bf c S.pg.length with h | h
  ·exact .inl h
  ·exact .inr ⟨by lia,by lia⟩
theorem ki {w:Wk} (S:Sh) (n:Nat) (P:Pg):(Qu S w n P).2.1.top=S.top:=by
 unfold Qu;split<;>rfl
theorem Tld.step (D:Tld S ws) (T:Tree S bg) (W:WOk S bg w) (hi:ws[i]?=some w) (hw:w.O7=false) (hs:JO S w=some (r,S',w')):Tld S' (ws.set i w'):=by
  obtain ⟨n,hn0,hpl⟩:∃ n,w.O6.getD S.top=n/\(w.O6=some n∨(w.O6=none/\n=S.top)):=by
    cases e:w.O6 with
    | none=>exact ⟨S.top,rfl,.inr ⟨rfl,rfl⟩⟩
    | some m=>exact ⟨m,rfl,.inl rfl⟩
  obtain ⟨p,hn⟩:∃ p,S.pg[n]?=some p:=by
    rcases hpl with hp | ⟨_,rfl⟩
    . obtain ⟨p,a,_⟩:=W.at_ n hp;exact ⟨p,a⟩
    . obtain ⟨p,a,_⟩:=T.root;exact ⟨p,a⟩
  have still:∀ {x:Wk} {S2:Sh},S2.pg=S.pg->S2.top=S.top->(w.O7=false->0 < w.O4->x.O7=false/\x.O4=w.O4/\x.Oz=w.Oz)->Tld S2 (ws.set i x):=fun {x S2} e1 e2 e3 c hc ht=>by
    rw [e1] at hc;rw [e2] at ht
    rcases D c hc ht with ⟨m,q,h⟩ | ⟨j,v,a,b,d,e⟩
    . exact .inl ⟨m,q,by rw [e1];exact h⟩
    . by_cases z:j=i
      . subst z;rw [hi] at a;cases a
        obtain ⟨f1,f2,f3⟩:=e3 b d
        exact .inr (Tells.self hi f1 (by lia) (f3.trans e))
      . exact .inr ⟨j,v,by rw [Ak (fun x=>z x.symm)];exact a,b,d,e⟩
  unfold JO at hs
  rw [Cz (by rw [hw];simp),hn0] at hs
  simp only [hn] at hs
  by_cases hr:w.O6=none/\p.lv < w.O4
  . rw [C0 hr] at hs
    obtain ⟨k,q,a1,a2,a3,a4⟩:=W.tell (by lia)
    simp only [a1] at hs
    cases hs
    intro c hc ht
    have hc:c < S.pg.length+1:=by simpa using hc
    have ht:c≠S.pg.length:=ht
    have newf:(S.pg++[(⟨p.lv+1,[w.aim],[(S.top:Int),(k:Int)],none,none⟩:Pg)])[S.pg.length]?=some ⟨p.lv+1,[w.aim],[(S.top:Int),(k:Int)],none,none⟩:=by simp
    by_cases e:c=S.top
    . exact .inl ⟨S.pg.length,_,newf,Nat.succ_pos _,by simp [e]⟩
    by_cases e':c=k
    . exact .inl ⟨S.pg.length,_,newf,Nat.succ_pos _,by simp [e']⟩
    rcases D c (by lia) e with ⟨m,q,h1,h2,h3⟩ | h
    . exact .inl ⟨m,q,J3 h1,h2,h3⟩
    . exact .inr (h.other hi fun _ _ h=>by rw [a1] at h;exact e' (Aj h).symm)
  . rw [Cz hr] at hs
    cases hb:Jf p w.aim with
    | true =>
      rw [hb,C0 rfl] at hs
      cases hsd:p.sd with
      | none=>rw [hsd] at hs;cases hs
      | some s =>
        rw [hsd] at hs;cases hs
        exact still rfl rfl fun a _=>⟨a,rfl,rfl⟩
    | false =>
      rw [hb,Cz (by simp)] at hs
      by_cases hd:w.O4 < p.lv
      . rw [C0 hd] at hs
        cases hq:p.ps[cLe p.ks w.aim]? with
        | none=>rw [hq] at hs;cases hs
        | some c =>
          rw [hq] at hs;cases hs
          exact still rfl rfl fun a _=>⟨a,rfl,rfl⟩
      . rw [Cz hd] at hs
        have back:∀ (w0:Wk) (P:Pg),w0.O7=false->P.lv=p.lv->(0 < p.lv->∀ x∈p.ps,x∈P.ps)->(∀ c,0 < w.O4->w.Oz=some c->0 < P.lv/\(c:Int)∈P.ps)->Tld (Qu { S with rd:=S.rd+1 } w0 n P).2.1 (ws.set i (Qu { S with rd:=S.rd+1 } w0 n P).2.2):=fun w0 P e0 hl hsub hnew c hc ht=>by
          rw [ki] at ht
          rcases kc _ n P hc with hc | ⟨hc,hroom⟩
          . rcases D c hc ht with h | h
            . exact .inl (KY (S:={ S with rd:=S.rd+1 }) hn hl hsub (.inl h))
            . by_cases z:w.Oz=some c/\0 < w.O4
              . exact .inl (KY (S:={ S with rd:=S.rd+1 }) hn hl hsub (.inr (hnew c z.2 z.1)))
              . exact .inr (h.other hi fun _ a b=>z ⟨b,a⟩)
          . obtain ⟨f1,f2,f3⟩:=G1 (w:=w0) { S with rd:=S.rd+1 } n P hroom e0
            exact .inr (Tells.self hi f1 f2 (by rw [f3];exact congrArg some hc.symm))
        by_cases h0:0 < w.O4
        . rw [C0 h0] at hs
          obtain ⟨k,q,a1,a2,a3,a4⟩:=W.tell h0
          simp only [a1] at hs
          simp only [Option.some.injEq,Bp] at hs
          obtain ⟨rfl,rfl,rfl⟩:=hs
          have hg:w.O4<=p.lv:=by
            rcases hpl with hp | ⟨hp,_⟩
            . obtain ⟨p',b1,b2,_⟩:=W.at_ n hp
              rw [hn] at b1;cases b1;exact b2
            . exact Co fun h=>hr ⟨hp,h⟩
          refine back w (Zn p w.aim k) hw rfl (fun _ x hx=>?_) fun c _ hc=>⟨by show 0 < p.lv;lia,?_⟩
          . show x∈p.ps.take (cLe p.ks w.aim+1)++(k:Int)::p.ps.drop (cLe p.ks w.aim+1)
            rw [<- List.take_append_drop (cLe p.ks w.aim+1) p.ps] at hx
            rcases Ah.mp hx with h | h
            . exact List.mem_append_left _ h
            . exact Ai _ (Ax _ h)
          . rw [a1] at hc;cases hc
            show (k:Int)∈p.ps.take (cLe p.ks w.aim+1)++(k:Int)::p.ps.drop (cLe p.ks w.aim+1)
            simp
        . rw [Cz h0] at hs
          have hs:=Aj hs
          unfold Ja at hs
          have g0:∀ {x:Wk},w.O7=false->0 < w.O4->x.O7=false/\x.O4=w.O4/\x.Oz=w.Oz:=fun _ h=>absurd h h0
          cases hdd:w.O0 with
          | find k=>rw [hdd] at hs;cases hs;exact still rfl rfl g0
          | put k x =>
            rw [hdd] at hs
            dsimp only at hs
            simp only [Bp] at hs
            obtain ⟨rfl,rfl,rfl⟩:=hs
            exact back _ (QW p w.aim x) hw rfl (fun h=>(by
              have hg:p.lv=0:=by lia
              lia)) fun c h=>absurd h h0
          | cut k =>
            rw [hdd] at hs;dsimp only at hs;cases hs
            by_cases hq:(QY p w.aim).isSome=true
            . rw [C0 hq]
              intro c hc ht
              have hc:c < S.pg.length:=by simpa using hc
              rcases D c hc ht with ⟨m,q,h1,h2,h3⟩ | h
              . have e:m≠n:=fun e=>by subst e;rw [hn] at h1;cases h1;lia
                exact .inl ⟨m,q,by show (S.pg.set n (without p w.aim))[m]?=_;rw [Ak (fun x=>e x.symm)];exact h1,h2,h3⟩
              . exact .inr (h.other hi fun _ a=>absurd a h0)
            . rw [Cz hq];exact still rfl rfl g0
          | stretch l h =>
            rw [hdd] at hs;dsimp only at hs
            cases hhi:p.hi with
            | none=>rw [hhi] at hs;cases hs;exact still rfl rfl g0
            | some x =>
              cases hsd:p.sd with
              | none=>rw [hhi,hsd] at hs;cases hs;exact still rfl rfl g0
              | some s =>
                rw [hhi,hsd] at hs
                dsimp only at hs
                by_cases hx:h<=x
                . rw [C0 hx] at hs;cases hs;exact still rfl rfl g0
                . rw [Cz hx] at hs;cases hs;exact still rfl rfl g0
theorem Tld.put (D:Tld S ws) (hi:∀ v,ws[i]?=some v->v.O7=true) (w:Wk):Tld S (ws.set i w):=fun c hc ht=>(D c hc ht).imp id fun ⟨j,v,a,b,d,e⟩=>by
 have ne:j≠i:=fun z=>by subst z;rw [hi v a] at b;cases b
 exact ⟨j,v,by rw [Ak (fun x=>ne x.symm)];exact a,b,d,e⟩
end
def Fk (S:Sh):Prop:=∀ (n:Nat) (p:Pg),S.pg[n]?=some p->0 < p.lv->1<=p.ks.length
section
variable {S S':Sh} {bg bg':Bg} {n f:Nat} {p q P:Pg} {w w':Wk} {r:Row} {a k:Int} {F:Eg}
theorem Fk.settle (K:Fk S) {w:Wk} (hn:S.pg[n]?=some p) (hl:P.lv=p.lv) (h1:0 < P.lv->1<=P.ks.length) (h3:S.O2 < P.ks.length->3<=P.ks.length):Fk (Qu S w n P).2.1:=by
 unfold Qu
 by_cases hr:P.ks.length<=S.O2
 ·rw [C0 hr]
  intro m q hm h0
  rcases QT hm with ⟨rfl,rfl,_⟩ | ⟨_,h⟩
  ·exact h1 h0
  ·exact K m q h h0
 ·rw [Cz hr]
  have l3:=h3 (by lia)
  intro m q hm h0
  rcases QT (xs:=S.pg++[QN P]) hm with ⟨rfl,rfl,_⟩ | ⟨_,h⟩
  ·show 1<=(P.ks.take (mid P)).length
   rw [A8];unfold mid;lia
  ·rcases Jh h with ⟨rfl,rfl⟩ | h
   ·show 1<=(P.ks.drop (Zo P)).length
    have h0:0 < P.lv:=h0
    rw [Bq];unfold Zo;rw [Cz (by lia)];unfold mid;lia
   ·exact K m q h h0
theorem Fk.step (K:Fk S) (T:Tree S bg) (hs:JO S w=some (r,S',w')):Fk S':=by
  have r2:=T.room2
  unfold JO at hs
  by_cases hw:w.O7=true
  . rw [C0 hw] at hs;cases hs;exact K
  rw [Cz hw] at hs
  cases hn:S.pg[w.O6.getD S.top]? with
  | none=>rw [hn] at hs;cases hs
  | some p =>
    simp only [hn] at hs
    by_cases hr:w.O6=none/\p.lv < w.O4
    . rw [C0 hr] at hs
      cases hk:w.Oz with
      | none=>rw [hk] at hs;cases hs
      | some k =>
        rw [hk] at hs;cases hs
        intro m q hm h0
        rcases Jh hm with ⟨rfl,rfl⟩ | h
        . exact Ae _
        . exact K m q h h0
    . rw [Cz hr] at hs
      by_cases hb:Jf p w.aim=true
      . rw [C0 hb] at hs
        cases hsd:p.sd with
        | none=>rw [hsd] at hs;cases hs
        | some s=>rw [hsd] at hs;cases hs;exact K
      . rw [Cz hb] at hs
        by_cases hd:w.O4 < p.lv
        . rw [C0 hd] at hs
          cases hq:p.ps[cLe p.ks w.aim]? with
          | none=>rw [hq] at hs;cases hs
          | some c=>rw [hq] at hs;cases hs;exact K
        . rw [Cz hd] at hs
          by_cases h0:0 < w.O4
          . rw [C0 h0] at hs
            cases hk:w.Oz with
            | none=>rw [hk] at hs;cases hs
            | some k =>
              rw [hk] at hs
              simp only [Option.some.injEq,Bp] at hs
              obtain ⟨rfl,rfl,rfl⟩:=hs
              exact Fk.settle (S:={ S with rd:=S.rd+1 }) K hn rfl (fun _=>by show 1<=(_++_::_:List Int).length;rw [Am,A9];lia) (fun h=>by
                have h:S.O2 < (Zn p w.aim k).ks.length:=h
                lia)
          . rw [Cz h0] at hs
            have hs:=Aj hs
            unfold Ja at hs
            cases hdd:w.O0 with
            | find k=>rw [hdd] at hs;cases hs;exact K
            | put k x =>
              rw [hdd] at hs
              dsimp only at hs
              simp only [Bp] at hs
              obtain ⟨rfl,rfl,rfl⟩:=hs
              exact Fk.settle (S:={ S with rd:=S.rd+1 }) K hn rfl (fun _=>by show 1<=(_++_::_:List Int).length;rw [Am,A9];lia) (fun h=>by
                have h:S.O2 < (QW p w.aim x).ks.length:=h
                lia)
            | cut k =>
              rw [hdd] at hs;dsimp only at hs;cases hs
              by_cases hq:(QY p w.aim).isSome=true
              . rw [C0 hq]
                intro m q hm h1
                rcases QT hm with ⟨rfl,rfl,_⟩ | ⟨_,h⟩
                . have:0 < p.lv:=h1
                  lia
                . exact K m q h h1
              . rw [Cz hq];exact K
            | stretch l h =>
              rw [hdd] at hs;dsimp only at hs
              cases hhi:p.hi with
              | none=>rw [hhi] at hs;cases hs;exact K
              | some x =>
                cases hsd:p.sd with
                | none=>rw [hhi,hsd] at hs;cases hs;exact K
                | some s =>
                  rw [hhi,hsd] at hs
                  dsimp only at hs
                  by_cases hx:h<=x
                  . rw [C0 hx] at hs;cases hs;exact K
                  . rw [Cz hx] at hs;cases hs;exact K
end
section
variable {S S':Sh} {bg bg':Bg} {n f:Nat} {p q P:Pg} {w w':Wk} {r:Row} {a k:Int} {F F':Eg} {R:Nat}
def Xe (S:Sh) (l:Nat):Nat:=((List.range S.pg.length).filter (lvB S fun x=>decide (x=l))).length
theorem VU {l:Nat} (h:S.pg[n]?=some p) (hl:p.lv=l):n∈(List.range S.pg.length).filter (lvB S fun x=>decide (x=l)) :=
 Bm.mpr ⟨Cc.mpr (QB h),by unfold lvB;rw [h];simpa using hl⟩
def kQ {l:Nat} (h:S.pg[n]?=some p) (hl:p.lv=l):1<=Xe S l:=List.length_pos_of_mem (VU h hl)
theorem Qhz {l:List Nat} {x y:Nat} (hx:x∈l) (hy:y∈l) (ne:x≠y):2<=l.length:=by
  cases l with
  | nil=>cases hx
  | cons a l =>
    cases l with
    | nil =>
      rw [Aq] at hx hy
      exact absurd (hx.trans hy.symm) ne
    | cons b l=>simp
theorem Qen (T:Tree S bg) (K:Fk S) (h:S.pg[n]?=some p) (hl:0 < p.lv):2<=Xe S (p.lv - 1):=by
 have k1:=K n p h hl
 have pl:=(T.page n p h).parts
 rw [Cz (by lia)] at pl
 obtain ⟨c,q,a1,a2,a3,a4⟩:=T.kid n p h hl 0 _ (Ab (by lia:0 < p.ps.length))
 obtain ⟨d,z,b1,b2,b3,b4⟩:=T.kid n p h hl 1 _ (Ab (by lia:1 < p.ps.length))
 refine Qhz (VU a2 (by lia)) (VU b2 (by lia)) fun e=>?_
 subst e
 have a4:bg c=bg n:=a4
 have b4:bg c=p.ks[0]?:=b4
 rw [Ab (by lia:0 < p.ks.length)] at b4
 have:=(T.page n p h).lowF hl _ (B0 (by lia:0 < p.ks.length)) _ (a4.symm.trans b4)
 lia
theorem VC (m:Nat):∀ (R:Nat),(∀ j,0 < j->j<=R->m<=Xe S (j - 1))->R * m<=((List.range S.pg.length).filter (lvB S fun x=>decide (x < R))).length
  | 0,_=>by simp
  | R+1,h=>by
    have ih:=VC m R fun j a b=>h j a (by lia)
    have:=h (R+1) (by lia) (Ae _)
    rw [Yh,Nat.succ_mul]
    unfold Xe at this
    simp only [Nat.add_sub_cancel] at this
    lia
theorem Tree.pages_two (T:Tree S bg) (K:Fk S) (hr:S.pg[S.top]?=some p) (hK:∀ j,0 < j->j<=p.lv->∃ (f:Nat) (q:Pg),S.pg[f]?=some q/\q.lv=j):2 * p.lv+1<=S.pg.length:=by
 obtain ⟨z,r1,r2⟩:=T.root
 rw [hr] at r1;cases r1
 have a:=x4 (S:=S) (L:=p.lv) r2
 rw [Yh] at a
 have b:=VC (S:=S) 2 p.lv fun j h1 h2=>by
  obtain ⟨f,q,x1,x2⟩:=hK j h1 h2
  subst x2
  exact Qen T K x1 h1
 have c:=kQ hr rfl
 unfold Xe at c
 lia
theorem Tree.pages_row (T:Tree S bg) (hr:S.pg[S.top]?=some p) (hK:∀ j,0 < j->j<=p.lv->∃ (f:Nat) (q:Pg),S.pg[f]?=some q/\q.lv=j):Xe S 0+p.lv<=S.pg.length:=by
  obtain ⟨z,r1,r2⟩:=T.root
  rw [hr] at r1;cases r1
  have a:=x4 (S:=S) (L:=p.lv) r2
  have key:∀ R,R<=p.lv->Xe S 0+R<=((List.range S.pg.length).filter (lvB S fun x=>decide (x < R+1))).length:=by
    intro R
    induction R with
    | zero=>intro _;rw [Yh,VD];unfold Xe;lia
    | succ R ih =>
      intro h
      have:=ih (by lia)
      obtain ⟨f,q,x1,x2⟩:=hK (R+1) (by lia) h
      have:=kQ x1 x2
      rw [Yh]
      unfold Xe at *
      lia
  have:=key p.lv (Ae _)
  lia
def Yj:Deed->Prop
 | .stretch l h=>l < h
 | _=>True
end
def Vj (L:Ec):Prop:=L.Pairwise (fun x y=>x.1 < y.1)
theorem qQ:∀ {L M:Ec},Vj L->Vj M->(∀ x,x∈L↔x∈M)->L=M
  | [],[],_,_,_=>rfl
  | [],y::M,_,_,h=>by have:=(h y).mpr (by simp);cases this
  | x::L,[],_,_,h=>by have:=(h x).mp (by simp);cases this
  | x::L,y::M,hL,hM,h=>by
    obtain ⟨a1,a2⟩:=Cf.mp hL
    obtain ⟨b1,b2⟩:=Cf.mp hM
    have e:x=y:=by
      have hx:=(h x).mp (by simp)
      have hy:=(h y).mpr (by simp)
      rcases Bj.mp hx with hx | hx
      . exact hx
      . rcases Bj.mp hy with hy | hy
        . exact hy.symm
        . have:=a1 y hy;have:=b1 x hx;lia
    subst e
    congr 1
    refine qQ a2 b2 fun z=>⟨fun hz=>?_,fun hz=>?_⟩
    . rcases Bj.mp ((h z).mp (Ax _ hz)) with e | hz'
      . subst e;have:=a1 z hz;lia
      . exact hz'
    . rcases Bj.mp ((h z).mpr (Ax _ hz)) with e | hz'
      . subst e;have:=b1 z hz;lia
      . exact hz'
def QbD (S:Sh) (n:Nat):List (Int×Int):=match S.pg[n]? with
 | some p=>prs p
 | none=>[]
def qY (S:Sh) (r:List Nat):List (Int×Int):=r.flatMap (QbD S)
def Zero (S:Sh) (bg:Bg):Prop:=bg 0=none/\∃ p,S.pg[0]?=some p/\p.lv=0
section
variable {S S':Sh} {bg bg':Bg} {F:Eg}
theorem Zero.grow (Z:Zero S bg) (g:Yz S bg S' bg'):Zero S' bg':=by
 obtain ⟨h1,p,h2,h3⟩:=Z
 obtain ⟨a,q,b,c⟩:=g.old 0 p h2
 exact ⟨a.trans h1,q,b,by lia⟩
theorem QcV (T:Tree S bg) (hT:TabIs S F) (Z:Zero S bg):∃ r,Chain S 0 r/\r.Nodup/\r.length<=S.pg.length/\(∀ m∈r,∃ q,S.pg[m]?=some q/\q.lv=0)/\Vj (qY S r)/\∀ k v,(k,v)∈qY S r↔F k=some v:=by
 obtain ⟨z1,p0,z2,z3⟩:=Z
 obtain ⟨r,c,nd,mem⟩:=Qhm T z2 z1
 have fc:=c.facts T p0 z2
 obtain ⟨f1,f2,f3,f4,f5⟩:=fc
 have lv0:∀ m∈r,∃ q,S.pg[m]?=some q/\q.lv=0:=fun m hm=>by
  obtain ⟨q,a,b⟩:=f1 m hm
  exact ⟨q,a,by lia⟩
 have len:r.length<=S.pg.length:=by
  rw [Qfq T nd mem]
  exact Bi (B8 _ _) (by rw [List.length_range];exact Ae _)
 refine ⟨r,c,nd,len,lv0,?_,fun k v=>?_⟩
 ·unfold Vj qY
  rw [List.pairwise_flatMap]
  refine ⟨fun m hm=>?_,?_⟩
  ·obtain ⟨q,a,b⟩:=lv0 m hm
   unfold QbD;rw [a]
   exact V8 (T.page m q a).sorted
  ·refine List.Pairwise.imp_of_mem (R:=fun a b=>ltO (bg a) (bg b)=true) (fun {a b} ha hb hlt x hx y hy=>?_) f3
   obtain ⟨q,a1,a2⟩:=lv0 a ha
   obtain ⟨u,b1,b2⟩:=lv0 b hb
   unfold QbD at hx hy
   rw [a1] at hx;rw [b1] at hy
   have kx:=xD (show (x.1,x.2)∈prs q from hx)
   have ky:=xD (show (y.1,y.2)∈prs u from hy)
   have ne:a≠b:=fun e=>by subst e;rw [jf] at hlt;cases hlt
   rcases T.dis a b q u a1 b1 (by lia) ne with ⟨h,v,e1,e2,e3⟩ | ⟨h,v,e1,e2,e3⟩
   ·have:=(T.page a q a1).high _ kx h e1
    have:=(T.page b u b1).low _ ky v e2
    lia
   ·exfalso
    have w:=VT ((T.page b u b1).wide h e1)
    have w2:=qi hlt w
    rw [e2] at w2
    simp only [ltO,decide_eq_true_eq] at w2
    lia
 ·unfold qY
  rw [hT k v,List.mem_flatMap]
  constructor
  ·rintro ⟨m,hm,h⟩
   obtain ⟨q,a,b⟩:=lv0 m hm
   unfold QbD at h;rw [a] at h
   exact ⟨m,q,a,b,h⟩
  ·rintro ⟨m,q,a,b,h⟩
   exact ⟨m,(mem m).mpr ⟨q,a,by lia⟩,by unfold QbD;rw [a];exact h⟩
end
section
variable {S S':Sh} {bg bg':Bg} {n f:Nat} {p q P:Pg} {w w':Wk} {r:Row} {a k:Int} {F F':Eg} {R:Nat}
theorem vX (g:Yz S bg S' bg') {n:Nat} (hn:n < S.pg.length) (fn:Nat->Bool):lvB S' fn n=lvB S fn n:=by
 obtain ⟨_,p',h1,h2⟩:=g.old n _ (Ab hn)
 unfold lvB
 rw [h1,Ab hn]
 show fn p'.lv=fn _
 rw [h2]
theorem Yr {α:Type} {f h:α->Bool}:∀ {l:List α},(∀ x∈l,f x=h x)->l.filter f=l.filter h
  | [],_=>rfl
  | x::l,e=>by
    rw [Ar,Ar,e x (by simp),Yr fun y hy=>e y (Ax _ hy)]
theorem x3 (g:Yz S bg S' bg') (h:S'.pg.length=S.pg.length) (l:Nat):Xe S' l=Xe S l:=by
 unfold Xe
 rw [h,Yr fun x hx=>vX g (Cc.mp hx) _]
theorem Kr (g:Yz S bg S' bg') (h:S'.pg.length=S.pg.length+1) (hq:S'.pg[S.pg.length]?=some q) (l:Nat):Xe S' l=Xe S l+if q.lv=l then 1 else 0:=by
 unfold Xe
 rw [h,List.range_succ,List.filter_append,Am,Yr fun x hx=>vX g (Cc.mp hx) _]
 have e:lvB S' (fun x=>decide (x=l)) S.pg.length=decide (q.lv=l):=by unfold lvB;rw [hq]
 congr 1
 rw [Ar,e]
 by_cases c:q.lv=l<;>simp [c]
theorem XJ:∀ {l m:List Nat},l.Nodup->(∀ x∈l,x∈m)->l.length<=m.length
  | [],m,_,_=>Bc _
  | x::l,m,h,hs=>by
    obtain ⟨h1,h2⟩:=Ck.mp h
    have hx:=hs x (by simp)
    have:=XJ (l:=l) (m:=m.erase x) h2 fun y hy=>by
      have ne:y≠x:=fun e=>h1 (e▸hy)
      exact (List.mem_erase_of_ne ne).mpr (hs y (Ax _ hy))
    rw [List.length_erase_of_mem hx] at this
    have:=List.length_pos_of_mem hx
    rw [A9];lia
def yE (S:Sh) (n j:Nat):Nat:=match S.pg[n]? with
 | some p=>(p.ps.getD j 0).toNat
 | none=>0
theorem GF (T:Tree S bg) (K:Fk S) (hn:S.pg[n]?=some p) (hl:0 < p.lv) {j:Nat} (hj:j < 2):∃ q,S.pg[yE S n j]?=some q/\q.lv+1=p.lv/\bg (yE S n j)=Jj (bg n) p.ks j:=by
 have pl:=(T.page n p hn).parts
 rw [Cz (by lia)] at pl
 have k1:=K n p hn hl
 obtain ⟨c,q,a1,a2,a3,a4⟩:=T.kid n p hn hl j _ (Ab (by lia:j < p.ps.length))
 have e:yE S n j=c:=by
  unfold yE;rw [hn]
  show (p.ps.getD j 0).toNat=c
  rw [Cg,Ab (by lia:j < p.ps.length),a1];rfl
 rw [e];exact ⟨q,a2,a3,a4⟩
theorem uA (T:Tree S bg) (K:Fk S) (hn:S.pg[n]?=some p) (hl:0 < p.lv) {j:Nat} (hj:j < 2):leBB (bg n) (Jj (bg n) p.ks j)/\∀ h v,p.hi=some h->Jj (bg n) p.ks j=some v->v < h:=by
  have ok:=T.page n p hn
  have k1:=K n p hn hl
  cases j with
  | zero=>exact ⟨leBB.refl _,fun h v h1 h2=>ok.wide h h1 v h2⟩
  | succ i =>
    have e:i=0:=by lia
    subst e
    have g:Jj (bg n) p.ks (0+1)=some p.ks[0]:=Ab (l:=p.ks) (i:=0) k1
    have m:p.ks[0]∈p.ks:=B0 _
    rw [g]
    exact ⟨fun v hv=>⟨_,rfl,ok.low _ m v hv⟩,fun h v h1 h2=>by cases h2;exact ok.high _ m h h1⟩
theorem Qcb (T:Tree S bg) (K:Fk S) (l:Nat):2 * Xe S (l+1)<=Xe S l:=by
 let L:=(List.range S.pg.length).filter (lvB S fun x=>decide (x=l+1))
 have inL:∀ n∈L,∃ p,S.pg[n]?=some p/\p.lv=l+1:=fun n hn=>by
  obtain ⟨h1,h2⟩:=Bm.mp hn
  have h1:=Cc.mp h1
  unfold lvB at h2
  rw [Ab h1] at h2
  exact ⟨_,Ab h1,by simpa using h2⟩
 have nd:L.Nodup:=List.nodup_range.filter _
 have key:∀ n m i j,n∈L->m∈L->i < 2->j < 2->yE S n i=yE S m j->n=m/\i=j:=fun n m i j hn hm hi hj e=>by
  obtain ⟨p,a1,a2⟩:=inL n hn
  obtain ⟨q,b1,b2⟩:=inL m hm
  obtain ⟨_,_,_,c3⟩:=GF T K a1 (by lia) hi
  obtain ⟨_,_,_,d3⟩:=GF T K b1 (by lia) hj
  rw [e,d3] at c3
  obtain ⟨x1,x2⟩:=uA T K a1 (by lia) hi
  obtain ⟨y1,y2⟩:=uA T K b1 (by lia) hj
  have nm:n=m:=by
   rcases Nat.decEq n m with h | h
   ·exfalso
    rcases T.dis n m p q a1 b1 (by lia) h with ⟨u,v,e1,e2,e3⟩ | ⟨u,v,e1,e2,e3⟩
    ·obtain ⟨z,z1,z2⟩:=y1 v e2
     have:=x2 u z e1 (c3.symm.trans z1);lia
    ·obtain ⟨z,z1,z2⟩:=x1 v e2
     have:=y2 u z e1 (c3.trans z1);lia
   ·exact h
  subst nm
  rw [a1] at b1;cases b1
  refine ⟨rfl,?_⟩
  have ok:=T.page n p a1
  have k1:=K n p a1 (by lia)
  have l0:=ok.lowF (by lia) p.ks[0] (B0 (by lia))
  have ne:bg n≠p.ks[0]?:=fun z=>by
   rw [Ab (by lia)] at z
   have:=l0 _ z;lia
  match i,j,hi,hj with
  | 0,0,_,_=>rfl
  | 1,1,_,_=>rfl
  | 0,1,_,_=>exact absurd c3.symm ne
  | 1,0,_,_=>exact absurd c3 ne
 let M:=L.flatMap fun n=>[yE S n 0,yE S n 1]
 have ndM:M.Nodup:=by
  show List.Pairwise (· ≠ ·) _
  rw [List.pairwise_flatMap]
  refine ⟨fun n hn=>?_,?_⟩
  ·refine Cf.mpr ⟨fun x hx=>?_,List.pairwise_singleton _ _⟩
   rw [Aq] at hx
   subst hx
   intro e
   have:=(key n n 0 1 hn hn (by lia) (by lia) e).2
   lia
  ·refine List.Pairwise.imp_of_mem (R:=(· ≠ ·)) (fun {a b} ha hb ne x hx y hy e=>?_) nd
   subst e
   simp only [Bj,Ca,or_false] at hx hy
   rcases hx with rfl | rfl<;>rcases hy with hy | hy
   ·exact ne (key a b 0 0 ha hb (by lia) (by lia) hy).1
   ·exact ne (key a b 0 1 ha hb (by lia) (by lia) hy).1
   ·exact ne (key a b 1 0 ha hb (by lia) (by lia) hy).1
   ·exact ne (key a b 1 1 ha hb (by lia) (by lia) hy).1
 have sub:∀ x∈M,x∈(List.range S.pg.length).filter (lvB S fun y=>decide (y=l)):=fun x hx=>by
  obtain ⟨n,hn,hx⟩:=List.mem_flatMap.mp hx
  obtain ⟨p,a1,a2⟩:=inL n hn
  simp only [Bj,Ca,or_false] at hx
  rcases hx with rfl | rfl
  ·obtain ⟨q,c1,c2,_⟩:=GF T K a1 (by lia) (show 0 < 2 by lia)
   exact VU c1 (by lia)
  ·obtain ⟨q,c1,c2,_⟩:=GF T K a1 (by lia) (show 1 < 2 by lia)
   exact VU c1 (by lia)
 have len:=XJ ndM sub
 have lm:M.length=2 * L.length:=by
  show (L.flatMap _).length=_
  generalize L=L'
  induction L' with
  | nil=>rfl
  | cons x t ih=>rw [List.flatMap_cons,Am,ih,A9];simp;lia
 unfold Xe
 show 2 * L.length<=_
 lia
theorem v8 (T:Tree S bg) (K:Fk S):S.pg.length<=2 * Xe S 0:=by
  obtain ⟨r,r1,r2⟩:=T.root
  have a:=x4 (S:=S) (L:=r.lv) r2
  have key:∀ k,((List.range S.pg.length).filter (lvB S fun x=>decide (x < k))).length+2 * Xe S k<=2 * Xe S 0:=by
    intro k
    induction k with
    | zero=>rw [VD];lia
    | succ k ih =>
      have:=Qcb T K k
      rw [Yh]
      unfold Xe at *
      lia
  have:=key (r.lv+1)
  lia
end
def lvA (S:Sh) (n:Nat):Nat:=match S.pg[n]? with
 | some p=>p.lv
 | none=>0
def vis (S:Sh) (w:Wk) (k:Nat):Option Nat:=match w.O6 with
 | some n=>if lvA S n=k then some n else if lvA S n < k then JV w.O3 k else none
 | none=>none
def ltV (bg:Bg) (v:Option Nat) (m:Nat):Bool:=match v with
 | some v=>ltO (bg v) (bg m)
 | none=>true
def Ct (S:Sh) (bg:Bg) (w:Wk) (m:Nat):Bool:=decide (w.O4<=lvA S m)&&ltV bg (vis S w (lvA S m)) m
def phi (S:Sh) (bg:Bg) (w:Wk):Nat:=((List.range S.pg.length).filter (Ct S bg w)).length+(lvA S S.top+2 - w.O4)
inductive US (S:Sh) (bg:Bg) (w:Wk) (S':Sh) (w':Wk):Prop
 | side {n s:Nat} {p q:Pg} (hp:w.O6=some n∨(w.O6=none/\n=S.top)) (hn:S.pg[n]?=some p) (hg:w.O4<=p.lv) (hs:S.pg[s]?=some q) (hl:q.lv=p.lv) (hb:ltO (bg n) (bg s)=true) (e1:S'.pg=S.pg) (e2:S'.top=S.top) (e3:w'.O4=w.O4) (e4:w'.O3=w.O3) (e5:w'.O6=some s) (e6:w'.O7=false):US S bg w S' w'
 | down {n c:Nat} {p q:Pg} (hp:w.O6=some n∨(w.O6=none/\n=S.top)) (hn:S.pg[n]?=some p) (hl:q.lv+1=p.lv) (hg:w.O4<=q.lv) (hc:S.pg[c]?=some q) (e1:S'.pg=S.pg) (e2:S'.top=S.top) (e3:w'.O4=w.O4) (e4:w'.O3=zP w.O3 p.lv n) (e5:w'.O6=some c) (e6:w'.O7=false):US S bg w S' w'
 | part {n:Nat} {p q:Pg} (hp:w.O6=some n∨(w.O6=none/\n=S.top)) (hn:S.pg[n]?=some p) (hg:w.O4=p.lv) (el:S'.pg.length=S.pg.length+1) (eq:S'.pg[S.pg.length]?=some q) (hq:q.lv=w.O4) (e2:S'.top=S.top) (e3:w'.O4=w.O4+1) (e4:w'.O3=w.O3) (e5:w'.O6=JV w.O3 (w.O4+1)) (e6:w'.O7=false):US S bg w S' w'
 | over (e6:w'.O7=true) (el:S'.pg.length=S.pg.length) (e2:S'.top=S.top):US S bg w S' w'
 | raised {p q:Pg} (e6:w'.O7=true) (hr:S.pg[S.top]?=some p) (el:S'.pg.length=S.pg.length+1) (e2:S'.top=S.pg.length) (eq:S'.pg[S.pg.length]?=some q) (hq:q.lv=p.lv+1):US S bg w S' w'
section
variable {S S':Sh} {bg bg':Bg} {n:Nat} {p q P:Pg} {w w' v:Wk} {r:Row}
theorem ZK (h:S.pg[n]?=some p):lvA S n=p.lv:=by unfold lvA;rw [h]
theorem yS (W0:w.O7=false) (hpl:w.O6=some n∨(w.O6=none/\n=S.top)) (hn:S.pg[n]?=some p) (hl:P.lv=p.lv) (hg:w.O4=p.lv) {w0:Wk} (g0:w0.O4=w.O4) (f0:w0.O3=w.O3) (d0:w0.O7=w.O7):US S bg w (Qu { S with rd:=S.rd+1 } w0 n P).2.1 (Qu { S with rd:=S.rd+1 } w0 n P).2.2:=by
 have ln:=QB hn
 unfold Qu
 by_cases hr:P.ks.length<=S.O2
 ·rw [C0 (show P.ks.length<=({ S with rd:=S.rd+1 }:Sh).O2 from hr)]
  exact .over rfl (by simp) rfl
 ·rw [Cz (show ¬ P.ks.length<=({ S with rd:=S.rd+1 }:Sh).O2 from hr)]
  refine .part (q:=QN P) hpl hn hg (by simp) ?_ (by show P.lv=_;lia) rfl (by show P.lv+1=_;lia) f0 ?_ (by show w0.O7=false;rw [d0,W0])
  ·show ((S.pg++[QN P]).set n (QZ P S.pg.length))[S.pg.length]?=_
   rw [Ak (by lia)];simp
  ·show JV w0.O3 (P.lv+1)=_
   rw [f0,hl,hg]
theorem K7 (T:Tree S bg) (W:WOk S bg w) (hw:w.O7=false) (hs:JO S w=some (r,S',w')):US S bg w S' w':=by
  obtain ⟨n,hn0,hpl⟩:∃ n,w.O6.getD S.top=n/\(w.O6=some n∨(w.O6=none/\n=S.top)):=by
    cases e:w.O6 with
    | none=>exact ⟨S.top,rfl,.inr ⟨rfl,rfl⟩⟩
    | some m=>exact ⟨m,rfl,.inl rfl⟩
  obtain ⟨p,hn⟩:∃ p,S.pg[n]?=some p:=by
    rcases hpl with hp | ⟨_,rfl⟩
    . obtain ⟨p,a,_⟩:=W.at_ n hp;exact ⟨p,a⟩
    . obtain ⟨p,a,_⟩:=T.root;exact ⟨p,a⟩
  have ln:=QB hn
  unfold JO at hs
  rw [Cz (by rw [hw];simp),hn0] at hs
  simp only [hn] at hs
  by_cases hr:w.O6=none/\p.lv < w.O4
  . rw [C0 hr] at hs
    obtain ⟨k,q,a1,a2,a3,a4⟩:=W.tell (by lia)
    simp only [a1] at hs
    cases hs
    have htop:n=S.top:=by
      rcases hpl with hp | ⟨_,e⟩
      . rw [hr.1] at hp;cases hp
      . exact e
    subst htop
    exact .raised (q:=⟨p.lv+1,[w.aim],[(S.top:Int),(k:Int)],none,none⟩) rfl hn (by simp) rfl (by simp) rfl
  . rw [Cz hr] at hs
    have hg:w.O4<=p.lv:=by
      rcases hpl with hp | ⟨hp,_⟩
      . obtain ⟨p',b1,b2,_⟩:=W.at_ n hp
        rw [hn] at b1;cases b1;exact b2
      . exact Co fun h=>hr ⟨hp,h⟩
    cases hb:Jf p w.aim with
    | true =>
      rw [hb,C0 rfl] at hs
      cases hsd:p.sd with
      | none=>rw [hsd] at hs;cases hs
      | some s =>
        rw [hsd] at hs;cases hs
        obtain ⟨x,q,a1,a2,a3,a4,a5⟩:=Vr T hn hsd
        exact .side hpl hn hg a2 a3 a5 rfl rfl rfl rfl rfl hw
    | false =>
      rw [hb,Cz (by simp)] at hs
      by_cases hd:w.O4 < p.lv
      . rw [C0 hd] at hs
        cases hq:p.ps[cLe p.ks w.aim]? with
        | none=>rw [hq] at hs;cases hs
        | some c =>
          rw [hq] at hs;cases hs
          obtain ⟨c',z,b1,b2,b3,_⟩:=T.kid _ p hn (by lia) _ _ hq
          subst b1
          exact .down hpl hn b3 (by lia) b2 rfl rfl rfl rfl (by simp [By]) hw
      . rw [Cz hd] at hs
        have hgl:w.O4=p.lv:=by lia
        by_cases h0:0 < w.O4
        . rw [C0 h0] at hs
          obtain ⟨k,q,a1,a2,a3,a4⟩:=W.tell h0
          simp only [a1] at hs
          simp only [Option.some.injEq,Bp] at hs
          obtain ⟨rfl,rfl,rfl⟩:=hs
          exact yS (P:=Zn p w.aim k) hw hpl hn rfl hgl rfl rfl rfl
        . rw [Cz h0] at hs
          have hs:=Aj hs
          unfold Ja at hs
          cases hdd:w.O0 with
          | find k=>rw [hdd] at hs;cases hs;exact .over rfl rfl rfl
          | put k x =>
            rw [hdd] at hs
            dsimp only at hs
            simp only [Bp] at hs
            obtain ⟨rfl,rfl,rfl⟩:=hs
            exact yS (P:=QW p w.aim x) hw hpl hn rfl hgl rfl rfl rfl
          | cut k =>
            rw [hdd] at hs;dsimp only at hs;cases hs
            by_cases hq:(QY p w.aim).isSome=true
            . rw [C0 hq];exact .over rfl (by simp) rfl
            . rw [Cz hq];exact .over rfl rfl rfl
          | stretch l h =>
            rw [hdd] at hs;dsimp only at hs
            rcases T.link n p hn with ⟨a,b⟩ | ⟨x,s,q,a,b,c,d,e⟩
            . simp only [a,b] at hs;cases hs;exact .over rfl rfl rfl
            . simp only [a,b] at hs
              by_cases hx:h<=x
              . rw [C0 hx] at hs;cases hs;exact .over rfl rfl rfl
              . rw [Cz hx] at hs;cases hs
                obtain ⟨x',q',a1,a2,a3,a4,a5⟩:=Vr T hn b
                exact .side hpl hn hg a2 a3 a5 rfl rfl rfl rfl rfl hw
theorem JI (g:Yz S bg S' bg') {n:Nat} (hn:n < S.pg.length):lvA S' n=lvA S n:=by
 obtain ⟨_,p',h1,h2⟩:=g.old n _ (Ab hn)
 rw [ZK h1,ZK (Ab hn),h2]
def XI (g:Yz S bg S' bg') {n:Nat} (hn:n < S.pg.length):bg' n=bg n:=(g.old n _ (Ab hn)).1
theorem jQ (T:Tree S bg):S.top < S.pg.length:=by obtain ⟨r,h,_⟩:=T.root;exact QB h
theorem xt (T:Tree S bg) {m:Nat} (h:m < S.pg.length):lvA S m<=lvA S S.top:=by
 obtain ⟨r,h1,h2⟩:=T.root
 rw [ZK h1,ZK (Ab h)];exact h2 m _ (Ab h)
theorem Qe2 (T:Tree S bg) (W:WOk S bg w) (K:US S bg w S' w') (g:Yz S bg S' bg') (he:w'.O7=false):phi S' bg' w'+1<=phi S bg w:=by
  cases K with
  | over e6=>rw [he] at e6;cases e6
  | raised e6=>rw [he] at e6;cases e6
  | @side n s p q hp hn hg hs hl hb e1 e2 e3 e4 e5 e6 =>
    have eL:∀ m,lvA S' m=lvA S m:=fun m=>by unfold lvA;rw [e1]
    have eB:∀ m,m < S.pg.length->bg' m=bg m:=fun m hm=>XI g hm
    have ls:=QB hs
    have key:((List.range S'.pg.length).filter (Ct S' bg' w')).length < ((List.range S.pg.length).filter (Ct S bg w)).length:=by
      rw [e1]
      refine xc _ _ _ (fun m hm h=>?_) ⟨s,Cc.mpr ls,?_,?_⟩
      . have lm:=Cc.mp hm
        unfold Ct at h ⊢
        rw [Bb] at h ⊢
        rw [eL,e3] at h
        refine ⟨h.1,?_⟩
        have h2:=h.2
        unfold vis at h2 ⊢
        rw [e5] at h2
        simp only [eL,ZK hs,e4] at h2
        rcases hp with hp | ⟨hp,rfl⟩
        . rw [hp]
          simp only [ZK hn]
          rw [hl] at h2
          by_cases c:p.lv=lvA S m
          . rw [C0 c] at h2 ⊢
            unfold ltV at h2 ⊢
            simp only [eB s ls,eB m lm] at h2
            exact qi hb h2
          . rw [Cz c] at h2 ⊢
            by_cases c2:p.lv < lvA S m
            . rw [C0 c2] at h2 ⊢
              unfold ltV at h2 ⊢
              cases hf:JV w.O3 (lvA S m) with
              | none=>rfl
              | some f =>
                rw [hf] at h2
                obtain ⟨z,z1,_⟩:=W.kept _ f hf
                simp only [eB f (QB z1),eB m lm] at h2
                exact h2
            . rw [Cz c2];rfl
        . rw [hp];rfl
      . unfold Ct vis
        rw [ZK hs,hl,C4 hg]
        rcases hp with hp | ⟨hp,rfl⟩
        . rw [hp];simp only [ZK hn,if_true];exact hb
        . rw [hp];rfl
      . unfold Ct vis
        rw [e5]
        simp [ltV,jf]
    unfold phi
    rw [eL,e2,e3];lia
  | @down n c p q hp hn hl hg hc e1 e2 e3 e4 e5 e6 =>
    have eL:∀ m,lvA S' m=lvA S m:=fun m=>by unfold lvA;rw [e1]
    have eB:∀ m,m < S.pg.length->bg' m=bg m:=fun m hm=>XI g hm
    have lc:=QB hc
    have key:((List.range S'.pg.length).filter (Ct S' bg' w')).length < ((List.range S.pg.length).filter (Ct S bg w)).length:=by
      rw [e1]
      refine xc _ _ _ (fun m hm h=>?_) ⟨c,Cc.mpr lc,?_,?_⟩
      . have lm:=Cc.mp hm
        unfold Ct at h ⊢
        rw [Bb] at h ⊢
        rw [eL,e3] at h
        refine ⟨h.1,?_⟩
        have h2:=h.2
        unfold vis at h2 ⊢
        rw [e5] at h2
        simp only [eL,ZK hc,e4] at h2
        rcases hp with hp | ⟨hp,rfl⟩
        . rw [hp]
          simp only [ZK hn]
          by_cases c1:p.lv=lvA S m
          . rw [C0 c1]
            rw [Cz (by lia),C0 (by lia),zx,C0 c1.symm] at h2
            unfold ltV at h2 ⊢
            simp only [eB n (QB hn),eB m lm] at h2
            exact h2
          . rw [Cz c1]
            by_cases c2:p.lv < lvA S m
            . rw [C0 c2]
              rw [Cz (by lia),C0 (by lia),zx,Cz (by lia)] at h2
              unfold ltV at h2 ⊢
              cases hf:JV w.O3 (lvA S m) with
              | none=>rfl
              | some f =>
                rw [hf] at h2
                obtain ⟨z,z1,_⟩:=W.kept _ f hf
                simp only [eB f (QB z1),eB m lm] at h2
                exact h2
            . rw [Cz c2];rfl
        . rw [hp];rfl
      . unfold Ct vis
        rw [ZK hc,C4 hg]
        rcases hp with hp | ⟨hp,rfl⟩
        . rw [hp];simp only [ZK hn];rw [Cz (by lia),Cz (by lia)];rfl
        . rw [hp];rfl
      . unfold Ct vis
        rw [e5]
        simp [ltV,jf]
    unfold phi
    rw [eL,e2,e3];lia
  | @part n p q hp hn hg el eq hq e2 e3 e4 e5 e6 =>
    have ln:=QB hn
    have key:((List.range S'.pg.length).filter (Ct S' bg' w')).length<=((List.range S.pg.length).filter (Ct S bg w)).length:=by
      rw [el,List.range_succ,List.filter_append,Am]
      have z:Ct S' bg' w' S.pg.length=false:=by
        unfold Ct
        rw [ZK eq,e3,hq,C6 (by lia)];rfl
      rw [Ar,z]
      simp only [Az,if_false,List.filter_nil,List.length_nil,Nat.add_zero]
      refine Gy _ _ _ fun m hm h=>?_
      have lm:=Cc.mp hm
      unfold Ct at h ⊢
      rw [Bb] at h ⊢
      rw [JI g lm,e3] at h
      have h1:w.O4+1<=lvA S m:=C5 h.1
      refine ⟨C4 (by lia),?_⟩
      have h2:=h.2
      rcases hp with hp | ⟨hp,rfl⟩
      . unfold vis at h2 ⊢
        rw [hp]
        rw [e5] at h2
        simp only [ZK hn]
        rw [Cz (by lia),C0 (by lia)]
        cases hf:JV w.O3 (lvA S m) with
        | none=>rfl
        | some f =>
          obtain ⟨f1,hf1⟩:=W.full n p hp hn _ f hf (w.O4+1) (by lia) (by lia)
          rw [hf1] at h2
          obtain ⟨z1,y1,y2⟩:=W.kept _ f1 hf1
          obtain ⟨z2,y3,y4⟩:=W.kept _ f hf
          simp only [JI g (QB y1),ZK y1,y2,e4] at h2
          by_cases c:w.O4+1=lvA S m
          . rw [C0 c] at h2
            rw [<- c,hf1] at hf;cases hf
            unfold ltV at h2 ⊢
            simp only [XI g (QB y1),XI g lm] at h2
            exact h2
          . rw [Cz c,C0 (by lia),hf] at h2
            unfold ltV at h2 ⊢
            simp only [XI g (QB y3),XI g lm] at h2
            exact h2
      . have:=xt T lm
        rw [ZK hn] at this;lia
    have ht:lvA S' S'.top=lvA S S.top:=by rw [e2];exact JI g (jQ T)
    have:=xt T ln
    rw [ZK hn] at this
    unfold phi
    rw [ht,e3];lia
theorem Qcc (V:WOk S bg v) (g:Yz S bg S' bg') {m:Nat} (lm:m < S.pg.length):Ct S' bg' v m=Ct S bg v m:=by
  unfold Ct
  rw [JI g lm]
  congr 1
  unfold vis
  cases hp:v.O6 with
  | none=>rfl
  | some n =>
    obtain ⟨p,h1,_⟩:=V.at_ n hp
    simp only [JI g (QB h1)]
    by_cases c:lvA S n=lvA S m
    . rw [C0 c];unfold ltV;simp only [XI g (QB h1),XI g lm]
    . rw [Cz c]
      by_cases c2:lvA S n < lvA S m
      . rw [C0 c2]
        unfold ltV
        cases hf:JV v.O3 (lvA S m) with
        | none=>rfl
        | some f =>
          obtain ⟨z,z1,_⟩:=V.kept _ f hf
          simp only [XI g (QB z1),XI g lm]
      . rw [Cz c2];rfl
theorem V5 (T:Tree S bg) (V:WOk S bg v) (g:Yz S bg S' bg') (el:S'.pg.length=S.pg.length) (e2:S'.top=S.top):phi S' bg' v=phi S bg v:=by
 unfold phi
 rw [el,e2,JI g (jQ T),Yr fun m hm=>Qcc V g (Cc.mp hm)]
theorem ua (T:Tree S bg) (V:WOk S bg v) (g:Yz S bg S' bg') (el:S'.pg.length=S.pg.length+1):phi S' bg' v<=phi S bg v+1+(lvA S' S'.top - lvA S S.top):=by
 unfold phi
 rw [el,List.range_succ,List.filter_append,Am,Yr (h:=Ct S bg v) fun m hm=>Qcc V g (Cc.mp hm)]
 have:(List.filter (Ct S' bg' v) [S.pg.length]).length<=1:=B8 _ _
 lia
theorem j6 (f:Wk->Bool):∀ (ws:List Wk) (i:Nat) (w w':Wk),ws[i]?=some w->((ws.set i w').filter f).length+(if f w=true then 1 else 0)=(ws.filter f).length+(if f w'=true then 1 else 0)
  | [],i,w,w',h=>by cases h
  | x::ws,0,w,w',h=>by
    cases h
    rw [List.set_cons_zero,Ar,Ar]
    by_cases a:f x=true<;>by_cases b:f w'=true<;>simp [a,b]<;>lia
  | x::ws,i+1,w,w',h=>by
    have:=j6 f ws i w w' h
    rw [List.set_cons_succ,Ar,Ar]
    by_cases a:f x=true<;>simp [a]<;>lia
def zf (w:Wk):Bool:=decide (w.O4=0)&&!w.O7
def lf (w:Wk):Bool:=!w.O7
def zc (ws:List Wk):Nat:=(ws.filter zf).length
def lc (ws:List Wk):Nat:=(ws.filter lf).length
def Lim (S:Sh) (bg:Bg) (ws:List Wk) (t:Nat->Nat):Prop:=∀ (i:Nat) (w:Wk),ws[i]?=some w->w.O7=false->phi S bg w+2 * (Xe S 0+zc ws)+lc ws<=S.pg.length+t i
theorem Qe3 (T:Tree S bg) (W:WOk S bg w):1<=phi S bg w:=by
 unfold phi
 have:w.O4<=lvA S S.top+1:=by
  rcases Nat.eq_zero_or_pos w.O4 with h | h
  ·lia
  ·obtain ⟨k,q,_,h2,h3,_⟩:=W.tell h
   have:=xt T (QB h2)
   rw [ZK h2] at this;lia
 lia
theorem Lim.pos {ws:List Wk} {t:Nat->Nat} {i:Nat} (L:Lim S bg ws t) (T:Tree S bg) (K:Fk S) (W:WOk S bg w) (hi:ws[i]?=some w) (hw:w.O7=false):1<=t i:=by
 have h1:=L i w hi hw
 have h2:=v8 T K
 have h3:=Qe3 T W
 lia
theorem Qhr {ws:List Wk} {i:Nat} (T:Tree S bg) (W:WOk S bg w) (hi:ws[i]?=some w) (hw:w.O7=false) (K:US S bg w S' w') (g:Yz S bg S' bg'):2 * (Xe S' 0+zc (ws.set i w'))+lc (ws.set i w')+(lvA S' S'.top - lvA S S.top)<=2 * (Xe S 0+zc ws)+lc ws/\lc ws<=lc (ws.set i w')+1:=by
  have cz:=j6 zf ws i w w' hi
  have cl:=j6 lf ws i w w' hi
  have lw:lf w=true:=by unfold lf;rw [hw];rfl
  rw [C0 lw] at cl
  have zw:zf w=decide (w.O4=0):=by unfold zf;rw [hw];simp
  refine ⟨?_,by unfold lc;lia⟩
  unfold zc lc
  cases K with
  | side hp hn hg hs hl hb e1 e2 e3 e4 e5 e6 =>
    have z:zf w'=zf w:=by unfold zf;rw [e3,e6,hw]
    have l:lf w'=true:=by unfold lf;rw [e6];rfl
    rw [z] at cz;rw [C0 l] at cl
    rw [x3 g (by rw [e1]),e2,JI g (jQ T)];lia
  | down hp hn hl hg hc e1 e2 e3 e4 e5 e6 =>
    have z:zf w'=zf w:=by unfold zf;rw [e3,e6,hw]
    have l:lf w'=true:=by unfold lf;rw [e6];rfl
    rw [z] at cz;rw [C0 l] at cl
    rw [x3 g (by rw [e1]),e2,JI g (jQ T)];lia
  | part hp hn hg el eq hq e2 e3 e4 e5 e6 =>
    have z:zf w'=false:=by unfold zf;rw [e3];simp
    have l:lf w'=true:=by unfold lf;rw [e6];rfl
    rw [z,zw] at cz;rw [C0 l] at cl
    rw [Kr g el eq,e2,JI g (jQ T),hq]
    by_cases c:w.O4=0
    . rw [C0 c];simp [c] at cz;lia
    . rw [Cz c];simp [c] at cz;lia
  | over e6 el e2 =>
    have z:zf w'=false:=by unfold zf;rw [e6];simp
    have l:lf w'=false:=by unfold lf;rw [e6];rfl
    rw [z] at cz;rw [l] at cl
    simp only [Az,if_false] at cz cl
    rw [x3 g el,e2,JI g (jQ T)];lia
  | raised e6 hr el e2 eq hq =>
    have z:zf w'=false:=by unfold zf;rw [e6];simp
    have l:lf w'=false:=by unfold lf;rw [e6];rfl
    rw [z] at cz;rw [l] at cl
    simp only [Az,if_false] at cz cl
    rw [Kr g el eq,Cz (by lia),e2,ZK eq,ZK hr];lia
theorem Qjr {ws:List Wk} {i:Nat} (T:Tree S bg) (W:WOk S bg w) (hi:ws[i]?=some w) (hw:w.O7=false) (K:US S bg w S' w') (g:Yz S bg S' bg'):Xe S' 0+zc (ws.set i w')<=Xe S 0+zc ws:=by
 have:=Qhr T W hi hw K g
 lia
theorem Lim.step {ws:List Wk} {t:Nat->Nat} {i:Nat} (L:Lim S bg ws t) (A:All S bg ws) (T:Tree S bg) (hi:ws[i]?=some w) (hw:w.O7=false) (hs:JO S w=some (r,S',w')) (g:Yz S bg S' bg'):Lim S' bg' (ws.set i w') (fun j=>if j=i then t i - 1 else t j):=by
 have W:=A.ok i w hi hw
 have K:=K7 T W hw hs
 have Qhr:=(Qhr T W hi hw K g).1
 have grows:S.pg.length<=S'.pg.length:=by
  cases K with
  | side hp hn hg hs hl hb e1=>rw [e1];exact Ae _
  | down hp hn hl hg hc e1=>rw [e1];exact Ae _
  | part hp hn hg el=>lia
  | over e6 el=>lia
  | raised e6 hr el=>lia
 have oth:∀ v,WOk S bg v->phi S' bg' v+S.pg.length<=phi S bg v+S'.pg.length+(lvA S' S'.top - lvA S S.top):=fun v V=>by
  cases K with
  | side hp hn hg hs hl hb e1 e2=>rw [V5 T V g (by rw [e1]) e2,e1];lia
  | down hp hn hl hg hc e1 e2=>rw [V5 T V g (by rw [e1]) e2,e1];lia
  | part hp hn hg el=>have:=ua T V g el;lia
  | over e6 el e2=>rw [V5 T V g el e2,el];lia
  | raised e6 hr el=>have:=ua T V g el;lia
 intro j u hj hu
 rcases QT hj with ⟨rfl,rfl,_⟩ | ⟨e,h⟩
 ·have h1:=L j w hi hw
  have h2:=Qe2 T W K g hu
  show _<=_+(if j=j then t j - 1 else t j)
  rw [C0 rfl];lia
 ·have h1:=L j u h hu
  have h2:=oth u (A.ok j u h hu)
  show _<=_+(if j=i then t i - 1 else t j)
  rw [Cz e];lia
def Qib (ws:List Wk):lc ws<=ws.length:=B8 _ _
def QiS (ws:List Wk):zc ws<=ws.length:=B8 _ _
theorem Lim.first (T:Tree S bg) (K:Fk S) (hK:∀ j,0 < j->j<=lvA S S.top->∃ (f:Nat) (q:Pg),S.pg[f]?=some q/\q.lv=j) (ws:List Wk):Lim S bg ws (fun _=>2 * S.pg.length+3 * ws.length+2):=fun i w hi hw=>by
 have h1:phi S bg w<=S.pg.length+(lvA S S.top+2):=by
  unfold phi
  have:=B8 (Ct S bg w) (List.range S.pg.length)
  rw [List.length_range] at this;lia
 obtain ⟨r,r1,r2⟩:=T.root
 rw [ZK r1] at h1 hK
 have h2:=T.pages_row r1 hK
 have h3:=Qib ws
 have h4:=QiS ws
 show _<=_+(2 * S.pg.length+3 * ws.length+2)
 lia
end
section
variable {S S':Sh} {bg bg':Bg} {n m:Nat} {p q P:Pg} {w w' v:Wk} {r:Row} {k:Int}
theorem Tree.levels (T:Tree S bg):∀ j,0 < j->j<=lvA S S.top->∃ (f:Nat) (q:Pg),S.pg[f]?=some q/\q.lv=j:=fun j _ hj=>by
 obtain ⟨r,r1,r2⟩:=T.root
 rw [ZK r1] at hj
 obtain ⟨L,h1,h2⟩:=vW T r.lv S.top r rfl r1 T.rbg
 obtain ⟨h3,h4⟩:=h1.get T r r1
 have hl:r.lv - j < L.length:=by lia
 obtain ⟨q,a,b,_⟩:=h4 (r.lv - j) L[r.lv - j] (Ab hl)
 exact ⟨_,q,a,by lia⟩
end
section
variable {S S':Sh} {bg bg':Bg} {w w':Wk} {r:Row}
theorem Qhw (T:Tree S bg):lvA S S.top<=S.pg.length:=by
 have h:∀ j,∃ f,j < lvA S S.top->f < S.pg.length/\lvA S f=j+1:=fun j=>by
  by_cases e:j < lvA S S.top
  ·obtain ⟨f,q,h1,h2⟩:=T.levels (j+1) (by lia) (by lia)
   exact ⟨f,fun _=>⟨QB h1,by rw [ZK h1,h2]⟩⟩
  ·exact ⟨0,fun x=>absurd x e⟩
 obtain ⟨g,hg⟩:=Classical.axiomOfChoice h
 have nd:((List.range (lvA S S.top)).map g).Nodup:=by
  rw [List.Nodup,List.pairwise_map]
  refine List.Pairwise.imp_of_mem (fun {a b} ha hb hab e=>?_) (List.nodup_range (n:=lvA S S.top))
  have h1:=(hg a (Cc.mp ha)).2
  have h2:=(hg b (Cc.mp hb)).2
  rw [e] at h1
  exact hab (by lia)
 have:=XJ (m:=List.range S.pg.length) nd fun x hx=>by
  obtain ⟨a,ha,rfl⟩:=Cv.mp hx
  exact Cc.mpr (hg a (Cc.mp ha)).1
 simpa using this
def FkOk (S:Sh) (w:Wk):Prop:=(w.O3.map (·.1)).Nodup/\∀ x∈w.O3,x.1<=lvA S S.top
theorem Qfi {fs:List (Nat×Nat)} {k v m:Nat} (h1:(fs.map (·.1)).Nodup) (h2:∀ x∈fs,x.1<=m) (hk:k<=m):((zP fs k v).map (·.1)).Nodup/\∀ x∈zP fs k v,x.1<=m:=by
 unfold zP
 split
 ·have e:(fs.map fun p=>if p.1=k then (p.1,v) else p).map (·.1)=fs.map (·.1):=by
   rw [List.map_map]
   apply List.map_congr_left
   intro a _
   show (if a.1=k then (a.1,v) else a).1=a.1
   split<;>rfl
  refine ⟨by rw [e];exact h1,fun x hx=>?_⟩
  obtain ⟨a,ha,rfl⟩:=Cv.mp hx
  have:=h2 a ha
  split<;>exact this
 ·rename_i hn
  refine ⟨?_,fun x hx=>?_⟩
  ·rw [List.map_append,List.nodup_append]
   refine ⟨h1,by simp,fun a ha b hb e=>?_⟩
   simp at hb
   subst hb;subst e
   obtain ⟨p,hp,hk'⟩:=Cv.mp ha
   exact hn (List.any_eq_true.mpr ⟨p,hp,C4 hk'⟩)
  ·rcases Ah.mp hx with h | h
   ·exact h2 x h
   ·simp at h;subst h;exact hk
theorem xM (S:Sh) (w:Wk) (n:Nat) (p:Pg):(Qu S w n p).2.2.O3=w.O3:=by
 unfold Qu;split<;>rfl
theorem gA (S:Sh) (w:Wk) (n:Nat) (p:Pg):(Ja S w n p).2.2.O3=w.O3:=by
  unfold Ja
  cases w.O0 with
  | find k=>rfl
  | put k x=>exact xM ..
  | cut k=>rfl
  | stretch l h =>
    dsimp only
    split
    . split<;>rfl
    . rfl
theorem kn (h:JO S w=some (r,S',w')):w'.O3=w.O3∨∃ n p,S.pg[n]?=some p/\w'.O3=zP w.O3 p.lv n:=by
 unfold JO at h
 split at h
 ·cases h;exact .inl rfl
 ·split at h
  ·cases h
  ·rename_i p hp
   split at h
   ·split at h
    ·cases h
    ·cases h;exact .inl rfl
   ·split at h
    ·split at h
     ·cases h
     ·cases h;exact .inl rfl
    ·split at h
     ·split at h
      ·cases h
      ·cases h;exact .inr ⟨_,p,hp,rfl⟩
     ·split at h
      ·split at h
       ·cases h
       ·cases h;exact .inl (xM ..)
      ·have e:=Aj h
       have e2:w'=(Ja { S with rd:=S.rd+1 } w (w.O6.getD S.top) p).2.2:=by rw [e]
       rw [e2];exact .inl (gA ..)
theorem uC (T:Tree S bg) (T':Tree S' bg') (g:Yz S bg S' bg'):lvA S S.top<=lvA S' S'.top:=by
 have h:=jQ T
 rw [<- JI g h]
 obtain ⟨_,p',h',_⟩:=g.old S.top _ (Ab h)
 exact xt T' (QB h')
def FkOk.grow (F:FkOk S w) (T:Tree S bg) (T':Tree S' bg') (g:Yz S bg S' bg'):FkOk S' w:=⟨F.1,fun x hx=>Bi (F.2 x hx) (uC T T' g)⟩
theorem FkOk.step (F:FkOk S w) (T:Tree S bg) (T':Tree S' bg') (g:Yz S bg S' bg') (h:JO S w=some (r,S',w')):FkOk S' w':=by
 have tg:=uC T T' g
 rcases kn h with e | ⟨n,p,hp,e⟩
 ·exact ⟨by rw [e];exact F.1,fun x hx=>by rw [e] at hx;exact Bi (F.2 x hx) tg⟩
 ·have hl:p.lv<=lvA S S.top:=by
   rw [<- ZK hp];exact xt T (QB hp)
  obtain ⟨a,b⟩:=Qfi (k:=p.lv) (v:=n) F.1 F.2 hl
  exact ⟨by rw [e];exact a,fun x hx=>by rw [e] at hx;exact Bi (b x hx) tg⟩
theorem FkOk.len (F:FkOk S w) (T:Tree S bg):w.O3.length<=S.pg.length+1:=by
 have h:=XJ (m:=List.range (lvA S S.top+1)) F.1 fun x hx=>by
  obtain ⟨a,ha,rfl⟩:=Cv.mp hx
  have:=F.2 a ha
  exact Cc.mpr (by lia)
 have:=Qhw T
 simp at h
 lia
theorem FkOk.fresh (d:Deed):FkOk S (fresh d):=⟨List.Pairwise.nil,fun x hx=>by cases hx⟩
end
structure St where
 S:Sh
 ws:List Wk
 ns:List Nat
 tk:Nat
inductive Out where
 | rest
 | take (n:Nat)
 | did (n:Nat) (r:Row)
def mv (ds:List Deed) (s:St) (i:Nat):Option (Out×St):=match s.ws[i]? with
  | none=>none
  | some w =>
    if w.O7=true then
      match ds[s.tk]? with
      | none=>some (.rest,s)
      | some d=>some (.take s.tk,{ s with ws:=s.ws.set i (fresh d),ns:=s.ns.set i s.tk,tk:=s.tk+1 })
    else
      match JO s.S w with
      | none=>none
      | some (r,S',w')=>some (.did (s.ns.getD i 0) r,{ s with S:=S',ws:=s.ws.set i w' })
def still (ds:List Deed) (s:St):Bool:=decide (s.tk=ds.length)&&s.ws.all (·.O7)
structure StOk (ds:List Deed) (s:St) (bg:Bg) (b:Nat->Nat):Prop where
 T:Tree s.S bg
 A:All s.S bg s.ws
 K:Fk s.S
 D:Tld s.S s.ws
 rm:s.S.O2<=5
 len:s.ns.length=s.ws.length
 tk:s.tk<=ds.length
 cn:Xe s.S 0+zc s.ws<=1+s.tk
 fk:∀ (i:Nat) (w:Wk),s.ws[i]?=some w->w.O7=false->FkOk s.S w
 pr:∀ (i:Nat) (w:Wk),s.ws[i]?=some w->w.O7=false->w.O5.length<=5 * b i
def upB (b:Nat->Nat) (i:Nat):Nat->Nat:=fun j=>if j=i then b i+1 else b j
def dnT (t:Nat->Nat) (i:Nat):Nat->Nat:=fun j=>if j=i then t i - 1 else t j
section
variable {ds:List Deed} {s:St} {bg:Bg} {b:Nat->Nat}
theorem StOk.mono (Y:StOk ds s bg b) {b':Nat->Nat} (h:∀ i,i < s.ws.length->b i<=b' i):StOk ds s bg b':=⟨Y.T,Y.A,Y.K,Y.D,Y.rm,Y.len,Y.tk,Y.cn,Y.fk,fun i w hi hw=>by
 have:=Y.pr i w hi hw
 have:=h i (Ac.mp hi).1
 lia⟩
theorem StOk.pages (Y:StOk ds s bg b):s.S.pg.length<=2 * (1+s.tk):=by
 have h1:=v8 Y.T Y.K
 have h2:=Y.cn
 lia
theorem StOk.more (Y:StOk ds s bg b) (d:Deed):StOk (ds++[d]) s bg b:=⟨Y.T,Y.A,Y.K,Y.D,Y.rm,Y.len,by have:=Y.tk;simp;lia,Y.cn,Y.fk,Y.pr⟩
theorem K8 (h:still ds s=true):s.tk=ds.length/\∀ (i:Nat) (w:Wk),s.ws[i]?=some w->w.O7=true:=by
 unfold still at h
 simp only [Bb,decide_eq_true_eq,List.all_eq_true] at h
 exact ⟨h.1,fun i w hi=>h.2 w (Aw hi)⟩
theorem StOk.anew (Y:StOk ds s bg b) (h:still ds s=true) (b':Nat->Nat):StOk ds s bg b':=⟨Y.T,Y.A,Y.K,Y.D,Y.rm,Y.len,Y.tk,Y.cn,Y.fk,fun i w hi hw=>by rw [(K8 h).2 i w hi] at hw;cases hw⟩
theorem Qc7 (Y:StOk ds s bg b) {i:Nat} (hi:i < s.ws.length):∃ o s' bg',mv ds s i=some (o,s')/\StOk ds s' bg' (upB b i)/\s'.ws.length=s.ws.length/\s.tk<=s'.tk /\
    (s.tk < s'.tk∨((∀ t,Lim s.S bg s.ws t->Lim s'.S bg' s'.ws (dnT t i))/\¬ (s.ws[i].O7=true/\s.tk < ds.length))):=by
  have hw:=Ab hi
  generalize hwe:s.ws[i]=w at hw
  unfold mv
  rw [hw]
  dsimp only
  cases he:w.O7 with
  | true =>
    rw [C0 rfl]
    cases hd:ds[s.tk]? with
    | none =>
      have le:ds.length<=s.tk:=by simpa using hd
      refine ⟨_,s,bg,rfl,Y.mono fun j _=>by unfold upB;split<;>first | lia | (subst_vars;lia),rfl,Ae _,.inr ⟨fun t L j u hj hu=>?_,fun h=>by lia⟩⟩
      have ne:j≠i:=fun e=>by subst e;rw [hw] at hj;cases hj;rw [he] at hu;cases hu
      unfold dnT;rw [Cz ne];exact L j u hj hu
    | some d =>
      have lt:s.tk < ds.length:=(Ac.mp hd).1
      have cz:=j6 zf s.ws i w (fresh d) hw
      have cn:=Y.cn
      have z1:∀ c:Bool,(if c=true then 1 else 0)<=1:=fun c=>by cases c<;>simp
      have z2:=z1 (zf (fresh d))
      refine ⟨_,_,bg,rfl,⟨Y.T,Y.A.put rfl rfl rfl,Y.K,Y.D.put (fun v hv=>by rw [hw] at hv;cases hv;exact he) _,Y.rm,by simp [Y.len],by show s.tk+1<=_;lia,?_,fun j u hj hu=>?_,fun j u hj hu=>?_⟩,by simp,by show s.tk<=s.tk+1;lia,.inl (by show s.tk < s.tk+1;lia)⟩
      . show Xe s.S 0+zc (s.ws.set i (fresh d))<=1+(s.tk+1)
        unfold zc at cn ⊢;lia
      . rcases QT hj with ⟨rfl,e,_⟩ | ⟨ne,hj⟩
        . rw [e];exact FkOk.fresh d
        . exact Y.fk j u hj hu
      . rcases QT hj with ⟨rfl,e,_⟩ | ⟨ne,hj⟩
        . rw [e];exact Bc _
        . have:=Y.pr j u hj hu
          unfold upB;rw [Cz ne];exact this
  | false =>
    rw [Cz (by simp)]
    have W:=Y.A.ok i w hw he
    obtain ⟨r,S2,v2,bg2,es,st⟩:=QaM Y.T W he (fun g c hc=>Y.A.unt i w c hw he g hc)
    rw [es]
    have rm:=Y.rm
    have sz:=ko (m:=5) (fun m p hm=>by have:=(Y.T.page m p hm).few;lia) es
    have kd:=K7 Y.T W he es
    have zs:=Qjr Y.T W hw he kd st.grow
    have li:=hi
    refine ⟨_,_,bg2,rfl,⟨st.tree,Y.A.step hw he st,Y.K.step Y.T es,Y.D.step Y.T W hw he es,by show S2.O2<=5;rw [st.O2];exact rm,by simp [Y.len],Y.tk,Bi zs Y.cn,fun j u hj hu=>?_,fun j u hj hu=>?_⟩,by simp,Ae _,.inr ⟨fun t L=>L.step Y.A Y.T hw he es st.grow,fun h=>by cases h.1⟩⟩
    . rcases QT hj with ⟨rfl,e,_⟩ | ⟨ne,hj⟩
      . rw [e];exact (Y.fk j w hw he).step Y.T st.tree st.grow es
      . exact (Y.fk j u hj hu).grow Y.T st.tree st.grow
    . rcases QT hj with ⟨rfl,e,_⟩ | ⟨ne,hj⟩
      . have:=Y.pr j w hw he
        rw [e];unfold upB;rw [C0 rfl];lia
      . have:=Y.pr j u hj hu
        unfold upB;rw [Cz ne];exact this
inductive Run (ds:List Deed) (H K:Nat):Nat->St->List Out->St->Prop
 | nil (h:Nat) (s:St):Run ds H K h s [] s
 | cons {h:Nat} {s s1 s2:St} {o:Out} {os:List Out}:still ds s=false->h < s.ws.length->(∃ bg b,StOk ds s bg b/\∀ i,b i<=K)->mv ds s h=some (o,s1)->Run ds H K ((h+1) % H) s1 os s2->Run ds H K h s (o::os) s2
theorem Run.append {H K h:Nat} {os o2:List Out} (r:Run ds H K h s os s1) (hh:h < H):Run ds H K ((h+os.length) % H) s1 o2 s2->Run ds H K h s (os++o2) s2:=by
  induction r with
  | nil h s=>intro q;rw [List.length_nil,Nat.add_zero,Nat.mod_eq_of_lt hh] at q;exact q
  | @cons h s s1 _ o os a a2 a3 c _ ih =>
    intro q
    refine .cons a a2 a3 c (ih (Nat.mod_lt _ (by lia)) ?_)
    rw [Nat.mod_add_mod,show h+1+os.length=h+(o::os).length by simp;lia]
    exact q
theorem turn {H K B:Nat} (hB:B+1<=K):∀ (k h:Nat) (s:St) (bg:Bg),h+k=H->s.ws.length=H->StOk ds s bg (fun i=>if i < h then B+1 else B) ->
    ∃ os s' bg',Run ds H K h s os s'/\os.length<=k/\s'.ws.length=H/\StOk ds s' bg' (fun _=>B+1)/\s.tk<=s'.tk/\(still ds s'=true∨(os.length=k/\(s.tk < s'.tk∨((∀ T,Lim s.S bg s.ws (fun i=>if i < h then T - 1 else T)->Lim s'.S bg' s'.ws (fun _=>T - 1))/\(0 < k->¬ (∃ w,s.ws[h]?=some w/\w.O7=true/\s.tk < ds.length))))))
  | 0,h,s,bg,e,l,Y=>⟨[],s,bg,.nil _ _,Ae _,l,Y.mono fun i hi=>by rw [C0 (by lia)];lia,Ae _,.inr ⟨rfl,.inr ⟨fun T L i w hi hw=>by
      have:=L i w hi hw
      have li:=(Ac.mp hi).1
      dsimp only at this ⊢
      rw [C0 (by lia)] at this
      exact this,fun h=>absurd h (by lia)⟩⟩⟩
  | k+1,h,s,bg,e,l,Y=>by
    cases hs:still ds s with
    | true=>exact ⟨[],s,bg,.nil _ _,Bc _,l,Y.anew hs _,Ae _,.inl hs⟩
    | false =>
      obtain ⟨o,s1,bg1,e1,Y1,l1,t1,c1⟩:=Qc7 Y (i:=h) (by lia)
      obtain ⟨os,s2,bg2,R,ln,l2,Y2,t2,c2⟩:=turn (H:=H) (B:=B) hB k (h+1) s1 bg1 (by lia) (by lia) (Y1.mono fun i _=>by
        unfold upB
        show (if i=h then (if h < h then B+1 else B)+1 else if i < h then B+1 else B)<=if i < h+1 then B+1 else B
        rw [Cz (Cm h)]
        by_cases a:i=h
        . rw [C0 a,C0 (by lia)];lia
        . rw [Cz a]
          by_cases c:i < h
          . rw [C0 c,C0 (by lia)];lia
          . rw [Cz c,Cz (by lia)];lia)
      have R':Run ds H K ((h+1) % H) s1 os s2:=by
        by_cases hk:k=0
        . have:os=[]:=by cases os with
            | nil=>rfl
            | cons _ _=>simp at ln;lia
          subst this
          cases R
          exact .nil _ _
        . rw [Nat.mod_eq_of_lt (by lia)];exact R
      refine ⟨o::os,s2,bg2,.cons hs (by lia) ⟨bg,_,Y,fun i=>by show (if i < h then B+1 else B)<=K;split<;>lia⟩ e1 R',by simp;lia,l2,Y2,Bi t1 t2,?_⟩
      rcases c2 with c2 | ⟨c2,c3⟩
      . exact .inl c2
      . refine .inr ⟨by simp [c2],?_⟩
        rcases c1 with c1 | ⟨c1,c4⟩
        . exact .inl (by lia)
        . rcases c3 with c3 | ⟨c3,_⟩
          . exact .inl (by lia)
          . refine .inr ⟨fun T L=>c3 T fun i w hi hw=>?_,fun _ ⟨w,hw,he,ht⟩=>c4 ⟨?_,ht⟩⟩
            . have q:=c1 _ L i w hi hw
              unfold dnT at q
              dsimp only at q ⊢
              by_cases a:i=h
              . subst a
                rw [C0 rfl,Cz (Cm _)] at q
                rw [C0 (Cq _)];exact q
              . rw [Cz a] at q
                by_cases c:i < h
                . rw [C0 c] at q;rw [C0 (by lia)];exact q
                . rw [Cz c] at q;rw [Cz (by lia)];exact q
            . have:s.ws[h]=w:=by
                have hl:h < s.ws.length:=by lia
                rw [Ab hl] at hw
                exact Aj hw
              rw [this];exact he
theorem Qfr {H K C:Nat} (hH:0 < H) (hC:2 * (2 * (1+ds.length))+3 * H+2<=C):∀ (M T B:Nat) (s:St) (bg:Bg),s.ws.length=H->StOk ds s bg (fun _=>B)->Lim s.S bg s.ws (fun _=>T)->(ds.length - s.tk) * (C+1)+T<=M->B+M+1<=K ->
    ∃ os s' bg',Run ds H K 0 s os s'/\still ds s'=true/\os.length<=H * M/\s'.ws.length=H/\StOk ds s' bg' (fun _=>0)
  | M,T,B,s,bg,l,Y,L,hM,hK=>by
    cases hs:still ds s with
    | true=>exact ⟨[],s,bg,.nil _ _,hs,Bc _,l,Y.anew hs _⟩
    | false =>
      obtain ⟨os,s1,bg1,R,ln,l1,Y1,t1,c⟩:=turn (H:=H) (B:=B) (K:=K) (by lia) H 0 s bg (by lia) l (Y.mono fun i _=>by rw [Cz (Nat.not_lt_zero _)];lia)
      have tk:=Y.tk
      have tk1:=Y1.tk
      have w0:s.tk < ds.length∨1<=T:=by
        by_cases a:s.tk < ds.length
        . exact .inl a
        . refine .inr (Nat.pos_of_ne_zero fun h0=>?_)
          have al:s.ws.all (·.O7)=true:=by
            rw [List.all_eq_true]
            intro w hw
            obtain ⟨i,hi⟩:=List.getElem?_of_mem hw
            cases he:w.O7 with
            | true=>rfl
            | false =>
              have:=L.pos Y.T Y.K (Y.A.ok i w hi he) hi he
              lia
          unfold still at hs
          rw [al,Bool.and_true,decide_eq_false_iff_not] at hs
          exact hs (by lia)
      have M1:1<=M:=by
        rcases w0 with a | a
        . have:1 * (C+1)<=(ds.length - s.tk) * (C+1):=Nat.mul_le_mul_right _ (by lia)
          lia
        . lia
      rcases c with c | ⟨c,d⟩
      . refine ⟨os,s1,bg1,R,c,?_,l1,Y1.anew c _⟩
        have:H * 1<=H * M:=Nat.mul_le_mul_left _ M1
        lia
      . have go:∀ T',Lim s1.S bg1 s1.ws (fun _=>T')->(ds.length - s1.tk) * (C+1)+T'<=M - 1->∃ os s' bg',Run ds H K 0 s os s'/\still ds s'=true/\os.length<=H * M/\s'.ws.length=H/\StOk ds s' bg' (fun _=>0):=fun T' L' hM'=>by
          obtain ⟨o2,s2,bg2,R2,q2,n2,l2,Y2⟩:=Qfr (K:=K) hH hC (M - 1) T' (B+1) s1 bg1 l1 Y1 L' hM' (by have:=M1;lia)
          refine ⟨os++o2,s2,bg2,R.append hH (by rw [Nat.zero_add,c,Nat.mod_self];exact R2),q2,?_,l2,Y2⟩
          have:H * M=H * (M - 1)+H:=by
            obtain ⟨m,rfl⟩:∃ m,M=m+1:=⟨M - 1,by lia⟩
            rw [Nat.add_sub_cancel,Nat.mul_succ]
          rw [Am];lia
        rcases d with d | ⟨d,d2⟩
        . have pg:=Y1.pages
          refine go C (fun i w hi hw=>?_) ?_
          . have:=Lim.first Y1.T Y1.K Y1.T.levels s1.ws i w hi hw
            dsimp only at this ⊢
            rw [l1] at this
            lia
          . have e:(ds.length - s.tk) * (C+1)=(ds.length - s.tk - 1) * (C+1)+(C+1):=by
              obtain ⟨m,hm⟩:∃ m,ds.length - s.tk=m+1:=⟨ds.length - s.tk - 1,by lia⟩
              rw [hm,Nat.add_sub_cancel,Nat.succ_mul]
            have f:(ds.length - s1.tk) * (C+1)<=(ds.length - s.tk - 1) * (C+1):=Nat.mul_le_mul_right _ (by lia)
            lia
        . by_cases e:s1.tk=s.tk
          . have T1:1<=T:=by
              rcases w0 with a | a
              . refine Nat.pos_of_ne_zero fun h0=>?_
                have hl:0 < s.ws.length:=by lia
                cases he:s.ws[0].O7 with
                | true=>exact d2 hH ⟨_,Ab hl,he,a⟩
                | false =>
                  have:=L.pos Y.T Y.K (Y.A.ok 0 _ (Ab hl) he) (Ab hl) he
                  lia
              . exact a
            refine go (T - 1) (d T (by simpa using L)) ?_
            rw [e];lia
          . have pg:=Y1.pages
            refine go C (fun i w hi hw=>?_) ?_
            . have:=Lim.first Y1.T Y1.K Y1.T.levels s1.ws i w hi hw
              dsimp only at this ⊢
              rw [l1] at this
              lia
            . have e:(ds.length - s.tk) * (C+1)=(ds.length - s.tk - 1) * (C+1)+(C+1):=by
                obtain ⟨m,hm⟩:∃ m,ds.length - s.tk=m+1:=⟨ds.length - s.tk - 1,by lia⟩
                rw [hm,Nat.add_sub_cancel,Nat.succ_mul]
              have f:(ds.length - s1.tk) * (C+1)<=(ds.length - s.tk - 1) * (C+1):=Nat.mul_le_mul_right _ (by lia)
              lia
  termination_by M=>M
end
def Qgb:Deed->Int
 | .put k _=>k
 | _=>0
structure Nm (ds:List Deed) (s:St) (bg:Bg) (F:Eg) (M:Nat->Option Int):Prop where
 T:Tree s.S bg
 A:All s.S bg s.ws
 Z:Zero s.S bg
 tb:TabIs s.S F
 ky:∀ k v,F k=some v->∃ d∈ds,Qgb d=k
 lv:∀ (i:Nat) (v:Wk),s.ws[i]?=some v->v.O7=false->Aim s.S bg v/\ds[s.ns.getD i 0]?=some v.O0/\s.ns.getD i 0 < s.tk/\∀ l h,v.O0=.stretch l h->v.O4=0/\(M (s.ns.getD i 0)).getD l=v.aim
 un:∀ (i j:Nat) (v u:Wk),i≠j->s.ws[i]?=some v->v.O7=false->s.ws[j]?=some u->u.O7=false->s.ns.getD i 0≠s.ns.getD j 0
 nw:∀ n,s.tk<=n->M n=none
def Qef (M:Nat->Option Int) (n:Nat):Row->Nat->Option Int
 | .read _ _ (some (_,x))=>fun j=>if j=n then some x else M j
 | _=>M
def Fit (F F':Eg) (a:Int->Int) (d:Deed):Row->Prop
 | .non=>False
 | .found _ x=>∃ k,d=.find k/\x=F k/\F'=F
 | .put _ x _=>∃ k y,d=.put k y/\x=F k/\F'=uD F k y
 | .cut _ x=>∃ k,d=.cut k/\x=F k/\F'=Kk F k
 | .read _ ps none=>∃ l h,d=.stretch l h/\F'=F/\Rds F (a l) h ps
 | .read _ ps (some (_,x))=>∃ l h,d=.stretch l h/\F'=F/\a l < x/\x < h/\Rds F (a l) x ps
 | _=>F'=F
inductive uP (ds:List Deed) (F:Eg) (M:Nat->Option Int):Out->(Eg)->(Nat->Option Int)->Prop
 | rest:uP ds F M .rest F M
 | take (n:Nat):uP ds F M (.take n) F M
 | did {n:Nat} {r:Row} {d:Deed} {F':Eg}:ds[n]?=some d->Fit F F' (fun l=>(M n).getD l) d r->uP ds F M (.did n r) F' (Qef M n r)
theorem kK {M:Nat->Option Int} {n j:Nat} (h:j≠n) (r:Row):Qef M n r j=M j:=by
  cases r with
  | read a ps t=>cases t with
    | none=>rfl
    | some y=>exact Cz h
  | _=>rfl
theorem Did.fit {F F':Eg} {w w':Wk} {r:Row} {a:Int->Int} (h:Did F F' w w' r) (ha:∀ l h,w.O0=.stretch l h->a l=w.aim):Fit F F' a w.O0 r:=by
  cases r with
  | non=>exact h.elim
  | side _ _=>exact h.1
  | down _ _=>exact h.1
  | told _ _=>exact h.2.1
  | raised _ _=>exact h.2.1
  | found _ x=>obtain ⟨k,h1,h2,h3,_⟩:=h;exact ⟨k,h1,h2,h3⟩
  | cut _ x=>obtain ⟨k,h1,h2,h3,_⟩:=h;exact ⟨k,h1,h2,h3⟩
  | put _ x _=>obtain ⟨k,y,h1,h2,h3,_⟩:=h;exact ⟨k,y,h1,h2,h3⟩
  | read _ ps t =>
    obtain ⟨l,hh,h1,h2,_,_,h5⟩:=h
    have e:=ha l hh h1
    cases t with
    | none=>exact ⟨l,hh,h1,h2,by rw [e];exact h5.1⟩
    | some y=>exact ⟨l,hh,h1,h2,by rw [e];exact h5.1,h5.2.1,by rw [e];exact h5.2.2.1⟩
theorem Did.keys {F F':Eg} {w w':Wk} {r:Row} (h:Did F F' w w' r) {k v:Int} (e:F' k=some v):F k=some v∨Qgb w.O0=k:=by
  cases r with
  | non=>exact h.elim
  | side _ _=>rw [<- h.1];exact .inl e
  | down _ _=>rw [<- h.1];exact .inl e
  | told _ _=>rw [<- h.2.1];exact .inl e
  | raised _ _=>rw [<- h.2.1];exact .inl e
  | found _ x=>obtain ⟨j,h1,h2,h3,_⟩:=h;rw [<- h3];exact .inl e
  | cut _ x =>
    obtain ⟨j,h1,h2,h3,_⟩:=h
    rw [h3] at e
    unfold Kk at e
    split at e
    . cases e
    . exact .inl e
  | put _ x _ =>
    obtain ⟨j,y,h1,h2,h3,_⟩:=h
    rw [h3] at e
    unfold uD at e
    split at e
    . rename_i q;rw [h1];exact .inr q.symm
    . exact .inl e
  | read _ ps t=>obtain ⟨l,hh,h1,h2,_⟩:=h;rw [<- h2];exact .inl e
section
variable {ds:List Deed} {s s':St} {bg:Bg} {F:Eg} {M:Nat->Option Int} {o:Out}
theorem Nm.more (N:Nm ds s bg F M) (d:Deed):Nm (ds++[d]) s bg F M:=⟨N.T,N.A,N.Z,N.tb,fun k v h=>by
 obtain ⟨e,h1,h2⟩:=N.ky k v h
 exact ⟨e,List.mem_append_left _ h1,h2⟩,fun i v hi hv=>by
 obtain ⟨a,b,c⟩:=N.lv i v hi hv
 exact ⟨a,(Ag (Ac.mp b).1).trans b,c⟩,N.un,N.nw⟩
theorem Nm.move (N:Nm ds s bg F M) (hok:∀ d∈ds,Yj d) (hl:s.ns.length=s.ws.length) {i:Nat} (hi:i < s.ws.length) (hm:mv ds s i=some (o,s')):∃ bg' F' M',Nm ds s' bg' F' M'/\uP ds F M o F' M':=by
  have hw:=Ab hi
  generalize s.ws[i]=v at hw
  unfold mv at hm
  rw [hw] at hm
  dsimp only at hm
  cases he:v.O7 with
  | true =>
    rw [he,C0 rfl] at hm
    cases hd:ds[s.tk]? with
    | none =>
      rw [hd] at hm;cases hm
      exact ⟨bg,F,M,N,.rest⟩
    | some d =>
      rw [hd] at hm;cases hm
      have g1:(s.ns.set i s.tk).getD i 0=s.tk:=by rw [Cg,As (by lia)];rfl
      have g2:∀ j,j≠i->(s.ns.set i s.tk).getD j 0=s.ns.getD j 0:=fun j hj=>by rw [Cg,Ak (Ne.symm hj),<- Cg]
      refine ⟨bg,F,M,⟨N.T,N.A.put rfl rfl rfl,N.Z,N.tb,N.ky,fun j u hj hu=>?_,fun j j' u u' hne hj hu hj' hu'=>?_,fun n hn=>N.nw n (by have hn':s.tk+1<=n:=hn;lia)⟩,.take _⟩
      . show Aim s.S bg u/\ds[(s.ns.set i s.tk).getD j 0]?=some u.O0/\(s.ns.set i s.tk).getD j 0 < s.tk+1/\∀ l h,u.O0=.stretch l h->u.O4=0/\(M ((s.ns.set i s.tk).getD j 0)).getD l=u.aim
        rcases QT hj with ⟨rfl,e2,_⟩ | ⟨ne,hj⟩
        . rw [g1,e2]
          refine ⟨fun _=>?_,hd,Cq _,fun l h e=>⟨rfl,?_⟩⟩
          . have dk:=hok d (Aw hd)
            cases d with
            | stretch l h=>exact ⟨dk,.inl rfl⟩
            | _=>rfl
          . rw [N.nw s.tk (Ae _)]
            have e':d=.stretch l h:=e
            rw [e'];rfl
        . rw [g2 j ne]
          obtain ⟨a,b,c,d'⟩:=N.lv j u hj hu
          exact ⟨a,b,by lia,d'⟩
      . show (s.ns.set i s.tk).getD j 0≠(s.ns.set i s.tk).getD j' 0
        rcases QT hj with ⟨rfl,e2,_⟩ | ⟨ne,hj2⟩
        . rcases QT hj' with ⟨rfl,e3,_⟩ | ⟨ne',hj3⟩
          . exact absurd rfl hne
          . rw [g1,g2 j' ne']
            have:=(N.lv j' u' hj3 hu').2.2.1
            lia
        . rcases QT hj' with ⟨rfl,e3,_⟩ | ⟨ne',hj3⟩
          . rw [g1,g2 j ne]
            have:=(N.lv j u hj2 hu).2.2.1
            lia
          . rw [g2 j ne,g2 j' ne'];exact N.un j j' u u' hne hj2 hu hj3 hu'
  | false =>
    rw [he,Cz (by simp)] at hm
    have W:=N.A.ok i v hw he
    obtain ⟨r,S2,v2,bg2,es,st⟩:=QaM N.T W he (fun g c hc=>N.A.unt i v c hw he g hc)
    rw [es] at hm
    cases hm
    obtain ⟨am,dd,nt,sa⟩:=N.lv i v hw he
    obtain ⟨F',tb',did,am',de⟩:=QdT N.T W am he N.tb es
    have lvs:∀ (j:Nat) (u:Wk),(s.ws.set i v2)[j]?=some u->u.O7=false->(j=i/\u=v2)∨(j≠i/\s.ws[j]?=some u):=fun j u hj hu=>by
      rcases QT hj with ⟨rfl,e2,_⟩ | ⟨ne,hj⟩
      . exact .inl ⟨rfl,e2⟩
      . exact .inr ⟨ne,hj⟩
    have lv0:∀ (j:Nat) (u:Wk),(s.ws.set i v2)[j]?=some u->u.O7=false->∃ u0,s.ws[j]?=some u0/\u0.O7=false:=fun j u hj hu=>by
      rcases lvs j u hj hu with ⟨rfl,_⟩ | ⟨_,h⟩
      . exact ⟨v,hw,he⟩
      . exact ⟨u,h,hu⟩
    refine ⟨bg2,F',Qef M (s.ns.getD i 0) r,⟨st.tree,N.A.step hw he st,N.Z.grow st.grow,tb',fun k x h=>?_,fun j u hj hu=>?_,fun j j' u u' hne hj hu hj' hu'=>?_,fun n hn=>?_⟩,.did dd (did.fit fun l h e=>(sa l h e).2)⟩
    . rcases did.keys h with h | h
      . exact N.ky k x h
      . exact ⟨v.O0,Aw dd,h⟩
    . show Aim S2 bg2 u/\ds[s.ns.getD j 0]?=some u.O0/\s.ns.getD j 0 < s.tk/\∀ l h,u.O0=.stretch l h->u.O4=0/\(Qef M (s.ns.getD i 0) r (s.ns.getD j 0)).getD l=u.aim
      rcases lvs j u hj hu with ⟨rfl,rfl⟩ | ⟨ne,h⟩
      . refine ⟨am'.grow st.grow,by rw [de];exact dd,nt,fun l h e=>?_⟩
        rw [de] at e
        obtain ⟨g0,a0⟩:=sa l h e
        cases r with
        | non=>exact did.elim
        | side _ _=>exact ⟨did.2.2.2.2.1.trans g0,by rw [did.2.2.2.2.2];exact a0⟩
        | down _ _=>exact ⟨did.2.2.2.2.1.trans g0,by rw [did.2.2.2.2.2];exact a0⟩
        | told _ _=>have:=did.1;lia
        | raised _ _=>have:=did.1;lia
        | found _ x=>obtain ⟨k,h1,_⟩:=did;rw [e] at h1;cases h1
        | cut _ x=>obtain ⟨k,h1,_⟩:=did;rw [e] at h1;cases h1
        | put _ x _=>obtain ⟨k,y,h1,_⟩:=did;rw [e] at h1;cases h1
        | read _ ps t =>
          obtain ⟨l',h',h1,h2,_,_,h5⟩:=did
          cases t with
          | none=>rw [h5.2] at hu;cases hu
          | some y =>
            obtain ⟨_,_,_,q1,_,q2⟩:=h5
            refine ⟨q2,?_⟩
            rw [q1]
            show (if s.ns.getD j 0=s.ns.getD j 0 then some y.2 else _).getD l=_
            rw [C0 rfl];rfl
      . obtain ⟨p1,p2,p3,p4⟩:=N.lv j u h hu
        have nn:=N.un j i u v ne h hu hw he
        exact ⟨p1.grow st.grow,p2,p3,by rw [kK nn];exact p4⟩
    . obtain ⟨u0,a1,a2⟩:=lv0 j u hj hu
      obtain ⟨u1,a3,a4⟩:=lv0 j' u' hj' hu'
      exact N.un j j' u0 u1 hne a1 a2 a3 a4
    . rw [kK (by have hn':s.tk<=n:=hn;lia)];exact N.nw n hn
def rdS (s:St) (x:Int):St:={ s with S:={ s.S with rd:=x } }
def Nm.rd (N:Nm ds s bg F M) (x:Int):Nm ds (rdS s x) bg F M:=⟨⟨N.T.room2,N.T.root,N.T.rbg,N.T.page,N.T.link,N.T.kid,N.T.dis,N.T.pred⟩,⟨fun i w h e=>(N.A.ok i w h e).grow (S':={ s.S with rd:=x }) ⟨fun n p h=>⟨rfl,p,h,rfl⟩⟩,N.A.unt,N.A.diff⟩,N.Z,N.tb,N.ky,N.lv,N.un,N.nw⟩
def StOk.rd {b:Nat->Nat} (Y:StOk ds s bg b) (x:Int):StOk ds (rdS s x) bg b:=⟨⟨Y.T.room2,Y.T.root,Y.T.rbg,Y.T.page,Y.T.link,Y.T.kid,Y.T.dis,Y.T.pred⟩,⟨fun i w h e=>(Y.A.ok i w h e).grow (S':={ s.S with rd:=x }) ⟨fun n p h=>⟨rfl,p,h,rfl⟩⟩,Y.A.unt,Y.A.diff⟩,Y.K,Y.D,Y.rm,Y.len,Y.tk,Y.cn,Y.fk,Y.pr⟩
theorem Qbg (N:Nm ds s bg F M) {n:Nat} {p:Pg} (hn:s.S.pg[n]?=some p) (hb:bg n=none):(p.lv=0->n=0)/\(0 < p.lv->∃ (c:Nat) (q:Pg),p.ps[0]?=some (c:Int)/\s.S.pg[c]?=some q/\q.lv+1=p.lv/\bg c=none):=by
 obtain ⟨z1,p0,z2,z3⟩:=N.Z
 refine ⟨fun h=>N.T.uniq hn z2 (by lia) (by rw [hb,z1]),fun h=>?_⟩
 have pt:=(N.T.page n p hn).parts
 rw [Cz (by lia)] at pt
 obtain ⟨c,q,a1,a2,a3,a4⟩:=N.T.kid n p hn h 0 p.ps[0] (Ab (by lia))
 exact ⟨c,q,by rw [Ab (by lia),a1],a2,a3,a4.trans hb⟩
end
end TR
namespace D
open PySem PySem.Spec PyProof.Rows L2
section
variable {prog:Program} {w:World} {A:Around} {E:C8} {s:Shared}
end
section
variable {prog:Program} {w:World} {K:Type} [DecidableEq K] {knd:KeyKind prog w K} {A:Around} {R:Result->Shared->Prop}
end
section
variable {prog:Program} {w:World} {K:Type} [DecidableEq K] {knd:KeyKind prog w K} {A:Around} {E:C8} {s:Shared}
end
section
variable {X:Cx}
def lsG:DV->M (List DV)
  | .lst ds=>pure ds
  | .ref n=>do
    match <- ZI n with
    | .lst ds=>pure ds
    | _=>failure
  | _=>failure
theorem xr {hp hp':Hs} {K:Aa} {v:V} (W:WOk K ρ B hp H) (r:RepV K ρ B H d v) (h:lsG d hp=some (ds,hp')):hp=hp'/\∃ p xs,v=.ref p/\SqL K H p xs/\RepL K ρ B H ds xs:=by
  cases d with
  | lst xs =>
    obtain ⟨rfl,rfl⟩:=Ql h
    obtain ⟨a,ys,rfl,_,sq,l⟩:=r.lstI
    exact ⟨rfl,a,ys,rfl,sq,l⟩
  | ref n =>
    obtain ⟨o,hp1,e1,e2⟩:=Qg (show (ZI n >>= fun o=>(match o with | .lst ds=>pure ds | _=>failure:M (List DV))) hp=some (ds,hp') from h)
    obtain ⟨e3,rfl⟩:=ZJ e1
    cases o with
    | lst zs =>
      obtain ⟨rfl,rfl⟩:=Ql e2
      obtain ⟨a,rfl,_,ys,h1,l1⟩:=RepV.refW W r e3
      exact ⟨rfl,a,ys,rfl,SqL.of h1,l1⟩
    | dic _=>cases e2
    | ins _ _=>cases e2
  | non=>cases h
  | bl _=>cases h
  | int _=>cases h
  | str _=>cases h
  | tup _=>cases h
def opM (o:Option α):M α:=match o with
 | some a=>pure a
 | none=>failure
theorem Qdc {o:Option α} {a:α} {hp hp':Hs} (h:opM o hp=some (a,hp')):o=some a/\hp=hp':=by
 cases o with
 | none=>cases h
 | some z=>obtain ⟨rfl,rfl⟩:=Ql h;exact ⟨rfl,rfl⟩
end
def blM:List DV->Option (List Bool)
 | []=>some []
 | .bl b::r=>(blM r).map (b :: ·)
 | _=>none
def QhP:List DV->M DV:=QeN fun d=>do
 let ds <- lsG d
 let bs <- opM (blM ds)
 pure (.bl (bs.all id))
section
variable {prog:Program} {w:World} {A:Around} {E:C8} {s:Shared}
theorem QbJ (bs:List Bool):(List.range bs.length).all (fun i=>bs.getD i false)=bs.all id:=by
  induction bs with
  | nil=>rfl
  | cons b bs ih =>
    rw [A9,List.range_succ_eq_map,Cs,List.all_map,Cs,<- ih]
    rfl
theorem UY {l:Addr} {items:Array Value} {bs:List Bool} {Q:C8} (hh:A.handled=none) (hl:s.heap.IsList l items) (hlen:items.size=bs.length) (hb:∀ (i:Nat) (v:Value),items[i]?=some v->v=.bool (bs.getD i false))
  (h:∀ h' tk,(∀ b o,s.heap.get? b=some o->h'.get? b=some o)->Q (.bool (bs.all id)) { s with heap:=h',toks:=tk }):wpAny (model prog w) A (call (.builtin "all") [.ref l]) Q E s:=by
 refine call_all_walk (wpAny_pyIter_list hl ?_)
 have hne:l≠s.heap.objs.size:=fun e=>by
  obtain ⟨o,ho,_⟩:=hl
  exact Cm _ (e▸Ao ho)
 refine ⟨s.heap.objs.size,_,_,_,_,_,fun i=>bs.getD i false,rfl,Walks.list (by exact hh) s.heap.objs.size l hne items,?_,fun i v s' Q' E' hP hQ=>?_,fun h' tk hk=>?_⟩
 ·exact ⟨⟨_,Au _ rfl,rfl,rfl⟩,hl.push _⟩
 ·have:v=.bool (bs.getD i false):=hb i v hP
  subst this
  exact C1 hQ
 ·rw [hlen,QbJ]
  refine h h' tk fun b o e=>hk b o (fun z=>?_) (Ad _ e)
  have:b=s.heap.objs.size:=by simpa using z
  exact Cm _ (this▸Ao e)
end
section
variable {X:Cx}
theorem Qek {K:Aa}:∀ {ds:List DV} {bs:List Bool} {ys:List V} {its:List Value},blM ds=some bs->RepL K ρ B H ds ys->Vals ys its->its.length=bs.length/\∀ (i:Nat) (v:Value),its[i]?=some v->v=.bool (bs.getD i false):=by
  intro ds
  induction ds with
  | nil =>
    intro bs ys its h r v
    cases h
    unfold RepL at r;subst r
    cases v
    exact ⟨rfl,fun i v h=>by simp at h⟩
  | cons d ds ih =>
    intro bs ys its h r v
    unfold RepL at r
    obtain ⟨y,ys',rfl,r1,r2⟩:=r
    cases v with
    | @cons _ u _ us v1 v2 =>
    cases d<;>first | (simp [blM] at h;done) | skip
    rename_i b
    have h:(blM ds).map (b :: ·)=some bs:=h
    obtain ⟨bs',h1,rfl⟩:=Cb.mp h
    obtain ⟨a1,a2⟩:=ih h1 r2 v2
    unfold RepV at r1
    subst r1
    cases v1
    refine ⟨by simp [a1],fun i v hv=>?_⟩
    cases i with
    | zero=>cases hv;rfl
    | succ i=>exact a2 i v hv
theorem QhU (hc:X.calm=true):J7 X (.builtin "all") (tPn X.K QhP):=by
 intro O9 s σ H xs us Q I r h
 obtain ⟨ρ,B,hp,ds,d,hp',W,rl,e,k⟩:=h
 obtain ⟨x,rfl,e⟩:=KL e
 obtain ⟨zs,hp1,e1,e2⟩:=Qg e
 obtain ⟨bs,hp2,e3,e4⟩:=Qg e2
 obtain ⟨e5,rfl⟩:=Qdc e3
 obtain ⟨rfl,rfl⟩:=Ql e4
 obtain ⟨v,rfl,rv⟩:=rl.oneI
 obtain ⟨rfl,p,ys,rfl,sq,l⟩:=xr W rv e1
 obtain ⟨u,rfl,rx⟩:=UH r
 cases rx
 obtain ⟨its,r',pl,hz⟩:=I.list sq
 obtain ⟨a1,a2⟩:=Qek e5 l r'
 refine UY (bs:=bs) (I.ok.hd hc) pl.isList (by simpa using a1) (fun i v h=>a2 i v (by simpa using h)) fun h' tk kp=>?_
 exact ⟨.bl (bs.all id),H,I.kept (t':=tk) kp,rfl,k _ ρ B H Gr.refl W (by unfold RepV;rfl)⟩
end
structure UF (K:Aa) (mg:Ea) (x:Str) (st:Stmt):Prop where
 ex:∃ g fd,Fun K x x st g fd/\mg x=some (.ref g)
structure UC (K:Aa) (c:Str):Prop where
 ex:∀ C,ClsN K c C->Cls K C
structure UM (K:Aa) (c m q:Str) (st:Stmt):Prop where
 ex:∃ C g fd,Fun K m q st g fd/\ClsN K c C/\Cls K C/\uO K C m g
structure UI (K:Aa) (mg:Ea) (c q:Str) (st:Stmt):Prop where
 ex:∃ C g fd,Fun K "__init__" q st g fd/\ClsN K c C/\mg c=some (.ref C)/\Mk K C g
structure UG (mg:Ea) (x:Str) (i:Int):Prop where
 ex:∃ t,mg x=some (.int i t)
structure UT (K:Aa) (mg:Ea) (x:Str) (d:DV):Prop where
 ex:∃ a,mg x=some (.ref a)/\KRep K d (.ref a)
section
variable {K:Aa} {h:Heap} {mg:Ea} {f C:Addr} {x c m q:Str} {st:Stmt} {oc:Value} {od an:Option Addr} {osl:Array (Option Value)} {kV doc pm cdv ct:Value} {i:Int} {t:Tok} {d:DV} {a:Addr}
def uf (X:K.In h) (G:h.Ns mainGlobals mg) (n:PySem.W.nsIn K mainGlobals x=some (some (.ref f))) (l:K.lookup f=some ⟨oc,od,.func (PySem.W.fnOf x x (JA st) (ZH st) (Qp st) .none kV doc pm an cdv ct),osl⟩) (e:PySem.W.codeIn K cdv x=true) (k:PySem.W.keepIn K (.ref f)=true):UF K mg x st:=⟨_,_,Gz l e k,PySem.W.mg_of X G n⟩
theorem uc (X:K.In h) (n:PySem.W.nsIn K mainGlobals c=some (some (.ref C))) (p:PySem.W.plainGet K C Str.empty=true) (e:PySem.W.hasDictIn K C=true) (o:PySem.W.plainOver K C=true) (s:PySem.W.findIn K (.ref C) "__setattr__" = some (some (.builtin "object.__setattr__"))):UC K c:=⟨fun C' n'=>by cases ClsN.uniq (show ClsN K c C from n) n';exact ⟨p,e,o,s⟩⟩
def um (X:K.In h) (u:UC K c) (n:PySem.W.nsIn K mainGlobals c=some (some (.ref C))) (a:PySem.W.findIn K (.ref C) m=some (some (.ref f))) (b:PySem.W.isFn K (.ref f)=true) (l:K.lookup f=some ⟨oc,od,.func (PySem.W.fnOf m q (JA st) (ZH st) (Qp st) .none kV doc pm an cdv ct),osl⟩) (e:PySem.W.codeIn K cdv q=true) (k:PySem.W.keepIn K (.ref f)=true):UM K c m q st:=⟨_,_,_,Gz l e k,n,u.ex _ n,a,b,k⟩
def ui (X:K.In h) (G:h.Ns mainGlobals mg) (n:PySem.W.nsIn K mainGlobals c=some (some (.ref C))) (a:PySem.W.findIn K (.ref C) "__init__" = some (some (.ref f))) (b:PySem.W.isFn K (.ref f)=true) (l:K.lookup f=some ⟨oc,od,.func (PySem.W.fnOf "__init__" q (JA st) (ZH st) (Qp st) .none kV doc pm an cdv ct),osl⟩) (e:PySem.W.codeIn K cdv q=true) (k:PySem.W.keepIn K (.ref f)=true) (v:PySem.W.makesIn K C=true) (z:PySem.W.keepIn K (.ref C)=true):UI K mg c q st:=⟨_,_,_,Gz l e k,n,PySem.W.mg_of X G n,v,a,b,z⟩
def uk (X:K.In h) (u:UC K c) (n:PySem.W.nsIn K mainGlobals c=some (some (.ref C))) (a:PySem.W.findIn K (.ref C) x=some none):X8 K c x:=⟨C,n,u.ex _ n,a⟩
def ug (X:K.In h) (G:h.Ns mainGlobals mg) (n:PySem.W.nsIn K mainGlobals x=some (some (.int i t))):UG mg x i:=⟨_,PySem.W.mg_of X G n⟩
def ut (X:K.In h) (G:h.Ns mainGlobals mg) (n:PySem.W.nsIn K mainGlobals x=some (some (.ref a))) (r:KRep K d (.ref a)):UT K mg x d:=⟨_,PySem.W.mg_of X G n,r⟩
theorem Zd {N ps:List Str} {s:Scope} (h:(s.kind==.function&&!s.isCoroutine&&!s.isGenerator&&decide N.Nodup&&decide (N.take ps.length=ps)&&ps.all (fun x=>decide (s.names.lookup x=some .local)||decide (s.names.lookup x=some .cell))&&s.names.all fun y=>decide (y.2≠.free))=true):Qt N ps s:=by
 simp only [Bb,Bool.not_eq_true',decide_eq_true_eq,List.all_eq_true,Bool.or_eq_true] at h
 obtain ⟨⟨⟨⟨⟨⟨a,b⟩,c⟩,d⟩,e⟩,f⟩,g⟩:=h
 refine ⟨?_,b,c,d,e,f,fun y hy=>by have:=g y hy;simpa using this⟩
 revert a;cases s.kind<;>first | (intro _;rfl) | (intro z;exact absurd z (by decide))
end
section
variable {P:Program} {w:World} {K:Aa} {mg:Ea} {O8:Heap} {x c m q:Str} {st:Stmt} {N ps:List Str} {k:Nat} {body:DSx}
def Bn (ps:List Str) (x q:Str) (st:Stmt):Prop:=∀ (kV doc pm:Value) (an:Option Addr) (cdv ct:Value) (us:List Value),us.length=ps.length->bindArgs (PySem.W.fnOf x q (JA st) (ZH st) (Qp st) .none kV doc pm an cdv ct) ⟨us,[]⟩=pure (ps.zip us)
def Bd (P:Program) (w:World) (K:Aa) (mg:Ea) (O8:Heap) (N:List Str) (k:Nat) (q:Str) (st:Stmt) (body:DSx):Prop:=∀ (g:Addr) (cdv:Value) (A:Around) (outer:List Env) (s:Shared) (H:Hp) (E:XK),Room k (A.deeper (envOfC q (Qp st) s.heap.objs.size g cdv))->DSs (y0 CX0 P w K mg O8 N q (Qp st) g cdv A outer s H E).nox (ZH st) body
theorem hf (u:UF K mg x st) (Sc:Qt N ps (Qp st)) (h:Bd P w K mg O8 N k x st body) (hb:Bn ps x x st:=by intro _ _ _ _ _ _ us hl;rcases us with _ | ⟨_,_ | ⟨_,_ | ⟨_,_ | ⟨_,_ | ⟨_,_ | ⟨_,_⟩⟩⟩⟩⟩⟩<;>first | rfl | cases hl):Has P w K mg O8 x (k+1) ps.length (Q9 N.length body):=let ⟨_,_,F,hm⟩:=u.ex;Qgn F Sc hm hb (h _)
theorem hM (u:UM K c m q st) (Sc:Qt N ps (Qp st)) (h:Bd P w K mg O8 N k q st body) (hb:Bn ps m q st:=by intro _ _ _ _ _ _ us hl;rcases us with _ | ⟨_,_ | ⟨_,_ | ⟨_,_ | ⟨_,_ | ⟨_,_ | ⟨_,_⟩⟩⟩⟩⟩⟩<;>first | rfl | cases hl):Xj P w K mg O8 c m (k+1) ps.length (Q9 N.length body):=let ⟨_,_,_,F,nc,cl,me⟩:=u.ex;Qc2 nc cl me F Sc hb (h _)
theorem hI (u:UI K mg c q st) (Sc:Qt N ps (Qp st)) (h:Bd P w K mg O8 N k q st body) (hb:Bn ps "__init__" q st:=by intro _ _ _ _ _ _ us hl;rcases us with _ | ⟨_,_ | ⟨_,_ | ⟨_,_ | ⟨_,_ | ⟨_,_ | ⟨_,_⟩⟩⟩⟩⟩⟩<;>first | rfl | cases hl):QaV P w K mg O8 c (k+1) ps.length (Q9 N.length body):=let ⟨_,_,_,F,nc,hm,me⟩:=u.ex;QcJ nc hm me F Sc hb (h _)
end
end D
namespace L2
open PySem PySem.Spec PyProof.Rows
def QbZ (K:Aa) (a b:Addr):It :=
  ⟨fun i H=>∃ xs ys x y,SqL K H a xs/\SqL K H b ys/\xs[i]?=some x/\ys[i]?=some y,
   fun i H v H'=>∃ p x y,H p=none/\(∀ xs,SqL K H a xs->xs[i]?=some x)/\(∀ ys,SqL K H b ys->ys[i]?=some y)/\v=.ref p/\H'=upd H p (.tup [x,y]),
   fun i H=>∃ xs ys,SqL K H a xs/\SqL K H b ys/\(xs.length<=i∨ys.length<=i)⟩
structure ZL (h:Heap) (z p o i j a b:Addr) (n:Nat) (f:Value):Prop where
 zz:IsZip h z p o f
 pp:IsPair h p (.ref i) (.ref j)
 oo:∃ x y,IsPair h o x y
 ii:h.IsListIter i a n
 jj:h.IsListIter j b n
theorem ZL.at {h h':Heap} {z p o i j a b:Addr} {n:Nat} (S:ZL h z p o i j a b n f) (k:∀ c∈[z,p,o,i,j],∀ u,h.get? c=some u->h'.get? c=some u):ZL h' z p o i j a b n f:=by
 obtain ⟨zz,pp,⟨u1,u2,oo⟩,ii,jj⟩:=S
 exact ⟨k z (by simp) _ zz,k p (by simp) _ pp,⟨u1,u2,k o (by simp) _ oo⟩,ii.at fun u e=>k i (by simp) u e,jj.at fun u e=>k j (by simp) u e⟩
theorem QbT {w:World} {K:Aa} {elts:List Expr} {kt:Nat} {z p o i j a b:Addr} (D:ZipApart z p o i j a b):QaX P w K (.Tuple elts kt pos) (QbZ K a b) [z,p,o,i,j] z (fun n h=>ZL h z p o i j a b n .none) where
 mem:=by simp
 obj:=fun n h S c hc=>by
  obtain ⟨zz,pp,⟨u1,u2,oo⟩,⟨oi,ei,ci,di⟩,⟨oj,ej,cj,dj⟩⟩:=S
  simp only [Bj,Ca,or_false] at hc
  rcases hc with rfl | rfl | rfl | rfl | rfl
  ·exact ⟨_,zz,fun v q=>by have q':Data.fields _=Data.cell v:=q;cases q'⟩
  ·exact ⟨_,pp,fun v q=>by have q':Data.seq _ _=Data.cell v:=q;cases q'⟩
  ·exact ⟨_,oo,fun v q=>by have q':Data.seq _ _=Data.cell v:=q;cases q'⟩
  ·exact ⟨oi,ei,fun v q=>by rw [di] at q;cases q⟩
  ·exact ⟨oj,ej,fun v q=>by rw [dj] at q;cases q⟩
 keep:=fun n h h' S k=>S.at k
 item:=by
  intro X hP hw hK hc n O9 s σ H E I hf S hg
  subst hP hw hK
  obtain ⟨xs,ys,x,y,qa,qb,hx,hy⟩:=hg
  obtain ⟨ia,ra,pa,_⟩:=I.list qa
  obtain ⟨ib,rb,pb,_⟩:=I.list qb
  obtain ⟨u,hu,ru⟩:=ra.get hx
  obtain ⟨v,hv,rv⟩:=rb.get hy
  obtain ⟨zz,pp,⟨u1,u2,oo⟩,ii,jj⟩:=id S
  have hT:s.TypeIs (.ref z) "zip" := ⟨_,zz,rfl⟩
  unfold pyNext
  refine Cy (wpAny_attempt (wpAny_callSpecial?_slot (name:=Str.ofString "__next__") hT F.slot_zip_next (wpAny_call_entry F.slot_zip_next hT F.entry_zip_next
   (zip_next_item D zz pp oo ii jj pa.isList pb.isList (by simpa using hu) (by simpa using hv) fun g zz' oo' ii' jj' tp sz kp=>C1 ?_) (F.args_zip_next_1 _))))
  refine ⟨_,rfl,wpAny_letOwnedTupleGo_zip zz' fun g' z' sb=>?_⟩
  have kp':∀ c q,c∉[z,p,o,i,j]->s.heap.get? c=some q->g'.get? c=some q:=fun c q hc e=>by
   simp only [Bj,Ca,or_false,not_or] at hc
   exact sb.extBut _ _ hc.1 (kp c q hc.1 hc.2.2.1 hc.2.2.2.1 hc.2.2.2.2 e)
  have zl:z < s.heap.objs.size:=Ao zz
  have tp':IsPair g' s.heap.objs.size u v:=sb.extBut _ _ (Cu zl) tp
  have ne:∀ c∈[z,p,o,i,j],c≠s.heap.objs.size:=fun c hc e=>by
   obtain ⟨zz,pp,⟨u1,u2,oo⟩,⟨oi,ei,_⟩,⟨oj,ej,_⟩⟩:=S
   simp only [Bj,Ca,or_false] at hc
   rcases hc with rfl | rfl | rfl | rfl | rfl
   ·exact Be (Ao zz) e
   ·exact Be (Ao pp) e
   ·exact Be (Ao oo) e
   ·exact Be (Ao ei) e
   ·exact Be (Ao ej) e
  refine ⟨.ref s.heap.objs.size,upd H s.heap.objs.size (.tup [x,y]),I.turnNew (t':=s.toks) hf kp' (us:=[u,v]) (.cons ru (.cons rv .nil)) (show 2<=sizeLine by decide) ⟨_,tp',rfl,_,rfl⟩,rfl,
   ⟨_,x,y,I.hok.fresh (Ae _),fun xs' h=>by rw [I.list_inj h qa];exact hx,fun ys' h=>by rw [I.list_inj h qb];exact hy,rfl,rfl⟩,?_,fun c hc=>?_⟩
  ·exact ⟨z',sb.extBut _ _ D.TIz (kp _ _ D.TIz D.TITO D.TIi1 D.TIi2 pp),⟨_,_,sb.extBut _ _ D.TOz oo'⟩,ii'.extBut sb.extBut D.i1z,jj'.extBut sb.extBut D.i2z⟩
  ·rw [Q4 (ne c hc)];exact (hf c hc).1
 done:=by
  intro X hP hw hK hc n O9 s σ H E I hf S hg
  subst hP hw hK
  obtain ⟨xs,ys,qa,qb,hs⟩:=hg
  obtain ⟨ia,ra,pa,_⟩:=I.list qa
  obtain ⟨ib,rb,pb,_⟩:=I.list qb
  have l1:=ra.length
  have l2:=rb.length
  obtain ⟨zz,pp,⟨u1,u2,oo⟩,ii,jj⟩:=S
  have hT:s.TypeIs (.ref z) "zip" := ⟨_,zz,rfl⟩
  unfold pyNext
  refine Cy (wpAny_attempt (wpAny_callSpecial?_slot (name:=Str.ofString "__next__") hT F.slot_zip_next (wpAny_call_entry F.slot_zip_next hT F.entry_zip_next
   (zip_next_end (I.ok.hd hc) D zz pp oo ii jj pa.isList pb.isList (by rcases hs with q | q;exact .inl (by simp;lia);exact .inr (by simp;lia)) fun g x kp hx=>?_) (F.args_zip_next_1 _))))
  obtain ⟨ox,h1,h2⟩:=hx
  refine Cy (wpAny_isInstance (T := "StopIteration") (b:=true) ⟨ox,h1,h2⟩ isSubtype_stop ?_)
  refine C1 ⟨rfl,I.turnL (t':=s.toks) hf fun c q hc e=>?_⟩
  simp only [Bj,Ca,or_false,not_or] at hc
  exact kp c q hc.1 hc.2.2.1 hc.2.2.2.1 hc.2.2.2.2 e
 self:=fun _ _ _ _ _ S h=>wpAny_pyIter_zip S.zz h
section
variable {X:Cx} {elts:List Expr} {kt:Nat} {p2:Pos}
theorem QfI {R:It->Hp->Prop} {E:C8} {a b:Addr} (I:Inv X O9 σ H s) (qa:SqL X.K H a xs) (qb:SqL X.K H b ys) (q:R (QbZ X.K a b) H):
  wpAny (model X.prog X.w) X.A (call (.type "zip") [.ref a,.ref b]) (fun v s1=>wpAny (model X.prog X.w) X.A (pyIter v) (PIE X O9 σ (.Tuple elts kt p2) R) E s1) E s:=by
 obtain ⟨ia,ra,pa,_⟩:=I.list qa
 obtain ⟨ib,rb,pb,_⟩:=I.list qb
 have la:a < s.heap.objs.size:=by obtain ⟨o,_,e,_⟩:=pa;exact Ao e
 have lb:b < s.heap.objs.size:=by obtain ⟨o,_,e,_⟩:=pb;exact Ao e
 refine call_zip_2 pa.isList pb.isList fun h' hz hTI hTO hi1 hi2 _ hk=>?_
 have I1:Inv X O9 σ H { s with heap:=h' }:=I.kept (t':=s.toks) hk
 refine wpAny_pyIter_zip (s:={ s with heap:=h' }) hz ⟨_,[s.heap.objs.size+4,s.heap.objs.size+2,s.heap.objs.size+3,s.heap.objs.size,s.heap.objs.size+1],_,QbZ X.K a b,H,rfl,I1,QbT (zipApart_new la lb),⟨hz,hTI,⟨_,_,hTO⟩,hi1,hi2⟩,fun c hc=>?_,q⟩
 have hc':s.heap.objs.size<=c:=by
  simp only [Bj,Ca,or_false] at hc
  rcases hc with rfl | rfl | rfl | rfl | rfl<;>first | exact Ae _ | exact Cw _ _
 exact I.fpOk hc' (I.hok.fresh hc')
theorem Qe5 {p pos:Pos} (hg:Gl X "zip") (hm:X.mg "zip" = none) (ha:PA X [x,y] ta) (hs:starEach [x,y] X.env=[(false,eval x X.env),(false,eval y X.env)]:=by rfl) (hs2:starEach [y] X.env=[(false,eval y X.env)]:=by rfl):
    PI X (.Tuple elts kt p2) (.Call (.Name "zip" p) [x,y] [] pos) (fun σ H R=>ta σ H fun vs H1=>∃ a b,vs=[.ref a,.ref b]/\((∃ xs ys,SqT X.K H1 a xs/\SqT X.K H1 b ys/\R (Itz X.K a b) H1)∨∃ xs ys,SqL X.K H1 a xs/\SqL X.K H1 b ys/\R (QbZ X.K a b) H1)):=by
  intro O9 s σ H R I h
  refine Call_ (yk I hg hm boot_zip (PyProof.Rows.callWith_type1 (thn (ha pos O9 s σ H _ I h) fun us s1 z=>?_) (by rw [hs,hs2]) (by rw [hs2];rfl)))
  obtain ⟨vs,H1,I1,r1,a,b,e,q1⟩:=z
  subst e
  cases r1 with
  | cons r rr =>
    cases rr with
    | cons r' rr =>
      cases rr
      cases r
      cases r'
      rcases q1 with ⟨xs,ys,qa,qb,q⟩ | ⟨xs,ys,qa,qb,q⟩
      . exact QaS (.tp ..) I1 qa qb q
      . exact QfI I1 qa qb q
end
end L2
namespace D
open PySem PySem.Spec PyProof.Rows L2
def nxZ (x y:DV):NX:=fun i=>do
 let xs <- lsG x
 let ys <- lsG y
 pure (Xy (xs.drop i) (ys.drop i)).head?
def QhK (f g:DEx):DXx:=fun env=>do
  let x <- f env
  let y <- g env
  match x,y with
  | .tup xs,.tup ys=>pure (nxD (Xy xs ys))
  | x,y=>do
    let _ <- lsG x
    let _ <- lsG y
    pure (nxZ x y)
theorem QgF {K:Aa} {a b:Addr} (ra:RepV K ρ B H x (.ref a)) (rb:RepV K ρ B H y (.ref b)):kG K ρ B H (nxZ x y) (QbZ K a b):=fun ρ1 B1 hp1 H1 g W i o hp2 e=>by
 obtain ⟨xs,hp3,e1,e⟩:=Qg e
 obtain ⟨ys,hp4,e2,e⟩:=Qg e
 obtain ⟨rfl,rfl⟩:=Ql e
 obtain ⟨rfl,a',us,q1,sa,la⟩:=xr W (RepV.gs g _ _ ra) e1
 obtain ⟨rfl,b',vs,q2,sb,lb⟩:=xr W (RepV.gs g _ _ rb) e2
 cases q1;cases q2
 refine ⟨rfl,?_⟩
 by_cases h1:i < xs.length
 ·by_cases h2:i < ys.length
  ·rw [Bh h1,Bh h2]
   obtain ⟨u,hu,ru⟩:=la.get (Ab h1)
   obtain ⟨v,hv,rv⟩:=lb.get (Ab h2)
   refine ⟨⟨us,vs,u,v,sa,sb,hu,hv⟩,fun z H' q=>?_⟩
   obtain ⟨p,u',v',hn,h3,h4,e1,e2⟩:=q
   subst e1 e2
   have e3:=h3 us sa
   have e4:=h4 vs sb
   rw [hu] at e3;cases e3
   rw [hv] at e4;cases e4
   exact ⟨qP (fun z=>W.bt p z hn) (SqT.of Za) (RepL.gs (kA W.rb hn) _ _ (RepL.cons ru (RepL.one rv))),.inr ⟨p,_,hn,rfl⟩⟩
  ·rw [List.drop_eq_nil_of_le (Co h2),Bh h1]
   exact ⟨us,vs,sa,sb,.inr (by rw [<- lb.length];exact Co h2)⟩
 ·rw [List.drop_eq_nil_of_le (Co h1)]
  exact ⟨us,vs,sa,sb,.inl (by rw [<- la.length];exact Co h1)⟩
section
variable {X:Cx} {elts:List Expr} {kt:Nat} {p2:Pos} {f g:DEx}
theorem Qgj {p pos:Pos} (hg:Gl X "zip") (hm:X.mg "zip" = none) (hx:DE X x f) (hy:DE X y g) (hs:starEach [x,y] X.env=[(false,eval x X.env),(false,eval y X.env)]:=by rfl) (hs2:starEach [y] X.env=[(false,eval y X.env)]:=by rfl):
  DX X (.Tuple elts kt p2) (.Call (.Name "zip" p) [x,y] [] pos) (QhK f g) :=
 L2.PI.imp (Qe5 hg hm (Ya hx (Ya hy pa_nil (by rw [hs2];rfl)) (by rw [hs,hs2])) hs hs2) fun σ H R zz=>by
  obtain ⟨Z,env,ρ,B,hp,nxt,hp',S,e,k⟩:=zz
  obtain ⟨d1,hp1,e1,e⟩:=Qg e
  obtain ⟨d2,hp3,e3,e⟩:=Qg e
  refine tD.run S e1 fun v ρ1 B1 H1 g1 S1 r1=>tD.run S1 e3 fun u ρ2 B2 H2 g2 S2 r2=>?_
  have r1:=RepV.grow S1.wo.rb g2 _ _ r1
  have G:=g1.trans g2
  have tt:(∃ xs ys,d1=.tup xs/\d2=.tup ys/\nxt=nxD (Xy xs ys)/\hp'=hp3)∨(do let _ <- lsG d1;let _ <- lsG d2;pure (nxZ d1 d2):M NX) hp3=some (nxt,hp'):=by
   cases d1<;>first
    | exact .inr e
    | (cases d2<;>first
      | exact .inr e
      | (obtain ⟨rfl,rfl⟩:=Ql e;exact .inl ⟨_,_,rfl,rfl,rfl,rfl⟩))
  rcases tt with ⟨xs,ys,rfl,rfl,rfl,rfl⟩ | e
  ·obtain ⟨a,vs,rfl,na,qa,la⟩:=r1.tupI
   obtain ⟨b,us,rfl,nb,qb,lb⟩:=r2.tupI
   exact ⟨a,b,rfl,.inl ⟨vs,us,qa,qb,k _ ρ2 B2 H2 G S2.wo (gI (QcN na qa la nb qb lb))⟩⟩
  ·obtain ⟨xs,hp4,e4,e⟩:=Qg e
   obtain ⟨ys,hp5,e5,e⟩:=Qg e
   obtain ⟨rfl,rfl⟩:=Ql e
   obtain ⟨rfl,a,us,rfl,sa,la⟩:=xr S2.wo r1 e4
   obtain ⟨rfl,b,vs,rfl,sb,lb⟩:=xr S2.wo r2 e5
   exact ⟨a,b,rfl,.inr ⟨us,vs,sa,sb,k _ ρ2 B2 H2 G S2.wo (QgF r1 r2)⟩⟩
end
section
variable {X:Cx} {e:Expr} {f:DEx} {pos:Pos}
end
section
variable {X:Cx}
def Qc6:DV->DV->M DV
 | .lst [d],.int n=>do Qx (decide (0<=n/\n.toNat<=100000));XX (.lst (List.replicate n.toNat d))
 | _,_=>failure
theorem QgP:P2 X (binaryOp .Mult) Qc6:=by
 intro O9 s σ H x y v u Q I rx ry h
 obtain ⟨ρ,B,hp,dx,dy,d,hp',W,r1,r2,e,k⟩:=h
 unfold Qc6 at e
 split at e
 ·rename_i d0 n
  obtain ⟨_,hp1,e1,e2⟩:=Qg e
  obtain ⟨hs,rfl⟩:=QK e1
  cases e2
  obtain ⟨h0,h1⟩:=C5 hs
  obtain ⟨l,vs,rfl,nb,sq,rl⟩:=r1.lstI
  obtain ⟨z,rfl,rz⟩:=rl.oneI
  refine thn (Qfn O9 s σ H _ _ v u (fun v H'=>kE X.K H'->Q v H') I rx ry ⟨l,z,n,rfl,r2.intI,sq,h0,h1,Qad W (ue rz _) k⟩) fun v s' z=>?_
  obtain ⟨x,H',I',rx',q'⟩:=z
  exact ⟨x,H',I',rx',q' (Inv.kfree I')⟩
 ·cases e
end
section
variable {prog:Program} {w:World} {A:Around} {E:C8} {s:Shared}
end
section
variable {X:Cx}
end
def Jw (x:Int):Prop:=Builtin.Int.intBits x<=1048576
instance (x:Int):Decidable (Jw x):=inferInstanceAs (Decidable (_<=_))
def Qa3 {x y:Int} (h:x.natAbs<=y.natAbs) (hy:Jw y):Jw x:=PySem.intBits_le_of_natAbs h hy
section
variable {X:Cx}
def QfM (i j:Int):Bool:=decide (Jw i/\Jw j)
def QeK:DV->DV->M DV:=qK QfM fun i j=>.int (i * j)
def QeR:OpR X (binaryOp .Mult) (rI (fun i j=>Jw i/\Jw j) fun i j=>.int (i * j)):=opI fun _ _ _ _ _ _ _ hc q=>mul_int q (.of_bits hc.1 hc.2)
def QgO:P2 X (binaryOp .Mult) QeK:=V2 QeR fun i j h=>C5 h
end
theorem UJ:∀ (ns:List Int) (x:Int),x∈ns->Builtin.Int.intBits x<=PySem.W.WData.weightAll (ns.map PySem.W.WData.int)
  | n::r,x,h=>by
    rw [Ba]
    unfold PySem.W.WData.weightAll
    rcases Bj.mp h with rfl | h
    . exact Bi (Nat.le_of_eq (show Builtin.Int.intBits x=PySem.W.WData.weight (.int x) by unfold PySem.W.WData.weight;rfl)) (by omega)
    . have:=UJ r x h
      omega
theorem Qej {ns:List Int} (h:PySem.W.WData.layableAll [PySem.W.WData.list (ns.map PySem.W.WData.int)]=true):∀ x∈ns,Jw x:=fun x hx=>by
 have h1:PySem.W.WData.layable (.list (ns.map PySem.W.WData.int))=true:=by
  unfold PySem.W.WData.layableAll at h
  simpa using h
 unfold PySem.W.WData.layable at h1
 have h2:=C5 (Bool.and_eq_true_iff.mp h1).2
 unfold PySem.W.WData.weight at h2
 exact Bi (UJ ns x hx) h2
end D
namespace L2
open PySem PySem.Spec PyProof.Rows PySem.W
theorem Qd2 {l:PySem.W.OpenLaw} {n k:Nat} {q:Program} {loose:List Str} {XP:(Ea)->Heap->Prop} {YP:World->Heap->Prop} {d:DefRec} {K:Params->Aa} {CX:World->CXT} {sp:World->Sp} {x:Str}
    (hn:l.most=some n) (hn2:n<=sizeLine) (hdf:d.params.defaults=[]) (hr:Room k callerA)
    (hY:∀ (w:World) (h:Heap),YP w h->(K w.params).In h)
    (F:∀ (w:World) (mg:Ea) (fa:Addr) (h:Heap),(K w.params).In h->h.Ns mainGlobals mg->mg d.name=some (.ref fa) ->
      ∃ fd : FuncData, (∀ (s : Shared) (u : Value), BindsTo s fd ⟨[u], []⟩ [(x, u)]) /\
        ∀ O8:Heap,(K w.params).In O8->O8.Ns mainGlobals mg->zm l.prog w (K w.params) mg O8 (CX w) k fa fd [x] (sp w))
    (hsp:∀ (w:World) (H:Hp) (a:Addr) (ns:List Int),ns.length<=n->(∀ x∈ns,D.Jw x)->Qf5 H->SqL (K w.params) H a (ns.map V.int)->sp w [.ref a] H (fun v _=>v=.bl true) fun _ _ _=>False)
    (hCX:∀ (w:World) (H:Hp) (s:Shared) (e:Value) (s':Shared),CX w [] H s (fun _ _ _=>False) e s'->False) :
    PySem.W.WalkO q loose XP YP l.row.toRowW d [] (fun f vs=>PySem.call f vs):=by
  intro w s₀ s₁ mg mb G Y fa o pm cd doc dV kV ho hd hcd hD hmg hg args vals as hpre hlay hrd hwl hlo
  obtain rfl:dV=.none:=Dflts.none hD hdf
  obtain rfl:kV=.none:=Dflts.noKw hD
  obtain ⟨a,vs,ns,rfl,rfl,hobj,hints,hlen⟩:=Att.script_of hn hpre hwl
  have KX:=hY w _ Y
  obtain ⟨fd,hb,hF⟩:=F w mg fa _ KX G.T.g hmg
  refine enter_call (codeAny_mono (QcR KX G.T.g G.T.b G.T.builtins G.T.nolimit hg hobj hints (Bi hlen hn2) hr hF hb (fun H hO hS=>hsp w H a ns hlen (D.Qej hlay) hO hS) fun H e s'=>hCX w H s₁ e s') fun r s' hq=>?_)
  obtain ⟨rfl,h2,h3,h4⟩:=hq
  exact ⟨.inl ⟨.bool true,.bool true,[],rfl,fun _=>rfl,.bool true,Att.post_true l _,fun _=>⟨List.Pairwise.nil,fun _ hm=>(nomatch hm)⟩⟩,h2,h3,h4⟩
end L2
namespace D
open PySem PySem.Spec PyProof.Rows L2
variable {X:Cx}
theorem Vh {h:Heap} {a:Addr} {out:Array Value} {b:Addr} (hb:b≠a) (e:h.get? b=some o):(sortedHeap h a vs out).get? b=some o:=by
 unfold sortedHeap
 rw [Heap.get?_update_ne _ _ _ _ hb]
 refine Ad _ (Ad _ ?_)
 rw [Heap.get?_update_ne _ _ _ _ hb];exact e
theorem Ki {h:Heap} {a:Addr} {out:Array Value} {xs:Array Value} {n:Nat} (e:h.get? a=some (seqObj "list" xs n)):∃ c,(sortedHeap h a vs out).get? a=some (seqObj "list" out c):=by
 unfold sortedHeap
 obtain ⟨c1,g1⟩:∃ c1,(h.update a (Obj.mapSeq fun _=>#[])).get? a=some (seqObj "list" #[] c1):=⟨_,get?_update_seq e (fun _=>#[])⟩
 exact ⟨_,get?_update_seq (Ad _ (Ad _ g1)) fun _=>out⟩
theorem uz {prog:Program} {w:World} {A:Around} {E:C8} {s:Shared} {x:Value} {ns:List Int} {Q:C8} (h64:ns.length < 64)
  (hc:∀ (R:List Value->Shared->Prop),(∀ (h':Heap) (tk:Nat) (vs:List Value),IntsAre vs ns->vs.length<=sizeLine->(∀ b o,s.heap.get? b=some o->h'.get? b=some o)->R vs { s with heap:=h',toks:=tk })->wpAny (model prog w) A.in1 (collect x) R E s)
  (h:∀ (h1 h':Heap) (tk:Nat) (out:List Value) (ns':List Int) (c:Nat),(∀ b o,s.heap.get? b=some o->h1.get? b=some o)->(∀ b o,h1.get? b=some o->h'.get? b=some o)->h'.get? h1.objs.size=some (seqObj "list" out.toArray c)->IntsAre out ns'->ns'.Perm ns->ns'.Pairwise (· <= ·)->Q (.ref h1.objs.size) { s with heap:=h',toks:=tk }) :
  wpAny (model prog w) A (call (.builtin "sorted") [x]) Q E s:=by
 refine Calls.call_function_entry kind_sorted plain_sorted entry_sorted (args_sorted1 _) ?_
 unfold Builtin.«sorted»
 refine Cy (m:=checkCount "sorted" 1 1 _) (C1 (Cy (hc _ fun h1 tk vs hI hz k1=>?_)))
 refine Cy (wpAny_newList ?_ hz)
 have g:(h1.push (seqObj "list" vs.toArray 0)).get? h1.objs.size=some (seqObj "list" vs.toArray 0):=Au _ rfl
 refine Cy (wpAny_holding (wpAny_call_entry slot_list_sort ⟨_,g,rfl⟩ entry_list_sort (list_sort_tree g hI (by have:=hI.length;lia) fun out ns' o1 o2 o3=>⟨_,rfl,?_⟩) (args_list_sort _)))
 obtain ⟨c,g2⟩:=Ki (vs:=vs) (out:=out) g
 refine C1 ⟨_,rfl,h h1 _ tk out.toList ns' c k1 (fun b o e=>Vh (Be (Ao e)) (Ad _ e)) (by rw [Array.toArray_toList];exact g2) o1 o2 o3⟩
theorem Gp (hc:X.calm=true):J7 X (.builtin "sorted") (fun xs H Q=>∃ p ns,xs=[.ref p]/\ns.length < 64/\QbY X.K H p ns/\∀ l,H l=none->Q (.ref l) (upd H l (.lst ((srt ns).map .int)))):=by
 intro O9 s σ H xs us Q I r h
 obtain ⟨p,ns,rfl,h64,hq,q⟩:=h
 have hh:X.A.handled=none:=I.ok.hd hc
 obtain ⟨u,rfl,rx⟩:=UH r
 cases rx
 have hz:ns.length<=sizeLine:=by
  rcases hq with hq | ⟨kvs,hq,e⟩
  ·have:=(I.list hq).choose_spec.2.2;simpa using this
  ·have a:=(VI I.hok hq).1
   have b:=congrArg List.length e
   simp at b;lia
 refine uz (ns:=ns) h64 (fun R hR=>?_) fun h1 h' tk out ns' c k1 k2 g o1 o2 o3=>?_
 ·rcases hq with hq | ⟨kvs,hq,e⟩
  ·obtain ⟨its,r',pl,z⟩:=I.list hq
   have hI:=KC r'
   have hl:its.length=ns.length:=by have:=r'.length;simpa using this.symm
   have R1:=hR ((s.heap.push (seqObj "list" #[] 0)).update s.heap.objs.size (Obj.mapSeq (· ++ its.toArray))) s.toks its hI (by lia) fun b o e=>by
    have hlt:b < s.heap.objs.size:=Ao e
    rw [Heap.get?_update_ne _ _ _ _ (Be hlt)];exact Ad _ e
   exact collect_list pl.isList R1 (by lia)
  ·obtain ⟨_,lo,vs,kv,hd⟩:=VI I.hok hq
   obtain ⟨ep,hat⟩:=hd.dictAt
   have kl:vs.map (·.1)=ns.map Sum.inl:=(Qaq kv).trans e
   have hvl:vs.length=ns.length:=by have:=congrArg List.length kl;simpa using this
   refine PySem.W.kdu_collect (PySem.W.kdl_dict (knd:=ZC X.prog X.w) (kvs:=vs) (ep:=ep) lo) hh hat (by lia) fun h1 tk acc k1 it=>hR h1 tk acc.toList (Qak ?_ fun j u n a b=>?_) ?_ k1
   ·rw [Array.length_toList,it.1,hvl]
   ·obtain ⟨k,x,e1,e2⟩:=it.2 j u (by simpa using a)
    have:k=Sum.inl n:=by
     have e3:=congrArg (fun l=>l[j]?) kl
     simp [e1,b] at e3
     exact e3
    subst this
    rcases ZV (show VR (Sum.inl n) u=true from e2) with ⟨i,t,h1,h2⟩ | ⟨_,_,h1,_⟩
    ·cases h1;exact ⟨t,h2⟩
    ·cases h1
   ·rw [Array.length_toList,it.1];lia
 ·obtain rfl:=Uz o2 o3
  have I1:Inv X O9 σ H { s with heap:=h1,toks:=tk }:=I.kept k1
  have hlen:(srt ns).length<=sizeLine:=by rw [(Uy ns).length_eq];exact hz
  exact ⟨.ref h1.objs.size,_,I1.laid (t':=tk) k2 (Ae _) (show ObjOk X.prog X.w _ h' _ (.lst ((srt ns).map .int)) from ⟨by simpa using hlen,out,c,qt o1,g⟩),rfl,q _ (I1.hok.fresh (Ae _))⟩
def yT:List DV->M DV:=QeN fun d=>do let ns <- QcK d;Qx (decide (ns.length < 64));pure (.lst ((srt ns).map .int))
theorem xZ (hc:X.calm=true):J7 X (.builtin "sorted") (tPn X.K yT):=by
  intro O9 s σ H xs us Q I r h
  obtain ⟨ρ,B,hp,ds,d,hp',W,rl,e,k⟩:=h
  obtain ⟨x,rfl,e⟩:=KL e
  obtain ⟨ns,hp1,e1,e2⟩:=Qg e
  obtain ⟨_,hp9,e9,e2⟩:=Qg e2
  obtain ⟨h64,rfl⟩:=QK e9
  have h64:=C5 h64
  obtain ⟨rfl,rfl⟩:=Ql e2
  obtain ⟨v,rfl,rv⟩:=rl.oneI
  have key:hp=hp1/\∃ p,v=.ref p/\QbY X.K H p ns:=by
    cases x with
    | lst zs =>
      obtain ⟨h1,rfl⟩:=yo e1
      obtain ⟨a,ys,rfl,_,sq,l⟩:=rv.lstI
      exact ⟨rfl,a,rfl,.inl (x5 h1 l▸sq)⟩
    | ref n =>
      obtain ⟨o,hp2,e3,e4⟩:=Qg (show (ZI n >>= fun o=>(match o with | .lst ds=>gK (Kt ds) | .dic kvs=>gK (xo kvs) | _=>failure:M (List Int))) hp=some (ns,hp1) from e1)
      obtain ⟨e5,rfl⟩:=ZJ e3
      cases o with
      | lst zs =>
        obtain ⟨h1,rfl⟩:=yo e4
        obtain ⟨a,rfl,_,ys,h2,l1⟩:=RepV.refW W rv e5
        exact ⟨rfl,a,rfl,.inl (x5 h1 l1▸SqL.of h2)⟩
      | dic kvs =>
        obtain ⟨h1,rfl⟩:=yo e4
        obtain ⟨a,rfl,_,ro⟩:=RepV.refW W rv e5
        obtain ⟨ys,h2,rk⟩:=ro.dic
        exact ⟨rfl,a,rfl,.inr ⟨ys,h2,rk.to.1.trans (VQ h1)⟩⟩
      | ins _ _=>cases e4
    | tup _=>cases e1
    | non=>cases e1
    | bl _=>cases e1
    | int _=>cases e1
    | str _=>cases e1
  obtain ⟨rfl,p,rfl,io⟩:=key
  exact Gp hc O9 s σ H _ us Q I r ⟨p,ns,rfl,h64,io,Vm W (KB _) k⟩
end D
namespace K34
open PySem PySem.Spec PyProof.Rows L2 D
def top (i:Nat):Stmt:=PySem.Challenge.pw_sidelink_k34_whole_as_if_at_one_moment.main.body.getD i (.Pass ⟨0,0,0,0⟩)
abbrev jw:Stmt:=Zj (top 30) 8
def jr:DSx:=QF (Zx Jy (Qc (Qz "Shelf" "kept" (Qb 0)) (Qn)))
def ZT:List DV->M DV:=Q9 1 jr
abbrev XT:Stmt:=Zj (top 30) 12
def XN:DSx:=sIf (Jx (eB (Z0 leD ltD (eC (.int 0)) (Qb 1) (Zx Jy (Qc (Qz "Shelf" "kept" (Qb 0)) (Qn)))))) (QdC) (Q6)
def Zu:List DV->M DV:=Q9 2 XN
abbrev xF:Stmt:=Zj (top 30) 1
def jU:DSx:=Qr (ZP (QJ "Shelf" "check_number" 2 Zu (Qb 0) (Qc (Qb 1) (Qn)))) (Qr (X6 "Shelf" "read_count" zo (Qb 0) (eC (.int 1))) (QF (Qk ixG (Qz "Shelf" "kept" (Qb 0)) (Qb 1))))
def Zy:List DV->M DV:=Q9 2 jU
abbrev xH:Stmt:=Zj (top 30) 4
def jW:DSx:=QF (Qz "Shelf" "top" (Qb 0))
def Z7:List DV->M DV:=Q9 1 jW
abbrev zU:Stmt:=top 38
def ZX:DSx:=Qr (QC 3 (QJ "Shelf" "read" 2 Zy (Qb 0) (Qc (Qb 1) (Qn)))) (Qr (sIf (eB (Qk eqG (Qk ixG (Qb 3) (eC (.int 0))) (eC (.int 0)))) (QF (Qb 1)) (Q6)) (QC 1 (Qk ixG (Qk ixG (Qb 3) (eC (.int 2))) (eC (.int 0)))))
def XB:DSx:=X7 (xOf (Vc (Qc (QJ "Shelf" "pages" 1 ZT (Qb 0) Qn) (Qn)))) (gN 2) (ZX)
def Vw:DSx:=Qr (QC 1 (QJ "Shelf" "root" 1 Z7 (Qb 0) Qn)) (Qr (XB) (QF (eC .non)))
def Xi:List DV->M DV:=Q9 4 Vw
abbrev yP:Stmt:=top 39
def XF:DEx:=Z4 false (xOf (Vc (Qc (Zx Jy (Qc (Qk ixG (Qb 4) (eC (.int 1))) (Qn))) (Qn)))) [4] (UA) (Zp (Qc (Qk ixG (Qk ixG (Qb 1) (eC (.int 1))) (Qb 0)) (Qc (Qk ixG (Qk ixG (Qb 1) (eC (.int 2))) (Qb 0)) (Qn))))
def Zr:DSx:=Qr (sIf (eB (Qk isD (Qb 2) (eC .non))) (QF (Qb 1)) (Q6)) (Qr (QC 4 (QJ "Shelf" "read" 2 Zy (Qb 0) (Qc (Qb 2) (Qn)))) (Qr (QC 1 (Qk Jd (Qb 1) (XF))) (QC 2 (Qk ixG (Qb 4) (eC (.int 4))))))
def YS:DSx:=X7 (xOf (Vc (Qc (QJ "Shelf" "pages" 1 ZT (Qb 0) Qn) (Qn)))) (gN 3) (Zr)
def vo:DSx:=Qr (QC 1 (qg (Qn))) (Qr (QC 2 (QI 1 Xi (Qc (Qb 0) (Qn)))) (Qr (YS) (QF (Qb 1))))
def J8:List DV->M DV:=Q9 5 vo
abbrev jA:Stmt:=Zj (top 27) 8
def XU:DEx:=Z4 false (xLs (Qz "Weaver" "held" (Qb 0))) [] (UA) (Qk isD (Qb 0) (eC .non))
def UV:DSx:=QF (Xn (Qk eqG (Qz "Weaver" "taken" (Qb 0)) (Zx Jy (Qc (Qz "Weaver" "deeds" (Qb 0)) (Qn)))) (Zx QhP (Qc (XU) (Qn))))
def J0:List DV->M DV:=Q9 1 UV
abbrev za:Stmt:=Zj (top 25) 0
def yX:DSx:=Qr (Zc "Walk" "shelf" (Qb 0) (Qb 1)) (Qr (Zc "Walk" "deed" (Qb 0) (Qb 2)) (Qr (Zc "Walk" "aim" (Qb 0) (Qk ixG (Qb 2) (eC (.int 1)))) (Qr (Zc "Walk" "goal" (Qb 0) (eC (.int 0))) (Qr (Zc "Walk" "place" (Qb 0) (eC .non)) (Qr (Zc "Walk" "forks" (Qb 0) (JY)) (Qr (Zc "Walk" "new_page" (Qb 0) (eC .non)) (Qr (Zc "Walk" "worth" (Qb 0) (eC .non)) (Qr (Zc "Walk" "pairs" (Qb 0) (XR (Qn))) (Zc "Walk" "ended" (Qb 0) (eC (.bl false)))))))))))
def Jr:List DV->M DV:=Q9 3 yX
abbrev Yx:Stmt:=Zj (top 27) 3
def jF:DSx:=Qr (QC 2 (Qz "Weaver" "taken" (Qb 0))) (Qr (Xw (Zp (Qc (Qb 2) (Qc (Xo "Walk" 3 Jr (Qc (Qz "Weaver" "shelf" (Qb 0)) (Qc (Qk ixG (Qz "Weaver" "deeds" (Qb 0)) (Qb 2)) (Qn)))) (Qn)))) (gSb (Qz "Weaver" "held" (Qb 0)) (Qb 1))) (Qr (X6 "Weaver" "taken" zo (Qb 0) (eC (.int 1))) (QF (Zp (Qc (eC (.str "take")) (Qc (Qb 1) (Qc (Qb 2) (Qn))))))))
def Jm:List DV->M DV:=Q9 3 jF
abbrev yL:Stmt:=Zj (top 25) 1
def vk:DSx:=QF (Qz "Walk" "ended" (Qb 0))
def XM:List DV->M DV:=Q9 1 vk
abbrev YM:Stmt:=Zj (top 25) 9
def Je:DEx:=Z4 true (xOf (QcI (Qk ixG (Qb 2) (eC (.int 1))) (Qk ixG (Qb 2) (eC (.int 2))))) [3,4] (eB (Z0 leD ltD (Qb 1) (Qk ixG (Qb 0) (eC (.int 0))) (Qb 2))) (Qb 0)
def jY:DSx:=Qr (QC 3 (Qk ixG (Qz "Walk" "deed" (Qb 0)) (eC (.int 1)))) (Qr (QC 4 (Qk ixG (Qz "Walk" "deed" (Qb 0)) (eC (.int 2)))) (Qr (QC 5 (Je)) (Qr (ZP (Z1 "list" xu (Qz "Walk" "pairs" (Qb 0)) (Qc (Qb 5) (Qn)))) (Qr (sIf (eOr (eB (Qk isD (Qk ixG (Qb 2) (eC (.int 3))) (eC .non))) (eB (Qk geD (Qk ixG (Qb 2) (eC (.int 3))) (Qb 4)))) (Qr (Zc "Walk" "ended" (Qb 0) (eC (.bl true))) (QF (Zp (Qc (eC (.str "read")) (Qc (Qb 1) (Qc (Zx Vi (Qc (Qb 5) (Qn))) (Qc (eC .non) (Qc (eC .non) (Qn))))))))) (Q6)) (Qr (Zc "Walk" "aim" (Qb 0) (Qk ixG (Qb 2) (eC (.int 3)))) (Qr (Zc "Walk" "place" (Qb 0) (Qk ixG (Qb 2) (eC (.int 4)))) (QF (Zp (Qc (eC (.str "read")) (Qc (Qb 1) (Qc (Zx Vi (Qc (Qb 5) (Qn))) (Qc (Qz "Walk" "place" (Qb 0)) (Qc (Qz "Walk" "aim" (Qb 0)) (Qn))))))))))))))
def Xg:List DV->M DV:=Q9 6 jY
abbrev jx:Stmt:=Zj (top 30) 2
def js:DSx:=Qr (ZP (QJ "Shelf" "check_number" 2 Zu (Qb 0) (Qc (Qb 1) (Qn)))) (Qr (X6 "Shelf" "write_count" zo (Qb 0) (eC (.int 1))) (Xw (Qb 2) (gSb (Qz "Shelf" "kept" (Qb 0)) (Qb 1))))
def Ju:List DV->M DV:=Q9 3 js
abbrev Ug:Stmt:=top 18
def uT:DSx:=QF (Zp (Qc (Qk ixD (Qb 0) (eC (.int 0))) (Qc (Qb 1) (Qc (Qb 2) (Qc (Qk ixD (Qb 0) (eC (.int 3))) (Qc (Qk ixD (Qb 0) (eC (.int 4))) (Qn)))))))
def qx:List DV->M DV:=Q9 3 uT
abbrev YO:Stmt:=top 20
def jm:DEx:=Z4 false (xOf (iTp (Qb 0))) [1] (eB (Qk leD (Qb 0) (Qb 1))) (Qb 0)
def j2:DSx:=QF (Zx Jy (Qc (jm) (Qn)))
def Zz:List DV->M DV:=Q9 2 j2
abbrev jC:Stmt:=top 19
def yW:DEx:=Z4 false (xOf (iTp (Qb 0))) [1] (eB (Qk ltD (Qb 0) (Qb 1))) (Qb 0)
def UX:DSx:=QF (Zx Jy (Qc (yW) (Qn)))
def XH:List DV->M DV:=Q9 2 UX
abbrev Ui:Stmt:=top 17
def uV:DSx:=Qr (QC 4 (Qk ixD (Qb 0) (eC (.int 1)))) (Qr (QC 5 (Qk ixD (Qb 0) (eC (.int 2)))) (Qr (QC 6 (QI 2 XH (Qc (Qb 4) (Qc (Qb 1) (Qn))))) (Qr (QC 7 (QI 2 Zz (Qc (Qb 4) (Qc (Qb 1) (Qn))))) (QF (QI 3 qx (Qc (Qb 0) (Qc (Qk Jd (Qk Jd (eSl (Qb 4) (ZN) (ZO (Qb 6))) (Qb 2)) (eSl (Qb 4) (ZO (Qb 7)) (ZN))) (Qc (Qk Jd (Qk Jd (eSl (Qb 5) (ZN) (ZO (Qb 6))) (Qb 3)) (eSl (Qb 5) (ZO (Qb 7)) (ZN))) (Qn)))))))))
def qz:List DV->M DV:=Q9 8 uV
abbrev KS:Stmt:=top 15
def Qa1:DSx:=QF (QI 4 qz (Qc (Qb 0) (Qc (Qb 1) (Qc (Zp (Qn)) (Qc (Zp (Qn)) (Qn))))))
def xT:List DV->M DV:=Q9 2 Qa1
abbrev Uj:Stmt:=top 13
def uW:DSx:=Qr (QC 2 (Qk ixD (Qb 0) (eC (.int 1)))) (Qr (QC 3 (QI 2 XH (Qc (Qb 2) (Qc (Qb 1) (Qn))))) (Qr (sIf (eB (Qk eqD (Qb 3) (QI 2 Zz (Qc (Qb 2) (Qc (Qb 1) (Qn)))))) (QF (eC .non)) (Q6)) (QF (Qk ixD (Qk ixD (Qb 0) (eC (.int 2))) (Qb 3)))))
def J5:List DV->M DV:=Q9 4 uW
abbrev zR:Stmt:=Zj (top 25) 8
def Vt:DSx:=Qr (Zc "Walk" "worth" (Qb 0) (QI 2 J5 (Qc (Qb 2) (Qc (Qz "Walk" "aim" (Qb 0)) (Qn))))) (Qr (sIf (eB (Qk Ve (Qz "Walk" "worth" (Qb 0)) (eC .non))) (ZP (QJ "Shelf" "write" 3 Ju (Qz "Walk" "shelf" (Qb 0)) (Qc (Qb 1) (Qc (QI 2 xT (Qc (Qb 2) (Qc (Qz "Walk" "aim" (Qb 0)) (Qn)))) (Qn))))) (Q6)) (Qr (Zc "Walk" "ended" (Qb 0) (eC (.bl true))) (QF (Zp (Qc (eC (.str "cut")) (Qc (Qb 1) (Qc (Qz "Walk" "worth" (Qb 0)) (Qn))))))))
def Yk:List DV->M DV:=Q9 3 Vt
abbrev yK:Stmt:=Zj (top 30) 3
def yz:DSx:=Qr (X6 "Shelf" "write_count" zo (Qb 0) (eC (.int 1))) (Qr (ZP (Z1 "list" ZD (Qz "Shelf" "kept" (Qb 0)) (Qc (Qb 1) (Qn)))) (QF (Qk xQ (Zx Jy (Qc (Qz "Shelf" "kept" (Qb 0)) (Qn))) (eC (.int 1)))))
def XL:List DV->M DV:=Q9 2 yz
abbrev uq:Stmt:=top 23
def Qb6:DSx:=Qr (QC 2 (Qk ixD (Qb 0) (eC (.int 0)))) (Qr (QC 3 (Qk ixD (Qb 0) (eC (.int 1)))) (Qr (QC 4 (Qk ixD (Qb 0) (eC (.int 2)))) (Qr (QC 5 (Qk YX (Zx qN (Qc (Qb 3) (Qn))) (eC (.int 2)))) (Qr (QC 6 (Qk ixD (Qb 3) (Qb 5))) (Qr (QC 7 (eIf (eB (Qk eqD (Qb 2) (eC (.int 0)))) (Qb 5) (Qk Jd (Qb 5) (eC (.int 1))))) (Qr (QC 8 (Zp (Qc (Qb 2) (Qc (eSl (Qb 3) (ZN) (ZO (Qb 5))) (Qc (eSl (Qb 4) (ZN) (ZO (Qb 7))) (Qc (Qb 6) (Qc (Qb 1) (Qn)))))))) (Qr (QC 9 (Zp (Qc (Qb 2) (Qc (eSl (Qb 3) (ZO (Qb 7)) (ZN)) (Qc (eSl (Qb 4) (ZO (Qb 7)) (ZN)) (Qc (Qk ixD (Qb 0) (eC (.int 3))) (Qc (Qk ixD (Qb 0) (eC (.int 4))) (Qn)))))))) (QF (Zp (Qc (Qb 8) (Qc (Qb 9) (Qc (Qb 6) (Qn)))))))))))))
def jR:List DV->M DV:=Q9 10 Qb6
abbrev xG:Stmt:=Zj (top 30) 7
def jV:DSx:=QF (Qz "Shelf" "page_room" (Qb 0))
def Jl:List DV->M DV:=Q9 1 jV
abbrev KP:Stmt:=top 22
def QaY:DSx:=QF (Qk gtD (Zx qN (Qc (Qk ixD (Qb 0) (eC (.int 1))) (Qn))) (Qb 1))
def Yg:List DV->M DV:=Q9 2 QaY
abbrev jy:Stmt:=Zj (top 25) 12
def UU:DSx:=Qr (sIf (Jx (eB (QI 2 Yg (Qc (Qb 2) (Qc (QJ "Shelf" "room" 1 Jl (Qz "Walk" "shelf" (Qb 0)) Qn) (Qn)))))) (Qr (ZP (QJ "Shelf" "write" 3 Ju (Qz "Walk" "shelf" (Qb 0)) (Qc (Qb 1) (Qc (Qb 2) (Qn))))) (Qr (Zc "Walk" "ended" (Qb 0) (eC (.bl true))) (QF (eC .non)))) (Q6)) (Qr (QC 3 (QI 2 jR (Qc (Qb 2) (Qc (QJ "Shelf" "pages" 1 ZT (Qz "Walk" "shelf" (Qb 0)) Qn) (Qn))))) (Qr (Zc "Walk" "new_page" (Qb 0) (QJ "Shelf" "lay" 2 XL (Qz "Walk" "shelf" (Qb 0)) (Qc (Qk ixG (Qb 3) (eC (.int 1))) (Qn)))) (Qr (ZP (QJ "Shelf" "write" 3 Ju (Qz "Walk" "shelf" (Qb 0)) (Qc (Qb 1) (Qc (Qk ixG (Qb 3) (eC (.int 0))) (Qn))))) (Qr (Zc "Walk" "aim" (Qb 0) (Qk ixG (Qb 3) (eC (.int 2)))) (Qr (Zc "Walk" "goal" (Qb 0) (Qk Jd (Qk ixG (Qb 2) (eC (.int 0))) (eC (.int 1)))) (Qr (Zc "Walk" "place" (Qb 0) (Z1 "dict" JD (Qz "Walk" "forks" (Qb 0)) (Qc (Qz "Walk" "goal" (Qb 0)) (Qn)))) (QF (Qz "Walk" "new_page" (Qb 0)))))))))
def XG:List DV->M DV:=Q9 4 UU
abbrev yR:Stmt:=top 14
def vq:DSx:=QF (QI 4 qz (Qc (Qb 0) (Qc (Qb 1) (Qc (Zp (Qc (Qb 1) (Qn))) (Qc (Zp (Qc (Qb 2) (Qn))) (Qn))))))
def zk:List DV->M DV:=Q9 3 vq
abbrev zd:Stmt:=Zj (top 25) 7
def yY:DSx:=Qr (Zc "Walk" "worth" (Qb 0) (QI 2 J5 (Qc (Qb 2) (Qc (Qz "Walk" "aim" (Qb 0)) (Qn))))) (Qr (QC 3 (QJ "Walk" "settle" 3 XG (Qb 0) (Qc (Qb 1) (Qc (QI 3 zk (Qc (Qb 2) (Qc (Qz "Walk" "aim" (Qb 0)) (Qc (Qk ixG (Qz "Walk" "deed" (Qb 0)) (eC (.int 2))) (Qn))))) (Qn))))) (QF (Zp (Qc (eC (.str "put")) (Qc (Qb 1) (Qc (Qz "Walk" "worth" (Qb 0)) (Qc (Qb 3) (Qn))))))))
def XV:List DV->M DV:=Q9 4 yY
abbrev YL:Stmt:=Zj (top 25) 6
def jX:DSx:=Qr (Zc "Walk" "worth" (Qb 0) (QI 2 J5 (Qc (Qb 2) (Qc (Qz "Walk" "aim" (Qb 0)) (Qn))))) (Qr (Zc "Walk" "ended" (Qb 0) (eC (.bl true))) (QF (Zp (Qc (eC (.str "found")) (Qc (Qb 1) (Qc (Qz "Walk" "worth" (Qb 0)) (Qn)))))))
def Xf:List DV->M DV:=Q9 3 jX
abbrev zS:Stmt:=Zj (top 25) 5
def Vu:DSx:=Qr (QC 3 (Qk ixG (Qz "Walk" "deed" (Qb 0)) (eC (.int 0)))) (Qr (sIf (eB (Qk eqG (Qb 3) (eC (.str "find")))) (QF (QJ "Walk" "find_worth" 3 Xf (Qb 0) (Qc (Qb 1) (Qc (Qb 2) (Qn))))) (Q6)) (Qr (sIf (eB (Qk eqG (Qb 3) (eC (.str "put")))) (QF (QJ "Walk" "put_pair" 3 XV (Qb 0) (Qc (Qb 1) (Qc (Qb 2) (Qn))))) (Q6)) (Qr (sIf (eB (Qk eqG (Qb 3) (eC (.str "cut")))) (QF (QJ "Walk" "cut_key" 3 Yk (Qb 0) (Qc (Qb 1) (Qc (Qb 2) (Qn))))) (Q6)) (QF (QJ "Walk" "read_pairs" 3 Xg (Qb 0) (Qc (Qb 1) (Qc (Qb 2) (Qn))))))))
def Yl:List DV->M DV:=Q9 4 Vu
abbrev Uh:Stmt:=top 16
def uU:DSx:=Qr (QC 3 (Qk ixD (Qb 0) (eC (.int 1)))) (Qr (QC 4 (Qk ixD (Qb 0) (eC (.int 2)))) (Qr (QC 5 (QI 2 Zz (Qc (Qb 3) (Qc (Qb 1) (Qn))))) (Qr (QC 6 (Qk Jd (Qb 5) (eC (.int 1)))) (QF (QI 3 qx (Qc (Qb 0) (Qc (Qk Jd (Qk Jd (eSl (Qb 3) (ZN) (ZO (Qb 5))) (Zp (Qc (Qb 1) (Qn)))) (eSl (Qb 3) (ZO (Qb 5)) (ZN))) (Qc (Qk Jd (Qk Jd (eSl (Qb 4) (ZN) (ZO (Qb 6))) (Zp (Qc (Qb 2) (Qn)))) (eSl (Qb 4) (ZO (Qb 6)) (ZN))) (Qn)))))))))
def qy:List DV->M DV:=Q9 7 uU
abbrev qo:Stmt:=Zj (top 25) 10
def xV:DSx:=Qr (QC 3 (QJ "Walk" "settle" 3 XG (Qb 0) (Qc (Qb 1) (Qc (QI 3 qy (Qc (Qb 2) (Qc (Qz "Walk" "aim" (Qb 0)) (Qc (Qz "Walk" "new_page" (Qb 0)) (Qn))))) (Qn))))) (QF (Zp (Qc (eC (.str "told")) (Qc (Qb 1) (Qc (Qb 3) (Qn))))))
def Xz:List DV->M DV:=Q9 4 xV
abbrev xI:Stmt:=Zj (top 25) 4
def Gn:DSx:=Qr (Zc "Walk" "place" (Qb 0) (Qb 3)) (QF (Zp (Qc (Qb 1) (Qc (Qb 2) (Qc (Qb 3) (Qn))))))
def JR:List DV->M DV:=Q9 4 Gn
abbrev KQ:Stmt:=top 12
def QaZ:DSx:=QF (Qk ixD (Qk ixD (Qb 0) (eC (.int 2))) (QI 2 Zz (Qc (Qk ixD (Qb 0) (eC (.int 1))) (Qc (Qb 1) (Qn)))))
def Y9:List DV->M DV:=Q9 2 QaZ
abbrev uo:Stmt:=top 11
def Qb5:DSx:=Qr (QC 2 (Qk ixD (Qb 0) (eC (.int 3)))) (QF (Xn (Qk Ve (Qb 2) (eC .non)) (Qk geD (Qb 1) (Qb 2))))
def Y8:List DV->M DV:=Q9 3 Qb5
abbrev Yv:Stmt:=Zj (top 30) 6
def Yn:DSx:=Qr (ZP (QJ "Shelf" "check_number" 2 Zu (Qb 0) (Qc (Qb 2) (Qn)))) (Qr (QC 3 (Qk Jd (Qk ixG (Qk ixG (Qz "Shelf" "kept" (Qb 0)) (Qz "Shelf" "top" (Qb 0))) (eC (.int 0))) (eC (.int 1)))) (Qr (Zc "Shelf" "top" (Qb 0) (QJ "Shelf" "lay" 2 XL (Qb 0) (Qc (Zp (Qc (Qb 3) (Qc (Zp (Qc (Qb 1) (Qn))) (Qc (Zp (Qc (Qz "Shelf" "top" (Qb 0)) (Qc (Qb 2) (Qn)))) (Qc (eC .non) (Qc (eC .non) (Qn))))))) (Qn)))) (QF (Qz "Shelf" "top" (Qb 0)))))
def ZY:List DV->M DV:=Q9 4 Yn
abbrev Xu:Stmt:=Zj (top 25) 11
def qC:DSx:=Qr (Zc "Walk" "ended" (Qb 0) (eC (.bl true))) (QF (Zp (Qc (eC (.str "raised")) (Qc (Qb 1) (Qc (QJ "Shelf" "raise_root" 3 ZY (Qz "Walk" "shelf" (Qb 0)) (Qc (Qz "Walk" "aim" (Qb 0)) (Qc (Qz "Walk" "new_page" (Qb 0)) (Qn)))) (Qn))))))
def ZQ:List DV->M DV:=Q9 2 qC
abbrev yM:Stmt:=Zj (top 25) 3
def vm:DSx:=Qr (sIf (eB (Qz "Walk" "ended" (Qb 0))) (QF (eC .non)) (Q6)) (Qr (QC 1 (eIf (eB (Qk isD (Qz "Walk" "place" (Qb 0)) (eC .non))) (QJ "Shelf" "root" 1 Z7 (Qz "Walk" "shelf" (Qb 0)) Qn) (Qz "Walk" "place" (Qb 0)))) (Qr (QC 2 (QJ "Shelf" "read" 2 Zy (Qz "Walk" "shelf" (Qb 0)) (Qc (Qb 1) (Qn)))) (Qr (sIf (YA (eB (Qk isD (Qz "Walk" "place" (Qb 0)) (eC .non))) (eB (Qk ltD (Qk ixG (Qb 2) (eC (.int 0))) (Qz "Walk" "goal" (Qb 0))))) (QF (QJ "Walk" "raise_root_over" 2 ZQ (Qb 0) (Qc (Qb 1) (Qn)))) (Q6)) (Qr (sIf (eB (QI 2 Y8 (Qc (Qb 2) (Qc (Qz "Walk" "aim" (Qb 0)) (Qn))))) (QF (QJ "Walk" "go_on" 4 JR (Qb 0) (Qc (eC (.str "side")) (Qc (Qb 1) (Qc (Qk ixG (Qb 2) (eC (.int 4))) (Qn)))))) (Q6)) (Qr (sIf (eB (Qk gtD (Qk ixG (Qb 2) (eC (.int 0))) (Qz "Walk" "goal" (Qb 0)))) (Qr (Xw (Qb 1) (gSb (Qz "Walk" "forks" (Qb 0)) (Qk ixG (Qb 2) (eC (.int 0))))) (QF (QJ "Walk" "go_on" 4 JR (Qb 0) (Qc (eC (.str "down")) (Qc (Qb 1) (Qc (QI 2 Y9 (Qc (Qb 2) (Qc (Qz "Walk" "aim" (Qb 0)) (Qn)))) (Qn))))))) (Q6)) (Qr (sIf (eB (Qk gtD (Qz "Walk" "goal" (Qb 0)) (eC (.int 0)))) (QF (QJ "Walk" "tell_fork" 3 Xz (Qb 0) (Qc (Qb 1) (Qc (Qb 2) (Qn))))) (Q6)) (QF (QJ "Walk" "do_deed" 3 Yl (Qb 0) (Qc (Qb 1) (Qc (Qb 2) (Qn)))))))))))
def YC:List DV->M DV:=Q9 3 vm
abbrev Yw:Stmt:=Zj (top 27) 4
def jE:DSx:=Qr (QC 2 (Qk ixG (Qz "Weaver" "held" (Qb 0)) (Qb 1))) (Qr (QC 3 (Qk ixG (Qb 2) (eC (.int 1)))) (Qr (QC 4 (QJ "Walk" "step" 1 YC (Qb 3) Qn)) (Qr (sIf (eB (QJ "Walk" "over" 1 XM (Qb 3) Qn)) (Qr (Xw (eC .non) (gSb (Qz "Weaver" "held" (Qb 0)) (Qb 1))) (ZP (Z1 "list" ZD (Qz "Weaver" "done" (Qb 0)) (Qc (Qb 2) (Qn))))) (Q6)) (QF (Qk Jd (Zp (Qc (Qk ixG (Qb 4) (eC (.int 0))) (Qc (Qb 1) (Qc (Qk ixG (Qb 2) (eC (.int 0))) (Qn))))) (eSl (Qb 4) (ZO (eC (.int 1))) (ZN)))))))
def J4:List DV->M DV:=Q9 5 jE
abbrev jB:Stmt:=Zj (top 27) 2
def UW:DSx:=Qr (sIf (Jx (eB (Z0 leD ltD (eC (.int 0)) (Qb 1) (Zx Jy (Qc (Qz "Weaver" "held" (Qb 0)) (Qn)))))) (QdC) (Q6)) (Qr (sIf (eB (Qk Ve (Qk ixG (Qz "Weaver" "held" (Qb 0)) (Qb 1)) (eC .non))) (QF (QJ "Weaver" "step_walk" 2 J4 (Qb 0) (Qc (Qb 1) (Qn)))) (Q6)) (Qr (sIf (eB (Qk ltD (Qz "Weaver" "taken" (Qb 0)) (Zx Jy (Qc (Qz "Weaver" "deeds" (Qb 0)) (Qn))))) (QF (QJ "Weaver" "take_deed" 2 Jm (Qb 0) (Qc (Qb 1) (Qn)))) (Q6)) (QF (Zp (Qc (eC (.str "rest")) (Qc (Qb 1) (Qn)))))))
def ZG:List DV->M DV:=Q9 2 UW
abbrev ze:Stmt:=Zj (top 27) 5
def YI:DSx:=Qr (ZP (Z1 "list" ZD (Qb 1) (Qc (QJ "Weaver" "move" 2 ZG (Qb 0) (Qc (Qb 2) (Qn))) (Qn)))) (QC 2 (Qk XS (Qk Jd (Qb 2) (eC (.int 1))) (Zx Jy (Qc (Qz "Weaver" "held" (Qb 0)) (Qn)))))
def jS:DSx:=X2 (Jx (eB (QJ "Weaver" "idle" 1 J0 (Qb 0) Qn))) (YI) 100000
def yZ:DSx:=Qr (QC 1 (XR (Qn))) (Qr (QC 2 (eC (.int 0))) (Qr (jS) (QF (Qb 1))))
def Z5:List DV->M DV:=Q9 3 yZ
abbrev yQ:Stmt:=top 36
def vp:DSx:=QF (Xn (Qgk "int" (Qb 0)) (qh (Qgk "bool" (Qb 0))))
def yx:List DV->M DV:=Q9 1 vp
abbrev Uf:Stmt:=top 37
def qM (self:Ef):DSx:=sIf (Jx (eB (QI 2 self (Qc (Qb 2) (Qc (Qb 3) (Qn)))))) (QF (eC (.bl false))) (Q6)
def qA (self:Ef):DSx:=X7 (QhK (Qb 0) (Qb 1)) (gT [2,3]) (qM self)
def Yo (self:Ef):DSx:=Qr (sIf (eOr (eB (xb "tuple" (Qb 1))) (eB (xb "list" (Qb 1)))) (Qr (sIf (eOr (eB (Qk neG (xb "tuple" (Qb 0)) (xb "tuple" (Qb 1)))) (eB (Qk neG (xb "list" (Qb 0)) (xb "list" (Qb 1))))) (QF (eC (.bl false))) (Q6)) (Qr (sIf (eB (Qk neG (Zx Jy (Qc (Qb 0) (Qn))) (Zx Jy (Qc (Qb 1) (Qn))))) (QF (eC (.bl false))) (Q6)) (Qr (qA self) (QF (eC (.bl true)))))) (Q6)) (Qr (sIf (eB (Qk isD (Qb 1) (eC .non))) (QF (Qk isD (Qb 0) (eC .non))) (Q6)) (Qr (sIf (eB (xb "str" (Qb 1))) (QF (Xn (xb "str" (Qb 0)) (Qk eqG (Qb 0) (Qb 1)))) (Q6)) (QF (Xn (QI 1 yx (Qc (Qb 0) (Qn))) (Qk eqG (Qb 0) (Qb 1))))))
def QX:Nat->List DV->M DV
 | 0=>fun _=>failure
 | n+1=>Q9 4 (Yo (QX n))
abbrev Ue:Stmt:=top 40
def JQ:DEx:=Z4 false (xLs (Zx yT (Qc (Qb 2) (Qn)))) [6,7,2] (eB (Z0 leD ltD (Qb 1) (Qb 0) (Qb 2))) (Zp (Qc (Qb 0) (Qc (Qk ixG (Qb 3) (Qb 0)) (Qn))))
def uS:DSx:=Qr (QC 4 (Qk ixG (Qb 0) (eC (.int 0)))) (Qr (sIf (eB (Qk gH (Qb 4) (Zp (Qc (eC (.str "found")) (Qc (eC (.str "put")) (Qc (eC (.str "cut")) (Qc (eC (.str "read")) (Qn)))))))) (QF (eC (.bl true))) (Q6)) (Qr (QC 5 (Qk ixG (Qb 1) (Qk ixG (Qb 0) (eC (.int 2))))) (Qr (sIf (eB (Qk neG (Qk ixG (Qb 5) (eC (.int 0))) (Z1 "dict" JD (YF [(eC (.str "found"),eC (.str "find")),(eC (.str "read"),eC (.str "stretch"))]) (Qc (Qb 4) (Qc (Qb 4) (Qn)))))) (QF (eC (.bl false))) (Q6)) (Qr (sIf (eB (Qk eqG (Qb 4) (eC (.str "read")))) (Qr (QC 6 (Z1 "dict" JD (Qb 3) (Qc (Qk ixG (Qb 0) (eC (.int 2))) (Qc (Qk ixG (Qb 5) (eC (.int 1))) (Qn))))) (Qr (QC 7 (Qk ixG (Qb 5) (eC (.int 2)))) (Qr (sIf (eB (Qk Ve (Qk ixG (Qb 0) (eC (.int 6))) (eC .non))) (Qr (sIf (Jx (eB (Z0 ltD ltD (Qb 6) (Qk ixG (Qb 0) (eC (.int 6))) (Qb 7)))) (QF (eC (.bl false))) (Q6)) (Qr (QC 7 (Qk ixG (Qb 0) (eC (.int 6)))) (Xw (Qb 7) (gSb (Qb 3) (Qk ixG (Qb 0) (eC (.int 2))))))) (Q6)) (QF (QI 2 (QX 6) (Qc (Qk ixG (Qb 0) (eC (.int 4))) (Qc (Zx Vi (Qc (JQ) (Qn))) (Qn)))))))) (Q6)) (Qr (sIf (Jx (eB (QI 2 (QX 6) (Qc (Qk ixG (Qb 0) (eC (.int 4))) (Qc (Z1 "dict" JD (Qb 2) (Qc (Qk ixG (Qb 5) (eC (.int 1))) (Qn))) (Qn)))))) (QF (eC (.bl false))) (Q6)) (Qr (sIf (eB (Qk eqG (Qb 4) (eC (.str "put")))) (Xw (Qk ixG (Qb 5) (eC (.int 2))) (gSb (Qb 2) (Qk ixG (Qb 5) (eC (.int 1))))) (Q6)) (Qr (sIf (YA (eB (Qk eqG (Qb 4) (eC (.str "cut")))) (eB (Qk inG (Qk ixG (Qb 5) (eC (.int 1))) (Qb 2)))) (ZP (Z1 "dict" YJ (Qb 2) (Qc (Qk ixG (Qb 5) (eC (.int 1))) (Qn)))) (Q6)) (QF (eC (.bl true))))))))))
def ZE:List DV->M DV:=Q9 8 uS
abbrev zT:Stmt:=top 41
def Y7:DEx:=Z4 false (xLs (Zx yT (Qc (Qb 3) (Qn)))) [3] (UA) (Zp (Qc (Qb 0) (Qc (Qk ixG (Qb 1) (Qb 0)) (Qn))))
def Vv:DSx:=Qr (sIf (Jx (eB (QI 4 ZE (Qc (Qb 1) (Qc (Qb 2) (Qc (Qb 3) (Qc (Qb 4) (Qn)))))))) (QF (eC (.bl false))) (Q6)) (Qr (sIf (eB (Qk inG (Qk ixG (Qb 1) (eC (.int 0))) (Zp (Qc (eC (.str "put")) (Qc (eC (.str "cut")) (Qc (eC (.str "found")) (Qc (eC (.str "read")) (Qn)))))))) (QF (Qk eqG (QI 1 J8 (Qc (Qb 0) (Qn))) (Y7))) (Q6)) (QF (eC (.bl true))))
def Xh:List DV->M DV:=Q9 5 Vv
abbrev qp:Stmt:=Zj (top 27) 1
def xW:DSx:=Qr (ZP (Z1 "list" ZD (Qz "Weaver" "deeds" (Qb 0)) (Qc (Qb 1) (Qn)))) (QF (Qk xQ (Zx Jy (Qc (Qz "Weaver" "deeds" (Qb 0)) (Qn))) (eC (.int 1))))
def ZW:List DV->M DV:=Q9 2 xW
abbrev KR:Stmt:=top 33
def Qa0:DSx:=Qr (QC 1 (Qk YX (Qb 0) (eC (.int 6)))) (Qr (sIf (eB (Qk eqD (Qk XS (Qb 0) (eC (.int 6))) (eC (.int 0)))) (QF (Qk xQ (Qk XS (Qk QeK (Qb 1) (Qk Y4 (eC (.int 1000000007)) (eC (.int 3)))) (Qk Jd (Qk Qbw (eC (.int 2)) (Qk Y4 (eC (.int 10)) (eC (.int 30)))) (eC (.int 1)))) (Qk Y4 (eC (.int 10)) (eC (.int 30))))) (Q6)) (Qr (sIf (eB (Qk eqD (Qk XS (Qb 0) (eC (.int 6))) (eC (.int 1)))) (QF (Qk ixD (qg (Qc (Qk Y4 (eC (.int 10)) (eC (.int 30))) (Qc (YB (Qk Y4 (eC (.int 10)) (eC (.int 30)))) (Qc (Qk xQ (Qk Y4 (eC (.int 10)) (eC (.int 30))) (eC (.int 1))) (Qc (Qk xQ (eC (.int 1)) (Qk Y4 (eC (.int 10)) (eC (.int 30)))) (Qn)))))) (Qk XS (Qb 1) (eC (.int 4))))) (Q6)) (QF (Qk xQ (Qk XS (Qb 1) (eC (.int 17))) (eC (.int 5))))))
def XA:List DV->M DV:=Q9 2 Qa0
abbrev Ud:Stmt:=top 34
def uR:DSx:=Qr (QC 1 (Qk XS (Qb 0) (eC (.int 9)))) (Qr (QC 2 (QI 1 XA (Qc (Qk YX (Qb 0) (eC (.int 9))) (Qn)))) (Qr (sIf (eB (Qk eqD (Qb 1) (eC (.int 0)))) (QF (Zp (Qc (eC (.str "find")) (Qc (Qb 2) (Qn))))) (Q6)) (Qr (sIf (eB (Qk ltD (Qb 1) (eC (.int 5)))) (QF (Zp (Qc (eC (.str "put")) (Qc (Qb 2) (Qc (QI 1 XA (Qc (Qk YX (Qb 0) (eC (.int 37))) (Qn))) (Qn)))))) (Q6)) (Qr (sIf (eB (Qk ltD (Qb 1) (eC (.int 7)))) (QF (Zp (Qc (eC (.str "cut")) (Qc (Qb 2) (Qn))))) (Q6)) (Qr (QC 3 (QI 1 XA (Qc (Qk YX (Qb 0) (eC (.int 131))) (Qn)))) (Qr (sIf (eB (Qk eqD (Qb 3) (Qb 2))) (QC 3 (Qk xQ (Qb 2) (eC (.int 1)))) (Q6)) (Qr (sIf (eB (Qk ltD (Qb 3) (YB (Qk Y4 (eC (.int 10)) (eC (.int 30)))))) (QC 3 (Qk Jd (Qb 2) (eC (.int 1)))) (Q6)) (QF (Zp (Qc (eC (.str "stretch")) (Qc (Zx QeJ (Qc (Qb 2) (Qc (Qb 3) (Qn)))) (Qc (Zx QeG (Qc (Qb 2) (Qc (Qb 3) (Qn)))) (Qn)))))))))))))
def Ym:List DV->M DV:=Q9 4 uR
abbrev yO:Stmt:=top 35
def jq:DEx:=Z4 true (xOf (Vc (Qc (Qk XS (Qb 0) (eC (.int 24))) (Qn)))) [1] (UA) (Zp (Qc (eC (.str "put")) (Qc (Qk xQ (Qk XS (Qk Qbw (Qb 0) (Qb 1)) (eC (.int 47))) (eC (.int 9))) (Qc (Qk Jd (eC (.int 100)) (Qb 0)) (Qn)))))
def vn:DSx:=Qr (QC 1 (Qk ixG (qg (Qc (eC (.int 7)) (Qc (eC (.int 11)) (Qc (eC (.int 23)) (Qc (eC (.int 1)) (Qc (eC (.int 46)) (Qn))))))) (Qk XS (Qk YX (Qb 0) (eC (.int 24))) (eC (.int 5))))) (QF (jq))
def YD:List DV->M DV:=Q9 2 vn
abbrev YN:Stmt:=Zj (top 27) 0
def jZ:DSx:=Qr (Zc "Weaver" "shelf" (Qb 0) (Qb 1)) (Qr (Zc "Weaver" "deeds" (Qb 0) (XR (Qn))) (Qr (Zc "Weaver" "taken" (Qb 0) (eC (.int 0))) (Qr (Zc "Weaver" "held" (Qb 0) (Qk Qc6 (qg (Qc (eC .non) (Qn))) (Qb 2))) (Zc "Weaver" "done" (Qb 0) (XR (Qn))))))
def Jz:List DV->M DV:=Q9 3 jZ
abbrev qm:Stmt:=Zj (top 30) 0
def qd:DSx:=Qr (Zc "Shelf" "page_room" (Qb 0) (Qb 1)) (Qr (Zc "Shelf" "kept" (Qb 0) (XR (Qc (eC (.tup [.int 0,.tup [],.tup [],.non,.non])) (Qn)))) (Qr (Zc "Shelf" "top" (Qb 0) (eC (.int 0))) (Qr (Zc "Shelf" "read_count" (Qb 0) (eC (.int 0))) (Zc "Shelf" "write_count" (Qb 0) (eC (.int 0))))))
def Jk:List DV->M DV:=Q9 2 qd
abbrev jD:Stmt:=top 32
def YU:DSx:=Qr (sIf (eB (Qk ltD (Qb 1) (Zx qN (Qc (Qb 0) (Qn))))) (QF (Qk ixD (Qb 0) (Qb 1))) (Q6)) (QF (eC (.int 0)))
def Jv:List DV->M DV:=Q9 2 YU
abbrev yN:Stmt:=top 42
def kD:DEx:=Z4 false (xLs (Zx yT (Qc (Qb 6) (Qn)))) [6] (UA) (Zp (Qc (Qb 0) (Qc (Qk ixG (Qb 1) (Qb 0)) (Qn))))
def xp:DSx:=sIf (Jx (eB (QI 4 ZE (Qc (Qb 9) (Qc (Qb 5) (Qc (Qb 6) (Qc (Qb 7) (Qn)))))))) (QF (eC (.bl false))) (Q6)
def Gf:DSx:=X7 (xLs (QJ "Weaver" "finish" 1 Z5 (Qb 4) Qn)) (gN 9) (xp)
def GH:DSx:=Qr (sIf (eB (Qk ltD (Qb 10) (eC (.int 24)))) (Qr (ZP (Z1 "list" ZD (Qb 5) (Qc (QI 1 Ym (Qc (Qk ixG (Qb 0) (Qb 10)) (Qn))) (Qn)))) (ZP (QJ "Weaver" "hand_in" 2 ZW (Qb 4) (Qc (Qk ixG (Qb 5) (YB (eC (.int 1)))) (Qn))))) (Q6)) (sIf (Jx (eB (QI 5 Xh (Qc (Qb 3) (Qc (QJ "Weaver" "move" 2 ZG (Qb 4) (Qc (Qk XS (Qk YX (Qk ixG (Qb 0) (Qb 10)) (eC (.int 3))) (Qb 2)) (Qn))) (Qc (Qb 5) (Qc (Qb 6) (Qc (Qb 7) (Qn))))))))) (QF (eC (.bl false))) (Q6))
def Gg:DSx:=X7 (xOf (Vc (Qc (Zx Jy (Qc (Qb 0) (Qn))) (Qn)))) (gN 10) (GH)
def QeF:DSx:=sIf (Jx (eB (QI 4 ZE (Qc (Qb 9) (Qc (Qb 5) (Qc (Qb 6) (Qc (Qb 7) (Qn)))))))) (QF (eC (.bl false))) (Q6)
def Qeb:DSx:=X7 (xLs (QJ "Weaver" "finish" 1 Z5 (Qb 4) Qn)) (gN 9) (QeF)
def xq:DSx:=ZP (QJ "Weaver" "hand_in" 2 ZW (Qb 4) (Qc (Qb 8) (Qn)))
def kF:DSx:=X7 (xLs (Qb 5)) (gN 8) (xq)
def QhQ:DSx:=Qr (QC 1 (QI 2 Jv (Qc (Qb 0) (Qc (eC (.int 0)) (Qn))))) (Qr (QC 2 (Qk Jd (eC (.int 1)) (Qk XS (Qb 1) (eC (.int 8))))) (Qr (QC 3 (Xo "Shelf" 2 Jk (Qc (Qk Jd (eC (.int 2)) (Qk XS (Qk YX (Qb 1) (eC (.int 8))) (eC (.int 4)))) (Qn)))) (Qr (QC 4 (Xo "Weaver" 3 Jz (Qc (Qb 3) (Qc (Qb 2) (Qn))))) (Qr (QC 5 (QI 1 YD (Qc (Qk YX (Qb 1) (eC (.int 32))) (Qn)))) (Qr (QC 6 (JY)) (Qr (QC 7 (JY)) (Qr (kF) (Qr (Qeb) (Qr (Gg) (Qr (Gf) (QF (Qk eqG (QI 1 J8 (Qc (Qb 3) (Qn))) (kD)))))))))))))
def vg:List DV->M DV:=Q9 11 QhQ
structure Al (K:Aa) (mg:Ea):Prop where
 z0:mg "len" = none
 z1:mg "range" = none
 z2:mg "all" = none
 z3:mg "tuple" = none
 z4:mg "zip" = none
 z5:mg "isinstance" = none
 z6:mg "int" = none
 z7:mg "bool" = none
 z8:mg "str" = none
 z9:mg "list" = none
 z10:mg "sorted" = none
 z11:mg "max" = none
 z12:mg "min" = none
 g0:UG mg "SIDE" 4
 g1:UG mg "HIGH" 3
 g2:UG mg "KEYS" 1
 g3:UG mg "PARTS" 2
 g4:UG mg "LEVEL" 0
 t0:UT K mg "EMPTY_LEAF" (.tup [.int 0,.tup [],.tup [],.non,.non])
 k0:X8 K "Shelf" "kept"
 k1:X8 K "Shelf" "read_count"
 k2:X8 K "Shelf" "top"
 k3:X8 K "Weaver" "taken"
 k4:X8 K "Weaver" "deeds"
 k5:X8 K "Weaver" "held"
 k6:X8 K "Walk" "ended"
 k7:X8 K "Walk" "pairs"
 k8:X8 K "Walk" "worth"
 k9:X8 K "Walk" "new_page"
 k10:X8 K "Walk" "forks"
 k11:X8 K "Walk" "place"
 k12:X8 K "Walk" "goal"
 k13:X8 K "Walk" "aim"
 k14:X8 K "Walk" "deed"
 k15:X8 K "Walk" "shelf"
 k16:X8 K "Weaver" "shelf"
 k17:X8 K "Shelf" "write_count"
 k18:X8 K "Shelf" "page_room"
 k19:X8 K "Weaver" "done"
 u0:UM K "Shelf" "pages" "Shelf.pages" jw
 u1:UM K "Shelf" "check_number" "Shelf.check_number" XT
 u2:UM K "Shelf" "read" "Shelf.read" xF
 u3:UM K "Shelf" "root" "Shelf.root" xH
 u4:UF K mg "_law_leftmost" zU
 u5:UF K mg "_law_shown" yP
 u6:UM K "Weaver" "idle" "Weaver.idle" jA
 u7:UI K mg "Walk" "Walk.__init__" za
 u8:UM K "Weaver" "take_deed" "Weaver.take_deed" Yx
 u9:UM K "Walk" "over" "Walk.over" yL
 u10:UM K "Walk" "read_pairs" "Walk.read_pairs" YM
 u11:UM K "Shelf" "write" "Shelf.write" jx
 u12:UF K mg "refilled" Ug
 u13:UF K mg "count_not_above" YO
 u14:UF K mg "count_below" jC
 u15:UF K mg "with_run" Ui
 u16:UF K mg "without" KS
 u17:UF K mg "worth_of" Uj
 u18:UM K "Walk" "cut_key" "Walk.cut_key" zR
 u19:UM K "Shelf" "lay" "Shelf.lay" yK
 u20:UF K mg "parted" uq
 u21:UM K "Shelf" "room" "Shelf.room" xG
 u22:UF K mg "is_full" KP
 u23:UM K "Walk" "settle" "Walk.settle" jy
 u24:UF K mg "with_pair" yR
 u25:UM K "Walk" "put_pair" "Walk.put_pair" zd
 u26:UM K "Walk" "find_worth" "Walk.find_worth" YL
 u27:UM K "Walk" "do_deed" "Walk.do_deed" zS
 u28:UF K mg "with_kid" Uh
 u29:UM K "Walk" "tell_fork" "Walk.tell_fork" qo
 u30:UM K "Walk" "go_on" "Walk.go_on" xI
 u31:UF K mg "kid_for" KQ
 u32:UF K mg "beyond" uo
 u33:UM K "Shelf" "raise_root" "Shelf.raise_root" Yv
 u34:UM K "Walk" "raise_root_over" "Walk.raise_root_over" Xu
 u35:UM K "Walk" "step" "Walk.step" yM
 u36:UM K "Weaver" "step_walk" "Weaver.step_walk" Yw
 u37:UM K "Weaver" "move" "Weaver.move" jB
 u38:UM K "Weaver" "finish" "Weaver.finish" ze
 u39:UF K mg "_law_whole" yQ
 u40:UF K mg "_law_same" Uf
 u41:UF K mg "_law_fits" Ue
 u42:UF K mg "_law_followed" zT
 u43:UM K "Weaver" "hand_in" "Weaver.hand_in" qp
 u44:UF K mg "_law_key" KR
 u45:UF K mg "_law_deed" Ud
 u46:UF K mg "_law_ahead" yO
 u47:UI K mg "Weaver" "Weaver.__init__" YN
 u48:UI K mg "Shelf" "Shelf.__init__" qm
 u49:UF K mg "_law_cell_at" jD
theorem Ul:Qt ["self"] ["self"] (Qp jw):=Zd (by decide +kernel)
theorem zj:Qt ["self", "number"] ["self", "number"] (Qp XT):=Zd (by decide +kernel)
theorem Kb:Qt ["self", "number"] ["self", "number"] (Qp xF):=Zd (by decide +kernel)
theorem Ke:Qt ["self"] ["self"] (Qp xH):=Zd (by decide +kernel)
theorem sc_law_leftmost:Qt ["shelf", "number", "k", "page"] ["shelf"] (Qp zU):=Zd (by decide +kernel)
theorem sc_law_shown:Qt ["shelf", "pairs", "number", "k", "page"] ["shelf"] (Qp yP):=Zd (by decide +kernel)
theorem Uo:Qt ["self"] ["self"] (Qp jA):=Zd (by decide +kernel)
theorem yt:Qt ["self", "shelf", "deed"] ["self", "shelf", "deed"] (Qp za):=Zd (by decide +kernel)
theorem sc_Weaver_take_deed:Qt ["self", "hand", "number"] ["self", "hand"] (Qp Yx):=Zd (by decide +kernel)
theorem GX:Qt ["self"] ["self"] (Qp yL):=Zd (by decide +kernel)
theorem sc_Walk_read_pairs:Qt ["self", "number", "leaf", "low", "high", "pairs"] ["self", "number", "leaf"] (Qp YM):=Zd (by decide +kernel)
theorem Um:Qt ["self", "number", "page"] ["self", "number", "page"] (Qp jx):=Zd (by decide +kernel)
theorem uu:Qt ["page", "keys", "parts"] ["page", "keys", "parts"] (Qp Ug):=Zd (by decide +kernel)
theorem jN:Qt ["keys", "key"] ["keys", "key"] (Qp YO):=Zd (by decide +kernel)
theorem Uq:Qt ["keys", "key"] ["keys", "key"] (Qp jC):=Zd (by decide +kernel)
theorem sc_with_run:Qt ["page", "key", "new_keys", "new_worths", "keys", "worths", "start", "stop"] ["page", "key", "new_keys", "new_worths"] (Qp Ui):=Zd (by decide +kernel)
theorem g9:Qt ["page", "key"] ["page", "key"] (Qp KS):=Zd (by decide +kernel)
theorem sc_worth_of:Qt ["page", "key", "keys", "place"] ["page", "key"] (Qp Uj):=Zd (by decide +kernel)
theorem Vf:Qt ["self", "number", "leaf"] ["self", "number", "leaf"] (Qp zR):=Zd (by decide +kernel)
theorem GW:Qt ["self", "page"] ["self", "page"] (Qp yK):=Zd (by decide +kernel)
theorem sc_parted:Qt ["page", "number", "level", "keys", "parts", "middle", "key", "cut", "old", "new"] ["page", "number"] (Qp uq):=Zd (by decide +kernel)
theorem Kc:Qt ["self"] ["self"] (Qp xG):=Zd (by decide +kernel)
theorem gY:Qt ["page", "room"] ["page", "room"] (Qp KP):=Zd (by decide +kernel)
theorem sc_Walk_settle:Qt ["self", "number", "page", "halves"] ["self", "number", "page"] (Qp jy):=Zd (by decide +kernel)
theorem GZ:Qt ["page", "key", "worth"] ["page", "key", "worth"] (Qp yR):=Zd (by decide +kernel)
theorem sc_Walk_put_pair:Qt ["self", "number", "leaf", "new_page"] ["self", "number", "leaf"] (Qp zd):=Zd (by decide +kernel)
theorem jL:Qt ["self", "number", "leaf"] ["self", "number", "leaf"] (Qp YL):=Zd (by decide +kernel)
theorem sc_Walk_do_deed:Qt ["self", "number", "leaf", "word"] ["self", "number", "leaf"] (Qp zS):=Zd (by decide +kernel)
theorem sc_with_kid:Qt ["page", "key", "kid", "keys", "kids", "place", "behind"] ["page", "key", "kid"] (Qp Uh):=Zd (by decide +kernel)
theorem sc_Walk_tell_fork:Qt ["self", "number", "fork", "new_page"] ["self", "number", "fork"] (Qp qo):=Zd (by decide +kernel)
theorem Kg:Qt ["self", "word", "number", "to"] ["self", "word", "number", "to"] (Qp xI):=Zd (by decide +kernel)
theorem gZ:Qt ["page", "key"] ["page", "key"] (Qp KQ):=Zd (by decide +kernel)
theorem sc_beyond:Qt ["page", "key", "high"] ["page", "key"] (Qp uo):=Zd (by decide +kernel)
theorem sc_Shelf_raise_root:Qt ["self", "key", "number", "level"] ["self", "key", "number"] (Qp Yv):=Zd (by decide +kernel)
theorem qq:Qt ["self", "number"] ["self", "number"] (Qp Xu):=Zd (by decide +kernel)
theorem sc_Walk_step:Qt ["self", "number", "page"] ["self"] (Qp yM):=Zd (by decide +kernel)
theorem sc_Weaver_step_walk:Qt ["self", "hand", "holding", "walk", "told"] ["self", "hand"] (Qp Yw):=Zd (by decide +kernel)
theorem Up:Qt ["self", "hand"] ["self", "hand"] (Qp jB):=Zd (by decide +kernel)
theorem sc_Weaver_finish:Qt ["self", "rows", "hand"] ["self"] (Qp ze):=Zd (by decide +kernel)
theorem GY:Qt ["found"] ["found"] (Qp yQ):=Zd (by decide +kernel)
theorem sc_law_same:Qt ["found", "due", "one", "other"] ["found", "due"] (Qp Uf):=Zd (by decide +kernel)
theorem sc_law_fits:Qt ["row", "deeds", "table", "aims", "word", "deed", "low", "high"] ["row", "deeds", "table", "aims"] (Qp Ue):=Zd (by decide +kernel)
theorem Vg:Qt ["shelf", "row", "deeds", "table", "aims"] ["shelf", "row", "deeds", "table", "aims"] (Qp zT):=Zd (by decide +kernel)
theorem xK:Qt ["self", "deed"] ["self", "deed"] (Qp qp):=Zd (by decide +kernel)
theorem sc_law_key:Qt ["number", "rest"] ["number"] (Qp KR):=Zd (by decide +kernel)
theorem sc_law_deed:Qt ["cell", "kind", "key", "other"] ["cell"] (Qp Ud):=Zd (by decide +kernel)
theorem sc_law_ahead:Qt ["cell", "step"] ["cell"] (Qp yO):=Zd (by decide +kernel)
theorem jM:Qt ["self", "shelf", "hands"] ["self", "shelf", "hands"] (Qp YN):=Zd (by decide +kernel)
theorem xJ:Qt ["self", "room"] ["self", "room"] (Qp qm):=Zd (by decide +kernel)
theorem Ur:Qt ["script", "k"] ["script", "k"] (Qp jD):=Zd (by decide +kernel)
theorem sc_law:Qt ["script", "cell", "hands", "shelf", "weaver", "deeds", "table", "aims", "deed", "row", "k"] ["script"] (Qp yN):=Zd (by decide +kernel)
section
variable {P:Program} {w:World} {K:Aa} {mg:Ea} {O8:Heap} (Z:Al K mg)
include Z
def XZ:Xj P w K mg O8 "Shelf" "pages" 1 1 ZT:=hM Z.u0 Ul fun _ _ _ _ _ _ _ hr=>Qo (Qs (ZZ Xl Z.z0 PySem.boot_len (Qd (Qw Z.k0 (Qa 0)) Qm)))
def Jp:Xj P w K mg O8 "Shelf" "check_number" 1 2 Zu:=hM Z.u1 zj fun _ _ _ _ _ _ _ hr=>Qo (Zk (Yq (zr Qdf xC Qq (Qa 1) (ZZ Xl Z.z0 PySem.boot_len (Qd (Qw Z.k0 (Qa 0)) Qm)))) (Qo kX) QM)
theorem Yt:Xj P w K mg O8 "Shelf" "read" 2 2 Zy:=hM Z.u2 Kb fun _ _ _ _ _ _ _ hr=>Qh (Jn (Zf (Jp Z) hr (by decide) QL (Qa 0) (Qd (Qa 1) Qm))) (Qh (jc Z.k1 (Qa 0) Qq) (Qo (Qs (QA (QO hr) (Qw Z.k0 (Qa 0)) (Qa 1)))))
def zA:Xj P w K mg O8 "Shelf" "root" 1 1 Z7:=hM Z.u3 Ke fun _ _ _ _ _ _ _ hr=>Qo (Qs (Qw Z.k2 (Qa 0)))
theorem yh:Has P w K mg O8 "_law_leftmost" 3 1 Xi:=hf Z.u4 sc_law_leftmost fun _ _ _ _ _ _ _ hr=>Qh (QE 1 sc_law_leftmost.nd (JH (zA Z) hr (by decide) QL (Qa 0))) (Qh (qF PassesOwn.never rfl (yD (qf rfl Z.z1 (Qd (JH (XZ Z) hr (by decide) QL (Qa 0)) Qm))) (jb 2 sc_law_leftmost.nd) (Qh (QE 3 sc_law_leftmost.nd (Zf (Yt Z) hr (by decide) QL (Qa 0) (Qd (Qa 1) Qm))) (Qh (Zk (Q8 (qZ hr.units) (QA (QO hr) (Qa 3) Qq) Qq (Q0 _)) (Qo (Qs (Qa 1))) QM) (Qo (QE 1 sc_law_leftmost.nd (QA (QO hr) (QA (QO hr) (Qa 3) Qq) Qq)))))) (Qo (Qs ZR)))
theorem ju:Has P w K mg O8 "_law_shown" 4 1 J8:=hf Z.u5 sc_law_shown fun _ _ _ _ _ _ _ hr=>Qh (QE 1 sc_law_shown.nd (Gv Qm)) (Qh (QE 2 sc_law_shown.nd (Q2 (yh Z) hr (by decide) QL (Qd (Qa 0) Qm))) (Qh (qF PassesOwn.never rfl (yD (qf rfl Z.z1 (Qd (JH (XZ Z) hr (by decide) QL (Qa 0)) Qm))) (jb 3 sc_law_shown.nd) (Qh (Zk (Q8 gM (Qa 2) ZR (Q0 _)) (Qo (Qs (Qa 1))) QM) (Qh (QE 4 sc_law_shown.nd (Zf (Yt Z) hr (by decide) QL (Qa 0) (Qd (Qa 2) Qm))) (Qh (QE 1 sc_law_shown.nd (QD Xc (Qa 1) (XO (caps:=["page"]) (idx:=[4]) ⟨by with_unfolding_all rfl,by decide +kernel,rfl,by decide +kernel,rfl,(by exact ⟨rfl,trivial⟩),by with_unfolding_all rfl,(by exact ⟨rfl,.inl rfl,⟨_,rfl⟩,(fun h=>NameKind.noConfusion (Aj (show some NameKind.cell=some NameKind.local from h))),trivial⟩),by decide⟩ rfl (yD (qf rfl Z.z1 (Qd (ZZ Xl Z.z0 PySem.boot_len (Qd (QA (QO hr) (Qa 4) Qq) Qm)) Qm))) (fun _ _ _ _=>xa) (fun _ _ _ _=>Zg (Qd (QA (QO hr) (QA (QO hr) (Qa 1) Qq) (Qa 0)) (Qd (QA (QO hr) (QA (QO hr) (Qa 1) Qq) (Qa 0)) Qm)))))) (Qo (QE 2 sc_law_shown.nd (QA (QO hr) (Qa 4) Qq))))))) (Qo (Qs (Qa 1)))))
theorem Va:Xj P w K mg O8 "Weaver" "idle" 1 1 J0:=hM Z.u6 Uo fun _ _ _ _ _ _ _ hr=>Qo (Qs (VE (YW (qZ hr.units) (Qw Z.k3 (Qa 0)) (ZZ Xl Z.z0 PySem.boot_len (Qd (Qw Z.k4 (Qa 0)) Qm)) (Q0 _)) (VG (ZZ (QhU rfl) Z.z2 boot_all (Qd (XO (caps:=[]) (idx:=[]) ⟨by with_unfolding_all rfl,by decide +kernel,rfl,by decide +kernel,rfl,(by exact trivial),by with_unfolding_all rfl,(by exact trivial),by decide⟩ rfl (qG (Qw Z.k5 (Qa 0))) (fun _ _ _ _=>xa) (fun _ _ _ _=>YW gM (Qa 0) ZR (Q0 _))) Qm)))))
def xg:QaV P w K mg O8 "Walk" 1 3 Jr:=hI Z.u7 yt fun _ _ _ _ _ _ _ hr=>Qh (Zh Z.k15 (Qa 0) (Qa 1)) (Qh (Zh Z.k14 (Qa 0) (Qa 2)) (Qh (Zh Z.k13 (Qa 0) (QA (QO hr) (Qa 2) Qq)) (Qh (Zh Z.k12 (Qa 0) Qq) (Qh (Zh Z.k11 (Qa 0) ZR) (Qh (Zh Z.k10 (Qa 0) VF) (Qh (Zh Z.k9 (Qa 0) ZR) (Qh (Zh Z.k8 (Qa 0) ZR) (Qh (Zh Z.k7 (Qa 0) (j8 Qm)) (Qo (Zh Z.k6 (Qa 0) J9))))))))))
theorem zD:Xj P w K mg O8 "Weaver" "take_deed" 3 2 Jm:=hM Z.u8 sc_Weaver_take_deed fun _ _ _ _ _ _ _ hr=>Qh (QE 2 sc_Weaver_take_deed.nd (Qw Z.k3 (Qa 0))) (Qh (ya (Zg (Qd (Qa 2) (Qd (Gw (xg Z) hr (by decide) QL (Qd (Qw Z.k16 (Qa 0)) (Qd (QA (QO hr) (Qw Z.k4 (Qa 0)) (Qa 2)) Qm))) Qm))) (x8 (QO hr) (Qw Z.k5 (Qa 0)) (Qa 1))) (Qh (jc Z.k3 (Qa 0) Qq) (Qo (Qs (Zg (Qd Zm (Qd (Qa 1) (Qd (Qa 2) Qm))))))))
def U1:Xj P w K mg O8 "Walk" "over" 1 1 XM:=hM Z.u9 GX fun _ _ _ _ _ _ _ hr=>Qo (Qs (Qw Z.k6 (Qa 0)))
theorem jo:Xj P w K mg O8 "Walk" "read_pairs" 1 3 Xg:=hM Z.u10 sc_Walk_read_pairs fun _ _ _ _ _ _ _ hr=>let ⟨_,g_SIDE⟩:=Z.g0.ex;let ⟨_,g_HIGH⟩:=Z.g1.ex;let ⟨_,g_KEYS⟩:=Z.g2.ex;let ⟨_,g_PARTS⟩:=Z.g3.ex;Qh (QE 3 sc_Walk_read_pairs.nd (QA (QO hr) (Qw Z.k14 (Qa 0)) Qq)) (Qh (QE 4 sc_Walk_read_pairs.nd (QA (QO hr) (Qw Z.k14 (Qa 0)) Qq)) (Qh (Qcj 5 sc_Walk_read_pairs.nd (caps:=["low", "high"]) (idx:=[3,4]) ⟨by with_unfolding_all rfl,by decide +kernel,rfl,by decide +kernel,rfl,(by exact ⟨rfl,⟨rfl,trivial⟩⟩),by with_unfolding_all rfl,(by exact ⟨rfl,.inl rfl,⟨_,rfl⟩,(fun h=>NameKind.noConfusion (Aj (show some NameKind.cell=some NameKind.local from h))),⟨rfl,.inl rfl,⟨_,rfl⟩,(fun h=>NameKind.noConfusion (Aj (show some NameKind.cell=some NameKind.local from h))),trivial⟩⟩),by decide⟩ rfl (yD (Qes (by rfl) (by exact Z.z4) (QA (QO hr) (Qa 2) (Ze rfl g_KEYS)) (QA (QO hr) (Qa 2) (Ze rfl g_PARTS)))) (fun _ _ _ _=>Vl (zr Qdf xC (Qa 1) (QA (QO hr) (Qa 0) Qq) (Qa 2))) (fun _ _ _ _=>Qa 0)) (Qh (Jn (Yp QcZ PySem.F.plainAttrs_list PySem.F.slot_list_extend PySem.F.type_list_extend (Qw Z.k7 (Qa 0)) (Qd (Qa 5) Qm))) (Qh (Zk (DW.pt (Qcn (Q8 gM (QA (QO hr) (Qa 2) (Ze rfl g_HIGH)) ZR (Q0 _)) (gj (Q8 Qim (QA (QO hr) (Qa 2) (Ze rfl g_HIGH)) (Qa 4) (Q0 _))))) (Qh (Zh Z.k6 (Qa 0) J9) (Qo (Qs (Zg (Qd Zm (Qd (Qa 1) (Qd (Qcf Vy Z.z3 boot_tuple (Qd (Qa 5) Qm)) (Qd ZR (Qd ZR Qm))))))))) QM) (Qh (Zh Z.k13 (Qa 0) (QA (QO hr) (Qa 2) (Ze rfl g_HIGH))) (Qh (Zh Z.k11 (Qa 0) (QA (QO hr) (Qa 2) (Ze rfl g_SIDE))) (Qo (Qs (Zg (Qd Zm (Qd (Qa 1) (Qd (Qcf Vy Z.z3 boot_tuple (Qd (Qa 5) Qm)) (Qd (Qw Z.k11 (Qa 0)) (Qd (Qw Z.k13 (Qa 0)) Qm))))))))))))))
theorem X0:Xj P w K mg O8 "Shelf" "write" 2 3 Ju:=hM Z.u11 Um fun _ _ _ _ _ _ _ hr=>Qh (Jn (Zf (Jp Z) hr (by decide) QL (Qa 0) (Qd (Qa 1) Qm))) (Qh (jc Z.k17 (Qa 0) Qq) (Qo (ya (Qa 2) (x8 (QO hr) (Qw Z.k0 (Qa 0)) (Qa 1)))))
def xi:Has P w K mg O8 "refilled" 1 3 qx:=hf Z.u12 uu fun _ _ _ _ _ _ _ hr=>let ⟨_,g_SIDE⟩:=Z.g0.ex;let ⟨_,g_HIGH⟩:=Z.g1.ex;let ⟨_,g_LEVEL⟩:=Z.g4.ex;Qo (Qs (Zg (Qd (JG (Qa 0) (Ze rfl g_LEVEL)) (Qd (Qa 1) (Qd (Qa 2) (Qd (JG (Qa 0) (Ze rfl g_HIGH)) (Qd (JG (Qa 0) (Ze rfl g_SIDE)) Qm)))))))
theorem Ji:Has P w K mg O8 "count_not_above" 1 2 Zz:=hf Z.u13 jN fun _ _ _ _ _ _ _ hr=>Qo (Qs (ZZ Xl Z.z0 PySem.boot_len (Qd (XO (caps:=["key"]) (idx:=[1]) ⟨by with_unfolding_all rfl,by decide +kernel,rfl,by decide +kernel,rfl,(by exact ⟨rfl,trivial⟩),by with_unfolding_all rfl,(by exact ⟨rfl,.inl rfl,⟨_,rfl⟩,(fun h=>NameKind.noConfusion (Aj (show some NameKind.cell=some NameKind.local from h))),trivial⟩),by decide⟩ rfl (yD (Qci (Qa 0))) (fun _ _ _ _=>Vl (Q8 Qdf (Qa 0) (Qa 1) (Q0 _))) (fun _ _ _ _=>Qa 0)) Qm)))
theorem qX:Has P w K mg O8 "count_below" 1 2 XH:=hf Z.u14 Uq fun _ _ _ _ _ _ _ hr=>Qo (Qs (ZZ Xl Z.z0 PySem.boot_len (Qd (XO (caps:=["key"]) (idx:=[1]) ⟨by with_unfolding_all rfl,by decide +kernel,rfl,by decide +kernel,rfl,(by exact ⟨rfl,trivial⟩),by with_unfolding_all rfl,(by exact ⟨rfl,.inl rfl,⟨_,rfl⟩,(fun h=>NameKind.noConfusion (Aj (show some NameKind.cell=some NameKind.local from h))),trivial⟩),by decide⟩ rfl (yD (Qci (Qa 0))) (fun _ _ _ _=>Vl (Q8 xC (Qa 0) (Qa 1) (Q0 _))) (fun _ _ _ _=>Qa 0)) Qm)))
theorem xj:Has P w K mg O8 "with_run" 2 4 qz:=hf Z.u15 sc_with_run fun _ _ _ _ _ _ _ hr=>let ⟨_,g_PARTS⟩:=Z.g3.ex;let ⟨_,g_KEYS⟩:=Z.g2.ex;Qh (QE 4 sc_with_run.nd (JG (Qa 0) (Ze rfl g_KEYS))) (Qh (QE 5 sc_with_run.nd (JG (Qa 0) (Ze rfl g_PARTS))) (Qh (QE 6 sc_with_run.nd (Q2 (qX Z) hr (by decide) QL (Qd (Qa 4) (Qd (Qa 1) Qm)))) (Qh (QE 7 sc_with_run.nd (Q2 (Ji Z) hr (by decide) QL (Qd (Qa 4) (Qd (Qa 1) Qm)))) (Qo (Qs (Q2 (xi Z) hr (by decide) QL (Qd (Qa 0) (Qd (QD Xc (QD Xc (qe (Qa 4) JS (JT (Qa 6))) (Qa 2)) (qe (Qa 4) (JT (Qa 7)) JS)) (Qd (QD Xc (QD Xc (qe (Qa 5) JS (JT (Qa 6))) (Qa 3)) (qe (Qa 5) (JT (Qa 7)) JS)) Qm)))))))))
theorem vT:Has P w K mg O8 "without" 3 2 xT:=hf Z.u16 g9 fun _ _ _ _ _ _ _ hr=>Qo (Qs (Q2 (xj Z) hr (by decide) QL (Qd (Qa 0) (Qd (Qa 1) (Qd (Zg Qm) (Qd (Zg Qm) Qm))))))
theorem qJ:Has P w K mg O8 "worth_of" 2 2 J5:=hf Z.u17 sc_worth_of fun _ _ _ _ _ _ _ hr=>let ⟨_,g_PARTS⟩:=Z.g3.ex;let ⟨_,g_KEYS⟩:=Z.g2.ex;Qh (QE 2 sc_worth_of.nd (JG (Qa 0) (Ze rfl g_KEYS))) (Qh (QE 3 sc_worth_of.nd (Q2 (qX Z) hr (by decide) QL (Qd (Qa 2) (Qd (Qa 1) Qm)))) (Qh (Zk (Q8 (Qbz hr.units) (Qa 3) (Q2 (Ji Z) hr (by decide) QL (Qd (Qa 2) (Qd (Qa 1) Qm))) (Q0 _)) (Qo (Qs ZR)) QM) (Qo (Qs (JG (JG (Qa 0) (Ze rfl g_PARTS)) (Qa 3))))))
theorem yd:Xj P w K mg O8 "Walk" "cut_key" 4 3 Yk:=hM Z.u18 Vf fun _ _ _ _ _ _ _ hr=>Qh (Zh Z.k8 (Qa 0) (Q2 (qJ Z) hr (by decide) QL (Qd (Qa 2) (Qd (Qw Z.k13 (Qa 0)) Qm)))) (Qh (Zk (Q8 Qav (Qw Z.k8 (Qa 0)) ZR (Q0 _)) (Qo (Jn (Zf (X0 Z) hr (by decide) QL (Qw Z.k15 (Qa 0)) (Qd (Qa 1) (Qd (Q2 (vT Z) hr (by decide) QL (Qd (Qa 2) (Qd (Qw Z.k13 (Qa 0)) Qm))) Qm))))) QM) (Qh (Zh Z.k6 (Qa 0) J9) (Qo (Qs (Zg (Qd Zm (Qd (Qa 1) (Qd (Qw Z.k8 (Qa 0)) Qm))))))))
def jt:Xj P w K mg O8 "Shelf" "lay" 1 2 XL:=hM Z.u19 GW fun _ _ _ _ _ _ _ hr=>Qh (jc Z.k17 (Qa 0) Qq) (Qh (Jn (Yp zJ PySem.F.plainAttrs_list PySem.F.slot_list_append PySem.F.type_list_append (Qw Z.k0 (Qa 0)) (Qd (Qa 1) Qm))) (Qo (Qs (QD yI (ZZ Xl Z.z0 PySem.boot_len (Qd (Qw Z.k0 (Qa 0)) Qm)) Qq))))
def gx:Has P w K mg O8 "parted" 1 2 jR:=hf Z.u20 sc_parted fun _ _ _ _ _ _ _ hr=>let ⟨_,g_SIDE⟩:=Z.g0.ex;let ⟨_,g_HIGH⟩:=Z.g1.ex;let ⟨_,g_PARTS⟩:=Z.g3.ex;let ⟨_,g_KEYS⟩:=Z.g2.ex;let ⟨_,g_LEVEL⟩:=Z.g4.ex;Qh (QE 2 sc_parted.nd (JG (Qa 0) (Ze rfl g_LEVEL))) (Qh (QE 3 sc_parted.nd (JG (Qa 0) (Ze rfl g_KEYS))) (Qh (QE 4 sc_parted.nd (JG (Qa 0) (Ze rfl g_PARTS))) (Qh (QE 5 sc_parted.nd (QD xB (ZZ kO Z.z0 PySem.boot_len (Qd (Qa 3) Qm)) Qq)) (Qh (QE 6 sc_parted.nd (JG (Qa 3) (Qa 5))) (Qh (QE 7 sc_parted.nd (QfQ (Q8 (Qbz hr.units) (Qa 2) Qq (Q0 _)) (Qa 5) (QD Xc (Qa 5) Qq))) (Qh (QE 8 sc_parted.nd (Zg (Qd (Qa 2) (Qd (qe (Qa 3) JS (JT (Qa 5))) (Qd (qe (Qa 4) JS (JT (Qa 7))) (Qd (Qa 6) (Qd (Qa 1) Qm))))))) (Qh (QE 9 sc_parted.nd (Zg (Qd (Qa 2) (Qd (qe (Qa 3) (JT (Qa 7)) JS) (Qd (qe (Qa 4) (JT (Qa 7)) JS) (Qd (JG (Qa 0) (Ze rfl g_HIGH)) (Qd (JG (Qa 0) (Ze rfl g_SIDE)) Qm))))))) (Qo (Qs (Zg (Qd (Qa 8) (Qd (Qa 9) (Qd (Qa 6) Qm)))))))))))))
def VO:Xj P w K mg O8 "Shelf" "room" 1 1 Jl:=hM Z.u21 Kc fun _ _ _ _ _ _ _ hr=>Qo (Qs (Qw Z.k18 (Qa 0)))
def vR:Has P w K mg O8 "is_full" 1 2 Yg:=hf Z.u22 gY fun _ _ _ _ _ _ _ hr=>let ⟨_,g_KEYS⟩:=Z.g2.ex;Qo (Qs (YW QgN (ZZ kO Z.z0 PySem.boot_len (Qd (JG (Qa 0) (Ze rfl g_KEYS)) Qm)) (Qa 1) (Q0 _)))
theorem qV:Xj P w K mg O8 "Walk" "settle" 3 3 XG:=hM Z.u23 sc_Walk_settle fun _ _ _ _ _ _ _ hr=>let ⟨_,g_LEVEL⟩:=Z.g4.ex;Qh (Zk (Yq (X5 (Q2 (vR Z) hr (by decide) QL (Qd (Qa 2) (Qd (JH (VO Z) hr (by decide) QL (Qw Z.k15 (Qa 0))) Qm))))) (Qh (Jn (Zf (X0 Z) hr (by decide) QL (Qw Z.k15 (Qa 0)) (Qd (Qa 1) (Qd (Qa 2) Qm)))) (Qh (Zh Z.k6 (Qa 0) J9) (Qo (Qs ZR)))) QM) (Qh (QE 3 sc_Walk_settle.nd (Q2 (gx Z) hr (by decide) QL (Qd (Qa 2) (Qd (JH (XZ Z) hr (by decide) QL (Qw Z.k15 (Qa 0))) Qm)))) (Qh (Zh Z.k9 (Qa 0) (Zf (jt Z) hr (by decide) QL (Qw Z.k15 (Qa 0)) (Qd (QA (QO hr) (Qa 3) Qq) Qm))) (Qh (Jn (Zf (X0 Z) hr (by decide) QL (Qw Z.k15 (Qa 0)) (Qd (Qa 1) (Qd (QA (QO hr) (Qa 3) Qq) Qm)))) (Qh (Zh Z.k13 (Qa 0) (QA (QO hr) (Qa 3) Qq)) (Qh (Zh Z.k12 (Qa 0) (QD Xc (QA (QO hr) (Qa 2) (Ze rfl g_LEVEL)) Qq)) (Qh (Zh Z.k11 (Qa 0) (Yp (GN (QO hr)) PySem.F.plainAttrs_dict PySem.F.slot_dict_get PySem.F.type_dict_get (Qw Z.k10 (Qa 0)) (Qd (Qw Z.k12 (Qa 0)) Qm))) (Qo (Qs (Qw Z.k9 (Qa 0))))))))))
theorem U5:Has P w K mg O8 "with_pair" 3 3 zk:=hf Z.u24 GZ fun _ _ _ _ _ _ _ hr=>Qo (Qs (Q2 (xj Z) hr (by decide) QL (Qd (Qa 0) (Qd (Qa 1) (Qd (Zg (Qd (Qa 1) Qm)) (Qd (Zg (Qd (Qa 2) Qm)) Qm))))))
theorem xh:Xj P w K mg O8 "Walk" "put_pair" 4 3 XV:=hM Z.u25 sc_Walk_put_pair fun _ _ _ _ _ _ _ hr=>Qh (Zh Z.k8 (Qa 0) (Q2 (qJ Z) hr (by decide) QL (Qd (Qa 2) (Qd (Qw Z.k13 (Qa 0)) Qm)))) (Qh (QE 3 sc_Walk_put_pair.nd (Zf (qV Z) hr (by decide) QL (Qa 0) (Qd (Qa 1) (Qd (Q2 (U5 Z) hr (by decide) QL (Qd (Qa 2) (Qd (Qw Z.k13 (Qa 0)) (Qd (QA (QO hr) (Qw Z.k14 (Qa 0)) Qq) Qm)))) Qm)))) (Qo (Qs (Zg (Qd Zm (Qd (Qa 1) (Qd (Qw Z.k8 (Qa 0)) (Qd (Qa 3) Qm))))))))
theorem jn:Xj P w K mg O8 "Walk" "find_worth" 3 3 Xf:=hM Z.u26 jL fun _ _ _ _ _ _ _ hr=>Qh (Zh Z.k8 (Qa 0) (Q2 (qJ Z) hr (by decide) QL (Qd (Qa 2) (Qd (Qw Z.k13 (Qa 0)) Qm)))) (Qh (Zh Z.k6 (Qa 0) J9) (Qo (Qs (Zg (Qd Zm (Qd (Qa 1) (Qd (Qw Z.k8 (Qa 0)) Qm)))))))
theorem yf:Xj P w K mg O8 "Walk" "do_deed" 5 3 Yl:=hM Z.u27 sc_Walk_do_deed fun _ _ _ _ _ _ _ hr=>Qh (QE 3 sc_Walk_do_deed.nd (QA (QO hr) (Qw Z.k14 (Qa 0)) Qq)) (Qh (Zk (Q8 (qZ hr.units) (Qa 3) Zm (Q0 _)) (Qo (Qs (Zf (jn Z) hr (by decide) QL (Qa 0) (Qd (Qa 1) (Qd (Qa 2) Qm))))) QM) (Qh (Zk (Q8 (qZ hr.units) (Qa 3) Zm (Q0 _)) (Qo (Qs (Zf (xh Z) hr (by decide) QL (Qa 0) (Qd (Qa 1) (Qd (Qa 2) Qm))))) QM) (Qh (Zk (Q8 (qZ hr.units) (Qa 3) Zm (Q0 _)) (Qo (Qs (Zf (yd Z) hr (by decide) QL (Qa 0) (Qd (Qa 1) (Qd (Qa 2) Qm))))) QM) (Qo (Qs (Zf (jo Z) hr (by decide) QL (Qa 0) (Qd (Qa 1) (Qd (Qa 2) Qm))))))))
theorem GB:Has P w K mg O8 "with_kid" 2 3 qy:=hf Z.u28 sc_with_kid fun _ _ _ _ _ _ _ hr=>let ⟨_,g_PARTS⟩:=Z.g3.ex;let ⟨_,g_KEYS⟩:=Z.g2.ex;Qh (QE 3 sc_with_kid.nd (JG (Qa 0) (Ze rfl g_KEYS))) (Qh (QE 4 sc_with_kid.nd (JG (Qa 0) (Ze rfl g_PARTS))) (Qh (QE 5 sc_with_kid.nd (Q2 (Ji Z) hr (by decide) QL (Qd (Qa 3) (Qd (Qa 1) Qm)))) (Qh (QE 6 sc_with_kid.nd (QD Xc (Qa 5) Qq)) (Qo (Qs (Q2 (xi Z) hr (by decide) QL (Qd (Qa 0) (Qd (QD Xc (QD Xc (qe (Qa 3) JS (JT (Qa 5))) (Zg (Qd (Qa 1) Qm))) (qe (Qa 3) (JT (Qa 5)) JS)) (Qd (QD Xc (QD Xc (qe (Qa 4) JS (JT (Qa 6))) (Zg (Qd (Qa 2) Qm))) (qe (Qa 4) (JT (Qa 6)) JS)) Qm)))))))))
theorem jJ:Xj P w K mg O8 "Walk" "tell_fork" 4 3 Xz:=hM Z.u29 sc_Walk_tell_fork fun _ _ _ _ _ _ _ hr=>Qh (QE 3 sc_Walk_tell_fork.nd (Zf (qV Z) hr (by decide) QL (Qa 0) (Qd (Qa 1) (Qd (Q2 (GB Z) hr (by decide) QL (Qd (Qa 2) (Qd (Qw Z.k13 (Qa 0)) (Qd (Qw Z.k9 (Qa 0)) Qm)))) Qm)))) (Qo (Qs (Zg (Qd Zm (Qd (Qa 1) (Qd (Qa 3) Qm))))))
def zB:Xj P w K mg O8 "Walk" "go_on" 1 4 JR:=hM Z.u30 Kg fun _ _ _ _ _ _ _ hr=>Qh (Zh Z.k11 (Qa 0) (Qa 3)) (Qo (Qs (Zg (Qd (Qa 1) (Qd (Qa 2) (Qd (Qa 3) Qm))))))
theorem vS:Has P w K mg O8 "kid_for" 2 2 Y9:=hf Z.u31 gZ fun _ _ _ _ _ _ _ hr=>let ⟨_,g_PARTS⟩:=Z.g3.ex;let ⟨_,g_KEYS⟩:=Z.g2.ex;Qo (Qs (JG (JG (Qa 0) (Ze rfl g_PARTS)) (Q2 (Ji Z) hr (by decide) QL (Qd (JG (Qa 0) (Ze rfl g_KEYS)) (Qd (Qa 1) Qm)))))
def gw:Has P w K mg O8 "beyond" 1 2 Y8:=hf Z.u32 sc_beyond fun _ _ _ _ _ _ _ hr=>let ⟨_,g_HIGH⟩:=Z.g1.ex;Qh (QE 2 sc_beyond.nd (JG (Qa 0) (Ze rfl g_HIGH))) (Qo (Qs (VE (YW Qav (Qa 2) ZR (Q0 _)) (VG (YW Qim (Qa 1) (Qa 2) (Q0 _))))))
theorem zy:Xj P w K mg O8 "Shelf" "raise_root" 2 3 ZY:=hM Z.u33 sc_Shelf_raise_root fun _ _ _ _ _ _ _ hr=>let ⟨_,g_LEVEL⟩:=Z.g4.ex;Qh (Jn (Zf (Jp Z) hr (by decide) QL (Qa 0) (Qd (Qa 2) Qm))) (Qh (QE 3 sc_Shelf_raise_root.nd (QD Xc (QA (QO hr) (QA (QO hr) (Qw Z.k0 (Qa 0)) (Qw Z.k2 (Qa 0))) (Ze rfl g_LEVEL)) Qq)) (Qh (Zh Z.k2 (Qa 0) (Zf (jt Z) hr (by decide) QL (Qa 0) (Qd (Zg (Qd (Qa 3) (Qd (Zg (Qd (Qa 1) Qm)) (Qd (Zg (Qd (Qw Z.k2 (Qa 0)) (Qd (Qa 2) Qm))) (Qd ZR (Qd ZR Qm)))))) Qm))) (Qo (Qs (Qw Z.k2 (Qa 0))))))
theorem YY:Xj P w K mg O8 "Walk" "raise_root_over" 3 2 ZQ:=hM Z.u34 qq fun _ _ _ _ _ _ _ hr=>Qh (Zh Z.k6 (Qa 0) J9) (Qo (Qs (Zg (Qd Zm (Qd (Qa 1) (Qd (Zf (zy Z) hr (by decide) QL (Qw Z.k15 (Qa 0)) (Qd (Qw Z.k13 (Qa 0)) (Qd (Qw Z.k9 (Qa 0)) Qm))) Qm))))))
theorem U2:Xj P w K mg O8 "Walk" "step" 6 1 YC:=hM Z.u35 sc_Walk_step fun _ _ _ _ _ _ _ hr=>let ⟨_,g_LEVEL⟩:=Z.g4.ex;let ⟨_,g_SIDE⟩:=Z.g0.ex;Qh (Zk (X5 (Qw Z.k6 (Qa 0))) (Qo (Qs ZR)) QM) (Qh (QE 1 sc_Walk_step.nd (QfQ (Q8 gM (Qw Z.k11 (Qa 0)) ZR (Q0 _)) (JH (zA Z) hr (by decide) QL (Qw Z.k15 (Qa 0))) (Qw Z.k11 (Qa 0)))) (Qh (QE 2 sc_Walk_step.nd (Zf (Yt Z) hr (by decide) QL (Qw Z.k15 (Qa 0)) (Qd (Qa 1) Qm))) (Qh (Zk (DW.pt (Qcm (Q8 gM (Qw Z.k11 (Qa 0)) ZR (Q0 _)) (kY (Q8 xC (QA (QO hr) (Qa 2) (Ze rfl g_LEVEL)) (Qw Z.k12 (Qa 0)) (Q0 _))))) (Qo (Qs (Zf (YY Z) hr (by decide) QL (Qa 0) (Qd (Qa 1) Qm)))) QM) (Qh (Zk (X5 (Q2 (gw Z) hr (by decide) QL (Qd (Qa 2) (Qd (Qw Z.k13 (Qa 0)) Qm)))) (Qo (Qs (Zf (zB Z) hr (by decide) QL (Qa 0) (Qd Zm (Qd (Qa 1) (Qd (QA (QO hr) (Qa 2) (Ze rfl g_SIDE)) Qm)))))) QM) (Qh (Zk (Q8 QgN (QA (QO hr) (Qa 2) (Ze rfl g_LEVEL)) (Qw Z.k12 (Qa 0)) (Q0 _)) (Qh (ya (Qa 1) (x8 (QO hr) (Qw Z.k10 (Qa 0)) (QA (QO hr) (Qa 2) (Ze rfl g_LEVEL)))) (Qo (Qs (Zf (zB Z) hr (by decide) QL (Qa 0) (Qd Zm (Qd (Qa 1) (Qd (Q2 (vS Z) hr (by decide) QL (Qd (Qa 2) (Qd (Qw Z.k13 (Qa 0)) Qm))) Qm))))))) QM) (Qh (Zk (Q8 QgN (Qw Z.k12 (Qa 0)) Qq (Q0 _)) (Qo (Qs (Zf (jJ Z) hr (by decide) QL (Qa 0) (Qd (Qa 1) (Qd (Qa 2) Qm))))) QM) (Qo (Qs (Zf (yf Z) hr (by decide) QL (Qa 0) (Qd (Qa 1) (Qd (Qa 2) Qm)))))))))))
theorem zC:Xj P w K mg O8 "Weaver" "step_walk" 7 2 J4:=hM Z.u36 sc_Weaver_step_walk fun _ _ _ _ _ _ _ hr=>Qh (QE 2 sc_Weaver_step_walk.nd (QA (QO hr) (Qw Z.k5 (Qa 0)) (Qa 1))) (Qh (QE 3 sc_Weaver_step_walk.nd (QA (QO hr) (Qa 2) Qq)) (Qh (QE 4 sc_Weaver_step_walk.nd (JH (U2 Z) hr (by decide) QL (Qa 3))) (Qh (Zk (X5 (JH (U1 Z) hr (by decide) QL (Qa 3))) (Qh (ya ZR (x8 (QO hr) (Qw Z.k5 (Qa 0)) (Qa 1))) (Qo (Jn (Yp zJ PySem.F.plainAttrs_list PySem.F.slot_list_append PySem.F.type_list_append (Qw Z.k19 (Qa 0)) (Qd (Qa 2) Qm))))) QM) (Qo (Qs (QD Xc (Zg (Qd (QA (QO hr) (Qa 4) Qq) (Qd (Qa 1) (Qd (QA (QO hr) (Qa 2) Qq) Qm)))) (qe (Qa 4) (JT Qq) JS)))))))
theorem qW:Xj P w K mg O8 "Weaver" "move" 8 2 ZG:=hM Z.u37 Up fun _ _ _ _ _ _ _ hr=>Qh (Zk (Yq (zr Qdf xC Qq (Qa 1) (ZZ Xl Z.z0 PySem.boot_len (Qd (Qw Z.k5 (Qa 0)) Qm)))) (Qo kX) QM) (Qh (Zk (Q8 Qav (QA (QO hr) (Qw Z.k5 (Qa 0)) (Qa 1)) ZR (Q0 _)) (Qo (Qs (Zf (zC Z) hr (by decide) QL (Qa 0) (Qd (Qa 1) Qm)))) QM) (Qh (Zk (Q8 xC (Qw Z.k3 (Qa 0)) (ZZ Xl Z.z0 PySem.boot_len (Qd (Qw Z.k4 (Qa 0)) Qm)) (Q0 _)) (Qo (Qs (Zf (zD Z) hr (by decide) QL (Qa 0) (Qd (Qa 1) Qm)))) QM) (Qo (Qs (Zg (Qd Zm (Qd (Qa 1) Qm)))))))
theorem YH:Xj P w K mg O8 "Weaver" "finish" 9 1 Z5:=hM Z.u38 sc_Weaver_finish fun _ _ _ _ _ _ _ hr=>Qh (QE 1 sc_Weaver_finish.nd (j8 Qm)) (Qh (QE 2 sc_Weaver_finish.nd Qq) (Qh (Qck 100000 PassesOwn.never (Yq (X5 (JH (Va Z) hr (by decide) QL (Qa 0)))) (Qh (Jn (Yp zJ PySem.F.plainAttrs_list PySem.F.slot_list_append PySem.F.type_list_append (Qa 1) (Qd (Zf (qW Z) hr (by decide) QL (Qa 0) (Qd (Qa 2) Qm)) Qm))) (Qo (QE 2 sc_Weaver_finish.nd (QD qj (QD Xc (Qa 2) Qq) (ZZ Xl Z.z0 PySem.boot_len (Qd (Qw Z.k5 (Qa 0)) Qm))))))) (Qo (Qs (Qa 1)))))
theorem U4:Has P w K mg O8 "_law_whole" 1 1 yx:=hf Z.u39 GY fun _ _ _ _ _ _ _ hr=>Qo (Qs (VE (Qce Z.z5 Z.z6 boot_int (by decide) (Qa 0)) (VG (Qgf (Qce Z.z5 Z.z7 boot_bool (by decide) (Qa 0))))))
theorem qI:∀ j:Nat,Has P w K mg O8 "_law_same" (1+j) 2 (QX j)
 | 0=>let ⟨_,_,F,hm⟩:=Z.u40.ex;QcG F hm (ps:=["found", "due"]) (fun _ _ _ _ _ _ us hl=>match us,hl with | [_,_],_=>rfl)
 | j+1=>have h_law_same:=qI j;hf Z.u40 sc_law_same fun _ _ _ _ _ _ _ hr=>Qh (Zk (DW.pt (Qcn (X5 (YE Z.z5 Z.z3 boot_tuple (by decide) (Qa 1))) (gj (X5 (YE Z.z5 Z.z9 boot_list (by decide) (Qa 1)))))) (Qh (Zk (DW.pt (Qcn (Q8 (Qaw hr.units) (YE Z.z5 Z.z3 boot_tuple (by decide) (Qa 0)) (YE Z.z5 Z.z3 boot_tuple (by decide) (Qa 1)) (Q0 _)) (gj (Q8 (Qaw hr.units) (YE Z.z5 Z.z9 boot_list (by decide) (Qa 0)) (YE Z.z5 Z.z9 boot_list (by decide) (Qa 1)) (Q0 _))))) (Qo (Qs J9)) QM) (Qh (Zk (Q8 (Qaw hr.units) (ZZ Xl Z.z0 PySem.boot_len (Qd (Qa 0) Qm)) (ZZ Xl Z.z0 PySem.boot_len (Qd (Qa 1) Qm)) (Q0 _)) (Qo (Qs J9)) QM) (Qh (qF PassesOwn.never rfl (Qgj (by rfl) (by exact Z.z4) (Qa 0) (Qa 1)) (Qgh [2,3] sc_law_same.nd (by repeat' (first | exact trivial | refine ⟨rfl,(by first | exact .inl rfl | exact .inr rfl),.inl rfl,?_⟩)) rfl (fun _ _ _=>rfl)) (Qo (Zk (Yq (X5 (Q2 h_law_same hr (Ae _) QL (Qd (Qa 2) (Qd (Qa 3) Qm))))) (Qo (Qs J9)) QM))) (Qo (Qs J9))))) QM) (Qh (Zk (Q8 gM (Qa 1) ZR (Q0 _)) (Qo (Qs (YW gM (Qa 0) ZR (Q0 _)))) QM) (Qh (Zk (X5 (YE Z.z5 Z.z8 boot_str (by decide) (Qa 1))) (Qo (Qs (VE (YE Z.z5 Z.z8 boot_str (by decide) (Qa 0)) (VG (YW (qZ hr.units) (Qa 0) (Qa 1) (Q0 _)))))) QM) (Qo (Qs (VE (Q2 (U4 Z) hr (Cw _ _) QL (Qd (Qa 0) Qm)) (VG (YW (qZ hr.units) (Qa 0) (Qa 1) (Q0 _))))))))
theorem qH:Has P w K mg O8 "_law_fits" 8 4 ZE:=hf Z.u41 sc_law_fits fun _ _ _ _ _ _ _ hr=>Qh (QE 4 sc_law_fits.nd (QA (QO hr) (Qa 0) Qq)) (Qh (Zk (Q8 (QgQ (QO hr)) (Qa 4) (Zg (Qd Zm (Qd Zm (Qd Zm (Qd Zm Qm))))) (by with_unfolding_all rfl)) (Qo (Qs J9)) QM) (Qh (QE 5 sc_law_fits.nd (QA (QO hr) (Qa 1) (QA (QO hr) (Qa 0) Qq))) (Qh (Zk (Q8 (Qaw hr.units) (QA (QO hr) (Qa 5) Qq) (Yp (GN (QO hr)) PySem.F.plainAttrs_dict PySem.F.slot_dict_get PySem.F.type_dict_get (Qeq (kS Zm Zm (kS Zm Zm Qgi))) (Qd (Qa 4) (Qd (Qa 4) Qm))) (Q0 _)) (Qo (Qs J9)) QM) (Qh (Zk (Q8 (qZ hr.units) (Qa 4) Zm (Q0 _)) (Qh (QE 6 sc_law_fits.nd (Yp (GN (QO hr)) PySem.F.plainAttrs_dict PySem.F.slot_dict_get PySem.F.type_dict_get (Qa 3) (Qd (QA (QO hr) (Qa 0) Qq) (Qd (QA (QO hr) (Qa 5) Qq) Qm)))) (Qh (QE 7 sc_law_fits.nd (QA (QO hr) (Qa 5) Qq)) (Qh (Zk (Q8 Qav (QA (QO hr) (Qa 0) Qq) ZR (Q0 _)) (Qh (Zk (Yq (zr xC xC (Qa 6) (QA (QO hr) (Qa 0) Qq) (Qa 7))) (Qo (Qs J9)) QM) (Qh (QE 7 sc_law_fits.nd (QA (QO hr) (Qa 0) Qq)) (Qo (ya (Qa 7) (x8 (QO hr) (Qa 3) (QA (QO hr) (Qa 0) Qq)))))) QM) (Qo (Qs (Q2 (qI Z 6) hr (by decide) QL (Qd (QA (QO hr) (Qa 0) Qq) (Qd (Qcf Vy Z.z3 boot_tuple (Qd (XO (caps:=["low", "high", "table"]) (idx:=[6,7,2]) ⟨by with_unfolding_all rfl,by decide +kernel,rfl,by decide +kernel,rfl,(by exact ⟨rfl,⟨rfl,⟨rfl,trivial⟩⟩⟩),by with_unfolding_all rfl,(by exact ⟨rfl,.inl rfl,⟨_,rfl⟩,(fun h=>NameKind.noConfusion (Aj (show some NameKind.cell=some NameKind.local from h))),⟨rfl,.inl rfl,⟨_,rfl⟩,(fun h=>NameKind.noConfusion (Aj (show some NameKind.cell=some NameKind.local from h))),⟨rfl,.inl rfl,⟨_,rfl⟩,(fun h=>NameKind.noConfusion (Aj (show some NameKind.cell=some NameKind.local from h))),trivial⟩⟩⟩),by decide⟩ rfl (qG (ZZ (xZ rfl) Z.z10 boot_sorted (Qd (Qa 2) Qm))) (fun _ _ _ _=>Vl (zr Qdf xC (Qa 1) (Qa 0) (Qa 2))) (fun _ _ _ _=>Zg (Qd (Qa 0) (Qd (QA (QO hr) (Qa 3) (Qa 0)) Qm)))) Qm)) Qm)))))))) QM) (Qh (Zk (Yq (X5 (Q2 (qI Z 6) hr (by decide) QL (Qd (QA (QO hr) (Qa 0) Qq) (Qd (Yp (GN (QO hr)) PySem.F.plainAttrs_dict PySem.F.slot_dict_get PySem.F.type_dict_get (Qa 2) (Qd (QA (QO hr) (Qa 5) Qq) Qm)) Qm))))) (Qo (Qs J9)) QM) (Qh (Zk (Q8 (qZ hr.units) (Qa 4) Zm (Q0 _)) (Qo (ya (QA (QO hr) (Qa 5) Qq) (x8 (QO hr) (Qa 2) (QA (QO hr) (Qa 5) Qq)))) QM) (Qh (Zk (DW.pt (Qcm (Q8 (qZ hr.units) (Qa 4) Zm (Q0 _)) (kY (Q8 (QfV (QO hr)) (QA (QO hr) (Qa 5) Qq) (Qa 2) (by with_unfolding_all rfl))))) (Qo (Jn (Yp QgC PySem.F.plainAttrs_dict PySem.F.slot_dict_pop PySem.F.type_dict_pop (Qa 2) (Qd (QA (QO hr) (Qa 5) Qq) Qm)))) QM) (Qo (Qs J9)))))))))
theorem yg:Has P w K mg O8 "_law_followed" 9 5 Xh:=hf Z.u42 Vg fun _ _ _ _ _ _ _ hr=>Qh (Zk (Yq (X5 (Q2 (qH Z) hr (by decide) QL (Qd (Qa 1) (Qd (Qa 2) (Qd (Qa 3) (Qd (Qa 4) Qm))))))) (Qo (Qs J9)) QM) (Qh (Zk (Q8 (QfV (QO hr)) (QA (QO hr) (Qa 1) Qq) (Zg (Qd Zm (Qd Zm (Qd Zm (Qd Zm Qm))))) (by with_unfolding_all rfl)) (Qo (Qs (YW (qZ hr.units) (Q2 (ju Z) hr (by decide) QL (Qd (Qa 0) Qm)) (XO (caps:=["table"]) (idx:=[3]) ⟨by with_unfolding_all rfl,by decide +kernel,rfl,by decide +kernel,rfl,(by exact ⟨rfl,trivial⟩),by with_unfolding_all rfl,(by exact ⟨rfl,.inl rfl,⟨_,rfl⟩,(fun h=>NameKind.noConfusion (Aj (show some NameKind.cell=some NameKind.local from h))),trivial⟩),by decide⟩ rfl (qG (ZZ (xZ rfl) Z.z10 boot_sorted (Qd (Qa 3) Qm))) (fun _ _ _ _=>xa) (fun _ _ _ _=>Zg (Qd (Qa 0) (Qd (QA (QO hr) (Qa 1) (Qa 0)) Qm)))) (Q0 _)))) QM) (Qo (Qs J9)))
def Yu:Xj P w K mg O8 "Weaver" "hand_in" 1 2 ZW:=hM Z.u43 xK fun _ _ _ _ _ _ _ hr=>Qh (Jn (Yp zJ PySem.F.plainAttrs_list PySem.F.slot_list_append PySem.F.type_list_append (Qw Z.k4 (Qa 0)) (Qd (Qa 1) Qm))) (Qo (Qs (QD yI (ZZ Xl Z.z0 PySem.boot_len (Qd (Qw Z.k4 (Qa 0)) Qm)) Qq)))
def zF:Has P w K mg O8 "_law_key" 1 1 XA:=hf Z.u44 sc_law_key fun _ _ _ _ _ _ _ hr=>Qh (QE 1 sc_law_key.nd (QD xB (Qa 0) Qq)) (Qh (Zk (Q8 (Qbz hr.units) (QD qj (Qa 0) Qq) Qq (Q0 _)) (Qo (Qs (QD yI (QD qj (QD QgO (Qa 1) (QD yH Qq Qq)) (QD Xc (QD QfW Qq (QD yH Qq Qq)) Qq)) (QD yH Qq Qq)))) QM) (Qh (Zk (Q8 (Qbz hr.units) (QD qj (Qa 0) Qq) Qq (Q0 _)) (Qo (Qs (JG (Gv (Qd (QD yH Qq Qq) (Qd (ga (QD yH Qq Qq)) (Qd (QD yI (QD yH Qq Qq) Qq) (Qd (QD yI Qq (QD yH Qq Qq)) Qm))))) (QD qj (Qa 1) Qq)))) QM) (Qo (Qs (QD yI (QD qj (Qa 1) Qq) Qq)))))
theorem GA:Has P w K mg O8 "_law_deed" 2 1 Ym:=hf Z.u45 sc_law_deed fun _ _ _ _ _ _ _ hr=>Qh (QE 1 sc_law_deed.nd (QD qj (Qa 0) Qq)) (Qh (QE 2 sc_law_deed.nd (Q2 (zF Z) hr (by decide) QL (Qd (QD xB (Qa 0) Qq) Qm))) (Qh (Zk (Q8 (Qbz hr.units) (Qa 1) Qq (Q0 _)) (Qo (Qs (Zg (Qd Zm (Qd (Qa 2) Qm))))) QM) (Qh (Zk (Q8 xC (Qa 1) Qq (Q0 _)) (Qo (Qs (Zg (Qd Zm (Qd (Qa 2) (Qd (Q2 (zF Z) hr (by decide) QL (Qd (QD xB (Qa 0) Qq) Qm)) Qm)))))) QM) (Qh (Zk (Q8 xC (Qa 1) Qq (Q0 _)) (Qo (Qs (Zg (Qd Zm (Qd (Qa 2) Qm))))) QM) (Qh (QE 3 sc_law_deed.nd (Q2 (zF Z) hr (by decide) QL (Qd (QD xB (Qa 0) Qq) Qm))) (Qh (Zk (Q8 (Qbz hr.units) (Qa 3) (Qa 2) (Q0 _)) (Qo (QE 3 sc_law_deed.nd (QD yI (Qa 2) Qq))) QM) (Qh (Zk (Q8 xC (Qa 3) (ga (QD yH Qq Qq)) (Q0 _)) (Qo (QE 3 sc_law_deed.nd (QD Xc (Qa 2) Qq))) QM) (Qo (Qs (Zg (Qd Zm (Qd (ZZ (QhW rfl) Z.z12 boot_min (Qd (Qa 2) (Qd (Qa 3) Qm))) (Qd (ZZ (QhV rfl) Z.z11 boot_max (Qd (Qa 2) (Qd (Qa 3) Qm))) Qm)))))))))))))
theorem U3:Has P w K mg O8 "_law_ahead" 1 1 YD:=hf Z.u46 sc_law_ahead fun _ _ _ _ _ _ _ hr=>Qh (QE 1 sc_law_ahead.nd (QA (QO hr) (Gv (Qd Qq (Qd Qq (Qd Qq (Qd Qq (Qd Qq Qm)))))) (QD qj (QD xB (Qa 0) Qq) Qq))) (Qo (Qs (XO (caps:=["step"]) (idx:=[1]) ⟨by with_unfolding_all rfl,by decide +kernel,rfl,by decide +kernel,rfl,(by exact ⟨rfl,trivial⟩),by with_unfolding_all rfl,(by exact ⟨rfl,.inl rfl,⟨_,rfl⟩,(fun h=>NameKind.noConfusion (Aj (show some NameKind.cell=some NameKind.local from h))),trivial⟩),by decide⟩ rfl (yD (qf rfl Z.z1 (Qd (QD qj (Qa 0) Qq) Qm))) (fun _ _ _ _=>xa) (fun _ _ _ _=>Zg (Qd Zm (Qd (QD yI (QD qj (QD QfW (Qa 0) (Qa 1)) Qq) Qq) (Qd (QD Xc Qq (Qa 0)) Qm)))))))
def jp:QaV P w K mg O8 "Weaver" 1 3 Jz:=hI Z.u47 jM fun _ _ _ _ _ _ _ hr=>Qh (Zh Z.k16 (Qa 0) (Qa 1)) (Qh (Zh Z.k4 (Qa 0) (j8 Qm)) (Qh (Zh Z.k3 (Qa 0) Qq) (Qh (Zh Z.k5 (Qa 0) (QD QgP (Gv (Qd ZR Qm)) (Qa 2))) (Qo (Zh Z.k19 (Qa 0) (j8 Qm))))))
def jI:QaV P w K mg O8 "Shelf" 1 2 Jk:=hI Z.u48 xJ fun _ _ _ _ _ _ _ hr=>let ⟨_,g_EMPTY_LEAF,q_EMPTY_LEAF⟩:=Z.t0.ex;Qh (Zh Z.k18 (Qa 0) (Qa 1)) (Qh (Zh Z.k0 (Qa 0) (j8 (Qd (Qep rfl g_EMPTY_LEAF q_EMPTY_LEAF) Qm))) (Qh (Zh Z.k2 (Qa 0) Qq) (Qh (Zh Z.k1 (Qa 0) Qq) (Qo (Zh Z.k17 (Qa 0) Qq)))))
def Vb:Has P w K mg O8 "_law_cell_at" 1 2 Jv:=hf Z.u49 Ur fun _ _ _ _ _ _ _ hr=>Qh (Zk (Q8 xC (Qa 1) (ZZ kO Z.z0 PySem.boot_len (Qd (Qa 0) Qm)) (Q0 _)) (Qo (Qs (JG (Qa 0) (Qa 1)))) QM) (Qo (Qs Qq))
theorem law_fn {g:Addr} {fd:FuncData} (F:Fun K "law" "law" yN g fd):zm P w K mg O8 CX0 10 g fd ["script"] (spD K 1 vg):=Qh4 F sc_law fun _ _ _ _ _ _ hr=>Qh (QE 1 sc_law.nd (Q2 (Vb Z) hr (by decide) QL (Qd (Qa 0) (Qd Qq Qm)))) (Qh (QE 2 sc_law.nd (QD Xc Qq (QD qj (Qa 1) Qq))) (Qh (QE 3 sc_law.nd (Gw (jI Z) hr (by decide) QL (Qd (QD Xc Qq (QD qj (QD xB (Qa 1) Qq) Qq)) Qm))) (Qh (QE 4 sc_law.nd (Gw (jp Z) hr (by decide) QL (Qd (Qa 3) (Qd (Qa 2) Qm)))) (Qh (QE 5 sc_law.nd (Q2 (U3 Z) hr (by decide) QL (Qd (QD xB (Qa 1) Qq) Qm))) (Qh (QE 6 sc_law.nd VF) (Qh (QE 7 sc_law.nd VF) (Qh (qF PassesOwn.never rfl (qG (Qa 5)) (jb 8 sc_law.nd) (Qo (Jn (Zf (Yu Z) hr (by decide) QL (Qa 4) (Qd (Qa 8) Qm))))) (Qh (qF PassesOwn.never rfl (qG (JH (YH Z) hr (by decide) QL (Qa 4))) (jb 9 sc_law.nd) (Qo (Zk (Yq (X5 (Q2 (qH Z) hr (by decide) QL (Qd (Qa 9) (Qd (Qa 5) (Qd (Qa 6) (Qd (Qa 7) Qm))))))) (Qo (Qs J9)) QM))) (Qh (qF PassesOwn.never rfl (yD (qf rfl Z.z1 (Qd (ZZ Xl Z.z0 PySem.boot_len (Qd (Qa 0) Qm)) Qm))) (jb 10 sc_law.nd) (Qh (Zk (Q8 xC (Qa 10) Qq (Q0 _)) (Qh (Jn (Yp zJ PySem.F.plainAttrs_list PySem.F.slot_list_append PySem.F.type_list_append (Qa 5) (Qd (Q2 (GA Z) hr (by decide) QL (Qd (QA (QO hr) (Qa 0) (Qa 10)) Qm)) Qm))) (Qo (Jn (Zf (Yu Z) hr (by decide) QL (Qa 4) (Qd (QA (QO hr) (Qa 5) (ga Qq)) Qm))))) QM) (Qo (Zk (Yq (X5 (Q2 (yg Z) hr (by decide) QL (Qd (Qa 3) (Qd (Zf (qW Z) hr (by decide) QL (Qa 4) (Qd (QD qj (QD xB (QA (QO hr) (Qa 0) (Qa 10)) Qq) (Qa 2)) Qm)) (Qd (Qa 5) (Qd (Qa 6) (Qd (Qa 7) Qm)))))))) (Qo (Qs J9)) QM)))) (Qh (qF PassesOwn.never rfl (qG (JH (YH Z) hr (by decide) QL (Qa 4))) (jb 9 sc_law.nd) (Qo (Zk (Yq (X5 (Q2 (qH Z) hr (by decide) QL (Qd (Qa 9) (Qd (Qa 5) (Qd (Qa 6) (Qd (Qa 7) Qm))))))) (Qo (Qs J9)) QM))) (Qo (Qs (YW (qZ hr.units) (Q2 (ju Z) hr (by decide) QL (Qd (Qa 3) Qm)) (XO (caps:=["table"]) (idx:=[6]) ⟨by with_unfolding_all rfl,by decide +kernel,rfl,by decide +kernel,rfl,(by exact ⟨rfl,trivial⟩),by with_unfolding_all rfl,(by exact ⟨rfl,.inl rfl,⟨_,rfl⟩,(fun h=>NameKind.noConfusion (Aj (show some NameKind.cell=some NameKind.local from h))),trivial⟩),by decide⟩ rfl (qG (ZZ (xZ rfl) Z.z10 boot_sorted (Qd (Qa 6) Qm))) (fun _ _ _ _=>xa) (fun _ _ _ _=>Zg (Qd (Qa 0) (Qd (QA (QO hr) (Qa 1) (Qa 0)) Qm)))) (Q0 _))))))))))))))
end
def shF (r:Int) (k:Nat) (t a b:Int):List (Str×DV):=[("page_room", .int r),("kept", .ref k),("top", .int t),("read_count", .int a),("write_count", .int b)]
theorem QdO (r:Int) (k:Nat) (t a b:Int):List.lookup ("page_room" : Str) (shF r k t a b)=some (DV.int r):=by rfl
theorem qr (r:Int) (k:Nat) (t a b:Int):List.lookup ("kept" : Str) (shF r k t a b)=some (DV.ref k):=by rfl
theorem QaK (r:Int) (k:Nat) (t a b:Int):List.lookup ("top" : Str) (shF r k t a b)=some (DV.int t):=by rfl
theorem QfZ (r:Int) (k:Nat) (t a b:Int):List.lookup ("write_count" : Str) (shF r k t a b)=some (DV.int b):=by rfl
theorem QiF (r:Int) (k:Nat) (t a b:Int):List.lookup ("read_count" : Str) (shF r k t a b)=some (DV.int a):=by rfl
theorem ux (r:Int) (k:Nat) (t a b c:Int):JK ("write_count" : Str) (.int c) (shF r k t a b)=shF r k t a c:=by rfl
theorem QdM (r:Int) (k:Nat) (t a b c:Int):JK ("read_count" : Str) (.int c) (shF r k t a b)=shF r k t c b:=by rfl
theorem QdN (r:Int) (k:Nat) (t a b c:Int):JK ("top" : Str) (.int c) (shF r k t a b)=shF r k c a b:=by rfl
def Vq (r:Int) (k:Nat) (t a b:Int):(shF r k t a b).length=5:=rfl
theorem yu (r:Int) (k:Nat) (t a b:Int):List.lookup ("check_number" : Str) (shF r k t a b)=none:=by rfl
theorem K5 (r:Int) (k:Nat) (t a b:Int):List.lookup ("lay" : Str) (shF r k t a b)=none:=by rfl
theorem jP (r:Int) (k:Nat) (t a b:Int):List.lookup ("read" : Str) (shF r k t a b)=none:=by rfl
theorem zW (r:Int) (k:Nat) (t a b:Int):List.lookup ("write" : Str) (shF r k t a b)=none:=by rfl
theorem Ut (r:Int) (k:Nat) (t a b:Int):List.lookup ("root" : Str) (shF r k t a b)=none:=by rfl
theorem uw (r:Int) (k:Nat) (t a b:Int):List.lookup ("raise_root" : Str) (shF r k t a b)=none:=by rfl
theorem QdL (r:Int) (k:Nat) (t a b:Int):List.lookup ("room" : Str) (shF r k t a b)=none:=by rfl
theorem zV (r:Int) (k:Nat) (t a b:Int):List.lookup ("pages" : Str) (shF r k t a b)=none:=by rfl
section
variable {r t a b:Int} {n k:Nat} {ps:List DV} {hp:Hs}
theorem V3 (h1:hp[n]?=some (.ins "Shelf" (shF r k t a b))) (h2:hp[k]?=some (.lst ps)):ZT [.ref n] hp=some (.int ps.length,hp):=by
 simp [ZT,jr,Q9,Qr,QC,QF,zQ,sIf,Q6,Uc,y6,Ua,Ub,Qk,Qb,eC,eB,asB,YA,eOr,Jx,Xn,VM,qh,eIf,YB,Qn,Qc,Zp,qg,QI,Zx,Qx,gN,Js,JP,JB,JC,JW,JU,JJ,q8,zO,V7,Z9,Xs,ZP,Zc,X6,GV,Xw,gSb,yq,Z1,Xr,Qz,jG,jO,onI,onL,onD,ZD,X9,YJ,JD,ixG,Jy,qN,zN,Xq,zq,asI,zo,G8,QJ,Xo,XR,JY,YF,evP,JL,Yc,JM,Xt,JX,Yb,Ye,Yd,Zv,QP,Jo,h1,h2,qr]
theorem QaG (h1:hp[n]?=some (.ins "Shelf" (shF r k t a b))):Z7 [.ref n] hp=some (.int t,hp):=by
 simp [Z7,jW,Q9,Qr,QC,QF,zQ,sIf,Q6,Uc,y6,Ua,Ub,Qk,Qb,eC,eB,asB,YA,eOr,Jx,Xn,VM,qh,eIf,YB,Qn,Qc,Zp,qg,QI,Zx,Qx,gN,Js,JP,JB,JC,JW,JU,JJ,q8,zO,V7,Z9,Xs,ZP,Zc,X6,GV,Xw,gSb,yq,Z1,Xr,Qz,jG,jO,onI,onL,onD,ZD,X9,YJ,JD,ixG,Jy,qN,zN,Xq,zq,asI,zo,G8,QJ,Xo,XR,JY,YF,evP,JL,Yc,JM,Xt,JX,Yb,Ye,Yd,Zv,QP,Jo,h1,QaK]
theorem Qfp (h1:hp[n]?=some (.ins "Shelf" (shF r k t a b))):Jl [.ref n] hp=some (.int r,hp):=by
 simp [Jl,jV,Q9,Qr,QC,QF,zQ,sIf,Q6,Uc,y6,Ua,Ub,Qk,Qb,eC,eB,asB,YA,eOr,Jx,Xn,VM,qh,eIf,YB,Qn,Qc,Zp,qg,QI,Zx,Qx,gN,Js,JP,JB,JC,JW,JU,JJ,q8,zO,V7,Z9,Xs,ZP,Zc,X6,GV,Xw,gSb,yq,Z1,Xr,Qz,jG,jO,onI,onL,onD,ZD,X9,YJ,JD,ixG,Jy,qN,zN,Xq,zq,asI,zo,G8,QJ,Xo,XR,JY,YF,evP,JL,Yc,JM,Xt,JX,Yb,Ye,Yd,Zv,QP,Jo,h1,QdO]
theorem VB {i:Int} (h1:hp[n]?=some (.ins "Shelf" (shF r k t a b))) (h2:hp[k]?=some (.lst ps)) (i0:0<=i) (i1:i < ps.length):
  Zu [.ref n,.int i] hp=some (.non,hp):=by
 have q0:¬ i < 0:=by lia
 have q1:¬ (ps.length:Int)<=i:=by lia
 simp [Zu,XN,Q9,Qr,QC,QF,zQ,sIf,Q6,Uc,y6,Ua,Ub,Qk,Qb,eC,eB,asB,YA,eOr,Jx,Xn,VM,qh,eIf,YB,Qn,Qc,Zp,qg,QI,Zx,Qx,gN,Js,JP,JB,JC,JW,JU,JJ,q8,zO,V7,Z9,Xs,ZP,Zc,X6,GV,Xw,gSb,yq,Z1,Xr,Qz,jG,jO,onI,onL,onD,ZD,X9,YJ,JD,ixG,Jy,qN,zN,Xq,zq,asI,zo,G8,QJ,Xo,XR,JY,YF,evP,JL,Yc,JM,Xt,JX,Yb,Ye,Yd,Zv,QP,Jo,Z0,h1,h2,qr,i0,i1,q0,q1]
theorem QaD {i:Nat} (h1:hp[n]?=some (.ins "Shelf" (shF r k t a b))) (h2:hp[k]?=some (.lst ps)) (hnk:n≠k) (hd:ps[i]?=some d):
  Zy [.ref n,.int i] hp=some (d,hp.set n (.ins "Shelf" (shF r k t (a+1) b))):=by
 have i1:i < ps.length:=(Ac.mp hd).1
 have c:=VB (i:=(i:Int)) h1 h2 (by lia) (by lia)
 have hd':=qB hd
 simp [Zy,jU,Q9,Qr,QC,QF,zQ,sIf,Q6,Uc,y6,Ua,Ub,Qk,Qb,eC,eB,asB,YA,eOr,Jx,Xn,VM,qh,eIf,YB,Qn,Qc,Zp,qg,QI,Zx,Qx,gN,Js,JP,JB,JC,JW,JU,JJ,q8,zO,V7,Z9,Xs,ZP,Zc,X6,GV,Xw,gSb,yq,Z1,Xr,Qz,jG,jO,onI,onL,onD,ZD,X9,YJ,JD,ixG,Jy,qN,zN,Xq,zq,asI,zo,G8,QJ,Xo,XR,JY,YF,evP,JL,Yc,JM,Xt,JX,Yb,Ye,Yd,Zv,QP,Jo,h1,h2,c,qr,QiF,QdM,Vq,yu,hd',hnk,hnk.symm]
theorem UL {i:Nat} {d:DV} (h1:hp[n]?=some (.ins "Shelf" (shF r k t a b))) (h2:hp[k]?=some (.lst ps)) (hnk:n≠k) (i1:i < ps.length):
  Ju [.ref n,.int i,d] hp=some (.non,(hp.set n (.ins "Shelf" (shF r k t a (b+1)))).set k (.lst (ps.set i d))):=by
 have c:=VB (i:=(i:Int)) h1 h2 (by lia) (by lia)
 simp [Ju,js,Q9,Qr,QC,QF,zQ,sIf,Q6,Uc,y6,Ua,Ub,Qk,Qb,eC,eB,asB,YA,eOr,Jx,Xn,VM,qh,eIf,YB,Qn,Qc,Zp,qg,QI,Zx,Qx,gN,Js,JP,JB,JC,JW,JU,JJ,q8,zO,V7,Z9,Xs,ZP,Zc,X6,GV,Xw,gSb,yq,Z1,Xr,Qz,jG,jO,onI,onL,onD,ZD,X9,YJ,JD,ixG,Jy,qN,zN,Xq,zq,asI,zo,G8,QJ,Xo,XR,JY,YF,evP,JL,Yc,JM,Xt,JX,Yb,Ye,Yd,Zv,QP,Jo,h1,h2,c,qr,QfZ,ux,Vq,yu,hnk,hnk.symm,Qan i1]
theorem QcT {pg:DV} (h1:hp[n]?=some (.ins "Shelf" (shF r k t a b))) (h2:hp[k]?=some (.lst ps)) (hnk:n≠k) (hl:ps.length < 99999):
  XL [.ref n,pg] hp=some (.int ps.length,(hp.set n (.ins "Shelf" (shF r k t a (b+1)))).set k (.lst (ps++[pg]))):=by
 have hlim:ps.length < lim:=by unfold lim;lia
 simp [XL,yz,Q9,Qr,QC,QF,zQ,sIf,Q6,Uc,y6,Ua,Ub,Qk,Qb,eC,eB,asB,YA,eOr,Jx,Xn,VM,qh,eIf,YB,Qn,Qc,Zp,qg,QI,Zx,Qx,gN,Js,JP,JB,JC,JW,JU,JJ,q8,zO,V7,Z9,Xs,ZP,Zc,X6,GV,Xw,gSb,yq,Z1,Xr,Qz,jG,jO,onI,onL,onD,ZD,X9,YJ,JD,ixG,Jy,qN,zN,Xq,zq,asI,zo,G8,QJ,Xo,XR,JY,YF,evP,JL,Yc,JM,Xt,JX,Yb,Ye,Yd,Zv,QP,Jo,h1,h2,qr,QfZ,ux,Vq,hlim,hnk,hnk.symm]
end
def Zt (l:Int) (ks ps:List Int) (hi sd:Option Int):DV:=.tup [.int l,.tup (ks.map .int),.tup (ps.map .int),opt hi,opt sd]
def hiB (hi:Option Int) (k:Int):Bool:=match hi with
 | none=>false
 | some h=>decide (h<=k)
def cLe (ks:List Int) (k:Int):Nat:=(ks.filter fun x=>decide (x<=k)).length
def cLt (ks:List Int) (k:Int):Nat:=(ks.filter fun x=>decide (x < k)).length
def Xk (ks:List Int) (k:Int):cLe ks k<=ks.length:=B8 _ _
def xY (ks:List Int) (k:Int):cLt ks k<=ks.length:=B8 _ _
theorem Qhx {f:DEx} (hf:f env hp=some (.tup ds,hp)):iTp f env hp=some (ds,hp):=by
 unfold iTp;rw [Qf hf];rfl
theorem Qca {t:DTx} {p:Int->Bool} (ks:List Int) (k:Int) (hl:ks.length<=100) (ht:∀ x hp,t [.val (.int x),.val (.int k)] hp=some (p x,hp)) (hp:Hs):Zx Jy (Qc (Z4 false (xOf (iTp (Qb 0))) [1] t (Qb 0)) Qn) [.val (.tup (ks.map .int)),.val (.int k)] hp=some (.int (ks.filter p).length,hp):=by
 have q:Z4 false (xOf (iTp (Qb 0))) [1] t (Qb 0) [.val (.tup (ks.map .int)),.val (.int k)] hp=some (.lst (((ks.filter p).map fun x=>x).map .int),hp):=by
  unfold Z4
  rw [Qf (yw (Qhx (ds:=ks.map .int) (Qe rfl)))]
  exact (Qf (uY (p:=p) (g:=fun x=>x) ks (fun i hi=>XD (ks.map .int) i (by rw [Br];exact hi) hp) (fun x=>ht x hp) (fun x=>rfl) (by lia))).trans rfl
 rw [XC (Zq q) (QcX ..),Br,Br]
def Gq (ks:List Int) (k:Int) (hl:ks.length<=100):Zz [.tup (ks.map .int),.int k]=pure (.int (cLe ks k)):=kM fun hp=>Qv (env:=[.val (.tup (ks.map .int)),.val (.int k)]) (Qy (Qca ks k hl (fun _ _=>rfl) hp))
def QfO (ks:List Int) (k:Int) (hl:ks.length<=100):XH [.tup (ks.map .int),.int k]=pure (.int (cLt ks k)):=kM fun hp=>Qv (env:=[.val (.tup (ks.map .int)),.val (.int k)]) (Qy (Qca ks k hl (fun _ _=>rfl) hp))
theorem Qa2 (l:Int) (ks ps:List Int) (hi sd:Option Int) (k:Int):Y8 [Zt l ks ps hi sd,.int k]=pure (.bl (hiB hi k)):=by
 cases hi<;>rfl
theorem Qgx (l:Int) (ks ps:List Int) (hi sd:Option Int) (k:Int) (hl:ks.length<=100) (hp:ps.length=ks.length+1):Y9 [Zt l ks ps hi sd,.int k]=pure (.int (ps.getD (cLe ks k) 0)):=by
 have h:=Xk ks k
 have a:=Gk ps (i:=(cLe ks k:Int)) (by lia) (by lia)
 rw [By] at a
 refine YK (Yf (jd (x:=.tup (ps.map .int)) (y:=.int (cLe ks k)) rfl (yb (x:=.tup (ks.map .int)) (y:=.int k) rfl rfl (Gq ks k hl)) ?_))<;>try exact []
 simp [ixD,a]
theorem Qd7 (l:Int) (ks ps:List Int) (hi sd:Option Int) (k:Int) (hl:ks.length<=100) (hp:ps.length=ks.length):J5 [Zt l ks ps hi sd,.int k]=pure (if cLt ks k=cLe ks k then .non else .int (ps.getD (cLt ks k) 0)):=by
 have h:=Xk ks k
 have hlt:=xY ks k
 refine YK (env:=[.val (Zt l ks ps hi sd),.val (.int k),.val (.tup (ks.map .int)),.val (.int (cLt ks k))]) ?_
 refine (ZS (Z2 (d:=.tup (ks.map .int)) rfl)).trans ?_
 refine (ZS (Z2 (d:=.int (cLt ks k)) (yb (x:=.tup (ks.map .int)) (y:=.int k) rfl rfl (QfO ks k hl)))).trans ?_
 have tst:eB (Qk eqD (Qb 3) (QI 2 Zz (Qc (Qb 2) (Qc (Qb 1) Qn)))) [.val (Zt l ks ps hi sd),.val (.int k),.val (.tup (ks.map .int)),.val (.int (cLt ks k))]=pure (decide (cLt ks k=cLe ks k)):=by
  refine Qh0 (jd (x:=.int (cLt ks k)) (y:=.int (cLe ks k)) rfl (yb (x:=.tup (ks.map .int)) (y:=.int k) rfl rfl (Gq ks k hl)) ?_)
  rw [Z9]
  congr 2
  rw [Bool.eq_iff_iff];simp only [beq_iff_eq,decide_eq_true_eq];lia
 by_cases hc:cLt ks k=cLe ks k
 ·rw [C0 hc]
  exact Qft ((QiE (tst.trans (by simp [hc]))).trans (Yf rfl))
 ·rw [Cz hc]
  refine (ZS ((QiD (tst.trans (by simp [hc]))).trans rfl)).trans ?_
  have hlt2:cLt ks k < ks.length:=by
   have:cLt ks k<=cLe ks k:=by
    unfold cLt cLe
    rw [<- List.countP_eq_length_filter,<- List.countP_eq_length_filter]
    exact List.countP_mono_left fun x _ hx=>by simp at hx ⊢;lia
   lia
  have a:=Gk ps (i:=(cLt ks k:Int)) (by lia) (by lia)
  rw [By] at a
  exact Yf (jd (x:=.tup (ps.map .int)) (y:=.int (cLt ks k)) rfl rfl (by simp [ixD,a]))
theorem vi {f:DEx} {g:DAx} {x:DV} (h:f env hp=some (x,hp1)) (h':g env hp1=some (xs,hp2)):Qc f g env hp=some (x::xs,hp2):=by
 unfold Qc;rw [Qf h,Qf h'];rfl
theorem Qcq {F:Ef} {f f' f'' f3:DEx} (h:f env=pure x) (h':f' env=pure y) (h'':f'' env=pure z) (h3:f3 env=pure u) (hF:F [x,y,z,u]=pure d):QI 4 F (Qc f (Qc f' (Qc f'' (Qc f3 Qn)))) env=pure d:=by simp [QI,Qc,Qn,h,h',h'',h3,Qx,hF]
def yJ (l:Int) (ks ps:List Int) (hi sd:Option Int) (a b:DV):qx [Zt l ks ps hi sd,a,b]=pure (.tup [.int l,a,b,opt hi,opt sd]):=rfl
theorem Qfr (ks ns:List Int) (a b:Nat) (h:ks.length<=1000) (hn:ns.length<=10):(do let x <- slD (.tup (ks.map .int)) none (some (a:Int));let y <- Jd x (.tup (ns.map .int));let d <- slD (.tup (ks.map .int)) (some (b:Int)) none;Jd y d:M DV)=pure (.tup ((ks.take a++ns++ks.drop b).map .int)):=by
 rw [Uv,Uu]
 simp only [C7,Jd]
 rw [Yi (by simp;lia)]
 simp only [Qx,if_true,C7]
 rw [Yi (by simp;lia)]
 simp [List.map_take,List.map_drop]
theorem QfR {f g h q:DEx} {ks ns:List Int} {a b:Nat} (hf:f env=pure (.tup (ks.map .int))) (hg:g env=pure (.int (a:Int))) (hh:h env=pure (.int (b:Int))) (hq:q env=pure (.tup (ns.map .int))) (hl:ks.length<=1000) (hn:ns.length<=10):Qk Jd (Qk Jd (eSl f ZN (ZO g)) q) (eSl f (ZO h) ZN) env=pure (.tup ((ks.take a++ns++ks.drop b).map .int)):=by
 have e1:eSl f ZN (ZO g) env=slD (.tup (ks.map .int)) none (some (a:Int)):=by simp only [eSl,hf,hg,ZN,ZO,asI,C7]
 have e2:eSl f (ZO h) ZN env=slD (.tup (ks.map .int)) (some (b:Int)) none:=by simp only [eSl,hf,hh,ZN,ZO,asI,C7]
 rw [<- Qfr ks ns a b hl hn]
 simp only [Qk,e1,e2,hq,C7,bind_assoc]
theorem yV (l:Int) (ks ps nk nw:List Int) (hi sd:Option Int) (k:Int) (hl:ks.length<=100) (hp:ps.length<=100) (h1:nk.length<=10) (h2:nw.length<=10):qz [Zt l ks ps hi sd,.int k,.tup (nk.map .int),.tup (nw.map .int)]=pure (Zt l (ks.take (cLt ks k)++nk++ks.drop (cLe ks k)) (ps.take (cLt ks k)++nw++ps.drop (cLe ks k)) hi sd):=by
 refine YK (env:=[.val (Zt l ks ps hi sd),.val (.int k),.val (.tup (nk.map .int)),.val (.tup (nw.map .int)),.val (.tup (ks.map .int)),.val (.tup (ps.map .int)),.val (.int (cLt ks k:Int)),.val (.int (cLe ks k:Int))]) ?_
 refine (ZS (Z2 (d:=.tup (ks.map .int)) rfl)).trans ?_
 refine (ZS (Z2 (d:=.tup (ps.map .int)) rfl)).trans ?_
 refine (ZS (Z2 (d:=.int (cLt ks k:Int)) (yb (x:=.tup (ks.map .int)) (y:=.int k) rfl rfl (QfO ks k hl)))).trans ?_
 refine (ZS (Z2 (d:=.int (cLe ks k:Int)) (yb (x:=.tup (ks.map .int)) (y:=.int k) rfl rfl (Gq ks k hl)))).trans ?_
 exact Yf (Qcp (x:=Zt l ks ps hi sd) rfl (QfR rfl rfl rfl rfl (by lia) h1) (QfR rfl rfl rfl rfl (by lia) h2) (yJ l ks ps hi sd _ _))
def gy (ks:List Int) (c:Nat) (k:Int):List Int:=ks.take c++k::ks.drop c
theorem Qhp (ks:List Int) (c:Nat) (k:Int) (h:ks.length<=1000):(do let a <- slD (.tup (ks.map .int)) none (some (c:Int));let b <- Jd a (.tup [.int k]);let d <- slD (.tup (ks.map .int)) (some (c:Int)) none;Jd b d:M DV)=pure (.tup ((gy ks c k).map .int)):=by
 rw [Uv,Uu]
 simp only [C7,Jd]
 rw [Yi (by simp;lia)]
 simp only [Qx,if_true,C7]
 rw [Yi (by simp;lia)]
 simp [gy,List.map_take,List.map_drop]
theorem kZ {f g h:DEx} {ks:List Int} {c:Nat} {k:Int} (hf:f env=pure (.tup (ks.map .int))) (hg:g env=pure (.int (c:Int))) (hk:h env=pure (.int k)) (hl:ks.length<=1000):Qk Jd (Qk Jd (eSl f ZN (ZO g)) (Zp (Qc h Qn))) (eSl f (ZO g) ZN) env=pure (.tup ((gy ks c k).map .int)):=by
 have e1:eSl f ZN (ZO g) env=slD (.tup (ks.map .int)) none (some (c:Int)):=by simp only [eSl,hf,hg,ZN,ZO,asI,C7]
 have e2:eSl f (ZO g) ZN env=slD (.tup (ks.map .int)) (some (c:Int)) none:=by simp only [eSl,hf,hg,ZN,ZO,asI,C7]
 have e3:Zp (Qc h Qn) env=pure (.tup [.int k]):=by
  simp only [Zp,Qc,Qn,hk,C7];rfl
 rw [<- Qhp ks c k hl]
 simp only [Qk,e1,e2,e3,C7,bind_assoc]
theorem Qbp (l:Int) (ks ps:List Int) (hi sd:Option Int) (k kid:Int) (hl:ks.length<=100) (hp:ps.length<=1000):qy [Zt l ks ps hi sd,.int k,.int kid]=pure (Zt l (gy ks (cLe ks k) k) (gy ps (cLe ks k+1) kid) hi sd):=by
 refine YK (env:=[.val (Zt l ks ps hi sd),.val (.int k),.val (.int kid),.val (.tup (ks.map .int)),.val (.tup (ps.map .int)),.val (.int (cLe ks k:Int)),.val (.int ((cLe ks k:Int)+1))]) ?_
 refine (ZS (Z2 (d:=.tup (ks.map .int)) rfl)).trans ?_
 refine (ZS (Z2 (d:=.tup (ps.map .int)) rfl)).trans ?_
 refine (ZS (Z2 (d:=.int (cLe ks k:Int)) (yb (x:=.tup (ks.map .int)) (y:=.int k) rfl rfl (Gq ks k hl)))).trans ?_
 refine (ZS (Z2 (d:=.int ((cLe ks k:Int)+1)) rfl)).trans ?_
 refine Yf (Qcp (x:=Zt l ks ps hi sd) (y:=.tup ((gy ks (cLe ks k) k).map .int)) (z:=.tup ((gy ps (cLe ks k+1) kid).map .int)) rfl ?_ ?_ (yJ l ks ps hi sd _ _))
 ·exact kZ rfl rfl rfl (by lia)
 ·exact kZ rfl (by show (pure (DV.int ((cLe ks k:Int)+1)):M DV)=_;rw [show ((cLe ks k:Int)+1)=((cLe ks k+1:Nat):Int) by lia]) rfl hp
def Zo (l:Int) (n:Nat):Nat:=if l=0 then n / 2 else n / 2+1
def Qdh (l:Int) (ks ps:List Int) (hi sd:Option Int) (num:Int):DV :=
 .tup [Zt l (ks.take (ks.length / 2)) (ps.take (Zo l ks.length)) (some (ks.getD (ks.length / 2) 0)) (some num),Zt l (ks.drop (Zo l ks.length)) (ps.drop (Zo l ks.length)) hi sd,.int (ks.getD (ks.length / 2) 0)]
theorem QbA (l:Int) (ks ps:List Int) (hi sd:Option Int) (num:Int) (h3:3<=ks.length) (hl:ks.length<=100):jR [Zt l ks ps hi sd,.int num]=pure (Qdh l ks ps hi sd num):=by
 have hm:((ks.length:Int)) / 2=((ks.length / 2:Nat):Int):=by lia
 have a:=Gk ks (i:=((ks.length / 2:Nat):Int)) (by lia) (by lia)
 rw [By] at a
 have hcut:(if l=0 then DV.int ((ks.length / 2:Nat):Int) else .int (((ks.length / 2:Nat):Int)+1))=.int ((Zo l ks.length:Nat):Int):=by
  unfold Zo
  split<;>simp
 generalize hC:Zo l ks.length=C at hcut
 generalize hK:ks.getD (ks.length / 2) 0=kk at a
 have e7:eIf (eB (Qk eqD (Qb 2) (eC (.int 0)))) (Qb 5) (Qk Jd (Qb 5) (eC (.int 1))) [.val (Zt l ks ps hi sd),.val (.int num),.val (.int l),.val (.tup (ks.map .int)),.val (.tup (ps.map .int)),.val (.int ((ks.length / 2:Nat):Int)),.val (.int kk),.un,.un,.un]=pure (.int (C:Int)):=by
  rw [<- hcut]
  by_cases q:l=0
  ·simp [eIf,eB,Qk,Qb,eC,Z9,asB,q]
  ·have:(l==0)=false:=by simpa using q
   simp [eIf,eB,Qk,Qb,eC,Z9,asB,q,this,Js]
 unfold Qdh
 rw [hC,hK]
 refine YK (env:=[.val (Zt l ks ps hi sd),.val (.int num),.val (.int l),.val (.tup (ks.map .int)),.val (.tup (ps.map .int)),.val (.int ((ks.length / 2:Nat):Int)),.val (.int kk),.val (.int (C:Int)),.val (Zt l (ks.take (ks.length / 2)) (ps.take C) (some kk) (some num)),.val (Zt l (ks.drop C) (ps.drop C) hi sd)]) ?_
 refine (ZS (Z2 (d:=.int l) rfl)).trans ?_
 refine (ZS (Z2 (d:=.tup (ks.map .int)) rfl)).trans ?_
 refine (ZS (Z2 (d:=.tup (ps.map .int)) rfl)).trans ?_
 refine (ZS (Z2 (d:=.int ((ks.length / 2:Nat):Int)) ?_)).trans ?_
 ·refine jd (x:=.int (ks.length:Int)) (y:=.int 2) ?_ rfl ((Xm _ 2 (by decide) (by decide)).trans (by rw [hm]))
  show (pure (DV.int ((ks.map DV.int).length:Int)):M DV)=_
  rw [Br]
 refine (ZS (Z2 (d:=.int kk) (jd (x:=.tup (ks.map .int)) (y:=.int ((ks.length / 2:Nat):Int)) rfl rfl (QeD a)))).trans ?_
 refine (ZS (Z2 (d:=.int (C:Int)) e7)).trans ?_
 refine (ZS (Z2 (d:=Zt l (ks.take (ks.length / 2)) (ps.take C) (some kk) (some num)) ?_)).trans ?_
 ·have t1:=vL (f:=Qb 3) (g:=Qb 5) (env:=[.val (Zt l ks ps hi sd),.val (.int num),.val (.int l),.val (.tup (ks.map .int)),.val (.tup (ps.map .int)),.val (.int ((ks.length / 2:Nat):Int)),.val (.int kk),.val (.int (C:Int)),.un,.un]) (ds:=ks.map .int) (m:=ks.length / 2) rfl rfl
  have t2:=vL (f:=Qb 4) (g:=Qb 7) (env:=[.val (Zt l ks ps hi sd),.val (.int num),.val (.int l),.val (.tup (ks.map .int)),.val (.tup (ps.map .int)),.val (.int ((ks.length / 2:Nat):Int)),.val (.int kk),.val (.int (C:Int)),.un,.un]) (ds:=ps.map .int) (m:=C) rfl rfl
  simp only [List.set_cons_succ,List.set_cons_zero,Ba,List.map_nil,A9,List.length_nil,List.cons_append,List.nil_append,List.replicate,Zp,Qc,Qn,t1,t2,C7]
  simp only [Zt,List.map_take,opt]
  rfl
 refine (ZS (Z2 (d:=Zt l (ks.drop C) (ps.drop C) hi sd) ?_)).trans ?_
 ·have t1:=vK (f:=Qb 3) (g:=Qb 7) (env:=[.val (Zt l ks ps hi sd),.val (.int num),.val (.int l),.val (.tup (ks.map .int)),.val (.tup (ps.map .int)),.val (.int ((ks.length / 2:Nat):Int)),.val (.int kk),.val (.int (C:Int)),.val (Zt l (ks.take (ks.length / 2)) (ps.take C) (some kk) (some num)),.un]) (ds:=ks.map .int) (m:=C) rfl rfl
  have t2:=vK (f:=Qb 4) (g:=Qb 7) (env:=[.val (Zt l ks ps hi sd),.val (.int num),.val (.int l),.val (.tup (ks.map .int)),.val (.tup (ps.map .int)),.val (.int ((ks.length / 2:Nat):Int)),.val (.int kk),.val (.int (C:Int)),.val (Zt l (ks.take (ks.length / 2)) (ps.take C) (some kk) (some num)),.un]) (ds:=ps.map .int) (m:=C) rfl rfl
  simp only [List.set_cons_succ,List.set_cons_zero,Ba,List.map_nil,A9,List.length_nil,List.cons_append,List.nil_append,List.replicate,Zp,Qc,Qn,t1,t2,C7]
  simp only [Zt,List.map_drop]
  rfl
 exact Yf rfl
theorem XE (p:TR.Pg):pgD p=Zt p.lv p.ks p.ps p.hi (p.sd.map fun n=>(n:Int)):=by
 unfold pgD Zt;cases p.sd<;>rfl
theorem QbE (p:TR.Pg) (k:Int):Y8 [pgD p,.int k]=pure (.bl (TR.Jf p k)):=by
 rw [XE,Qa2]
 unfold hiB TR.Jf
 cases p.hi<;>rfl
theorem Qg4 (p:TR.Pg) (k c:Int) (hl:p.ks.length<=100) (hp:p.ps.length=p.ks.length+1) (hc:p.ps[TR.cLe p.ks k]?=some c):Y9 [pgD p,.int k]=pure (.int c):=by
 rw [XE,Qgx _ _ _ _ _ _ hl hp]
 rw [Cg,show p.ps[cLe p.ks k]?=some c from hc];rfl
theorem Qdp (p:TR.Pg) (k:Int) (hl:p.ks.length<=100) (hp:p.ps.length=p.ks.length):J5 [pgD p,.int k]=pure (opt (TR.QY p k)):=by
 rw [XE,Qd7 _ _ _ _ _ _ hl hp]
 unfold TR.QY
 by_cases h:cLt p.ks k=cLe p.ks k
 ·rw [C0 h,C0 (show TR.cLt p.ks k=TR.cLe p.ks k from h)];rfl
 ·rw [Cz h,Cz (show ¬ TR.cLt p.ks k=TR.cLe p.ks k from h)]
  have h1:=TR.Go p.ks k
  have h2:=TR.Xk p.ks k
  have h3:¬ TR.cLt p.ks k=TR.cLe p.ks k:=h
  rw [Cg,show p.ps[cLt p.ks k]?=some (p.ps[TR.cLt p.ks k]'(by lia)) from Ab _,Ab (show TR.cLt p.ks k < p.ps.length by lia)];rfl
theorem Qe0 (p:TR.Pg) (k x:Int) (hl:p.ks.length<=100) (hp:p.ps.length<=100):zk [pgD p,.int k,.int x]=pure (pgD (TR.QW p k x)):=by
 have e:=yV p.lv p.ks p.ps [k] [x] p.hi (p.sd.map fun n=>(n:Int)) k hl hp (by simp) (by simp)
 rw [XE,XE]
 refine YK (env:=[.val (Zt p.lv p.ks p.ps p.hi (p.sd.map fun n=>(n:Int))),.val (.int k),.val (.int x)]) (Yf (Qcq rfl rfl rfl rfl (e.trans ?_)))
 simp [TR.QW,TR.cLt,TR.cLe,cLt,cLe]
theorem gQ (p:TR.Pg) (k:Int) (hl:p.ks.length<=100) (hp:p.ps.length<=100):xT [pgD p,.int k]=pure (pgD (TR.without p k)):=by
 have e:=yV p.lv p.ks p.ps [] [] p.hi (p.sd.map fun n=>(n:Int)) k hl hp (by simp) (by simp)
 rw [XE,XE]
 refine YK (env:=[.val (Zt p.lv p.ks p.ps p.hi (p.sd.map fun n=>(n:Int))),.val (.int k)]) (Yf (Qcq rfl rfl rfl rfl (e.trans ?_)))
 simp [TR.without,TR.cLt,TR.cLe,cLt,cLe]
theorem gP (p:TR.Pg) (k:Int) (c:Nat) (hl:p.ks.length<=100) (hp:p.ps.length<=1000):qy [pgD p,.int k,.int c]=pure (pgD (TR.Zn p k c)):=by
 rw [XE,Qbp _ _ _ _ _ _ _ hl hp,XE];rfl
theorem QeZ (p:TR.Pg) (O2:Nat):Yg [pgD p,.int O2]=pure (.bl (decide (O2 < p.ks.length))):=by
 have e:(decide ((O2:Int) < ((p.ks.map DV.int).length:Int)))=decide (O2 < p.ks.length):=by
  rw [Br];congr 1;rw [eq_iff_iff];lia
 refine YK (env:=[.val (pgD p),.val (.int O2)]) (Yf (jd (x:=.int ((p.ks.map DV.int).length:Int)) (y:=.int O2) rfl rfl ((JB _ _).trans ?_)))
 rw [<- e]
theorem QbF (p:TR.Pg) (n:Nat) (h3:3<=p.ks.length) (hl:p.ks.length<=100):jR [pgD p,.int n]=pure (.tup [pgD (TR.QZ p n),pgD (TR.QN p),.int (TR.J6 p)]):=by
 rw [XE,QbA _ _ _ _ _ _ h3 hl]
 unfold Qdh
 rw [XE,XE]
 have hc:Zo p.lv p.ks.length=TR.Zo p:=by
  unfold Zo TR.Zo TR.mid
  by_cases h:p.lv=0
  ·simp [h]
  ·rw [Cz h,Cz (by lia)]
 rw [hc];rfl
structure At (hp:Hs) (n k a f q:Nat) (S:TR.Sh) (w:TR.Wk):Prop where
 h1:hp[n]?=some (.ins "Shelf" (shF S.O2 k S.top S.rd S.wr))
 h2:hp[k]?=some (.lst (S.pg.map pgD))
 h3:hp[a]?=some (wkO n f q w)
 h4:hp[f]?=some (.dic (fkD w.O3))
 h5:hp[q]?=some (.lst (prD w.O5))
structure Dif (n k a f q:Nat):Prop where
 nk:n≠k
 na:n≠a
 nf:n≠f
 nq:n≠q
 ka:k≠a
 kf:k≠f
 kq:k≠q
 af:a≠f
 aq:a≠q
 fq:f≠q
def Fr (hp hp':Hs) (n k a f q:Nat):Prop:=hp.length<=hp'.length/\∀ i,i < hp.length->i≠n->i≠k->i≠a->i≠f->i≠q->hp'[i]?=hp[i]?
section
variable {hp hp' hp2:Hs} {n k a f q:Nat} {S S':TR.Sh} {w w':TR.Wk}
def Fr.refl:Fr hp hp n k a f q:=⟨Ae _,fun _ _ _ _ _ _ _=>rfl⟩
def Fr.trans (x:Fr hp hp' n k a f q) (y:Fr hp' hp2 n k a f q):Fr hp hp2 n k a f q:=⟨Bi x.1 y.1,fun i hi a1 a2 a3 a4 a5=>(y.2 i (Ay hi x.1) a1 a2 a3 a4 a5).trans (x.2 i hi a1 a2 a3 a4 a5)⟩
def gs {n m:Nat} {Y:Option OV} (h:n≠m) (h':hp[m]?=Y):(hp.set n X)[m]?=Y:=(QP _ _ _ _ h).trans h'
theorem gss {n:Nat} (h':hp[n]?=some Y):(hp.set n X)[n]?=some X:=Zv _ _ _ (by rw [h'];rfl)
theorem At.walk (A:At hp n k a f q S w) (D:Dif n k a f q) (w':TR.Wk) (e1:w'.O3=w.O3) (e2:w'.O5=w.O5):At (hp.set a (wkO n f q w')) n k a f q S w'/\Fr hp (hp.set a (wkO n f q w')) n k a f q :=
 ⟨⟨gs D.na.symm A.h1,gs D.ka.symm A.h2,gss A.h3,gs D.af (by rw [e1];exact A.h4),gs D.aq (by rw [e2];exact A.h5)⟩,by simp,fun i hi a1 a2 a3 a4 a5=>QP _ _ _ _ (Ne.symm a3)⟩
theorem At.shelf (A:At hp n k a f q S w) (D:Dif n k a f q) (S':TR.Sh) (e:S'.O2=S.O2):At ((hp.set n (.ins "Shelf" (shF S.O2 k S'.top S'.rd S'.wr))).set k (.lst (S'.pg.map pgD))) n k a f q S' w/\Fr hp ((hp.set n (.ins "Shelf" (shF S.O2 k S'.top S'.rd S'.wr))).set k (.lst (S'.pg.map pgD))) n k a f q :=
 ⟨⟨gs D.nk.symm (by rw [e];exact gss A.h1),gss (gs D.nk A.h2),gs D.ka (gs D.na A.h3),gs D.kf (gs D.nf A.h4),gs D.kq (gs D.nq A.h5)⟩,by simp,fun i hi a1 a2 a3 a4 a5=>(QP _ _ _ _ (Ne.symm a2)).trans (QP _ _ _ _ (Ne.symm a1))⟩
theorem At.count (A:At hp n k a f q S w) (D:Dif n k a f q) (S':TR.Sh) (e:S'.O2=S.O2) (e2:S'.pg=S.pg):At (hp.set n (.ins "Shelf" (shF S.O2 k S'.top S'.rd S'.wr))) n k a f q S' w/\Fr hp (hp.set n (.ins "Shelf" (shF S.O2 k S'.top S'.rd S'.wr))) n k a f q :=
 ⟨⟨by rw [e];exact gss A.h1,gs D.nk (by rw [e2];exact A.h2),gs D.na A.h3,gs D.nf A.h4,gs D.nq A.h5⟩,by simp,fun i hi a1 a2 a3 a4 a5=>QP _ _ _ _ (Ne.symm a1)⟩
theorem At.fork (A:At hp n k a f q S w) (D:Dif n k a f q) (w':TR.Wk) (h:wkO n f q w'=wkO n f q w) (e:w'.O5=w.O5):At (hp.set f (.dic (fkD w'.O3))) n k a f q S w'/\Fr hp (hp.set f (.dic (fkD w'.O3))) n k a f q :=
 ⟨⟨gs D.nf.symm A.h1,gs D.kf.symm A.h2,gs D.af.symm (by rw [h];exact A.h3),gss A.h4,gs D.fq (by rw [e];exact A.h5)⟩,by simp,fun i hi a1 a2 a3 a4 a5=>QP _ _ _ _ (Ne.symm a4)⟩
theorem At.pair (A:At hp n k a f q S w) (D:Dif n k a f q) (w':TR.Wk) (h:wkO n f q w'=wkO n f q w) (e:w'.O3=w.O3):At (hp.set q (.lst (prD w'.O5))) n k a f q S w'/\Fr hp (hp.set q (.lst (prD w'.O5))) n k a f q :=
 ⟨⟨gs D.nq.symm A.h1,gs D.kq.symm A.h2,gs D.aq.symm (by rw [h];exact A.h3),gs D.fq.symm (by rw [e];exact A.h4),gss A.h5⟩,by simp,fun i hi a1 a2 a3 a4 a5=>QP _ _ _ _ (Ne.symm a5)⟩
theorem At.more (A:At hp n k a f q S w) (x:OV):At (hp++[x]) n k a f q S w/\Fr hp (hp++[x]) n k a f q:=by
 have ap:∀ {i:Nat} {y:OV},hp[i]?=some y->(hp++[x])[i]?=some y:=fun {i y} h=>by rw [Ag (Ac.mp h).1];exact h
 exact ⟨⟨ap A.h1,ap A.h2,ap A.h3,ap A.h4,ap A.h5⟩,by simp,fun i hi _ _ _ _ _=>Ag hi⟩
theorem Qar (ps:List TR.Pg) (p:TR.Pg):ps.map pgD++[pgD p]=(ps++[p]).map pgD:=by simp
theorem map_set (ps:List TR.Pg) (i:Nat) (p:TR.Pg):(ps.map pgD).set i (pgD p)=(ps.set i p).map pgD:=by rw [List.map_set]
def Xv (A:At hp n k a f q S w) {env:En} (h:env[0]?=some (.val (.ref a))):Qz "Walk" "shelf" (Qb 0) env hp=some (.ref n,hp):=QV (Qe h) A.h3 (QbW ..)
theorem KW (A:At hp n k a f q S w) (D:Dif n k a f q) {i:Nat} (hi:i < S.pg.length) (P:TR.Pg) (h3:S.O2 < P.ks.length->3<=P.ks.length) (hP:P.ks.length<=100) (hl:S.pg.length < 90000):
  ∃ hp',XG [.ref a,.int i,pgD P] hp=some (oN (TR.Qu S w i P).1,hp')/\At hp' n k a f q (TR.Qu S w i P).2.1 (TR.Qu S w i P).2.2/\Fr hp hp' n k a f q:=by
 have t0:QI 2 Yg (Qc (Qb 2) (Qc (QJ "Shelf" "room" 1 Jl (Qz "Walk" "shelf" (Qb 0)) Qn) Qn)) [.val (.ref a),.val (.int i),.val (pgD P),.un] hp=some (.bl (decide (S.O2 < P.ks.length)),hp) :=
  Zw (ZM (Qe rfl) (Q7 (Xv A rfl) A.h1 (QdL ..) zn rfl (Qfp A.h1))) rfl (ZB (QeZ P S.O2) hp)
 unfold TR.Qu
 by_cases hr:P.ks.length<=S.O2
 ·rw [C0 hr]
  have hd:decide (S.O2 < P.ks.length)=false:=C6 (by lia)
  rw [hd] at t0
  have t1:Jx (eB (QI 2 Yg (Qc (Qb 2) (Qc (QJ "Shelf" "room" 1 Jl (Qz "Walk" "shelf" (Qb 0)) Qn) Qn)))) [.val (.ref a),.val (.int i),.val (pgD P),.un] hp=some (true,hp):=Xp (b:=false) (QU t0)
  have wr:=UL (d:=pgD P) (i:=i) A.h1 A.h2 D.nk (by simpa using hi)
  rw [map_set] at wr
  obtain ⟨A1,F1⟩:=A.shelf D { S with pg:=S.pg.set i P,wr:=S.wr+1 } rfl
  obtain ⟨A2,F2⟩:=A1.walk D { w with O7:=true } rfl rfl
  refine ⟨_,?_,A2,F1.trans F2⟩
  refine Qv (env:=[.val (.ref a),.val (.int i),.val (pgD P),.un]) (Q5 ((Zl t1).trans ?_))
  refine (Qj (JN (Q7 (Xv A rfl) A.h1 (zW ..) (ZM (Qe rfl) (Qe rfl)) rfl wr))).trans ?_
  exact (Qj (Jg (v:=.bl true) rfl (Qe rfl) A1.h3 wl)).trans (Qy (d:=.non) rfl)
 ·rw [Cz hr]
  have hd:decide (S.O2 < P.ks.length)=true:=C4 (by lia)
  rw [hd] at t0
  have t1:Jx (eB (QI 2 Yg (Qc (Qb 2) (Qc (QJ "Shelf" "room" 1 Jl (Qz "Walk" "shelf" (Qb 0)) Qn) Qn)))) [.val (.ref a),.val (.int i),.val (pgD P),.un] hp=some (false,hp):=Xp (b:=true) (QU t0)
  have pl:(S.pg.map pgD).length=S.pg.length:=by simp
  have pe:=QbF P S.pg.length (h3 (by lia)) hP
  have ly:=QcT (pg:=pgD (TR.QN P)) A.h1 A.h2 D.nk (by rw [pl];lia)
  rw [pl,Qar] at ly
  obtain ⟨A1,F1⟩:=A.shelf D { S with pg:=S.pg++[TR.QN P],wr:=S.wr+1 } rfl
  obtain ⟨A2,F2⟩:=A1.walk D { w with Oz:=some S.pg.length } rfl rfl
  have wr:=UL (d:=pgD (TR.QZ P S.pg.length)) (i:=i) A2.h1 A2.h2 D.nk (by simp;lia)
  rw [map_set] at wr
  obtain ⟨A3,F3⟩:=A2.shelf D { S with pg:=(S.pg++[TR.QN P]).set i (TR.QZ P S.pg.length),wr:=S.wr+1+1 } rfl
  obtain ⟨A4,F4⟩:=A3.walk D { w with Oz:=some S.pg.length,aim:=TR.J6 P } rfl rfl
  obtain ⟨A5,F5⟩:=A4.walk D { w with Oz:=some S.pg.length,aim:=TR.J6 P,O4:=P.lv+1 } rfl rfl
  obtain ⟨A6,F6⟩:=A5.walk D { w with Oz:=some S.pg.length,aim:=TR.J6 P,O4:=P.lv+1,O6:=TR.JV w.O3 (P.lv+1) } rfl rfl
  refine ⟨_,?_,A6,F1.trans (F2.trans (F3.trans (F4.trans (F5.trans F6))))⟩
  refine Qv (env:=[.val (.ref a),.val (.int i),.val (pgD P),.val (.tup [pgD (TR.QZ P S.pg.length),pgD (TR.QN P),.int (TR.J6 P)])]) ?_
  refine (Qj ((QG t1).trans QH)).trans ?_
  have pg:=V3 A.h1 A.h2
  rw [pl] at pg
  refine (Qj (QR (Zw (ZM (Qe rfl) (Q7 (Xv A rfl) A.h1 (zV ..) zn rfl pg)) rfl (ZB pe hp)))).trans ?_
  refine (Qj (Jg (Q7 (Xv A rfl) A.h1 (K5 ..) (Zq (Qi (Qe rfl) rfl (Q1 (i:=1) rfl _))) rfl ly) (Qe rfl) A1.h3 wl)).trans ?_
  refine (Qj (JN (Q7 (Xv A2 rfl) A2.h1 (zW ..) (ZM (Qe rfl) (Qi (Qe rfl) rfl (Q1 (i:=0) rfl _))) rfl wr))).trans ?_
  refine (Qj (Jg (Qi (Qe rfl) rfl (Q1 (i:=2) rfl _)) (Qe rfl) A3.h3 wl)).trans ?_
  refine (Qj (Jg (v:=.int ((P.lv+1:Nat):Int)) (Qi (Qi (Qe rfl) rfl (Qdn P _)) rfl rfl) (Qe rfl) A4.h3 wl)).trans ?_
  have dg:Z1 "dict" JD (Qz "Walk" "forks" (Qb 0)) (Qc (Qz "Walk" "goal" (Qb 0)) Qn) [.val (.ref a),.val (.int i),.val (pgD P),.val (.tup [pgD (TR.QZ P S.pg.length),pgD (TR.QN P),.int (TR.J6 P)])] _=some (oN (TR.JV w.O3 (P.lv+1)),_) :=
   Qer (QV (Qe rfl) A5.h3 (Gc ..)) A5.h4 (Zq (QV (Qe rfl) A5.h3 (uL ..)))
  refine (Qj (Jg dg (Qe rfl) A5.h3 wl)).trans ?_
  exact Qy (QV (Qe rfl) A6.h3 (vd ..))
end
def Qb3 (x:DV) (xs:List DV):atI (x::xs) 0=some x:=qB (j:=0) rfl
theorem U9 {r a b:Int} {n k:Nat} {ps:List DV} {hp:Hs} {t i:Nat} {key:Int} {l:Int} {ks qs:List Int} {hi sd:Option Int} (h1:hp[n]?=some (.ins "Shelf" (shF r k t a b))) (h2:hp[k]?=some (.lst ps)) (hnk:n≠k) (hi1:i < ps.length) (ht:ps[t]?=some (Zt l ks qs hi sd)) (hl:ps.length < 99999):
  ZY [.ref n,.int key,.int i] hp=some (.int ps.length,(hp.set n (.ins "Shelf" (shF r k ps.length a (b+1)))).set k (.lst (ps++[Zt (l+1) [key] [(t:Int),(i:Int)] none none]))):=by
 have c:=VB (i:=(i:Int)) h1 h2 (by lia) (by lia)
 have ht':atI ps (t:Int)=some (.tup [.int l,.tup (ks.map .int),.tup (qs.map .int),opt hi,opt sd]):=qB ht
 have y:=QcT (pg:=Zt (l+1) [key] [(t:Int),(i:Int)] none none) h1 h2 hnk hl
 have pd:DV.tup [.int (l+1),.tup [.int key],.tup [.int (t:Int),.int (i:Int)],.non,.non]=Zt (l+1) [key] [(t:Int),(i:Int)] none none:=rfl
 have g1:((hp.set n (.ins "Shelf" (shF r k t a (b+1)))).set k (.lst (ps++[Zt (l+1) [key] [(t:Int),(i:Int)] none none])))[n]?=some (.ins "Shelf" (shF r k t a (b+1))):=by
  rw [QP _ _ _ _ hnk.symm];exact Zv _ _ _ (by rw [h1];rfl)
 have g2:∀ X Y Z:OV,((hp.set n X).set k Y).set n Z=(hp.set n Z).set k Y:=fun X Y Z=>by
  rw [List.set_comm _ _ hnk,List.set_set,List.set_comm _ _ hnk.symm,List.set_comm _ _ hnk]
 have g3:((hp.set n (.ins "Shelf" (shF r k ps.length a (b+1)))).set k (.lst (ps++[Zt (l+1) [key] [(t:Int),(i:Int)] none none])))[n]?=some (.ins "Shelf" (shF r k ps.length a (b+1))):=by
  rw [QP _ _ _ _ hnk.symm];exact Zv _ _ _ (by rw [h1];rfl)
 simp [ZY,Yn,Q9,Qr,QC,QF,zQ,sIf,Q6,Uc,y6,Ua,Ub,Qk,Qb,eC,eB,asB,YA,eOr,Jx,Xn,VM,qh,eIf,YB,Qn,Qc,Zp,qg,QI,Zx,Qx,gN,Js,JP,JB,JC,JW,JU,JJ,q8,zO,V7,Z9,Xs,ZP,Zc,X6,GV,Xw,gSb,yq,Z1,Xr,Qz,jG,jO,onI,onL,onD,ZD,X9,YJ,JD,ixG,Jy,qN,zN,Xq,zq,asI,zo,G8,QJ,Xo,XR,JY,YF,evP,JL,Yc,JM,Xt,JX,Yb,Ye,Yd,Zv,QP,Jo,zh,lim,ixD,h1,h2,c,qr,QaK,QdN,Vq,yu,K5,ht',Qb3,pd,y,g1,g2,g3]
theorem Qdz {n k a f q:Nat} {S:TR.Sh} {w:TR.Wk} (A:At hp n k a f q S w) (D:Dif n k a f q) {c:Nat} {key:Int} (hc:c < S.pg.length) (hr:S.pg[S.top]?=some r) (hl:S.pg.length < 90000):
  ZY [.ref n,.int key,.int c] hp=some (.int S.pg.length,(hp.set n (.ins "Shelf" (shF S.O2 k S.pg.length S.rd (S.wr+1)))).set k (.lst ((S.pg++[(⟨r.lv+1,[key],[(S.top:Int),(c:Int)],none,none⟩:TR.Pg)]).map pgD))):=by
 have ht:(S.pg.map pgD)[S.top]?=some (Zt r.lv r.ks r.ps r.hi (r.sd.map fun n=>(n:Int))):=by rw [Bt,hr,Option.map_some,XE]
 have e:=U9 (key:=key) A.h1 A.h2 D.nk (i:=c) (by simpa using hc) ht (by simp;lia)
 rw [e,Br]
 rw [show Zt ((r.lv:Int)+1) [key] [(S.top:Int),(c:Int)] none none=pgD ⟨r.lv+1,[key],[(S.top:Int),(c:Int)],none,none⟩ from rfl,Qar]
theorem G3 (S:TR.Sh) (w:TR.Wk) (i:Nat) (P:TR.Pg):(TR.Qu S w i P).2.2.O1=w.O1:=by
 unfold TR.Qu;split<;>rfl
section
variable {hp:Hs} {n k a f q:Nat} {S:TR.Sh} {w:TR.Wk} {i:Nat} {p:TR.Pg}
theorem vQ (A:At hp n k a f q S w) (D:Dif n k a f q) (word:Str) (t:Option Nat):∃ hp',JR [.ref a,.str word,.int i,oN t] hp=some (.tup [.str word,.int i,oN t],hp')/\At hp' n k a f q S { w with O6:=t }/\Fr hp hp' n k a f q:=by
 obtain ⟨A1,F1⟩:=A.walk D { w with O6:=t } rfl rfl
 refine ⟨_,?_,A1,F1⟩
 refine Qv (env:=[.val (.ref a),.val (.str word),.val (.int i),.val (oN t)]) ?_
 exact (Qj (Jg (Qe rfl) (Qe rfl) A.h3 wl)).trans (Qy (Jc (X3 (Qe rfl) (Qe rfl) (Qe rfl)) (by simp)))
theorem U8 (A:At hp n k a f q S w) (D:Dif n k a f q) {c:Nat} (hw:w.Oz=some c) (hc:c < S.pg.length) (hr:S.pg[S.top]?=some r) (hl:S.pg.length < 90000):∃ hp',ZQ [.ref a,.int i] hp=some (.tup [.str "raised", .int i,.int S.pg.length],hp')/\At hp' n k a f q { S with pg:=S.pg++[⟨r.lv+1,[w.aim],[(S.top:Int),(c:Int)],none,none⟩],top:=S.pg.length,wr:=S.wr+1 } { w with O7:=true }/\Fr hp hp' n k a f q:=by
 obtain ⟨A1,F1⟩:=A.walk D { w with O7:=true } rfl rfl
 have e:=Qdz (key:=w.aim) A1 D hc hr hl
 obtain ⟨A2,F2⟩:=A1.shelf D { S with pg:=S.pg++[⟨r.lv+1,[w.aim],[(S.top:Int),(c:Int)],none,none⟩],top:=S.pg.length,wr:=S.wr+1 } rfl
 refine ⟨_,?_,A2,F1.trans F2⟩
 refine Qv (env:=[.val (.ref a),.val (.int i)]) ?_
 refine (Qj (Jg (v:=.bl true) rfl (Qe rfl) A.h3 wl)).trans ?_
 refine Qy (Jc (X3 rfl (Qe rfl) (Q7 (Xv A1 rfl) A1.h1 (uw ..) (ZM (QV (Qe rfl) A1.h3 (YR ..)) (QV (d:=.int c) (Qe rfl) A1.h3 ((vd ..).trans (by show some (oN w.Oz)=_;rw [hw];rfl)))) rfl e)) (by simp))
theorem UK (A:At hp n k a f q S w) (D:Dif n k a f q) {env:En} (e0:env[0]?=some (.val (.ref a))) (e2:env[2]?=some (.val (pgD p))) (h1:p.ks.length<=100) (h2:p.ps.length=p.ks.length):
  ∃ hp',Zc "Walk" "worth" (Qb 0) (QI 2 J5 (Qc (Qb 2) (Qc (Qz "Walk" "aim" (Qb 0)) Qn))) env hp=some ((.nx,env),hp')/\At hp' n k a f q S { w with O1:=TR.QY p w.aim }/\Fr hp hp' n k a f q:=by
 obtain ⟨A1,F1⟩:=A.walk D { w with O1:=TR.QY p w.aim } rfl rfl
 exact ⟨_,Jg (Zw (ZM (Qe e2) (QV (Qe e0) A.h3 (YR ..))) rfl (ZB (Qdp p w.aim h1 h2) hp)) (Qe e0) A.h3 wl,A1,F1⟩
theorem Qeu (A:At hp n k a f q S w) (D:Dif n k a f q) (h1:p.ks.length<=100) (h2:p.ps.length=p.ks.length):
  ∃ hp',Xf [.ref a,.int i,pgD p] hp=some (.tup [.str "found", .int i,opt (TR.QY p w.aim)],hp')/\At hp' n k a f q S { w with O1:=TR.QY p w.aim,O7:=true }/\Fr hp hp' n k a f q:=by
 obtain ⟨hp1,e1,A1,F1⟩:=UK (env:=[.val (.ref a),.val (.int i),.val (pgD p)]) A D rfl rfl h1 h2
 obtain ⟨A2,F2⟩:=A1.walk D { w with O1:=TR.QY p w.aim,O7:=true } rfl rfl
 refine ⟨_,?_,A2,F1.trans F2⟩
 refine Qv (env:=[.val (.ref a),.val (.int i),.val (pgD p)]) ?_
 refine (Qj e1).trans ((Qj (Jg (v:=.bl true) rfl (Qe rfl) A1.h3 wl)).trans ?_)
 exact Qy (Jc (X3 rfl (Qe rfl) (QV (Qe rfl) A2.h3 (qv ..))) (by simp))
theorem Qhj (A:At hp n k a f q S w) (D:Dif n k a f q) (hi:i < S.pg.length) {x y:Int} (hd:w.O0=.put y x) (h1:p.ks.length<=90) (h2:p.ps.length=p.ks.length) (h3:S.O2 < (TR.QW p w.aim x).ks.length->3<=(TR.QW p w.aim x).ks.length) (h4:(TR.QW p w.aim x).ks.length<=100) (hl:S.pg.length < 90000):
  ∃ hp',XV [.ref a,.int i,pgD p] hp=some (.tup [.str "put", .int i,opt (TR.QY p w.aim),oN (TR.Qu S { w with O1:=TR.QY p w.aim } i (TR.QW p w.aim x)).1],hp')/\At hp' n k a f q (TR.Qu S { w with O1:=TR.QY p w.aim } i (TR.QW p w.aim x)).2.1 (TR.Qu S { w with O1:=TR.QY p w.aim } i (TR.QW p w.aim x)).2.2/\Fr hp hp' n k a f q:=by
 obtain ⟨hp1,e1,A1,F1⟩:=UK (env:=[.val (.ref a),.val (.int i),.val (pgD p),.un]) A D rfl rfl (by lia) h2
 obtain ⟨hp2,e2,A2,F2⟩:=KW A1 D hi (TR.QW p w.aim x) h3 h4 hl
 refine ⟨hp2,?_,A2,F1.trans F2⟩
 refine Qv (env:=[.val (.ref a),.val (.int i),.val (pgD p),.val (oN (TR.Qu S { w with O1:=TR.QY p w.aim } i (TR.QW p w.aim x)).1)]) ?_
 refine (Qj e1).trans ?_
 have dx:ixG (QS w.O0) (.int 2) hp1=some (.int x,hp1):=by rw [hd];exact Q1 (i:=2) rfl hp1
 refine (Qj (QR (Q7 (Qe rfl) A1.h3 (Qd5 ..) (ZM (Qe rfl) (Zw (X3 (Qe rfl) (QV (Qe rfl) A1.h3 (YR ..)) (Qi (QV (Qe rfl) A1.h3 (xS ..)) rfl dx)) rfl (ZB (Qe0 p w.aim x (by lia) (by lia)) hp1))) rfl e2))).trans ?_
 refine Qy (Jc (vh rfl (Qe rfl) (QV (Qe rfl) A2.h3 ((qv ..).trans ?_)) (Qe rfl)) (by simp))
 rw [G3]
theorem Qga (A:At hp n k a f q S w) (D:Dif n k a f q) (hi:i < S.pg.length) (h1:p.ks.length<=100) (h2:p.ps.length=p.ks.length):
    ∃ hp',Yk [.ref a,.int i,pgD p] hp=some (.tup [.str "cut", .int i,opt (TR.QY p w.aim)],hp')/\At hp' n k a f q (if (TR.QY p w.aim).isSome=true then { S with pg:=S.pg.set i (TR.without p w.aim),wr:=S.wr+1 } else S) { w with O1:=TR.QY p w.aim,O7:=true }/\Fr hp hp' n k a f q:=by
  obtain ⟨hp1,e1,A1,F1⟩:=UK (env:=[.val (.ref a),.val (.int i),.val (pgD p)]) A D rfl rfl h1 h2
  have t:∀ b:Bool,(TR.QY p w.aim).isSome=b->eB (Qk Ve (Qz "Walk" "worth" (Qb 0)) (eC .non)) [.val (.ref a),.val (.int i),.val (pgD p)] hp1=some (b,hp1):=fun b hb=>QU (Qi (QV (Qe rfl) A1.h3 (qv ..)) rfl (by rw [gL,hb];rfl))
  cases hs:(TR.QY p w.aim).isSome with
  | true =>
    rw [C0 rfl]
    have wr:=UL (d:=pgD (TR.without p w.aim)) (i:=i) A1.h1 A1.h2 D.nk (by simpa using hi)
    rw [map_set] at wr
    obtain ⟨A2,F2⟩:=A1.shelf D { S with pg:=S.pg.set i (TR.without p w.aim),wr:=S.wr+1 } rfl
    obtain ⟨A3,F3⟩:=A2.walk D { w with O1:=TR.QY p w.aim,O7:=true } rfl rfl
    refine ⟨_,?_,A3,F1.trans (F2.trans F3)⟩
    refine Qv (env:=[.val (.ref a),.val (.int i),.val (pgD p)]) ?_
    refine (Qj e1).trans ?_
    refine (Qj ((Zl (t true hs)).trans (JN (Q7 (Xv A1 rfl) A1.h1 (zW ..) (ZM (Qe rfl) (Zw (ZM (Qe rfl) (QV (Qe rfl) A1.h3 (YR ..))) rfl (ZB (gQ p w.aim (by lia) (by lia)) hp1))) rfl wr)))).trans ?_
    refine (Qj (Jg (v:=.bl true) rfl (Qe rfl) A2.h3 wl)).trans ?_
    exact Qy (Jc (X3 rfl (Qe rfl) (QV (Qe rfl) A3.h3 (qv ..))) (by simp))
  | false =>
    rw [Cz (by simp)]
    obtain ⟨A3,F3⟩:=A1.walk D { w with O1:=TR.QY p w.aim,O7:=true } rfl rfl
    refine ⟨_,?_,A3,F1.trans F3⟩
    refine Qv (env:=[.val (.ref a),.val (.int i),.val (pgD p)]) ?_
    refine (Qj e1).trans ?_
    refine (Qj ((QG (t false hs)).trans QH)).trans ?_
    refine (Qj (Jg (v:=.bl true) rfl (Qe rfl) A1.h3 wl)).trans ?_
    exact Qy (Jc (X3 rfl (Qe rfl) (QV (Qe rfl) A3.h3 (qv ..))) (by simp))
theorem QfA (A:At hp n k a f q S w) (D:Dif n k a f q) (hi:i < S.pg.length) {c:Nat} (hw:w.Oz=some c) (h1:p.ks.length<=90) (h2:p.ps.length<=100) (h3:S.O2 < (TR.Zn p w.aim c).ks.length->3<=(TR.Zn p w.aim c).ks.length) (h4:(TR.Zn p w.aim c).ks.length<=100) (hl:S.pg.length < 90000):
  ∃ hp',Xz [.ref a,.int i,pgD p] hp=some (.tup [.str "told", .int i,oN (TR.Qu S w i (TR.Zn p w.aim c)).1],hp')/\At hp' n k a f q (TR.Qu S w i (TR.Zn p w.aim c)).2.1 (TR.Qu S w i (TR.Zn p w.aim c)).2.2/\Fr hp hp' n k a f q:=by
 obtain ⟨hp2,e2,A2,F2⟩:=KW A D hi (TR.Zn p w.aim c) h3 h4 hl
 refine ⟨hp2,?_,A2,F2⟩
 refine Qv (env:=[.val (.ref a),.val (.int i),.val (pgD p),.val (oN (TR.Qu S w i (TR.Zn p w.aim c)).1)]) ?_
 have nw:Qz "Walk" "new_page" (Qb 0) [.val (.ref a),.val (.int i),.val (pgD p),.un] hp=some (.int c,hp):=QV (Qe rfl) A.h3 ((vd ..).trans (by rw [hw];rfl))
 refine (Qj (QR (Q7 (Qe rfl) A.h3 (Qd5 ..) (ZM (Qe rfl) (Zw (X3 (Qe rfl) (QV (Qe rfl) A.h3 (YR ..)) nw) rfl (ZB (gP p w.aim c (by lia) (by lia)) hp))) rfl e2))).trans ?_
 exact Qy (Jc (X3 rfl (Qe rfl) (Qe rfl)) (by simp))
end
section
variable {hp:Hs} {n k a f q:Nat} {S:TR.Sh} {w:TR.Wk} {i:Nat} {p:TR.Pg}
theorem Qdg (A:At hp n k a f q S w) {l h:Int} (hl:p.ks.length<=100):
  Je [.val (.ref a),.val (.int i),.val (pgD p),.val (.int l),.val (.int h),.un] hp=some (.ref hp.length,hp++[OV.lst (prD (TR.Q3 p l h))]):=by
 have e0:QcI (Qk ixG (Qb 2) (eC (.int 1))) (Qk ixG (Qb 2) (eC (.int 2))) [.val (.ref a),.val (.int i),.val (pgD p),.val (.int l),.val (.int h),.un] hp=some (prD (p.ks.zip p.ps),hp):=by
  have x1:Qk ixG (Qb 2) (eC (.int 1)) [.val (.ref a),.val (.int i),.val (pgD p),.val (.int l),.val (.int h),.un] hp=some (.tup (p.ks.map .int),hp):=Qi (Qe rfl) rfl (Qg2 p hp)
  have x2:Qk ixG (Qb 2) (eC (.int 2)) [.val (.ref a),.val (.int i),.val (pgD p),.val (.int l),.val (.int h),.un] hp=some (.tup (p.ps.map .int),hp):=Qi (Qe rfl) rfl (Qg3 p hp)
  unfold QcI
  rw [Qf x1]
  show (uE (.tup (p.ks.map .int)) >>= _) hp=_
  rw [show uE (.tup (p.ks.map .int))=pure (p.ks.map .int) from rfl,C7,Qf x2,show uE (.tup (p.ps.map .int))=pure (p.ps.map .int) from rfl,C7,QaT];rfl
 have e1:xOf (QcI (Qk ixG (Qb 2) (eC (.int 1))) (Qk ixG (Qb 2) (eC (.int 2)))) [.val (.ref a),.val (.int i),.val (pgD p),.val (.int l),.val (.int h),.un] hp=some (nxD (prD (p.ks.zip p.ps)),hp):=by
  unfold xOf;rw [Qf e0];rfl
 have hz:(p.ks.zip p.ps).length<=100:=by rw [List.length_zip];lia
 have e2:=Qa8 (hp:=hp) (t:=fun d=>eB (Z0 leD ltD (Qb 1) (Qk ixG (Qb 0) (eC (.int 0))) (Qb 2)) (cE [3,4] [.val (.ref a),.val (.int i),.val (pgD p),.val (.int l),.val (.int h),.un] d)) (f:=fun d=>Qb 0 (cE [3,4] [.val (.ref a),.val (.int i),.val (pgD p),.val (.int l),.val (.int h),.un] d)) (p:=Qfb l h) (prD (p.ks.zip p.ps)) (fun d hd=>by
   obtain ⟨z,_,rfl⟩:=Cv.mp hd
   have c:cE [3,4] [.val (.ref a),.val (.int i),.val (pgD p),.val (.int l),.val (.int h),.un] (.tup [.int z.1,.int z.2])=[.val (.tup [.int z.1,.int z.2]),.val (.int l),.val (.int h)]:=rfl
   show eB (Z0 leD ltD (Qb 1) (Qk ixG (Qb 0) (eC (.int 0))) (Qb 2)) (cE [3,4] [.val (.ref a),.val (.int i),.val (pgD p),.val (.int l),.val (.int h),.un] (.tup [.int z.1,.int z.2])) hp=_
   rw [c]
   have x1:Qk ixG (Qb 0) (eC (.int 0)) [.val (.tup [.int z.1,.int z.2]),.val (.int l),.val (.int h)] hp=some (.int z.1,hp):=Qi (Qe rfl) rfl (Q1 (i:=0) rfl hp)
   by_cases q1:l<=z.1
   ·by_cases q2:z.1 < h<;>simp [eB,Z0,JL,JM,x1,Qb,JW,JC,asB,Qfb,q1,q2]
   ·simp [eB,Z0,JL,JM,x1,Qb,JW,JC,asB,Qfb,q1])
  (fun d hd=>rfl) (by rw [jh];lia)
 rw [gS] at e2
 unfold Je Z4
 rw [Qf e1,Qf (show Z8 _ _ _ lim 0 hp=_ from e2)]
 rfl
theorem Ka (A:At hp n k a f q S w) (D:Dif n k a f q) {l h:Int} (hd:w.O0=.stretch l h) (h1:p.ks.length<=100) (hw:w.O5.length<=50000) (hlk:(p.hi=none/\p.sd=none)∨∃ x s,p.hi=some x/\p.sd=some s):
  ∃ hp',Xg [.ref a,.int i,pgD p] hp=some (GS (TR.Ja S w i p).1,hp')/\At hp' n k a f q (TR.Ja S w i p).2.1 (TR.Ja S w i p).2.2/\Fr hp hp' n k a f q:=by
 have d1:ixG (QS w.O0) (.int 1) hp=some (.int l,hp):=by rw [hd];exact Q1 (i:=1) rfl hp
 have d2:ixG (QS w.O0) (.int 2) hp=some (.int h,hp):=by rw [hd];exact Q1 (i:=2) rfl hp
 obtain ⟨A1,F1⟩:=A.more (OV.lst (prD (TR.Q3 p l h)))
 obtain ⟨A2,F2⟩:=A1.pair D { w with O5:=w.O5++TR.Q3 p l h } rfl rfl
 have pl:(TR.Q3 p l h).length<=100:=by
  unfold TR.Q3
  refine Bi (B8 _ _) ?_
  rw [List.length_zip];lia
 have gl:(hp++[OV.lst (prD (TR.Q3 p l h))])[hp.length]?=some (.lst (prD (TR.Q3 p l h))):=by simp
 have ql:q≠hp.length:=fun e=>by
  have:=(Ac.mp A.h5).1;lia
 have ex:=Qbf (o:=Qz "Walk" "pairs" (Qb 0)) (fa:=Qc (Qb 5) Qn) (env:=[.val (.ref a),.val (.int i),.val (pgD p),.val (.int l),.val (.int h),.val (.ref hp.length)]) (QV (Qe rfl) A1.h3 (QbV ..)) A1.h5 (Zq (Qe rfl)) gl (by rw [jh,jh];lia)
 rw [Qfa] at ex
 have tw:∀ {hpx:Hs} {env:En},hpx[hp.length]?=some (.lst (prD (TR.Q3 p l h)))->env[5]?=some (.val (.ref hp.length))->Zx Vi (Qc (Qb 5) Qn) env hpx=some (.tup (prD (TR.Q3 p l h)),hpx):=fun {hpx env} hx he=>by
  unfold Zx
  rw [Qf (Zq (Qe he))]
  show (ZI hp.length >>= _) hpx=_
  rw [Qf (Zi hx)];rfl
 have gl2:((hp++[OV.lst (prD (TR.Q3 p l h))]).set q (OV.lst (prD (w.O5++TR.Q3 p l h))))[hp.length]?=some (.lst (prD (TR.Q3 p l h))):=gs ql gl
 have al:a≠hp.length:=fun e=>by
  have:=(Ac.mp A.h3).1;lia
 have start:∀ (g:DSx) (r:(Fl×En)×Hs),g [.val (.ref a),.val (.int i),.val (pgD p),.val (.int l),.val (.int h),.val (.ref hp.length)] ((hp++[OV.lst (prD (TR.Q3 p l h))]).set q (OV.lst (prD (w.O5++TR.Q3 p l h))))=some r ->
   Qr (QC 3 (Qk ixG (Qz "Walk" "deed" (Qb 0)) (eC (.int 1)))) (Qr (QC 4 (Qk ixG (Qz "Walk" "deed" (Qb 0)) (eC (.int 2)))) (Qr (QC 5 Je) (Qr (ZP (Z1 "list" xu (Qz "Walk" "pairs" (Qb 0)) (Qc (Qb 5) Qn))) g))) [.val (.ref a),.val (.int i),.val (pgD p),.un,.un,.un] hp=some r:=fun g r hg=>by
  refine (Qj (QR (Qi (QV (Qe rfl) A.h3 (xS ..)) rfl d1))).trans ?_
  refine (Qj (QR (Qi (QV (Qe rfl) A.h3 (xS ..)) rfl d2))).trans ?_
  refine (Qj (QR (Qdg A h1))).trans ?_
  exact (Qj (JN ex)).trans hg
 have fin:∃ hp',Qr (Zc "Walk" "ended" (Qb 0) (eC (.bl true))) (QF (Zp (Qc (eC (.str "read")) (Qc (Qb 1) (Qc (Zx Vi (Qc (Qb 5) Qn)) (Qc (eC .non) (Qc (eC .non) Qn))))))) [.val (.ref a),.val (.int i),.val (pgD p),.val (.int l),.val (.int h),.val (.ref hp.length)] ((hp++[OV.lst (prD (TR.Q3 p l h))]).set q (OV.lst (prD (w.O5++TR.Q3 p l h))))=some ((.rt (GS (.read i (TR.Q3 p l h) none)),[.val (.ref a),.val (.int i),.val (pgD p),.val (.int l),.val (.int h),.val (.ref hp.length)]),hp')/\At hp' n k a f q S { w with O5:=w.O5++TR.Q3 p l h,O7:=true }/\Fr hp hp' n k a f q:=by
  obtain ⟨A3,F3⟩:=A2.walk D { w with O5:=w.O5++TR.Q3 p l h,O7:=true } rfl rfl
  refine ⟨_,?_,A3,F1.trans (F2.trans F3)⟩
  refine (Qj (Jg (v:=.bl true) rfl (Qe rfl) A2.h3 wl)).trans ?_
  exact Qy (Jc (kJ rfl (Qe rfl) (tw (gs al gl2) rfl) rfl rfl) (by simp))
 have hiE:∀ hpx:Hs,Qk ixG (Qb 2) (eC (.int 3)) [.val (.ref a),.val (.int i),.val (pgD p),.val (.int l),.val (.int h),.val (.ref hp.length)] hpx=some (opt p.hi,hpx):=fun hpx=>Qi (Qe rfl) rfl (Qg1 p hpx)
 have sdE:∀ hpx:Hs,Qk ixG (Qb 2) (eC (.int 4)) [.val (.ref a),.val (.int i),.val (pgD p),.val (.int l),.val (.int h),.val (.ref hp.length)] hpx=some (oN p.sd,hpx):=fun hpx=>Qi (Qe rfl) rfl (Qdo p hpx)
 rcases hlk with ⟨e1,e2⟩ | ⟨x,s,e1,e2⟩
 ·rw [Qbr hd e1]
  obtain ⟨hp',ef,Af,Ff⟩:=fin
  refine ⟨hp',Qv (start _ _ (Q5 ((Zl (hp1:=_) ?_).trans ef))),Af,Ff⟩
  exact Qcr (QU (Qi (hiE _) rfl (by rw [yp,e1];rfl)))
 ·rw [QcW hd e1 e2]
  by_cases hx:h<=x
  ·rw [C0 hx]
   obtain ⟨hp',ef,Af,Ff⟩:=fin
   refine ⟨hp',Qv (start _ _ (Q5 ((Zl (hp1:=_) ?_).trans ef))),Af,Ff⟩
   exact (Kw (QU (b:=false) (Qi (hiE _) rfl (by rw [yp,e1];rfl)))).trans (QU (Qi (hiE _) (Qe rfl) (by rw [e1];show geD (.int x) (.int h) _=_;rw [JU,C4 hx];rfl)))
  ·rw [Cz hx]
   obtain ⟨A3,F3⟩:=A2.walk D { w with O5:=w.O5++TR.Q3 p l h,aim:=x } rfl rfl
   obtain ⟨A4,F4⟩:=A3.walk D { w with O5:=w.O5++TR.Q3 p l h,aim:=x,O6:=some s } rfl rfl
   refine ⟨_,Qv (env:=[.val (.ref a),.val (.int i),.val (pgD p),.val (.int l),.val (.int h),.val (.ref hp.length)]) (start _ _ ?_),A4,F1.trans (F2.trans (F3.trans F4))⟩
   refine (Qj ((QG ((Kw (QU (b:=false) (Qi (hiE _) rfl (by rw [yp,e1];rfl)))).trans (QU (b:=false) (Qi (hiE _) (Qe rfl) (by rw [e1];show geD (.int x) (.int h) _=_;rw [JU,C6 hx];rfl))))).trans QH)).trans ?_
   refine (Qj (Jg (v:=.int x) ((hiE _).trans (by rw [e1];rfl)) (Qe rfl) A2.h3 wl)).trans ?_
   refine (Qj (Jg (v:=.int s) ((sdE _).trans (by rw [e2];rfl)) (Qe rfl) A3.h3 wl)).trans ?_
   exact Qy (Jc (kJ rfl (Qe rfl) (tw (gs al (gs al gl2)) rfl) (QV (Qe rfl) A4.h3 (qu ..)) (QV (Qe rfl) A4.h3 (YR ..))) (by simp))
end
section
variable {hp:Hs} {n k a f q:Nat} {S:TR.Sh} {w:TR.Wk} {i:Nat} {p:TR.Pg}
theorem zY:PyData.strOk "find" = true:=by decide +kernel
theorem xP:PyData.strOk "put" = true:=by decide +kernel
theorem xO:PyData.strOk "cut" = true:=by decide +kernel
theorem G7:PyData.strOk "stretch" = true:=by decide +kernel
def yB:TR.Deed->Str
 | .find _ => "find"
 | .put _ _ => "put"
 | .cut _ => "cut"
 | .stretch _ _ => "stretch"
theorem Ku (d:TR.Deed) (hp:Hs):ixG (QS d) (.int 0) hp=some (.str (yB d),hp):=by cases d<;>exact Q1 (i:=0) rfl hp
theorem gc (A:At hp n k a f q S w) (D:Dif n k a f q) (hi:i < S.pg.length) (h1:p.ks.length<=90) (h2:p.ps.length=p.ks.length) (h3:∀ x,S.O2 < (TR.QW p w.aim x).ks.length->3<=(TR.QW p w.aim x).ks.length) (h4:∀ x,(TR.QW p w.aim x).ks.length<=100) (hl:S.pg.length < 90000) (hw:w.O5.length<=50000) (hlk:(p.hi=none/\p.sd=none)∨∃ x s,p.hi=some x/\p.sd=some s):
    ∃ hp',Yl [.ref a,.int i,pgD p] hp=some (GS (TR.Ja S w i p).1,hp')/\At hp' n k a f q (TR.Ja S w i p).2.1 (TR.Ja S w i p).2.2/\Fr hp hp' n k a f q:=by
  have s0:QC 3 (Qk ixG (Qz "Walk" "deed" (Qb 0)) (eC (.int 0))) [.val (.ref a),.val (.int i),.val (pgD p),.un] hp=some ((.nx,[.val (.ref a),.val (.int i),.val (pgD p),.val (.str (yB w.O0))]),hp):=QR (Qi (QV (Qe rfl) A.h3 (xS ..)) rfl (Ku w.O0 hp))
  have tst:∀ (x:Str) (b:Bool),PyData.strOk (yB w.O0)=true->PyData.strOk x=true->(yB w.O0==x)=b->eB (Qk eqG (Qb 3) (eC (.str x))) [.val (.ref a),.val (.int i),.val (pgD p),.val (.str (yB w.O0))] hp=some (b,hp):=fun x b o1 o2 e=>QU (Qi (Qe rfl) rfl (eqS hp o1 o2 e))
  have ag:∀ (nm:Str) (fn:Ef) (d:DV) (hp':Hs),List.lookup nm (wkF n f q (QS w.O0) (.int w.aim) (.int w.O4) (oN w.O6) (oN w.Oz) (opt w.O1) (.bl w.O7))=none->fn [.ref a,.int i,pgD p] hp=some (d,hp')->QF (QJ "Walk" nm 3 fn (Qb 0) (Qc (Qb 1) (Qc (Qb 2) Qn))) [.val (.ref a),.val (.int i),.val (pgD p),.val (.str (yB w.O0))] hp=some ((.rt d,[.val (.ref a),.val (.int i),.val (pgD p),.val (.str (yB w.O0))]),hp'):=fun nm fn d hp' e1 e2=>Qy (Q7 (Qe rfl) A.h3 e1 (ZM (Qe rfl) (Qe rfl)) rfl e2)
  cases hd:w.O0 with
  | find y =>
    obtain ⟨hp',e,A',F'⟩:=Qeu (i:=i) A D (by lia) h2
    refine ⟨hp',?_,by rw [VS hd];exact A',F'⟩
    rw [VS hd]
    have t:=tst "find" true (by rw [hd];exact zY) zY (by rw [hd];show (("find" : Str)==("find" : Str))=true;decide)
    exact Qv ((Qj s0).trans (Q5 ((Zl t).trans (ag _ _ _ _ (QhF ..) e))))
  | put y x =>
    obtain ⟨hp',e,A',F'⟩:=Qhj (i:=i) A D hi hd h1 h2 (h3 x) (h4 x) hl
    refine ⟨hp',?_,by rw [KG hd];exact A',F'⟩
    rw [KG hd]
    have t1:=tst "find" false (by rw [hd];exact xP) zY (by rw [hd];show (("put" : Str)==("find" : Str))=false;decide)
    have t2:=tst "put" true (by rw [hd];exact xP) xP (by rw [hd];show (("put" : Str)==("put" : Str))=true;decide)
    exact Qv ((Qj s0).trans ((Qj ((QG t1).trans QH)).trans (Q5 ((Zl t2).trans (ag _ _ _ _ (QhG ..) e)))))
  | cut y =>
    obtain ⟨hp',e,A',F'⟩:=Qga (i:=i) A D hi (by lia) h2
    refine ⟨hp',?_,by rw [KF hd];exact A',F'⟩
    rw [KF hd]
    have t1:=tst "find" false (by rw [hd];exact xO) zY (by rw [hd];show (("cut" : Str)==("find" : Str))=false;decide)
    have t2:=tst "put" false (by rw [hd];exact xO) xP (by rw [hd];show (("cut" : Str)==("put" : Str))=false;decide)
    have t3:=tst "cut" true (by rw [hd];exact xO) xO (by rw [hd];show (("cut" : Str)==("cut" : Str))=true;decide)
    exact Qv ((Qj s0).trans ((Qj ((QG t1).trans QH)).trans ((Qj ((QG t2).trans QH)).trans (Q5 ((Zl t3).trans (ag _ _ _ _ (QhH ..) e))))))
  | stretch l h =>
    obtain ⟨hp',e,A',F'⟩:=Ka (i:=i) A D hd (by lia) hw hlk
    refine ⟨hp',?_,A',F'⟩
    have t1:=tst "find" false (by rw [hd];exact G7) zY (by rw [hd];show (("stretch" : Str)==("find" : Str))=false;decide)
    have t2:=tst "put" false (by rw [hd];exact G7) xP (by rw [hd];show (("stretch" : Str)==("put" : Str))=false;decide)
    have t3:=tst "cut" false (by rw [hd];exact G7) xO (by rw [hd];show (("stretch" : Str)==("cut" : Str))=false;decide)
    exact Qv ((Qj s0).trans ((Qj ((QG t1).trans QH)).trans ((Qj ((QG t2).trans QH)).trans ((Qj ((QG t3).trans QH)).trans (ag _ _ _ _ (QhI ..) e)))))
theorem Qfx {r:TR.Row} (T:TR.Tree S bg) (W:TR.WOk S bg w) (hr:S.O2<=50) (A:At hp n k a f q S w) (D:Dif n k a f q) (hl:S.pg.length < 90000) (hf:w.O3.length < 5000) (hw:w.O5.length<=50000) (hs:TR.JO S w=some (r,S',w')):
    ∃ hp',YC [.ref a] hp=some (GS r,hp')/\At hp' n k a f q S' w'/\Fr hp hp' n k a f q:=by
  have env0:([DV.ref a].map Sl.val++List.replicate (3 - [DV.ref a].length) Sl.un)=[.val (.ref a),.un,.un]:=rfl
  cases he:w.O7 with
  | true =>
    unfold TR.JO at hs
    rw [C0 he] at hs
    cases hs
    refine ⟨hp,?_,A,Fr.refl⟩
    exact Qv (env:=[.val (.ref a),.un,.un]) (Q5 ((Zl (QU (QV (Qe rfl) A.h3 ((yv ..).trans (by rw [he]))))).trans (Qy (d:=.non) rfl)))
  | false =>
    obtain ⟨m,hm0,hpl⟩:∃ m,w.O6.getD S.top=m/\(w.O6=some m∨(w.O6=none/\m=S.top)):=by
      cases e:w.O6 with
      | none=>exact ⟨S.top,rfl,.inr ⟨rfl,rfl⟩⟩
      | some m=>exact ⟨m,rfl,.inl rfl⟩
    unfold TR.JO at hs
    rw [Cz (by rw [he];simp),hm0] at hs
    cases hg:S.pg[m]? with
    | none=>rw [hg] at hs;cases hs
    | some p =>
      rw [hg] at hs
      simp only at hs
      have ok:=T.page m p hg
      have hml:m < S.pg.length:=(Ac.mp hg).1
      have hps:p.ps.length<=100:=by have a1:=ok.parts;have a2:=ok.few;split at a1<;>lia
      have hks:p.ks.length<=90:=by have a2:=ok.few;lia
      have r2:=T.room2
      have st0:sIf (eB (Qz "Walk" "ended" (Qb 0))) (QF (eC .non)) Q6 [.val (.ref a),.un,.un] hp=some ((.nx,[.val (.ref a),.un,.un]),hp):=(QG (QU (QV (Qe rfl) A.h3 ((yv ..).trans (by rw [he]))))).trans QH
      have num:eIf (eB (Qk isD (Qz "Walk" "place" (Qb 0)) (eC .non))) (QJ "Shelf" "root" 1 Z7 (Qz "Walk" "shelf" (Qb 0)) Qn) (Qz "Walk" "place" (Qb 0)) [.val (.ref a),.un,.un] hp=some (.int m,hp):=by
        rcases hpl with e | ⟨e,rfl⟩
        . exact (Qh1 (QU (b:=false) (Qi (QV (Qe rfl) A.h3 (qu ..)) rfl (by rw [VZ,e];rfl)))).trans (QV (Qe rfl) A.h3 ((qu ..).trans (by rw [e];rfl)))
        . exact (Qh2 (QU (Qi (QV (Qe rfl) A.h3 (qu ..)) rfl (by rw [VZ,e];rfl)))).trans (Q7 (Xv A rfl) A.h1 (Ut ..) zn rfl (QaG A.h1))
      have rd:=QaD (i:=m) (d:=pgD p) A.h1 A.h2 D.nk (by rw [Bt,hg];rfl)
      obtain ⟨A1,F1⟩:=A.count D { S with rd:=S.rd+1 } rfl rfl
      have st1:=QR (i:=1) num
      have st2:QC 2 (QJ "Shelf" "read" 2 Zy (Qz "Walk" "shelf" (Qb 0)) (Qc (Qb 1) Qn)) [.val (.ref a),.val (.int m),.un] hp=some ((.nx,[.val (.ref a),.val (.int m),.val (pgD p)]),(hp.set n (.ins "Shelf" (shF S.O2 k S.top (S.rd+1) S.wr)))):=QR (Q7 (Xv A rfl) A.h1 (jP ..) (Zq (Qe rfl)) rfl rd)
      have lvE:∀ hpx:Hs,Qk ixG (Qb 2) (eC (.int 0)) [.val (.ref a),.val (.int m),.val (pgD p)] hpx=some (.int p.lv,hpx):=fun hpx=>Qi (Qe rfl) rfl (Qdn p hpx)
      have plE:eB (Qk isD (Qz "Walk" "place" (Qb 0)) (eC .non)) [.val (.ref a),.val (.int m),.val (pgD p)] (hp.set n (.ins "Shelf" (shF S.O2 k S.top (S.rd+1) S.wr)))=some (w.O6.isNone,(hp.set n (.ins "Shelf" (shF S.O2 k S.top (S.rd+1) S.wr)))):=QU (Qi (QV (Qe rfl) A1.h3 (qu ..)) rfl (by rw [VZ];rfl))
      have glE:Qz "Walk" "goal" (Qb 0) [.val (.ref a),.val (.int m),.val (pgD p)] (hp.set n (.ins "Shelf" (shF S.O2 k S.top (S.rd+1) S.wr)))=some (.int w.O4,(hp.set n (.ins "Shelf" (shF S.O2 k S.top (S.rd+1) S.wr)))):=QV (Qe rfl) A1.h3 (uL ..)
      have t1:YA (eB (Qk isD (Qz "Walk" "place" (Qb 0)) (eC .non))) (eB (Qk ltD (Qk ixG (Qb 2) (eC (.int 0))) (Qz "Walk" "goal" (Qb 0)))) [.val (.ref a),.val (.int m),.val (pgD p)] (hp.set n (.ins "Shelf" (shF S.O2 k S.top (S.rd+1) S.wr)))=some (decide (w.O6=none/\p.lv < w.O4),(hp.set n (.ins "Shelf" (shF S.O2 k S.top (S.rd+1) S.wr)))):=by
        cases hp0:w.O6 with
        | none =>
          rw [hp0] at plE
          refine (Qco plE).trans (QU (Qi (lvE _) glE ?_))
          rw [JC]
          show some (DV.bl _,_)=_
          congr 3
          by_cases z:p.lv < w.O4
          . rw [C4 (show (p.lv:Int) < w.O4 by lia),C4 (show (none:Option Nat)=none/\p.lv < w.O4 from ⟨rfl,z⟩)]
          . rw [C6 (show ¬ (p.lv:Int) < w.O4 by lia),C6 (fun h=>z h.2)]
        | some z =>
          rw [hp0] at plE
          rw [C6 (fun h=>by cases h.1)]
          exact gk plE
      have go:∀ (g:DSx) (x:(Fl×En)×Hs),g [.val (.ref a),.val (.int m),.val (pgD p)] (hp.set n (.ins "Shelf" (shF S.O2 k S.top (S.rd+1) S.wr)))=some x->Qr (sIf (eB (Qz "Walk" "ended" (Qb 0))) (QF (eC .non)) Q6) (Qr (QC 1 (eIf (eB (Qk isD (Qz "Walk" "place" (Qb 0)) (eC .non))) (QJ "Shelf" "root" 1 Z7 (Qz "Walk" "shelf" (Qb 0)) Qn) (Qz "Walk" "place" (Qb 0)))) (Qr (QC 2 (QJ "Shelf" "read" 2 Zy (Qz "Walk" "shelf" (Qb 0)) (Qc (Qb 1) Qn))) g)) [.val (.ref a),.un,.un] hp=some x:=fun g x hg=>(Qj st0).trans ((Qj st1).trans ((Qj st2).trans hg))
      by_cases hr1:w.O6=none/\p.lv < w.O4
      . rw [C0 hr1] at hs
        rw [C4 hr1] at t1
        cases hn:w.Oz with
        | none=>rw [hn] at hs;cases hs
        | some c =>
          rw [hn] at hs
          simp only [Option.some.injEq,Bp] at hs
          obtain ⟨rfl,rfl,rfl⟩:=hs
          have htop:m=S.top:=by
            rcases hpl with e | ⟨_,e⟩
            . rw [hr1.1] at e;cases e
            . exact e
          subst htop
          obtain ⟨c',z,b1,b2,_⟩:=W.tell (by lia)
          rw [hn] at b1;cases b1
          obtain ⟨hp',e,A',F'⟩:=U8 (i:=S.top) A1 D hn (Ac.mp b2).1 hg hl
          rw [hn] at A'
          refine ⟨hp',?_,A',F1.trans F'⟩
          exact Qv (go _ _ (Q5 ((Zl t1).trans (Qy (Q7 (Qe rfl) A1.h3 (QhE ..) (Zq (Qe rfl)) rfl e)))))
      . rw [Cz hr1] at hs
        rw [C6 hr1] at t1
        have t2:eB (QI 2 Y8 (Qc (Qb 2) (Qc (Qz "Walk" "aim" (Qb 0)) Qn))) [.val (.ref a),.val (.int m),.val (pgD p)] (hp.set n (.ins "Shelf" (shF S.O2 k S.top (S.rd+1) S.wr)))=some (TR.Jf p w.aim,(hp.set n (.ins "Shelf" (shF S.O2 k S.top (S.rd+1) S.wr)))):=QU (Zw (ZM (Qe rfl) (QV (Qe rfl) A1.h3 (YR ..))) rfl (ZB (QbE p w.aim) _))
        have go2:∀ (g:DSx) (x:(Fl×En)×Hs),g [.val (.ref a),.val (.int m),.val (pgD p)] (hp.set n (.ins "Shelf" (shF S.O2 k S.top (S.rd+1) S.wr)))=some x->Qr (sIf (YA (eB (Qk isD (Qz "Walk" "place" (Qb 0)) (eC .non))) (eB (Qk ltD (Qk ixG (Qb 2) (eC (.int 0))) (Qz "Walk" "goal" (Qb 0))))) (QF (QJ "Walk" "raise_root_over" 2 ZQ (Qb 0) (Qc (Qb 1) Qn))) Q6) g [.val (.ref a),.val (.int m),.val (pgD p)] (hp.set n (.ins "Shelf" (shF S.O2 k S.top (S.rd+1) S.wr)))=some x:=fun g x hg=>(Qj ((QG t1).trans QH)).trans hg
        cases hb:TR.Jf p w.aim with
        | true =>
          rw [hb,C0 rfl] at hs
          rw [hb] at t2
          cases hsd:p.sd with
          | none=>rw [hsd] at hs;cases hs
          | some s =>
            rw [hsd] at hs
            simp only [Option.some.injEq,Bp] at hs
            obtain ⟨rfl,rfl,rfl⟩:=hs
            obtain ⟨hp',e,A',F'⟩:=vQ (i:=m) A1 D "side" (some s)
            refine ⟨hp',?_,A',F1.trans F'⟩
            refine Qv (go _ _ (go2 _ _ (Q5 ((Zl t2).trans (Qy (Q7 (Qe rfl) A1.h3 (Qd4 ..) (X3 rfl (Qe rfl) (Qi (Qe rfl) rfl (Qdo p _))) rfl ?_))))))
            rw [hsd];exact e
        | false =>
          rw [hb,Cz (by simp)] at hs
          rw [hb] at t2
          have t3:eB (Qk gtD (Qk ixG (Qb 2) (eC (.int 0))) (Qz "Walk" "goal" (Qb 0))) [.val (.ref a),.val (.int m),.val (pgD p)] (hp.set n (.ins "Shelf" (shF S.O2 k S.top (S.rd+1) S.wr)))=some (decide (w.O4 < p.lv),(hp.set n (.ins "Shelf" (shF S.O2 k S.top (S.rd+1) S.wr)))):=QU (Qi (lvE _) glE (by
            rw [JB]
            show some (DV.bl _,_)=_
            congr 3
            by_cases z:w.O4 < p.lv
            . rw [C4 z,C4 (by lia)]
            . rw [C6 z,C6 (by lia)]))
          by_cases hd:w.O4 < p.lv
          . rw [C0 hd] at hs
            rw [C4 hd] at t3
            cases hc:p.ps[TR.cLe p.ks w.aim]? with
            | none=>rw [hc] at hs;cases hs
            | some c =>
              rw [hc] at hs
              simp only [Option.some.injEq,Bp] at hs
              obtain ⟨rfl,rfl,rfl⟩:=hs
              have pl:=ok.parts
              rw [Cz (by lia)] at pl
              obtain ⟨c',z,b1,b2,_⟩:=T.kid m p hg (by lia) _ _ hc
              subst b1
              obtain ⟨A2,F2⟩:=A1.fork D { w with O3:=TR.zP w.O3 p.lv m } rfl rfl
              obtain ⟨hp',e,A',F'⟩:=vQ (i:=m) A2 D "down" (some c')
              refine ⟨hp',?_,by rw [By];exact A',F1.trans (F2.trans F')⟩
              have ke:=Qg4 p w.aim c' (by lia) pl hc
              have pt:Xw (Qb 1) (gSb (Qz "Walk" "forks" (Qb 0)) (Qk ixG (Qb 2) (eC (.int 0)))) [.val (.ref a),.val (.int m),.val (pgD p)] (hp.set n (.ins "Shelf" (shF S.O2 k S.top (S.rd+1) S.wr)))=some ((.nx,[.val (.ref a),.val (.int m),.val (pgD p)]),(hp.set n (.ins "Shelf" (shF S.O2 k S.top (S.rd+1) S.wr))).set f (.dic (fkD (TR.zP w.O3 p.lv m)))):=Qhq (Qe rfl) (QV (Qe rfl) A1.h3 (Gc ..)) (lvE _) A1.h4 hf
              refine Qv (go _ _ (go2 _ _ ((Qj ((QG t2).trans QH)).trans (Q5 ((Zl t3).trans ((Qj pt).trans (Qy (Q7 (Qe rfl) A2.h3 (Qd4 ..) (X3 rfl (Qe rfl) (Zw (ZM (Qe rfl) (QV (Qe rfl) A2.h3 (YR ..))) rfl (ZB ke _))) rfl ?_))))))))
              rw [show GS (TR.Row.down m (c':Int).toNat)=.tup [.str "down", .int m,.int c'] from by rw [By];rfl]
              exact e
          . rw [Cz hd] at hs
            rw [C6 hd] at t3
            have go3:∀ (g:DSx) (x:(Fl×En)×Hs),g [.val (.ref a),.val (.int m),.val (pgD p)] (hp.set n (.ins "Shelf" (shF S.O2 k S.top (S.rd+1) S.wr)))=some x->Qr (sIf (eB (QI 2 Y8 (Qc (Qb 2) (Qc (Qz "Walk" "aim" (Qb 0)) Qn)))) (QF (QJ "Walk" "go_on" 4 JR (Qb 0) (Qc (eC (.str "side")) (Qc (Qb 1) (Qc (Qk ixG (Qb 2) (eC (.int 4))) Qn))))) Q6) (Qr (sIf (eB (Qk gtD (Qk ixG (Qb 2) (eC (.int 0))) (Qz "Walk" "goal" (Qb 0)))) (Qr (Xw (Qb 1) (gSb (Qz "Walk" "forks" (Qb 0)) (Qk ixG (Qb 2) (eC (.int 0))))) (QF (QJ "Walk" "go_on" 4 JR (Qb 0) (Qc (eC (.str "down")) (Qc (Qb 1) (Qc (QI 2 Y9 (Qc (Qb 2) (Qc (Qz "Walk" "aim" (Qb 0)) Qn))) Qn)))))) Q6) g) [.val (.ref a),.val (.int m),.val (pgD p)] (hp.set n (.ins "Shelf" (shF S.O2 k S.top (S.rd+1) S.wr)))=some x:=fun g x hg=>(Qj ((QG t2).trans QH)).trans ((Qj ((QG t3).trans QH)).trans hg)
            have t4:eB (Qk gtD (Qz "Walk" "goal" (Qb 0)) (eC (.int 0))) [.val (.ref a),.val (.int m),.val (pgD p)] (hp.set n (.ins "Shelf" (shF S.O2 k S.top (S.rd+1) S.wr)))=some (decide (0 < w.O4),(hp.set n (.ins "Shelf" (shF S.O2 k S.top (S.rd+1) S.wr)))):=QU (Qi glE rfl (by
              rw [JB]
              show some (DV.bl _,_)=_
              congr 3
              by_cases z:0 < w.O4
              . rw [C4 z,C4 (by lia)]
              . rw [C6 z,C6 (by lia)]))
            have glv:w.O4<=p.lv:=by
              rcases hpl with e | ⟨e,_⟩
              . obtain ⟨p',b1,b2,_⟩:=W.at_ m e
                rw [hg] at b1;cases b1;exact b2
              . exact Co fun h=>hr1 ⟨e,h⟩
            by_cases h0:0 < w.O4
            . rw [C0 h0] at hs
              rw [C4 h0] at t4
              cases hn:w.Oz with
              | none=>rw [hn] at hs;cases hs
              | some c =>
                rw [hn] at hs
                simp only [Option.some.injEq,Bp] at hs
                obtain ⟨rfl,rfl,rfl⟩:=hs
                have kl:=TR.yU ok (k:=w.aim) (c:=c)
                obtain ⟨hp',e,A',F'⟩:=QfA (i:=m) (p:=p) A1 D hml hn hks hps (fun z=>by have:S.O2 < (TR.Zn p w.aim c).ks.length:=z;lia) (by lia) hl
                refine ⟨hp',?_,A',F1.trans F'⟩
                exact Qv (go _ _ (go2 _ _ (go3 _ _ (Q5 ((Zl t4).trans (Qy (Q7 (Qe rfl) A1.h3 (QhD ..) (ZM (Qe rfl) (Qe rfl)) rfl e)))))))
            . rw [Cz h0] at hs
              rw [C6 h0] at t4
              have hz:p.lv=0:=by lia
              have pl:=ok.parts
              rw [C0 hz] at pl
              have kl:∀ x,(TR.QW p w.aim x).ks.length<=S.O2+1:=fun x=>TR.xR ok
              obtain ⟨hp',e,A',F'⟩:=gc (i:=m) (p:=p) A1 D hml hks (by lia) (fun x z=>by have:S.O2 < (TR.QW p w.aim x).ks.length:=z;lia) (fun x=>by have:=kl x;lia) hl hw ((T.link m p hg).imp id fun ⟨x,s,_,b1,b2,_⟩=>⟨x,s,b1,b2⟩)
              have hs':=Aj hs
              refine ⟨hp',?_,?_,F1.trans F'⟩
              . rw [show r=(TR.Ja { S with rd:=S.rd+1 } w m p).1 by rw [hs']]
                exact Qv (go _ _ (go2 _ _ (go3 _ _ ((Qj ((QG t4).trans QH)).trans (Qy (Q7 (Qe rfl) A1.h3 (QhC ..) (ZM (Qe rfl) (Qe rfl)) rfl e))))))
              . rw [show S'=(TR.Ja { S with rd:=S.rd+1 } w m p).2.1 by rw [hs'],show w'=(TR.Ja { S with rd:=S.rd+1 } w m p).2.2 by rw [hs']]
                exact A'
end
theorem Qd3 (n:Nat) (d:TR.Deed) (hp:Hs):Jr [.ref hp.length,.ref n,QS d] (hp++[.ins "Walk" []])=some (.non,hp++[wkO n (hp.length+1) (hp.length+2) (TR.fresh d),.dic [],.lst []]):=by
 have st:∀ (nm:Str) (e:DEx) (v:DV) (fs:List (Str×DV)) (t t':Hs),e [.val (.ref hp.length),.val (.ref n),.val (QS d)] (hp++.ins "Walk" fs::t)=some (v,hp++.ins "Walk" fs::t')->fs.length < 1000->Zc "Walk" nm (Qb 0) e [.val (.ref hp.length),.val (.ref n),.val (QS d)] (hp++.ins "Walk" fs::t)=some ((.nx,[.val (.ref hp.length),.val (.ref n),.val (QS d)]),hp++.ins "Walk" (JK nm v fs)::t'):=fun nm e v fs t t' he hl=>by
  rw [Jg he (Qe rfl) (QcC hp _ _) hl,QdI]
 have a1:∀ fs,JY [.val (.ref hp.length),.val (.ref n),.val (QS d)] (hp++.ins "Walk" fs::[])=some (.ref (hp.length+1),hp++.ins "Walk" fs::[.dic []]):=fun fs=>by
  show some (DV.ref (hp++[OV.ins "Walk" fs]).length,(hp++[OV.ins "Walk" fs])++[OV.dic []])=_
  simp
 have a2:∀ fs,XR Qn [.val (.ref hp.length),.val (.ref n),.val (QS d)] (hp++.ins "Walk" fs::[.dic []])=some (.ref (hp.length+2),hp++.ins "Walk" fs::[.dic [],.lst []]):=fun fs=>by
  show some (DV.ref (hp++[OV.ins "Walk" fs,OV.dic []]).length,(hp++[OV.ins "Walk" fs,OV.dic []])++[OV.lst []])=_
  simp
 refine QaH (env:=[.val (.ref hp.length),.val (.ref n),.val (QS d)]) ?_
 refine (Qj (st "shelf" _ (.ref n) [] [] [] (Qe rfl) (Bw (m:=20) (by repeat (first | exact Bc _ | refine J2 ?_)) (by decide)))).trans ?_
 refine (Qj (st "deed" _ (QS d) _ [] [] (Qe rfl) (Bw (m:=20) (by repeat (first | exact Bc _ | refine J2 ?_)) (by decide)))).trans ?_
 refine (Qj (st "aim" _ (.int d.key) _ [] [] (Qi (Qe rfl) rfl (Qcg d _)) (Bw (m:=20) (by repeat (first | exact Bc _ | refine J2 ?_)) (by decide)))).trans ?_
 refine (Qj (st "goal" _ (.int 0) _ [] [] rfl (Bw (m:=20) (by repeat (first | exact Bc _ | refine J2 ?_)) (by decide)))).trans ?_
 refine (Qj (st "place" _ .non _ [] [] rfl (Bw (m:=20) (by repeat (first | exact Bc _ | refine J2 ?_)) (by decide)))).trans ?_
 refine (Qj (st "forks" _ (.ref (hp.length+1)) _ [] [.dic []] (a1 _) (Bw (m:=20) (by repeat (first | exact Bc _ | refine J2 ?_)) (by decide)))).trans ?_
 refine (Qj (st "new_page" _ .non _ [.dic []] [.dic []] rfl (Bw (m:=20) (by repeat (first | exact Bc _ | refine J2 ?_)) (by decide)))).trans ?_
 refine (Qj (st "worth" _ .non _ [.dic []] [.dic []] rfl (Bw (m:=20) (by repeat (first | exact Bc _ | refine J2 ?_)) (by decide)))).trans ?_
 refine (Qj (st "pairs" _ (.ref (hp.length+2)) _ [.dic []] [.dic [],.lst []] (a2 _) (Bw (m:=20) (by repeat (first | exact Bc _ | refine J2 ?_)) (by decide)))).trans ?_
 exact st "ended" _ (.bl false) _ [.dic [],.lst []] [.dic [],.lst []] rfl (Bw (m:=20) (by repeat (first | exact Bc _ | refine J2 ?_)) (by decide))
theorem Qd6 {n:Nat} {d:TR.Deed} {fa:DAx} {hp0 hp:Hs} (ha:fa env hp0=some ([.ref n,QS d],hp)):Xo "Walk" 3 Jr fa env hp0=some (.ref hp.length,hp++[wkO n (hp.length+1) (hp.length+2) (TR.fresh d),.dic [],.lst []]):=by
 unfold Xo
 rw [Qf ha]
 have al:XX (.ins "Walk" []) hp=some (.ref hp.length,hp++[.ins "Walk" []]):=rfl
 have gd:Qx (decide ([DV.ref n,QS d].length+1=3)) hp=some ((),hp):=rfl
 rw [Qf gd,Qf al,Qf (Qd3 n d hp)];rfl
def QeT {hp:Hs} {n f q a:Nat} {w:TR.Wk} (h:hp[a]?=some (wkO n f q w)):XM [.ref a] hp=some (.bl w.O7,hp):=Qv (Qy (QV (Qe rfl) h (yv ..)))
def emp:DV:=.tup [.int 0,.tup [],.tup [],.non,.non]
theorem pf0 (d:DV):JK ("page_room" : Str) d []=[(("page_room" : Str),d)]:=by rfl
theorem pf1 (x d:DV):JK ("kept" : Str) d [(("page_room" : Str),x)]=[(("page_room" : Str),x),(("kept" : Str),d)]:=by rfl
theorem pf2 (x y d:DV):JK ("top" : Str) d [(("page_room" : Str),x),(("kept" : Str),y)]=[(("page_room" : Str),x),(("kept" : Str),y),(("top" : Str),d)]:=by rfl
theorem pf3 (x y z d:DV):JK ("read_count" : Str) d [(("page_room" : Str),x),(("kept" : Str),y),(("top" : Str),z)]=[(("page_room" : Str),x),(("kept" : Str),y),(("top" : Str),z),(("read_count" : Str),d)]:=by rfl
theorem pf4 (x y z u d:DV):JK ("write_count" : Str) d [(("page_room" : Str),x),(("kept" : Str),y),(("top" : Str),z),(("read_count" : Str),u)]=[(("page_room" : Str),x),(("kept" : Str),y),(("top" : Str),z),(("read_count" : Str),u),(("write_count" : Str),d)]:=by rfl
theorem QeB (r:Int) (hp:Hs):Jk [.ref hp.length,.int r] (hp++[.ins "Shelf" []])=some (.non,hp++[.ins "Shelf" (shF r (hp.length+1) 0 0 0),.lst [emp]]):=by
 simp [Jk,qd,Q9,Qr,QC,QF,zQ,sIf,Q6,Uc,y6,Ua,Ub,Qk,Qb,eC,eB,asB,YA,eOr,Jx,Xn,VM,qh,eIf,YB,Qn,Qc,Zp,qg,QI,Zx,Qx,gN,Js,JP,JB,JC,JW,JU,JJ,q8,zO,V7,Z9,Xs,ZP,Zc,X6,GV,Xw,gSb,yq,Z1,Xr,Qz,jG,jO,onI,onL,onD,ZD,X9,YJ,JD,ixG,Jy,qN,zN,Xq,zq,asI,zo,G8,QJ,Xo,XR,JY,YF,evP,JL,Yc,JM,Xt,JX,Yb,Ye,Yd,Zv,QP,Jo,QcC,QdI,pf0,pf1,pf2,pf3,pf4,zh,lim,shF,emp]
theorem QdW {f g:DEx} {ds:List DV} {a:Nat} (hf:f env hp=some (.tup ds,hp)) (hg:g env hp=some (.int (a:Int),hp)):eSl f (ZO g) ZN env hp=some (.tup (ds.drop a),hp):=by
 unfold eSl ZO ZN
 rw [Qf hf]
 have e1:(do let i <- asI (<- g env);pure (some i):M (Option Int)) hp=some (some (a:Int),hp):=by rw [Qf hg];rfl
 rw [Qf e1,Qf (rfl:(pure none:M (Option Int)) hp=some (none,hp)),<- vC ds a];rfl
theorem Qb7:∀ ds:List DV,blM (ds.map fun _=>.bl true)=some (ds.map fun _=>true)
  | []=>rfl
  | _::ds=>by
    show (blM (ds.map fun _=>.bl true)).map (true :: ·)=_
    rw [Qb7 ds];rfl
section
end
theorem VA {g g':DV->DV->M DV} {fa fb fc:DEx} {b b':Bool} (ha:fa env hp=some (x,hp)) (hb:fb env hp=some (y,hp)) (hc:fc env hp=some (z,hp)) (h1:g x y=pure (.bl b)) (h2:g' y z=pure (.bl b')):Z0 g g' fa fb fc env hp=some (.bl (b&&b'),hp):=by
  unfold Z0
  rw [Qf ha,Qf hb,h1,C7]
  show ((if b=true then _ else _:M DV)) hp=_
  cases b with
  | false=>rfl
  | true =>
    show (fc env >>= fun w=>g' y w) hp=_
    rw [Qf hc,h2];cases b'<;>rfl
def wvF (t:Int):List (Str×DV):=[("shelf", .ref 0),("deeds", .ref 3),("taken", .int t),("held", .ref 4),("done", .ref 5)]
theorem Qd9 (t:Int):List.lookup ("shelf" : Str) (wvF t)=some (DV.ref 0):=by rfl
theorem qw (t:Int):List.lookup ("deeds" : Str) (wvF t)=some (DV.ref 3):=by rfl
theorem zZ (t:Int):List.lookup ("taken" : Str) (wvF t)=some (DV.int t):=by rfl
theorem qU (t:Int):List.lookup ("held" : Str) (wvF t)=some (DV.ref 4):=by rfl
theorem QfH (t:Int):List.lookup ("done" : Str) (wvF t)=some (DV.ref 5):=by rfl
theorem QhJ (t u:Int):JK ("taken" : Str) (.int u) (wvF t)=wvF u:=by rfl
theorem QiP (t:Int):List.lookup ("step_walk" : Str) (wvF t)=none:=by rfl
theorem QiQ (t:Int):List.lookup ("take_deed" : Str) (wvF t)=none:=by rfl
theorem Qf2 (t:Int):List.lookup ("move" : Str) (wvF t)=none:=by rfl
theorem Qf3 (t:Int):List.lookup ("idle" : Str) (wvF t)=none:=by rfl
theorem Qf4 (t:Int):List.lookup ("hand_in" : Str) (wvF t)=none:=by rfl
theorem QiR (t:Int):List.lookup ("finish" : Str) (wvF t)=none:=by rfl
theorem QaC {e f g:DEx} {w w1:Hs} {a i:Nat} {ds:List DV} (he:e env w=some (d,w1)) (hf:f env w1=some (.ref a,w1)) (ha:w1[a]?=some (.lst ds)) (hg:g env w1=some (.int (i:Int),w1)) (hl:i < ds.length):Xw e (gSb f g) env w=some ((.nx,env),w1.set a (.lst (ds.set i d))):=by
 refine GU he ?_
 unfold gSb
 rw [Qf hf,Qf hg]
 have:yq (.ref a) (.int (i:Int)) d w1=some ((),w1.set a (.lst (ds.set i d))):=by
  show (ZI a >>= _) w1=_
  rw [Qf (Zi ha)]
  show (asI (.int (i:Int)) >>= fun k=>match ixN ds.length k with | some j=>xL a (.lst (ds.set j d)) | none=>failure) w1=_
  rw [Qf (rfl:asI (.int (i:Int)) w1=some ((i:Int),w1)),Qan hl];rfl
 rw [Qf this];rfl
theorem Qey {c f:Str} {o e:DEx} {hp:Hs} {a:Nat} {fs:List (Str×DV)} {x y:Int} (ho:o env hp=some (.ref a,hp)) (h:hp[a]?=some (.ins c fs)) (hf:fs.lookup f=some (.int x)) (he:e env hp=some (.int y,hp)) (hl:fs.length < 1000):X6 c f zo o e env hp=some ((.nx,env),hp.set a (.ins c (JK f (.int (x+y)) fs))):=by
 unfold X6
 have e1:jG c f (.ref a) hp=some (.int x,hp):=by unfold jG;rw [xy h,hf];rfl
 have e2:jO c f (.ref a) (.int (x+y)) hp=some ((),hp.set a (.ins c (JK f (.int (x+y)) fs))):=by unfold jO;rw [xy h,C4 hl];rfl
 rw [Qf ho,Qf e1,Qf he,Qf (rfl:zo (.int x) (.int y) hp=some (.int (x+y),hp)),Qf e2];rfl
section
variable {hp:Hs} {t h m:Nat} {hs ds ys:List DV}
theorem Qhv (h2:hp[2]?=some (.ins "Weaver" (wvF t))) (h3:hp[3]?=some (.lst ds)) (h4:hp[4]?=some (.lst hs)) (hl:h < hs.length) {d:TR.Deed} (hd:ds[t]?=some (QS d)):
  Jm [.ref 2,.int h] hp=some (.tup [.str "take", .int h,.int t],((hp++[wkO 0 (hp.length+1) (hp.length+2) (TR.fresh d),.dic [],.lst []]).set 4 (.lst (hs.set h (.tup [.int t,.ref hp.length])))).set 2 (.ins "Weaver" (wvF (t+1)))):=by
 let E:En:=[.val (.ref 2),.val (.int h),.val (.int t)]
 let w1:Hs:=hp++[wkO 0 (hp.length+1) (hp.length+2) (TR.fresh d),.dic [],.lst []]
 have g:∀ {i:Nat} {o:OV},hp[i]?=some o->w1[i]?=some o:=fun {i o} e=>(Ag (Ac.mp e).1).trans e
 let w2:Hs:=w1.set 4 (.lst (hs.set h (.tup [.int t,.ref hp.length])))
 have h2':w2[2]?=some (.ins "Weaver" (wvF t)):=(QP _ _ _ _ (by decide)).trans (g h2)
 have mk:Xo "Walk" 3 Jr (Qc (Qz "Weaver" "shelf" (Qb 0)) (Qc (Qk ixG (Qz "Weaver" "deeds" (Qb 0)) (Qb 2)) (Qn))) E hp=some (.ref hp.length,w1):=Qd6 (d:=d) (ZM (QV (Qe rfl) h2 (Qd9 _)) (Qi (QV (Qe rfl) h2 (qw _)) (Qe rfl) (Vn h3 hd)))
 refine Qv (env:=E) ((Qj (env1:=E) (QR (QV (Qe rfl) h2 (zZ _)))).trans ?_)
 refine (Qj (env1:=E) (hp1:=w2) (QaC (Jc (ZM (Qe rfl) mk) (by simp)) (QV (Qe rfl) (g h2) (qU _)) (g h4) (Qe rfl) hl)).trans ?_
 refine (Qj (env1:=E) (hp1:=w2.set 2 (.ins "Weaver" (wvF (t+1)))) ((Qey (Qe rfl) h2' (zZ _) rfl (show (5:Nat) < 1000 by decide)).trans (by rw [QhJ]))).trans ?_
 exact Qy (Jc (X3 rfl (Qe rfl) (Qe rfl)) (by simp))
end
theorem uZ {nxt:NX} {t:DV->M Bool} {f:DV->M DV} {g:DV->DV} (ds:List DV) (hx:∀ i,i<=ds.length->nxt i hp=some (ds[i]?,hp)) (ht:∀ d∈ds,t d hp=some (true,hp)) (hf:∀ d∈ds,f d hp=some (g d,hp)) (hl:ds.length < 100000):Z8 nxt t f 100000 0 hp=some (ds.map g,hp):=by
  suffices h:∀ (m i n:Nat),m+i=ds.length->m < n->Z8 nxt t f n i hp=some ((ds.drop i).map g,hp) by simpa using h ds.length 0 100000 rfl hl
  intro m
  induction m with
  | zero =>
    intro i n e hn'
    obtain ⟨n,rfl⟩:∃ k,n=k+1:=⟨n - 1,by lia⟩
    have:i=ds.length:=by lia
    subst this
    have e1:=hx ds.length (Ae _)
    rw [show ds[ds.length]?=none by simp] at e1
    rw [Z8,Qf e1,Cr];rfl
  | succ m ih =>
    intro i n e hn'
    obtain ⟨n,rfl⟩:∃ k,n=k+1:=⟨n - 1,by lia⟩
    have hlt:i < ds.length:=by lia
    have e1:=hx i (by lia)
    rw [Ab hlt] at e1
    rw [Z8,Qf e1]
    simp only
    rw [Qf (ht ds[i] (B0 hlt)),Bh hlt]
    simp only [if_true]
    rw [Qf (hf ds[i] (B0 hlt)),Qf (ih (i+1) n (by lia) (by lia))];rfl
theorem QaR {f:DEx} {hp:Hs} {n:Nat} (h:f env hp=some (.ref n,hp)) (hn:hp[n]?=some (.lst ds)):xLs f env hp=some (nxW n,hp):=by
 unfold xLs
 rw [Qf h]
 show (ZI n >>= _) hp=_
 rw [Qf (Zi hn)];rfl
theorem yn {hp:Hs} {n:Nat} {ds:List DV} (hn:hp[n]?=some (.lst ds)) (i:Nat):nxW n i hp=some (ds[i]?,hp):=by
 unfold nxW
 rw [Qf (Zi hn)];rfl
theorem kN (p:DV->Bool):∀ ds:List DV,blM (ds.map fun d=>.bl (p d))=some (ds.map p)
 | []=>rfl
 | d::r=>by rw [Ba,blM,kN p r];rfl
section
variable {hp:Hs} {t h:Nat} {hs ds:List DV} {x:Int}
theorem Qgp (h2:hp[2]?=some (.ins "Weaver" (wvF t))) (h3:hp[3]?=some (.lst ds)) (h4:hp[4]?=some (.lst hs)) (hl:hs.length < 1000):J0 [.ref 2] hp=some (.bl (((t:Int)==(ds.length:Int))&&hs.all isN),hp):=by
  let E:En:=[.val (.ref 2)]
  have cm:XU E hp=some (.lst (hs.map fun d=>.bl (isN d)),hp):=by
    unfold XU Z4
    rw [Qf (QaR (QV (Qe rfl) h2 (qU _)) h4)]
    have c:=uZ (nxt:=nxW 4) (t:=fun d=>UA (cE [] E d)) (f:=fun d=>Qk isD (Qb 0) (eC .non) (cE [] E d)) (g:=fun d=>.bl (isN d)) (hp:=hp) hs (fun i _=>yn h4 i) (fun d _=>rfl) (fun d _=>Qi (Qe rfl) rfl rfl) (by lia)
    rw [show lim=100000 from rfl,Qf c];rfl
  refine Qv (env:=E) (Qy ?_)
  rw [vI (Qi (QV (Qe rfl) h2 (zZ _)) (je (QV (Qe rfl) h2 (qw _)) h3) (eqI _ _ _))]
  cases ((t:Int)==(ds.length:Int)) with
  | false=>rfl
  | true =>
    rw [C0 rfl]
    refine XC (Zq cm) ?_
    show (lsG (.lst (hs.map fun d=>.bl (isN d))) >>= _) hp=_
    rw [Qf (rfl:lsG (.lst (hs.map fun d=>DV.bl (isN d))) hp=some (hs.map fun d=>.bl (isN d),hp)),kN]
    show some (DV.bl ((hs.map isN).all id),hp)=_
    rw [List.all_map];rfl
theorem QcF (h2:hp[2]?=some (.ins "Weaver" (wvF t))) (h3:hp[3]?=some (.lst ds)) (hl:ds.length < 1000):ZW [.ref 2,d] hp=some (.int ds.length,hp.set 3 (.lst (ds++[d]))):=by
 have h2':(hp.set 3 (.lst (ds++[d])))[2]?=some (.ins "Weaver" (wvF t)):=(QP _ _ _ _ (by decide)).trans h2
 have h3':(hp.set 3 (.lst (ds++[d])))[3]?=some (.lst (ds++[d])):=Zv _ _ _ (by rw [h3];rfl)
 refine Qv (env:=[.val (.ref 2),.val d]) ((Qj (JN (xU (QV (Qe rfl) h2 (qw _)) h3 (Qe rfl) (by lia)))).trans (Qy (Qi (je (QV (Qe rfl) h2' (qw _)) h3') rfl ?_)))
 show some (DV.int (((ds++[d]).length:Int) - 1),_)=_
 rw [Am];simp
theorem QhX (h2:hp[2]?=some (.ins "Weaver" (wvF t))) (h4:hp[4]?=some (.lst hs)):Jx (eB (Z0 leD ltD (eC (.int 0)) (Qb 1) (Zx Jy (Qc (Qz "Weaver" "held" (Qb 0)) (Qn))))) [.val (.ref 2),.val (.int x)] hp=some (!(decide (0<=x)&&decide (x < hs.length)),hp) :=
 Xp (QU (VA rfl (Qe rfl) (je (QV (Qe rfl) h2 (qU _)) h4) rfl rfl))
theorem uX (h2:hp[2]?=some (.ins "Weaver" (wvF t))) (h4:hp[4]?=some (.lst hs)) (hl:h < hs.length):Jx (eB (Z0 leD ltD (eC (.int 0)) (Qb 1) (Zx Jy (Qc (Qz "Weaver" "held" (Qb 0)) (Qn))))) [.val (.ref 2),.val (.int h)] hp=some (false,hp):=by
 rw [QhX h2 h4,C4 (p:=(0:Int)<=h) (by lia),C4 (p:=(h:Int) < hs.length) (by lia)];rfl
theorem QcL (h2:hp[2]?=some (.ins "Weaver" (wvF t))) (h4:hp[4]?=some (.lst hs)) (hd:hs[h]?=some d):eB (Qk Ve (Qk ixG (Qz "Weaver" "held" (Qb 0)) (Qb 1)) (eC .non)) [.val (.ref 2),.val (.int h)] hp=some (!isN d,hp) :=
 QU (Qi (Qi (QV (Qe rfl) h2 (qU _)) (Qe rfl) (Vn h4 hd)) rfl rfl)
theorem QfU (h2:hp[2]?=some (.ins "Weaver" (wvF t))) (h4:hp[4]?=some (.lst hs)) (hd:hs[h]?=some d) (hn:isN d=false) (e:J4 [.ref 2,.int h] hp=some (r,hp')):ZG [.ref 2,.int h] hp=some (r,hp') :=
 Qv (env:=[.val (.ref 2),.val (.int h)]) ((Qj ((QG (uX h2 h4 (Ac.mp hd).1)).trans QH)).trans (Q5 ((Zl ((QcL h2 h4 hd).trans (by rw [hn];rfl))).trans (Qy (Q7 (Qe rfl) h2 (QiP _) (Zq (Qe rfl)) rfl e)))))
theorem Qid (h2:hp[2]?=some (.ins "Weaver" (wvF t))) (h3:hp[3]?=some (.lst ds)) (h4:hp[4]?=some (.lst hs)) (hd:hs[h]?=some d) (hn:isN d=true) (ht:t < ds.length) (e:Jm [.ref 2,.int h] hp=some (r,hp')):ZG [.ref 2,.int h] hp=some (r,hp') :=
 Qv (env:=[.val (.ref 2),.val (.int h)]) ((Qj ((QG (uX h2 h4 (Ac.mp hd).1)).trans QH)).trans ((Qj ((QG ((QcL h2 h4 hd).trans (by rw [hn];rfl))).trans QH)).trans (Q5 ((Zl (QU (Qi (QV (Qe rfl) h2 (zZ _)) (je (QV (Qe rfl) h2 (qw _)) h3) (show some (DV.bl (decide ((t:Int) < ds.length)),hp)=some (.bl true,hp) by rw [C4 (by lia)])))).trans (Qy (Q7 (Qe rfl) h2 (QiQ _) (Zq (Qe rfl)) rfl e))))))
theorem Qic (h2:hp[2]?=some (.ins "Weaver" (wvF t))) (h3:hp[3]?=some (.lst ds)) (h4:hp[4]?=some (.lst hs)) (hd:hs[h]?=some d) (hn:isN d=true) (ht:¬ t < ds.length):ZG [.ref 2,.int h] hp=some (.tup [.str "rest", .int h],hp) :=
 Qv (env:=[.val (.ref 2),.val (.int h)]) ((Qj ((QG (uX h2 h4 (Ac.mp hd).1)).trans QH)).trans ((Qj ((QG ((QcL h2 h4 hd).trans (by rw [hn];rfl))).trans QH)).trans ((Qj ((QG (QU (Qi (QV (Qe rfl) h2 (zZ _)) (je (QV (Qe rfl) h2 (qw _)) h3) (show some (DV.bl (decide ((t:Int) < ds.length)),hp)=some (.bl false,hp) by rw [C6 (by lia)])))).trans QH)).trans (Qy (Jc (ZM rfl (Qe rfl)) (by simp))))))
end
def hdD (v:TR.Wk) (n a:Nat):DV:=if v.O7=true then .non else .tup [.int n,.ref a]
def QhZ (i n:Nat):DV->DV
 | .tup (x::xs)=>.tup ([x,.int i,.int n]++xs)
 | _=>.non
def YZ (i:Nat):TR.Out->DV
 | .rest=>.tup [.str "rest", .int i]
 | .take n=>.tup [.str "take", .int i,.int n]
 | .did n r=>QhZ i n (GS r)
structure WB (w:Hs) (ds:List TR.Deed) (s:TR.St) (L:Nat->Nat):Prop where
 h1:w[0]?=some (.ins "Shelf" (shF s.S.O2 1 s.S.top s.S.rd s.S.wr))
 h2:w[1]?=some (.lst (s.S.pg.map pgD))
 hv:w[2]?=some (.ins "Weaver" (wvF s.tk))
 hd:w[3]?=some (.lst (ds.map QS))
 hh:∃ hs,w[4]?=some (.lst hs)/\hs.length=s.ws.length/\∀ (i:Nat) (v:TR.Wk),s.ws[i]?=some v->hs[i]?=some (hdD v (s.ns.getD i 0) (L i))
 hn:∃ ys,w[5]?=some (.lst ys)/\ys.length+TR.lc s.ws<=s.tk
 ob:∀ (i:Nat) (v:TR.Wk),s.ws[i]?=some v->v.O7=false->w[L i]?=some (wkO 0 (L i+1) (L i+2) v)/\w[L i+1]?=some (.dic (fkD v.O3))/\w[L i+2]?=some (.lst (prD v.O5))/\8 < L i
 dj:∀ (i j:Nat) (v u:TR.Wk),i≠j->s.ws[i]?=some v->v.O7=false->s.ws[j]?=some u->u.O7=false->L i+2 < L j∨L j+2 < L i
structure Fw (C:Nat->Prop) (w:Hs) (s:TR.St) (L:Nat->Nat) (w':Hs) (s':TR.St) (L':Nat->Nat):Prop where
 len:w.length<=w'.length
 own:∀ (i:Nat) (v:TR.Wk),s'.ws[i]?=some v->v.O7=false->(∃ u,s.ws[i]?=some u/\u.O7=false/\L' i=L i)∨w.length<=L' i
 old:∀ x,x < w.length->¬ C x->(∀ (i:Nat) (u:TR.Wk),s.ws[i]?=some u->u.O7=false->x < L i∨L i+2 < x)->w'[x]?=w[x]?
def CW (x:Nat):Prop:=x=0∨x=1∨x=2∨x=4∨x=5
section
variable {C:Nat->Prop} {w w1 w2:Hs} {s s1 s2:TR.St} {L L1 L2:Nat->Nat} {ds:List TR.Deed} {bg:TR.Bg} {b:Nat->Nat}
def Fw.refl:Fw C w s L w s L:=⟨Ae _,fun i v h e=>.inl ⟨v,h,e,rfl⟩,fun _ _ _ _=>rfl⟩
theorem Fw.trans (a:Fw C w s L w1 s1 L1) (c:Fw C w1 s1 L1 w2 s2 L2):Fw C w s L w2 s2 L2:=by
 have l1:=a.len
 refine ⟨Bi a.len c.len,fun i v h e=>?_,fun x hx hC hL=>?_⟩
 ·rcases c.own i v h e with ⟨u,h1,e1,q⟩ | q
  ·rw [q];exact a.own i u h1 e1
  ·exact .inr (by lia)
 ·rw [c.old x (by lia) hC fun i u h e=>?_]
  ·exact a.old x hx hC hL
  ·rcases a.own i u h e with ⟨v,h1,e1,q⟩ | q
   ·rw [q];exact hL i v h1 e1
   ·exact .inl (by lia)
theorem Qai {v:TR.Wk} {n a:Nat} (h:v.O7=true):hdD v n a=.non:=by unfold hdD;rw [C0 h]
theorem Qah {v:TR.Wk} {n a:Nat} (h:v.O7=false):hdD v n a=.tup [.int n,.ref a]:=by unfold hdD;rw [Cz (by rw [h];simp)]
theorem QdB {v v':TR.Wk} {r:TR.Row} (h:TR.JO S v=some (r,S',v')) (he:v.O7=false) (T:TR.Tree S bg) (W:TR.WOk S bg v):∃ x xs,GS r=.tup (x::xs)/\xs.length<=10:=by
  cases r with
  | non =>
    exfalso
    unfold TR.JO at h
    rw [Cz (by rw [he];simp)] at h
    split at h
    . cases h
    . split at h
      . split at h<;>cases h
      . split at h
        . split at h<;>cases h
        . split at h
          . split at h<;>cases h
          . split at h
            . split at h
              . cases h
              . cases h
            . have e:=Aj h
              unfold TR.Ja at e
              split at e
              . cases e
              . cases e
              . cases e
              . split at e
                . split at e<;>cases e
                . cases e
  | side n t=>exact ⟨_,_,rfl,Nat.le_of_ble_eq_true rfl⟩
  | down n t=>exact ⟨_,_,rfl,Nat.le_of_ble_eq_true rfl⟩
  | found n t=>exact ⟨_,_,rfl,Nat.le_of_ble_eq_true rfl⟩
  | put n t k=>exact ⟨_,_,rfl,Nat.le_of_ble_eq_true rfl⟩
  | cut n t=>exact ⟨_,_,rfl,Nat.le_of_ble_eq_true rfl⟩
  | read n ps t=>cases t with
    | none=>exact ⟨_,_,rfl,Nat.le_of_ble_eq_true rfl⟩
    | some t=>obtain ⟨t,a⟩:=t;exact ⟨_,_,rfl,Nat.le_of_ble_eq_true rfl⟩
  | told n k=>exact ⟨_,_,rfl,Nat.le_of_ble_eq_true rfl⟩
  | raised n t=>exact ⟨_,_,rfl,Nat.le_of_ble_eq_true rfl⟩
theorem QcU {v v':TR.Wk} {ws:List TR.Wk} {i:Nat} (h:ws[i]?=some v):TR.lc (ws.set i v')+(if v.O7=false then 1 else 0)=TR.lc ws+(if v'.O7=false then 1 else 0):=by
 have:=TR.j6 TR.lf ws i v v' h
 unfold TR.lf at this
 unfold TR.lc TR.lf
 simpa using this
theorem Qc4 (A:WB w ds s L) (Y:TR.StOk ds s bg b) {i:Nat} (hi:i < s.ws.length) (h48:ds.length<=60) (h11:8 < w.length) (hb:b i<=9000) {o:TR.Out} {s':TR.St} (hm:TR.mv ds s i=some (o,s')):∃ w' L',ZG [.ref 2,.int i] w=some (YZ i o,w')/\WB w' ds s' L'/\Fw CW w s L w' s' L':=by
  obtain ⟨hs,k6,hsl,hsi⟩:=A.hh
  obtain ⟨ys,k7,hyl⟩:=A.hn
  have tkl:=Y.tk
  have hw:=Ab hi
  generalize s.ws[i]=v at hw
  have hvi:=hsi i v hw
  unfold TR.mv at hm
  rw [hw] at hm
  dsimp only at hm
  cases he:v.O7 with
  | true =>
    rw [he,C0 rfl] at hm
    rw [Qai he] at hvi
    cases hd:ds[s.tk]? with
    | none =>
      rw [hd] at hm
      cases hm
      have le:ds.length<=s.tk:=by simpa using hd
      exact ⟨w,L,Qic A.hv A.hd k6 hvi rfl (by rw [Br];lia),A,Fw.refl⟩
    | some d =>
      rw [hd] at hm
      cases hm
      have lt:s.tk < ds.length:=(Ac.mp hd).1
      have e:=Qhv (h:=i) A.hv A.hd k6 (by lia) (d:=d) (by rw [Bt,hd];rfl)
      have l7:5 < w.length:=(Ac.mp k7).1
      have old:∀ {x:Nat} {z:OV},x≠2->x≠4->w[x]?=some z->(((w++[wkO 0 (w.length+1) (w.length+2) (TR.fresh d),.dic [],.lst []]).set 4 (.lst (hs.set i (.tup [.int s.tk,.ref w.length])))).set 2 (.ins "Weaver" (wvF (s.tk+1))))[x]?=some z:=fun {x z} n4 n6 hx=>gs (Ne.symm n4) (gs (Ne.symm n6) ((Ag (Ac.mp hx).1).trans hx))
      have gap:∀ j x,[wkO 0 (w.length+1) (w.length+2) (TR.fresh d),.dic [],.lst []][j]?=some x->(w++[wkO 0 (w.length+1) (w.length+2) (TR.fresh d),.dic [],.lst []])[w.length+j]?=some x:=fun j x h=>by rw [Ap (by lia),Nat.add_sub_cancel_left];exact h
      have lcs:=QcU (v':=TR.fresh d) hw
      rw [Cz (by rw [he];simp),C0 (show (TR.fresh d).O7=false from rfl)] at lcs
      refine ⟨_,fun j=>if j=i then w.length else L j,Qid A.hv A.hd k6 hvi rfl (by rw [Br];exact lt) e,⟨old (by decide) (by decide) A.h1,old (by decide) (by decide) A.h2,gss (gs (by decide) ((Ag (by lia)).trans A.hv)),old (by decide) (by decide) A.hd,⟨hs.set i (.tup [.int s.tk,.ref w.length]),gs (by decide) (gss ((Ag (by lia)).trans k6)),by simp [hsl],fun j u hj=>?_⟩,⟨ys,old (by decide) (by decide) k7,by show ys.length+TR.lc (s.ws.set i (TR.fresh d))<=s.tk+1;lia⟩,fun j u hj hu=>?_,fun j j' u u' hne hj hu hj' hu'=>?_⟩,⟨by simp,fun j u hj hu=>?_,fun x hx hC _=>?_⟩⟩
      . rcases TR.QT hj with ⟨rfl,e2,_⟩ | ⟨ne,hj⟩
        . rw [e2,As (by lia)]
          show _=some (hdD (TR.fresh d) ((s.ns.set j s.tk).getD j 0) (if j=j then w.length else L j))
          rw [C0 rfl,Qah rfl,Cg,As (by rw [Y.len];lia)];rfl
        . rw [Ak (Ne.symm ne)]
          show _=some (hdD u ((s.ns.set i s.tk).getD j 0) (if j=i then w.length else L j))
          rw [Cz ne,Cg,Ak (Ne.symm ne),<- Cg]
          exact hsi j u hj
      . rcases TR.QT hj with ⟨rfl,e2,_⟩ | ⟨ne,hj⟩
        . rw [e2,C0 rfl]
          exact ⟨gs (by lia) (gs (by lia) (gap 0 _ rfl)),gs (by lia) (gs (by lia) (gap 1 _ rfl)),gs (by lia) (gs (by lia) (gap 2 _ rfl)),h11⟩
        . rw [Cz ne]
          obtain ⟨o1,o2,o3,o4⟩:=A.ob j u hj hu
          exact ⟨old (by lia) (by lia) o1,old (by lia) (by lia) o2,old (by lia) (by lia) o3,o4⟩
      . have small:∀ (j:Nat) (u:TR.Wk),s.ws[j]?=some u->u.O7=false->L j+2 < w.length:=fun j u hj hu=>(Ac.mp (A.ob j u hj hu).2.2.1).1
        rcases TR.QT hj with ⟨rfl,e2,_⟩ | ⟨ne,hj2⟩
        . rcases TR.QT hj' with ⟨rfl,e3,_⟩ | ⟨ne',hj3⟩
          . exact absurd rfl hne
          . rw [C0 rfl,Cz ne'];exact .inr (small _ _ hj3 hu')
        . rcases TR.QT hj' with ⟨rfl,e3,_⟩ | ⟨ne',hj3⟩
          . rw [Cz ne,C0 rfl];exact .inl (small _ _ hj2 hu)
          . rw [Cz ne,Cz ne'];exact A.dj j j' u u' hne hj2 hu hj3 hu'
      . rcases TR.QT hj with ⟨rfl,e2,_⟩ | ⟨ne,hj⟩
        . rw [C0 rfl];exact .inr (Ae _)
        . rw [Cz ne];exact .inl ⟨u,hj,hu,rfl⟩
      . rw [QP _ _ _ _ (fun h=>hC (by unfold CW;lia)),QP _ _ _ _ (fun h=>hC (by unfold CW;lia)),Ag hx]
  | false =>
    rw [he,Cz (by simp)] at hm
    have W:=Y.A.ok i v hw he
    cases es:TR.JO s.S v with
    | none=>rw [es] at hm;cases hm
    | some q =>
      obtain ⟨r,S2,v2⟩:=q
      rw [es] at hm
      cases hm
      rw [Qah he] at hvi
      obtain ⟨o1,o2,o3,o4⟩:=A.ob i v hw he
      have D:Dif 0 1 (L i) (L i+1) (L i+2):=⟨by decide,by lia,by lia,by lia,by lia,by lia,by lia,by lia,by lia,by lia⟩
      have pg:=Y.pages
      have fl:=(Y.fk i v hw he).len Y.T
      have pl:=Y.pr i v hw he
      obtain ⟨w1,e1,A1,F1⟩:=Qfx Y.T W (Bi Y.rm (by decide)) ⟨A.h1,A.h2,o1,o2,o3⟩ D (by lia) (by lia) (by lia) es
      obtain ⟨x,xs,ex,xl⟩:=QdB es he Y.T W
      have k:∀ {j:Nat} {z:OV},j≠0->j≠1->(j < L i∨L i+2 < j)->w[j]?=some z->w1[j]?=some z:=fun {j z} n2 n3 nL hj=>(F1.2 j (Ac.mp hj).1 n2 n3 (by lia) (by lia) (by lia)).trans hj
      have hv1:=k (by decide) (by decide) (.inl (by lia)) A.hv
      have k61:=k (by decide) (by decide) (.inl (by lia)) k6
      have k71:=k (by decide) (by decide) (.inl (by lia)) k7
      let n:=s.ns.getD i 0
      let Hd:DV:=.tup [.int n,.ref (L i)]
      let E:Sl->Sl->Sl->En:=fun x y z=>[.val (.ref 2),.val (.int i),x,y,z]
      let E5:En:=E (.val Hd) (.val (.ref (L i))) (.val (GS r))
      have u1:QC 2 (Qk ixG (Qz "Weaver" "held" (Qb 0)) (Qb 1)) (E .un .un .un) w=some ((.nx,E (.val Hd) .un .un),w):=QR (Qi (QV (Qe rfl) A.hv (qU _)) (Qe rfl) (Vn k6 hvi))
      have u2:QC 3 (Qk ixG (Qb 2) (eC (.int 1))) (E (.val Hd) .un .un) w=some ((.nx,E (.val Hd) (.val (.ref (L i))) .un),w):=QR (Qi (x:=Hd) (Qe rfl) rfl (Q1 (i:=1) rfl w))
      have u3:QC 4 (QJ "Walk" "step" 1 YC (Qb 3) Qn) (E (.val Hd) (.val (.ref (L i))) .un) w=some ((.nx,E5),w1):=QR (Q7 (Qe rfl) o1 (QfF ..) zn rfl e1)
      have ovr:eB (QJ "Walk" "over" 1 XM (Qb 3) Qn) E5 w1=some (v2.O7,w1):=QU (Q7 (Qe rfl) A1.h3 (QfG ..) zn rfl (QeT A1.h3))
      have ret:∀ w':Hs,QF (Qk Jd (Zp (Qc (Qk ixG (Qb 4) (eC (.int 0))) (Qc (Qb 1) (Qc (Qk ixG (Qb 2) (eC (.int 0))) (Qn))))) (eSl (Qb 4) (ZO (eC (.int 1))) (ZN))) E5 w'=some ((.rt (QhZ i n (GS r)),E5),w'):=fun w'=>by
        have e0:Qb 4 E5 w'=some (.tup (x::xs),w'):=by rw [<- ex];exact Qe rfl
        refine Qy (Qi (Jc (X3 (Qi e0 rfl (Q1 (i:=0) rfl w')) (Qe rfl) (Qi (x:=Hd) (Qe rfl) rfl (Q1 (i:=0) rfl w'))) (by simp)) (QdW (a:=1) e0 rfl) ?_)
        rw [ex]
        show (Qx (zh ([x,.int i,.int n]++xs)) >>= fun _=>pure (DV.tup ([x,.int i,.int n]++xs))) w'=_
        rw [Yi (by simp;lia)];rfl
      have lcs:=QcU (v':=v2) hw
      rw [C0 he] at lcs
      have hil:i < hs.length:=by lia
      have back:∀ (w':Hs) (hs' ys':List DV),(∀ (j:Nat) (z:OV),j≠4->j≠5->w1[j]?=some z->w'[j]?=some z)->w1.length<=w'.length->(∀ j,j < w1.length->j≠4->j≠5->w'[j]?=w1[j]?)->w'[4]?=some (.lst hs')->hs'.length=hs.length->(∀ j,j≠i->hs'[j]?=hs[j]?)->hs'[i]?=some (hdD v2 n (L i))->w'[5]?=some (.lst ys')->ys'.length+TR.lc (s.ws.set i v2)<=s.tk->WB w' ds { s with S:=S2,ws:=s.ws.set i v2 } L/\Fw CW w s L w' { s with S:=S2,ws:=s.ws.set i v2 } L:=by
        intro w' hs' ys' gg ll fr g6 hl6 hj6 hi6 g7 hl7
        refine ⟨⟨gg 0 _ (by decide) (by decide) A1.h1,gg 1 _ (by decide) (by decide) A1.h2,gg 2 _ (by decide) (by decide) hv1,gg 3 _ (by decide) (by decide) (k (by decide) (by decide) (.inl (by lia)) A.hd),⟨hs',g6,by simp [hl6,hsl],fun j u hj=>?_⟩,⟨ys',g7,hl7⟩,fun j u hj hu=>?_,fun j j' u u' hne hj hu hj' hu'=>?_⟩,⟨Bi F1.1 ll,fun j u hj hu=>?_,fun y hy hC hL=>?_⟩⟩
        . rcases TR.QT hj with ⟨rfl,e2,_⟩ | ⟨ne,hj⟩
          . rw [e2];exact hi6
          . rw [hj6 j ne];exact hsi j u hj
        . rcases TR.QT hj with ⟨rfl,e2,_⟩ | ⟨ne,hj⟩
          . rw [e2];exact ⟨gg _ _ (by lia) (by lia) A1.h3,gg _ _ (by lia) (by lia) A1.h4,gg _ _ (by lia) (by lia) A1.h5,o4⟩
          . obtain ⟨p1,p2,p3,p4⟩:=A.ob j u hj hu
            have dd:=A.dj i j v u (Ne.symm ne) hw he hj hu
            exact ⟨gg _ _ (by lia) (by lia) (k (by lia) (by lia) (by lia) p1),gg _ _ (by lia) (by lia) (k (by lia) (by lia) (by lia) p2),gg _ _ (by lia) (by lia) (k (by lia) (by lia) (by lia) p3),p4⟩
        . have lv:∀ (j:Nat) (u:TR.Wk),(s.ws.set i v2)[j]?=some u->u.O7=false->∃ u0,s.ws[j]?=some u0/\u0.O7=false:=fun j u hj hu=>by
            rcases TR.QT hj with ⟨rfl,e2,_⟩ | ⟨ne,hj⟩
            . exact ⟨v,hw,he⟩
            . exact ⟨u,hj,hu⟩
          obtain ⟨u0,a1,a2⟩:=lv j u hj hu
          obtain ⟨u1,a3,a4⟩:=lv j' u' hj' hu'
          exact A.dj j j' u0 u1 hne a1 a2 a3 a4
        . rcases TR.QT hj with ⟨rfl,e2,_⟩ | ⟨ne,hj⟩
          . exact .inl ⟨v,hw,he,rfl⟩
          . exact .inl ⟨u,hj,hu,rfl⟩
        . have q:=hL i v hw he
          have l1:=F1.1
          rw [fr y (by lia) (fun h=>hC (by unfold CW;lia)) (fun h=>hC (by unfold CW;lia))]
          exact F1.2 y hy (fun h=>hC (by unfold CW;lia)) (fun h=>hC (by unfold CW;lia)) (by lia) (by lia) (by lia)
      cases hv2:v2.O7 with
      | false =>
        rw [hv2] at ovr
        rw [C0 hv2] at lcs
        obtain ⟨b1,b2⟩:=back w1 hs ys (fun _ _ _ _ h=>h) (Ae _) (fun _ _ _ _=>rfl) k61 rfl (fun _ _=>rfl) (by rw [Qah hv2];exact hvi) k71 (by lia)
        exact ⟨w1,L,QfU A.hv k6 hvi rfl (Qv (env:=E5) ((Qj u1).trans ((Qj u2).trans ((Qj u3).trans ((Qj ((QG ovr).trans QH)).trans (ret w1)))))),b1,b2⟩
      | true =>
        rw [hv2] at ovr
        rw [Cz (by rw [hv2];simp)] at lcs
        let w2:Hs:=w1.set 4 (.lst (hs.set i .non))
        have hv2':w2[2]?=some (.ins "Weaver" (wvF s.tk)):=gs (by decide) hv1
        have k72:w2[5]?=some (.lst ys):=gs (by decide) k71
        let w3:Hs:=w2.set 5 (.lst (ys++[Hd]))
        have u4:sIf (eB (QJ "Walk" "over" 1 XM (Qb 3) Qn)) (Qr (Xw (eC .non) (gSb (Qz "Weaver" "held" (Qb 0)) (Qb 1))) (ZP (Z1 "list" ZD (Qz "Weaver" "done" (Qb 0)) (Qc (Qb 2) (Qn))))) (Q6) E5 w1=some ((.nx,E5),w3):=(Zl ovr).trans ((Qj (env1:=E5) (hp1:=w2) (QaC rfl (QV (Qe rfl) hv1 (qU _)) k61 (Qe rfl) hil)).trans (JN (xU (QV (Qe rfl) hv2' (QfH _)) k72 (Qe rfl) (by lia))))
        obtain ⟨b1,b2⟩:=back w3 (hs.set i .non) (ys++[Hd]) (fun j z n6 n7 h=>gs (Ne.symm n7) (gs (Ne.symm n6) h)) (by show w1.length<=((w1.set 4 _).set 5 _).length;simp) (fun j _ n6 n7=>(QP _ _ _ _ (Ne.symm n7)).trans (QP _ _ _ _ (Ne.symm n6))) (gs (by decide) (gss k61)) (by simp) (fun j hj=>Ak (Ne.symm hj)) (by rw [Qai hv2];exact As hil) (gss k72) (by simp;lia)
        exact ⟨w3,L,QfU A.hv k6 hvi rfl (Qv (env:=E5) ((Qj u1).trans ((Qj u2).trans ((Qj u3).trans ((Qj u4).trans (ret w3)))))),b1,b2⟩
end
theorem Qeh {o e:DEx} {hp hp1:Hs} {a:Nat} {cs ds:List DV} (ho:o env hp=some (.ref a,hp)) (h0:hp[a]?=some (.lst cs)) (he:e env hp=some (d,hp1)) (h:hp1[a]?=some (.lst ds)) (hl:ds.length < 100000):Z1 "list" ZD o (Qc e Qn) env hp=some (.non,hp1.set a (.lst (ds++[d]))):=by
 unfold Z1
 rw [Qf ho]
 have e2:Xr "list" (.ref a) hp=some ((),hp):=by
  show (ZI a >>= _) hp=_
  rw [Qf (Zi h0)];rfl
 rw [Qf e2,Qf (Zq he)]
 show (ZI a >>= _) hp1=_
 rw [Qf (Zi h)]
 show (Qx (decide (ds.length < lim)) >>= _) hp1=_
 rw [C4 (by unfold lim;exact hl)];rfl
theorem Qeg {hs:List DV} {ws:List TR.Wk} (hl:hs.length=ws.length) (h:∀ (i:Nat) (v:TR.Wk),ws[i]?=some v->∃ d,hs[i]?=some d/\isN d=v.O7):hs.all isN=ws.all (·.O7):=by
 rw [Bool.eq_iff_iff,List.all_eq_true,List.all_eq_true]
 constructor
 ·intro a v hv
  obtain ⟨i,hi⟩:=List.getElem?_of_mem hv
  obtain ⟨d,h1,h2⟩:=h i v hi
  rw [<- h2];exact a d (Aw h1)
 ·intro a d hd
  obtain ⟨i,hi⟩:=List.getElem?_of_mem hd
  have li:=(Ac.mp hi).1
  have hv:ws[i]?=some ws[i]:=Ab (by lia)
  obtain ⟨d',h1,h2⟩:=h i _ hv
  rw [hi] at h1;cases h1
  rw [h2];exact a _ (Aw hv)
section
variable {w w1 w2:Hs} {s s1 s2:TR.St} {L L1 L2:Nat->Nat} {ds:List TR.Deed} {bg:TR.Bg} {b:Nat->Nat}
theorem QfS (A:WB w ds s L) (hl:s.ws.length < 1000):J0 [.ref 2] w=some (.bl (TR.still ds s),w):=by
 obtain ⟨hs,k6,hsl,hsi⟩:=A.hh
 rw [Qgp A.hv A.hd k6 (by lia),Qeg hsl fun i v hi=>⟨_,hsi i v hi,by
  cases he:v.O7 with
  | true=>rw [Qai he];rfl
  | false=>rw [Qah he];rfl⟩]
 congr 2
 unfold TR.still
 rw [Br]
 congr 1
 have:((s.tk:Int)==(ds.length:Int))=decide (s.tk=ds.length):=by
  by_cases e:s.tk=ds.length
  ·rw [e];simp
  ·rw [C6 e,beq_eq_false_iff_ne];lia
 rw [this]
def KO (H:Nat):Nat->List TR.Out->List DV
 | _,[]=>[]
 | h,o::os=>YZ h o::KO H ((h+1) % H) os
theorem Qcv {H f:Nat} (h60:ds.length<=60) (hf:8 < f) (hH0:0 < H) (hH8:H<=8) {h:Nat} {os:List TR.Out} (R:TR.Run ds H 9000 h s os s2):∀ (w:Hs) (L:Nat->Nat) (rs:List DV) (fuel:Nat),TR.still ds s2=true->s.ws.length=H->WB w ds s L->w[f]?=some (.lst rs)->(∀ (i:Nat) (v:TR.Wk),s.ws[i]?=some v->v.O7=false->f < L i∨L i+2 < f)->rs.length+os.length < 90000->os.length < fuel ->
    ∃ w' L' h',X2 (Jx (eB (QJ "Weaver" "idle" 1 J0 (Qb 0) Qn))) (YI) fuel [.val (.ref 2),.val (.ref f),.val (.int h)] w=some ((.nx,[.val (.ref 2),.val (.ref f),.val (.int h')]),w')/\WB w' ds s2 L'/\w'[f]?=some (.lst (rs++KO H h os))/\Fw (fun x=>CW x∨x=f) w s L w' s2 L':=by
  induction R with
  | nil h s =>
    intro w L rs fuel hs hl A gf hL hn hu
    obtain ⟨g,rfl⟩:∃ g,fuel=g+1:=⟨fuel - 1,by lia⟩
    refine ⟨w,L,h,QfB (Xp (b:=true) (QU ((Q7 (Qe rfl) A.hv (Qf3 _) zn rfl (QfS A (by lia))).trans (by rw [hs])))),A,by show _=some (OV.lst (rs++[]));rw [Bs];exact gf,Fw.refl⟩
  | @cons h s s1 s2 o os hs0 hlt yy em R ih =>
    intro w L rs fuel hs hl A gf hL hn hu
    obtain ⟨g,rfl⟩:∃ g,fuel=g+1:=⟨fuel - 1,by lia⟩
    obtain ⟨bg,b,Y,hb⟩:=yy
    have lf:f < w.length:=(Ac.mp gf).1
    obtain ⟨w1,L1,e1,A1,F1⟩:=Qc4 A Y hlt h60 (by lia) (hb h) em
    have gf1:w1[f]?=some (.lst rs):=(F1.old f lf (by unfold CW;lia) hL).trans gf
    obtain ⟨_,s1',_,em',_,l1,_⟩:=TR.Qc7 Y hlt
    rw [em] at em';cases em'
    obtain ⟨hs6,k6,hsl,_⟩:=A1.hh
    simp only [A9] at hn hu
    let w2:Hs:=w1.set f (.lst (rs++[YZ h o]))
    have gg:∀ {j:Nat} {z:OV},j≠f->w1[j]?=some z->w2[j]?=some z:=fun {j z} n hj=>gs (Ne.symm n) hj
    have hL1:∀ (i:Nat) (v:TR.Wk),s1.ws[i]?=some v->v.O7=false->f < L1 i∨L1 i+2 < f:=fun i v hi hv=>by
      rcases F1.own i v hi hv with ⟨u,a1,a2,a3⟩ | q
      . rw [a3];exact hL i u a1 a2
      . exact .inl (by lia)
    have A2:WB w2 ds s1 L1:=⟨gg (by lia) A1.h1,gg (by lia) A1.h2,gg (by lia) A1.hv,gg (by lia) A1.hd,(by obtain ⟨a,b1,c1⟩:=A1.hh;exact ⟨a,gg (by lia) b1,c1⟩),(by obtain ⟨a,b1,c1⟩:=A1.hn;exact ⟨a,gg (by lia) b1,c1⟩),fun i v hi hv=>by
      obtain ⟨p1,p2,p3,p4⟩:=A1.ob i v hi hv
      have q:=hL1 i v hi hv
      exact ⟨gg (by lia) p1,gg (by lia) p2,gg (by lia) p3,p4⟩,A1.dj⟩
    let E:En:=[.val (.ref 2),.val (.ref f),.val (.int h)]
    have u1:ZP (Z1 "list" ZD (Qb 1) (Qc (QJ "Weaver" "move" 2 ZG (Qb 0) (Qc (Qb 2) (Qn))) (Qn))) E w=some ((.nx,E),w2):=JN (Qeh (Qe rfl) gf (Q7 (Qe rfl) A.hv (Qf2 _) (Zq (Qe rfl)) rfl e1) gf1 (by lia))
    have md:(((h:Int)+1) % ((H:Nat):Int))=(((h+1) % H:Nat):Int):=by rw [Int.natCast_emod,Int.natCast_add];rfl
    have u2:QC 2 (Qk XS (Qk Jd (Qb 2) (eC (.int 1))) (Zx Jy (Qc (Qz "Weaver" "held" (Qb 0)) (Qn)))) E w2=some ((.nx,[.val (.ref 2),.val (.ref f),.val (.int ((h+1) % H:Nat))]),w2):=QR (Qi (x:=.int ((h:Int)+1)) (y:=.int (H:Nat)) (Qi (Qe rfl) rfl rfl) ((je (QV (Qe rfl) A2.hv (qU _)) (gg (by lia) k6)).trans (by rw [hsl,l1,hl])) ((ZB (Jt _ _ (by lia)) w2).trans (by rw [md])))
    obtain ⟨w3,L3,h3,e3,A3,g3,F3⟩:=ih w2 L1 (rs++[YZ h o]) g hs (by rw [l1];exact hl) A2 (gss gf1) hL1 (by simp;lia) (by lia)
    refine ⟨w3,L3,h3,(QfC (Xp (b:=false) (QU ((Q7 (Qe rfl) A.hv (Qf3 _) zn rfl (QfS A (by lia))).trans (by rw [hs0])))) ((Qj u1).trans u2)).trans e3,A3,by rw [g3,A7];rfl,?_⟩
    . refine Fw.trans (w1:=w2) (s1:=s1) (L1:=L1) ⟨by show w.length<=(w1.set f _).length;rw [List.length_set];exact F1.len,F1.own,fun x hx hC hx2=>?_⟩ F3
      show (w1.set f _)[x]?=_
      rw [QP _ _ _ _ (fun e=>hC (.inr e.symm))]
      exact F1.old x hx (fun c=>hC (.inl c)) hx2
end
abbrev Zs:=List (Int×Int)
def zK (z:Zs):List Int:=z.map (·.1)
def zE (z:Zs):List (Key×DV):=z.map fun p=>(.inl p.1,.int p.2)
def Rise (z:Zs):Prop:=z.Pairwise fun p q=>p.1 < q.1
def Qbu (z:Zs) (k:Int):Zs:=z.filter fun p=>decide (p.1 < k)
def QbR (z:Zs) (k:Int):Zs:=z.filter fun p=>decide (k < p.1)
def GT (z:Zs) (k:Int) (n:Zs):Zs:=Qbu z k++n++QbR z k
def Rise.keys (h:Rise z):(zK z).Pairwise (· < ·):=List.pairwise_map.mpr h
theorem Qas {z:Zs} {k:Int} {p:Int×Int} (h:p∈Qbu z k):p∈z/\p.1 < k:=by
 have:=Bm.mp h;exact ⟨this.1,by simpa using this.2⟩
theorem QeI {z:Zs} {k:Int} {p:Int×Int} (h:p∈QbR z k):p∈z/\k < p.1:=by
 have:=Bm.mp h;exact ⟨this.1,by simpa using this.2⟩
theorem uj (h:Rise z) (k:Int) (hn:Rise n) (hk:∀ p∈n,p.1=k):Rise (GT z k n):=by
 refine List.pairwise_append.mpr ⟨List.pairwise_append.mpr ⟨List.Pairwise.filter _ h,hn,fun a ha b hb=>?_⟩,List.Pairwise.filter _ h,fun a ha b hb=>?_⟩
 ·have:=(Qas ha).2;have:=hk b hb;lia
 ·have q:=(QeI hb).2
  rcases Ah.mp ha with w | w
  ·have:=(Qas w).2;lia
  ·have:=hk a w;lia
theorem gO (z:Zs) (k:Int):(z.filter fun p=>decide (p.1≠k)).Perm (Qbu z k++QbR z k):=by
 have e:=List.filter_append_perm (fun p:Int×Int=>decide (p.1 < k)) (z.filter fun p=>decide (p.1≠k))
 rw [List.filter_filter,List.filter_filter] at e
 have a:(z.filter fun p=>decide (p.1 < k)&&decide (p.1≠k))=Qbu z k:=List.filter_congr fun p _=>by
  rw [<- Bool.decide_and,decide_eq_decide];lia
 have b:(z.filter fun p=>(!decide (p.1 < k))&&decide (p.1≠k))=QbR z k:=List.filter_congr fun p _=>by
  rw [<- decide_not,<- Bool.decide_and,decide_eq_decide];lia
 rw [a,b] at e
 exact e.symm
def Dz (kvs:List (Key×DV)) (z:Zs):Prop:=kvs.Perm (zE z)
theorem Dz.len {kvs:List (Key×DV)} {z:Zs} (d:Dz kvs z):kvs.length=z.length:=by have:=d.length_eq;simpa [zE] using this
theorem Dz.nodup {kvs:List (Key×DV)} (d:Dz kvs z) (h:Rise z):(kvs.map (·.1)).Nodup:=by
 refine (d.map (·.1)).nodup_iff.mpr ?_
 unfold zE
 rw [List.map_map]
 refine List.pairwise_map.mpr (h.imp fun q e=>?_)
 have:=Sum.inl.inj e
 lia
theorem Dz.drop (d:Dz kvs z) (k:Int):Dz (J1 kvs (.inl k)) (GT z k []):=by
 have e:(zE z).filter (fun kv=>decide (kv.1≠(Sum.inl k:Key)))=zE (z.filter fun p=>decide (p.1≠k)):=by
  unfold zE
  rw [List.filter_map]
  congr 1
  apply List.filter_congr
  intro p _
  show decide ((Sum.inl p.1:Key)≠Sum.inl k)=decide (p.1≠k)
  rw [decide_eq_decide]
  exact ⟨fun h q=>h (by rw [q]),fun h q=>h (Sum.inl.inj q)⟩
 have p:=(List.Perm.filter (fun kv:Key×DV=>decide (kv.1≠(Sum.inl k:Key))) d)
 rw [e] at p
 unfold Dz J1 GT
 rw [Bs]
 exact p.trans ((gO z k).map _)
theorem QbI:∀ {kvs:List (Key×DV)},(kvs.map (·.1)).Nodup->(Y5 kvs k d).Perm ((k,d)::J1 kvs k):=by
  intro kvs h
  unfold Y5
  by_cases q:(kvs.any fun kv=>decide (kv.1=k))=true
  . rw [C0 q]
    induction kvs with
    | nil=>simp at q
    | cons p r ih =>
      obtain ⟨h1,h2⟩:=Ck.mp h
      by_cases e:p.1=k
      . have hr:∀ x∈r,x.1≠k:=fun x hx y=>h1 (by show p.1∈_;rw [e,<- y];exact List.mem_map_of_mem hx)
        have a:r.map (fun kv=>if kv.1=k then (kv.1,d) else kv)=r:=by
          conv=>rhs;rw [<- List.map_id r]
          exact List.map_congr_left fun x hx=>by rw [Cz (hr x hx)];rfl
        have b:J1 (p::r) k=r:=by
          unfold J1
          rw [List.filter_cons_of_neg (by simp [e]),Cj]
          intro x hx;simpa using hr x hx
        rw [Ba,C0 e,a,b,e]
      . have q':(r.any fun kv=>decide (kv.1=k))=true:=by simpa [e] using q
        have b:J1 (p::r) k=p::J1 r k:=by
          unfold J1
          rw [List.filter_cons_of_pos (by simpa using e)]
        rw [Ba,Cz e,b]
        exact ((ih h2 q').cons p).trans (List.Perm.swap _ _ _)
  . rw [Cz q]
    have b:J1 kvs k=kvs:=by
      unfold J1
      rw [Cj]
      intro x hx
      have:¬ x.1=k:=fun e=>q (List.any_eq_true.mpr ⟨x,hx,by simpa using e⟩)
      simpa using this
    rw [b]
    exact List.perm_append_singleton _ _
theorem Dz.put (d:Dz kvs z) (h:Rise z) (k w:Int):Dz (Y5 kvs (.inl k) (.int w)) (GT z k [(k,w)]):=by
 refine (QbI (d.nodup h)).trans ?_
 have e:=(d.drop k).cons ((Sum.inl k:Key),DV.int w)
 refine e.trans ?_
 unfold GT zE
 rw [Bs]
 rw [A7]
 exact (List.perm_middle (a:=(k,w)) (l₁:=Qbu z k) (l₂:=QbR z k)).symm.map (fun p=>((Sum.inl p.1:Key),DV.int p.2))
theorem uG:∀ {kvs:List (Key×DV)},(kvs.map (·.1)).Nodup->(k,d)∈kvs->Z3 kvs k=some d
  | [],_,h=>by cases h
  | p::r,hn,h=>by
    obtain ⟨h1,h2⟩:=Ck.mp hn
    rw [Xd]
    rcases Bj.mp h with e | e
    . rw [<- e,C0 rfl]
    . rw [Cz,uG h2 e]
      intro q
      exact h1 (by show p.1∈_;rw [q];exact List.mem_map_of_mem (f:=(·.1)) e)
theorem Dz.val (d:Dz kvs z) (h:Rise z) {k w:Int} (hm:(k,w)∈z):Z3 kvs (.inl k)=some (.int w) :=
 uG (d.nodup h) (d.mem_iff.mpr (List.mem_map_of_mem (f:=fun p:Int×Int=>((Sum.inl p.1:Key),DV.int p.2)) hm))
def kI:Key->Int
 | .inl i=>i
 | .inr _=>0
theorem KE:∀ {kvs:List (Key×DV)},(∀ p∈kvs,∃ i,p.1=.inl i)->xo kvs=some (kvs.map fun p=>kI p.1)
  | [],_=>rfl
  | (k,d)::r,h=>by
    obtain ⟨i,e⟩:=h (k,d) (List.mem_cons_self ..)
    cases e
    show (xo r).map (i :: ·)=_
    rw [KE fun p hp=>h p (Ax _ hp)];rfl
theorem Dz.keys (d:Dz kvs z) (h:Rise z):∃ ns,xo kvs=some ns/\srt ns=zK z:=by
 refine ⟨_,KE fun p hp=>?_,(Uz ?_ (h.keys.imp fun q=>Int.le_of_lt q)).symm⟩
 ·obtain ⟨q,_,rfl⟩:=Cv.mp (d.mem_iff.mp hp)
  exact ⟨q.1,rfl⟩
 ·have e:=(d.map fun p=>kI p.1).symm
  have a:(zE z).map (fun p=>kI p.1)=zK z:=by
   unfold zE zK
   rw [List.map_map];rfl
  rwa [a] at e
theorem Qam {n:Nat} {hp:Hs} {k:Int} (h:hp[n]?=some (.dic kvs)) (hd:Z3 kvs (.inl k)=some d):ixG (.ref n) (.int k) hp=some (d,hp):=by
 show (ZI n >>= _) hp=_
 rw [Qf (Zi h)]
 show (Xq (.int k) >>= fun k=>zN (Z3 kvs k)) hp=_
 rw [show Xq (.int k)=pure (.inl k) from rfl,C7,hd];rfl
theorem Qhb {n:Nat} {hp:Hs} {k:Int} {f g:DEx} (hn:hp[n]?=some (.dic kvs)) (hf:f env hp=some (.ref n,hp)) (hg:g env hp=some (.int k,hp)) (hd:Z3 kvs (.inl k)=some d):Z1 "dict" YJ f (Qc g Qn) env hp=some (d,hp.set n (.dic (J1 kvs (.inl k)))):=by
 unfold Z1
 rw [Qf hf]
 have e:Xr "dict" (.ref n) hp=some ((),hp):=by
  show (ZI n >>= _) hp=_
  rw [Qf (Zi hn)];rfl
 rw [Qf e,Qf (vi hg rfl)]
 show (ZI n >>= _) hp=_
 rw [Qf (Zi hn)]
 show (Xq (.int k) >>= _) hp=_
 rw [show Xq (.int k)=pure (.inl k) from rfl,C7,hd]
 rfl
def QiC (k w:Int):Rise [(k,w)]:=List.pairwise_singleton _ _
structure Tb (kvs:List (Key×DV)) (z:Zs) (F:Eg):Prop where
 d:Dz kvs z
 rise:Rise z
 fn:∀ k v,F k=some v↔(k,v)∈z
theorem QaI {k:Int} {p:Int×Int}:p∈GT z k n↔(p.1≠k/\p∈z)∨p∈n:=by
 unfold GT Qbu QbR
 rw [Ah,Ah,Bm,Bm]
 simp only [decide_eq_true_eq]
 constructor
 ·rintro ((⟨a,b⟩ | a) | ⟨a,b⟩)
  ·exact .inl ⟨by lia,a⟩
  ·exact .inr a
  ·exact .inl ⟨by lia,a⟩
 ·rintro (⟨a,b⟩ | a)
  ·rcases (by lia:p.1 < k∨k < p.1) with c | c
   ·exact .inl (.inl ⟨b,c⟩)
   ·exact .inr ⟨b,c⟩
  ·exact .inl (.inr a)
section
variable {kvs:List (Key×DV)} {z:Zs} {F:Eg}
theorem Tb.put (t:Tb kvs z F) (k x:Int):Tb (Y5 kvs (.inl k) (.int x)) (GT z k [(k,x)]) (TR.uD F k x):=by
 refine ⟨t.d.put t.rise k x,uj t.rise k (QiC k x) (fun p hp=>by rw [Aq.mp hp]),fun j v=>?_⟩
 rw [QaI]
 unfold TR.uD
 by_cases e:j=k
 ·rw [C0 e]
  subst e
  simp only [Option.some.injEq,ne_eq,not_true_eq_false,false_and,false_or,Aq,Bp,true_and]
  exact eq_comm
 ·rw [Cz e,t.fn]
  simp [e]
theorem Tb.cut (t:Tb kvs z F) (k:Int):Tb (J1 kvs (.inl k)) (GT z k []) (TR.Kk F k):=by
 refine ⟨t.d.drop k,uj t.rise k List.Pairwise.nil (fun p hp=>by cases hp),fun j v=>?_⟩
 rw [QaI]
 unfold TR.Kk
 by_cases e:j=k
 ·rw [C0 e]
  subst e
  simp
 ·rw [Cz e,t.fn]
  simp [e]
theorem Tb.val (t:Tb kvs z F) (k:Int):Z3 kvs (.inl k)=(F k).map .int:=by
  cases e:F k with
  | some v=>exact t.d.val t.rise ((t.fn k v).mp e)
  | none =>
    cases hv:Z3 kvs (.inl k) with
    | none=>rfl
    | some d =>
      exfalso
      unfold Z3 at hv
      obtain ⟨kv,h1,h2⟩:=Cb.mp hv
      have m:=List.mem_of_find?_eq_some h1
      have q:kv.1=(Sum.inl k:Key):=by
        have:=List.find?_some h1
        exact C5 this
      have m':=(List.Perm.mem_iff t.d).mp m
      obtain ⟨p,hp,rfl⟩:=Cv.mp m'
      have q:(Sum.inl p.1:Key)=Sum.inl k:=q
      injection q with q
      subst q
      have:=(t.fn p.1 p.2).mpr hp
      rw [e] at this;cases this
end
theorem vw {t:DV->M Bool} {f:DV->M DV} (z:Zs) (p:Int×Int->Bool) (ht:∀ q∈z,t (.int q.1) hp=some (p q,hp)) (hf:∀ q∈z,f (.int q.1) hp=some (.tup [.int q.1,.int q.2],hp)) (hl:z.length < 100000):Z8 (nxD ((zK z).map .int)) t f 100000 0 hp=some (prD (z.filter p),hp):=by
  have zl:((zK z).map DV.int).length=z.length:=by simp [zK]
  have zg:∀ i,((zK z).map DV.int)[i]?=(z[i]?).map fun q:Int×Int=>DV.int q.1:=fun i=>by unfold zK;rw [List.map_map,Bt];rfl
  suffices h:∀ (m i n:Nat),m+i=z.length->m < n->Z8 (nxD ((zK z).map .int)) t f n i hp=some (prD ((z.drop i).filter p),hp) by simpa using h z.length 0 100000 rfl hl
  intro m
  induction m with
  | zero =>
    intro i n e hn'
    obtain ⟨n,rfl⟩:∃ k,n=k+1:=⟨n - 1,by lia⟩
    have:i=z.length:=by lia
    subst this
    have e1:=XD ((zK z).map .int) z.length (by lia) hp
    rw [zg,show z[z.length]?=none by simp] at e1
    rw [Z8,Qf e1,Cr]
    rfl
  | succ m ih =>
    intro i n e hn'
    obtain ⟨n,rfl⟩:∃ k,n=k+1:=⟨n - 1,by lia⟩
    have hlt:i < z.length:=by lia
    have e1:=XD ((zK z).map .int) i (by lia) hp
    rw [zg,Ab hlt] at e1
    have r:=ih (i+1) n (by lia) (by lia)
    rw [Z8,Qf e1]
    show (t (.int z[i].1) >>= _) hp=_
    rw [Qf (ht _ (B0 hlt)),Bh hlt,Ar]
    cases hp':p z[i] with
    | false =>
      rw [Cz (by simp)]
      exact r
    | true =>
      rw [C0 rfl,C0 rfl]
      show (f (.int z[i].1) >>= _) hp=_
      rw [Qf (hf _ (B0 hlt)),Qf r];rfl
theorem Qg9 (rows:Ec):∀ d∈prD rows,Pl 1 d:=fun d hd=>by
 obtain ⟨p,_,rfl⟩:=Cv.mp hd
 exact fun x hx=>by simp only [Bj,Ca,or_false] at hx;rcases hx with rfl | rfl<;>exact Qg8 _ _
theorem Qcl {z:Zs} {F:Eg} (t:Tb kvs z F) {a e:Int} {ps:Ec} (R:TR.Rds F a e ps):z.filter (fun q=>decide (a<=q.1)&&decide (q.1 < e))=ps:=by
 refine TR.qQ (List.Pairwise.filter _ t.rise) R.1 fun x=>?_
 rw [Bm]
 have:=R.2 x.1 x.2
 rw [show (x.1,x.2)=x from rfl] at this
 rw [this,t.fn]
 simp
def Av (av:List (Key×DV)) (M:Nat->Option Int):Prop:=∀ n:Nat,Z3 av (.inl (n:Int))=(M n).map .int
abbrev dW:OV:=.dic [(.inr "found", .str "find"),(.inr "read", .str "stretch")]
def eF (x:DV) (z4 z5 z6 z7:Sl):En:=[.val x,.val (.ref 6),.val (.ref 7),.val (.ref 8),z4,z5,z6,z7]
section
variable {w:Hs} {kvs av:List (Key×DV)} {z:Zs} {F F':Eg} {M M':Nat->Option Int} {ds:List TR.Deed}
theorem uy {z:Zs} (d:Dz kvs z) (h:Rise z) (hz:z.length < 64) {f:DEx} {n:Nat} {hp:Hs} (hf:f env hp=some (.ref n,hp)) (hn:hp[n]?=some (.dic kvs)):Zx yT (Qc f Qn) env hp=some (.lst ((zK z).map .int),hp):=by
 obtain ⟨ns,e1,e2⟩:=d.keys h
 have ln:ns.length=z.length:=by
  have:=congrArg List.length e2
  rw [(Uy ns).length_eq] at this
  rw [this];unfold zK;rw [Br]
 have a:Qc f Qn env hp=some ([.ref n],hp):=vi hf rfl
 unfold Zx
 rw [Qf a]
 show (QcK (.ref n) >>= fun ns=>Qx (decide (ns.length < 64)) >>= fun _=>pure (DV.lst ((srt ns).map .int))) hp=_
 have b:QcK (.ref n) hp=some (ns,hp):=by
  show (ZI n >>= _) hp=_
  rw [Qf (Zi hn)]
  show gK (xo kvs) hp=_
  rw [e1];rfl
 have gd:Qx (decide (ns.length < 64)) hp=some ((),hp):=by rw [C4 (by lia)];rfl
 rw [Qf b,Qf gd,e2];rfl
theorem vD {o g e:DEx} {hp hp1:Hs} {a:Nat} (ho:o env hp=some (.ref a,hp1)) (h:hp1[a]?=some (.dic kvs)) (hg:g env hp1=some (y,hp1)) (hk:Xq y=pure k) (he:e env hp1=some (d,hp1)):Z1 "dict" JD o (Qc g (Qc e Qn)) env hp=some ((Z3 kvs k).getD d,hp1):=by
 unfold Z1
 rw [Qf ho]
 have e2:Xr "dict" (.ref a) hp1=some ((),hp1):=by
  show (ZI a >>= _) hp1=_
  rw [Qf (Zi h)];rfl
 rw [Qf e2,Qf (ZM hg he)]
 show (ZI a >>= _) hp1=_
 rw [Qf (Zi h)]
 show (Xq y >>= _) hp1=_
 rw [hk,C7];rfl
theorem Qch {o g:DEx} {hp:Hs} {a:Nat} {j:Int} (ho:o env hp=some (.ref a,hp)) (h:hp[a]?=some (.dic kvs)) (hg:g env hp=some (.int j,hp)):Z1 "dict" JD o (Qc g Qn) env hp=some ((Z3 kvs (.inl j)).getD .non,hp):=by
 unfold Z1
 rw [Qf ho]
 have e2:Xr "dict" (.ref a) hp=some ((),hp):=by
  show (ZI a >>= _) hp=_
  rw [Qf (Zi h)];rfl
 rw [Qf e2,Qf (Zq hg)]
 show (ZI a >>= _) hp=_
 rw [Qf (Zi h)];rfl
theorem Qiv {e g:DEx} {env:En} {a v:Nat} {k:Int} {kvs:List (Key×DV)} (he:e env w=some (d,w)) (hv:env[v]?=some (.val (.ref a))) (hg:g env w=some (.int k,w)) (h7:w[a]?=some (.dic kvs)) (hl:kvs.length < 100000):Xw e (gSb (Qb v) g) env w=some ((.nx,env),w.set a (.dic (Y5 kvs (.inl k) d))):=by
 refine GU he ?_
 unfold gSb
 rw [Qf (Qe hv),Qf hg,Qf (ud (d:=d) h7 (show zq (.int k)=some (.inl k) from rfl) hl)];rfl
theorem Ys {x y:Str} {xs:List DV} {n:Nat} {d:TR.Deed} (rest:DSx) (h6:w[6]?=some (.lst (ds.map QS))) (hn:xs[1]?=some (.int (n:Nat))) (hd:ds[n]?=some d) (hm:gH (.str x) (.tup [.str "found", .str "put", .str "cut", .str "read"]) w=some (.bl false,w)) (hy:(Z3 [(.inr "found", .str "find"),(.inr "read", .str "stretch")] (.inr x)).getD (.str x)=.str y) (hx:Xq (.str x)=pure (.inr x)) (hdw:yB d=y) (ok:PyData.strOk y=true):
  Qr (QC 4 (Qk ixG (Qb 0) (eC (.int 0)))) (Qr (sIf (eB (Qk gH (Qb 4) (Zp (Qc (eC (.str "found")) (Qc (eC (.str "put")) (Qc (eC (.str "cut")) (Qc (eC (.str "read")) (Qn)))))))) (QF (eC (.bl true))) (Q6)) (Qr (QC 5 (Qk ixG (Qb 1) (Qk ixG (Qb 0) (eC (.int 2))))) (Qr (sIf (eB (Qk neG (Qk ixG (Qb 5) (eC (.int 0))) (Z1 "dict" JD (YF [(eC (.str "found"),eC (.str "find")),(eC (.str "read"),eC (.str "stretch"))]) (Qc (Qb 4) (Qc (Qb 4) (Qn)))))) (QF (eC (.bl false))) (Q6)) rest))) (eF (.tup (.str x::xs)) .un .un .un .un) w=rest (eF (.tup (.str x::xs)) (.val (.str x)) (.val (QS d)) .un .un) (w++[dW]):=by
 let R:DV:=.tup (.str x::xs)
 have r0:Qk ixG (Qb 0) (eC (.int 0)) (eF R .un .un .un .un) w=some (.str x,w):=Qi (x:=R) (Qe rfl) rfl (Q1 (i:=0) rfl w)
 have s1:QC 4 (Qk ixG (Qb 0) (eC (.int 0))) (eF R .un .un .un .un) w=some ((.nx,eF R (.val (.str x)) .un .un .un),w):=QR r0
 have s2:sIf (eB (Qk gH (Qb 4) (Zp (Qc (eC (.str "found")) (Qc (eC (.str "put")) (Qc (eC (.str "cut")) (Qc (eC (.str "read")) (Qn)))))))) (QF (eC (.bl true))) (Q6) (eF R (.val (.str x)) .un .un .un) w=some ((.nx,eF R (.val (.str x)) .un .un .un),w):=(QG (QU (Qi (Qe rfl) rfl hm))).trans QH
 have r2:Qk ixG (Qb 0) (eC (.int 2)) (eF R (.val (.str x)) .un .un .un) w=some (.int (n:Nat),w):=Qi (x:=R) (Qe rfl) rfl (Q1 (i:=2) hn w)
 have s3:QC 5 (Qk ixG (Qb 1) (Qk ixG (Qb 0) (eC (.int 2)))) (eF R (.val (.str x)) .un .un .un) w=some ((.nx,eF R (.val (.str x)) (.val (QS d)) .un .un),w):=QR (Qi (Qe rfl) r2 (Vn h6 (by rw [Bt,hd];rfl)))
 let E:En:=eF R (.val (.str x)) (.val (QS d)) .un .un
 have nd:YF [(eC (.str "found"),eC (.str "find")),(eC (.str "read"),eC (.str "stretch"))] E w=some (.ref w.length,w++[dW]):=rfl
 have g:=vD (g:=Qb 4) (e:=Qb 4) nd (List.getElem?_concat_length ..) (Qe (d:=.str x) rfl) hx (Qe (d:=.str x) rfl)
 rw [hy] at g
 have s4:sIf (eB (Qk neG (Qk ixG (Qb 5) (eC (.int 0))) (Z1 "dict" JD (YF [(eC (.str "found"),eC (.str "find")),(eC (.str "read"),eC (.str "stretch"))]) (Qc (Qb 4) (Qc (Qb 4) (Qn)))))) (QF (eC (.bl false))) (Q6) E w=some ((.nx,E),w++[dW]):=(QG (QU (Qi (Qi (Qe (d:=QS d) rfl) rfl (Ku d w)) g (by rw [hdw];exact zM (n:=0) (Qha ok) (by decide) _)))).trans QH
 exact (Qj s1).trans ((Qj s2).trans ((Qj s3).trans (Qj s4)))
end
theorem ja:∀ {xs ys:List DV},xs.length=ys.length->(Xy xs ys).length=xs.length
  | [],[],_=>rfl
  | x::xs,y::ys,h=>by
    show (Xy xs ys).length+1=xs.length+1
    rw [ja (by simpa using h)]
theorem Gd:∀ (xs ys:List DV) (i:Nat) (d:DV),(Xy xs ys)[i]?=some d->∃ a b,d=.tup [a,b]/\xs[i]?=some a/\ys[i]?=some b
 | [],ys,i,d,h=>by cases ys<;>cases h
 | x::xs,[],i,d,h=>by cases h
 | x::xs,y::ys,0,d,h=>⟨x,y,by cases h;rfl,rfl,rfl⟩
 | x::xs,y::ys,i+1,d,h=>Gd xs ys i d h
theorem KU (n:Nat) {xs ys:List DV} {w:Hs} {nxt:NX} (hf:QhK (Qb 0) (Qb 1) [.val x,.val y,.un,.un] w=some (nxt,w)) (hn:∀ i,i<=(Xy xs ys).length->nxt i w=some ((Xy xs ys)[i]?,w)) (hd:∀ (i:Nat) (a b:DV),xs[i]?=some a->ys[i]?=some b->QX n [a,b] w=some (.bl true,w)) (hl:(Xy xs ys).length < 100000):∃ z2 z3,qA (QX n) [.val x,.val y,.un,.un] w=some ((.nx,[.val x,.val y,z2,z3]),w):=by
 have M:WP (JZ nxt (fun d env=>do let env' <- gT [2,3] d env;qM (QX n) env') 100000 0 [.val x,.val y,.un,.un]) w fun q w'=>w'=w/\∃ z2 z3,q=(.nx,[.val x,.val y,z2,z3]):=by
  refine kH (Xy xs ys) (fun i env w'=>w'=w/\∃ z2 z3,env=[.val x,.val y,z2,z3]) hl (fun i env hp hi h=>by rw [h.1];exact hn i hi) ⟨rfl,_,_,rfl⟩ (fun i d hd' env w' h=>?_) (fun env w' h=>by obtain ⟨e,z2,z3,e'⟩:=h;exact ⟨e,z2,z3,by rw [e']⟩)
  obtain ⟨e0,z2,z3,e1⟩:=h
  rw [e0,e1]
  obtain ⟨p,q,rfl,ha,hb⟩:=Gd xs ys i d hd'
  refine ⟨(.nx,[.val x,.val y,.val p,.val q]),w,?_,rfl,_,_,rfl⟩
  show qM (QX n) [.val x,.val y,.val p,.val q] w=_
  exact (QG (Xp (b:=true) (QU (Zw (ZM (Qe rfl) (Qe rfl)) rfl (hd i p q ha hb))))).trans QH
 obtain ⟨q,w',e,rfl,z2,z3,rfl⟩:=M
 refine ⟨z2,z3,?_⟩
 unfold qA X7
 rw [Qf hf];exact e
theorem Uk (n:Nat) (i:Int) (w:Hs):QX (n+1) [.int i,.int i] w=some (.bl true,w):=by
 show Q9 4 (Yo (QX n)) _ _=_
 refine Qv (env:=[.val (.int i),.val (.int i),.un,.un]) ((Qj ((QG ((Kw (QU rfl)).trans (QU rfl))).trans QH)).trans ((Qj ((QG (QU rfl)).trans QH)).trans ((Qj ((QG (QU rfl)).trans QH)).trans (Qy ?_))))
 exact (vI (b:=true) rfl).trans (Qi rfl rfl ((eqI i i w).trans (by simp)))
theorem QdF (n:Nat) (w:Hs):QX (n+1) [.non,.non] w=some (.bl true,w):=by
 show Q9 4 (Yo (QX n)) _ _=_
 exact Qv (env:=[.val .non,.val .non,.un,.un]) ((Qj ((QG ((Kw (QU rfl)).trans (QU rfl))).trans QH)).trans (Q5 ((Zl (QU rfl)).trans (Qy rfl))))
theorem QdG (n:Nat) (o:Option Int) (w:Hs):QX (n+1) [opt o,opt o] w=some (.bl true,w):=by
 cases o with
 | none=>exact QdF n w
 | some i=>exact Uk n i w
theorem QbN (n:Nat) {w:Hs} (h1:QX n [a,c] w=some (.bl true,w)) (h2:QX n [b,d] w=some (.bl true,w)):QX (n+1) [.tup [a,b],.tup [c,d]] w=some (.bl true,w):=by
 let x:DV:=.tup [a,b]
 let y:DV:=.tup [c,d]
 obtain ⟨z2,z3,e⟩:=KU n (x:=x) (y:=y) (xs:=[a,b]) (ys:=[c,d]) (w:=w) (nxt:=nxD (Xy [a,b] [c,d])) rfl (fun i hi=>XD (Xy [a,b] [c,d]) i hi w) (fun i p q hp hq=>by
  match i,hp,hq with
  | 0,hp,hq=>cases hp;cases hq;exact h1
  | 1,hp,hq=>cases hp;cases hq;exact h2
  | i+2,hp,hq=>cases hp) (show (2:Nat) < 100000 by decide)
 show Q9 4 (Yo (QX n)) _ _=_
 refine Qv (env:=[.val x,.val y,z2,z3]) (Q5 ((Zl (hp1:=w) (Qcr (QU rfl))).trans ((Qj ((QG (hp1:=w) ?_).trans QH)).trans ((Qj ((QG (hp1:=w) ?_).trans QH)).trans ((Qj e).trans (Qy rfl))))))
 ·exact (Kw (QU (Qi (x:=.bl true) (y:=.bl true) rfl rfl (zM (QaA 0 true) (by decide) w)))).trans (QU (Qi (x:=.bl false) (y:=.bl false) rfl rfl (zM (QaA 0 false) (by decide) w)))
 ·exact QU (Qi (x:=.int 2) (y:=.int 2) (XC (Zq (Qe rfl)) rfl) (XC (Zq (Qe rfl)) rfl) (Qie 2 w))
theorem QdH (n:Nat) {xs:List DV} {w:Hs} (hl:xs.length < 100000) (hd:∀ d∈xs,QX n [d,d] w=some (.bl true,w)):QX (n+1) [.tup xs,.tup xs] w=some (.bl true,w):=by
 let x:DV:=.tup xs
 obtain ⟨z2,z3,e⟩:=KU n (x:=x) (y:=x) (xs:=xs) (ys:=xs) (w:=w) (nxt:=nxD (Xy xs xs)) rfl (fun i hi=>XD (Xy xs xs) i hi w) (fun i p q hp hq=>by
  rw [hp] at hq;cases hq
  exact hd p (Aw hp)) (by rw [ja rfl];exact hl)
 show Q9 4 (Yo (QX n)) _ _=_
 refine Qv (env:=[.val x,.val x,z2,z3]) (Q5 ((Zl (hp1:=w) (Qcr (QU rfl))).trans ((Qj ((QG (hp1:=w) ?_).trans QH)).trans ((Qj ((QG (hp1:=w) ?_).trans QH)).trans ((Qj e).trans (Qy rfl))))))
 ·exact (Kw (QU (Qi (x:=.bl true) (y:=.bl true) rfl rfl (zM (QaA 0 true) (by decide) w)))).trans (QU (Qi (x:=.bl false) (y:=.bl false) rfl rfl (zM (QaA 0 false) (by decide) w)))
 ·exact QU (Qi (x:=.int xs.length) (y:=.int xs.length) (XC (Zq (Qe rfl)) rfl) (XC (Zq (Qe rfl)) rfl) (Qie _ w))
theorem ur (n:Nat) (ps:Ec) (w:Hs) (hl:ps.length < 100000):QX (n+3) [.tup (prD ps),.tup (prD ps)] w=some (.bl true,w):=QdH (n+2) (by rw [jh];exact hl) fun d hd=>by
 obtain ⟨p,_,rfl⟩:=Cv.mp hd
 exact QbN (n+1) (Uk n _ w) (Uk n _ w)
abbrev RD:DSx:=sIf (eB (Qk eqG (Qb 4) (eC (.str "read")))) (Qr (QC 6 (Z1 "dict" JD (Qb 3) (Qc (Qk ixG (Qb 0) (eC (.int 2))) (Qc (Qk ixG (Qb 5) (eC (.int 1))) (Qn))))) (Qr (QC 7 (Qk ixG (Qb 5) (eC (.int 2)))) (Qr (sIf (eB (Qk Ve (Qk ixG (Qb 0) (eC (.int 6))) (eC .non))) (Qr (sIf (Jx (eB (Z0 ltD ltD (Qb 6) (Qk ixG (Qb 0) (eC (.int 6))) (Qb 7)))) (QF (eC (.bl false))) (Q6)) (Qr (QC 7 (Qk ixG (Qb 0) (eC (.int 6)))) (Xw (Qb 7) (gSb (Qb 3) (Qk ixG (Qb 0) (eC (.int 2))))))) (Q6)) (QF (QI 2 (QX 6) (Qc (Qk ixG (Qb 0) (eC (.int 4))) (Qc (Zx Vi (Qc (JQ) (Qn))) (Qn)))))))) (Q6)
abbrev SM:DSx:=sIf (Jx (eB (QI 2 (QX 6) (Qc (Qk ixG (Qb 0) (eC (.int 4))) (Qc (Z1 "dict" JD (Qb 2) (Qc (Qk ixG (Qb 5) (eC (.int 1))) (Qn))) (Qn)))))) (QF (eC (.bl false))) (Q6)
abbrev PT:DSx:=sIf (eB (Qk eqG (Qb 4) (eC (.str "put")))) (Xw (Qk ixG (Qb 5) (eC (.int 2))) (gSb (Qb 2) (Qk ixG (Qb 5) (eC (.int 1))))) (Q6)
abbrev CT:DSx:=sIf (YA (eB (Qk eqG (Qb 4) (eC (.str "cut")))) (eB (Qk inG (Qk ixG (Qb 5) (eC (.int 1))) (Qb 2)))) (ZP (Z1 "dict" YJ (Qb 2) (Qc (Qk ixG (Qb 5) (eC (.int 1))) (Qn)))) (Q6)
section
variable {w:Hs} {kvs av:List (Key×DV)} {z:Zs} {F F':Eg} {M M':Nat->Option Int} {ds:List TR.Deed}
theorem Qbi {x:Str} (hx:gH (.str x) (.tup [.str "found", .str "put", .str "cut", .str "read"]) w=some (.bl true,w)):ZE [.tup (.str x::xs),.ref 6,.ref 7,.ref 8] w=some (.bl true,w):=by
 let R:DV:=.tup (.str x::xs)
 have r0:Qk ixG (Qb 0) (eC (.int 0)) (eF R .un .un .un .un) w=some (.str x,w):=Qi (x:=R) (Qe rfl) rfl (Q1 (i:=0) rfl w)
 have s1:QC 4 (Qk ixG (Qb 0) (eC (.int 0))) (eF R .un .un .un .un) w=some ((.nx,eF R (.val (.str x)) .un .un .un),w):=QR r0
 exact Qv (env:=eF R (.val (.str x)) .un .un .un) ((Qj s1).trans (Q5 ((Zl (QU (Qi (Qe rfl) rfl hx))).trans (Qy rfl))))
theorem Yy:∀ x∈(["find", "found", "put", "cut", "read", "stretch"]:List Str),PyData.strOk x=true:=by decide +kernel
theorem Qh9 {k:Int} {b:Nat} (h:w[b]?=some (.dic kvs)):inG (.int k) (.ref b) w=some (.bl (Z3 kvs (.inl k)).isSome,w):=by
 have e:QeH (.int k) (.ref b) w=some ((Z3 kvs (.inl k)).isSome,w):=by
  show (ZI b >>= _) w=_
  rw [Qf (Zi h)];rfl
 unfold inG
 rw [Qf e];rfl
theorem yc {x:Str} {xs:List DV} {d:TR.Deed} {k:Int} (rest:DSx) (hx:PyData.strOk x=true) (hr:(x==("read" : Str))=false) (h4:xs[3]?=some (opt (F k))) (hk:∀ w,ixG (QS d) (.int 1) w=some (.int k,w)) (h7:w[7]?=some (.dic kvs)) (t:Tb kvs z F):
  Qr RD (Qr SM rest) (eF (.tup (.str x::xs)) (.val (.str x)) (.val (QS d)) .un .un) w=rest (eF (.tup (.str x::xs)) (.val (.str x)) (.val (QS d)) .un .un) w:=by
 let E:En:=eF (.tup (.str x::xs)) (.val (.str x)) (.val (QS d)) .un .un
 have s1:RD E w=some ((.nx,E),w):=(QG (QU (Qi (Qe rfl) rfl (eqS w hx (Yy _ (by simp)) hr)))).trans QH
 have dk:Qk ixG (Qb 5) (eC (.int 1)) E w=some (.int k,w):=Qi (x:=QS d) (Qe rfl) rfl (hk w)
 have g:=Qch (o:=Qb 2) (env:=E) (a:=7) (Qe rfl) h7 dk
 have ge:(Z3 kvs (.inl k)).getD .non=opt (F k):=by rw [t.val];cases F k<;>rfl
 rw [ge] at g
 have s2:SM E w=some ((.nx,E),w):=(QG (Xp (b:=true) (QU (Zw (ZM (Qi (x:=.tup (.str x::xs)) (Qe rfl) rfl (Q1 (i:=4) h4 w)) g) rfl (QdG 5 (F k) w))))).trans QH
 exact (Qj s1).trans (Qj s2)
theorem gq {i n a:Nat} {k:Int} (h6:w[6]?=some (.lst (ds.map QS))) (h7:w[7]?=some (.dic kvs)) (t:Tb kvs z F) (hd:ds[n]?=some (.find k)):ZE [YZ i (.did n (.found a (F k))),.ref 6,.ref 7,.ref 8] w=some (.bl true,w++[dW]):=by
 have h7':(w++[dW])[7]?=some (.dic kvs):=(Ag (Ac.mp h7).1).trans h7
 let xs:List DV:=[.int i,.int n,.int a,opt (F k)]
 let E:En:=eF (.tup (.str "found" :: xs)) (.val (.str "found")) (.val (QS (.find k))) .un .un
 have p:PT E (w++[dW])=some ((.nx,E),w++[dW]):=(QG (QU (Qi (Qe rfl) rfl (eqS _ (Yy "found" (by simp)) (Yy _ (by simp)) rfl)))).trans QH
 have c:CT E (w++[dW])=some ((.nx,E),w++[dW]):=(QG (gk (QU (Qi (Qe rfl) rfl (eqS _ (Yy "found" (by simp)) (Yy _ (by simp)) rfl))))).trans QH
 exact Qv (env:=E) ((Ys (x := "found") (xs:=xs) (y := "find") _ h6 rfl hd rfl rfl rfl rfl (Yy _ (by simp))).trans ((yc (d:=.find k) (k:=k) _ (Yy "found" (by simp)) rfl rfl (fun w=>Q1 (i:=1) rfl w) h7' t).trans ((Qj p).trans ((Qj c).trans (Qy rfl)))))
theorem Qcz {i n a:Nat} {k y:Int} {t':Option Nat} (h6:w[6]?=some (.lst (ds.map QS))) (h7:w[7]?=some (.dic kvs)) (t:Tb kvs z F) (hl:kvs.length < 1000) (hd:ds[n]?=some (.put k y)):ZE [YZ i (.did n (.put a (F k) t')),.ref 6,.ref 7,.ref 8] w=some (.bl true,(w++[dW]).set 7 (.dic (Y5 kvs (.inl k) (.int y)))):=by
 have h7':(w++[dW])[7]?=some (.dic kvs):=(Ag (Ac.mp h7).1).trans h7
 let xs:List DV:=[.int i,.int n,.int a,opt (F k),oN t']
 let E:En:=eF (.tup (.str "put" :: xs)) (.val (.str "put")) (.val (QS (.put k y))) .un .un
 let w2:Hs:=(w++[dW]).set 7 (.dic (Y5 kvs (.inl k) (.int y)))
 have p:PT E (w++[dW])=some ((.nx,E),w2):=(Zl (QU (Qi (Qe rfl) rfl (eqS _ (Yy "put" (by simp)) (Yy _ (by simp)) rfl)))).trans (Qiv (Qi (x:=QS (.put k y)) (Qe rfl) rfl (Q1 (i:=2) rfl _)) rfl (Qi (x:=QS (.put k y)) (Qe rfl) rfl (Q1 (i:=1) rfl _)) h7' (by lia))
 have c:CT E w2=some ((.nx,E),w2):=(QG (gk (QU (Qi (Qe rfl) rfl (eqS _ (Yy "put" (by simp)) (Yy _ (by simp)) rfl))))).trans QH
 exact Qv (env:=E) ((Ys (x := "put") (xs:=xs) (y := "put") _ h6 rfl hd rfl rfl rfl rfl (Yy _ (by simp))).trans ((yc (d:=.put k y) (k:=k) _ (Yy "put" (by simp)) rfl rfl (fun w=>Q1 (i:=1) rfl w) h7' t).trans ((Qj p).trans ((Qj c).trans (Qy rfl)))))
theorem Qcy {i n a:Nat} {k:Int} (h6:w[6]?=some (.lst (ds.map QS))) (h7:w[7]?=some (.dic kvs)) (t:Tb kvs z F) (hd:ds[n]?=some (.cut k)):ZE [YZ i (.did n (.cut a (F k))),.ref 6,.ref 7,.ref 8] w=some (.bl true,(w++[dW]).set 7 (.dic (J1 kvs (.inl k)))):=by
  have h7':(w++[dW])[7]?=some (.dic kvs):=(Ag (Ac.mp h7).1).trans h7
  let xs:List DV:=[.int i,.int n,.int a,opt (F k)]
  let E:En:=eF (.tup (.str "cut" :: xs)) (.val (.str "cut")) (.val (QS (.cut k))) .un .un
  let w2:Hs:=(w++[dW]).set 7 (.dic (J1 kvs (.inl k)))
  have p:PT E (w++[dW])=some ((.nx,E),w++[dW]):=(QG (QU (Qi (Qe rfl) rfl (eqS _ (Yy "cut" (by simp)) (Yy _ (by simp)) rfl)))).trans QH
  have dk:Qk ixG (Qb 5) (eC (.int 1)) E (w++[dW])=some (.int k,w++[dW]):=Qi (x:=QS (.cut k)) (Qe rfl) rfl (Q1 (i:=1) rfl _)
  have tc:YA (eB (Qk eqG (Qb 4) (eC (.str "cut")))) (eB (Qk inG (Qk ixG (Qb 5) (eC (.int 1))) (Qb 2))) E (w++[dW])=some ((Z3 kvs (.inl k)).isSome,w++[dW]):=(Qco (QU (Qi (Qe rfl) rfl (eqS _ (Yy "cut" (by simp)) (Yy "cut" (by simp)) rfl)))).trans (QU (Qi dk (Qe rfl) (Qh9 h7')))
  have c:CT E (w++[dW])=some ((.nx,E),w2):=by
    cases hv:Z3 kvs (.inl k) with
    | some d =>
      rw [hv] at tc
      exact (Zl tc).trans (JN (Qhb h7' (Qe rfl) dk hv))
    | none =>
      rw [hv] at tc
      have e:J1 kvs (.inl k)=kvs:=by
        unfold J1
        rw [Cj]
        intro p hp
        refine C4 fun e=>?_
        unfold Z3 at hv
        have:=Option.map_eq_none_iff.mp hv
        rw [List.find?_eq_none] at this
        exact this p hp (C4 e)
      show _=some ((Fl.nx,E),(w++[dW]).set 7 (.dic (J1 kvs (.inl k))))
      rw [e,G0 h7']
      exact (QG tc).trans QH
  exact Qv (env:=E) ((Ys (x := "cut") (xs:=xs) (y := "cut") _ h6 rfl hd rfl rfl rfl rfl (Yy _ (by simp))).trans ((yc (d:=.cut k) (k:=k) _ (Yy "cut" (by simp)) rfl rfl (fun w=>Q1 (i:=1) rfl w) h7' t).trans ((Qj p).trans ((Qj c).trans (Qy rfl)))))
theorem Qax {l h:Int} (h7:w[7]?=some (.dic kvs)) (t:Tb kvs z F) (hz:z.length < 64) {ps:Ec} (hR:TR.Rds F l h ps):JQ (eF R z4 z5 (.val (.int l)) (.val (.int h))) w=some (.lst (prD ps),w):=by
 let E:En:=eF R z4 z5 (.val (.int l)) (.val (.int h))
 have so:=uy t.d t.rise hz (f:=Qb 2) (env:=E) (n:=7) (hp:=w) (Qe rfl) h7
 have src:xLs (Zx yT (Qc (Qb 2) (Qn))) E w=some (nxD ((zK z).map .int),w):=by
  unfold xLs
  rw [Qf so];rfl
 have cx:=vw (hp:=w) (t:=fun d=>eB (Z0 leD ltD (Qb 1) (Qb 0) (Qb 2)) (cE [6,7,2] E d)) (f:=fun d=>Zp (Qc (Qb 0) (Qc (Qk ixG (Qb 3) (Qb 0)) (Qn))) (cE [6,7,2] E d)) z (fun q=>decide (l<=q.1)&&decide (q.1 < h)) (fun q hq=>by
  have c:Z0 leD ltD (Qb 1) (Qb 0) (Qb 2) (cE [6,7,2] E (.int q.1)) w=some (.bl (decide (l<=q.1)&&decide (q.1 < h)),w):=VA (x:=.int l) (y:=.int q.1) (z:=.int h) (Qe rfl) (Qe rfl) (Qe rfl) rfl rfl
  exact QU c) (fun q hq=>Jc (ZM (Qe rfl) (Qi (x:=.ref 7) (y:=.int q.1) (Qe rfl) (Qe rfl) (Qam h7 (t.d.val t.rise hq)))) (by simp)) (by lia)
 rw [Qcl t hR] at cx
 unfold JQ Z4
 rw [Qf src,Qf (show Z8 _ _ _ lim 0 w=_ from cx)];rfl
theorem Kz {i n a:Nat} {l h:Int} {ps:Ec} (h6:w[6]?=some (.lst (ds.map QS))) (h7:w[7]?=some (.dic kvs)) (t:Tb kvs z F) (hz:z.length < 64) (h8:w[8]?=some (.dic av)) (hA:Av av M) (ha:av.length < 99000) (hd:ds[n]?=some (.stretch l h)):
  (TR.Rds F ((M n).getD l) h ps->ZE [YZ i (.did n (.read a ps none)),.ref 6,.ref 7,.ref 8] w=some (.bl true,w++[dW])) /\
  ∀ (s:Nat) (x:Int),(M n).getD l < x->x < h->TR.Rds F ((M n).getD l) x ps->ZE [YZ i (.did n (.read a ps (some (s,x)))),.ref 6,.ref 7,.ref 8] w=some (.bl true,(w++[dW]).set 8 (.dic (Y5 av (.inl (n:Int)) (.int x)))):=by
 let w1:Hs:=w++[dW]
 have h7':w1[7]?=some (.dic kvs):=(Ag (Ac.mp h7).1).trans h7
 have h8':w1[8]?=some (.dic av):=(Ag (Ac.mp h8).1).trans h8
 have pl:∀ {b e:Int},TR.Rds F b e ps->ps.length < 100000:=fun {b e} hR=>by
  rw [<- Qcl t hR]
  have:=B8 (fun q:Int×Int=>decide (b<=q.1)&&decide (q.1 < e)) z
  lia
 let D:DV:=QS (.stretch l h)
 have low:∀ (R:DV),(∀ z4 z5 z6 z7,Qk ixG (Qb 0) (eC (.int 2)) (eF R z4 z5 z6 z7) w1=some (.int (n:Nat),w1))->QC 6 (Z1 "dict" JD (Qb 3) (Qc (Qk ixG (Qb 0) (eC (.int 2))) (Qc (Qk ixG (Qb 5) (eC (.int 1))) (Qn)))) (eF R (.val (.str "read")) (.val D) .un .un) w1=some ((.nx,eF R (.val (.str "read")) (.val D) (.val (.int ((M n).getD l))) .un),w1):=fun R r2=>by
  have g:=vD (o:=Qb 3) (e:=Qk ixG (Qb 5) (eC (.int 1))) (d:=.int l) (a:=8) (env:=eF R (.val (.str "read")) (.val D) .un .un) (Qe rfl) h8' (r2 _ _ _ _) (k:=.inl (n:Int)) rfl (Qi (x:=D) (Qe rfl) rfl (Q1 (i:=1) rfl w1))
  have e:(Z3 av (.inl (n:Int))).getD (.int l)=.int ((M n).getD l):=by rw [hA n];cases M n<;>rfl
  rw [e] at g
  exact QR g
 have tr:∀ (R:DV) (z5 z6 z7:Sl),eB (Qk eqG (Qb 4) (eC (.str "read"))) (eF R (.val (.str "read")) z5 z6 z7) w1=some (true,w1):=fun R z5 z6 z7=>QU (Qi (Qe rfl) rfl (eqS _ (Yy "read" (by simp)) (Yy "read" (by simp)) rfl))
 constructor
 ·intro hR
  let xs:List DV:=[.int i,.int n,.int a,.tup (prD ps),.non,.non]
  let R:DV:=.tup (.str "read" :: xs)
  let E7:En:=eF R (.val (.str "read")) (.val D) (.val (.int ((M n).getD l))) (.val (.int h))
  have s7:QC 7 (Qk ixG (Qb 5) (eC (.int 2))) (eF R (.val (.str "read")) (.val D) (.val (.int ((M n).getD l))) .un) w1=some ((.nx,E7),w1):=QR (Qi (x:=D) (Qe rfl) rfl (Q1 (i:=2) rfl w1))
  have s8:sIf (eB (Qk Ve (Qk ixG (Qb 0) (eC (.int 6))) (eC .non))) (Qr (sIf (Jx (eB (Z0 ltD ltD (Qb 6) (Qk ixG (Qb 0) (eC (.int 6))) (Qb 7)))) (QF (eC (.bl false))) (Q6)) (Qr (QC 7 (Qk ixG (Qb 0) (eC (.int 6)))) (Xw (Qb 7) (gSb (Qb 3) (Qk ixG (Qb 0) (eC (.int 2))))))) (Q6) E7 w1=some ((.nx,E7),w1):=(QG (QU (Qi (Qi (x:=R) (Qe rfl) rfl (Q1 (i:=6) rfl w1)) rfl rfl))).trans QH
  have s9:QF (QI 2 (QX 6) (Qc (Qk ixG (Qb 0) (eC (.int 4))) (Qc (Zx Vi (Qc (JQ) (Qn))) (Qn)))) E7 w1=some ((.rt (.bl true),E7),w1):=Qy (Zw (ZM (Qi (x:=R) (Qe rfl) rfl (Q1 (i:=4) rfl w1)) (XC (Zq (Qax h7' t hz hR)) (show Vi [.lst (prD ps)] w1=some (.tup (prD ps),w1) from rfl))) rfl (ur 3 ps w1 (pl hR)))
  exact Qv (env:=E7) ((Ys (x := "read") (xs:=xs) (y := "stretch") _ h6 rfl hd rfl rfl rfl rfl (Yy _ (by simp))).trans (Q5 ((Zl (tr R _ _ _)).trans ((Qj (low R fun _ _ _ _=>Qi (x:=R) (Qe rfl) rfl (Q1 (i:=2) rfl w1))).trans ((Qj s7).trans ((Qj s8).trans s9))))))
 ·intro s x g1 g2 hR
  let xs:List DV:=[.int i,.int n,.int a,.tup (prD ps),.int s,.int x]
  let R:DV:=.tup (.str "read" :: xs)
  let E7:Int->En:=fun h=>eF R (.val (.str "read")) (.val D) (.val (.int ((M n).getD l))) (.val (.int h))
  let w2:Hs:=w1.set 8 (.dic (Y5 av (.inl (n:Int)) (.int x)))
  have s7:QC 7 (Qk ixG (Qb 5) (eC (.int 2))) (eF R (.val (.str "read")) (.val D) (.val (.int ((M n).getD l))) .un) w1=some ((.nx,E7 h),w1):=QR (Qi (x:=D) (Qe rfl) rfl (Q1 (i:=2) rfl w1))
  have r6:∀ (h:Int),Qk ixG (Qb 0) (eC (.int 6)) (E7 h) w1=some (.int x,w1):=fun h=>Qi (x:=R) (Qe rfl) rfl (Q1 (i:=6) rfl w1)
  have ch:Jx (eB (Z0 ltD ltD (Qb 6) (Qk ixG (Qb 0) (eC (.int 6))) (Qb 7))) (E7 h) w1=some (false,w1):=by
   have c:Z0 ltD ltD (Qb 6) (Qk ixG (Qb 0) (eC (.int 6))) (Qb 7) (E7 h) w1=some (.bl (decide ((M n).getD l < x)&&decide (x < h)),w1):=VA (x:=.int ((M n).getD l)) (y:=.int x) (z:=.int h) (Qe rfl) (r6 h) (Qe rfl) rfl rfl
   rw [C4 g1,C4 g2] at c
   exact Xp (b:=true) (QU c)
  have s8:sIf (eB (Qk Ve (Qk ixG (Qb 0) (eC (.int 6))) (eC .non))) (Qr (sIf (Jx (eB (Z0 ltD ltD (Qb 6) (Qk ixG (Qb 0) (eC (.int 6))) (Qb 7)))) (QF (eC (.bl false))) (Q6)) (Qr (QC 7 (Qk ixG (Qb 0) (eC (.int 6)))) (Xw (Qb 7) (gSb (Qb 3) (Qk ixG (Qb 0) (eC (.int 2))))))) (Q6) (E7 h) w1=some ((.nx,E7 x),w2):=(Zl (QU (Qi (r6 h) rfl rfl))).trans ((Qj ((QG ch).trans QH)).trans ((Qj (QR (r6 h))).trans (Qiv (d:=.int x) (Qe rfl) rfl (Qi (x:=R) (Qe rfl) rfl (Q1 (i:=2) rfl w1)) h8' (by lia))))
  have h72:w2[7]?=some (.dic kvs):=gs (by decide) h7'
  have s9:QF (QI 2 (QX 6) (Qc (Qk ixG (Qb 0) (eC (.int 4))) (Qc (Zx Vi (Qc (JQ) (Qn))) (Qn)))) (E7 x) w2=some ((.rt (.bl true),E7 x),w2):=Qy (Zw (ZM (Qi (x:=R) (Qe rfl) rfl (Q1 (i:=4) rfl w2)) (XC (Zq (Qax h72 t hz hR)) (show Vi [.lst (prD ps)] w2=some (.tup (prD ps),w2) from rfl))) rfl (ur 3 ps w2 (pl hR)))
  exact Qv (env:=E7 x) ((Ys (x := "read") (xs:=xs) (y := "stretch") _ h6 rfl hd rfl rfl rfl rfl (Yy _ (by simp))).trans (Q5 ((Zl (tr R _ _ _)).trans ((Qj (low R fun _ _ _ _=>Qi (x:=R) (Qe rfl) rfl (Q1 (i:=2) rfl w1))).trans ((Qj s7).trans ((Qj s8).trans s9))))))
end
structure Bk (w:Hs) (ds:List TR.Deed) (F:Eg) (M:Nat->Option Int) (c:Nat):Prop where
 h6:w[6]?=some (.lst (ds.map QS))
 h7:∃ kvs z,w[7]?=some (.dic kvs)/\Tb kvs z F
 h8:∃ av,w[8]?=some (.dic av)/\Av av M/\av.length<=c
theorem KK:∀ {l m:List Int},l.Nodup->(∀ x∈l,x∈m)->l.length<=m.length
  | [],m,_,_=>Bc _
  | x::l,m,h,hs=>by
    obtain ⟨h1,h2⟩:=Ck.mp h
    have hx:=hs x (by simp)
    have:=KK (l:=l) (m:=m.erase x) h2 fun y hy=>by
      have ne:y≠x:=fun e=>h1 (e▸hy)
      exact (List.mem_erase_of_ne ne).mpr (hs y (Ax _ hy))
    rw [List.length_erase_of_mem hx] at this
    have:=List.length_pos_of_mem hx
    rw [A9];lia
section
variable {w w1:Hs} {ds:List TR.Deed} {s:TR.St} {bg:TR.Bg} {F F':Eg} {M M':Nat->Option Int} {c:Nat} {o:TR.Out} {L:Nat->Nat}
theorem kr (N:TR.Nm ds s bg F M) {z:Zs} (t:Tb kvs z F):z.length<=ds.length:=by
 have:=KK (l:=zK z) (m:=ds.map TR.Qgb) (t.rise.keys.imp fun h=>Int.ne_of_lt h) fun k hk=>by
  obtain ⟨q,hq,rfl⟩:=Cv.mp hk
  obtain ⟨d,h1,h2⟩:=N.ky q.1 q.2 ((t.fn q.1 q.2).mpr hq)
  rw [<- h2];exact List.mem_map_of_mem h1
 simpa [zK] using this
theorem Bk.keep (K:Bk w ds F M c) (h:∀ x,x=6∨x=7∨x=8->w1[x]?=w[x]?):Bk w1 ds F M c:=by
 obtain ⟨kvs,z,a1,a2⟩:=K.h7
 obtain ⟨av,b1,b2⟩:=K.h8
 exact ⟨(h 6 (by decide)).trans K.h6,⟨kvs,z,(h 7 (by decide)).trans a1,a2⟩,⟨av,(h 8 (by decide)).trans b1,b2⟩⟩
theorem Bk.up (K:Bk w ds F M c) {c':Nat} (h:c<=c'):Bk w ds F M c':=by
 obtain ⟨av,b1,b2,b3⟩:=K.h8
 exact ⟨K.h6,K.h7,⟨av,b1,b2,by lia⟩⟩
theorem Qcx (i:Nat) (K:Bk w ds F M c) (N:TR.Nm ds s bg F M) (hd:ds.length<=60) (hc:c < 98000) (h:TR.uP ds F M o F' M'):∃ w',ZE [YZ i o,.ref 6,.ref 7,.ref 8] w=some (.bl true,w')/\Bk w' ds F' M' (c+1)/\w.length<=w'.length/\∀ x,x < w.length->x≠7->x≠8->w'[x]?=w[x]?:=by
  obtain ⟨kvs,z,h7,t⟩:=K.h7
  obtain ⟨av,h8,hA,ha⟩:=K.h8
  have hz:=kr N t
  have hk:kvs.length < 1000:=by rw [t.d.len];lia
  have l8:8 < w.length:=(Ac.mp h8).1
  have old:∀ x,x < w.length->(w++[dW])[x]?=w[x]?:=fun x hx=>Ag hx
  have K1:Bk (w++[dW]) ds F M (c+1):=(K.keep fun x hx=>old x (by lia)).up (by lia)
  have road:∀ (x:Str) (xs:List DV),F'=F->M'=M->gH (.str x) (.tup [.str "found", .str "put", .str "cut", .str "read"]) w=some (.bl true,w)->∃ w',ZE [.tup (.str x::xs),.ref 6,.ref 7,.ref 8] w=some (.bl true,w')/\Bk w' ds F' M' (c+1)/\w.length<=w'.length/\∀ x,x < w.length->x≠7->x≠8->w'[x]?=w[x]?:=fun x xs e1 e2 hx=>by
    subst e1;subst e2
    exact ⟨w,Qbi hx,K.up (by lia),Ae _,fun _ _ _ _=>rfl⟩
  have len1:w.length<=(w++[dW]).length:=by simp
  cases h with
  | rest=>exact road _ _ rfl rfl rfl
  | take n=>exact road _ _ rfl rfl rfl
  | @did n r d F' hn ft =>
    cases r with
    | non=>exact ft.elim
    | side a b=>exact road _ _ ft rfl rfl
    | down a b=>exact road _ _ ft rfl rfl
    | told a b=>exact road _ _ ft rfl rfl
    | raised a b=>exact road _ _ ft rfl rfl
    | found a x =>
      obtain ⟨k,rfl,rfl,rfl⟩:=ft
      exact ⟨_,gq K.h6 h7 t hn,K1,len1,fun x hx _ _=>old x hx⟩
    | put a x b =>
      obtain ⟨k,y,rfl,rfl,rfl⟩:=ft
      refine ⟨_,Qcz K.h6 h7 t hk hn,⟨gs (by decide) K1.h6,⟨_,_,gss ((old 7 (by lia)).trans h7),t.put k y⟩,?_⟩,by rw [List.length_set];exact len1,fun x hx h1 _=>(QP _ _ _ _ (Ne.symm h1)).trans (old x hx)⟩
      obtain ⟨av',b1,b2⟩:=K1.h8
      exact ⟨av',gs (by decide) b1,b2⟩
    | cut a x =>
      obtain ⟨k,rfl,rfl,rfl⟩:=ft
      refine ⟨_,Qcy K.h6 h7 t hn,⟨gs (by decide) K1.h6,⟨_,_,gss ((old 7 (by lia)).trans h7),t.cut k⟩,?_⟩,by rw [List.length_set];exact len1,fun x hx h1 _=>(QP _ _ _ _ (Ne.symm h1)).trans (old x hx)⟩
      obtain ⟨av',b1,b2⟩:=K1.h8
      exact ⟨av',gs (by decide) b1,b2⟩
    | read a ps tt =>
      cases tt with
      | none =>
        obtain ⟨l,hh,rfl,rfl,hR⟩:=ft
        exact ⟨_,(Kz K.h6 h7 t (by lia) h8 hA (by lia) hn).1 hR,K1,len1,fun x hx _ _=>old x hx⟩
      | some y =>
        obtain ⟨s,x⟩:=y
        obtain ⟨l,hh,rfl,rfl,g1,g2,hR⟩:=ft
        refine ⟨_,(Kz K.h6 h7 t (by lia) h8 hA (by lia) hn).2 s x g1 g2 hR,⟨gs (by decide) K1.h6,?_,⟨_,gss ((old 8 l8).trans h8),fun j=>?_,?_⟩⟩,by rw [List.length_set];exact len1,fun x hx _ h1=>(QP _ _ _ _ (Ne.symm h1)).trans (old x hx)⟩
        . obtain ⟨kv,z',b1,b2⟩:=K1.h7
          exact ⟨kv,z',gs (by decide) b1,b2⟩
        . rw [Qd1]
          show _=((if j=n then some x else M j)).map DV.int
          by_cases e:j=n
          . rw [C0 e,C0 (by rw [e])];rfl
          . rw [Cz e,Cz (fun q=>e (by have:=Sum.inl.inj q;lia))];exact hA j
        . have:=Qdx av (.inl (n:Int)) (.int x)
          lia
theorem WB.gen {x:Int} {es:List TR.Deed} (A:WB w ds s L) (h:∀ j,j < w.length->j≠0->j≠3->j≠6->j≠7->j≠8->w1[j]?=w[j]?) (h0:w1[0]?=some (.ins "Shelf" (shF s.S.O2 1 s.S.top x s.S.wr))) (h3:w1[3]?=some (.lst (es.map QS))):WB w1 es (TR.rdS s x) L:=by
 have g:∀ {j:Nat} {z:OV},(j≠0/\j≠3/\j < 6∨8 < j)->w[j]?=some z->w1[j]?=some z:=fun {j z} n e=>(h j (Ac.mp e).1 (by lia) (by lia) (by lia) (by lia) (by lia)).trans e
 obtain ⟨a,b1,c1⟩:=A.hh
 obtain ⟨y,b2,c2⟩:=A.hn
 exact ⟨h0,g (by decide) A.h2,g (by decide) A.hv,h3,⟨a,g (by decide) b1,c1⟩,⟨y,g (by decide) b2,c2⟩,fun i v hi hv=>by
  obtain ⟨p1,p2,p3,p4⟩:=A.ob i v hi hv
  exact ⟨g (by lia) p1,g (by lia) p2,g (by lia) p3,p4⟩,A.dj⟩
theorem WB.keep (A:WB w ds s L) (h:∀ x,x < w.length->x≠7->x≠8->w1[x]?=w[x]?):WB w1 ds s L :=
 A.gen (fun j hj _ _ _=>h j hj) ((h 0 (Ac.mp A.h1).1 (by decide) (by decide)).trans A.h1) ((h 3 (Ac.mp A.hd).1 (by decide) (by decide)).trans A.hd)
theorem WB.rd (A:WB w ds s L) (x:Int):WB (w.set 0 (.ins "Shelf" (shF s.S.O2 1 s.S.top x s.S.wr))) ds (TR.rdS s x) L :=
 A.gen (fun j _ h _ _ _ _=>QP _ _ _ _ (Ne.symm h)) (gss A.h1) (gs (by decide) A.hd)
theorem WB.put6 (A:WB w ds s L) {o:OV}:WB (w.set 6 o) ds s L :=
 A.gen (fun j _ _ _ h _ _=>QP _ _ _ _ (Ne.symm h)) (gs (by decide) A.h1) (gs (by decide) A.hd)
theorem WB.hand (A:WB w ds s L) (d:TR.Deed):WB (w.set 3 (.lst ((ds++[d]).map QS))) (ds++[d]) s L :=
 A.gen (fun j _ _ h _ _ _=>QP _ _ _ _ (Ne.symm h)) (gs (by decide) A.h1) (gss A.hd)
def WB.small (A:WB w ds s L) (i:Nat) (v:TR.Wk) (h:s.ws[i]?=some v) (e:v.O7=false):L i+2 < w.length:=(Ac.mp (A.ob i v h e).2.2.1).1
end
section
variable {w:Hs} {ds:List TR.Deed} {s:TR.St} {bg:TR.Bg} {F:Eg} {M:Nat->Option Int}
def shW (w:Hs) (s:TR.St) (x:Int):Hs:=w.set 0 (.ins "Shelf" (shF s.S.O2 1 s.S.top x s.S.wr))
def QdP (h1:w[0]?=some (.ins "Shelf" (shF s.S.O2 1 s.S.top s.S.rd s.S.wr))) (x:Int):(shW w s x)[0]?=some (.ins "Shelf" (shF s.S.O2 1 s.S.top x s.S.wr)):=gss h1
theorem QdQ (h1:w[0]?=some (.ins "Shelf" (shF s.S.O2 1 s.S.top s.S.rd s.S.wr))) (h2:w[1]?=some (.lst (s.S.pg.map pgD))) {n:Nat} (hn:s.S.pg[n]?=some p) (x:Int):Zy [.ref 0,.int n] (shW w s x)=some (pgD p,shW w s (x+1)):=by
 have r:=QaD (i:=n) (d:=pgD p) (QdP (s:=s) h1 x) (show (shW w s x)[1]?=_ from gs (by decide) h2) (by decide) (by rw [Bt,hn];rfl)
 rw [r];unfold shW;rw [List.set_set]
theorem KH (N:TR.Nm ds s bg F M) (h1:w[0]?=some (.ins "Shelf" (shF s.S.O2 1 s.S.top s.S.rd s.S.wr))) (h2:w[1]?=some (.lst (s.S.pg.map pgD))):∀ (l n:Nat) (p:TR.Pg) (i fuel:Nat) (x:Int) (z2 z3:Sl),s.S.pg[n]?=some p->p.lv=l->bg n=none->i+l < s.S.pg.length->l < fuel ->
    ∃ env x',JZ (nxD (Zb 0 s.S.pg.length)) (fun d env=>gN 2 d env >>= fun env'=>ZX env') fuel i [.val (.ref 0),.val (.int n),z2,z3] (shW w s x)=some ((.rt (.int 0),env),shW w s x')
  | l,n,p,i,fuel,x,z2,z3,hn,hl,hb,hi,hf=>by
    obtain ⟨g,rfl⟩:∃ g,fuel=g+1:=⟨fuel - 1,by lia⟩
    have e1:=XD (Zb 0 s.S.pg.length) i (by rw [Jq];lia) (shW w s x)
    have gi:=Ab (l:=Zb 0 s.S.pg.length) (i:=i) (by rw [Jq];lia)
    have ge:=(xE gi).2
    rw [gi,ge] at e1
    let E:Sl->Sl->En:=fun z1 z3=>[.val (.ref 0),z1,.val (.int i),z3]
    have s1:QC 3 (QJ "Shelf" "read" 2 Zy (Qb 0) (Qc (Qb 1) (Qn))) (E (.val (.int n)) z3) (shW w s x)=some ((.nx,E (.val (.int n)) (.val (pgD p))),shW w s (x+1)):=QR (Q7 (Qe rfl) (QdP h1 x) (jP ..) (Zq (Qe rfl)) rfl (QdQ h1 h2 hn x))
    have t:eB (Qk eqG (Qk ixG (Qb 3) (eC (.int 0))) (eC (.int 0))) (E (.val (.int n)) (.val (pgD p))) (shW w s (x+1))=some ((p.lv:Int)==0,shW w s (x+1)):=QU (Qi (Qi (x:=pgD p) (Qe rfl) rfl (Q1 (i:=0) rfl _)) rfl (eqI _ _ _))
    obtain ⟨f1,f2⟩:=TR.Qbg N hn hb
    match l,hl with
    | 0,hl =>
      have n0:=f1 hl
      rw [hl] at t
      have s2:=(Zl (g:=Q6) t).trans (Qy (f:=Qb 1) (Qe (d:=.int n) rfl))
      have b:ZX (E (.val (.int n)) z3) (shW w s x)=some ((.rt (.int n),E (.val (.int n)) (.val (pgD p))),shW w s (x+1)):=(Qj s1).trans (Q5 s2)
      refine ⟨E (.val (.int n)) (.val (pgD p)),x+1,?_⟩
      rw [JZ,Qf e1]
      have bb:(gN 2 (.int (i:Int)) [.val (.ref 0),.val (.int n),z2,z3] >>= fun env'=>ZX env') (shW w s x)=some ((.rt (.int n),E (.val (.int n)) (.val (pgD p))),shW w s (x+1)):=b
      simp only
      rw [Qf bb,n0];rfl
    | l+1,hl =>
      obtain ⟨c,q,g1,g2,g3,g4⟩:=f2 (by lia)
      have nz:((p.lv:Int)==0)=false:=by rw [beq_eq_false_iff_ne];lia
      rw [nz] at t
      have s2:=(QG (f:=QF (Qb 1)) t).trans (QH (env:=E (.val (.int n)) (.val (pgD p))) (hp:=shW w s (x+1)))
      have s3:QC 1 (Qk ixG (Qk ixG (Qb 3) (eC (.int 2))) (eC (.int 0))) (E (.val (.int n)) (.val (pgD p))) (shW w s (x+1))=some ((.nx,E (.val (.int c)) (.val (pgD p))),shW w s (x+1)):=QR (Qi (Qi (x:=pgD p) (Qe rfl) rfl (Q1 (i:=2) rfl _)) rfl (Q1 (i:=0) (by rw [Bt,g1];rfl) _))
      have b:ZX (E (.val (.int n)) z3) (shW w s x)=some ((.nx,E (.val (.int c)) (.val (pgD p))),shW w s (x+1)):=(Qj s1).trans ((Qj s2).trans s3)
      obtain ⟨env,x',e⟩:=KH N h1 h2 l c q (i+1) g (x+1) (.val (.int i)) (.val (pgD p)) g2 (by lia) g4 (by lia) (by lia)
      refine ⟨env,x',?_⟩
      rw [JZ,Qf e1]
      have bb:(gN 2 (.int (i:Int)) [.val (.ref 0),.val (.int n),z2,z3] >>= fun env'=>ZX env') (shW w s x)=some ((.nx,E (.val (.int c)) (.val (pgD p))),shW w s (x+1)):=b
      simp only
      rw [Qf bb]
      exact e
theorem QgB (N:TR.Nm ds s bg F M) (K:TR.Fk s.S) (h1:w[0]?=some (.ins "Shelf" (shF s.S.O2 1 s.S.top s.S.rd s.S.wr))) (h2:w[1]?=some (.lst (s.S.pg.map pgD))) (hl:s.S.pg.length < 90000):∃ x,Xi [.ref 0] w=some (.int 0,shW w s x):=by
 obtain ⟨r,r1,r2⟩:=N.T.root
 have lv:r.lv+1<=s.S.pg.length:=by
  have h:=TR.Tree.pages_two N.T K r1 fun j a b=>N.T.levels j a (by rw [TR.ZK r1];exact b)
  lia
 have w0:shW w s s.S.rd=w:=G0 h1
 obtain ⟨env,x',e⟩:=KH N h1 h2 r.lv s.S.top r 0 100000 s.S.rd .un .un r1 rfl N.T.rbg (by lia) (by lia)
 rw [w0] at e
 have s1:QC 1 (QJ "Shelf" "root" 1 Z7 (Qb 0) Qn) [.val (.ref 0),.un,.un,.un] w=some ((.nx,[.val (.ref 0),.val (.int s.S.top),.un,.un]),w):=QR (Q7 (Qe rfl) h1 (Ut ..) zn rfl (QaG h1))
 have src:xOf (Vc (Qc (QJ "Shelf" "pages" 1 ZT (Qb 0) Qn) Qn)) [.val (.ref 0),.val (.int s.S.top),.un,.un] w=some (nxD (Zb 0 s.S.pg.length),w):=yw (xk (m:=s.S.pg.length) (Zq ((Q7 (Qe rfl) h1 (zV ..) zn rfl (V3 h1 h2)).trans (by rw [Br]))) (by lia))
 have s2:XB [.val (.ref 0),.val (.int s.S.top),.un,.un] w=some ((.rt (.int 0),env),shW w s x'):=by
  unfold XB X7
  rw [Qf src];exact e
 exact ⟨x',Qv ((Qj s1).trans (Q5 s2))⟩
theorem QgR {p:TR.Pg} (he:p.ps.length=p.ks.length) (hl:p.ks.length < 90000) (hp:Hs):XF [z0,z1,z2,z3,.val (pgD p)] hp=some (.lst (prD (TR.prs p)),hp):=by
 let E:En:=[z0,z1,z2,z3,.val (pgD p)]
 have ln:Zx Jy (Qc (Qk ixG (Qb 4) (eC (.int 1))) Qn) E hp=some (.int (p.ks.length:Nat),hp):=(XC (Zq (Qi (x:=pgD p) (Qe rfl) rfl (Q1 (i:=1) rfl hp))) (show Jy [.tup (p.ks.map .int)] hp=some (.int ((p.ks.map DV.int).length:Nat),hp) from rfl)).trans (by rw [Br])
 have src:xOf (Vc (Qc (Zx Jy (Qc (Qk ixG (Qb 4) (eC (.int 1))) (Qn))) (Qn))) E hp=some (nxD (Zb 0 p.ks.length),hp):=yw (xk (m:=p.ks.length) (Zq ln) (by lia))
 let g:DV->DV:=fun d=>match d with | .int j=>.tup [.int (p.ks.getD j.toNat 0),.int (p.ps.getD j.toNat 0)] | _=>.non
 have cx:=Ks (hp:=hp) (t:=fun d=>UA (cE [4] E d)) (f:=fun d=>Zp (Qc (Qk ixG (Qk ixG (Qb 1) (eC (.int 1))) (Qb 0)) (Qc (Qk ixG (Qk ixG (Qb 1) (eC (.int 2))) (Qb 0)) (Qn))) (cE [4] E d)) (g:=g) (Zb 0 p.ks.length) (fun _ _=>rfl) (fun d hd=>by
  obtain ⟨j,hj⟩:=List.getElem?_of_mem hd
  obtain ⟨j1,rfl⟩:=xE hj
  have k1:(p.ks.map DV.int)[j]?=some (.int (p.ks.getD j 0)):=by rw [Bt,Ab j1,Cg,Ab j1];rfl
  have k2:(p.ps.map DV.int)[j]?=some (.int (p.ps.getD j 0)):=by rw [Bt,Ab (by lia),Cg,Ab (by lia)];rfl
  exact Jc (ZM (Qi (y:=.int (j:Int)) (Qi (x:=pgD p) (Qe rfl) rfl (Q1 (i:=1) rfl hp)) (Qe rfl) (Q1 (i:=j) k1 hp)) (Qi (y:=.int (j:Int)) (Qi (x:=pgD p) (Qe rfl) rfl (Q1 (i:=2) rfl hp)) (Qe rfl) (Q1 (i:=j) k2 hp))) (by simp)) (by rw [Jq];lia)
 have e:(Zb 0 p.ks.length).map g=prD (TR.prs p):=by
  unfold Zb prD TR.prs
  rw [List.map_map]
  refine List.ext_getElem (by simp [he]) fun j a b=>?_
  have aj:j < p.ks.length:=by simpa using a
  have bj:j < p.ps.length:=by lia
  simp only [List.getElem_map,List.getElem_range,List.getElem_zip,Function.comp]
  show DV.tup [.int (p.ks.getD ((0:Int)+(j:Int)).toNat 0),.int (p.ps.getD ((0:Int)+(j:Int)).toNat 0)]=_
  rw [show ((0:Int)+(j:Int)).toNat=j by lia,Cg,Cg,Ab aj,Ab bj];rfl
 rw [e] at cx
 unfold XF Z4
 rw [Qf src,Qf (show Z8 _ _ _ lim 0 hp=_ from cx)];rfl
theorem kj (N:TR.Nm ds s bg F M) (h1:w[0]?=some (.ins "Shelf" (shF s.S.O2 1 s.S.top s.S.rd s.S.wr))) (h2:w[1]?=some (.lst (s.S.pg.map pgD))) {n:Nat} {r:List Nat} (c:TR.Chain s.S n r):∀ (i fuel:Nat) (x:Int) (acc:Ec) (z3 z4:Sl),(∀ m∈r,∃ q,s.S.pg[m]?=some q/\q.lv=0)->i+r.length<=s.S.pg.length->s.S.pg.length - i < fuel->acc.length+(TR.qY s.S r).length < 90000 ->
    ∃ env x',let out:=prD (acc++TR.qY s.S r);(JZ (nxD (Zb 0 s.S.pg.length)) (fun d env=>gN 3 d env >>= fun env'=>Zr env') fuel i [.val (.ref 0),.val (.lst (prD acc)),.val (.int n),z3,z4] (shW w s x)=some ((.nx,env),shW w s x')/\env[1]?=some (.val (.lst out)))∨JZ (nxD (Zb 0 s.S.pg.length)) (fun d env=>gN 3 d env >>= fun env'=>Zr env') fuel i [.val (.ref 0),.val (.lst (prD acc)),.val (.int n),z3,z4] (shW w s x)=some ((.rt (.lst out),env),shW w s x'):=by
  have turn:∀ (n:Nat) (p:TR.Pg) (i:Nat) (x:Int) (acc:Ec) (z4:Sl),s.S.pg[n]?=some p->p.lv=0->acc.length+(TR.prs p).length < 90000->Zr [.val (.ref 0),.val (.lst (prD acc)),.val (.int n),.val (.int (i:Int)),z4] (shW w s x)=some ((.nx,[.val (.ref 0),.val (.lst (prD (acc++TR.prs p))),.val (oN p.sd),.val (.int (i:Int)),.val (pgD p)]),shW w s (x+1)):=by
    intro n p i x acc z4 hn hl hb
    let E:Sl->Sl->Sl->En:=fun z1 z2 z4=>[.val (.ref 0),z1,z2,.val (.int (i:Int)),z4]
    have he:=N.T.len0 hn hl
    have pl:(TR.prs p).length=p.ks.length:=by unfold TR.prs;rw [List.length_zip,he,Nat.min_self]
    have s1:sIf (eB (Qk isD (Qb 2) (eC .non))) (QF (Qb 1)) (Q6) (E (.val (.lst (prD acc))) (.val (.int n)) z4) (shW w s x)=some ((.nx,E (.val (.lst (prD acc))) (.val (.int n)) z4),shW w s x):=(QG (QU rfl)).trans QH
    have s2:QC 4 (QJ "Shelf" "read" 2 Zy (Qb 0) (Qc (Qb 2) (Qn))) (E (.val (.lst (prD acc))) (.val (.int n)) z4) (shW w s x)=some ((.nx,E (.val (.lst (prD acc))) (.val (.int n)) (.val (pgD p))),shW w s (x+1)):=QR (Q7 (Qe rfl) (QdP h1 x) (jP ..) (Zq (Qe rfl)) rfl (QdQ h1 h2 hn x))
    have s3:QC 1 (Qk Jd (Qb 1) (XF)) (E (.val (.lst (prD acc))) (.val (.int n)) (.val (pgD p))) (shW w s (x+1))=some ((.nx,E (.val (.lst (prD (acc++TR.prs p)))) (.val (.int n)) (.val (pgD p))),shW w s (x+1)):=by
      refine QR (Qi (Qe rfl) (QgR he (by lia) _) ?_)
      show (Qx (zh (prD acc++prD (TR.prs p))) >>= fun _=>pure (DV.lst (prD acc++prD (TR.prs p)))) _=_
      rw [Yi (by rw [Am,jh,jh];lia)]
      show some (DV.lst (prD acc++prD (TR.prs p)),_)=_
      unfold prD;rw [List.map_append]
    have s4:QC 2 (Qk ixG (Qb 4) (eC (.int 4))) (E (.val (.lst (prD (acc++TR.prs p)))) (.val (.int n)) (.val (pgD p))) (shW w s (x+1))=some ((.nx,E (.val (.lst (prD (acc++TR.prs p)))) (.val (oN p.sd)) (.val (pgD p))),shW w s (x+1)):=QR (Qi (x:=pgD p) (Qe rfl) rfl (Q1 (i:=4) rfl _))
    exact (Qj s1).trans ((Qj s2).trans ((Qj s3).trans s4))
  have nxt:∀ (i:Nat) (x:Int),i < s.S.pg.length->nxD (Zb 0 s.S.pg.length) i (shW w s x)=some (some (.int (i:Int)),shW w s x):=fun i x hi=>by
    have e1:=XD (Zb 0 s.S.pg.length) i (by rw [Jq];lia) (shW w s x)
    have gi:=Ab (l:=Zb 0 s.S.pg.length) (i:=i) (by rw [Jq];lia)
    rw [gi,(xE gi).2] at e1
    exact e1
  have one:∀ (n:Nat) (p:TR.Pg),s.S.pg[n]?=some p->TR.qY s.S [n]=TR.prs p:=fun n p hn=>by
    unfold TR.qY TR.QbD
    rw [List.flatMap_cons,List.flatMap_nil,hn,Bs]
  induction c with
  | @last n p hn hs =>
    intro i fuel x acc z3 z4 h0 hi hf hb
    obtain ⟨g,rfl⟩:∃ g,fuel=g+1:=⟨fuel - 1,by lia⟩
    obtain ⟨q,a1,a2⟩:=h0 n (by simp)
    rw [hn] at a1;cases a1
    rw [one n p hn] at hb ⊢
    have hi':i+1<=s.S.pg.length:=hi
    have b:=turn n p i x acc z4 hn a2 hb
    rw [hs] at b
    have bb:(gN 3 (.int (i:Int)) [.val (.ref 0),.val (.lst (prD acc)),.val (.int n),z3,z4] >>= fun env'=>Zr env') (shW w s x)=some ((.nx,[.val (.ref 0),.val (.lst (prD (acc++TR.prs p))),.val .non,.val (.int (i:Int)),.val (pgD p)]),shW w s (x+1)):=b
    obtain ⟨g',rfl⟩:∃ g',g=g'+1:=⟨g - 1,by lia⟩
    by_cases e:i+1=s.S.pg.length
    . refine ⟨[.val (.ref 0),.val (.lst (prD (acc++TR.prs p))),.val .non,.val (.int (i:Int)),.val (pgD p)],x+1,.inl ⟨?_,rfl⟩⟩
      have e2:=XD (Zb 0 s.S.pg.length) (i+1) (by rw [Jq];lia) (shW w s (x+1))
      rw [Cn (by rw [Jq];lia)] at e2
      rw [JZ,Qf (nxt i x (by lia))]
      simp only
      rw [Qf bb]
      show JZ _ _ (g'+1) (i+1) _ _=_
      rw [JZ,Qf e2];rfl
    . let E:En:=[.val (.ref 0),.val (.lst (prD (acc++TR.prs p))),.val .non,.val (.int ((i+1:Nat):Int)),.val (pgD p)]
      have b2:Zr E (shW w s (x+1))=some ((.rt (.lst (prD (acc++TR.prs p))),E),shW w s (x+1)):=Q5 ((Zl (QU rfl)).trans (Qy (Qe rfl)))
      have bb2:(gN 3 (.int ((i+1:Nat):Int)) [.val (.ref 0),.val (.lst (prD (acc++TR.prs p))),.val .non,.val (.int (i:Int)),.val (pgD p)] >>= fun env'=>Zr env') (shW w s (x+1))=some ((.rt (.lst (prD (acc++TR.prs p))),E),shW w s (x+1)):=b2
      refine ⟨E,x+1,.inr ?_⟩
      rw [JZ,Qf (nxt i x (by lia))]
      simp only
      rw [Qf bb]
      show JZ _ _ (g'+1) (i+1) _ _=_
      rw [JZ,Qf (nxt (i+1) (x+1) (by lia))]
      simp only
      rw [Qf bb2];rfl
  | @next n p s' r hn hs c ih =>
    intro i fuel x acc z3 z4 h0 hi hf hb
    obtain ⟨g,rfl⟩:∃ g,fuel=g+1:=⟨fuel - 1,by lia⟩
    obtain ⟨q,a1,a2⟩:=h0 n (by simp)
    rw [hn] at a1;cases a1
    have lf:TR.qY s.S (n::r)=TR.prs p++TR.qY s.S r:=by
      rw [<- one n p hn];unfold TR.qY;rw [List.flatMap_cons,List.flatMap_cons,List.flatMap_nil,Bs]
    rw [lf] at hb ⊢
    simp only [A9,Am] at hi hb
    have b:=turn n p i x acc z4 hn a2 (by lia)
    rw [hs] at b
    have bb:(gN 3 (.int (i:Int)) [.val (.ref 0),.val (.lst (prD acc)),.val (.int n),z3,z4] >>= fun env'=>Zr env') (shW w s x)=some ((.nx,[.val (.ref 0),.val (.lst (prD (acc++TR.prs p))),.val (.int s'),.val (.int (i:Int)),.val (pgD p)]),shW w s (x+1)):=b
    obtain ⟨env,x',q⟩:=ih (i+1) g (x+1) (acc++TR.prs p) (.val (.int i)) (.val (pgD p)) (fun m hm=>h0 m (Ax _ hm)) (by lia) (by lia) (by simp;lia)
    have st:JZ (nxD (Zb 0 s.S.pg.length)) (fun d env=>gN 3 d env >>= fun env'=>Zr env') (g+1) i [.val (.ref 0),.val (.lst (prD acc)),.val (.int n),z3,z4] (shW w s x)=JZ (nxD (Zb 0 s.S.pg.length)) (fun d env=>gN 3 d env >>= fun env'=>Zr env') g (i+1) [.val (.ref 0),.val (.lst (prD (acc++TR.prs p))),.val (.int s'),.val (.int (i:Int)),.val (pgD p)] (shW w s (x+1)):=by
      rw [JZ,Qf (nxt i x (by lia))]
      simp only
      rw [Qf bb]
    refine ⟨env,x',?_⟩
    rw [st,<- A7]
    exact q
theorem QaL (N:TR.Nm ds s bg F M) (K:TR.Fk s.S) (h1:w[0]?=some (.ins "Shelf" (shF s.S.O2 1 s.S.top s.S.rd s.S.wr))) (h2:w[1]?=some (.lst (s.S.pg.map pgD))) (hl:s.S.pg.length < 90000) {z:Zs} (t:Tb kvs z F) (hz:z.length < 1000):∃ x,J8 [.ref 0] w=some (.lst (prD z),shW w s x):=by
 obtain ⟨r,c,_,ln,l0,so,me⟩:=TR.QcV N.T N.tb N.Z
 have le:TR.qY s.S r=z:=TR.qQ so t.rise fun x=>by
  have:=me x.1 x.2
  rw [show (x.1,x.2)=x from rfl] at this
  rw [this,t.fn]
 obtain ⟨x1,e1⟩:=QgB N K h1 h2 hl
 obtain ⟨env,x2,q⟩:=kj N h1 h2 c 0 100000 x1 [] .un .un l0 (by lia) (by lia) (by rw [le];simp;lia)
 rw [List.nil_append,le] at q
 let E:Sl->Sl->En:=fun z1 z2=>[.val (.ref 0),z1,z2,.un,.un]
 have s1:QC 1 (qg (Qn)) (E .un .un) w=some ((.nx,E (.val (.lst [])) .un),w):=QR rfl
 have s2:QC 2 (QI 1 Xi (Qc (Qb 0) (Qn))) (E (.val (.lst [])) .un) w=some ((.nx,E (.val (.lst [])) (.val (.int 0))),shW w s x1):=QR (Zw (Zq (Qe rfl)) rfl e1)
 have src:xOf (Vc (Qc (QJ "Shelf" "pages" 1 ZT (Qb 0) Qn) Qn)) (E (.val (.lst [])) (.val (.int 0))) (shW w s x1)=some (nxD (Zb 0 s.S.pg.length),shW w s x1):=yw (xk (m:=s.S.pg.length) (Zq ((Q7 (Qe rfl) (QdP h1 x1) (zV ..) zn rfl (V3 (QdP h1 x1) (show (shW w s x1)[1]?=_ from gs (by decide) h2))).trans (by rw [Br]))) (by lia))
 have s3:∀ q,JZ (nxD (Zb 0 s.S.pg.length)) (fun d env=>gN 3 d env >>= fun env'=>Zr env') 100000 0 (E (.val (.lst [])) (.val (.int 0))) (shW w s x1)=some q->YS (E (.val (.lst [])) (.val (.int 0))) (shW w s x1)=some q:=fun q h=>by
  unfold YS X7
  rw [Qf src];exact h
 refine ⟨x2,?_⟩
 rcases q with ⟨q1,q2⟩ | q
 ·exact Qv (env:=env) ((Qj s1).trans ((Qj s2).trans ((Qj (s3 _ q1)).trans (Qy (Qe q2)))))
 ·exact Qv (env:=env) ((Qj s1).trans ((Qj s2).trans (Q5 (s3 _ q))))
end
section
variable {w w1:Hs} {ds:List TR.Deed} {s s' s2:TR.St} {bg bg':TR.Bg} {F F':Eg} {M M':Nat->Option Int} {c:Nat} {o:TR.Out} {L:Nat->Nat}
theorem Qde (i:Nat) (h:TR.uP ds F M o F' M'):∃ x xs b,YZ i o=.tup (.str x::xs)/\∀ w,inG (.str x) (.tup [.str "put", .str "cut", .str "found", .str "read"]) w=some (.bl b,w):=by
  cases h with
  | rest=>exact ⟨_,_,false,rfl,fun _=>rfl⟩
  | take n=>exact ⟨_,_,false,rfl,fun _=>rfl⟩
  | @did n r d F' hn ft =>
    cases r with
    | non=>exact ft.elim
    | read a ps t=>cases t with
      | none=>exact ⟨_,_,true,rfl,fun _=>rfl⟩
      | some y=>obtain ⟨y1,y2⟩:=y;exact ⟨_,_,true,rfl,fun _=>rfl⟩
    | side a b=>exact ⟨_,_,false,rfl,fun _=>rfl⟩
    | down a b=>exact ⟨_,_,false,rfl,fun _=>rfl⟩
    | told a b=>exact ⟨_,_,false,rfl,fun _=>rfl⟩
    | raised a b=>exact ⟨_,_,false,rfl,fun _=>rfl⟩
    | found a x=>exact ⟨_,_,true,rfl,fun _=>rfl⟩
    | put a x b=>exact ⟨_,_,true,rfl,fun _=>rfl⟩
    | cut a x=>exact ⟨_,_,true,rfl,fun _=>rfl⟩
theorem QaO {v:Nat} {env:En} (hv:env[v]?=some (.val (.ref 7))) {z:Zs} (h7:w[7]?=some (.dic kvs)) (t:Tb kvs z F) (hz:z.length < 64):Z4 false (xLs (Zx yT (Qc (Qb v) (Qn)))) [v] (UA) (Zp (Qc (Qb 0) (Qc (Qk ixG (Qb 1) (Qb 0)) (Qn)))) env w=some (.lst (prD z),w):=by
 have so:=uy t.d t.rise hz (f:=Qb v) (env:=env) (n:=7) (hp:=w) (Qe hv) h7
 have src:xLs (Zx yT (Qc (Qb v) (Qn))) env w=some (nxD ((zK z).map .int),w):=by
  unfold xLs
  rw [Qf so];rfl
 have ce:∀ d:DV,cE [v] env d=[.val d,.val (.ref 7)]:=fun d=>by
  show [Sl.val d,Qa7 ((env[v]?).getD .un)]=_
  rw [hv];rfl
 have cx:=vw (hp:=w) (t:=fun d=>UA (cE [v] env d)) (f:=fun d=>Zp (Qc (Qb 0) (Qc (Qk ixG (Qb 1) (Qb 0)) (Qn))) (cE [v] env d)) z (fun _=>true) (fun q hq=>rfl) (fun q hq=>by
  show Zp _ (cE [v] env (.int q.1)) w=_
  rw [ce]
  exact Jc (ZM (Qe rfl) (Qi (x:=.ref 7) (y:=.int q.1) (Qe rfl) (Qe rfl) (Qam h7 (t.d.val t.rise hq)))) (by simp)) (by lia)
 rw [Cj.mpr (fun _ _=>rfl)] at cx
 unfold Z4
 rw [Qf src,Qf (show Z8 _ _ _ lim 0 w=_ from cx)];rfl
theorem eqP (z:Zs) (hp:Hs):eqG (.lst (prD z)) (.lst (prD z)) hp=some (.bl true,hp):=Qcs (n:=2) (x:=.lst (prD z)) (Qg9 z) (by decide) hp
theorem Qgo (i:Nat) (K:Bk w ds F M c) (N:TR.Nm ds s bg F M) (N':TR.Nm ds s' bg' F' M') (A:WB w ds s' L) (Kf:TR.Fk s'.S) (hd:ds.length<=60) (hc:c < 98000) (hp:s'.S.pg.length < 90000) (h:TR.uP ds F M o F' M'):∃ w' x,Xh [.ref 0,YZ i o,.ref 6,.ref 7,.ref 8] w=some (.bl true,w')/\Bk w' ds F' M' (c+1)/\WB w' ds (TR.rdS s' x) L:=by
  obtain ⟨w1,e1,K1,l1,o1⟩:=Qcx i K N hd hc h
  have A1:WB w1 ds s' L:=A.keep o1
  obtain ⟨x,xs,b,eo,hx⟩:=Qde i h
  let E:En:=[.val (.ref 0),.val (YZ i o),.val (.ref 6),.val (.ref 7),.val (.ref 8)]
  have s1:sIf (Jx (eB (QI 4 ZE (Qc (Qb 1) (Qc (Qb 2) (Qc (Qb 3) (Qc (Qb 4) (Qn)))))))) (QF (eC (.bl false))) (Q6) E w=some ((.nx,E),w1):=(QG (Xp (b:=true) (QU (Zw (vh (Qe rfl) (Qe rfl) (Qe rfl) (Qe rfl)) rfl e1)))).trans QH
  have t:eB (Qk inG (Qk ixG (Qb 1) (eC (.int 0))) (Zp (Qc (eC (.str "put")) (Qc (eC (.str "cut")) (Qc (eC (.str "found")) (Qc (eC (.str "read")) (Qn))))))) E w1=some (b,w1):=by
    have v1:Qb 1 E w1=some (.tup (.str x::xs),w1):=by rw [<- eo];exact Qe rfl
    exact QU (Qi (Qi v1 rfl (Q1 (i:=0) rfl w1)) rfl (hx w1))
  cases b with
  | false=>exact ⟨w1,s'.S.rd,Qv (env:=E) ((Qj s1).trans ((Qj ((QG t).trans QH)).trans (Qy rfl))),K1,A1⟩
  | true =>
    obtain ⟨kvs,z,h7,tb⟩:=K1.h7
    have hz:=kr N' tb
    obtain ⟨y,e2⟩:=QaL N' Kf A1.h1 A1.h2 hp tb (by lia)
    have h7':(shW w1 s' y)[7]?=some (.dic kvs):=gs (by decide) h7
    have cc:=QaO (v:=3) (env:=E) rfl h7' tb (by lia)
    have s2:QF (Qk eqG (QI 1 J8 (Qc (Qb 0) (Qn))) (Y7)) E w1=some ((.rt (.bl true),E),shW w1 s' y):=Qy (Qi (Zw (Zq (Qe rfl)) rfl e2) cc (eqP z _))
    exact ⟨shW w1 s' y,y,Qv (env:=E) ((Qj s1).trans (Q5 ((Zl t).trans s2))),K1.keep fun x hx=>QP _ _ _ _ (by lia),A1.rd y⟩
theorem Qcw {H:Nat} (A:WB w ds s L) (h60:ds.length<=60) (h8:8 < w.length) (hH0:0 < H) (hH8:H<=8) {os:List TR.Out} (R:TR.Run ds H 9000 0 s os s2) (hs:TR.still ds s2=true) (hl:s.ws.length=H) (ho:os.length < 90000):∃ w' L',Z5 [.ref 2] w=some (.ref w.length,w')/\WB w' ds s2 L'/\w'[w.length]?=some (.lst (KO H 0 os))/\(∀ x,x=6∨x=7∨x=8->w'[x]?=w[x]?):=by
  let f:=w.length
  let w0:Hs:=w++[OV.lst []]
  have A0:WB w0 ds s L:=A.keep fun x hx _ _=>Ag hx
  obtain ⟨w',L',h',e,A',gf,F⟩:=Qcv h60 (f:=f) h8 hH0 hH8 R w0 L [] 100000 hs hl A0 (by show (w++[OV.lst []])[w.length]?=_;simp) (fun i v hi hv=>.inr (A.small i v hi hv)) (by simp;lia) (by lia)
  have u1:QC 1 (XR Qn) [.val (.ref 2),.un,.un] w=some ((.nx,[.val (.ref 2),.val (.ref f),.un]),w0):=QR rfl
  have u2:QC 2 (eC (.int 0)) [.val (.ref 2),.val (.ref f),.un] w0=some ((.nx,[.val (.ref 2),.val (.ref f),.val (.int 0)]),w0):=QR rfl
  refine ⟨w',L',Qv (env:=[.val (.ref 2),.val (.ref f),.val (.int h')]) ((Qj u1).trans ((Qj u2).trans ((Qj e).trans (Qy (Qe rfl))))),A',gf,fun x hx=>?_⟩
  have lx:x < w.length:=by lia
  rw [F.old x (by simp [w0]; omega) (fun c => by rcases c with c | c; · unfold CW at c; omega
                                                 . exact absurd c (Be lx)) fun i u a1 a2=>.inl (by have:=(A.ob i u a1 a2).2.2.2;omega)]
  exact Ag lx
theorem Qea {f:DEx} {env:En} {hp hp1:Hs} {n:Nat} {ds:List DV} (h:f env hp=some (.ref n,hp1)) (hn:hp1[n]?=some (.lst ds)):xLs f env hp=some (nxW n,hp1):=by
 unfold xLs
 rw [Qf h]
 show (ZI n >>= _) hp1=_
 rw [Qf (Zi hn)];rfl
theorem Qbh {H f:Nat} (h60:ds.length<=60) (hok:∀ d∈ds,TR.Yj d) (hf7:f≠7) (hf8:f≠8) {h:Nat} {os:List TR.Out} (R:TR.Run ds H 9000 h s os s2):∀ (w:Hs) (bg:TR.Bg) (F:Eg) (M:Nat->Option Int) (c:Nat) (pre:List DV) (fuel:Nat) (e0 e1 e2 e3 e4 e8 z9 e10:Sl),TR.Nm ds s bg F M->Bk w ds F M c->w[f]?=some (.lst (pre++KO H h os))->os.length < fuel->c+os.length < 98000 ->
    ∃ w' bg' F' M' y9,JZ (nxW f) (fun d env=>gN 9 d env >>= fun env'=>xp env') fuel pre.length [e0,e1,e2,e3,e4,.val (.ref 6),.val (.ref 7),.val (.ref 8),e8,z9,e10] w=some ((.nx,[e0,e1,e2,e3,e4,.val (.ref 6),.val (.ref 7),.val (.ref 8),e8,y9,e10]),w')/\TR.Nm ds s2 bg' F' M'/\Bk w' ds F' M' (c+os.length)/\w.length<=w'.length/\∀ x,x < w.length->x≠7->x≠8->w'[x]?=w[x]?:=by
  induction R with
  | nil h s =>
    intro w bg F M c pre fuel e0 e1 e2 e3 e4 e8 z9 e10 N K gf hu hc
    obtain ⟨g,rfl⟩:∃ g,fuel=g+1:=⟨fuel - 1,by lia⟩
    have x:=yn gf pre.length
    rw [Cn (by show (pre++[]).length<=_;simp)] at x
    refine ⟨w,bg,F,M,z9,?_,N,K,Ae _,fun _ _ _ _=>rfl⟩
    rw [JZ,Qf x];rfl
  | @cons h s s1 s2 o os hs0 hlt yy em R ih =>
    intro w bg F M c pre fuel e0 e1 e2 e3 e4 e8 z9 e10 N K gf hu hc
    obtain ⟨g,rfl⟩:∃ g,fuel=g+1:=⟨fuel - 1,by lia⟩
    obtain ⟨_,b,Y,hb⟩:=yy
    have x:=yn gf pre.length
    rw [show (pre++KO H h (o::os))[pre.length]?=some (YZ h o) by rw [Ap (Ae _),Nat.sub_self];rfl] at x
    simp only [A9] at hu hc
    obtain ⟨bg1,F1,M1,N1,told⟩:=N.move hok Y.len hlt em
    obtain ⟨w1,e,K1,l1,o1⟩:=Qcx h K N h60 (by lia) told
    let E:Sl->En:=fun z=>[e0,e1,e2,e3,e4,.val (.ref 6),.val (.ref 7),.val (.ref 8),e8,z,e10]
    have bd:xp (E (.val (YZ h o))) w=some ((.nx,E (.val (YZ h o))),w1):=(QG (Xp (b:=true) (QU (Zw (vh (Qe rfl) (Qe rfl) (Qe rfl) (Qe rfl)) rfl e)))).trans QH
    have gf1:w1[f]?=some (.lst ((pre++[YZ h o])++KO H ((h+1) % H) os)):=(o1 f (Ac.mp gf).1 hf7 hf8).trans (by rw [gf,A7];rfl)
    obtain ⟨w2,bg2,F2,M2,y9,e2',N2,K2,l2,o2⟩:=ih w1 bg1 F1 M1 (c+1) (pre++[YZ h o]) g e0 e1 e2 e3 e4 e8 (.val (YZ h o)) e10 N1 K1 gf1 (by lia) (by lia)
    refine ⟨w2,bg2,F2,M2,y9,?_,N2,K2.up (by simp;lia),by lia,fun x hx h1 h2=>(o2 x (by lia) h1 h2).trans (o1 x hx h1 h2)⟩
    rw [JZ,Qf x]
    have bb:(gN 9 (YZ h o) [e0,e1,e2,e3,e4,.val (.ref 6),.val (.ref 7),.val (.ref 8),e8,z9,e10] >>= fun env'=>xp env') w=some ((.nx,E (.val (YZ h o))),w1):=bd
    simp only
    rw [Qf bb]
    rw [Am] at e2'
    exact e2'
theorem Qgm {H:Nat} (A:WB w ds s L) (N:TR.Nm ds s bg F M) (K:Bk w ds F M c) (h60:ds.length<=60) (hok:∀ d∈ds,TR.Yj d) (hH0:0 < H) (hH8:H<=8) {os:List TR.Out} (R:TR.Run ds H 9000 0 s os s2) (hs:TR.still ds s2=true) (hl:s.ws.length=H) (ho:os.length < 90000) (hc:c+os.length < 98000) (e0 e1 e2 e3 e8 z9 e10:Sl):
  ∃ w' L' bg' F' M' y9,Gf [e0,e1,e2,e3,.val (.ref 2),.val (.ref 6),.val (.ref 7),.val (.ref 8),e8,z9,e10] w=some ((.nx,[e0,e1,e2,e3,.val (.ref 2),.val (.ref 6),.val (.ref 7),.val (.ref 8),e8,y9,e10]),w')/\WB w' ds s2 L'/\TR.Nm ds s2 bg' F' M'/\Bk w' ds F' M' (c+os.length):=by
 obtain ⟨_,h8,_⟩:=K.h8
 have l8:8 < w.length:=(Ac.mp h8).1
 obtain ⟨w1,L1,e,A1,gf,o1⟩:=Qcw A h60 l8 hH0 hH8 R hs hl ho
 have K1:=K.keep o1
 obtain ⟨w2,bg',F',M',y9,e2',N2,K2,l2,o2⟩:=Qbh h60 hok (f:=w.length) (by lia) (by lia) R w1 bg F M c [] 100000 e0 e1 e2 e3 (.val (.ref 2)) e8 z9 e10 N K1 gf (by lia) hc
 refine ⟨w2,L1,bg',F',M',y9,?_,A1.keep o2,N2,K2⟩
 show X7 (xLs (QJ "Weaver" "finish" 1 Z5 (Qb 4) Qn)) (gN 9) (xp) _ w=_
 unfold X7
 have xx:xLs (QJ "Weaver" "finish" 1 Z5 (Qb 4) Qn) [e0,e1,e2,e3,.val (.ref 2),.val (.ref 6),.val (.ref 7),.val (.ref 8),e8,z9,e10] w=some (nxW w.length,w1):=Qea (Q7 (Qe rfl) A.hv (QiR _) zn rfl e) gf
 rw [Qf xx]
 exact e2'
end
theorem Qem (ns:List Int) (k:Nat) (hl:ns.length<=63):∃ x,Jv [.lst (ns.map .int),.int k]=pure (.int x):=by
 by_cases h:k < ns.length
 ·have a:=qB (xs:=ns.map DV.int) (j:=k) (v:=.int ns[k]) (by simp [h])
  refine ⟨ns[k],?_⟩
  have h':(k:Int) < (ns.length:Int):=by lia
  simp [Jv,YU,Q9,Qr,QC,QF,zQ,sIf,Q6,Uc,y6,Ua,Ub,Qk,Qb,eC,eB,asB,YA,eOr,Jx,Xn,VM,qh,eIf,YB,Qn,Qc,Zp,qg,QI,Zx,Qx,gN,Js,JP,JB,JC,JW,JU,JJ,q8,zO,V7,Z9,Xs,qN,ixD,asI,a,h']
 ·have h':¬ (k:Int) < (ns.length:Int):=by lia
  exact ⟨0,by simp [Jv,YU,Q9,Qr,QC,QF,zQ,sIf,Q6,Uc,y6,Ua,Ub,Qk,Qb,eC,eB,asB,YA,eOr,Jx,Xn,VM,qh,eIf,YB,Qn,Qc,Zp,qg,QI,Zx,Qx,gN,Js,JP,JB,JC,JW,JU,JJ,q8,zO,V7,Z9,Xs,qN,h']⟩
theorem qD {c k:Int} (h:Jw c) (hk:0 < k):Jw (c / k):=Qa3 (by
 have:=PySem.natAbs_fdiv_le c k
 rwa [Int.fdiv_eq_ediv_of_nonneg _ (by lia)] at this) h
theorem QeL {x y:Int} (hx:Jw x) (hy:Jw y):QeK (.int x) (.int y)=pure (.int (x * y)):=by
 have:QfM x y=true:=C4 ⟨hx,hy⟩
 simp [QeK,qK,this]
def Qi9:Y4 (.int 1000000007) (.int 3)=pure (.int 1000000021000000147000000343):=rfl
theorem QcO (c:Int) (h:Jw c) (hp:Hs):∃ k,XA [.int c] hp=some (.int k,hp):=by
  have d6:=ZB (Xm c 6 (by decide) (by decide)) hp
  have m6:=ZB (Jt c 6 (by decide)) hp
  let E:En:=[.val (.int c),.val (.int (c / 6))]
  have s1:QC 1 (Qk YX (Qb 0) (eC (.int 6))) [.val (.int c),.un] hp=some ((.nx,E),hp):=QR (Qi (Qe rfl) rfl d6)
  have t:∀ i:Int,eB (Qk eqD (Qk XS (Qb 0) (eC (.int 6))) (eC (.int i))) E hp=some (c % 6==i,hp):=fun i=>QU (Qi (Qi (Qe rfl) rfl m6) rfl (ZB (Z9 _ _) _))
  have p30:Qk Y4 (eC (.int 10)) (eC (.int 30)) E hp=some (.int 1000000000000000000000000000000,hp):=Qi rfl rfl (ZB q8 _)
  have hb:Jw (1000000021000000147000000343:Int):=by decide
  have m1:=ZB (QeL (qD h (k:=6) (by decide)) hb) hp
  have m2:=ZB (Jt (c / 6 * 1000000021000000147000000343) (2 * 1000000000000000000000000000000+1) (by decide)) hp
  have m3:=ZB (Qc5 2 1000000000000000000000000000000 (by decide) (by decide)) hp
  have m4:=ZB (Jt (c / 6) 4 (by decide)) hp
  have m17:=ZB (Jt (c / 6) 17 (by decide)) hp
  cases h0:(c % 6==0) with
  | true =>
    exact ⟨_,Qv (env:=E) ((Qj s1).trans (Q5 ((Zl ((t 0).trans (by rw [h0]))).trans (Qy (Qi (Qi (Qi (Qe rfl) (Qi rfl rfl (ZB Qi9 _)) m1) (Qi (Qi rfl p30 m3) rfl rfl) m2) p30 rfl)))))⟩
  | false =>
    cases h1:(c % 6==1) with
    | true =>
      have g0:0<=c / 6 % 4:=Int.emod_nonneg _ (by decide)
      have g1:c / 6 % 4 < 4:=Int.emod_lt_of_pos _ (by decide)
      have nn:YB (Qk Y4 (eC (.int 10)) (eC (.int 30))) E hp=some (.int (-1000000000000000000000000000000),hp):=rfl
      obtain ⟨v,hv⟩:∃ v:Int,ixD (.lst [.int 1000000000000000000000000000000,.int (-1000000000000000000000000000000),.int (1000000000000000000000000000000 - 1),.int (1 - 1000000000000000000000000000000)]) (.int (c / 6 % 4)) hp=some (.int v,hp):=by
        rcases (by lia:c / 6 % 4=0∨c / 6 % 4=1∨c / 6 % 4=2∨c / 6 % 4=3) with q | q | q | q<;>rw [q]<;>exact ⟨_,rfl⟩
      have ls:qg (Qc (Qk Y4 (eC (.int 10)) (eC (.int 30))) (Qc (YB (Qk Y4 (eC (.int 10)) (eC (.int 30)))) (Qc (Qk xQ (Qk Y4 (eC (.int 10)) (eC (.int 30))) (eC (.int 1))) (Qc (Qk xQ (eC (.int 1)) (Qk Y4 (eC (.int 10)) (eC (.int 30)))) (Qn))))) E hp=some (.lst [.int 1000000000000000000000000000000,.int (-1000000000000000000000000000000),.int (1000000000000000000000000000000 - 1),.int (1 - 1000000000000000000000000000000)],hp):=rfl
      exact ⟨v,Qv (env:=E) ((Qj s1).trans ((Qj ((QG ((t 0).trans (by rw [h0]))).trans QH)).trans (Q5 ((Zl ((t 1).trans (by rw [h1]))).trans (Qy (Qi ls (Qi (Qe rfl) rfl m4) hv))))))⟩
    | false =>
      exact ⟨_,Qv (env:=E) ((Qj s1).trans ((Qj ((QG ((t 0).trans (by rw [h0]))).trans QH)).trans ((Qj ((QG ((t 1).trans (by rw [h1]))).trans QH)).trans (Qy (Qi (Qi (Qe rfl) rfl m17) rfl rfl)))))⟩
theorem QdY (r:Nat) (h:2<=r):TR.Tree ⟨r,[⟨0,[],[],none,none⟩],0,0,0⟩ (fun _=>none):=by
 have one:∀ (n:Nat) (p:TR.Pg),([⟨0,[],[],none,none⟩]:List TR.Pg)[n]?=some p->n=0/\p=⟨0,[],[],none,none⟩:=fun n p hp=>by
  match n,hp with
  | 0,hp=>cases hp;exact ⟨rfl,rfl⟩
  | n+1,hp=>simp at hp
 refine ⟨h,⟨_,rfl,fun n p hp=>?_⟩,rfl,fun n p hp=>?_,fun n p hp=>?_,fun n p hp h0=>?_,fun n m p q hn hm _ e=>?_,fun n p hp v hv=>(by cases hv)⟩
 ·rw [(one n p hp).2];exact Ae _
 ·rw [(one n p hp).2]
  exact ⟨List.Pairwise.nil,Bc _,rfl,fun k hk=>(by cases hk),fun _ k hk=>(by cases hk),fun k hk=>(by cases hk),fun h hh=>(by cases hh)⟩
 ·rw [(one n p hp).2];exact .inl ⟨rfl,rfl⟩
 ·rw [(one n p hp).2] at h0;exact absurd h0 (by decide)
 ·exact absurd ((one n p hn).1.trans (one m q hm).1.symm) e
theorem Qgg (c:Int) (h:Jw c) (hp:Hs):∃ d,Ym [.int c] hp=some (QS d,hp)/\TR.Yj d:=by
  have m9:=ZB (Jt c 9 (by decide)) hp
  have d9:=ZB (Xm c 9 (by decide) (by decide)) hp
  have d37:=ZB (Xm c 37 (by decide) (by decide)) hp
  have d131:=ZB (Xm c 131 (by decide) (by decide)) hp
  obtain ⟨k,ke⟩:=QcO (c / 9) (qD h (by decide)) hp
  obtain ⟨x,xe⟩:=QcO (c / 37) (qD h (by decide)) hp
  obtain ⟨y,ye⟩:=QcO (c / 131) (qD h (by decide)) hp
  let E:Sl->En:=fun z=>[.val (.int c),.val (.int (c % 9)),.val (.int k),z]
  have s1:QC 1 (Qk XS (Qb 0) (eC (.int 9))) [.val (.int c),.un,.un,.un] hp=some ((.nx,[.val (.int c),.val (.int (c % 9)),.un,.un]),hp):=QR (Qi (Qe rfl) rfl m9)
  have s2:QC 2 (QI 1 XA (Qc (Qk YX (Qb 0) (eC (.int 9))) (Qn))) [.val (.int c),.val (.int (c % 9)),.un,.un] hp=some ((.nx,E .un),hp):=QR (Zw (Zq (Qi (Qe rfl) rfl d9)) rfl ke)
  have t0:eB (Qk eqD (Qb 1) (eC (.int 0))) (E .un) hp=some (c % 9==0,hp):=QU (Qi (Qe rfl) rfl (ZB (Z9 _ _) _))
  have tl:∀ i:Int,eB (Qk ltD (Qb 1) (eC (.int i))) (E .un) hp=some (decide (c % 9 < i),hp):=fun i=>QU (Qi (Qe rfl) rfl rfl)
  cases h0:(c % 9==0) with
  | true=>exact ⟨.find k,Qv (env:=E .un) ((Qj s1).trans ((Qj s2).trans (Q5 ((Zl (t0.trans (by rw [h0]))).trans (Qy (Jc (ZM rfl (Qe rfl)) (by simp))))))),trivial⟩
  | false =>
    cases h5:decide (c % 9 < 5) with
    | true=>exact ⟨.put k x,Qv (env:=E .un) ((Qj s1).trans ((Qj s2).trans ((Qj ((QG (t0.trans (by rw [h0]))).trans QH)).trans (Q5 ((Zl ((tl 5).trans (by rw [h5]))).trans (Qy (Jc (X3 rfl (Qe rfl) (Zw (Zq (Qi (Qe rfl) rfl d37)) rfl xe)) (by simp)))))))),trivial⟩
    | false =>
      cases h7:decide (c % 9 < 7) with
      | true=>exact ⟨.cut k,Qv (env:=E .un) ((Qj s1).trans ((Qj s2).trans ((Qj ((QG (t0.trans (by rw [h0]))).trans QH)).trans ((Qj ((QG ((tl 5).trans (by rw [h5]))).trans QH)).trans (Q5 ((Zl ((tl 7).trans (by rw [h7]))).trans (Qy (Jc (ZM rfl (Qe rfl)) (by simp))))))))),trivial⟩
      | false =>
        have s3:QC 3 (QI 1 XA (Qc (Qk YX (Qb 0) (eC (.int 131))) (Qn))) (E .un) hp=some ((.nx,E (.val (.int y))),hp):=QR (Zw (Zq (Qi (Qe rfl) rfl d131)) rfl ye)
        obtain ⟨y1,ny1,s4⟩:∃ y1:Int,y1≠k/\sIf (eB (Qk eqD (Qb 3) (Qb 2))) (QC 3 (Qk xQ (Qb 2) (eC (.int 1)))) (Q6) (E (.val (.int y))) hp=some ((.nx,E (.val (.int y1))),hp):=by
          have t:eB (Qk eqD (Qb 3) (Qb 2)) (E (.val (.int y))) hp=some (y==k,hp):=QU (Qi (Qe rfl) (Qe rfl) (ZB (Z9 _ _) _))
          cases e:(y==k) with
          | true=>exact ⟨k - 1,by lia,(Zl (t.trans (by rw [e]))).trans (QR (Qi (Qe rfl) rfl rfl))⟩
          | false=>exact ⟨y,fun q=>by rw [q] at e;simp at e,(QG (t.trans (by rw [e]))).trans QH⟩
        obtain ⟨y2,ny2,s5⟩:∃ y2:Int,y2≠k/\sIf (eB (Qk ltD (Qb 3) (YB (Qk Y4 (eC (.int 10)) (eC (.int 30)))))) (QC 3 (Qk Jd (Qb 2) (eC (.int 1)))) (Q6) (E (.val (.int y1))) hp=some ((.nx,E (.val (.int y2))),hp):=by
          have t:eB (Qk ltD (Qb 3) (YB (Qk Y4 (eC (.int 10)) (eC (.int 30))))) (E (.val (.int y1))) hp=some (decide (y1 < -1000000000000000000000000000000),hp):=QU (Qi (y:=.int (-1000000000000000000000000000000)) (Qe rfl) rfl rfl)
          cases e:decide (y1 < -1000000000000000000000000000000) with
          | true=>exact ⟨k+1,by lia,(Zl (t.trans (by rw [e]))).trans (QR (Qi (Qe rfl) rfl rfl))⟩
          | false=>exact ⟨y1,ny1,(QG (t.trans (by rw [e]))).trans QH⟩
        obtain ⟨lo,hlo,blo⟩:∃ m:Int,QeJ [.int k,.int y2]=pure (.int m)/\m=(if y2 < k then y2 else k):=⟨_,rfl,rfl⟩
        obtain ⟨hi,hhi,bhi⟩:∃ m:Int,QeG [.int k,.int y2]=pure (.int m)/\m=(if y2 > k then y2 else k):=⟨_,rfl,rfl⟩
        exact ⟨.stretch lo hi,Qv (env:=E (.val (.int y2))) ((Qj s1).trans ((Qj s2).trans ((Qj ((QG (t0.trans (by rw [h0]))).trans QH)).trans ((Qj ((QG ((tl 5).trans (by rw [h5]))).trans QH)).trans ((Qj ((QG ((tl 7).trans (by rw [h7]))).trans QH)).trans ((Qj s3).trans ((Qj s4).trans ((Qj s5).trans (Qy (Jc (X3 rfl (XC (ZM (Qe rfl) (Qe rfl)) (ZB hlo _)) (XC (ZM (Qe rfl) (Qe rfl)) (ZB hhi _))) (by simp))))))))))),by show lo < hi;rw [blo,bhi];split<;>split<;>lia⟩
def ahD (st:Int) (n:Nat):List TR.Deed:=(List.range n).map fun j:Nat=>.put ((j:Int) * st % 47 - 9) (100+j)
theorem Qee (c:Int) (hp:Hs):∃ ds:List TR.Deed,ds.length<=23/\(∀ d∈ds,TR.Yj d)/\YD [.int c] hp=some (.ref hp.length,hp++[.lst (ds.map QS)]):=by
 have d24:=ZB (Xm c 24 (by decide) (by decide)) hp
 have m5:=ZB (Jt (c / 24) 5 (by decide)) hp
 have m24:=ZB (Jt c 24 (by decide)) hp
 have g0:0<=c / 24 % 5:=Int.emod_nonneg _ (by decide)
 have g1:c / 24 % 5 < 5:=Int.emod_lt_of_pos _ (by decide)
 have g2:0<=c % 24:=Int.emod_nonneg _ (by decide)
 have g3:c % 24 < 24:=Int.emod_lt_of_pos _ (by decide)
 obtain ⟨n,hn⟩:=Qc8 g2
 obtain ⟨st,hst,s0,s1⟩:∃ st:Int,ixG (.lst [.int 7,.int 11,.int 23,.int 1,.int 46]) (.int (c / 24 % 5)) hp=some (.int st,hp)/\0<=st/\st<=46:=by
  rcases (by lia:c / 24 % 5=0∨c / 24 % 5=1∨c / 24 % 5=2∨c / 24 % 5=3∨c / 24 % 5=4) with q | q | q | q | q<;>rw [q]<;>exact ⟨_,rfl,by decide,by decide⟩
 let E:En:=[.val (.int c),.val (.int st)]
 have u1:QC 1 (Qk ixG (qg (Qc (eC (.int 7)) (Qc (eC (.int 11)) (Qc (eC (.int 23)) (Qc (eC (.int 1)) (Qc (eC (.int 46)) (Qn))))))) (Qk XS (Qk YX (Qb 0) (eC (.int 24))) (eC (.int 5)))) [.val (.int c),.un] hp=some ((.nx,E),hp):=QR (Qi rfl (Qi (Qi (Qe rfl) rfl d24) rfl m5) hst)
 let g:DV->DV:=fun d=>match d with | .int j=>.tup [.str "put", .int (j * st % 47 - 9),.int (100+j)] | _=>.non
 have cx:=Ks (hp:=hp) (t:=fun d=>UA (cE [1] E d)) (f:=fun d=>Zp (Qc (eC (.str "put")) (Qc (Qk xQ (Qk XS (Qk Qbw (Qb 0) (Qb 1)) (eC (.int 47))) (eC (.int 9))) (Qc (Qk Jd (eC (.int 100)) (Qb 0)) (Qn)))) (cE [1] E d)) (g:=g) (Zb 0 n) (fun _ _=>rfl) (fun d hd=>by
  obtain ⟨j,hj⟩:=List.getElem?_of_mem hd
  obtain ⟨j1,rfl⟩:=xE hj
  exact Jc (X3 rfl (Qi (Qi (Qi (x:=.int (j:Int)) (y:=.int st) rfl rfl (ZB (Qc5 (j:Int) st (by lia) (by lia)) hp)) rfl (ZB (Jt _ 47 (by decide)) hp)) rfl rfl) (Qi rfl rfl rfl)) (by simp)) (by rw [Jq];lia)
 have e:(Zb 0 n).map g=(ahD st n).map QS:=by
  unfold ahD Zb
  rw [List.map_map,List.map_map]
  apply List.map_congr_left
  intro j _
  show g (.int ((0:Nat)+(j:Int)))=QS (.put ((j:Int) * st % 47 - 9) (100+j))
  simp [g,QS]
 rw [e] at cx
 refine ⟨ahD st n,by unfold ahD;simp;lia,fun d hd=>by
  obtain ⟨j,_,rfl⟩:=Cv.mp hd
  trivial,Qv (env:=E) ((Qj u1).trans (Qy ?_))⟩
 unfold jq Z4
 rw [Qf (yw (xk (m:=n) (Zq ((Qi (Qe rfl) rfl m24).trans (by rw [hn]))) (by lia))),Qf (show Z8 _ _ _ lim 0 hp=_ from cx)];rfl
theorem QfD (S P:OV) (n:Nat) (hn:n<=8):Jz [.ref 2,.ref 0,.int n] [S,P,.ins "Weaver" []]=some (.non,[S,P,.ins "Weaver" (wvF 0),.lst [],.lst (List.replicate n .non),.lst []]):=by
 let E:En:=[.val (.ref 2),.val (.ref 0),.val (.int n)]
 let w:List (Str×DV)->Hs->Hs:=fun fs t=>S::P::.ins "Weaver" fs::t
 have st:∀ (nm:Str) (e:DEx) (v:DV) (fs:List (Str×DV)) (t t':Hs),e E (w fs t)=some (v,w fs t')->fs.length < 1000->Zc "Weaver" nm (Qb 0) e E (w fs t)=some ((.nx,E),w (JK nm v fs) t'):=fun nm e v fs t t' he hl=>by
  rw [Jg he (Qe rfl) rfl hl];rfl
 have ml:Qk Qc6 (qg (Qc (eC .non) (Qn))) (Qb 2) E (w [("shelf", .ref 0),("deeds", .ref 3),("taken", .int 0)] [.lst []])=some (.ref 4,w [("shelf", .ref 0),("deeds", .ref 3),("taken", .int 0)] [.lst [],.lst (List.replicate n .non)]):=by
  refine Qi (x:=.lst [.non]) (y:=.int n) rfl (Qe rfl) ?_
  unfold Qc6
  show (Qx (decide (0<=(n:Int)/\(n:Int).toNat<=100000)) >>= fun _=>XX (.lst (List.replicate (n:Int).toNat .non)):M DV) _=_
  rw [C4 ⟨by lia,by lia⟩];rfl
 refine QaH (env:=E) ?_
 refine (Qj (st "shelf" _ (.ref 0) [] [] [] (Qe rfl) (by decide))).trans ?_
 refine (Qj (st "deeds" _ (.ref 3) [("shelf", .ref 0)] [] [.lst []] rfl (show (1:Nat) < 1000 by decide))).trans ?_
 refine (Qj (st "taken" _ (.int 0) [("shelf", .ref 0),("deeds", .ref 3)] [.lst []] [.lst []] rfl (show (2:Nat) < 1000 by decide))).trans ?_
 refine (Qj (st "held" _ (.ref 4) [("shelf", .ref 0),("deeds", .ref 3),("taken", .int 0)] [.lst []] [.lst [],.lst (List.replicate n .non)] ml (show (3:Nat) < 1000 by decide))).trans ?_
 exact st "done" _ (.ref 5) [("shelf", .ref 0),("deeds", .ref 3),("taken", .int 0),("held", .ref 4)] [.lst [],.lst (List.replicate n .non)] [.lst [],.lst (List.replicate n .non),.lst []] rfl (show (4:Nat) < 1000 by decide)
section
variable {w:Hs} {s:TR.St} {L:Nat->Nat} {ds:List TR.Deed} {bg bg0:TR.Bg} {B H c:Nat} {F:Eg} {M:Nat->Option Int}
theorem kJ {e1 e2 e3 e4 e5:DEx} (h1:e1 env hp=some (v1,hp)) (h2:e2 env hp=some (v2,hp1)) (h3:e3 env hp1=some (v3,hp1)) (h4:e4 env hp1=some (v4,hp1)) (h5:e5 env hp1=some (v5,hp1)):Qc e1 (Qc e2 (Qc e3 (Qc e4 (Qc e5 Qn)))) env hp=some ([v1,v2,v3,v4,v5],hp1):=by
 have r:=vh h2 h3 h4 h5
 show (do let x <- e1 env;let xs <- Qc e2 (Qc e3 (Qc e4 (Qc e5 Qn))) env;pure (x::xs)) hp=_
 rw [Qf h1,Qf r];rfl
theorem KA:∀ (rest pre:List TR.Deed) (fuel:Nat) (w:Hs) (e0 e1 e2 e3 e5 e6 e7 z8 e9 e10:Sl),w[6]?=some (.lst ((pre++rest).map QS))->w[2]?=some (.ins "Weaver" (wvF 0))->w[3]?=some (.lst (pre.map QS))->(pre++rest).length<=60->rest.length < fuel ->
    ∃ y8,JZ (nxW 6) (fun d env=>gN 8 d env >>= fun env'=>xq env') fuel pre.length [e0,e1,e2,e3,.val (.ref 2),e5,e6,e7,z8,e9,e10] w=some ((.nx,[e0,e1,e2,e3,.val (.ref 2),e5,e6,e7,y8,e9,e10]),w.set 3 (.lst ((pre++rest).map QS)))
  | [],pre,fuel,w,e0,e1,e2,e3,e5,e6,e7,z8,e9,e10,h6,h2,h3,hl,hf=>by
    obtain ⟨g,rfl⟩:∃ g,fuel=g+1:=⟨fuel - 1,by lia⟩
    have x:=yn h6 pre.length
    rw [Cn (by simp)] at x
    refine ⟨z8,?_⟩
    rw [JZ,Qf x,Bs,G0 h3];rfl
  | d::rest,pre,fuel,w,e0,e1,e2,e3,e5,e6,e7,z8,e9,e10,h6,h2,h3,hl,hf=>by
    obtain ⟨g,rfl⟩:∃ g,fuel=g+1:=⟨fuel - 1,by lia⟩
    have x:=yn h6 pre.length
    rw [Bt,Ap (Ae _),Nat.sub_self] at x
    have hl':pre.length+(rest.length+1)<=60:=by simpa using hl
    let E:Sl->En:=fun z=>[e0,e1,e2,e3,.val (.ref 2),e5,e6,e7,z,e9,e10]
    have hd:=QcF (d:=QS d) h2 h3 (by rw [Br];lia)
    have b:xq (E (.val (QS d))) w=some ((.nx,E (.val (QS d))),w.set 3 (.lst ((pre++[d]).map QS))):=(JN (Q7 (Qe rfl) h2 (Qf4 _) (Zq (Qe rfl)) rfl hd)).trans (by rw [List.map_append];rfl)
    obtain ⟨y8,e⟩:=KA rest (pre++[d]) g (w.set 3 (.lst ((pre++[d]).map QS))) e0 e1 e2 e3 e5 e6 e7 (.val (QS d)) e9 e10 (by rw [A7];exact gs (by decide) h6) (gs (by decide) h2) (gss h3) (by rw [A7];exact hl) (by simp at hf;lia)
    refine ⟨y8,?_⟩
    rw [JZ,Qf x]
    simp only [List.getElem?_cons_zero,Option.map_some]
    have bb:(gN 8 (QS d) [e0,e1,e2,e3,.val (.ref 2),e5,e6,e7,z8,e9,e10] >>= fun env'=>xq env') w=some ((.nx,E (.val (QS d))),w.set 3 (.lst ((pre++[d]).map QS))):=b
    rw [Qf bb]
    rw [Am,List.set_set,A7] at e
    exact e
theorem Qf9 (A:WB w ds s L) (N:TR.Nm ds s bg0 F M) (K:Bk w ds F M c) (hok:∀ d∈ds,TR.Yj d) (hcc:c < 97000) (Y:TR.StOk ds s bg (fun _=>B)) (hH0:0 < H) (hH8:H<=8) (hl:s.ws.length=H) (hB:B<=8000) (ns:List Int) {k:Nat} {cc:Int} (hk:ns[k]?=some cc) (hc:Jw cc) (hd:ds.length<=47) (hdk:k < 24->ds.length<=46) (e1 e8 e9:Sl):
    ∃ w' ds' s' L' bg0' F' M' bg', GH [.val (.lst (ns.map .int)), e1, .val (.int (H : Nat)), .val (.ref 0), .val (.ref 2), .val (.ref 6), .val (.ref 7), .val (.ref 8), e8, e9, .val (.int k)] w = some ((.nx, [.val (.lst (ns.map .int)), e1, .val (.int (H : Nat)), .val (.ref 0), .val (.ref 2), .val (.ref 6), .val (.ref 7), .val (.ref 8), e8, e9, .val (.int k)]), w') /\
      WB w' ds' s' L'/\TR.Nm ds' s' bg0' F' M'/\Bk w' ds' F' M' (c+1)/\(∀ d∈ds',TR.Yj d)/\TR.StOk ds' s' bg' (fun _=>B+1)/\s'.ws.length=H/\ds'.length=ds.length+(if k < 24 then 1 else 0)/\ds'.length - s'.tk<=ds.length - s.tk+(if k < 24 then 1 else 0):=by
  let E:En:=[.val (.lst (ns.map .int)),e1,.val (.int (H:Nat)),.val (.ref 0),.val (.ref 2),.val (.ref 6),.val (.ref 7),.val (.ref 8),e8,e9,.val (.int k)]
  have sc:∀ (w:Hs),Qk ixG (Qb 0) (Qb 10) E w=some (.int cc,w):=fun w=>by
    refine Qi (x:=.lst (ns.map .int)) (y:=.int (k:Int)) (Qe rfl) (Qe rfl) ?_
    have a:=qB (xs:=ns.map DV.int) (j:=k) (v:=.int cc) (by rw [Bt,hk];rfl)
    show (ixD (.lst (ns.map .int)) (.int (k:Int))) w=_
    simp only [ixD,asI,C7,a];rfl
  obtain ⟨w1,ds',u1,A1,K1,N1,hok1,Y1,dl⟩:∃ w1 ds',sIf (eB (Qk ltD (Qb 10) (eC (.int 24)))) (Qr (ZP (Z1 "list" ZD (Qb 5) (Qc (QI 1 Ym (Qc (Qk ixG (Qb 0) (Qb 10)) (Qn))) (Qn)))) (ZP (QJ "Weaver" "hand_in" 2 ZW (Qb 4) (Qc (Qk ixG (Qb 5) (YB (eC (.int 1)))) (Qn))))) (Q6) E w=some ((.nx,E),w1)/\WB w1 ds' s L/\Bk w1 ds' F M c/\TR.Nm ds' s bg0 F M/\(∀ d∈ds',TR.Yj d)/\TR.StOk ds' s bg (fun _=>B)/\ds'.length=ds.length+(if k < 24 then 1 else 0):=by
    by_cases h24:k < 24
    . obtain ⟨d,de,dok⟩:=Qgg cc hc w
      have t:eB (Qk ltD (Qb 10) (eC (.int 24))) E w=some (true,w):=QU (Qi (x:=.int (k:Int)) (Qe rfl) rfl (show some (DV.bl (decide ((k:Int) < 24)),w)=_ by rw [C4 (by lia)]))
      let w0:Hs:=w.set 6 (.lst ((ds++[d]).map QS))
      have a1:Z1 "list" ZD (Qb 5) (Qc (QI 1 Ym (Qc (Qk ixG (Qb 0) (Qb 10)) (Qn))) (Qn)) E w=some (.non,w0):=(xU (Qe rfl) K.h6 (Zw (Zq (sc _)) rfl de) (by rw [Br];lia)).trans (by show some (DV.non,w.set 6 (.lst (ds.map QS++[QS d])))=some (DV.non,w.set 6 (.lst ((ds++[d]).map QS)));rw [List.map_append];rfl)
      have A0:WB w0 ds s L:=A.put6
      have h60:w0[6]?=some (.lst ((ds++[d]).map QS)):=gss K.h6
      have hn:=QcF (d:=QS d) A0.hv A0.hd (by rw [Br];lia)
      have last:Qk ixG (Qb 5) (YB (eC (.int 1))) E w0=some (QS d,w0):=by
        refine Qi (x:=.ref 6) (y:=.int (-1)) (Qe rfl) rfl ?_
        show (ZI 6 >>= _) w0=_
        rw [Qf (Zi h60)]
        show (zN (atI ((ds++[d]).map QS) (-1))) w0=_
        rw [List.map_append,show ([d].map QS)=[QS d] from rfl,Qb2];rfl
      have a2:QJ "Weaver" "hand_in" 2 ZW (Qb 4) (Qc (Qk ixG (Qb 5) (YB (eC (.int 1)))) (Qn)) E w0=some (.int (ds.length:Nat),w0.set 3 (.lst ((ds++[d]).map QS))):=(Q7 (Qe rfl) A0.hv (Qf4 _) (Zq last) rfl hn).trans (by rw [Br,List.map_append];rfl)
      obtain ⟨kvs,z,b1,b2⟩:=K.h7
      obtain ⟨av,b3,b4⟩:=K.h8
      exact ⟨_,ds++[d],(Zl t).trans ((Qj (JN a1)).trans (JN a2)),A0.hand d,⟨gs (by decide) h60,⟨kvs,z,gs (by decide) (gs (by decide) b1),b2⟩,⟨av,gs (by decide) (gs (by decide) b3),b4⟩⟩,N.more d,fun e he=>by
        rcases Ah.mp he with he | he
        . exact hok e he
        . rw [Aq.mp he];exact dok,Y.more d,by rw [C0 h24];simp⟩
    . have t:eB (Qk ltD (Qb 10) (eC (.int 24))) E w=some (false,w):=QU (Qi (x:=.int (k:Int)) (Qe rfl) rfl (show some (DV.bl (decide ((k:Int) < 24)),w)=_ by rw [C6 (by lia)]))
      exact ⟨w,ds,(QG t).trans QH,A,K,N,hok,Y,by rw [Cz h24];lia⟩
  have hd60:ds'.length<=60:=by rw [dl];split<;>lia
  have g0:0<=cc / 3 % (H:Int):=Int.emod_nonneg _ (by lia)
  have g1:cc / 3 % (H:Int) < H:=Int.emod_lt_of_pos _ (by lia)
  obtain ⟨i,hi⟩:=Qc8 g0
  rw [hi] at g1
  have hiH:i < s.ws.length:=by lia
  have d3:=ZB (Xm cc 3 (by decide) (by decide)) w1
  have mH:=ZB (Jt (cc / 3) (H:Int) (by lia)) w1
  rw [hi] at mH
  have ei:Qk XS (Qk YX (Qk ixG (Qb 0) (Qb 10)) (eC (.int 3))) (Qb 2) E w1=some (.int (i:Int),w1):=Qi (Qi (sc _) rfl d3) (Qe rfl) mH
  obtain ⟨o,s',bg',em,Y2,l2,t2,_⟩:=TR.Qc7 Y1 hiH
  obtain ⟨_,h8,_⟩:=K1.h8
  have l8:8 < w1.length:=(Ac.mp h8).1
  obtain ⟨w2,L2,e2,A2,F2⟩:=Qc4 A1 Y1 hiH hd60 l8 (by show B<=9000;lia) em
  have K2:Bk w2 ds' F M c:=K1.keep fun x hx=>F2.old x (by lia) (by unfold CW;lia) fun i u a1 a2=>.inl (by have:=(A1.ob i u a1 a2).2.2.2;lia)
  obtain ⟨bg0',F',M',N2,told⟩:=N1.move hok1 Y1.len hiH em
  have pg:=Y2.pages
  have tk:=Y2.tk
  obtain ⟨w3,x,e3,K3,A3⟩:=Qgo i K2 N1 N2 A2 Y2.K hd60 (by lia) (by lia) told
  have u2:sIf (Jx (eB (QI 5 Xh (Qc (Qb 3) (Qc (QJ "Weaver" "move" 2 ZG (Qb 4) (Qc (Qk XS (Qk YX (Qk ixG (Qb 0) (Qb 10)) (eC (.int 3))) (Qb 2)) (Qn))) (Qc (Qb 5) (Qc (Qb 6) (Qc (Qb 7) (Qn))))))))) (QF (eC (.bl false))) (Q6) E w1=some ((.nx,E),w3):=(QG (Xp (b:=true) (QU (Zw (kJ (Qe rfl) (Q7 (Qe rfl) A1.hv (Qf2 _) (Zq ei) rfl e2) (Qe rfl) (Qe rfl) (Qe rfl)) rfl e3)))).trans QH
  refine ⟨w3,ds',TR.rdS s' x,L2,bg0',F',M',bg',(Qj u1).trans u2,A3,N2.rd x,K3,hok1,(Y2.mono fun j _=>?_).rd x,by show s'.ws.length=H;rw [l2];exact hl,dl,?_⟩
  . show (if j=i then B+1 else B)<=B+1
    split<;>lia
  . show ds'.length - s'.tk<=_
    rw [dl];split<;>lia
end
theorem QcS (ns:List Int) (h:ns.length<=63) (hb:∀ x∈ns,Jw x):∃ hp,vg [.lst (ns.map .int)] []=some (.bl true,hp):=by
 let X:DV:=.lst (ns.map .int)
 obtain ⟨c0,e0⟩:=Qem ns 0 h
 have e0':=ZB e0
 simp only [Int.natCast_zero] at e0'
 have g0:0<=c0 % 8:=Int.emod_nonneg _ (by decide)
 have g1:c0 % 8 < 8:=Int.emod_lt_of_pos _ (by decide)
 obtain ⟨H,hn,n1,n8⟩:∃ n:Nat,1+c0 % 8=(n:Int)/\1<=n/\n<=8:=⟨(1+c0 % 8).toNat,by lia,by lia,by lia⟩
 have q0:0<=c0 / 8 % 4:=Int.emod_nonneg _ (by decide)
 have q1:c0 / 8 % 4 < 4:=Int.emod_lt_of_pos _ (by decide)
 obtain ⟨r,hr,r2,r5⟩:∃ n:Nat,2+c0 / 8 % 4=(n:Int)/\2<=n/\n<=5:=⟨(2+c0 / 8 % 4).toNat,by lia,by lia,by lia⟩
 have m8:=ZB (Jt c0 8 (by decide)) ([]:Hs)
 have d8:=ZB (Xm c0 8 (by decide) (by decide)) ([]:Hs)
 have m4:=ZB (Jt (c0 / 8) 4 (by decide)) ([]:Hs)
 let S:OV:=.ins "Shelf" (shF r 1 0 0 0)
 let P:OV:=.lst [emp]
 let w6:Hs:=[S,P,.ins "Weaver" (wvF 0),.lst [],.lst (List.replicate H .non),.lst []]
 let E:Sl->Sl->Sl->Sl->Sl->Sl->Sl->En:=fun z1 z2 z3 z4 z5 z6 z7=>[.val X,z1,z2,z3,z4,z5,z6,z7,.un,.un,.un]
 have s1:QC 1 (QI 2 Jv (Qc (Qb 0) (Qc (eC (.int 0)) (Qn)))) (E .un .un .un .un .un .un .un) []=some ((.nx,E (.val (.int c0)) .un .un .un .un .un .un),[]):=QR (Zw (ZM (Qe rfl) rfl) rfl (e0' _))
 have s2:QC 2 (Qk Jd (eC (.int 1)) (Qk XS (Qb 1) (eC (.int 8)))) (E (.val (.int c0)) .un .un .un .un .un .un) []=some ((.nx,E (.val (.int c0)) (.val (.int H)) .un .un .un .un .un),[]):=QR (Qi rfl (Qi (Qe rfl) rfl m8) (show some (DV.int (1+c0 % 8),[])=some (DV.int H,[]) by rw [hn]))
 let E3:Sl->Sl->Sl->Sl->Sl->En:=fun z3 z4 z5 z6 z7=>E (.val (.int c0)) (.val (.int H)) z3 z4 z5 z6 z7
 have er:Qk Jd (eC (.int 2)) (Qk XS (Qk YX (Qb 1) (eC (.int 8))) (eC (.int 4))) (E3 .un .un .un .un .un) []=some (.int r,[]):=Qi rfl (Qi (Qi (Qe rfl) rfl d8) rfl m4) (show some (DV.int (2+c0 / 8 % 4),[])=some (DV.int r,[]) by rw [hr])
 have s3:QC 3 (Xo "Shelf" 2 Jk (Qc (Qk Jd (eC (.int 2)) (Qk XS (Qk YX (Qb 1) (eC (.int 8))) (eC (.int 4)))) (Qn))) (E3 .un .un .un .un .un) []=some ((.nx,E3 (.val (.ref 0)) .un .un .un .un),[S,P]):=by
  refine QR ?_
  unfold Xo
  have al:XX (.ins "Shelf" []) ([]:Hs)=some (.ref 0,[.ins "Shelf" []]):=rfl
  have gd:Qx (decide ([DV.int r].length+1=2)) ([]:Hs)=some ((),[]):=rfl
  rw [Qf (Zq er),Qf gd,Qf al]
  have ii:=QeB r []
  exact (Qf ii).trans rfl
 have s4:QC 4 (Xo "Weaver" 3 Jz (Qc (Qb 3) (Qc (Qb 2) (Qn)))) (E3 (.val (.ref 0)) .un .un .un .un) [S,P]=some ((.nx,E3 (.val (.ref 0)) (.val (.ref 2)) .un .un .un),w6):=by
  refine QR ?_
  have al:XX (.ins "Weaver" []) [S,P]=some (.ref 2,[S,P,.ins "Weaver" []]):=rfl
  have gd:Qx (decide ([DV.ref 0,DV.int H].length+1=3)) [S,P]=some ((),[S,P]):=rfl
  have aa:Qc (Qb 3) (Qc (Qb 2) (Qn)) (E3 (.val (.ref 0)) .un .un .un .un) [S,P]=some ([.ref 0,.int H],[S,P]):=ZM (Qe rfl) (Qe rfl)
  show (Qc _ _ _ >>= _) _=_
  rw [Qf aa,Qf gd,Qf al,Qf (QfD S P H n8)];rfl
 obtain ⟨ds,dl,dok,ea⟩:=Qee (c0 / 32) w6
 have d32:=ZB (Xm c0 32 (by decide) (by decide)) w6
 let w7:Hs:=w6++[OV.lst (ds.map QS)]
 have s5:QC 5 (QI 1 YD (Qc (Qk YX (Qb 1) (eC (.int 32))) (Qn))) (E3 (.val (.ref 0)) (.val (.ref 2)) .un .un .un) w6=some ((.nx,E3 (.val (.ref 0)) (.val (.ref 2)) (.val (.ref 6)) .un .un),w7):=QR (Zw (Zq (Qi (Qe rfl) rfl d32)) rfl ea)
 let w8:Hs:=w7++[OV.dic []]
 have s6:QC 6 (JY) (E3 (.val (.ref 0)) (.val (.ref 2)) (.val (.ref 6)) .un .un) w7=some ((.nx,E3 (.val (.ref 0)) (.val (.ref 2)) (.val (.ref 6)) (.val (.ref 7)) .un),w8):=QR rfl
 let w9:Hs:=w8++[OV.dic []]
 have s7:QC 7 (JY) (E3 (.val (.ref 0)) (.val (.ref 2)) (.val (.ref 6)) (.val (.ref 7)) .un) w8=some ((.nx,E3 (.val (.ref 0)) (.val (.ref 2)) (.val (.ref 6)) (.val (.ref 7)) (.val (.ref 8))),w9):=QR rfl
 have k6:w9[6]?=some (.lst (([]++ds).map QS)):=rfl
 obtain ⟨y8,el⟩:=KA ds [] 100000 w9 (.val X) (.val (.int c0)) (.val (.int H)) (.val (.ref 0)) (.val (.ref 6)) (.val (.ref 7)) (.val (.ref 8)) .un .un .un k6 rfl rfl (by simp;lia) (by lia)
 let EX:Sl->Sl->En:=fun z9 z10=>[.val X,.val (.int c0),.val (.int H),.val (.ref 0),.val (.ref 2),.val (.ref 6),.val (.ref 7),.val (.ref 8),y8,z9,z10]
 let wA:Hs:=[S,P,.ins "Weaver" (wvF 0),.lst (ds.map QS),.lst (List.replicate H .non),.lst [],.lst (ds.map QS),.dic [],.dic []]
 have s8:kF (E3 (.val (.ref 0)) (.val (.ref 2)) (.val (.ref 6)) (.val (.ref 7)) (.val (.ref 8))) w9=some ((.nx,EX .un .un),wA):=by
  show X7 (xLs (Qb 5)) (gN 8) (xq) _ w9=_
  unfold X7
  rw [Qf (QaR (n:=6) (Qe rfl) k6)];exact el
 let d0:TR.Wk:=⟨.find 0,0,0,none,[],none,none,[],true⟩
 let S0:TR.Sh:=⟨r,[⟨0,[],[],none,none⟩],0,0,0⟩
 let s0:TR.St:=⟨S0,List.replicate H d0,List.replicate H 0,0⟩
 have dead:∀ (i:Nat) (v:TR.Wk),(List.replicate H d0)[i]?=some v->v.O7=true:=fun i v hv=>by rw [List.eq_of_mem_replicate (Aw hv)]
 have no:∀ (i:Nat) (v:TR.Wk),s0.ws[i]?=some v->v.O7=false->False:=fun i v hv he=>by rw [dead i v hv] at he;cases he
 have Y0:TR.StOk ds s0 (fun _=>none) (fun _=>0):=by
  refine ⟨QdY r r2,⟨fun i v hv he=>(no i v hv he).elim,fun i v c hv he=>(no i v hv he).elim,fun i j v u c _ hv _ he=>(no i v hv he).elim⟩,fun n p hp hlv=>?_,fun n hn' ht=>?_,r5,by show (List.replicate H 0).length=(List.replicate H d0).length;simp,Bc _,?_,fun i v hv he=>(no i v hv he).elim,fun i v hv he=>(no i v hv he).elim⟩
  ·have:p=⟨0,[],[],none,none⟩:=by
    match n,hp with
    | 0,hp=>cases hp;rfl
    | n+1,hp=>simp [s0,S0] at hp
   rw [this] at hlv;exact absurd hlv (by decide)
  ·have hn2:n < 1:=hn'
   exact absurd (show n=0 by lia) ht
  ·have z0:TR.zc (List.replicate H d0)=0:=by
    unfold TR.zc
    rw [Cp.mpr fun v hv=>?_]
    ·rfl
    ·rw [List.eq_of_mem_replicate hv];decide
   show TR.Xe S0 0+TR.zc (List.replicate H d0)<=1+0
   rw [z0]
   exact Ae 1
 have lw:s0.ws.length=H:=by show (List.replicate H d0).length=H;simp
 have gr:∀ {α:Type} (x:α) (i:Nat),i < H->(List.replicate H x)[i]?=some x:=fun x i hi=>by rw [List.getElem?_replicate,C0 hi]
 have lcz:TR.lc s0.ws=0:=by
  show TR.lc (List.replicate H d0)=0
  unfold TR.lc
  rw [Cp.mpr fun v hv=>?_]
  ·rfl
  ·rw [List.eq_of_mem_replicate hv];decide
 have W0:WB wA ds s0 (fun _=>0):=⟨rfl,rfl,rfl,rfl,⟨List.replicate H .non,rfl,by rw [lw];simp,fun i v hi=>by
   have li:i < H:=by rw [<- lw];exact (Ac.mp hi).1
   rw [Qai (dead i v hi),gr _ i li]⟩,⟨[],rfl,by rw [lcz];exact Ae _⟩,fun i v hv he=>(no i v hv he).elim,fun i j v u _ hv he=>(no i v hv he).elim⟩
 have N0:TR.Nm ds s0 (fun _=>none) (fun _=>none) (fun _=>none):=⟨Y0.T,Y0.A,⟨rfl,_,rfl,rfl⟩,fun k v=>⟨fun h=>(by cases h),fun h=>by
   obtain ⟨n,p,a1,a2,a3⟩:=h
   have:p=⟨0,[],[],none,none⟩:=by
    match n,a1 with
    | 0,a1=>cases a1;rfl
    | n+1,a1=>simp [s0,S0] at a1
   rw [this] at a3;cases a3⟩,fun k v h=>(by cases h),fun i v hv he=>(no i v hv he).elim,fun i j v u _ hv he=>(no i v hv he).elim,fun _ _=>rfl⟩
 have K0:Bk wA ds (fun _=>none) (fun _=>none) 0:=⟨rfl,⟨[],[],rfl,⟨List.Perm.refl _,List.Pairwise.nil,fun k v=>⟨fun h=>(by cases h),fun h=>(by cases h)⟩⟩⟩,⟨[],rfl,fun _=>rfl,Ae _⟩⟩
 have fin:∀ {w:Hs} {es:List TR.Deed} {s:TR.St} {L:Nat->Nat} {bg bg0:TR.Bg} {F:Eg} {M:Nat->Option Int} {B c:Nat} (z9 z10:Sl),WB w es s L->TR.Nm es s bg0 F M->Bk w es F M c->(∀ d∈es,TR.Yj d)->TR.StOk es s bg (fun _=>B)->s.ws.length=H->es.length<=47->es.length - s.tk<=24->B<=100->c<=50000->∃ w' s' L' bg' bg0' F' M' y9,Gf (EX z9 z10) w=some ((.nx,EX y9 z10),w')/\WB w' es s' L'/\TR.Nm es s' bg0' F' M'/\Bk w' es F' M' (c+43792)/\TR.StOk es s' bg' (fun _=>0)/\s'.ws.length=H/\TR.still es s'=true:=by
  intro w es s L bg bg0 F M B c z9 z10 A N K ok Y hl h47 h24 hB hc
  have pg:=Y.pages
  have tk:=Y.tk
  obtain ⟨os,s',bg',R,q2,q3,q4,Y'⟩:=TR.Qfr (H:=H) (K:=9000) (C:=218) (by lia) (by lia) 5474 218 B s bg hl Y (fun i v hi hv=>by
   have:=TR.Lim.first Y.T Y.K Y.T.levels s.ws i v hi hv
   dsimp only at this ⊢
   rw [hl] at this
   lia) (by lia) (by lia)
  have ol:os.length<=43792:=by
   have:H * 5474<=8 * 5474:=Nat.mul_le_mul_right _ n8
   lia
  obtain ⟨w',L',bg0',F',M',y9,e,A',N',K'⟩:=Qgm A N K (by lia) ok (by lia) n8 R q2 hl (by lia) (by lia) (.val X) (.val (.int c0)) (.val (.int H)) (.val (.ref 0)) y8 z9 z10
  exact ⟨w',s',L',bg',bg0',F',M',y9,e,A',N',K'.up (by lia),Y',q4,q2⟩
 obtain ⟨wE,s1',L1,bg1,bo1,F1,M1,y9,f1,A1,N1,K1,Y1,l1,st1⟩:=fin .un .un W0 N0 K0 dok Y0 lw (by lia) (by show ds.length - 0<=24;lia) (Bc _) (Bc _)
 have tk1:=(TR.K8 st1).1
 have MM:WP (JZ (nxD (Zb 0 ns.length)) (fun d env=>do let env' <- gN 10 d env;GH env') 100000 0 (EX y9 .un)) wE fun q w=>∃ es s L bg bo F M z10,q=(.nx,EX y9 z10)/\WB w es s L/\TR.Nm es s bo F M/\Bk w es F M 43855/\(∀ d∈es,TR.Yj d)/\TR.StOk es s bg (fun _=>63)/\s.ws.length=H/\es.length<=47/\es.length - s.tk<=24:=by
  refine Qb1 (Zb 0 ns.length) (fun j env w=>∃ es s L bg bo F M z10,env=EX y9 z10/\WB w es s L/\TR.Nm es s bo F M/\Bk w es F M (43792+j)/\(∀ d∈es,TR.Yj d)/\TR.StOk es s bg (fun _=>j)/\s.ws.length=H/\es.length<=47/\(j<=24->es.length<=23+j)/\es.length - s.tk<=24/\(j<=24->es.length - s.tk<=j)/\j<=63) (by rw [Jq];lia) ⟨ds,s1',L1,bg1,bo1,F1,M1,_,rfl,A1,N1,K1.up (by lia),dok,Y1,l1,by lia,fun _=>by lia,by lia,fun _=>by lia,by lia⟩ (fun j d0 hd0 env w zz=>?_) (fun env w zz=>?_)
  ·obtain ⟨es,s,L,bg,bo,F,M,z10,rfl,A,N,K,ok,Y,hl,h47,h23,hw,hw2,h63⟩:=zz
   obtain ⟨hj,rfl⟩:=xE hd0
   have hk:ns[j]?=some ns[j]:=Ab hj
   have hc:=hb ns[j] (B0 hj)
   obtain ⟨w',es',s',L',bo',F',M',bg',e,A',N',K',ok',Y',l',dl',dw'⟩:=Qf9 A N K ok (by lia) Y (by lia) n8 hl (by lia) ns hk hc h47 (fun hj24=>by have:=h23 (by lia);lia) (.val (.int c0)) y8 y9
   refine ⟨_,_,e,es',s',L',bg',bo',F',M',_,rfl,A',N',K'.up (by lia),ok',Y',l',?_,?_,?_,?_,by lia⟩
   ·rw [dl']
    by_cases hj24:j < 24
    ·have:=h23 (by lia);rw [C0 hj24];lia
    ·rw [Cz hj24];lia
   ·intro hj24
    have:=h23 (by lia);rw [dl',C0 (by lia)];lia
   ·by_cases hj24:j < 24
    ·have:=hw2 (by lia);rw [C0 hj24] at dw';lia
    ·rw [Cz hj24] at dw';lia
   ·intro hj24
    have:=hw2 (by lia);rw [C0 (by lia)] at dw';lia
  ·obtain ⟨es,s,L,bg,bo,F,M,z10,rfl,A,N,K,ok,Y,hl,h47,h23,hw,hw2,h63⟩:=zz
   refine ⟨es,s,L,bg,bo,F,M,z10,rfl,A,N,K.up (by lia),ok,Y.mono fun i _=>?_,hl,h47,hw⟩
   exact h63
 obtain ⟨q,wF,eM,es,s2',L2,bg2,bo2,F2,M2,z10,rfl,A2,N2,K2,ok2,Y2,l2,h47,hw24⟩:=MM
 have s9:Gg (EX y9 .un) wE=some ((.nx,EX y9 z10),wF):=by
  have x9:xOf (Vc (Qc (Zx Jy (Qc (Qb 0) (Qn))) (Qn))) (EX y9 .un) wE=some (nxD (Zb 0 ns.length),wE):=yw (xk (m:=ns.length) (Zq ((XC (ds:=[X]) (hp1:=wE) (Zq (Qe rfl)) (show Jy [X] wE=some (.int (ns.length:Nat),wE) by show qN [X] wE=_;simp [qN,X];rfl)))) (by lia))
  unfold Gg X7
  rw [Qf x9];exact eM
 obtain ⟨wG,s3',L3,bg3,bo3,F3,M3,x9,f2,A3,N3,K3,Y3,l3,st3⟩:=fin y9 z10 A2 N2 K2 ok2 Y2 l2 h47 hw24 (by lia) (by lia)
 have pg3:=Y3.pages
 have tk3:=Y3.tk
 obtain ⟨kvs,z,h7,tb⟩:=K3.h7
 have hz:=kr N3 tb
 obtain ⟨y,e4⟩:=QaL N3 Y3.K A3.h1 A3.h2 (by lia) tb (by lia)
 let EP:En:=EX x9 z10
 have cc:=QaO (v:=6) (env:=EP) rfl (show (shW wG s3' y)[7]?=some (.dic kvs) from gs (by decide) h7) tb (by lia)
 have s11:QF (Qk eqG (QI 1 J8 (Qc (Qb 3) (Qn))) (kD)) EP wG=some ((.rt (.bl true),EP),shW wG s3' y):=Qy (Qi (Zw (Zq (Qe rfl)) rfl e4) cc (eqP z _))
 exact ⟨shW wG s3' y,Qv ((Qj s1).trans ((Qj s2).trans ((Qj s3).trans ((Qj s4).trans ((Qj s5).trans ((Qj s6).trans ((Qj s7).trans ((Qj s8).trans ((Qj f1).trans ((Qj s9).trans ((Qj f2).trans s11)))))))))))⟩
def Kj {K:Aa} {a0 a1 a2:Addr} {d0 d1 d2:Option Addr} {n0 n1 n2:Nat} {s0 s1 s2:Array (Option Value)} {t1:Tok} (l0:K.lookup a0=some ⟨.type "tuple", d0,.seq #[.int 0 t1,.ref a1,.ref a2,.none,.none] n0,s0⟩) (l2:K.lookup a2=some ⟨.type "tuple", d2,.seq #[] n2,s2⟩) (l1:K.lookup a1=some ⟨.type "tuple", d1,.seq #[] n1,s1⟩):KRep K (.tup [.int 0,.tup [],.tup [],.non,.non]) (.ref a0):=(gz (xs:=[.int 0,.ref a1,.ref a2,.non,.non]) l0 (Nat.le_of_ble_eq_true rfl) (.cons ⟨_,rfl⟩ (.cons rfl (.cons rfl (.cons rfl (.cons rfl .nil))))) (zH Qgy (zH (gz (xs:=[]) l1 (Nat.le_of_ble_eq_true rfl) .nil GG) (zH (gz (xs:=[]) l2 (Nat.le_of_ble_eq_true rfl) .nil GG) (zH QcQ (zH QcQ GG))))))
theorem Qgz {P:Program} {w:World} {K:Aa} {h:Heap} {mg:Ea} {fa f:Addr} {oc kV dc pm cd ct:Value} {od an:Option Addr} {sl:Array (Option Value)} (X:K.In h) (G:h.Ns mainGlobals mg) (hfa:mg "law" = some (.ref fa)) (Z:Al K mg) (n:PySem.W.nsIn K mainGlobals "law" = some (some (.ref f))) (l:K.lookup f=some ⟨oc,od,.func (PySem.W.fnOf "law" "law" (JA yN) (ZH yN) (Qp yN) .none kV dc pm an cd ct),sl⟩) (c:PySem.W.codeIn K cd "law" = true) (k:PySem.W.keepIn K (.ref f)=true):∃ fd:FuncData,(∀ (s:Shared) (v:Value),BindsTo s fd ⟨[v],[]⟩ [("script", v)])/\∀ O8:Heap,K.In O8->O8.Ns mainGlobals mg->zm P w K mg O8 CX0 10 fa fd ["script"] (spD K 1 vg):=by
 cases hfa.symm.trans (PySem.W.mg_of X G n)
 exact ⟨PySem.W.fnOf "law" "law" (JA yN) (ZH yN) (Qp yN) .none kV dc pm an cd ct,fun s v=>.of_eq rfl,fun O8 _ _=>law_fn Z (Gz l c k)⟩
theorem walk {l:PySem.W.OpenLaw} {q:Program} {loose:List Str} {XP:(Ea)->Heap->Prop} {YP:World->Heap->Prop} {d:DefRec} {K:Params->Aa} (hn:l.most=some 63) (hdf:d.params.defaults=[])
  (hY:∀ (w:World) (h:Heap),YP w h->(K w.params).In h)
  (F:∀ (w:World) (mg:Ea) (fa:Addr) (h:Heap),(K w.params).In h->h.Ns mainGlobals mg->mg d.name=some (.ref fa) ->
   ∃ fd:FuncData,(∀ (s:Shared) (u:Value),BindsTo s fd ⟨[u],[]⟩ [("script", u)])/\∀ O8:Heap,(K w.params).In O8->O8.Ns mainGlobals mg->zm l.prog w (K w.params) mg O8 CX0 10 fa fd ["script"] (spD (K w.params) 1 vg)) :
  PySem.W.WalkO q loose XP YP l.row.toRowW d [] (fun f vs=>PySem.call f vs) :=
 L2.Qd2 (n:=63) (k:=10) (x := "script") (CX:=fun _=>CX0) (sp:=fun w=>spD (K w.params) 1 vg) hn (by decide) hdf ⟨rfl,by decide,by decide⟩ hY F (fun w _ a ns hl hb _ hS=>QgA (QcS ns hl hb) hS) fun _ _ _ _ _ z=>z
end K34
namespace PySem.W.Fast
def tw16138065415310307964:=0
def tw5537737953029459074:=0
def tw14504996671274752382:=0
def tw3178678706371971424:=0
def tw12513567995235670229:=0
def tw13555986188869258023:=0
def tw16063936213964382736:=0
def tw16496303717681158632:=0
def tw11162363313752660628:=0
def tw8155877043634854886:=0
def tw2046730819571578832:=0
def tw8780544226718406297:=0
def tw3235955941476568038:=0
def tw16696268894385103701:=0
def tw17385612166924197911:=0
def tw16110162872450359036:=0
def tw2921260672064877551:=0
def tw14480580026134610500:=0
def tw12263357007731695886:=0
def tw11379202223395607411:=0
def tw1549419250691815903:=0
def tw9904812817749940456:=0
def tw8196719336490339264:=0
def tw3620778106974235725:=0
def tw15146756044327331664:=0
def tw10388760827888188278:=0
def tw18121936523754230096:=0
def tw3201060850149111016:=0
def tw4219873218766343270:=0
def tw12339738648755702721:=0
def tw8813068558999179979:=0
def tw13391842318131581014:=0
def tw1727532973734178457:=0
def tw2284246819337776283:=0
def tw10026953514869075659:=0
def tw13219720912123003990:=0
def tw11542950679709294203:=0
def tw4916052913718892524:=0
def tw6937232277610355238:=0
def tw7465238444046834862:=0
def tw17212386399822742560:=0
def tw7768475649415403021:=0
def tw1332173326329339311:=0
def tw14577996932953419520:=0
def tw8280891471623122583:=0
def tw14064395755758048544:=0
def tw287318918499798134:=0
def tw15786691558505837693:=0
def tw15949262671157587751:=0
def tw17442202145323559450:=0
def tw5240612678446477590:=0
def tw17432822893224620390:=0
def tw677318046859784650:=0
def tw18310424875790566684:=0
def tw3110597603669735189:=0
def tw2083771035177238227:=0
def tw4036113906458056925:=0
def tw14227090361161368321:=0
def tw10489026409653032154:=0
def tw2840533796315959851:=0
def tw4418618165184238284:=0
def tw11728510687605520119:=0
def tw10169174951355426618:=0
def tw15954751794840901888:=0
def tw1715414316767934001:=0
def tw12917154679004480939:=0
def tw4774554636433630734:=0
def tw15820162495339118165:=0
def tw17212038127846154283:=0
def tw13924736653700578654:=0
def tw11463330477155956690:=0
def tw14297028311818835785:=0
def tw5085051433708519860:=0
def tw14043850452597188903:=0
def tw9761796034439088642:=0
def tw10737869713483217526:=0
def tw9443985211851957406:=0
def tw8839040388729008582:=0
def tw6992119829022794795:=0
def tw7920256065623655071:=0
def tw14174507796885106825:=0
def tw7718564699306603681:=0
def tw9360424567969633448:=0
def tw14014859773160664400:=0
def tw5966219294658514931:=0
def tw18281047793089677565:=0
def tw6134102954867782419:=0
def tw11905070824217540896:=0
def tw6896203936745773396:=0
def tw13362005659105308023:=0
def tw2255246015735993031:=0
def tw5696965759962618758:=0
def tw18123054204997407273:=0
def tw13933339475832303812:=0
def tw7223579753330750600:=0
def tw3382124735498942797:=0
def tw6716920969499923732:=0
def tw12983091928889766848:=0
def tw4923751968115929841:=0
def tw3289355655151887310:=0
def tw14725306246286117127:=0
def tw14256742163230554314:=0
def tw144365045736571602:=0
def tw6936039598204773459:=0
def tw5175560565885781455:=0
def tw17929126667006570651:=0
def tw17253958876059239091:=0
def tw8511808229234493427:=0
def tw8261079388648742988:=0
def tw13739523754788909256:=0
def tw13640068085962820887:=0
def tw7089437293798739050:=0
def tw10067077820045189015:=0
def tw4377959020658962837:=0
def tw13911234767457208162:=0
def tw2845175866382310456:=0
def tw6784671743309799412:=0
def tw10613821362104303922:=0
def tw10481663066531493382:=0
def tw2989615722201478324:=0
def tw12916209072996605801:=0
def tw2865302330353928866:=0
def tw8808533443856945372:=0
def tw7399996227814533747:=0
def tw12305791460839240342:=0
def tw8271986737553784889:=0
def tw16259043293194519452:=0
def tw13482415137887659052:=0
def tw697989099595087670:=0
def tw1511941974157421698:=0
def tw7670449801006886955:=0
def tw18342492530575218930:=0
def tw15151780697887632579:=0
def tw10145463369379799843:=0
def tw71506193431416892:=0
def tw13008786601268880614:=0
def tw9273812198142902887:=0
def tw953905366226060654:=0
def tw315093269039099469:=0
def tw13945798236829475106:=0
def tw4690314708492084922:=0
def tw15116818559948801320:=0
def tw8164109705769407871:=0
def tw13878091850196806707:=0
def tw7870111601701806710:=0
def tw16993901785618072447:=0
def tw6601148293298719696:=0
def tw12135425822408842397:=0
def tw14187637370619730488:=0
def tw13633841368911083671:=0
def tw13888387996391082430:=0
def tw15869175691576099961:=0
def tw16101179557149072017:=0
def tw6138388977338227976:=0
def tw4189980782079318489:=0
def tw3295978688723312305:=0
def tw18176393390387457644:=0
def tw3243924783955979569:=0
def tw12443955372462355871:=0
def tw15172120205972389329:=0
def tw5268760938865462897:=0
def tw5961006956293469362:=0
def tw4972361865485527267:=0
def tw16496234047722861609:=0
def tw13997083563150017049:=0
def tw7341660201299447632:=0
def tw6516406603840153417:=0
def tw6018083075796165096:=0
def tw5564919845909547855:=0
def tw1791159935778029517:=0
def tw8792717465409316834:=0
def tw9681360527282989547:=0
def tw7289123066180961722:=0
def tw3196541100895350384:=0
def tw14959449126941384220:=0
def tw6925283025357353913:=0
def tw13230328446449411938:=0
def tw5916496144339529715:=0
def tw11997356595661425515:=0
def tw17684508208701385927:=0
def tw10877403556812118930:=0
def tw818679775796322748:=0
def tw3954738820092302095:=0
def tw7477605193354244072:=0
def tw2502533943068946215:=0
def tw9967528328646501633:=0
def tw7417069536033403931:=0
def tw569948849195694284:=0
def tw16821454477983512343:=0
def tw716629025456863342:=0
def tw15997412368471868266:=0
def tw3796521828226498435:=0
def tw5675488016572423368:=0
def tw16088476987092369859:=0
def tw3923988991781782751:=0
def tw17246484766241092513:=0
end PySem.W.Fast
open PySem PySem.W PyProof.Rows
open D in
set_option maxRecDepth 100000 in
set_option maxHeartbeats 0 in
theorem PySem.Challenge.cw_sidelink_k34_whole_as_if_at_one_moment_holds : PySem.Challenge.rw_sidelink_k34_whole_as_if_at_one_moment.Holds := by
 w_on;o_law;k_head;(case hw=>w_witness2)
 k_fill
 refine K34.walk (l:=PySem.Challenge.rw_sidelink_k34_whole_as_if_at_one_moment) rfl rfl (fun w h Y=>PySem.W.kIn_of Y) ?F
 case F =>
  intro w mg fa h KX G hmg
  have c0:UC _ "Shelf" := uc KX (by k_is) (by k_is) (by k_is) (by k_is) (by k_is)
  have c1:UC _ "Weaver" := uc KX (by k_is) (by k_is) (by k_is) (by k_is) (by k_is)
  have c2:UC _ "Walk" := uc KX (by k_is) (by k_is) (by k_is) (by k_is) (by k_is)
  exact K34.Qgz KX G hmg (by constructor;all_goals first | exact PySem.W.mg_none_of KX G (by k_is) | exact uf KX G (by k_is) (by k_is) (by k_is) (by k_is) | exact ug KX G (by k_is) | exact ut KX G (by k_is) (K34.Kj (by k_is) (by k_is) (by k_is)) | exact uk KX c0 (by k_is) (by k_is) | exact um KX c0 (by k_is) (by k_is) (by k_is) (by k_is) (by k_is) (by k_is) | exact uk KX c1 (by k_is) (by k_is) | exact um KX c1 (by k_is) (by k_is) (by k_is) (by k_is) (by k_is) (by k_is) | exact uk KX c2 (by k_is) (by k_is) | exact um KX c2 (by k_is) (by k_is) (by k_is) (by k_is) (by k_is) (by k_is) | exact ui KX G (by k_is) (by k_is) (by k_is) (by k_is) (by k_is) (by k_is) (by k_is) (by k_is)) (by k_is) (by k_is) (by k_is) (by k_is)

import PyProof.Rows.All
import Wide.All
import OpenK.AllK
import Wide.FinOn
import Lean
import PyProof.EqAt
import PyProof.EqKinds
import PyProof.TupleCall
import PySem.Challenge.RW_sidelink_k24_whole_moments_fit
local macro_rules|`(⋯)=>`(by lia)
local macro_rules|`(command|$d:definition)=>`(command|noncomputable $d:definition)
local macro_rules|`(command|$d:abbrev)=>`(command|noncomputable $d:abbrev)
noncomputable section
section
open PySem PySem.Spec PyProof.Rows
abbrev Aa:=PySem.W.Frag
def Ab:=@List.getElem?_eq_getElem
def Ac:=@List.getElem?_eq_some_iff
def Ad:=@Heap.get?_push_of_some
def Ae:=@Nat.le_refl
def Ag:=@Array.toList_append
def Ah:=@List.getElem?_append_left
def Ai:=@List.mem_append
def Aj:=@List.mem_append_right
def Ak:=@Option.some.inj
def Am:=@List.getElem?_set_ne
def An:=@List.length_append
def Ao:=@List.size_toArray
def Ap:=@Heap.lt_size
def Aq:=@List.getElem?_append_right
def Ar:=@List.mem_singleton
def As:=@List.filter_cons
def Au:=@List.getElem?_set_self
def Av:=@Heap.get?_push_size
def Aw:=@List.mem_of_getElem?
def Ax:=@List.mem_cons_of_mem
def Ay:=@Nat.lt_of_lt_of_le
def Az:=@Bool.false_eq_true
def A7:=@List.mem_append_left
def A8:=@List.append_assoc
def A9:=@List.length_take
def Ba:=@List.length_cons
def Bb:=@List.map_cons
def Bc:=@Bool.and_eq_true
def Be:=@Nat.zero_le
def Bf:=@Nat.ne_of_lt
def Bh:=@Nat.lt_or_ge
def Bi:=@List.drop_eq_getElem_cons
def Bj:=@Nat.le_trans
def Bk:=@List.mem_cons
def Bm:=@List.mem_filter
def Bo:=@Int.le_refl
def Bp:=@Prod.mk.injEq
def Bq:=@List.length_drop
def Br:=@List.length_map
def Bt:=@List.append_nil
def Bu:=@List.getElem?_map
def Bv:=@List.pairwise_append
def Bw:=@List.mem_iff_getElem?
def Bx:=@List.mem_of_mem_take
def By:=@Nat.lt_of_le_of_lt
def Bz:=@Bool.false_ne_true
def B0:=@List.take_append_drop
def B7:=@Int.toNat_natCast
def B8:=@List.find?_cons
def B9:=@List.getElem_mem
def Ca:=@List.getElem?_take_of_lt
def Cb:=@List.length_filter_le
def Cc:=@List.getElem?_drop
def Cd:=@List.mem_of_mem_drop
def Ce:=@Array.toList_reverse
def Cf:=@List.not_mem_nil
def Cg:=@Option.map_eq_some_iff
def Ch:=@List.mem_range
def Ci:=@List.take_of_length_le
def Cj:=@Array.length_toList
def Ck:=@Int.le_of_lt
def Cm:=@List.prefix_rfl
def Cn:=@List.drop_of_length_le
def Co:=@Heap.size_push
def Cp:=@List.pairwise_cons
def Cq:=@Bool.not_eq_true'
def Cr:=@List.mem_iff_getElem
def Cs:=@List.any_cons
def Cu:=@List.filter_eq_self
def Cv:=@List.drop_drop
def Cw:=@List.nodup_cons
def Cy:=@Nat.lt_irrefl
def Cz:=@List.getElem_take
def C0:=@Nat.le_of_not_lt
def C1:=@Int.le_trans
def C4:=@Nat.lt_succ_self
def C5:=@List.drop_length
def C6:=@List.all_cons
def C7:=@Nat.ne_of_gt
def C8:=@List.mem_map
def C9:=@wpAny_bind
def Ea:=@if_neg
def Eb:=@if_pos
def Ec:=@wpAny_pure
def Ed:=@wpS_bind
def Ee:=@wpS_pure
def Ef:=@decide_eq_true
def Eg:=@of_decide_eq_true
def Eh:=@decide_eq_false
def Ei:=@pure_bind
abbrev Ej:=Value->Shared->Prop
abbrev Ek:=List (Addr×Obj)
abbrev Em:=Str->Option Value
abbrev Ep:=List (Int×Int)
abbrev Er:=Addr->Prop
abbrev Et:=List Addr
abbrev Ev:=Int->Option Int
end
-- CHANGE: your row's module here,as the last of these rows
set_option Elab.async false
set_option linter.all false
set_option maxRecDepth 100000
namespace L2
open PySem PySem.Spec PyProof.Rows
abbrev Key:=Sum Int Str
def Uj:Key->Value->Bool
 |.inl k,v=>Value.isInt k v
 |.inr x,v=>Value.isStrOf x v
def S9(w:World):Key->Int
 |.inl k=>hashInt k
 |.inr x=>hashStr w x
theorem ZV:∀{k:Key}{v:Value},Uj k v=true->(∃i t,k=Sum.inl i/\v=Value.int i t)∨(∃x t,k=Sum.inr x/\v=Value.str x t)
  |.inl i,v,h=>by obtain⟨t,e⟩:=Value.isInt_shape (k:=i) (v:=v) h;exact .inl ⟨i,t,rfl,e⟩
  |.inr x,v,h=>by obtain⟨t,e⟩:=Value.isStrOf_shape (x:=x) (v:=v) h;exact .inr ⟨x,t,rfl,e⟩
theorem Qcc(i:Int)(t:Tok):Uj (.inl i) (.int i t)=true:=by simp[Uj,Value.isInt]
theorem Qcd(x:Str)(t:Tok):Uj (.inr x) (.str x t)=true:=by simp[Uj,Value.isStrOf]
theorem WO(a b:Int):decide ((Sum.inl a:Key)=Sum.inl b)=(a==b):=by
 by_cases e:a=b
 ·subst e;simp
 ·have h:¬ (Sum.inl a:Key)=Sum.inl b:=λq=>e (Sum.inl.inj q);rw[Eh h];exact(beq_eq_false_iff_ne.mpr e).symm
theorem WI(a b:Str):decide ((Sum.inr a:Key)=Sum.inr b)=decide (a=b):=by
 by_cases e:a=b
 ·subst e;simp
 ·have h:¬ (Sum.inr a:Key)=Sum.inr b:=λq=>e (Sum.inr.inj q);rw[Eh h,Eh e]
def WN(a:Int)(b:Str):decide ((Sum.inl a:Key)=Sum.inr b)=false:=Eh (λq=>nomatch q)
def WJ(a:Str)(b:Int):decide ((Sum.inr a:Key)=Sum.inl b)=false:=Eh (λq=>nomatch q)
def Zz(prog:Program)(w:World):PySem.KeyKind prog w Key where
 is:=Uj
 hash:=S9 w
 inj:=λv a b m l=>by
  rcases ZV m with ⟨i,t,rfl,rfl⟩|⟨x,t,rfl,rfl⟩
  ·rcases ZV l with ⟨j,u,rfl,e⟩|⟨y,u,rfl,e⟩
   ·injection e with c _;rw[c]
   ·exact nomatch e
  ·rcases ZV l with ⟨j,u,rfl,e⟩|⟨y,u,rfl,e⟩
   ·exact nomatch e
   ·injection e with c _;rw[c]
 byValue:=λk v h=>by rcases ZV h with ⟨i,t,rfl,rfl⟩|⟨x,t,rfl,rfl⟩<;>rfl
 pyHash:=λf h=>by
  rcases ZV f with ⟨i,t,rfl,rfl⟩|⟨x,t,rfl,rfl⟩
  ·exact wpAny_pyHash_int h
  ·exact wpAny_pyHash_str h
 eqBool:=λn f h=>by
  rcases ZV n with ⟨i,t,rfl,rfl⟩|⟨x,t,rfl,rfl⟩
  ·rcases ZV f with ⟨j,u,rfl,rfl⟩|⟨y,u,rfl,rfl⟩
   ·rw[WO]at h;exact wpAny_eqBool_int h
   ·rw[WN]at h;exact SeqAt.EqAt.int_str i t y u _ _ _ _ h
  ·rcases ZV f with ⟨j,u,rfl,rfl⟩|⟨y,u,rfl,rfl⟩
   ·rw[WJ]at h;exact SeqAt.EqAt.str_int x t j u _ _ _ _ h
   ·rw[WI]at h;exact wpAny_eqBool_str h
 «strs»:=λk x t v h=>by
  rcases ZV h with ⟨i,u,rfl,e⟩|⟨y,u,rfl,e⟩
  ·exact nomatch e
  ·injection e with c _;subst c;cases v<;>rfl
def uX(prog:Program)(w:World)(i:Int)(t:Tok):(Zz prog w).is (.inl i) (.int i t)=true:=Qcc i t
def uY(prog:Program)(w:World)(x:Str)(t:Tok):(Zz prog w).is (.inr x) (.str x t)=true:=Qcd x t
inductive V where
 |non|bl (b:Bool)|int (i:Int)|str (x:Str)|byt (b:Array UInt8)|flt (b:UInt64)|ref (a:Addr)|ty (n:String)
 deriving DecidableEq
def RelV:V->Value->Prop
 |.non,u=>u=Value.none
 |.bl b,u=>u=Value.bool b
 |.int i,u=>∃t,u=Value.int i t
 |.str x,u=>∃t,u=Value.str x t
 |.byt b,u=>∃t,u=Value.bytes b t
 |.flt b,u=>∃t,u=Value.float b t
 |.ref a,u=>u=Value.ref a
 |.ty n,u=>u=Value.type n
abbrev Vals:List V->List Value->Prop:=Paired RelV
def Vals.length{xs:List V}{us:List Value}(r:Vals xs us):xs.length=us.length:=Paired.length r
theorem Vals.get:∀{xs:List V}{us:List Value}{i:Nat}{x:V},Vals xs us->xs[i]?=some x->∃u,us[i]?=some u/\RelV x u
  |_,_,_,_,.nil,e=>by simp at e
  |_,_,0,_,.cons r _,e=>by simp at e;subst e;exact⟨_,rfl,r⟩
  |_,_,i+1,x,.cons _ t,e=>by obtain⟨u,h1,h2⟩:=Vals.get (i:=i) (x:=x) t (by simpa using e);exact⟨u,by simpa using h1,h2⟩
theorem Vals.set(r:RelV x u):∀{xs:List V}{us:List Value}(i:Nat),Vals xs us->Vals (xs.set i x) (us.set i u)
 |_,_,_,.nil=>.nil
 |_,_,0,.cons _ t=>.cons r t
 |_,_,i+1,.cons q t=>.cons q (Vals.set r i t)
theorem Vals.append:∀{xs ys:List V}{us ws:List Value},Vals xs us->Vals ys ws->Vals (xs++ys) (us++ws)
 |_,_,_,_,.nil,s=>s
 |_,_,_,_,.cons r t,s=>.cons r (Vals.append t s)
theorem Vals.take:∀{xs:List V}{us:List Value}(n:Nat),Vals xs us->Vals (xs.take n) (us.take n)
 |_,_,0,_=>.nil
 |_,_,_+1,.nil=>.nil
 |_,_,n+1,.cons r t=>.cons r (Vals.take n t)
theorem Vals.drop:∀{xs:List V}{us:List Value}(n:Nat),Vals xs us->Vals (xs.drop n) (us.drop n)
 |_,_,0,r=>r
 |_,_,_+1,.nil=>.nil
 |_,_,n+1,.cons _ t=>Vals.drop n t
def RelO:Option V->Option Value->Prop
 |some v,some u=>RelV v u
 |none,none=>True
 |_,_=>False
def KV{κ:Type}:List (κ×V)->List (κ×Value)->Prop:=Paired λ(p:κ×V)(q:κ×Value)=>p.1=q.1/\RelV p.2 q.2
def kV:Key->V
 |.inl i=>.int i
 |.inr x=>.str x
inductive HO where
  |lst (xs:List V)
  |tup (xs:List V)
  |dK (kvs:List (Key×V))|dT (kvs:List (List Key×V))
  |set (S:Int->Bool) (n:Nat)
  |ins (C dx:Addr) (fs:List (Str×V))
  |own (x:Addr)
  |xd (fs:List (Str×V))
  |met (f x:Addr)
  |rng (lo hi:Int)
  |frz (o:Obj) (u:HO)
  |tbl (ps:Array Value)
  |ext (φ:Heap->Prop)
abbrev Hp:=Addr->Option HO
def upd(H:Hp)(a:Addr)(o:HO):Hp:=λb=>if b=a then some o else H b
theorem Q3{a:Addr}:upd H a o a=some o:=by unfold upd;rw[Eb rfl]
theorem QO{H:Hp}{a b:Addr}(h:b≠a):upd H a o b=H b:=by unfold upd;rw[Ea h]
theorem Wo{H:Hp}{a b:Addr}{o u:HO}(h:H a=some o)(h':H b=some u)(d:o≠u):a≠b:=by intro e;subst e;rw[h]at h';exact d (Ak h')
theorem ZJ{H:Hp}{a b:Addr}(h:H a=some o)(h':H b=none):a≠b:=by intro e;subst e;rw[h]at h';cases h'
section
variable(P:Program)(w:World)
def ObjOk(H:Hp)(h:Heap)(a:Addr):HO->Prop
 |.lst xs=>xs.length<=sizeLine/\∃(b:List Value) (n:Nat),Vals xs b/\h.get? a=some { cls:=.type "list", data:=.seq b.toArray n }
 |.tup xs=>xs.length<=sizeLine/\∃b:List Value,Vals xs b/\IsTup h a b.toArray
 |.dK kvs=>kvs.length<=sizeLine/\(a==sysModules)=false/\∃vs,KV kvs vs/\h.DictOf (Zz P w) a vs
 |.dT kvs=>kvs.length<=sizeLine/\(a==sysModules)=false/\∃xs:List (List Key×Addr×Value),
   Paired (λ(p:List Key×V)(q:List Key×Addr×Value)=>p.1=q.1/\H q.2.1=some (.tup (p.1.map kV))/\RelV p.2 q.2.2) kvs xs /\
   ∃o es ep,h.get? a=some o/\o.ExactDict/\o.data=.dict es ep/\es.toList=xs.map (entryOfKey (tupleKind (Zz P w)))/\(xs.map (·.1)).Nodup
 |.set S n=>h.SetOf (intKind P w) a S n
 |.ins C e fs=>H e=some (.own a)/\fs.length<=1000/\e≠a/\h.get? a=some (PySem.W.instObj C e) /\
   ∃c,h.Ns1 e c/\(∀f,RelO (fs.lookup f) (c f))/\PySem.Within c (fs.map (·.1))
 |.own _=>∃o,h.get? a=some o
 |.xd fs=>∃c,h.Ns1 a c/\∀f,RelO (fs.lookup f) (c f)
 |.rng lo hi=>∃t u v,h.get? a=some { cls:=.type "range", data:=.fields #[.int lo t,.int hi u,.int 1 v] }
 |.frz o u=>h.get? a=some o/\ObjOk H h a u
 |.tbl ps=>h.get? a=some { cls:=.none,data:=.fields ps }
 |.met f x=>h.get? a=some (PySem.W.methodObj (.ref f) (.ref x))
 |.ext φ=>φ h/\(∃o,h.get? a=some o)/\∀h1 h2:Heap,φ h1->(∀o,h1.get? a=some o->h2.get? a=some o)->φ h2
def HOk(H:Hp)(h:Heap):Prop:=∀a o,H a=some o->ObjOk P w H h a o
end
section
variable{P:Program}{w:World}{H H':Hp}{h h':Heap}{a:Addr}{o:HO}
theorem ObjOk.lt(x:ObjOk P w H h a o):a<h.objs.size:=by
 cases o with
 |lst xs=>obtain⟨_,_,_,_,e⟩:=x;exact Ap e
 |tup xs=>obtain⟨_,_,_,p⟩:=x;exact p.lt
 |dK kvs=>obtain⟨_,_,_,_,o,_,_,e,_⟩:=x;exact Ap e
 |dT kvs=>obtain⟨_,_,_,_,o,_,_,e,_⟩:=x;exact Ap e
 |set S n=>obtain⟨o,_,_,_,e,_⟩:=x;exact Ap e
 |ins C b fs=>obtain⟨_,_,_,e,_⟩:=x;exact Ap e
 |own y=>obtain⟨_,e⟩:=x;exact Ap e
 |xd fs=>obtain⟨_,⟨_,_,_,e,_⟩,_⟩:=x;exact Ap e
 |rng lo hi=>obtain⟨_,_,_,e⟩:=x;exact Ap e
 |frz ob u=>obtain⟨e,_⟩:=x;exact Ap e
 |tbl ps=>exact Ap (show h.get? a=some _ from x)
 |met f y=>exact Ap (show h.get? a=some _ from x)
 |ext φ=>obtain⟨_,⟨_,e⟩,_⟩:=x;exact Ap e
theorem Paired.mapP{α β:Type}{F G:α->β->Prop}:∀{l₁:List α}{l₂:List β},Paired F l₁ l₂->(∀a b,F a b->G a b)->Paired G l₁ l₂
 |_,_,.nil,_=>.nil
 |_,_,.cons r t,f=>.cons (f _ _ r) (Paired.mapP t f)
theorem ObjOk.stay(x:ObjOk P w H h a o)(k:∀b u,(b=a∨H b=some (.own a))->h.get? b=some u->h'.get? b=some u)
    (ho:∀b,H b=some (.own a)->H' b=some (.own a)) (ht:∀b xs,H b=some (.tup xs)->H' b=some (.tup xs)):ObjOk P w H' h' a o:=by
  induction o with
  |lst xs=>obtain⟨z,i,n,r,e⟩:=x;exact⟨z,i,n,r,k _ _ (.inl rfl) e⟩
  |tup xs=>obtain⟨z,i,r,ob,e,c⟩:=x;exact⟨z,i,r,ob,k _ _ (.inl rfl) e,c⟩
  |dK kvs=>obtain⟨z,y,vs,r,ob,es,ep,e,c⟩:=x;exact⟨z,y,vs,r,ob,es,ep,k _ _ (.inl rfl) e,c⟩
  |dT kvs=>obtain⟨z,y,xs,r,ob,es,ep,e,c⟩:=x;exact⟨z,y,xs,Paired.mapP r λp q z=>⟨z.1,ht _ _ z.2.1,z.2.2⟩,ob,es,ep,k _ _ (.inl rfl) e,c⟩
  |set S n=>obtain⟨ob,es,ep,t,e,c⟩:=x;exact⟨ob,es,ep,t,k _ _ (.inl rfl) e,c⟩
  |ins C I fs=>obtain⟨d,z,ne,e,j,⟨l,es,ep,m,c⟩,r⟩:=x;exact⟨ho _ d,z,ne,k _ _ (.inl rfl) e,j,⟨l,es,ep,k _ _ (.inr d) m,c⟩,r⟩
  |own y=>obtain⟨ob,e⟩:=x;exact⟨ob,k _ _ (.inl rfl) e⟩
  |xd fs=>obtain⟨j,⟨l,es,ep,e,c⟩,r⟩:=x;exact⟨j,⟨l,es,ep,k _ _ (.inl rfl) e,c⟩,r⟩
  |rng lo hi=>obtain⟨t,u,v,e⟩:=x;exact⟨t,u,v,k _ _ (.inl rfl) e⟩
  |frz ob u F=>obtain⟨e,q⟩:=x;exact⟨k _ _ (.inl rfl) e,F q⟩
  |tbl ps=>have e:h.get? a=some { cls:=.none,data:=.fields ps }:=x;show h'.get? a=some { cls:=.none,data:=.fields ps };exact k a _ (.inl rfl) e
  |met f y=>have e:h.get? a=some (PySem.W.methodObj (.ref f) (.ref y)):=x;show h'.get? a=some (PySem.W.methodObj (.ref f) (.ref y));exact k a _ (.inl rfl) e
  |ext φ=>obtain⟨p,⟨o,e⟩,st⟩:=x;exact⟨st _ _ p λo q=>k _ _ (.inl rfl) q,⟨o,k _ _ (.inl rfl) e⟩,st⟩
def HOk.lt(x:HOk P w H h)(e:H a=some o):a<h.objs.size:=(x a o e).lt
theorem HOk.fresh(x:HOk P w H h)(e:h.objs.size<=a):H a=none:=by
 cases q:H a with
 |none=>rfl
 |some u=>exact absurd (Ay (x.lt q) e) (Cy _)
theorem HOk.kept(x:HOk P w H h)(k:∀b u,h.get? b=some u->h'.get? b=some u):HOk P w H h':=λa o e =>
 (x a o e).stay (λb u _ q=>k b u q) (λ_ q=>q) λ_ _ q=>q
theorem HOk.laid(x:HOk P w H h)(k:∀b u,h.get? b=some u->h'.get? b=some u)(U:h.objs.size<=a)(new:ObjOk P w (upd H a o) h' a o):HOk P w (upd H a o) h':=λb u e=>by
 have i:=x.fresh U;by_cases f:b=a
 ·subst f;rw[Q3]at e;cases e;exact new
 ·rw[QO f]at e;exact(x b u e).stay (λc v _ q=>k c v q) (λc q=>by rw[QO (ZJ q i)];exact q) λc xs q=>by rw[QO (ZJ q i)];exact q
end
def Rd(H:Hp)(a:Addr)(u:HO):Prop:=H a=some u∨∃o,H a=some (.frz o u)
theorem Rd.ok{w:World}{a:Addr}(r:Rd H a u)(x:HOk P w H h):ObjOk P w H h a u:=by
 rcases r with r|⟨o,r⟩
 ·exact x a u r
 ·obtain⟨_,q⟩:=x a _ r;exact q
def Mut:Option HO->Prop
 |some (.lst _)=>True
 |some (.dK _)=>True
 |some (.dT _)=>True
 |some (.set _ _)=>True
 |some (.ins _ _ _)=>True
 |some (.ext _)=>True
 |_=>False
section
variable{P:Program}{w:World}{H:Hp}{h h':Heap}{x e:Addr}{o':HO}
theorem HOk.write(ok:HOk P w H h)(mu:Mut (H x))(he:e=x∨H e=some (.own x))(k:∀b u,b≠e->h.get? b=some u->h'.get? b=some u)(m:∃u,h'.get? e=some u)
  (new:ObjOk P w (upd H x o') h' x o'):HOk P w (upd H x o') h':=λb u q=>by
 have f:∀c y,H c=some (.own y)->c≠x:=λc y r z=>by subst z;rw[r]at mu;exact mu
 have i:∀c xs,H c=some (.tup xs)->c≠x:=λc xs r z=>by subst z;rw[r]at mu;exact mu
 by_cases j:b=x
 ·subst j;rw[Q3]at q;cases q;exact new
 ·rw[QO j]at q;by_cases a:b=e
  ·have n:H b=some (.own x):=by
    rcases he with z|z
    ·exact absurd (a.trans z) j
    ·rw[a];exact z
   rw[q]at n;cases n;obtain⟨v,o⟩:=m;exact⟨v,by rw[a];exact o⟩
  ·refine(ok b u q).stay (λc v l r=>k c v ?_ r) (λc r=>by rw[QO (f c b r)];exact r) λc xs r=>by rw[QO (i c xs r)];exact r
   rcases l with rfl|l
   ·exact a
   ·rintro rfl;rcases he with z|z
    ·exact f c b l z
    ·rw[l]at z;cases z;exact j rfl
end
structure Un(fs ex:Et)(H H':Hp)(h h':Heap):Prop where
 keep:∀b o,h.get? b=some o->H b=none->b∉fs->b∉ex->h'.get? b=some o
 slot:∀b o,h.get? b=some o->H b=none->b∈fs->b∉ex->∃sl,h'.get? b=some { o with slots:=sl }
 free:∀b o,h.get? b=some o->H b=none->b∉ex->H' b=none
 there:∀b o,h.get? b=some o->b∉ex->∃o',h'.get? b=some o'
 tups:∀b xs,H b=some (.tup xs)->H' b=some (.tup xs)
 frzs:∀b o u,H b=some (.frz o u)->H' b=some (.frz o u)
 tbls:∀b ps,H b=some (.tbl ps)->∃more,H' b=some (.tbl (ps++more))
section
variable{fs fs' ex ex':Et}{H H1 H2:Hp}{h h1 h2 h':Heap}{a x e:Addr}{o:HO}
theorem Un.any(u:Un fs ex H H1 h h1){b:Addr}{ob:Obj}(q:h.get? b=some ob)(n:H b=none)(hx:b∉ex):∃f,h1.get? b=some { ob with slots:=f }:=by
 by_cases c:b∈fs
 ·exact u.slot b ob q n c hx
 ·exact⟨ob.slots,u.keep b ob q n c hx⟩
theorem Un.kept(k:∀b u,h.get? b=some u->h'.get? b=some u):Un fs ex H H h h' :=
 ⟨λb ob q _ _ _=>k b ob q,λb ob q _ _ _=>⟨ob.slots,k b ob q⟩,λ_ _ _ n _=>n,λb ob q _=>⟨ob,k b ob q⟩,λ_ _ q=>q,λ_ _ _ q=>q,λ_ ps q=>⟨#[],by rw[q];simp⟩⟩
def Un.refl:Un fs ex H H h h:=Un.kept λ_ _ q=>q
theorem Un.laid(k:∀b u,h.get? b=some u->h'.get? b=some u)(U:h.objs.size<=a)(c:H a=none):Un fs ex H (upd H a o) h h' where
 keep:=λb u q _ _ _=>k b u q
 slot:=λb u q _ _ _=>⟨u.slots,k b u q⟩
 free:=λb u q n _=>by rw[QO (Bf (Ay (Ap q) U))];exact n
 there:=λb u q _=>⟨u,k b u q⟩
 tups:=λb xs q=>by rw[QO (ZJ q c)];exact q
 frzs:=λb u xs q=>by rw[QO (ZJ q c)];exact q
 tbls:=λb ps q=>⟨#[],by rw[QO (ZJ q c),q];simp⟩
theorem Un.write(mu:Mut (H x))(he:e=x∨H e=some (.own x))(k:∀b u,b≠e->h.get? b=some u->h'.get? b=some u)(f:∃u,h'.get? e=some u):Un fs ex H (upd H x o) h h':=by
 have hx:∀b,H b=none->b≠x:=λb n z=>by subst z;rw[n]at mu;exact mu
 have j:∀b,H b=none->b≠e:=λb n z=>by
  subst z;rcases he with r|r
  ·exact hx b n r
  ·rw[n]at r;cases r
 have i:∀b u,H b=some u->¬ Mut (some u)->b≠x:=λb u q nm z=>by subst z;rw[q]at mu;exact nm mu
 refine⟨λb u q n _ _=>k b u (j b n) q,λb u q n _ _=>⟨u.slots,k b u (j b n) q⟩,λb u q n _=>by rw[QO (hx b n)];exact n,λb u q _=>?_,
  λb xs q=>by rw[QO (i b _ q λz=>z)];exact q,λb u xs q=>by rw[QO (i b _ q λz=>z)];exact q,λb ps q=>⟨#[],by rw[QO (i b _ q λz=>z),q];simp⟩⟩
 by_cases c:b=e
 ·subst c;exact f
 ·exact⟨u,k b u c q⟩
end
def trk(h:Heap)(H:Hp):List Addr:=(List.range h.objs.size).filter λa=>(H a).isSome
def G7(h:Heap)(H:Hp):Heap:=PySem.W.hideAll h (trk h H)
def Qca(h:Heap)(H:Hp):(G7 h H).objs.size=h.objs.size:=PySem.W.hideAll_size _ _
theorem Qdw{h:Heap}{H:Hp}{b:Addr}(e:h.get? b=some o)(n:H b=none):(G7 h H).get? b=some o :=
 PySem.W.hideAll_get _ e λa=>by have q:(H b).isSome=true:=(Bm.mp a).2;rw[n]at q;simp at q
theorem Db{h:Heap}{H:Hp}{b:Addr}(e:(G7 h H).get? b=some o):h.get? b=some o/\H b=none:=by
  have a:h.get? b=some o:=PySem.W.of_hideAll (trk h H) e;refine⟨a,?_⟩;cases q:H b with
  |none=>rfl
  |some x=>have c:b∈trk h H:=Bm.mpr ⟨Ch.mpr (Ap a),by simp[q]⟩;have z:(G7 h H).get? b=none:=PySem.W.hideAll_none (trk h H) c;rw[z]at e;cases e
def GG(g h:Heap)(L:Addr):List (Addr×Obj):=(List.range h.objs.size).filterMap λa=>if a=L∨(g.get? a).isSome=true then none else (h.get? a).map λo=>(a,o)
theorem Uu{g h:Heap}{L:Addr}{p:Addr×Obj}(U:p∈GG g h L):p.1≠L/\g.get? p.1=none/\h.get? p.1=some p.2:=by
  obtain⟨b,_,e⟩:=List.mem_filterMap.mp U;split at e
  . cases e
  . rename_i a
    cases q:h.get? b with
    |none=>rw[q]at e;simp at e
    |some u =>
      rw[q]at e;simp only[Option.map_some,Option.some.injEq]at e;subst e;refine⟨λz=>a (.inl z),?_,q⟩;show g.get? b=none;cases r:g.get? b with
      |none=>rfl
      |some v=>exact(a (.inr (by simp[r]))).elim
def rest(g h:Heap)(L d:Addr):List (Addr×Obj):=(GG g h L).filter λp=>decide (p.1≠d)
def QdT{L:Addr}:News g L h (GG g h L):=λp U=>let ⟨a,b,c⟩:=Uu U;⟨c,a,b⟩
structure Mod(K:Aa)(mg:Em)(O8:Heap):Prop where
 kin:K.In O8
 glob:O8.Ns mainGlobals mg
 blt:∃mb,O8.Ns builtinsNs mb/\∀x:Str,x ≠ "__name__" -> mb x=bootBuiltins x
 nolimit:O8.NoLimit
structure Cx where
 prog:Program
 w:World
 K:Aa
 mg:Str->Option Value
 O8:Heap
 A:Around
 N:List Str
 s₀:Shared
 H₀:Hp
 env:Env
 outer:List Env
 stack:List Env
 ex:List Addr
 fn:Str->Bool
 calm:Bool
 pn:List (Addr×Obj)
 xe:Value->Shared->Prop
def frs(l:List Env):List Addr:=l.filterMap (·.frame)
abbrev Cx.fs(X:Cx):List Addr:=frs X.outer
def Vis(a:Scope)(x:Str):Prop:=a.names.lookup x=some .local∨a.names.lookup x=some .cell∨a.names.lookup x=some .free
def Loc(a:Scope)(x:Str):Prop:=a.names.lookup x=some .local∨a.names.lookup x=some .cell
def Tn(env:Env)(h:Heap)(m:Em)(x:Str)(u:Value):Prop :=
 (env.kindOf x=some .local/\m x=some u)∨((env.kindOf x=some .cell∨env.kindOf x=some .free)/\∃c,env.cells.lookup x=some c/\h.IsCell c (some u))
structure Cx.Ok(X:Cx):Prop where
 mod:Mod X.K X.mg X.O8
 kind:X.env.scope.kind=.function
 glob:X.env.globals=mainGlobals
 blt:X.env.builtins=builtinsNs
 above:X.s₀.heap.objs.size<=X.env.locals
 inj:∀x y c,X.env.cells.lookup x=some c->X.env.cells.lookup y=some c->x=y
 has:∀x,(X.env.kindOf x=some .cell∨X.env.kindOf x=some .free)->∃c,X.env.cells.lookup x=some c
 cab:∀x c,X.fn x=true->X.env.cells.lookup x=some c->X.s₀.heap.objs.size<=c
 hd:X.calm=true->X.A.handled=none
 frames:X.A.frames=some X.stack
 stk:X.stack=X.outer∨(X.stack=X.env::X.outer/\X.env.frame=some X.env.locals)
 exf:∀b∈X.ex,b≠X.env.locals/\∀x c,X.env.cells.lookup x=some c->c≠b
 bs:∀b o,X.O8.get? b=some o->X.s₀.heap.get? b=some o/\X.H₀ b=none
 bsz:X.O8.objs.size<=X.s₀.heap.objs.size
 noex:∀b o,X.O8.get? b=some o->b∉X.ex
 exfs:∀b∈X.ex,b∉X.fs
 funs:X.s₀.heap.FunFrames X.O8 X.outer
 frf:∀b∈X.fs,X.H₀ b=none
structure Inv(X:Cx)(O9:Ek)(σ:List (Option V))(H:Hp)(s:Shared):Prop where
 ok:X.Ok
 os:s.os=X.s₀.os
 bare:AllBare s.gens
 O8:Un X.fs X.ex X.H₀ H X.s₀.heap s.heap
 loc:∃m,s.heap.Ns X.env.locals m/\∀(i:Nat)(x:Str)(v:V),X.N[i]?=some x->σ[i]?=some (some v)->Vis X.env.scope x->∃u,RelV v u/\Tn X.env s.heap m x u
 cell:∀x c,X.env.cells.lookup x=some c->∃v,s.heap.IsCell c v
 free:H X.env.locals=none
 freeC:∀x c,X.env.cells.lookup x=some c->H c=none
 pin:∀p∈X.pn++O9,s.heap.get? p.1=some p.2/\H p.1=none/\p.1≠X.env.locals/\p.1∉X.fs/\∀v,p.2.data≠.cell v
 hok:HOk X.prog X.w H s.heap
 len:σ.length=X.N.length
section
variable{X:Cx}{O9:Ek}{σ:List (Option V)}{H H':Hp}{s:Shared}{h':Heap}
theorem Cx.Ok.nofr(ok:X.Ok){b:Addr}(e:X.O8.get? b=some o):b∉X.fs:=λa=>by have:=(ok.funs.mem a).1;rw[e]at this;cases this
theorem Inv.bs(I:Inv X O9 σ H s):∀b o,X.O8.get? b=some o->s.heap.get? b=some o/\H b=none:=λb o e =>
 ⟨I.O8.keep b o (I.ok.bs b o e).1 (I.ok.bs b o e).2 (I.ok.nofr e) (I.ok.noex b o e),I.O8.free b o (I.ok.bs b o e).1 (I.ok.bs b o e).2 (I.ok.noex b o e)⟩
def Inv.bk(I:Inv X O9 σ H s):∀b o,X.O8.get? b=some o->s.heap.get? b=some o:=λb o e=>(I.bs b o e).1
def Inv.mod(I:Inv X O9 σ H s):Mod X.K X.mg X.O8:=I.ok.mod
def Inv.kIn(I:Inv X O9 σ H s):X.K.In s.heap:=I.ok.mod.kin.keeps I.bk
theorem Inv.fr(I:Inv X O9 σ H s):∃m,Fr X.O8 X.env.locals s.heap m :=
 let ⟨m,a,_⟩:=I.loc
 ⟨m,a,I.bk,Bj I.ok.bsz I.ok.above⟩
def Inv.lt(I:Inv X O9 σ H s):X.env.locals<s.heap.objs.size:=let ⟨_,a,_⟩:=I.loc;a.lt
def Inv.sz(I:Inv X O9 σ H s):X.s₀.heap.objs.size<=s.heap.objs.size:=Bj I.ok.above (Nat.le_of_lt I.lt)
theorem Inv.nofs(I:Inv X O9 σ H s){a:Addr}(h:s.heap.objs.size<=a):a∉X.fs:=λb=>by obtain⟨_,o,c,_⟩:=I.ok.funs.mem b;exact absurd (Ay (Ap c) (Bj I.sz h)) (Cy _)
theorem Inv.cne(I:Inv X O9 σ H s):∀x c,X.env.cells.lookup x=some c->c≠X.env.locals:=λx c e z=>by obtain⟨v,o,f,hd⟩:=I.cell x c e;obtain⟨m,⟨o',es,ep,b,a,_⟩,_⟩:=I.loc;rw[z,b]at f;cases f;rw[a]at hd;cases hd
theorem Inv.funs(I:Inv X O9 σ H s):s.heap.FunFrames X.O8 X.outer:=by
  have all:∀(l:List Env),(∀b∈frs l,b∈X.fs)->X.s₀.heap.FunFrames X.O8 l->s.heap.FunFrames X.O8 l:=by
    intro l;induction l with
    |nil=>intro _ _;trivial
    |cons env r n=>intro hs h;obtain⟨f,⟨L,o,hf,i,j,hd⟩,m⟩:=h;have a:L∈X.fs:=hs L (by unfold frs;rw[List.filterMap_cons,hf];exact List.mem_cons_self);obtain⟨q,e⟩:=I.O8.slot L o j (I.ok.frf L a) a λz=>I.ok.exfs L z a;exact⟨f,⟨L,_,hf,i,e,hd⟩,n (λb c=>hs b (by unfold frs;rw[List.filterMap_cons,hf];exact Ax _ c)) m⟩
  exact all X.outer (λ_ c=>c) I.ok.funs
theorem Inv.stack(I:Inv X O9 σ H s):s.heap.FunFrames X.O8 X.stack:=by
 rcases I.ok.stk with e|⟨e,hf⟩
 ·rw[e];exact I.funs
 ·rw[e];obtain⟨m,a,_⟩:=I.loc;refine .cons (by rw[I.ok.kind];decide) hf a ?_ I.funs;exact Heap.get?_none_of_le (Bj I.ok.bsz I.ok.above)
theorem Inv.stkSub(I:Inv X O9 σ H s):∀b∈frs X.stack,b∈X.env.locals::X.fs:=λb a=>by
 rcases I.ok.stk with e|⟨e,hf⟩
 ·rw[e]at a;exact Ax _ a
 ·rw[e]at a;unfold frs at a;rw[List.filterMap_cons,hf]at a;exact a
theorem Inv.stkFree(I:Inv X O9 σ H s):∀b∈frs X.stack,H b=none:=λb a=>by
 rcases Bk.mp (I.stkSub b a)with e|a
 ·rw[e];exact I.free
 ·obtain⟨_,o,c,_⟩:=I.ok.funs.mem a;exact I.O8.free b o c (I.ok.frf b a) λz=>I.ok.exfs b z a
theorem Inv.step{g':Array GenState}{t':Nat}{d':Drawn}{ch:Et}(I:Inv X O9 σ H s)
  (hch:∀b∈ch,(b∈X.ex∨X.s₀.heap.objs.size<=b)/\b≠X.env.locals/\(∀x c,X.env.cells.lookup x=some c->c≠b)/\∀p∈X.pn++O9,p.1≠b)
  (keep:∀b o,b≠X.env.locals->b∉X.fs->b∉ch->s.heap.get? b=some o->H b=none->h'.get? b=some o)
  (slot:∀b o,b≠X.env.locals->b∈X.fs->b∉ch->s.heap.get? b=some o->H b=none->∃F,h'.get? b=some { o with slots:=F }) (free:∀b o,b∉ch->s.heap.get? b=some o->H b=none->H' b=none)
  (there:∀b o,b∉ch->s.heap.get? b=some o->∃o',h'.get? b=some o')
  (tups:∀b xs,H b=some (.tup xs)->H' b=some (.tup xs)) (frzs:∀b o u,H b=some (.frz o u)->H' b=some (.frz o u)) (tbls:∀b ps,H b=some (.tbl ps)->∃more,H' b=some (.tbl (ps++more)))
  (ns:∀m,s.heap.Ns X.env.locals m->h'.Ns X.env.locals m) (hok:HOk X.prog X.w H' h') (hg:AllBare g') :
  Inv X O9 σ H' { s with heap:=h',gens:=g',drawn:=d',toks:=t' }:=by
 have C:∀b o,X.s₀.heap.get? b=some o->b≠X.env.locals:=λb o e=>Bf (Ay (Ap e) I.ok.above);have h:∀b o,X.s₀.heap.get? b=some o->b∉X.ex->b∉ch:=λb o e hx j=>by
  rcases(hch b j).1 with z|z
  ·exact hx z
  ·exact absurd (Ay (Ap e) z) (Cy _)
 have cellK:∀x c,X.env.cells.lookup x=some c->∀v,s.heap.IsCell c v->h'.IsCell c v:=λx c e v ⟨o,t,hd⟩=>by
  have a:c∉ch:=λz=>(hch c z).2.2.1 x c e rfl;by_cases L:c∈X.fs
  ·obtain⟨F,q⟩:=slot c o (I.cne x c e) L a t (I.freeC x c e);exact⟨_,q,hd⟩
  ·exact⟨o,keep c o (I.cne x c e) L a t (I.freeC x c e),hd⟩
 refine⟨I.ok,I.os,hg,⟨λb o e n j hx=>?_,λb o e n j hx=>?_,λb o e n hx=>?_,λb o e hx=>?_,λb xs e=>tups b xs (I.O8.tups b xs e),λb o xs e=>frzs b o xs (I.O8.frzs b o xs e),λb ps e=>?_⟩,?_,λx c e=>?_,?_,λx c e=>?_,λp U=>?_,hok,I.len⟩
 ·exact keep b o (C b o e) j (h b o e hx) (I.O8.keep b o e n j hx) (I.O8.free b o e n hx)
 ·obtain⟨F,f⟩:=I.O8.slot b o e n j hx;obtain⟨J,y⟩:=slot b _ (C b o e) j (h b o e hx) f (I.O8.free b o e n hx);exact⟨J,y⟩
 ·obtain⟨o',f⟩:=I.O8.there b o e hx;exact free b o' (h b o e hx) f (I.O8.free b o e n hx)
 ·obtain⟨o',f⟩:=I.O8.there b o e hx;exact there b o' (h b o e hx) f
 ·obtain⟨R,f⟩:=I.O8.tbls b ps e;obtain⟨Y,y⟩:=tbls b _ f;exact⟨R++Y,by rw[y,Array.append_assoc]⟩
 ·obtain⟨m,Q,P⟩:=I.loc;refine⟨m,ns m Q,λi x v f y O=>?_⟩;obtain⟨u,r,l⟩:=P i x v f y O;refine⟨u,r,?_⟩;rcases l with l|⟨k,c,e,z⟩
  ·exact .inl l
  ·exact .inr ⟨k,c,e,cellK x c e _ z⟩
 ·obtain⟨v,z⟩:=I.cell x c e;exact⟨v,cellK x c e v z⟩
 ·obtain⟨m,⟨o,_,_,t,_⟩,_⟩:=I.loc;exact free _ o (λz=>(hch _ z).2.1 rfl) t I.free
 ·obtain⟨v,o,t,hd⟩:=I.cell x c e;exact free c o (λz=>(hch c z).2.2.1 x c e rfl) t (I.freeC x c e)
 ·obtain⟨e,n,ne,nf,d⟩:=I.pin p U;have a:p.1∉ch:=λz=>(hch p.1 z).2.2.2 p U rfl;exact⟨keep p.1 p.2 ne nf a e n,free p.1 p.2 a e n,ne,nf,d⟩
theorem Inv.un{t':Nat}(I:Inv X O9 σ H s)(u:Un X.fs [] H H' s.heap h')(hok:HOk X.prog X.w H' h'):Inv X O9 σ H' { s with heap:=h',toks:=t' }:=by
 obtain⟨m,⟨o,es,ep,i,r⟩,_⟩:=id I.loc;obtain⟨v,j⟩:=u.any i I.free (by simp);exact I.step (g':=s.gens) (d':=s.drawn) (ch:=[]) (λ_ z=>nomatch z) (λb o _ h _ e n=>u.keep b o e n h (by simp)) (λb o _ h _ e n=>u.slot b o e n h (by simp)) (λb o _ e n=>u.free b o e n (by simp)) (λb o _ e=>u.there b o e (by simp)) u.tups u.frzs u.tbls (λt l=>by obtain⟨o',f,c,a,q⟩:=l;rw[i]at a;cases a;exact⟨_,f,c,j,q⟩) hok I.bare
theorem Inv.call{g':Array GenState}{t':Nat}{d':Drawn}(I:Inv X O9 σ H s)(u:Un (frs X.stack) ch H H' s.heap h')(hok:HOk X.prog X.w H' h')(t:AllBare g')
  (hch:∀b∈ch,(b∈X.ex∨X.s₀.heap.objs.size<=b)/\b≠X.env.locals/\(∀x c,X.env.cells.lookup x=some c->c≠b)/\∀p∈X.pn++O9,p.1≠b) :
  Inv X O9 σ H' { s with heap:=h',gens:=g',drawn:=d',toks:=t' }:=by
 obtain⟨m,⟨o,es,ep,l,r⟩,_⟩:=id I.loc;obtain⟨F,j⟩:=u.any l I.free λz=>(hch _ z).2.1 rfl;exact I.step (ch:=ch) hch (λb o j q a e n=>u.keep b o e n (λz=>(Bk.mp (I.stkSub b z)).elim j q) a) (λb o _ _ a e n=>u.any e n a) (λb o a e n=>u.free b o e n a) (λb o a e=>u.there b o e a) u.tups u.frzs u.tbls (λC v=>by obtain⟨o',i,h,f,y⟩:=v;rw[l]at f;cases f;exact⟨_,i,h,j,y⟩) hok t
theorem Inv.turned{t':Nat}{a:Addr}(I:Inv X O9 σ H s)(k:∀b o,b≠a->s.heap.get? b=some o->h'.get? b=some o)(t:H a=none)(i:a≠X.env.locals)
  (h1:a∈X.ex∨X.s₀.heap.objs.size<=a) (h2:∀x c,X.env.cells.lookup x=some c->c≠a) (h3:∀p∈X.pn++O9,p.1≠a):Inv X O9 σ H { s with heap:=h',toks:=t' }:=by
 have h:∀b u,H b=some u->b≠a:=λb u e z=>by rw[z,t]at e;cases e
 refine I.step (g':=s.gens) (d':=s.drawn) (ch:=[a]) (λb j=>?_) (λb o _ _ f e _=>k b o (λz=>f (by simp[z])) e) (λb o _ _ f e _=>⟨o.slots,k b o (λz=>f (by simp[z])) e⟩) (λ_ _ _ _ n=>n)
  (λb o f e=>⟨o,k b o (λz=>f (by simp[z])) e⟩) (λ_ _ e=>e) (λ_ _ _ e=>e) (λb ps e=>⟨#[],by rw[e];simp⟩) (λm l=>?_) (λb u e=>?_) I.bare
 ·have e:b=a:=by simpa using j
  subst e;exact⟨h1,i,h2,h3⟩
 ·obtain⟨o,es,ep,y,r⟩:=l;exact⟨o,es,ep,k _ o (Ne.symm i) y,r⟩
 ·refine(I.hok b u e).stay (λc v f q=>k c v ?_ q) (λ_ q=>q) λ_ _ q=>q;rcases f with z|z
  ·rw[z];exact h b u e
  ·exact h c _ z
def Inv.tok(I:Inv X O9 σ H s)(t:Nat):Inv X O9 σ H { s with toks:=t }:=I.un (h':=s.heap) (t':=t) Un.refl I.hok
def Inv.kept{t':Nat}(I:Inv X O9 σ H s)(k:∀b u,s.heap.get? b=some u->h'.get? b=some u):Inv X O9 σ H { s with heap:=h',toks:=t' }:=I.un (Un.kept k) (I.hok.kept k)
theorem Inv.laid{a:Addr}{t':Nat}(I:Inv X O9 σ H s)(k:∀b u,s.heap.get? b=some u->h'.get? b=some u)(U:s.heap.objs.size<=a)(new:ObjOk X.prog X.w (upd H a o) h' a o):
  Inv X O9 σ (upd H a o) { s with heap:=h',toks:=t' }:=I.un (Un.laid k U (I.hok.fresh U)) (I.hok.laid k U new)
theorem Inv.write{x e:Addr}{o:HO}{t':Nat}(I:Inv X O9 σ H s)(mu:Mut (H x))(he:e=x∨H e=some (.own x))(k:∀b u,b≠e->s.heap.get? b=some u->h'.get? b=some u)(a:∃u,h'.get? e=some u)
  (new:ObjOk X.prog X.w (upd H x o) h' x o):Inv X O9 σ (upd H x o) { s with heap:=h',toks:=t' }:=I.un (Un.write mu he k a) (I.hok.write mu he k a new)
theorem Inv.pins_of(I:Inv X O9 σ H s)(h:∀p∈pins',s.heap.get? p.1=some p.2/\H p.1=none/\p.1≠X.env.locals/\p.1∉X.fs/\∀v,p.2.data≠.cell v):Inv X pins' σ H s :=
 ⟨I.ok,I.os,I.bare,I.O8,I.loc,I.cell,I.free,I.freeC,λp U=>(Ai.mp U).elim (λz=>I.pin p (A7 _ z)) (h p),I.hok,I.len⟩
theorem gb{N:List Str}(f:N.Nodup){i j:Nat}{x:Str}(a:N[i]?=some x)(b:N[j]?=some x):i=j:=by obtain⟨h1,c⟩:=Ac.mp a;obtain⟨h2,e⟩:=Ac.mp b;exact(List.getElem_inj f).mp (c.trans e.symm)
theorem Gw{M:Model}{A:Around}{E:Ej}{i:Nat}{x:Str}{Q:Unit->Shared->Prop}(I:Inv X O9 σ H s)(hN:X.N.Nodup)(hi:X.N[i]?=some x)(hx:Loc X.env.scope x)(r:RelV v u)
  (h:∀s',Inv X O9 (σ.set i (some v)) H s'->(∃a,Heap.SameBut a s.heap s'.heap/\(a=X.env.locals∨X.env.cells.lookup x=some a))->Q () s') (hf:X.fn x=true∨X.env.scope.names.lookup x=some .local:=by first|exact .inl rfl|exact .inr rfl|assumption):wpAny M A (storeName X.env x u) Q E s:=by
 obtain⟨m,hn,hl⟩:=id I.loc;have Y:(X.env.scope.kind==.class||(X.env.scope.kind==.module&&X.env.locals != X.env.globals))=false:=by rw[I.ok.kind];rfl
 have hiσ:i<σ.length:=by rw[I.len];exact(Ac.mp hi).1
 have cne:=I.cne;have tracked:∀{a:Addr}{h':Heap},(∃o,s.heap.get? a=some o/\H a=none)->Heap.SameBut a s.heap h'->HOk X.prog X.w H h':=λ{a h'} ha hs b ob e=>by
  obtain⟨_,_,t⟩:=ha;refine(I.hok b ob e).stay (λc w' l q=>(hs.2 c ?_).trans q) (λ_ q=>q) λ_ _ q=>q;rintro rfl;rcases l with rfl|l
  ·rw[t]at e;cases e
  ·rw[t]at l;cases l
 rcases hx with F|F
 ·refine wpAny_storeName_local F hn (λh' av hs=>?_) Y;obtain⟨oL,_,_,ay,_⟩:=id hn;refine h _ ⟨I.ok,I.os,I.bare,⟨λb o e n J hx=>?_,λb o e n J hx=>?_,I.O8.free,λb o e hx=>?_,I.O8.tups,I.O8.frzs,I.O8.tbls⟩,⟨_,av,λj y v' f C e3=>?_⟩,λy c e=>?_,I.free,I.freeC,λp U=>?_,tracked ⟨oL,ay,I.free⟩ hs,by simpa using I.len⟩ ⟨_,hs,.inl rfl⟩
  ·exact(hs.2 b (Bf (Ay (Ap e) I.ok.above))).trans (I.O8.keep b o e n J hx)
  ·obtain⟨sl,f⟩:=I.O8.slot b o e n J hx;exact⟨sl,(hs.2 b (Bf (Ay (Ap e) I.ok.above))).trans f⟩
  ·obtain⟨o',f⟩:=I.O8.there b o e hx;exact⟨o',(hs.2 b (Bf (Ay (Ap e) I.ok.above))).trans f⟩
  ·by_cases O:j=i
   ·subst O;rw[hi]at f;cases f;rw[Au hiσ]at C;cases C;exact⟨u,r,.inl ⟨F,by simp⟩⟩
   ·rw[Am (Ne.symm O)]at C;obtain⟨u',r',q⟩:=hl j y v' f C e3;refine⟨u',r',?_⟩;rcases q with ⟨k,e⟩|⟨k,c,e,z⟩
    ·refine .inl ⟨k,?_⟩;have:y≠x:=λe=>O (gb hN f (e▸hi));simp[this,e]
    ·exact .inr ⟨k,c,e,z.sameBut hs (cne y c e)⟩
  ·obtain⟨w',z⟩:=I.cell y c e;exact⟨w',z.sameBut hs (cne y c e)⟩
  ·obtain⟨e,n,ne,nf,d⟩:=I.pin p U;exact⟨(hs.2 p.1 ne).trans e,n,ne,nf,d⟩
 ·have L:X.fn x=true:=by
   rcases hf with z|z
   ·exact z
   ·rw[z]at F;cases F
  obtain⟨c,l⟩:=I.ok.has x (.inl F);obtain⟨w',z⟩:=I.cell x c l;refine wpAny_storeName_cell I.ok.kind F l z (λh' P hs=>?_);obtain⟨oc,ab,ae⟩:=id z;refine h { s with heap:=h' } ⟨I.ok,I.os,I.bare,⟨λb o e n J hx=>?_,λb o e n J hx=>?_,I.O8.free,λb o e hx=>?_,I.O8.tups,I.O8.frzs,I.O8.tbls⟩,⟨m,hn.sameBut hs (Ne.symm (cne x c l)),λj y v' f C e3=>?_⟩,λy c' e=>?_,I.free,I.freeC,λp U=>?_,tracked ⟨oc,ab,I.freeC x c l⟩ hs,by simpa using I.len⟩ ⟨c,hs,.inr l⟩
  ·exact(hs.2 b (Bf (Ay (Ap e) (I.ok.cab x c L l)))).trans (I.O8.keep b o e n J hx)
  ·obtain⟨sl,f⟩:=I.O8.slot b o e n J hx;exact⟨sl,(hs.2 b (Bf (Ay (Ap e) (I.ok.cab x c L l)))).trans f⟩
  ·obtain⟨o',f⟩:=I.O8.there b o e hx;exact⟨o',(hs.2 b (Bf (Ay (Ap e) (I.ok.cab x c L l)))).trans f⟩
  ·by_cases O:j=i
   ·subst O;rw[hi]at f;cases f;rw[Au hiσ]at C;cases C;exact⟨u,r,.inr ⟨.inl F,c,l,P⟩⟩
   ·rw[Am (Ne.symm O)]at C;obtain⟨u',r',q⟩:=hl j y v' f C e3;refine⟨u',r',?_⟩;rcases q with q|⟨k,c',e,z'⟩
    ·exact .inl q
    ·refine .inr ⟨k,c',e,z'.sameBut hs ?_⟩;rintro rfl;exact O (gb hN f (I.ok.inj _ _ _ e l▸hi))
  ·by_cases R:c'=c
   ·subst R;exact⟨_,P⟩
   ·obtain⟨w2,z2⟩:=I.cell y c' e;exact⟨w2,z2.sameBut hs R⟩
  ·obtain⟨e,n,ne,nf,d⟩:=I.pin p U;refine⟨(hs.2 p.1 ?_).trans e,n,ne,nf,d⟩;intro q;rw[q,ab]at e;have q':oc=p.2:=Ak e;exact d w' (by rw[<- q'];exact ae)
theorem gP{M:Model}{A:Around}{E:Ej}{i:Nat}{x:Str}{Q:Unit->Shared->Prop}(I:Inv X O9 σ H s)(a:X.N.Nodup)(hi:X.N[i]?=some x)(hx:Loc X.env.scope x)(r:RelV v u)
  (h:∀s',Inv X O9 (σ.set i (some v)) H s'->Q () s') (hf:X.fn x=true∨X.env.scope.names.lookup x=some .local:=by first|exact .inl rfl|exact .inr rfl|assumption):wpAny M A (storeName X.env x u) Q E s :=
 Gw I a hi hx r (λs' I' _=>h s' I') hf
theorem Inv.call'{s':Shared}(I:Inv X O9 σ H s)(f:s'.os=s.os)(u:Un (frs X.stack) ch H H' s.heap s'.heap)(hok:HOk X.prog X.w H' s'.heap)(a:AllBare s'.gens)
  (hch:∀b∈ch,(b∈X.ex∨X.s₀.heap.objs.size<=b)/\b≠X.env.locals/\(∀x c,X.env.cells.lookup x=some c->c≠b)/\∀p∈X.pn++O9,p.1≠b):Inv X O9 σ H' s':=by
 obtain⟨h',g',d',t',o'⟩:=s';have e:o'=s.os:=f;subst e;exact I.call (g':=g') (t':=t') (d':=d') u hok a hch
end
abbrev XK:=Value->Option Addr->Hp->Prop
abbrev St:=List (Option V)
abbrev VK:=V->Hp->Prop
abbrev TE:=St->Hp->VK->Prop
abbrev TT:=St->Hp->(Bool->Hp->Prop)->Prop
abbrev TA:=St->Hp->(List V->Hp->Prop)->Prop
structure GB where
 nx:St->Hp->Prop
 rt:VK
 bk:St->Hp->Prop:=λ_ _=>False
 ct:St->Hp->Prop:=λ_ _=>False
abbrev TS:=GB->St->Hp->Prop
def EP(X:Cx)(a:Ek)(σ:St)(Q:VK)(u:Value)(s':Shared):Prop:=∃v H',Inv X a σ H' s'/\RelV v u/\Q v H'
def TP(X:Cx)(c:Ek)(σ:St)(Q:Bool->Hp->Prop)(b:Bool)(s':Shared):Prop:=∃a,Inv X c σ a s'/\Q b a
def AP(X:Cx)(a:Ek)(σ:St)(Q:List V->Hp->Prop)(us:List Value)(s':Shared):Prop:=∃vs H',Inv X a σ H' s'/\Vals vs us/\Q vs H'
def SP(X:Cx)(a:Ek)(D:GB)(f:Flow)(s':Shared):Prop :=
 match f with
 |.next=>∃σ' H',Inv X a σ' H' s'/\D.nx σ' H'
 |.brk=>∃σ' H',Inv X a σ' H' s'/\D.bk σ' H'
 |.cont=>∃σ' H',Inv X a σ' H' s'/\D.ct σ' H'
 |.ret u=>∃v σ' H',Inv X a σ' H' s'/\RelV v u/\D.rt v H'
def PE(X:Cx)(e:Expr)(t:TE):Prop :=
 ∀(a:Ek)(s:Shared)(σ:St)(H:Hp)(Q:VK),Inv X a σ H s->t σ H Q->wpAny (model X.prog X.w) X.A (eval e X.env) (EP X a σ Q) X.xe s
def PT(X:Cx)(e:Expr)(t:TT):Prop :=
 ∀(O9:Ek)(s:Shared)(σ:St)(H:Hp)(Q:Bool->Hp->Prop),Inv X O9 σ H s->t σ H Q->wpAny (model X.prog X.w) X.A (isTrue e X.env (eval e X.env)) (TP X O9 σ Q) X.xe s
def PW(X:Cx)(e:Expr)(t:TT):Prop :=
 ∀(whole:Sem Value)(O9:Ek)(s:Shared)(σ:St)(H:Hp)(Q:Bool->Hp->Prop),Inv X O9 σ H s->t σ H Q->wpAny (model X.prog X.w) X.A (isTrue e X.env whole) (TP X O9 σ Q) X.xe s
def PA(X:Cx)(es:List Expr)(t:TA):Prop :=
 ∀(pos:Pos)(O9:Ek)(s:Shared)(σ:St)(H:Hp)(Q:List V->Hp->Prop),Inv X O9 σ H s->t σ H Q->wpAny (model X.prog X.w) X.A (spliced (backTo pos (starEach es X.env))) (AP X O9 σ Q) X.xe s
def PS(X:Cx)(st:Stmt)(t:TS):Prop :=
 ∀(a:Ek)(s:Shared)(σ:St)(H:Hp)(D:GB),Inv X a σ H s->t D σ H->wpAny (model X.prog X.w) X.A (exec st X.env) (SP X a D) X.xe s
def PSs(X:Cx)(st:List Stmt)(t:TS):Prop :=
 ∀(a:Ek)(s:Shared)(σ:St)(H:Hp)(D:GB),Inv X a σ H s->t D σ H->wpAny (model X.prog X.w) X.A (execs st X.env) (SP X a D) X.xe s
def thn{α:Type}{t:Sem α}{Q Q':α->Shared->Prop}(h:wpAny M A t Q E s)(b:∀a s,Q a s->Q' a s):wpAny M A t Q' E s:=wpAny_mono h b λ_ _ x=>x
section
variable{X:Cx}
theorem bin{j tb:TE}(l:PE X a j)(m:PE X b tb){R:V->V->Hp->Prop}(I:Inv X O9 σ H s)(h:j σ H λx i=>tb σ i λy c=>R x y c)
  {α:Type} {Q:α->Shared->Prop} {f:Value->Value->Sem α}
  (hf:∀v u e x y c,Inv X O9 σ c e->RelV x v->RelV y u->R x y c->wpAny (model X.prog X.w) X.A (f v u) Q X.xe e) :
  wpAny (model X.prog X.w) X.A (eval a X.env) (λv s₁=>wpAny (model X.prog X.w) X.A (eval b X.env) (λu s₂=>wpAny (model X.prog X.w) X.A (f v u) Q X.xe s₂) X.xe s₁) X.xe s:=by
 refine thn (l O9 s σ H _ I h) λv n ⟨x,i,I1,r1,q1⟩=>?_;refine thn (m O9 n σ i _ I1 q1) λu e ⟨y,c,I2,r2,q2⟩=>?_;exact hf v u e x y c I2 r1 r2 q2
def Tt(i:Nat):TE:=λσ H Q=>∃v,σ[i]?=some (some v)/\Q v H
def tC(v:V):TE:=λ_ H Q=>Q v H
theorem ML{i:Nat}{x:Str}{pos:Pos}(q:X.N[i]?=some x)(C:Vis X.env.scope x)(hd:(x==("__debug__" : Str))=false:=by decide)(j:(x==("__classdict__" : Str))=false:=by decide):PE X (.Name x pos) (Tt i):=by
 intro o s σ H Q I h;obtain⟨v,e,h⟩:=h;obtain⟨m,z,t⟩:=I.loc;obtain⟨u,r,l⟩:=t i x v q e C;have b:EP X o σ Q u s:=⟨v,H,I,r,h⟩;rcases l with ⟨f,y⟩|⟨f,c,n,a⟩
 ·exact wpAny_Name (wpAny_loadName_local I.ok.kind f z y b) hd
 ·rcases f with f|f
  ·exact wpAny_Name (wpAny_loadName_cell I.ok.kind f n a b) hd
  ·exact wpAny_Name (wpAny_loadName_free I.ok.kind f n a b j) hd
def MU{i j pos}:PE X (.Constant (.int i) j pos) (tC (.int i)):=λ_ _ _ H _ I h=>wpAny_Constant_int ⟨.int i,H,I.tok _,⟨_,rfl⟩,h⟩
def WY{b j pos}:PE X (.Constant (.bool b) j pos) (tC (.bl b)):=λ_ _ _ H _ I h=>Constant_bool ⟨.bl b,H,I,rfl,h⟩
def MT{j pos}:PE X (.Constant .none j pos) (tC .non):=λ_ _ _ H _ I h=>Constant_none ⟨.non,H,I,rfl,h⟩
def MQ{x j pos}:PE X (.Constant (.str x) j pos) (tC (.str x)):=λ_ _ _ H _ I h=>Calls.Constant_str ⟨.str x,H,I.tok _,⟨_,rfl⟩,h⟩
def Gl(X:Cx)(x:Str):Prop:=X.env.kindOf x=some .globalImplicit
theorem ve{E:Ej}{x:Str}{pos:Pos}{Q:Ej}(I:Inv X O9 σ H s)(a:Gl X x)(b:X.mg x=some u)(h:Q u s)
  (hd:(x==("__debug__" : Str))=false:=by decide):wpAny (model X.prog X.w) X.A (eval (.Name x pos) X.env) Q E s :=
 Calls.Name_function_global I.ok.kind a (Calls.loadGlobal_global (by rw[I.ok.glob];exact I.mod.glob.keeps I.bk) b h) hd
theorem xc{E:Ej}{x:Str}{pos:Pos}{Q:Ej}(I:Inv X O9 σ H s)(a:Gl X x)(b:X.mg x=none)(c:bootBuiltins x=some u)(h:Q u s)
  (hn:x ≠ "__name__" := by decide) (hd:(x==("__debug__" : Str))=false:=by decide):wpAny (model X.prog X.w) X.A (eval (.Name x pos) X.env) Q E s:=by
 obtain⟨mb,h1,h2⟩:=I.mod.blt;exact Calls.Name_function_global I.ok.kind a (Calls.loadGlobal_builtin (by rw[I.ok.glob];exact I.mod.glob.keeps I.bk) b (by rw[I.ok.blt];exact h1.keeps I.bk) ((h2 x hn).trans c) h) hd
theorem Iz{x:Str}{pos:Pos}(a:Gl X x)(b:X.mg x=some u)(r:RelV v u)(hd:(x==("__debug__" : Str))=false:=by decide):PE X (.Name x pos) (tC v) :=
 λ_ _ _ H _ I h=>ve I a b ⟨v,H,I,r,h⟩ hd
theorem IK{x:Str}{pos:Pos}(a:Gl X x)(b:X.mg x=none)(e:bootBuiltins x=some u)(r:RelV v u)(c:x ≠ "__name__" := by decide)(hd:(x==("__debug__" : Str))=false:=by decide):PE X (.Name x pos) (tC v) :=
 λ_ _ _ H _ I h=>xc I a b e ⟨v,H,I,r,h⟩ c hd
variable{a b:Expr}{ta tb:TE}{pos:Pos}
def PC(X:Cx)(e:CmpOp)(a b:Expr)(t:TE):Prop :=
  ∀(c : List (Addr × Obj))(s : Shared)(σ : St)(H : Hp)(Q : VK), Inv X c σ H s -> t σ H Q ->
    wpAny (model X.prog X.w) X.A (eval a X.env) (λv s₁=>wpAny (model X.prog X.w) X.A (eval b X.env) (λu s₂=>wpAny (model X.prog X.w) X.A (compareOp e v u) (EP X c σ Q) X.xe s₂) X.xe s₁) X.xe s
theorem QdU(b:Expr){c:CmpOp}(h:c≠.In)(h2:c≠.NotIn):behindInMarks c b=false:=by
 have e:(c==CmpOp.In)=false:=by cases c<;>first|rfl|exact absurd rfl h
 have f:(c==CmpOp.NotIn)=false:=by cases c<;>first|rfl|exact absurd rfl h2
 cases b<;>simp[behindInMarks,e,f]
def tB(t:TE):TT:=λσ H Q=>t σ H λx H1=>∃c,x=.bl c/\Q c H1
theorem QjQ{e:CmpOp}(h:PC X e a b t)(h1:behindInMarks e b=false:=by first|exact QdU _ (by decide) (by decide)|rfl):PT X (.Compare a [e] [b] pos) (tB t):=by intro f s σ H Q I hw;refine wpAny_isTrue_Compare1 (thn (h f s σ H _ I hw) λv i h1=>thn h1 λu j h2=>thn h2 λc l ⟨x,H1,I1,r1,q1⟩=>?_) h1;obtain⟨d,rfl,q⟩:=q1;cases r1;exact wpAny_truthy_bool ⟨H1,I1,q⟩
theorem WV{e:Expr}(h:PE X e t)(he:∀whole,isTrue e X.env whole=(do let v <- whole;standAt e.pos;holding [v] (truthy v)):=by intro _;rfl):PT X e (tB t):=by intro c s σ H Q I hw;refine isTrue_plain (thn (h c s σ H _ I hw) λv f ⟨x,H1,I1,r1,q1⟩=>?_) (he _);obtain⟨d,rfl,q⟩:=q1;cases r1;exact wpAny_truthy_bool ⟨H1,I1,q⟩
variable{tA tB':TT}{rest:List Expr}
def TX(t u:TT):TT:=λσ H Q=>t σ H λc H1=>if c=true then u σ H1 Q else Q false H1
def tOr(t u:TT):TT:=λσ H Q=>t σ H λc H1=>if c=true then Q true H1 else u σ H1 Q
def Tz(t:TT):TT:=λσ H Q=>t σ H λc H1=>Q (!c) H1
theorem D6(f:PT X a tA):PW X (.BoolOp .And [a] pos) tA:=by
 intro j O9 s σ H Q I h;refine isTrue_and (thn (f O9 s σ H Q I h) λc i e=>?_);cases c with
 |true=>exact isTrue_and_nil e
 |false=>exact e
theorem Ha(f:PT X a tA):PW X (.BoolOp .Or [a] pos) tA:=by
 intro j O9 s σ H Q I h;refine isTrue_or (thn (f O9 s σ H Q I h) λc i e=>?_);cases c with
 |false=>exact isTrue_or_nil e
 |true=>exact e
theorem Hb(f:PT X a tA)(i:PW X (.BoolOp .And (b::rest) pos) tB'):PW X (.BoolOp .And (a::b::rest) pos) (TX tA tB'):=by
 intro l O9 s σ H Q I h;refine isTrue_and (thn (f O9 s σ H _ I h) λc j ⟨e,I1,q1⟩=>?_);cases c with
 |true=>exact i l O9 j σ e Q I1 q1
 |false=>exact⟨e,I1,q1⟩
theorem Ss(f:PT X a tA)(i:PW X (.BoolOp .Or (b::rest) pos) tB'):PW X (.BoolOp .Or (a::b::rest) pos) (tOr tA tB'):=by
 intro l O9 s σ H Q I h;refine isTrue_or (thn (f O9 s σ H _ I h) λc j ⟨e,I1,q1⟩=>?_);cases c with
 |true=>exact⟨e,I1,q1⟩
 |false=>exact i l O9 j σ e Q I1 q1
theorem WZ(f:PT X a tA):PT X (.UnaryOp .Not a pos) (Tz tA):=by intro e s σ H Q I h;exact isTrue_not (f e s σ H (λc H1=>Q (!c) H1) I h)
def R0(ta tb:TE):TE:=λσ H Q=>ta σ H λx H1=>∃c,x=.bl c/\if c=true then tb σ H1 Q else Q (.bl false) H1
def RT(ta:TE):TE:=λσ H Q=>ta σ H λx H1=>∃c,x=.bl c/\Q (.bl (!c)) H1
def MR{op}(h:PE X a t):PE X (.BoolOp op [a] pos) t:=λc s σ H Q I hw=>BoolOp_one (h c s σ H Q I hw)
theorem MW(i:PE X a ta)(j:PE X (.BoolOp .And (b::rest) pos) tb):PE X (.BoolOp .And (a::b::rest) pos) (R0 ta tb):=by
 intro f s σ H Q I h;refine BoolOp_and (thn (i f s σ H _ I h) λv l ⟨x,H1,I1,r1,e⟩=>?_);obtain⟨c,rfl,e⟩:=e;cases r1;refine wpAny_truthy_bool ?_;cases c with
 |true=>exact j f l σ H1 Q I1 e
 |false=>exact⟨.bl false,H1,I1,rfl,e⟩
theorem MS(i:PE X a ta):PE X (.UnaryOp .Not a pos) (RT ta):=by intro f s σ H Q I h;refine UnaryOp_ (thn (i f s σ H _ I h) λv j ⟨x,H1,I1,r1,e⟩=>?_);obtain⟨c,rfl,e⟩:=e;cases r1;exact not_of (wpAny_truthy_bool ⟨.bl (!c),H1,I1,rfl,e⟩)
def tIf(t:TT)(ta tb:TE):TE:=λσ H Q=>t σ H λc H1=>if c=true then ta σ H1 Q else tb σ H1 Q
theorem Qd4(m:PT X c tA)(j:PE X a ta)(l:PE X b tb):PE X (.IfExp c a b pos) (tIf tA ta tb):=by
 intro e s σ H Q I h;refine wpAny_IfExp (thn (m e s σ H _ I h) λd i ⟨f,I1,q1⟩=>?_);cases d with
 |true=>exact j e i σ f Q I1 q1
 |false=>exact l e i σ f Q I1 q1
end
def SqL(K:Aa)(H:Hp)(a:Addr)(xs:List V):Prop :=
 Rd H a (.lst xs) ∨
  ∃(o:Obj) (b:Array Value) (n:Nat),K.lookup a=some o/\o.cls=.type "list" /\ o.dict=none/\o.data=.seq b n/\b.size<=sizeLine/\Vals xs b.toList
def SqT(K:Aa)(H:Hp)(a:Addr)(xs:List V):Prop :=
 Rd H a (.tup xs) ∨
  ∃(o:Obj) (b:Array Value) (n:Nat),K.lookup a=some o/\o.cls=.type "tuple" /\ o.data=.seq b n/\b.size<=sizeLine/\Vals xs b.toList
def Tj:Value->Option V
 |.none=>some .non
 |.bool b=>some (.bl b)
 |.int i _=>some (.int i)
 |.str x _=>some (.str x)
 |.bytes b _=>some (.byt b)
 |.float b _=>some (.flt b)
 |.ref a=>some (.ref a)
 |.type n=>some (.ty n)
 |_=>none
theorem RelV.abs(r:RelV x u):Tj u=some x:=by
 cases x with
 |non=>cases r;rfl
 |bl _=>cases r;rfl
 |int _=>obtain⟨t,rfl⟩:=r;rfl
 |str _=>obtain⟨t,rfl⟩:=r;rfl
 |byt _=>obtain⟨t,rfl⟩:=r;rfl
 |flt _=>obtain⟨t,rfl⟩:=r;rfl
 |ref _=>cases r;rfl
 |ty _=>cases r;rfl
def RelV.inj{x y:V}(r:RelV x u)(q:RelV y u):x=y:=Ak (r.abs.symm.trans q.abs)
theorem Vals.inj:∀{xs ys:List V}{us:List Value},Vals xs us->Vals ys us->xs=ys
 |_,_,_,.nil,.nil=>rfl
 |_,_,_,.cons r t,.cons a t'=>by rw[r.inj a,Vals.inj t t']
section
variable{X:Cx}{O9:Ek}{σ:St}{H:Hp}{s:Shared}{a:Addr}{xs ys:List V}
def SqL.of{K:Aa}(h:H a=some (.lst xs)):SqL K H a xs:=.inl (.inl h)
def SqT.of{K:Aa}(h:H a=some (.tup xs)):SqT K H a xs:=.inl (.inl h)
theorem Inv.list(I:Inv X O9 σ H s)(h:SqL X.K H a xs):∃b:List Value,Vals xs b/\PlainL s.heap a b.toArray/\xs.length<=sizeLine:=by
 rcases h with h|⟨o,b,n,f,c,hd,hs,hz,r⟩
 ·obtain⟨z,b,n,r,e⟩:=h.ok I.hok;exact⟨b,r,⟨_,n,e,rfl,rfl,rfl⟩,z⟩
 ·refine⟨b.toList,r,⟨o,n,I.kIn a o f,c,hd,by simpa using hs⟩,?_⟩;have e:=r.length;simp only[Cj]at e;lia
theorem Inv.tuple(I:Inv X O9 σ H s)(h:SqT X.K H a xs):∃b:List Value,Vals xs b/\IsTup s.heap a b.toArray/\xs.length<=sizeLine:=by
 rcases h with h|⟨o,b,n,f,c,hs,hz,r⟩
 ·obtain⟨z,b,r,p⟩:=h.ok I.hok;exact⟨b,r,p,z⟩
 ·refine⟨b.toList,r,⟨o,I.kIn a o f,c,n,by simpa using hs⟩,?_⟩;have e:=r.length;simp only[Cj]at e;lia
theorem Inv.list_inj(I:Inv X O9 σ H s)(h:SqL X.K H a xs)(h':SqL X.K H a ys):xs=ys:=by
 obtain⟨b,r,⟨o,n,e,_,_,d⟩,_⟩:=I.list h;obtain⟨its',i,⟨o',j,c,_,_,d'⟩,_⟩:=I.list h';rw[e]at c;cases c;rw[d]at d';injection d' with f _;have:b=its':=by simpa using congrArg Array.toList f
 subst this;exact r.inj i
theorem Inv.tuple_inj(I:Inv X O9 σ H s)(h:SqT X.K H a xs)(h':SqT X.K H a ys):xs=ys:=by
 obtain⟨b,r,⟨o,e,_,n,d⟩,_⟩:=I.tuple h;obtain⟨its',i,⟨o',c,_,j,d'⟩,_⟩:=I.tuple h';rw[e]at c;cases c;rw[d]at d';injection d' with f _;have:b=its':=by simpa using congrArg Array.toList f
 subst this;exact r.inj i
end
abbrev Cx.wish(X:Cx)(E:Ej):Cx:={ X with xe:=E }
abbrev Cx.nox(X:Cx):Cx:=X.wish λ_ _=>False
theorem Cx.Ok.wish{X:Cx}(ok:X.Ok)(E:Ej):(X.wish E).Ok :=
 ⟨ok.mod,ok.kind,ok.glob,ok.blt,ok.above,ok.inj,ok.has,ok.cab,ok.hd,ok.frames,ok.stk,ok.exf,ok.bs,ok.bsz,ok.noex,ok.exfs,ok.funs,ok.frf⟩
theorem Cx.Ok.unwish{X:Cx}(ok:(X.wish E).Ok):X.Ok :=
 ⟨ok.mod,ok.kind,ok.glob,ok.blt,ok.above,ok.inj,ok.has,ok.cab,ok.hd,ok.frames,ok.stk,ok.exf,ok.bs,ok.bsz,ok.noex,ok.exfs,ok.funs,ok.frf⟩
section
variable{X:Cx}{O9:Ek}{σ:St}{H:Hp}{s:Shared}{E:Ej}
def Inv.wish(I:Inv X O9 σ H s)(E:Ej):Inv (X.wish E) O9 σ H s:=⟨I.ok.wish E,I.os,I.bare,I.O8,I.loc,I.cell,I.free,I.freeC,I.pin,I.hok,I.len⟩
def Inv.unwish(I:Inv (X.wish E) O9 σ H s):Inv X O9 σ H s:=⟨I.ok.unwish,I.os,I.bare,I.O8,I.loc,I.cell,I.free,I.freeC,I.pin,I.hok,I.len⟩
theorem SP.unwish{D:GB}{f:Flow}(h:SP (X.wish E) O9 D f s'):SP X O9 D f s':=by
 cases f with
 |next=>obtain⟨σ',a,I,q⟩:=h;exact⟨σ',a,I.unwish,q⟩
 |brk=>obtain⟨σ',a,I,q⟩:=h;exact⟨σ',a,I.unwish,q⟩
 |cont=>obtain⟨σ',a,I,q⟩:=h;exact⟨σ',a,I.unwish,q⟩
 |ret u=>obtain⟨v,σ',a,I,r,q⟩:=h;exact⟨v,σ',a,I.unwish,r,q⟩
theorem PSs.nox{st:List Stmt}(h:PSs X.nox st t):PSs X st t:=λO9 s σ H D I hw =>
 wpAny_mono (h O9 s σ H D (I.wish _) hw) (λ_ _ q=>q.unwish) λ_ _ z=>False.elim z
end
section
variable{X:Cx}{st:Stmt}{rest:List Stmt}{t u:TS}{e:Expr}{te:TE}{pos:Pos}
def RV:TS:=λD σ H=>D.nx σ H
def Dw(t u:TS):TS:=λD σ H=>t { D with nx:=u D } σ H
def pss_nil:PSs X [] RV:=λ_ _ σ H _ I h=>wpAny_execs_nil ⟨σ,H,I,h⟩
theorem SV(h1:PS X st t)(h2:PSs X rest u):PSs X (st::rest) (Dw t u):=by
  intro a s σ H D I h;refine wpAny_execs_cons (thn (h1 a s σ H { D with nx:=u D } I h) λf i q=>?_);cases f with
  |next=>obtain⟨σ',b,c,q⟩:=q;exact h2 a i σ' b D c q
  |ret v=>exact q
  |brk=>exact q
  |cont=>exact q
theorem Rc(h1:PS X st t):PSs X [st] t:=by
 intro a s σ H D I h;refine wpAny_execs_cons (thn (h1 a s σ H D I h) λf b q=>?_);cases f with
 |next=>exact wpAny_execs_nil q
 |ret v=>exact q
 |brk=>exact q
 |cont=>exact q
theorem Inv.quiet(I:Inv X O9 σ H s):interactive X.env=false:=by simp[interactive,I.ok.kind]
def RW(te:TE):TS:=λD σ H=>te σ H λ_ H1=>D.nx σ H1
theorem Re(he:PE X e te)(hs:swapsWith e none pos.line X.env=pure false:=by rfl):PS X (.Expr e pos) (RW te):=by intro a s σ H D I h;exact wpAny_Expr_any (thn (he a s σ H _ I h) λv b ⟨x,H1,I1,r1,q1⟩=>⟨σ,H1,I1,q1⟩) I.quiet hs
def Tw(te:TE):TS:=λD σ H=>te σ H D.rt
theorem Mc(he:PE X e te):PS X (.Return (some e) pos) (Tw te):=by intro a s σ H D I h;exact wpAny_Return_some (thn (he a s σ H _ I h) λv b ⟨x,H1,I1,r1,q1⟩=>⟨x,σ,H1,I1,r1,q1⟩)
def TJ(c:TT)(t u:TS):TS:=λD σ H=>c σ H λb H1=>if b=true then t D σ H1 else u D σ H1
theorem WT{a b:List Stmt}{l:TT}(o:PT X c l)(m:PSs X a t)(n:PSs X b u):PS X (.If c a b pos) (TJ l t u):=by
 intro f s σ H D I h;refine wpAny_If (thn (o f s σ H _ I h) λd j ⟨i,I1,q1⟩=>?_);cases d with
 |true=>exact m f j σ i D I1 q1
 |false=>exact n f j σ i D I1 q1
def Wh:TS:=λ_ _ _=>False
def SW:PS X st Wh:=λ_ _ _ _ _ _ h=>h.elim
end
abbrev TG:=V->St->Hp->(St->Hp->Prop)->Prop
abbrev TGs:=List V->St->Hp->(St->Hp->Prop)->Prop
def PG(X:Cx)(target:Expr)(t:TG):Prop :=
  ∀(O9 : List (Addr × Obj))(s : Shared)(σ : St)(H : Hp)(v : V)(u : Value)(Q : St -> Hp -> Prop), Inv X O9 σ H s -> RelV v u -> t v σ H Q ->
    wpAny (model X.prog X.w) X.A (assign target X.env u) (λ_ s'=>∃σ' H',Inv X O9 σ' H' s'/\Q σ' H') X.xe s
def PGs(X:Cx)(a:List Expr)(t:TGs):Prop :=
  ∀(O9 : List (Addr × Obj))(s : Shared)(σ : St)(H : Hp)(vs : List V)(us : List Value)(Q : St -> Hp -> Prop), Inv X O9 σ H s -> Vals vs us -> t vs σ H Q ->
    wpAny (model X.prog X.w) X.A (assignInOrder ((assignEach a X.env).map (·.2)) us) (λ_ s'=>∃σ' H',Inv X O9 σ' H' s'/\Q σ' H') X.xe s
abbrev rK:=V->V->V->Hp->(Hp->Prop)->Prop
def rM(X:Cx)(t:rK):Prop :=
  ∀(O9 : List (Addr × Obj))(s : Shared)(σ : St)(H : Hp)(o i v : V)(ov iv u : Value)(Q : Hp -> Prop), Inv X O9 σ H s -> RelV o ov -> RelV i iv -> RelV v u -> t o i v H Q ->
    wpAny (model X.prog X.w) X.A (setItem ov iv u) (λ_ s'=>∃a,Inv X O9 σ a s'/\Q a) X.xe s
section
variable{X:Cx}{pos:Pos}
def su(i:Nat):TG:=λv σ H Q=>Q (σ.set i (some v)) H
theorem vo{i:Nat}{x:Str}(b:X.N.Nodup)(hi:X.N[i]?=some x)(hx:Loc X.env.scope x)(hf:X.fn x=true∨X.env.scope.names.lookup x=some .local:=by first|exact .inl rfl|exact .inr rfl|assumption):PG X (.Name x pos) (su i):=by intro c s σ H v u Q I r h;exact wpAny_assign_Name (gP I b hi hx r (λs' a=>⟨_,H,a,h⟩) hf)
def Tf:TGs:=λvs σ H Q=>vs=[]/\Q σ H
def WL(t:TG)(u:TGs):TGs:=λvs σ H Q=>∃v r,vs=v::r/\t v σ H λσ' H'=>u r σ' H' Q
theorem RR:PGs X [] Tf:=by intro a s σ H vs us Q I r h;obtain⟨e,h⟩:=h;subst e;cases r;exact assignInOrder_nil ⟨σ,H,I,h⟩
theorem S0{es:List Expr}{u:TGs}(h1:PG X e t)(h2:PGs X es u)
    (hs:(assignEach (e::es) X.env).map (·.2)=assign e X.env::(assignEach es X.env).map (·.2):=by rfl):PGs X (e::es) (WL t u):=by
  intro a s σ H vs us Q I r h;obtain⟨v,i,b,h⟩:=h;subst b;cases r with
  |cons r c=>rw[hs];refine assignInOrder_cons (thn (h1 a s σ H _ _ _ I r h) λ_ f ⟨σ1,H1,I1,q1⟩=>?_);exact h2 a f σ1 H1 _ _ Q I1 c q1
def Td(K:Aa)(n:Nat)(t:TGs):TG:=λv σ H Q=>∃a xs,v=.ref a/\SqT K H a xs/\xs.length=n/\t xs σ H Q
theorem MC{es:List Expr}{k:Nat}{t:TGs}{n:Nat}(l:X.calm=true)(h:PGs X es t)
  (hn:(assignEach es X.env).length=n:=by rfl) (hst:(assignEach es X.env).findIdx? (·.1)=none:=by rfl):PG X (.Tuple es k pos) (Td X.K n t):=by
 intro c s σ H v u Q I r hw;obtain⟨a,xs,j,q,m,hw⟩:=hw;subst j;cases r;obtain⟨y,f,x,hz⟩:=I.tuple q;refine assign_Tuple_tuple (I.ok.hd l) x (by simp[hn,<- m,f.length]) hst λh' hx=>?_;have i:Inv X c σ H { s with heap:=h' }:=I.kept (t':=s.toks) λb o e=>hx b o (Bf (Ap e)) e;exact h c _ σ H xs _ Q i (by simpa using f) hw
def Te(to b:TE)(t:rK):TG:=λv σ H Q=>to σ H λo H1=>b σ H1 λi H2=>t o i v H2 λa=>Q σ a
theorem MD{t:rK}(f:PE X o to)(hi:PE X i ti)(hs:rM X t)
  (ha:∀v,assign (.Subscript o i pos) X.env v=(do
   let a <- holding [v] (eval o X.env)
   let b <- holding [v,a] (eval i X.env)
   standAt pos
   holding [v,a,b] (setItem a b v)
   release [v,a,b] []):=by intro _;rfl):PG X (.Subscript o i pos) (Te to ti t):=by
 intro c s σ H v u Q I r h;rw[ha];refine C9 (wpAny_holding (thn (f c s σ H _ I h) λa j ⟨x,H1,I1,r1,q1⟩=>?_));refine C9 (wpAny_holding (thn (hi c j σ H1 _ I1 q1) λb l ⟨y,H2,I2,r2,q2⟩=>?_));refine C9 (wpAny_standAt (C9 (wpAny_holding (thn (hs c l σ H2 x y v a b u _ I2 r1 r2 r q2) λ_ m ⟨e,I3,q3⟩=>?_))));exact wpAny_release ⟨σ,e,I3,q3⟩
def rF(te:TE)(g:TG):TS:=λD σ H=>te σ H λx H1=>g x σ H1 D.nx
theorem Me(he:PE X e te)(b:PG X tg g)(hs:swapsWithSole [tg] e pos.line X.env=pure false:=by rfl)(hw:swappedStores [tg] e X.env=pure none:=by rfl)
  (h1:(assignEach [tg] X.env).map (·.2)=[assign tg X.env]:=by rfl):PS X (.Assign [tg] e pos) (rF te g):=by
 intro a s σ H D I h;refine wpAny_Assign_stores (thn (he a s σ H _ I h) λv c ⟨x,H1,I1,r1,q1⟩=>?_) hs hw;rw[h1];exact thn (b a c σ H1 x v _ I1 r1 q1) λ_ f q=>q
theorem Mb{i:Nat}{x:Str}(c:X.N.Nodup)(hi:X.N[i]?=some x)(hx:Loc X.env.scope x)(he:PE X e te)(hs:swapsWith e (some (.Name x pos')) pos.line X.env=pure false:=by rfl)(hf:X.fn x=true∨X.env.scope.names.lookup x=some .local:=by first|exact .inl rfl|exact .inr rfl|assumption):
  PS X (.Assign [.Name x pos'] e pos) (rF te (su i)):=by
 intro b s σ H D I h;refine wpAny_Assign_Name (thn (he b s σ H _ I h) λv f ⟨y,H1,I1,r1,q1⟩=>?_) hs;exact gP I1 c hi hx r1 (λj a=>⟨_,H1,a,q1⟩) hf
end
section
variable{X:Cx}{pos:Pos}
end
structure It where
 go:Nat->Hp->Prop
 yld:Nat->Hp->V->Hp->Prop
 stop:Nat->Hp->Prop
def Vt(X:Cx)(a:Ek)(H:Hp)(b:Addr):Prop :=
 H b=none/\b≠X.env.locals/\b∉X.fs/\(b∈X.ex∨X.s₀.heap.objs.size<=b)/\(∀x c,X.env.cells.lookup x=some c->c≠b)/\∀p∈X.pn++a,p.1≠b
theorem Inv.fpOk{H H':Hp}{s:Shared}{b:Addr}(I:Inv X O9 σ H s)(a:s.heap.objs.size<=b)(f:H' b=none):Vt X O9 H' b:=by
 refine⟨f,C7 (Ay I.lt a),I.nofs a,.inr (Bj I.sz a),λx c e z=>?_,λp U z=>?_⟩
 ·obtain⟨v,q⟩:=I.cell x c e;exact absurd (Ay q.lt (by rw[z];exact a)) (Cy _)
 ·exact absurd (Ay (Ap (I.pin p U).1) (by rw[z];exact a)) (Cy _)
structure pF(P:Program)(w:World)(K:Aa)(tg:Expr)(J:It)(fp:Et)(it:Addr)(tn:Nat->Heap->Prop):Prop where
 mem:it∈fp
 obj:∀i h,tn i h->∀b∈fp,∃o,h.get? b=some o/\∀v,o.data≠.cell v
 keep:∀i h h',tn i h->(∀b∈fp,∀o,h.get? b=some o->h'.get? b=some o)->tn i h'
 item:∀(X:Cx),X.prog=P->X.w=w->X.K=K->X.calm=true->∀(i:Nat)(O9:Ek)(s:Shared)(σ:St)(H:Hp)(E:Ej),Inv X O9 σ H s->(∀b∈fp,Vt X O9 H b)->tn i s.heap->J.go i H ->
  wpAny (model P w) X.A (pyNext (.ref it)) (λr s1=>∃u,r=some u /\
   wpAny (model P w) X.A (letOwnedTupleGo tg (.ref it) u) (λ_ s2=>∃x H',Inv X O9 σ H' s2/\RelV x u/\J.yld i H x H'/\tn (i+1) s2.heap/\∀b∈fp,H' b=none) E s1) E s
 done:∀(X:Cx),X.prog=P->X.w=w->X.K=K->X.calm=true->∀(i:Nat)(O9:Ek)(s:Shared)(σ:St)(H:Hp)(E:Ej),Inv X O9 σ H s->(∀b∈fp,Vt X O9 H b)->tn i s.heap->J.stop i H ->
  wpAny (model P w) X.A (pyNext (.ref it)) (λr s1=>r=none/\Inv X O9 σ H s1) E s
 self:∀(A:Around)(i:Nat)(s:Shared)(Q:Ej)(E:Ej),tn i s.heap->Q (.ref it) s->wpAny (model P w) A (pyIter (.ref it)) Q E s
abbrev TI:=St->Hp->(It->Hp->Prop)->Prop
def PIE(X:Cx)(c:Ek)(σ:St)(f:Expr)(R:It->Hp->Prop)(a:Value)(e:Shared):Prop :=
 ∃(it:Addr)(fp:Et)(tn:Nat->Heap->Prop)(J:It)(H':Hp),a=.ref it/\Inv X c σ H' e/\pF X.prog X.w X.K f J fp it tn/\tn 0 e.heap/\(∀b∈fp,Vt X c H' b)/\R J H'
def PI(X:Cx)(c a:Expr)(e:TI):Prop :=
  ∀(O9 : List (Addr × Obj))(s : Shared)(σ : St)(H : Hp)(R : It -> Hp -> Prop), Inv X O9 σ H s -> e σ H R ->
    wpAny (model X.prog X.w) X.A (eval a X.env) (λv b=>wpAny (model X.prog X.w) X.A (pyIter v) (PIE X O9 σ c R) X.xe b) X.xe s
theorem wR{M:Model}{A:Around}{E:Ej}{s:Shared}{b:Expr}{a:Addr}{u:Value}{o:Obj}{n:String}{vs:Array Value}{Q:Unit->Shared->Prop}(e:s.heap.get? a=some o)(c:o.cls=.type n)(hd:o.data=.fields vs)
    (hn:["enumerate", "zip", "dict_itemiterator", "dict_reverseitemiterator", "odict_iterator", "itertools.zip_longest", "itertools.pairwise"].contains n=false) (hQ:Q () s):wpAny M A (letOwnedTupleGo b (.ref a) u) Q E s:=by
  unfold letOwnedTupleGo;cases b<;>first
    |exact Ec hQ
    | (cases u<;>first
        |exact Ec hQ
        | (refine C9 (wpAny_load e ?_)
           rw[c,hd];show wpAny M A (if (["enumerate", "zip", "dict_itemiterator", "dict_reverseitemiterator", "odict_iterator", "itertools.zip_longest", "itertools.pairwise"].contains n&&vs[0]?==some (rawInt _))=true then _ else _) Q E s;rw[Ea (by intro h;rw[hn,Bool.false_and]at h;cases h)];exact Ec hQ))
def Itl(K:Aa)(a:Addr):It :=
 ⟨λi H=>∃xs x,SqL K H a xs/\xs[i]?=some x,λi H x H'=>H'=H/\∀xs,SqL K H a xs->xs[i]?=some x,λi H=>∃xs,SqL K H a xs/\xs.length<=i⟩
def Itt(K:Aa)(a:Addr):It :=
 ⟨λi H=>∃xs x,SqT K H a xs/\xs[i]?=some x,λi H x H'=>H'=H/\∀xs,SqT K H a xs->xs[i]?=some x,λi H=>∃xs,SqT K H a xs/\xs.length<=i⟩
def Itr(lo:Int)(n:Nat):It:=⟨λi _=>i<n,λi H x H'=>H'=H/\x=.int (lo+i),λi _=>n<=i⟩
theorem QcP{w:World}{K:Aa}(a j:Addr):pF P w K tg (Itl K a) [j] j (λi h=>h.IsListIter j a i) where
 mem:=by simp
 obj:=λi h st b f=>by
  have e:b=j:=by simpa using f
  subst e;obtain⟨o,e,c,d⟩:=st;exact⟨o,e,λv z=>by rw[d]at z;cases z⟩
 keep:=λi h h' st k=>st.at λo e=>k j (by simp) o e
 item:=by intro X F hw C O i O9 s σ H E I hf st hg;subst F hw C;obtain⟨xs,x,m,hx⟩:=hg;obtain⟨J,L,p,hz⟩:=I.list m;obtain⟨u,Y,ru⟩:=L.get hx;obtain⟨n,q,U,r,t,y⟩:=hf j (by simp);refine wpAny_pyNext_list_item st p.isList (x:=u) (by simpa using Y) λh' l sb=>?_;have Q:Inv X O9 σ H { s with heap:=h' }:=I.turned (t':=s.toks) (λb o f e=>(sb.2 b f).trans e) n q r t y;obtain⟨o,e,c,d⟩:=id l;exact⟨u,rfl,wR (s:={ s with heap:=h' }) e c d (by decide) ⟨x,H,Q,ru,⟨rfl,λys hy=>by rw[I.list_inj hy m];exact hx⟩,l,λb f=>(hf b f).1⟩⟩
 done:=by intro X F hw C O i O9 s σ H E I hf st hg;subst F hw C;obtain⟨xs,m,hx⟩:=hg;obtain⟨J,L,p,hz⟩:=I.list m;obtain⟨n,q,U,r,t,y⟩:=hf j (by simp);have hl:=L.length;exact wpAny_pyNext_list_end (I.ok.hd O) st p.isList (by simp;lia) λh' R=>⟨rfl,I.turned (t':=s.toks) (λb o f e=>R b o f e) n q r t y⟩
 self:=λ_ _ _ _ _ st h=>wpAny_pyIter_listiter st h
theorem QaC{w:World}{K:Aa}(a j:Addr):pF P w K tg (Itt K a) [j] j (λi h=>h.IsTupleIter j a i) where
 mem:=by simp
 obj:=λi h st b f=>by
  have e:b=j:=by simpa using f
  subst e;obtain⟨o,e,c,d⟩:=st;exact⟨o,e,λv z=>by rw[d]at z;cases z⟩
 keep:=λi h h' st k=>st.at λo e=>k j (by simp) o e
 item:=by intro X J hw F O i O9 s σ H E I hf st hg;subst J hw F;obtain⟨xs,x,n,hx⟩:=hg;obtain⟨l,L,p,hz⟩:=I.tuple n;obtain⟨u,Y,ru⟩:=L.get hx;obtain⟨q,r,U,t,y,C⟩:=hf j (by simp);refine wpAny_pyNext_tuple_item st (show s.heap.IsTuple a l.toArray from p) (x:=u) (by simpa using Y) λh' m sb=>?_;have Q:Inv X O9 σ H { s with heap:=h' }:=I.turned (t':=s.toks) (λb o f e=>(sb.2 b f).trans e) q r t y C;obtain⟨o,e,c,d⟩:=id m;exact⟨u,rfl,wR (s:={ s with heap:=h' }) e c d (by decide) ⟨x,H,Q,ru,⟨rfl,λys hy=>by rw[I.tuple_inj hy n];exact hx⟩,m,λb f=>(hf b f).1⟩⟩
 done:=by intro X J hw F O i O9 s σ H E I hf st hg;subst J hw F;obtain⟨xs,n,hx⟩:=hg;obtain⟨l,L,p,hz⟩:=I.tuple n;obtain⟨q,r,U,t,y,C⟩:=hf j (by simp);have hl:=L.length;exact wpAny_pyNext_tuple_end (I.ok.hd O) st (show s.heap.IsTuple a l.toArray from p) (by simp;lia) λh' R=>⟨rfl,I.turned (t':=s.toks) (λb o f e=>R b o f e) q r t y C⟩
 self:=λ_ _ _ _ _ st h=>wpAny_pyIter_tupleiter st h
theorem QaB{w:World}{K:Aa}(a:Addr)(lo:Int)(n:Nat):pF P w K tg (Itr lo n) [a] a (λi h=>IsRangeIter h a (lo+(i:Nat) * 1) ((n:Int)-(i:Nat)) 1) where
 mem:=by simp
 obj:=λi h st b c=>by
  have e:b=a:=by simpa using c
  subst e;exact⟨_,st,λv z=>by have R:Data.fields _=Data.cell v:=z;cases R⟩
 keep:=λi h h' st k=>k a (by simp) _ st
 item:=by intro X x hw u y i O9 s σ H E I hf st hg;subst x hw u;obtain⟨j,l,L,m,q,r⟩:=hf a (by simp);have W:=Walks.range (prog:=X.prog) (w:=X.w) (I.ok.hd y) a lo 1 n;refine W.item i s _ _ hg st λv h' C O f Q=>?_;obtain⟨t,rfl⟩:=O;have F:Inv X O9 σ H { s with heap:=h',toks:=C }:=I.turned (λb o c e=>Q b o (by simpa using c) e) j l m q r;refine⟨_,rfl,wR (s:={ s with heap:=h',toks:=C }) (n := "range_iterator") f rfl rfl (by decide) ⟨.int (lo+i),H,F,⟨t,?_⟩,⟨rfl,rfl⟩,f,λb c=>(hf b c).1⟩⟩;rw[Int.mul_one]
 done:=by intro X x hw u y i O9 s σ H E I hf st hg;subst x hw u;obtain⟨j,l,L,m,q,r⟩:=hf a (by simp);exact wpAny_pyNext_range_end (I.ok.hd y) st (by have:n<=i:=hg;lia) λh' J=>⟨rfl,I.turned (t':=s.toks) (λb o c e=>J b o c e) j l m q r⟩
 self:=λ_ _ _ _ _ st h=>wpAny_pyIter_rangeiter st h
section
variable{X:Cx}{tg:Expr}
def Wy(K:Aa)(b:TE):TI:=λσ H R=>b σ H λx H1=>∃a,x=.ref a/\(∃xs,SqL K H1 a xs)/\R (Itl K a) H1
def Tc(K:Aa)(b:TE):TI:=λσ H R=>b σ H λx H1=>∃a,x=.ref a/\(∃xs,SqT K H1 a xs)/\R (Itt K a) H1
theorem RH(j:PE X l tl):PI X tg l (Wy X.K tl):=by
 intro f s σ H R I h;refine thn (j f s σ H _ I h) λv c ⟨x,H1,I1,r1,q1⟩=>?_;obtain⟨a,e,⟨xs,m⟩,q⟩:=q1;subst e;cases r1;obtain⟨n,r,p,hz⟩:=I1.list m;refine wpAny_pyIter_list p.isList ?_;refine⟨c.heap.objs.size,[c.heap.objs.size],_,_,H1,rfl,I1.kept (t':=c.toks) λb o e=>Ad _ e,QcP a _,⟨_,Av _ rfl,rfl,rfl⟩,λb i=>?_,q⟩;have e:b=c.heap.objs.size:=by simpa using i
 subst e;exact I1.fpOk (Ae _) (I1.hok.fresh (Ae _))
theorem MB(m:PE X l tl):PI X tg l (Tc X.K tl):=by
 intro i s σ H R I h;refine thn (m i s σ H _ I h) λv c ⟨x,H1,I1,r1,q1⟩=>?_;obtain⟨a,e,⟨xs,n⟩,q⟩:=q1;subst e;cases r1;obtain⟨f,r,p,hz⟩:=I1.tuple n;refine wpAny_pyIter_tuple (show c.heap.IsTuple a f.toArray from p) ?_;refine⟨c.heap.objs.size,[c.heap.objs.size],_,_,H1,rfl,I1.kept (t':=c.toks) λb o e=>Ad _ e,QaC a _,⟨_,Av _ rfl,rfl,rfl⟩,λb j=>?_,q⟩;have e:b=c.heap.objs.size:=by simpa using j
 subst e;exact I1.fpOk (Ae _) (I1.hok.fresh (Ae _))
theorem SL{R:It->Hp->Prop}{E:Ej}{lo hi:Int}{t u v:Tok}{c:Nat}(I:Inv X O9 σ H s)(h1:-(2 ^ 62)<=lo)(h2:lo<2 ^ 62)(h3:-(2 ^ 62)<=hi)(h4:hi<2 ^ 62)
  (q:R (Itr lo (hi-lo).toNat) H):wpAny (model X.prog X.w) X.A (pyIter (.ref s.heap.objs.size)) (PIE X O9 σ tg R) E { s with heap:=s.heap.push { cls:=.type "range", data:=.fields #[.int lo t,.int hi u,.int 1 v] },toks:=c }:=by
 refine wpAny_pyIter_range (IsRange.new ..) (small_one h1 h2 h3 h4) ?_;have a:Inv X O9 σ H { s with heap:=s.heap.push { cls:=.type "range", data:=.fields #[.int lo t,.int hi u,.int 1 v] },toks:=c }:=I.kept λb o e=>Ad _ e;refine⟨(s.heap.push { cls:=.type "range", data:=.fields #[.int lo t,.int hi u,.int 1 v] }).objs.size,[(s.heap.push { cls:=.type "range", data:=.fields #[.int lo t,.int hi u,.int 1 v] }).objs.size],_,_,H,rfl,
  a.kept (t':=c) λb o e=>Ad _ e,QaB _ lo (hi-lo).toNat,?_,λb i=>?_,q⟩
 ·have f:lo+((0:Nat):Int) * 1=lo:=by simp
  have h:(((hi-lo).toNat:Nat):Int)-((0:Nat):Int)=Builtin.Range.rangeSize lo hi 1:=by rw[rangeSize_one];split<;>lia
  show IsRangeIter _ _ (lo+((0:Nat):Int) * 1) ((((hi-lo).toNat:Nat):Int)-((0:Nat):Int)) 1;rw[f,h];exact Av _ rfl
 ·have e:b=(s.heap.push { cls:=.type "range", data:=.fields #[.int lo t,.int hi u,.int 1 v] }).objs.size:=by simpa using i
  subst e;exact a.fpOk (Ae _) (a.hok.fresh (Ae _))
def Wx(a:TA):TI:=λσ H R=>a σ H λvs H1=>∃j:Int,vs=[.int j] /\ -(2 ^ 62)<=j/\j<2 ^ 62/\R (Itr 0 j.toNat) H1
theorem Qct{p pos:Pos}(i:Gl X "range")(l:X.mg "range" = none)(f:PA X [a] ta)(hs:starEach [a] X.env=[(false,eval a X.env)]:=by rfl):PI X tg (.Call (.Name "range" p) [a] [] pos) (Wx ta):=by
  intro c s σ H R I h;refine Call_ (xc I i l boot_range (PyProof.Rows.callWith_type1 (thn (f pos c s σ H _ I h) λus o ⟨vs,H1,I1,r1,b⟩=>?_) hs rfl));obtain⟨j,e,b,m,q⟩:=b;subst e;cases r1 with
  |cons r n=>cases n;obtain⟨t,rfl⟩:=r;exact call_range_1 (SL I1 ⋯ ⋯ b m (by simpa using q))
def TQ(b:TI)(g:TG)(tb:TS):TS:=λD σ H=>b σ H λJ H1=>∃W:Nat->Nat->St->Hp->Prop,(∃m,W 0 m σ H1)/\∀i m σ H,W i m σ H ->
 (J.stop i H/\D.nx σ H)∨(J.go i H/\∃N:St->Hp->Prop,(∀σ' H',N σ' H'->∃a,a<m/\W (i+1) a σ' H')/\∀x H',J.yld i H x H'->g x σ H' λσ2 H2=>tb { D with nx:=N,ct:=N,bk:=D.nx } σ2 H2)
def UB(a:Et)(h:Heap):List (Addr×Obj):=a.filterMap λb=>(h.get? b).map λo=>(b,o)
theorem qN{h:Heap}{b:Addr}(a:b∈fp)(e:h.get? b=some o):(b,o)∈UB fp h:=List.mem_filterMap.mpr ⟨b,a,by rw[e];rfl⟩
theorem Qcl{a:Et}{h:Heap}{p:Addr×Obj}(U:p∈UB a h):p.1∈a/\h.get? p.1=some p.2:=by
  obtain⟨b,f,e⟩:=List.mem_filterMap.mp U;cases q:h.get? b with
  |none=>rw[q]at e;cases e
  |some o=>rw[q]at e;have c:(b,o)=p:=Ak e;subst c;exact⟨f,q⟩
theorem Inv.pinned{a:Ek}{s:Shared}(I:Inv X a σ H s)(hf:∀b∈fp,Vt X a H b)(l:∀b∈fp,∃o,s.heap.get? b=some o/\∀v,o.data≠.cell v):Inv X (a++UB fp s.heap) σ H s :=
 I.pins_of λp U=>(Ai.mp U).elim (λz=>I.pin p (Aj _ z)) λz=>by obtain⟨f,e⟩:=Qcl z;obtain⟨h,i,j,_⟩:=hf p.1 f;obtain⟨o,c,d⟩:=l p.1 f;rw[e]at c;cases c;exact⟨e,h,i,j,d⟩
def Inv.unpinned{a pl:Ek}(I:Inv X (a++pl) σ H s):Inv X a σ H s:=I.pins_of λp U=>I.pin p (Aj _ (A7 _ U))
theorem Hj{t:List Stmt}{pos:Pos}(U:PassesOwn (model X.prog X.w) X.A X.env X.xe)(hc:X.calm=true)(hi:PI X tg iter wi)(hg:PG X tg g)(j:PSs X t tb)
  (hs:∀x,foldedSetIterable iter X.env x=pure x:=by intro _;rfl):PS X (.For tg iter t [] pos) (TQ wi g tb):=by
 intro z s σ H D I h;refine wpAny_For (thn (hi z s σ H _ I h) λv s1 h1=>thn h1 λab s2 h2=>?_) hs;obtain⟨it,C,tn,J,H2,e,I2,T,R,Y,W,⟨m0,w0⟩,L⟩:=h2;subst e;have l:∀{q:Hp},(∀b∈C,q b=none)->∀b∈C,Vt X z q b:=λhn b j=>⟨hn b j,(Y b j).2⟩;refine codeAny_forLoop_any (λn s'=>∃i σ' q,Inv X z σ' q s'/\tn i s'.heap/\(∀b∈C,q b=none)/\W i n σ' q) ?_ m0 ⟨0,σ,H2,I2,R,λb j=>(Y b j).1,w0⟩;rintro n s3 ⟨i,σ3,H3,I3,st3,fr3,w3⟩;rcases L i n σ3 H3 w3 with ⟨stop,qn⟩|⟨go,N,hN,step⟩
 ·refine wpAny_passesOwn U (thn (T.done X rfl rfl rfl hc i z s3 σ3 H3 X.xe I3 (l fr3) st3 stop) λr s4 ⟨P,I4⟩=>?_);subst P;exact wpAny_execs_nil ⟨σ3,H3,I4,qn⟩
 ·refine wpAny_passesOwn U (thn (T.item X rfl rfl rfl hc i z s3 σ3 H3 X.xe I3 (l fr3) st3 go) λr s4 ⟨u,P,h4⟩=>?_);subst P;refine wpAny_passesOwn U (thn h4 λ_ s5 ⟨x,H5,I5,r5,y5,st5,fr5⟩=>?_);have O:=I5.pinned (l fr5) (T.obj _ _ st5);refine wpAny_passesOwn U (thn (hg _ s5 σ3 H5 x u _ O r5 (step x H5 y5)) λ_ s6 ⟨σ6,H6,I6,q6⟩=>?_);refine wpAny_passesOwn U (thn (j _ s6 σ6 H6 _ I6 q6) λf Q y=>?_);have again:∀{σ7:St}{a:Hp},Inv X (z++UB C s5.heap) σ7 a Q->N σ7 a->∃m,m<n/\∃i σ' q,Inv X z σ' q Q/\tn i Q.heap/\(∀b∈C,q b=none)/\W i m σ' q:=λ{σ7 a} c F=>by obtain⟨m',hm,w7⟩:=hN σ7 a F;refine⟨m',hm,i+1,σ7,a,c.unpinned,T.keep _ _ _ st5 λb j o e=>(c.pin (b,o) (Aj _ (Aj _ (qN j e)))).1,λb j=>?_,w7⟩;obtain⟨o,e,d⟩:=T.obj _ _ st5 b j;exact(c.pin (b,o) (Aj _ (Aj _ (qN j e)))).2.1
  cases f with
  |next=>obtain⟨σ7,a,c,F⟩:=y;exact again c F
  |cont=>obtain⟨σ7,a,c,F⟩:=y;exact again c F
  |brk=>obtain⟨σ7,a,c,y⟩:=y;exact⟨σ7,a,c.unpinned,y⟩
  |ret v=>obtain⟨x7,σ7,a,c,r7,y⟩:=y;exact⟨x7,σ7,a,c.unpinned,r7,y⟩
end
abbrev R2:=V->V->Hp->VK->Prop
def OpR(X:Cx)(f:Value->Value->Sem Value)(r:R2):Prop :=
  ∀(a : List (Addr × Obj))(s : Shared)(σ : St)(H : Hp)(x y : V)(v u : Value)(Q : VK), Inv X a σ H s -> RelV x v -> RelV y u -> r x y H Q ->
    wpAny (model X.prog X.w) X.A (f v u) (EP X a σ Q) X.xe s
def CallR(X:Cx)(f:Value)(r:List V->Hp->VK->Prop):Prop :=
  ∀(a : List (Addr × Obj))(s : Shared)(σ : St)(H : Hp)(xs : List V)(us : List Value)(Q : VK), Inv X a σ H s -> Vals xs us -> r xs H Q ->
    wpAny (model X.prog X.w) X.A (call f us) (EP X a σ Q) X.xe s
def tOp(r:R2)(a tb:TE):TE:=λσ H Q=>a σ H λx H1=>tb σ H1 λy H2=>r x y H2 Q
def rI(C:Int->Int->Prop)(g:Int->Int->V):R2:=λx y H Q=>∃i j,x=.int i/\y=.int j/\C i j/\Q (g i j) H
def rI0(g:Int->Int->V):R2:=λx y H Q=>∃i j,x=.int i/\y=.int j/\Q (g i j) H
section
variable{X:Cx}{a b c:Expr}{ta tb tc:TE}{pos:Pos}
theorem wJ(l:PE X a ta)(m:PE X b tb){R:V->V->Hp->Prop}(I:Inv X O9 σ H s)
  (h:ta σ H λx j=>tb σ j λy e=>R x y e) {Q:Ej} {f:Value->Value->Sem Value}
  (hf:∀v u i x y e,Inv X O9 σ e i->RelV x v->RelV y u->R x y e->wpAny (model X.prog X.w) X.A (f v u) Q X.xe i) :
  wpAny (model X.prog X.w) X.A (eval a X.env) (λv s₁=>wpAny (model X.prog X.w) X.A (eval b X.env) (λu s₂=>wpAny (model X.prog X.w) X.A (f v u) Q X.xe s₂) X.xe s₁) X.xe s:=by
 refine thn (l O9 s σ H _ I h) λv n ⟨x,j,I1,r1,q1⟩=>?_;refine thn (m O9 n σ j _ I1 q1) λu i ⟨y,e,I2,r2,q2⟩=>?_;exact hf v u i x y e I2 r1 r2 q2
theorem WW{e:Operator}{r:R2}(l:OpR X (binaryOp e) r)(i:PE X a ta)(j:PE X b tb):PE X (.BinOp a e b pos) (tOp r ta tb):=by intro f s σ H Q I h;exact wpAny_BinOp (wJ i j I h λv u o x y H2 I2 m n q=>l f o σ H2 x y v u Q I2 m n q)
theorem opI{f:Value->Value->Sem Value}{C:Int->Int->Prop}{g:Int->Int->Int}
  (rule:∀(i j:Int)(t u:Tok)(s:Shared)(Q:Ej)(E:Ej),C i j->Q (.int (g i j) s.toks) { s with toks:=s.toks+1 }->wpAny (model X.prog X.w) X.A (f (.int i t) (.int j u)) Q E s) :
  OpR X f (rI C λi j=>.int (g i j)):=by
 intro l s σ H x y v u Q I rx ry h;obtain⟨i,j,rfl,rfl,e,q⟩:=h;obtain⟨t,rfl⟩:=rx;obtain⟨t',rfl⟩:=ry;exact rule i j t t' s _ _ e ⟨.int (g i j),H,I.tok _,⟨_,rfl⟩,q⟩
theorem D_{f:Value->Value->Sem Value}{g:Int->Int->Int}
  (rule:∀(i j:Int)(t u:Tok)(s:Shared)(Q:Ej)(E:Ej),Q (.int (g i j) s.toks) { s with toks:=s.toks+1 }->wpAny (model X.prog X.w) X.A (f (.int i t) (.int j u)) Q E s) :
  OpR X f (rI0 λi j=>.int (g i j)):=by
 intro e s σ H x y v u Q I rx ry h;obtain⟨i,j,rfl,rfl,q⟩:=h;obtain⟨t,rfl⟩:=rx;obtain⟨t',rfl⟩:=ry;exact rule i j t t' s _ _ ⟨.int (g i j),H,I.tok _,⟨_,rfl⟩,q⟩
theorem rG{f:Value->Value->Sem Value}{g:Int->Int->Bool}
  (rule:∀(i j:Int)(t u:Tok)(s:Shared)(Q:Ej)(E:Ej),Q (.bool (g i j)) s->wpAny (model X.prog X.w) X.A (f (.int i t) (.int j u)) Q E s) :
  OpR X f (rI0 λi j=>.bl (g i j)):=by
 intro e s σ H x y v u Q I rx ry h;obtain⟨i,j,rfl,rfl,q⟩:=h;obtain⟨t,rfl⟩:=rx;obtain⟨t',rfl⟩:=ry;exact rule i j t t' s _ _ ⟨.bl (g i j),H,I,rfl,q⟩
def Tr(i j:Int):Prop:=0<j/\j<1073741824
def Tq(i j:Int):Prop:=0<=j/\j<=1000000/\i.natAbs<2 ^ 64
def CMul(i j:Int):Prop:=(-(2 ^ 64)<i/\i<2 ^ 64)∨(-(2 ^ 64)<j/\j<2 ^ 64)
theorem CMul.ok{i j:Int}(h:CMul i j):IntMulOk i j:=by
 rcases h with ⟨h1,h2⟩|⟨h1,h2⟩
 ·exact .of_left (intBits_le_64 h1 h2)
 ·exact .of_right (intBits_le_64 h1 h2)
def Z_:OpR X (binaryOp .Add) (rI0 λi j=>.int (i+j)):=D_ λ_ _ _ _ _ _ _ q=>add_int q
def W8:OpR X (binaryOp .Sub) (rI0 λi j=>.int (i-j)):=D_ λ_ _ _ _ _ _ _ q=>sub_int q
def W_:OpR X (binaryOp .Mult) (rI CMul λi j=>.int (i * j)):=opI λ_ _ _ _ _ _ _ e q=>mul_int q e.ok
theorem BV:OpR X (binaryOp .FloorDiv) (rI Tr λi j=>.int (i / j)):=opI λi j _ _ _ _ _ e q=>by have h1:(0:Int)<j:=e.1;have h2:j<1073741824:=e.2;exact floordiv_int ⋯ (by rw[Int.fdiv_eq_ediv_of_nonneg i ⋯];exact q) (.inl (PyProof.noPylong_small ⋯))
theorem X_:OpR X (binaryOp .Mod) (rI (λ_ j=>0<j) λi j=>.int (i % j)):=opI λi j _ _ _ _ _ e q=>by have h1:(0:Int)<j:=e;exact mod_int' ⋯ (by rw[Int.fmod_eq_emod_of_nonneg i ⋯];exact q)
def W9:OpR X (binaryOp .Pow) (rI Tq λi j=>.int (i ^ j.toNat)):=opI λ_ _ _ _ _ _ _ e q=>pow_int_small e.1 e.2.1 e.2.2 q
end
section
variable{X:Cx}{a b c:Expr}{ta tb tc:TE}{pos:Pos}
theorem Hz{Q:VK}{k f:Bool}(I:Inv X O9 σ H s)(q:Q (.bl k) H)(e:k=f):EP X O9 σ Q (.bool f) s:=by subst e;exact⟨.bl k,H,I,rfl,q⟩
def W7:OpR X (compareOp .Lt) (rI0 λi j=>.bl (decide (i<j))):=rG λ_ _ _ _ _ _ _ q=>lt_int q
def Wj:OpR X (compareOp .LtE) (rI0 λi j=>.bl (decide (i<=j))):=rG λ_ _ _ _ _ _ _ q=>le_int q
def Wl:OpR X (compareOp .Gt) (rI0 λi j=>.bl (decide (j<i))):=rG λ_ _ _ _ _ _ _ q=>gt_int q
def Wm:OpR X (compareOp .GtE) (rI0 λi j=>.bl (decide (j<=i))):=rG λ_ _ _ _ _ _ _ q=>ge_int q
theorem Y_:OpR X (compareOp .Is) (λx y H Q=>y=.non/\Q (.bl (decide (x=.non))) H):=by
 intro e s σ H x y v u Q I rx ry h;obtain⟨rfl,q⟩:=h;cases ry;refine is_none_gen (Hz I q ?_);cases x<;>first
  | (cases rx;rfl)
  | (obtain⟨t,rfl⟩:=rx;rfl)
theorem BU:OpR X (compareOp .IsNot) (λx y H Q=>y=.non/\Q (.bl (!decide (x=.non))) H):=by
 intro e s σ H x y v u Q I rx ry h;obtain⟨rfl,q⟩:=h;cases ry;refine isnot_none_gen (Hz I q ?_);cases x<;>first
  | (cases rx;rfl)
  | (obtain⟨t,rfl⟩:=rx;rfl)
theorem QU(b:Expr){e:CmpOp}(h:e≠.In:=by decide)(h2:e≠.NotIn:=by decide):behindInMarks e b=false:=by
 have f:(e==CmpOp.In)=false:=by cases e<;>first|rfl|exact absurd rfl h
 have i:(e==CmpOp.NotIn)=false:=by cases e<;>first|rfl|exact absurd rfl h2
 cases b<;>simp[behindInMarks,f,i]
theorem Se{e:CmpOp}{r:R2}(m:OpR X (compareOp e) r)(i:PE X a ta)(j:PE X b tb)(l:behindInMarks e b=false):PE X (.Compare a [e] [b] pos) (tOp r ta tb):=by intro f s σ H Q I h;exact wpAny_Compare1 (wJ i j I h λv u t x y H2 I2 n o q=>m f t σ H2 x y v u Q I2 n o q) l
def Fv(t:TE):TT:=λσ H Q=>t σ H λx H'=>∃k,x=.bl k/\Q k H'
theorem D9{i:CmpOp}{r:R2}(n:OpR X (compareOp i) r)(j:PE X a ta)(l:PE X b tb)(m:behindInMarks i b=false):PT X (.Compare a [i] [b] pos) (Fv (tOp r ta tb)):=by
 intro f s σ H Q I h;refine wpAny_isTrue_Compare1 (thn (j f s σ H _ I h) λv o ⟨x,H1,I1,r1,q1⟩=>thn (l f o σ H1 _ I1 q1) λu q ⟨y,H2,I2,r2,q2⟩ =>
  thn (n f q σ H2 x y v u _ I2 r1 r2 q2) λc t ⟨z,H3,I3,r3,k,e,q3⟩=>?_) m
 subst e;cases r3;exact wpAny_truthy_bool ⟨H3,I3,q3⟩
def Hu(r e:R2)(ta tb tc:TE):TE:=λσ H Q=>ta σ H λx H1=>tb σ H1 λy H2=>r x y H2 λz H3=>∃k,z=.bl k /\
 (if k=true then tc σ H3 λw' H4=>e y w' H4 Q else Q (.bl false) H3)
theorem SU{l f:CmpOp}{r m:R2}(C:OpR X (compareOp l) r)(j:OpR X (compareOp f) m)(o:PE X a ta)(q:PE X b tb)(t:PE X c tc)
    (hm:lastMarks [l,f] [b,c]=false:=by with_unfolding_all rfl):PT X (.Compare a [l,f] [b,c] pos) (Fv (Hu r m ta tb tc)):=by
  intro i s σ H Q I h;refine isTrue_chain (thn (o i s σ H _ I h) λv J ⟨x,H1,I1,r1,q1⟩=>test_link (thn (q i J σ H1 _ I1 q1) λu L ⟨y,H2,I2,r2,q2⟩ =>
    thn (C i L σ H2 x y v u _ I2 r1 r2 q2) λd O ⟨z,H3,I3,r3,k,e,q3⟩=>?_)) hm
  subst e;cases r3;refine wpAny_truthy_bool ?_;cases k with
  |false=>obtain⟨U,n,F⟩:=q3;cases n;exact ite_ff ⟨H3,I3,F⟩
  |true=>refine ite_tt (test_last (thn (t i O σ H3 _ I3 q3) λw' P ⟨R,H4,I4,r4,q4⟩=>thn (j i P σ H4 y R u w' _ I4 r2 r4 q4) λd' Y ⟨z2,H5,I5,r5,k2,e2,q5⟩=>?_));subst e2;cases r5;exact wpAny_truthy_bool ⟨H5,I5,q5⟩
theorem vg:(sizeLine:Nat)<2 ^ 63:=by rw[sizeLine_eq];decide
theorem Kf{us:List Value}(r:Vals [x] us):∃u,us=[u]/\RelV x u:=by
 cases r with
 |cons e f=>cases f;exact⟨_,rfl,e⟩
theorem gY{us:List Value}(r:Vals [x,y] us):∃u w',us=[u,w']/\RelV x u/\RelV y w':=by
  cases r with
  |cons e f =>
    cases f with
    |cons h i=>cases i;exact⟨_,_,rfl,e,h⟩
theorem Qb0(f:X.calm=true):CallR X (.builtin "min") (λxs H Q=>∃i j,xs=[.int i,.int j]/\Q (.int (if j<i then j else i)) H):=by
 intro l s σ H xs us Q I r h;obtain⟨i,j,rfl,q⟩:=h;obtain⟨u,w',rfl,⟨t,rfl⟩,⟨t',rfl⟩⟩:=gY r;refine min_two_ints (I.ok.hd f) λh' m k=>⟨_,H,I.kept k,?_,q⟩;by_cases e:j<i
 ·rw[Eb e,Eb e];exact⟨_,rfl⟩
 ·rw[Ea e,Ea e];exact⟨_,rfl⟩
end
structure ObjM(h:Heap)(x dx C:Addr)(mA:Em):Prop where
 obj:h.get? x=some (PySem.W.instObj C dx)
 ns:h.Ns1 dx mA
 ne:dx≠x
theorem Qci{h:Heap}{c:Addr}{f:Em}(n:h.Ns1 c f):∃i,h.get? c=some i/\∀name,PySem.W.lookIn name i=some (f name):=by
 obtain⟨o,es,ep,r,hd,l,_,m⟩:=n;refine⟨o,r,λname=>?_⟩;have e:=m name;unfold nsFind findBy at e;rw[<- Array.find?_toList]at e;unfold PySem.W.lookIn;rw[hd];dsimp only;split
 ·rename_i y q;rw[q]at e;exact congrArg some e
 ·rename_i q;rw[q]at e;have a:es.toList.any (·.refKey)=false:=by rw[List.any_eq_false];intro y u;obtain⟨z,t,b⟩:=l y (Array.mem_toList_iff.mp u);simp[DictEntry.refKey,b]
  have j:¬ es.toList.any (·.refKey)=true:=by rw[a];exact Bz
  rw[Ea j];exact congrArg some e
theorem ObjM.look{x b C:Addr}{c:Em}(I:ObjM h x b C c):∃a,PySem.W.InstAt h x (PySem.W.instObj C b) C (some a)/\∀name,PySem.W.lookIn name a=some (c name) :=
 let ⟨a,f,e⟩:=Qci I.ns
 ⟨a,⟨I.obj,rfl,rfl,f⟩,e⟩
section
variable{prog:Program}{w:World}{A:Around}{E:Ej}{s:Shared}{K:Aa}{x dx C f:Addr}{mA:Em}{name:Str}{v:Value}
theorem DM{a:Bool}{Q:Ej}(X:K.In s.heap)(I:ObjM s.heap x dx C mA)(b:PySem.W.plainGet K C name=true)(c:PySem.W.hasDictIn K C=true)
  (ha:PySem.W.findIn K (.ref C) name=some none) (hv:mA name=some v) (hv':PySem.W.handedIn v=true) (h:Q v { s with toks:=s.toks+1 }) :
  wpAny (model prog w) A (getAttr (.ref x) name a) Q E s:=by
 obtain⟨i,J,e⟩:=I.look;exact PySem.W.get_value X J (PySem.W.plainGet_of b).1 (PySem.W.findObj_own c ha rfl (by rw[e,hv])) hv' h
theorem Qdu{pl:Sem Bool}{Q:Value×List Value->Shared->Prop}(X:K.In s.heap)(I:ObjM s.heap x dx C mA)(a:PySem.W.plainGet K C name=true)
  (hf:PySem.W.findIn K (.ref C) name=some (some (.ref f))) (ht:PySem.W.isFn K (.ref f)=true) (hv:mA name=none) (h:Q (.ref f,[.ref x]) s) :
  wpAny (model prog w) A (getMethod (.ref x) name pl) Q E s:=by
 obtain⟨c,J,b⟩:=I.look;exact PySem.W.method_fn X J (PySem.W.plainGet_of a).1 (PySem.W.plainGet_of a).2 hf (beq_iff_eq.mp ht) (by show(PySem.W.lookIn name c).map (·.isSome)=some false;rw[b,hv];rfl) h
theorem HM{ns:List Str}{Q:Unit->Shared->Prop}(X:K.In s.heap)(I:ObjM s.heap x dx C mA)
  (hs:PySem.W.findIn K (.ref C) "__setattr__" = some (some (.builtin "object.__setattr__"))) (U:PySem.W.plainOver K C=true) (ht:PySem.W.takerIn K C name=some none) (hh:PySem.W.hasDictIn K C=true)
  (hw:PySem.Within mA ns) (hsz:ns.length<=sizeLine)
  (h:∀h',ObjM h' x dx C (λy=>if y=name then some v else mA y)->Heap.SameBut dx s.heap h'->Q () { s with heap:=h',toks:=s.toks+2 }) :
  wpAny (model prog w) A (setAttr (.ref x) name v) Q E s:=by
 obtain⟨F,J,u⟩:=I.look;refine PySem.W.set_plain X J hs (PySem.W.osa_open (s:={ s with toks:=s.toks+1 }) (r:=none) X J U ht λb=>?_);obtain⟨t,q,j⟩:=PySem.W.any_some hh;have hx:s.heap.get? x=some ⟨.ref C,some dx,.plain,#[]⟩:=I.obj;refine C9 (Ec (C9 (C9 (wpAny_loadPart hx (C9 (PySem.W.Looks.here (s:={ s with toks:=s.toks+1 }) (PySem.W.looks_clsIn X q) ?_))))));rw[j];refine Ec (a:=some dx) (C9 (Ec (C9 ?_)));refine wpAny_nsSet1 (s:={ s with toks:=s.toks+1 }) I.ns λh' c e=>?_;obtain⟨z,o,n,m,l,i⟩:=c.count (PySem.Within.cons name v hw);refine C9 (wpAny_lookBehind m (by rw[l];exact pastItsLine_dict (Bj i (by rw[Ba];lia))) ?_);exact Ec (h _ ⟨(e.2 _ (Ne.symm I.ne)).trans I.obj,c,I.ne⟩ e)
theorem QdO{R:Result->Shared->Prop}{vs:List Value}{a:List (Str×Value)}(X:K.In s.heap)(b:PySem.W.makesIn K C=true)
  (hi:PySem.W.findIn K (.ref C) "__init__" = some (some (.ref f))) (hf:PySem.W.typeIn K (.ref f)=some (.type "function"))
  (h:codeAny (model prog w) (A.under (.builtin "type.__call__" ⟨.ref C::vs,a⟩)) (.call (.ref f) ⟨.ref (s.heap.objs.size+1)::vs,a⟩) (PySem.W.InitBack (s.heap.objs.size+1) R)
   { s with heap:=(s.heap.push PySem.W.emptyDict).push (PySem.W.instObj C s.heap.objs.size) }) :
  codeAny (model prog w) A (.call (.ref C) ⟨vs,a⟩) R s:=by
 obtain⟨c,g,d,t,os⟩:=s;exact PySem.W.make_core (PySem.W.makes_of X b) (PySem.W.looks_findIn X hi) (λself=>PySem.W.bind_fn X self hf) (.inl rfl) h
end
def YZ(f:Str)(v:V):List (Str×V)->List (Str×V)
 | []=>[(f,v)]
 | (g,x)::r=>if g=f then (g,v)::r else (g,x)::YZ f v r
theorem Vb(f g:Str)(v:V):∀fs:List (Str×V),(YZ f v fs).lookup g=if g=f then some v else fs.lookup g
  | []=>by
    show List.lookup g [(f,v)]=_;by_cases h:g=f
    . have a:(g==f)=true:=beq_iff_eq.mpr h
      simp only[List.lookup,a,Eb h]
    . have a:(g==f)=false:=beq_eq_false_iff_ne.mpr h
      simp only[List.lookup,a,Ea h]
  | (k,x)::r=>by
    have c:=Vb f g v r;rw[show YZ f v ((k,x)::r)=(if k=f then (k,v)::r else (k,x)::YZ f v r)from rfl];by_cases b:k=f
    . rw[Eb b]
      by_cases h:g=k
      . have a:(g==k)=true:=beq_iff_eq.mpr h
        simp only[List.lookup,a,Eb (h.trans b)]
      . have a:(g==k)=false:=beq_eq_false_iff_ne.mpr h
        simp only[List.lookup,a,Ea (λe:g=f=>h (e.trans b.symm))]
    . rw[Ea b]
      by_cases h:g=k
      . have a:(g==k)=true:=beq_iff_eq.mpr h
        simp only[List.lookup,a,Ea (λe:g=f=>b (h.symm.trans e))]
      . have a:(g==k)=false:=beq_eq_false_iff_ne.mpr h
        simp only[List.lookup,a];exact c
theorem yH(f:Str)(v:V):∀fs:List (Str×V),f∈(YZ f v fs).map (·.1)/\∀g,g∈fs.map (·.1)->g∈(YZ f v fs).map (·.1)
  | []=>⟨by simp[YZ],λg h=>by simp at h⟩
  | (k,x)::r=>by
    obtain⟨b,c⟩:=yH f v r;rw[show YZ f v ((k,x)::r)=(if k=f then (k,v)::r else (k,x)::YZ f v r)from rfl];by_cases a:k=f
    . rw[Eb a]
      subst a;exact⟨by simp,λg h=>by simpa using h⟩
    . rw[Ea a]
      refine⟨?_,λg h=>?_⟩
      . rw[Bb]
        exact Ax _ b
      . rw[Bb]at h ⊢
        rcases Bk.mp h with e|e
        . exact Bk.mpr (.inl e)
        . exact Ax _ (c g e)
theorem Va(f:Str)(v:V):∀fs:List (Str×V),(YZ f v fs).length<=fs.length+1
  | []=>by simp[YZ]
  | (k,x)::r=>by
    have b:=Va f v r;rw[show YZ f v ((k,x)::r)=(if k=f then (k,v)::r else (k,x)::YZ f v r)from rfl];by_cases a:k=f
    . rw[Eb a,Ba,Ba];lia
    . rw[Ea a,Ba,Ba];lia
theorem RelO.some_of{o:Option Value}(r:RelO (some v) o):∃u,o=some u/\RelV v u:=by
 cases o with
 |none=>exact(show False from r).elim
 |some u=>exact⟨u,rfl,r⟩
theorem RelO.none_of{o:Option Value}(r:RelO none o):o=none:=by
 cases o with
 |none=>rfl
 |some u=>exact(show False from r).elim
theorem Qb9(r:RelV v u):PySem.W.handedIn u=true:=by
 cases v with
 |non=>cases (show u=Value.none from r);rfl
 |bl b=>cases (show u=Value.bool b from r);rfl
 |int i=>obtain⟨t,e⟩:=(show ∃t,u=Value.int i t from r);cases e;rfl
 |str x=>obtain⟨t,e⟩:=(show ∃t,u=Value.str x t from r);cases e;rfl
 |byt b=>obtain⟨t,e⟩:=(show ∃t,u=Value.bytes b t from r);cases e;rfl
 |flt b=>obtain⟨t,e⟩:=(show ∃t,u=Value.float b t from r);cases e;rfl
 |ref a=>cases (show u=Value.ref a from r);rfl
 |ty n=>cases (show u=Value.type n from r);rfl
section
variable{P:Program}{w:World}{H H':Hp}{h h':Heap}{a C dx:Addr}{fs fs':List (Str×V)}
theorem G8(hok:HOk P w H h)(e:H a=some (.ins C dx fs)):∃b,ObjM h a dx C b/\(∀f,RelO (fs.lookup f) (b f))/\PySem.Within b (fs.map (·.1))/\fs.length<=1000/\H dx=some (.own a):=by obtain⟨d,z,ne,ob,b,n,r,q⟩:=(show ObjOk P w H h a (.ins C dx fs)from hok a _ e);exact⟨b,⟨ob,n,ne⟩,r,q,z,d⟩
end
structure Cls(K:Aa)(C:Addr):Prop where
 pg:PySem.W.plainGet K C Str.empty=true
 hd:PySem.W.hasDictIn K C=true
 po:PySem.W.plainOver K C=true
 sa:PySem.W.findIn K (.ref C) "__setattr__" = some (some (.builtin "object.__setattr__"))
def Cls.get{K:Aa}{C:Addr}(c:Cls K C)(f:Str):PySem.W.plainGet K C f=true:=c.pg
def NoAttr(K:Aa)(C:Addr)(f:Str):Prop:=PySem.W.findIn K (.ref C) f=some none
theorem NoAttr.taker{K:Aa}{C:Addr}{f:Str}(n:NoAttr K C f):PySem.W.takerIn K C f=some none:=by unfold PySem.W.takerIn;rw[show PySem.W.findIn K (.ref C) f=some none from n];rfl
structure kr(K:Aa)(C:Addr)(m:Str)(f:Addr):Prop where
 at_:PySem.W.findIn K (.ref C) m=some (some (.ref f))
 fn:PySem.W.isFn K (.ref f)=true
 kp:PySem.W.keepIn K (.ref f)=true
section
variable{X:Cx}{O9:Ek}{σ:St}{H:Hp}{s:Shared}{a C dx:Addr}{fs:List (Str×V)}{f:Str}{v:V}{A:Around}{E:Ej}
theorem Ud{b:Bool}{Q:Ej}(I:Inv X O9 σ H s)(e:H a=some (.ins C dx fs))(c:Cls X.K C)(n:NoAttr X.K C f)(l:fs.lookup f=some v)
  (h:∀u s',Inv X O9 σ H s'->RelV v u->Q u s'):wpAny (model X.prog X.w) A (getAttr (.ref a) f b) Q E s:=by
 obtain⟨m,O,r,_,_,_⟩:=G8 I.hok e;obtain⟨u,j,i⟩:=RelO.some_of (v:=v) (o:=m f) (by rw[<- l];exact r f);exact DM I.kIn O (c.get f) c.hd n j (Qb9 i) (h u _ (I.tok _) i)
theorem j8{m:Str}{g:Addr}{pl:Sem Bool}{Q:Value×List Value->Shared->Prop}(I:Inv X O9 σ H s)(e:H a=some (.ins C dx fs))(c:Cls X.K C)(k:kr X.K C m g)(l:fs.lookup m=none)
  (h:Q (.ref g,[.ref a]) s):wpAny (model X.prog X.w) A (getMethod (.ref a) m pl) Q E s:=by
 obtain⟨i,O,r,_,_,_⟩:=G8 I.hok e;have b:i m=none:=RelO.none_of (by rw[<- l];exact r m);exact Qdu I.kIn O (c.get m) k.at_ k.fn b h
theorem U1{Q:Unit->Shared->Prop}(I:Inv X O9 σ H s)(e:H a=some (.ins C dx fs))(c:Cls X.K C)(n:NoAttr X.K C f)(L:fs.length<1000)(J:RelV y u)
  (h:∀s',Inv X O9 σ (upd H a (.ins C dx (YZ f y fs))) s'->Q () s'):wpAny (model X.prog X.w) A (setAttr (.ref a) f u) Q E s:=by
 obtain⟨j,O,r,l,_,i⟩:=G8 I.hok e;have hz:(fs.map (·.1)).length<=sizeLine:=by rw[Br,sizeLine_eq];lia
 refine HM I.kIn O c.sa c.po n.taker c.hd l hz λh' O' sb=>h _ ?_;have hd:∃o,h'.get? dx=some o:=let ⟨o,_,_,m,_⟩:=O'.ns;⟨o,m⟩;refine I.write (x:=a) (e:=dx) (by rw[e];exact True.intro) (.inr i) (λb q t z=>(sb.2 b t).trans z) hd ?_;refine⟨by rw[QO O.ne];exact i,?_,O.ne,O'.obj,_,O'.ns,λg=>?_,λg F=>?_⟩
 ·have:=Va f y fs;lia
 ·show RelO ((YZ f y fs).lookup g) (if g=f then some u else j g);rw[Vb];by_cases q:g=f
  ·rw[Eb q,Eb q];exact J
  ·rw[Ea q,Ea q];exact r g
 ·by_cases q:g=f
  ·rw[q];exact(yH f y fs).1
  ·refine(yH f y fs).2 g (l g λz=>F ?_);show(if g=f then some u else j g)=none;rw[Ea q];exact z
theorem Inv.made(I:Inv X O9 σ H s):Inv X O9 σ (upd (upd H s.heap.objs.size (.own (s.heap.objs.size+1))) (s.heap.objs.size+1) (.ins C s.heap.objs.size []))
  { s with heap:=(s.heap.push PySem.W.emptyDict).push (PySem.W.instObj C s.heap.objs.size) }:=by
 have c:(s.heap.push PySem.W.emptyDict).get? s.heap.objs.size=some PySem.W.emptyDict:=Av s.heap rfl;have i:((s.heap.push PySem.W.emptyDict).push (PySem.W.instObj C s.heap.objs.size)).get? (s.heap.objs.size+1)=some (PySem.W.instObj C s.heap.objs.size):=by
  have:=Av (s.heap.push PySem.W.emptyDict) (o:=PySem.W.instObj C s.heap.objs.size) rfl
  rwa [Co]at this
 have j:(s.heap.push PySem.W.emptyDict).Ns s.heap.objs.size (λ_=>none):=⟨PySem.W.emptyDict,#[],_,c,rfl,(λe he=>absurd he (by simp)),λ_=>rfl⟩;have h:=I.laid (a:=s.heap.objs.size) (o:=.own (s.heap.objs.size+1)) (h':=s.heap.push PySem.W.emptyDict) (t':=s.toks) (λb u q=>Ad _ q) (Ae _) ⟨_,c⟩;refine h.laid (a:=s.heap.objs.size+1) (o:=.ins C s.heap.objs.size []) (t':=s.toks) (λb u q=>Ad _ q) (Nat.le_of_eq (Co _ _)) ?_;have ne:s.heap.objs.size≠s.heap.objs.size+1:=Bf (C4 _);refine⟨by rw[QO ne,Q3],Be _,ne,i,λ_=>none,(Heap.Ns1.of_empty j).at λo q=>Ad _ q,λ_=>True.intro,λy l=>absurd rfl l⟩
theorem QeY{prog:Program}{w:World}{f:Str}{pos:Pos}{s:Shared}{Q:Ej}(b:attributeBase e f env (eval e env)=eval e env)
  (h:wpAny (model prog w) A (eval e env) (λo s₁=>wpAny (model prog w) A (getAttr o f true) Q E s₁) E s):wpAny (model prog w) A (eval (.Attribute e f pos) env) Q E s :=
 Attribute_any_ h (by rw[arm_eval_Attribute,b])
end
def TV(K:Aa)(c:TE)(f:Str):TE:=λσ H Q=>c σ H λx H1=>∃a C b fs v,x=.ref a/\H1 a=some (.ins C b fs)/\Cls K C/\NoAttr K C f/\fs.lookup f=some v/\Q v H1
def Sw(K:Aa)(c e:TE)(f:Str):TS:=λD σ H=>e σ H λy H1=>c σ H1 λx H2=>∃a C b fs,x=.ref a/\H2 a=some (.ins C b fs)/\Cls K C/\NoAttr K C f/\fs.length<1000 /\
 D.nx σ (upd H2 a (.ins C b (YZ f y fs)))
def DR(X:Cx)(b:Operator)(rd:V->V->Hp->VK->Prop):Prop :=
 ∀(a:Ek)(s:Shared)(σ:St)(H:Hp)(x y:V)(u v:Value)(Q:VK),Inv X a σ H s->RelV x u->RelV y v->rd x y H Q->wpAny (model X.prog X.w) X.A (inplaceOp b u v) (EP X a σ Q) X.xe s
def Sk(K:Aa)(i j:TE)(rd:V->V->Hp->VK->Prop)(f:Str):TS:=λD σ H=>i σ H λx H1=>∃a C h fs v,x=.ref a/\H1 a=some (.ins C h fs)/\Cls K C/\NoAttr K C f/\fs.lookup f=some v /\
 j σ H1 λy H2=>rd v y H2 λz e=>∃c b,e a=some (.ins C c b)/\b.length<1000/\D.nx σ (upd e a (.ins C c (YZ f z b)))
section
variable{X:Cx}{o e value:Expr}{f:Str}{pos pos' tpos:Pos}{ta tv:TE}
theorem MV(he:PE X e ta)(y:attributeBase e f X.env (eval e X.env)=eval e X.env):PE X (.Attribute e f pos) (TV X.K ta f):=by intro m s σ H Q I h;refine QeY y (thn (he m s σ H _ I h) λu L r=>?_);obtain⟨x,b,i,F,a,C,J,fs,v,ex,t,c,n,l,q⟩:=r;subst ex;obtain rfl:u=Value.ref a:=F;exact Ud i t c n l λP O j z=>⟨v,b,j,z,q⟩
theorem Md(t:PE X o ta)(v:PE X value tv)(hs:swapsWith value (some (.Attribute o f pos')) pos.line X.env=pure false):PS X (.Assign [.Attribute o f pos'] value pos) (Sw X.K ta tv f):=by intro b s σ H D I h;refine plainObj_wpAny_Assign_Attribute (thn (v b s σ H _ I h) λu L ⟨y,H1,I1,ry,q⟩=>thn (t b L σ H1 _ I1 q) λz Q m=>?_) hs;obtain⟨x,O,i,J,a,C,P,fs,ex,r,c,n,l,F⟩:=m;subst ex;obtain rfl:z=Value.ref a:=J;exact U1 i r c n l ry λR j=>⟨σ,_,j,F⟩
theorem Qcv{r:Operator}{rd:V->V->Hp->VK->Prop}(R:PE X o ta)(U:PE X value tv)(m:DR X r rd):PS X (.AugAssign (.Attribute o f tpos) r value pos) (Sk X.K ta tv rd f):=by intro b s σ H D I h;refine wpAny_AugAssign_AttributeAny (thn (R b s σ H _ I h) λov s1 i=>?_);obtain⟨x,t,F,rx,a,C,dx,fs,v,ex,P,c,n,l,q⟩:=i;subst ex;obtain rfl:ov=Value.ref a:=rx;refine Ud F P c n l λu s2 I2 ru=>thn (U b s2 σ t _ I2 q) λw3 s3 ⟨y,H2,I3,ry,q3⟩=>thn (m b s3 σ H2 v y u w3 _ I3 ru ry q3) λw4 s4 i=>?_;obtain⟨z,H3,J,rz,O,Q,j,Y,q4⟩:=i;exact U1 J j c n Y rz λs5 L=>⟨σ,_,L,q4⟩
def SQ:V->V->Hp->VK->Prop:=λx y H Q=>∃i j,x=.int i/\y=.int j/\Q (.int (i+j)) H
theorem BE:DR X .Add SQ:=by rintro a s σ H x y u v Q I rx ry ⟨i,j,rfl,rfl,q⟩;obtain⟨t,rfl⟩:=(show ∃t,u=Value.int i t from rx);obtain⟨t',rfl⟩:=(show ∃t',v=Value.int j t' from ry);exact PyProof.Rows.iadd_int ⟨.int (i+j),H,I.tok _,⟨_,rfl⟩,q⟩
theorem QgD{pl:Sem Bool}{m:Str}{b:Pos}{args:List Expr}{Q:Ej}(he:PE X e te)(I:Inv X O9 σ H s)
  (h:te σ H λx j=>∃a C r fs g,x=.ref a/\j a=some (.ins C r fs)/\Cls X.K C/\kr X.K C m g/\fs.lookup m=none /\
   ∀i,Inv X O9 σ j i->wpAny (model X.prog X.w) X.A (callWith pos (.ref g) [.ref a] (backTo pos (starEach args X.env)) (backToKw pos (keywordEach [] X.env))) Q X.xe i)
  (ht:eval (.Call (.Attribute e m b) args [] pos) X.env=(do
   let ov <- eval e X.env
   standAt b.atName
   let (f,first) <- holding [ov] (getMethod ov m pl)
   callWith pos f first (backTo pos (starEach args X.env)) (backToKw pos (keywordEach [] X.env)))) :
  wpAny (model X.prog X.w) X.A (eval (.Call (.Attribute e m b) args [] pos) X.env) Q X.xe s:=by
 refine PySem.W.methodCall_KW (pl:=pl) (thn (he O9 s σ H _ I h) λu i t=>?_) ht;obtain⟨x,j,n,y,a,C,r,fs,g,ex,v,c,k,l,q⟩:=t;subst ex;obtain rfl:u=Value.ref a:=y;exact j8 n v c k l (q i n)
end
section
variable{X:Cx}{O9:Ek}{σ:St}{H:Hp}{s:Shared}{A:Around}{E:Ej}{Q:Ej}{c:Value}{b:Bool}
end
structure Room(k:Nat)(A:Around):Prop where
 hd:A.handled=none
 dp:A.depth+3 * k+5<recursionLimit
 un:A.units+16 * k+200<cLine
theorem Room.mono{j k:Nat}(r:Room k A)(h:j<=k):Room j A:=⟨r.hd,by have:=r.dp;lia,by have:=r.un;lia⟩
theorem Room.deeper{k:Nat}{A:Around}(r:Room (k+1) A)(env:Env):Room k (A.deeper env) :=
 ⟨r.hd,by have:=r.dp;show A.depth+1+3 * k+5<_;lia,by have:=r.un;show A.units+3+16 * k+200<_;lia⟩
theorem Qaa{A:Around}{C:Addr}{a:List (Str×Value)}:(A.under (.builtin "type.__call__" ⟨.ref C::us,a⟩)).depth=A.depth+1:=by
 first|rfl|simp[Around.under,Code.weight,Code.isCreation,Code.isGuard,Code.isCaller,Code.frames,Code.isFrame,guardIds]
theorem Qab{A:Around}{C:Addr}{a:List (Str×Value)}:(A.under (.builtin "type.__call__" ⟨.ref C::us,a⟩)).units=A.units+1:=by
 first|rfl|simp[Around.under,Code.cUnits,Code.frames,Code.isFrame]
theorem Room.make{k:Nat}{A:Around}(r:Room (k+1) A)(C:Addr)(us:List Value)(a:List (Str×Value)):Room k (A.under (.builtin "type.__call__" ⟨.ref C::us,a⟩)) :=
 ⟨r.hd,by have:=r.dp;rw[Qaa];lia,by have:=r.un;rw[Qab];lia⟩
theorem Room.depth{k:Nat}{A:Around}(r:Room k A):A.depth<recursionLimit:=by have:=r.dp;lia
theorem Room.units{k:Nat}{A:Around}(r:Room k A):A.units+64<cLine:=by have:=r.un;lia
def Dy:TA:=λ_ H Q=>Q [] H
def RX(a:TE)(b:TA):TA:=λσ H Q=>a σ H λx H1=>b σ H1 λxs H2=>Q (x::xs) H2
section
variable{X:Cx}{e:Expr}{es:List Expr}{te:TE}{t:TA}{pos:Pos}
def pa_nil:PA X [] Dy:=λ_ _ _ _ H Q I h=>Calls.spliced_nil ⟨[],H,I,.nil,h⟩
theorem Yf(a:PE X e te)(b:PA X es t)(hs:starEach (e::es) X.env=(false,eval e X.env)::starEach es X.env:=by rfl):PA X (e::es) (RX te t):=by intro pos O9 s σ H Q I h;rw[hs];show wpAny _ _ (spliced ((false,eval e X.env)::backTo pos (starEach es X.env))) _ _ s;refine Calls.spliced_cons (thn (a O9 s σ H _ I h) λu c ⟨x,H1,I1,r1,q1⟩=>?_);exact thn (b pos O9 c σ H1 _ I1 q1) λus f ⟨xs,H2,I2,r2,q2⟩=>⟨x::xs,H2,I2,.cons r1 r2,q2⟩
def Tv(t:TA):TE:=λσ H Q=>t σ H λxs a=>xs.length<=sizeLine/\∀p,a p=none->Q (.ref p) (upd a p (.tup xs))
def TF(t:TA):TE:=λσ H Q=>t σ H λxs a=>xs.length<=sizeLine/\∀p,a p=none->Q (.ref p) (upd a p (.lst xs))
theorem MO{x1}(h:PA X es t):PE X (.Tuple es x1 pos) (Tv t):=by intro c s σ H Q I hq;refine wpAny_Tuple_spliced (thn (h pos c s σ H _ I hq) λus a ⟨xs,H1,I1,r,z,q⟩=>⟨by rw[<- r.length];exact z,?_⟩);have hf:H1 a.heap.objs.size=none:=I1.hok.fresh (Ae _);refine⟨.ref a.heap.objs.size,upd H1 a.heap.objs.size (.tup xs),I1.laid (t':=a.toks) (λb u e=>Ad _ e) (Ae _) ?_,rfl,q _ hf⟩;exact⟨z,us,r,⟨_,Av _ rfl,rfl,_,rfl⟩⟩
theorem Ii(h:PA X es t):PE X (.List es pos) (TF t):=by intro c s σ H Q I hq;refine wpAny_List_spliced (thn (h pos c s σ H _ I hq) λus a ⟨xs,H1,I1,r,z,q⟩=>⟨by rw[<- r.length];exact z,?_⟩);have hf:H1 a.heap.objs.size=none:=I1.hok.fresh (Ae _);refine⟨.ref a.heap.objs.size,upd H1 a.heap.objs.size (.lst xs),I1.laid (t':=a.toks) (λb u e=>Ad _ e) (Ae _) ?_,rfl,q _ hf⟩;exact⟨z,us,0,r,Av _ rfl⟩
end
abbrev Sp:=List V->Hp->VK->XK->Prop
abbrev CXT:=List Env->Hp->Shared->XK->Value->Shared->Prop
structure Env0(P:Program)(w:World)(K:Aa)(mg:Em)(O8:Heap)(A:Around)(outer:List Env)(s:Shared)(H:Hp):Prop where
 frames:A.frames=some outer
 mod:Mod K mg O8
 bs:∀b o,O8.get? b=some o->s.heap.get? b=some o/\H b=none
 bsz:O8.objs.size<=s.heap.objs.size
 funs:s.heap.FunFrames O8 outer
 frf:∀b∈frs outer,H b=none
 hok:HOk P w H s.heap
 bare:AllBare s.gens
def CE(outer:List Env)(P:Program)(w:World)(H:Hp)(s:Shared)(Q:VK)(u:Value)(s':Shared):Prop :=
 ∃v H',s'.os=s.os/\AllBare s'.gens/\Un (frs outer) [] H H' s.heap s'.heap/\HOk P w H' s'.heap/\RelV v u/\Q v H'
def CR(CX:CXT)(outer:List Env)(P:Program)(w:World)(H:Hp)(s:Shared)(Q:VK)(E:XK)(r:Result)(s':Shared):Prop :=
 match r with
 |.ok (.ret u)=>CE outer P w H s Q u s'
 |.ok _=>False
 |.error e=>CX outer H s E e s'
structure zA(P:Program)(w:World)(K:Aa)(mg:Em)(O8:Heap)(CX:CXT)(k:Nat)(f:Addr)(fd:FuncData)(ps:List Str)(sp:Sp):Prop where
 len:∀vs H Q E,sp vs H Q E->vs.length=ps.length
 run:∀(A:Around)(outer:List Env)(s:Shared)(H:Hp)(args:Args)(us:List Value)(vs:List V)(Q:VK)(E:XK),Room k A->Env0 P w K mg O8 A outer s H->BindsTo s fd args (ps.zip us)->Vals vs us->sp vs H Q E ->
  codeAny (model P w) A (.call (.ref f) args) (CR CX outer P w H s Q E) s
theorem Env0.make{w:World}{K:Aa}(e:Env0 P w K mg O8 A outer s H)(C:Addr)(us:List Value)(a:List (Str×Value)):
  Env0 P w K mg O8 (A.under (.builtin "type.__call__" ⟨.ref C::us,a⟩)) outer s H:=⟨by first|exact e.frames|(simpa [Around.under,Code.envs,Code.isFrame,pushEnvs]using e.frames),e.mod,e.bs,e.bsz,e.funs,e.frf,e.hok,e.bare⟩
section
variable{X:Cx}{O9:Ek}{σ:St}{H:Hp}{s s':Shared}
theorem Inv.env0(I:Inv X O9 σ H s):Env0 X.prog X.w X.K X.mg X.O8 X.A X.stack s H :=
 ⟨I.ok.frames,I.ok.mod,I.bs,Bj I.ok.bsz I.sz,I.stack,I.stkFree,I.hok,I.bare⟩
theorem Inv.after(I:Inv X O9 σ H s)(h:CE X.stack X.prog X.w H s Q u s'):EP X O9 σ Q u s':=by obtain⟨v,c,os,bare,un,hok,r,q⟩:=h;obtain⟨e,g,d,t,a⟩:=s';obtain rfl:a=s.os:=os;exact⟨v,c,I.call (h':=e) (g':=g) (d':=d) (t':=t) (ch:=[]) un hok bare (λb z=>absurd z (by simp)),r,q⟩
end
def RZ(sp:Sp)(a:List V)(E:XK)(t:TA):TE:=λσ H Q=>t σ H λvs H1=>sp (vs++a) H1 Q E
def wN(C:Addr)(m:Str)(sp:Sp)(b:List V)(E:XK)(e:TE)(t:TA):TE:=λσ H Q=>e σ H λx H1=>∃a c fs,x=.ref a/\H1 a=some (.ins C c fs)/\fs.lookup m=none /\
 t σ H1 λvs H2=>sp (x::(vs++b)) H2 Q E
def Binds(K:Aa)(fd:FuncData)(ps:List Str)(ds:List Value):Prop :=
 ∀(s:Shared)(us:List Value),K.In s.heap->(us++ds).length=ps.length->BindsTo s fd ⟨us,[]⟩ (ps.zip (us++ds))
theorem Binds.all{K:Aa}{ps:List Str}(h:∀us:List Value,us.length=ps.length->bindArgs fd ⟨us,[]⟩=pure (ps.zip us)):Binds K fd ps []:=λs us _ a=>by rw[Bt]at a ⊢;exact .of_eq (h us a)
def YR(CX:CXT)(X:Cx)(E:XK):Prop:=∀(a:Ek)(σ:St)(H:Hp)(s:Shared)(e:Value)(s':Shared),Inv X a σ H s->CX X.stack H s E e s'->X.xe e s'
section
variable{X:Cx}{CX:CXT}{k:Nat}{f C:Addr}{fd:FuncData}{ps:List Str}{sp:Sp}{dvs:List V}{ds:List Value}{E:XK}{x m:Str}{p pos apos:Pos}{e o:Expr}{es:List Expr}{ta:TE}{t:TA}
theorem wY{b:Ek}{σ:St}{H:Hp}{s:Shared}{Q:VK}{us:List Value}{vs:List V}(F:zA X.prog X.w X.K X.mg X.O8 CX k f fd ps sp)(n:Room k X.A)(j:Binds X.K fd ps ds)(hd:Vals dvs ds)(hx:YR CX X E)
    (I:Inv X b σ H s) (r:Vals vs us) (h:sp (vs++dvs) H Q E):wpAny (model X.prog X.w) X.A (call (.ref f) us) (EP X b σ Q) X.xe s:=by
  have c:Vals (vs++dvs) (us++ds):=r.append hd;have l:(us++ds).length=ps.length:=by rw[<- c.length];exact F.len _ _ _ _ h
  refine wpAny_call (codeAny_mono (F.run X.A X.stack s H ⟨us,[]⟩ (us++ds) (vs++dvs) Q E n I.env0 (j s us I.kIn l) c h) λr s' a=>?_);cases r with
  |error e=>exact hx b σ H s e s' I a
  |ok i =>
    cases i with
    |ret u=>exact I.after a
    |next=>exact False.elim a
    |brk=>exact False.elim a
    |cont=>exact False.elim a
theorem Sf(F:zA X.prog X.w X.K X.mg X.O8 CX k f fd ps sp)(l:Room k X.A)(c:Gl X x)(j:X.mg x=some (.ref f))(i:PySem.W.keepIn X.K (.ref f)=true)(b:Binds X.K fd ps ds)(hd:Vals dvs ds)(hx:YR CX X E)
  (ha:PA X (e::es) t) (hdb:(x==("__debug__" : Str))=false:=by decide) (he:starEach (e::es) X.env=(false,eval e X.env)::starEach es X.env:=by rfl) (hpl:(backTo pos (starEach es X.env)).any (·.1)=false:=by rfl) :
  PE X (.Call (.Name x p) (e::es) [] pos) (RZ sp dvs E t):=by
 intro a s σ H Q I h;refine wpAny_Call_Name_kw (ve I c j ?_ hdb);refine PySem.W.callWith_K (h₀:=X.O8) I.ok.mod.kin i (thn (ha pos a s σ H _ I h) λus n ⟨vs,H1,I1,r,q⟩=>⟨I1.kIn,?_⟩) he hpl;exact wY F l b hd hx I1 r q
theorem RY{pl:Sem Bool}(he:PE X o ta)(c:Cls X.K C)(j:kr X.K C m f)(F:zA X.prog X.w X.K X.mg X.O8 CX k f fd ps sp)(L:Room k X.A)(J:Binds X.K fd ps ds)(hd:Vals dvs ds)(hx:YR CX X E)(z:PA X (e::es) t)
  (hst:starEach (e::es) X.env=(false,eval e X.env)::starEach es X.env:=by rfl) (hpl:(backTo pos (starEach es X.env)).any (·.1)=false:=by rfl)
  (ht:eval (.Call (.Attribute o m apos) (e::es) [] pos) X.env=(do
   let ov <- eval o X.env
   standAt apos.atName
   let (f,first) <- holding [ov] (getMethod ov m pl)
   callWith pos f first (backTo pos (starEach (e::es) X.env)) (backToKw pos (keywordEach [] X.env))):=by rfl) :
  PE X (.Call (.Attribute o m apos) (e::es) [] pos) (wN C m sp dvs E ta t):=by
 intro i s σ H Q I h;refine PySem.W.methodCall_KW (pl:=pl) (thn (he i s σ H _ I h) λu P v=>?_) ht;obtain⟨x,n,b,O,a,R,fs,ex,y,l,q⟩:=v;subst ex;obtain rfl:u=Value.ref a:=O;refine j8 b y c j l ?_;refine PySem.W.callWith_K (first:=[.ref a]) (h₀:=X.O8) I.ok.mod.kin j.kp (thn (z pos i P σ n _ b q) λus U ⟨vs,H2,I2,r,q2⟩=>⟨I2.kIn,?_⟩) hst hpl;exact wY (us:=.ref a::us) (vs:=.ref a::vs) F L J hd hx I2 (.cons rfl r) q2
theorem Qd6{pl:Sem Bool}(he:PE X o ta)(c:Cls X.K C)(i:kr X.K C m f)(F:zA X.prog X.w X.K X.mg X.O8 CX k f fd ps sp)(y:Room k X.A)(v:Binds X.K fd ps ds)(hd:Vals dvs ds)(hx:YR CX X E)
  (ht:eval (.Call (.Attribute o m apos) [] [] pos) X.env=(do
   let ov <- eval o X.env
   standAt apos.atName
   let (f,first) <- holding [ov] (getMethod ov m pl)
   callWith pos f first (backTo pos (starEach [] X.env)) (backToKw pos (keywordEach [] X.env))):=by rfl) :
  PE X (.Call (.Attribute o m apos) [] [] pos) (wN C m sp dvs E ta Dy):=by
 intro j s σ H Q I h;refine PySem.W.methodCall_KW (pl:=pl) (thn (he j s σ H _ I h) λu O n=>?_) ht;obtain⟨x,J,b,z,a,L,fs,ex,r,l,q⟩:=n;subst ex;obtain rfl:u=Value.ref a:=z;refine j8 b r c i l ?_;exact PySem.W.callWith_K0 (first:=[.ref a]) b.kIn i.kp (wY (us:=[.ref a]) (vs:=[.ref a]) F y v hd hx b (.cons rfl .nil) q)
structure Mk(K:Aa)(C f:Addr):Prop where
 makes:PySem.W.makesIn K C=true
 init:PySem.W.findIn K (.ref C) "__init__" = some (some (.ref f))
 fn:PySem.W.isFn K (.ref f)=true
 kp:PySem.W.keepIn K (.ref C)=true
end
section
variable{X:Cx}{CX:CXT}{k:Nat}{f C:Addr}{fd:FuncData}{ps ks:List Str}{sp:Sp}{E:XK}{x m:Str}{p pos apos kpos:Pos}{e o:Expr}{es:List Expr}{kws:List Keyword}{te ta:TE}{t tk:TA}{nm:Option Str}
variable{g:List Value->List Value->List Value}{gV:List V->List V->List V}
end
structure Qv(N P:List Str)(sc:Scope):Prop where
 kind:sc.kind=.function
 co:sc.isCoroutine=false
 gen:sc.isGenerator=false
 nd:N.Nodup
 pre:N.take P.length=P
 par:∀x∈P,sc.names.lookup x=some .local∨sc.names.lookup x=some .cell
 nofree:∀y∈sc.names,y.2≠.free
theorem KR{kindOf:Str->Option NameKind}{x:Str}:∀{binds:List (Str×Value)}{m:Em},(∀v,(x,v)∉binds)->bindL kindOf binds m x=m x
  | [],_,_=>rfl
  | (n,v)::r,m,h=>by
    unfold bindL;rw[KR λw hw=>h w (Ax _ hw)];split
    . have:x≠n:=by rintro rfl;exact h v List.mem_cons_self
      simp[this]
    . rfl
theorem KP{kindOf:Str->Option NameKind}{x:Str}:∀{binds:List (Str×Value)}{m:Em},(∀v,(x,v)∉binds)->bindC kindOf binds m x=m x
  | [],_,_=>rfl
  | (n,v)::r,m,h=>by
    unfold bindC;rw[KP λw hw=>h w (Ax _ hw)];split
    . rfl
    . have:x≠n:=by rintro rfl;exact h v List.mem_cons_self
      simp[this]
theorem KQ{kindOf:Str->Option NameKind}{x:Str}:∀{P:List Str}{vs:List Value}{i:Nat}{m:Em},P.Nodup->P[i]?=some x->vs[i]?=some v->kindOf x=some .local ->
    bindL kindOf (P.zip vs) m x=some v
  | [],_,_,_,_,h,_,_=>by simp at h
  |_::_,[],_,_,_,_,h,_=>by simp at h
  |p::P,w::vs,0,m,nd,h1,h2,a=>by simp at h1 h2;subst h1;subst h2;show bindL kindOf ((p,w)::P.zip vs) m p=_;unfold bindL;rw[KR λv b=>(Cw.mp nd).1 (List.of_mem_zip b).1,Eb a];simp
  |p::P,w::vs,i+1,m,nd,h1,h2,a=>by show bindL kindOf ((p,w)::P.zip vs) m x=_;unfold bindL;exact KQ (i:=i) (Cw.mp nd).2 (by simpa using h1) (by simpa using h2) a
theorem KO{kindOf:Str->Option NameKind}{x:Str}:∀{P:List Str}{vs:List Value}{i:Nat}{m:Em},P.Nodup->P[i]?=some x->vs[i]?=some v->kindOf x≠some .local ->
    bindC kindOf (P.zip vs) m x=some v
  | [],_,_,_,_,h,_,_=>by simp at h
  |_::_,[],_,_,_,_,h,_=>by simp at h
  |p::P,w::vs,0,m,nd,h1,h2,a=>by simp at h1 h2;subst h1;subst h2;show bindC kindOf ((p,w)::P.zip vs) m p=_;unfold bindC;rw[KP λv b=>(Cw.mp nd).1 (List.of_mem_zip b).1,Ea a];simp
  |p::P,w::vs,i+1,m,nd,h1,h2,a=>by show bindC kindOf ((p,w)::P.zip vs) m x=_;unfold bindC;exact KO (i:=i) (Cw.mp nd).2 (by simpa using h1) (by simpa using h2) a
def start(N:List Str)(vs:List V):St:=vs.map some++List.replicate (N.length-vs.length) none
def Vx(CX:CXT)(P:Program)(w:World)(K:Aa)(mg:Em)(O8:Heap)(N:List Str)(a:Str)(scope:Scope)(f:Addr)(c:Value)(A:Around)(outer:List Env)(s:Shared)(H:Hp)(E:XK):Cx where
 prog:=P
 w:=w
 K:=K
 mg:=mg
 O8:=O8
 A:=A.deeper (envOfC a scope s.heap.objs.size f c)
 N:=N
 s₀:=s
 H₀:=H
 env:=envOfC a scope s.heap.objs.size f c
 outer:=outer
 stack:=envOfC a scope s.heap.objs.size f c::outer
 ex:=[]
 calm:=true
 fn:=λ_=>true
 pn:=[]
 xe:=λe s'=>wpAny (model P w) (A.deeper (envOfC a scope s.heap.objs.size f c)) (leaving (envOfC a scope s.heap.objs.size f c) e) (λ_ b=>CX outer H s E e b) (λh b=>CX outer H s E h b) s'
theorem ue{a:Scope}{n:Nat}{x:Str}(h:a.names.lookup x=some .cell):∃c,(cellsFrom n a.names []).lookup x=some c:=by have q:=PySem.W.cellsFrom_some a.names n [] (.inl h);exact Option.isSome_iff_exists.mp q
theorem Qcb{CX:CXT}{P:Program}{w:World}{K:Aa}{mg:Em}{O8:Heap}{N ps:List Str}{j:Str}{scope:Scope}{f:Addr}{t:Value}{A:Around}{outer:List Env}{s I:Shared}{H:Hp}{E:XK}{us:List Value}{vs:List V}
  (S:Qv N ps scope) (hd:A.handled=none) (e0:Env0 P w K mg O8 A outer s H) (hl:vs.length=ps.length) (r:Vals vs us)
  (x:InCallC s s.heap.objs.size (bindL (envOfC j scope s.heap.objs.size f t).kindOf (ps.zip us) λ_=>none) (cellsFrom (s.heap.objs.size+1) scope.names []) (bindC (envOfC j scope s.heap.objs.size f t).kindOf (ps.zip us) λ_=>none) I) :
  Inv (Vx CX P w K mg O8 N j scope f t A outer s H E) [] (start N vs) H I:=by
 have L:ps.length<=N.length:=by have:=congrArg List.length S.pre;rw[A9]at this;lia
 obtain⟨h1,Q,rfl,C⟩:=x.done;have m:∀b:Addr,b∉(Vx CX P w K mg O8 N j scope f t A outer s H E).ex:=λb z=>absurd (show b∈([]:Et)from z) (by simp);refine⟨⟨e0.mod,S.kind,rfl,rfl,Ae _,λy z c h1 h2=>?_,λy l=>?_,λy c _ h=>?_,λ_=>hd,Around.frames_deeper e0.frames,.inr ⟨rfl,rfl⟩,λb z=>absurd z (m b),e0.bs,e0.bsz,λb _ _=>m b,λb z=>absurd z (m b),e0.funs,e0.frf⟩,
  rfl,e0.bare,Un.kept C,⟨_,x.toInCall.ns,λi y v h1 h2 h3=>?_⟩,λy c h=>⟨_,x.cell y c h⟩,e0.hok.fresh (Ae _),λy c h=>?_,λp U=>absurd (show p∈([]:Ek)from U) (by simp),e0.hok.kept C,?_⟩
 ·exact name_of_addr x.apart (PySem.mem_of_lookup h1) (PySem.mem_of_lookup h2)
 ·have l:scope.names.lookup y=some .cell∨scope.names.lookup y=some .free:=l;rcases l with l|l
  ·exact ue l
  ·exact absurd rfl (S.nofree _ (PySem.mem_of_lookup l))
 ·exact Nat.le_of_lt (x.above y c (PySem.mem_of_lookup h))
 ·have hi:i<vs.length:=by
   unfold start at h2;by_cases hi:i<vs.length
   ·exact hi
   ·rw[Aq (by simpa using hi)]at h2;rw[List.getElem?_replicate]at h2;split at h2<;>cases h2
  have J:vs[i]?=some v:=by
   unfold start at h2;rw[Ah (by simpa using hi),Bu]at h2;cases e:vs[i]? with
   |none=>rw[e]at h2;cases h2
   |some a=>rw[e]at h2;cases h2;rfl
  obtain⟨u,F,O⟩:=r.get J;have U:ps[i]?=some y:=by rw[<- S.pre,Ca ⋯];exact h1
  have o:ps.Nodup:=by rw[<- S.pre];exact S.nd.sublist (List.take_sublist _ _)
  refine⟨u,O,?_⟩;rcases S.par y (Aw U)with k|k
  ·exact .inl ⟨k,KQ o U F k⟩
  ·obtain⟨c,e⟩:=ue (n:=s.heap.objs.size+1) k;refine .inr ⟨.inl k,c,e,?_⟩;have q:=x.cell y c e;rw[KO o U F (by show scope.names.lookup y≠_;rw[k];decide)]at q;exact q
 ·exact e0.hok.fresh (Nat.le_of_lt (x.above y c (PySem.mem_of_lookup h)))
 ·unfold start;show _=N.length;rw[An,Br,List.length_replicate];lia
theorem WQ{CX:CXT}{P:Program}{w:World}{K:Aa}{mg:Em}{O8:Heap}{k:Nat}{f:Addr}{name a:Str}{params:Arguments}{h:List Stmt}{scope:Scope}{U kV l X c ct oc:Value}{R od:Option Addr}
    {osl:Array (Option Value)} {N ps:List Str} {sp:Sp} (lk:K.lookup f=some ⟨oc,od,.func (PySem.W.fnOf name a params h scope U kV l X R c ct),osl⟩) (hcd:PySem.W.codeIn K c a=true) (S:Qv N ps scope)
    (len:∀vs H Q E,sp vs H Q E->vs.length=ps.length)
    (hbody:∀(A:Around)(outer:List Env)(s:Shared)(H:Hp)(vs:List V)(Q:VK)(E:XK),Room k (A.deeper (envOfC a scope s.heap.objs.size f c))->sp vs H Q E ->
      ∃t,PSs (Vx CX P w K mg O8 N a scope f c A outer s H E) h t/\t { nx:=λ_ i=>Q .non i,rt:=Q } (start N vs) H) :
    zA P w K mg O8 CX (k+1) f (PySem.W.fnOf name a params h scope U kV l X R c ct) ps sp:=by
  refine⟨len,λA outer s H args us vs Q E F m hb r C=>?_⟩;have hl:=len _ _ _ _ C;have O:K.In s.heap:=m.mod.kin.keeps λb o e=>(m.bs b o e).1;have lim:s.heap.NoLimit:=m.mod.nolimit.keeps λb o e=>(m.bs b o e).1;have j:∀y∈ps.zip us,scope.names.lookup y.1=some .local∨(scope.names.lookup y.1=some .cell/\((cellsFrom (s.heap.objs.size+1) scope.names []).lookup y.1).isSome=true):=λ⟨n,v⟩ hy=>by
    rcases S.par n (List.of_mem_zip hy).1 with q|q
    . exact .inl q
    . exact .inr ⟨q,PySem.W.cellsFrom_some _ _ _ (.inl q)⟩
  refine codeAny_call_function F.depth (O _ _ lk) rfl S.co S.gen rfl (PySem.W.codeRec_of O hcd) (hb _ _ _ _ ?_);refine wpAny_newFunctionEnv_cells S.kind j λenv he Y x=>?_;subst he;refine⟨lim.keeps x.toInCall.keep,codeAny_func ?_⟩;obtain⟨t,ht,hq⟩:=hbody A outer s H vs Q E (F.deeper _) C;have I:Inv (Vx CX P w K mg O8 N a scope f c A outer s H E) [] (start N vs) H Y:=Qcb S F.hd m hl r x;refine wpAny_mono (ht [] Y (start N vs) H _ I hq) (λfl s' hs=>?_) λe s' hs=>hs;have z:∀{σ':St}{i:Hp}{v:V}{u:Value},Inv (Vx CX P w K mg O8 N a scope f c A outer s H E) [] σ' i s'->RelV v u->Q v i->CE outer P w H s Q u s' :=
    λ{σ' i v u} J L q=>⟨v,i,J.os,J.bare,J.O8,J.hok,L,q⟩
  cases fl with
  |ret u=>obtain⟨v,σ',i,J,L,q⟩:=hs;exact z J L q
  |next=>obtain⟨σ',i,J,q⟩:=hs;exact z (v:=V.non) (u:=Value.none) J rfl q
  |brk=>obtain⟨_,_,_,q⟩:=hs;exact False.elim q
  |cont=>obtain⟨_,_,_,q⟩:=hs;exact False.elim q
section
variable{X:Cx}{x:Str}{p pos:Pos}{e:Expr}{es:List Expr}{t:TA}{id T:String}{r:List V->Hp->VK->Prop}
def tCB(r:List V->Hp->VK->Prop)(t:TA):TE:=λσ H Q=>t σ H λvs H1=>r vs H1 Q
theorem Uz(f:CallR X (.builtin id) r)(i:Gl X x)(j:X.mg x=none)(m:bootBuiltins x=some (.builtin id))(c:PA X (e::es) t)(l:x ≠ "__name__" := by decide)(a:(x==("__debug__" : Str))=false:=by decide)
  (he:starEach (e::es) X.env=(false,eval e X.env)::starEach es X.env:=by rfl) (hpl:(backTo pos (starEach es X.env)).any (·.1)=false:=by rfl):PE X (.Call (.Name x p) (e::es) [] pos) (tCB r t):=by
 intro b s σ H Q I h;refine wpAny_Call_Name_kw (xc I i j m ?_ l a);exact PyProof.Rows.callWith_builtin1 (thn (c pos b s σ H _ I h) λus n ⟨vs,H1,I1,r1,q1⟩=>f b n σ H1 vs us Q I1 r1 q1) he hpl
theorem Qco(f:CallR X (.type T) r)(i:Gl X x)(j:X.mg x=none)(m:bootBuiltins x=some (.type T))(c:PA X (e::es) t)(l:x ≠ "__name__" := by decide)(a:(x==("__debug__" : Str))=false:=by decide)
  (he:starEach (e::es) X.env=(false,eval e X.env)::starEach es X.env:=by rfl) (hpl:(backTo pos (starEach es X.env)).any (·.1)=false:=by rfl):PE X (.Call (.Name x p) (e::es) [] pos) (tCB r t):=by
 intro b s σ H Q I h;refine wpAny_Call_Name_kw (xc I i j m ?_ l a);exact PyProof.Rows.callWith_type1 (thn (c pos b s σ H _ I h) λus n ⟨vs,H1,I1,r1,q1⟩=>f b n σ H1 vs us Q I1 r1 q1) he hpl
end
end L2
namespace HT
open PySem PyProof.Rows
section
open PySem.SeqAt
open PySem.AutoSeq1 (wpAny_loadPart')
open PySem.MeetsSeq PySem.MeetsSeq2 PySem.MeetsSeq3
end
section
variable{prog:Program}{w:World}{A:Around}{E:Ej}{s:Shared}
theorem cat_tup{t b:Addr}{vs ws:List Value}{Q:Ej}(x:IsTup s.heap t vs.toArray)(v:IsTup s.heap b ws.toArray)(q:vs≠[])
  (h1:ws=[]->Q (.ref t) s) (h2:ws≠[]->Q (.ref s.heap.objs.size) { s with heap:=s.heap.push { cls:=.type "tuple", data:=.seq (vs++ws).toArray } })
  (hsz:vs.length+ws.length<=sizeLine):wpAny (model prog w) A (binaryOp .Add (.ref t) (.ref b)) Q E s:=by
 obtain⟨⟨cls,m,data,u⟩,j,o,n,hd⟩:=id x;obtain⟨⟨l,c,data2,i⟩,a,f,r,h⟩:=id v;simp only at o hd f h;subst o hd f h;have e:vs.toArray++ws.toArray=(vs++ws).toArray:=by simp
 by_cases hw:ws=[]
 ·exact concat_meets ⟨_,j,rfl⟩ ⟨_,a,rfl⟩ noFill_tuple_add seq_tuple_add PySem.F.slot_tuple_add PySem.F.entry_tuple_add (PySem.F.args_tuple_add_2 _ _)
   (tuple_addW1 t b vs.toArray ws.toArray n r m c u i (by simpa using q) (by simp[hw])) ⟨j,a,h1 hw⟩
 ·refine concat_meets ⟨_,j,rfl⟩ ⟨_,a,rfl⟩ noFill_tuple_add seq_tuple_add PySem.F.slot_tuple_add PySem.F.entry_tuple_add (PySem.F.args_tuple_add_2 _ _)
   (tuple_addW2 t b vs.toArray ws.toArray n r m c u i (by simpa using q) (by simpa using hw) (by rw[Ao,Ao];exact hsz)) ⟨j,a,?_⟩
  rw[e];exact h2 hw
def sIx(n d:Nat):Option Int->Nat
 |none=>d
 |some v=>if v<0 then (v+(n:Int)).toNat else min v.toNat n
theorem sIx_nat(n d k:Nat):sIx n d (some (k:Int))=min k n:=by show(if (k:Int)<0 then ((k:Int)+(n:Int)).toNat else min (k:Int).toNat n)=min k n;rw[Ea ⋯,B7]
theorem M1(n d:Nat)(hd:d<=n)(o:Option Int):sIx n d o<=n:=by
  cases o with
  |none=>exact hd
  |some v =>
    show(if v<0 then (v+(n:Int)).toNat else min v.toNat n)<=n;by_cases a:v<0
    . rw[Eb a];lia
    . rw[Ea a];exact Nat.min_le_right _ _
theorem Ms(v:Int)(n d:Nat):(if v<0 then max (v+(n:Int)) 0 else min v (n:Int))=((sIx n d (some v):Nat):Int):=by
 show(if v<0 then max (v+(n:Int)) 0 else min v (n:Int))=(((if v<0 then (v+(n:Int)).toNat else min v.toNat n):Nat):Int);by_cases a:v<0
 ·simp only[Eb a];lia
 ·simp only[Ea a];lia
theorem ku(lo hi:Option Int)(n:Nat):Builtin.Slice.sliceAdjust lo hi 1 (n:Int)=(((sIx n 0 lo:Nat):Int),((sIx n n hi:Nat):Int)):=by
 have h1:¬ ((1:Int)<0):=⋯
 unfold Builtin.Slice.sliceAdjust;simp only[h1,if_false];refine Prod.ext ?_ ?_
 ·cases lo with
  |none=>rfl
  |some v=>exact Ms v n 0
 ·cases hi with
  |none=>rfl
  |some v=>exact Ms v n n
theorem Qan(i j:Nat):Builtin.Slice.slicePlaces (i:Int) (j:Int) 1=j-i:=by
 unfold Builtin.Slice.slicePlaces;have h1:(1:Int) > 0:=⋯
 simp only[h1,if_true,Int.ediv_one];split<;>lia
theorem U5{o:Option Int}{Q:Option Int->Shared->Prop}(p:IsPart v o)(h:Q o s):wpAny (model prog w) A (Builtin.Slice.slicePartIndex v) Q E s:=by
 cases p with
 |none=>exact slicePart_none h
 |int i t=>exact slicePart_int h
theorem sliceApplied_gen{c:Addr}{lo hi:Option Int}{n:Nat}{Q:Int×Int×Nat->Shared->Prop}(hs:s.heap.IsSliceOf c vl vu .none)(pl:IsPart vl lo)(f:IsPart vu hi)
  (h:Q (((sIx n 0 lo:Nat):Int),1,sIx n n hi-sIx n 0 lo) s):wpAny (model prog w) A (Builtin.Slice.sliceApplied (.ref c) (pure (n:Int))) Q E s:=by
 obtain⟨os,b,e,a⟩:=id hs;unfold Builtin.Slice.sliceApplied Builtin.Slice.sliceFields;refine C9 (C9 (wpAny_field b a (x:=vl) rfl (C9 (wpAny_field b a (x:=vu) rfl (C9 (wpAny_field b a (x:=.none) rfl (Ec ?_)))))));refine C9 (slicePart_none ?_);show wpAny _ _ (if ((1:Int)==0)=true then _ else _) _ _ s;rw[Ea (by decide)];refine C9 (U5 pl (C9 (U5 f (C9 (Ec ?_)))));show wpAny _ _ (match Builtin.Slice.sliceAdjust lo hi 1 (n:Int)with|(lo,hi)=>pure (lo,(1:Int),Builtin.Slice.slicePlaces lo hi 1)) _ _ s;rw[ku lo hi n];show wpAny _ _ (pure (((sIx n 0 lo:Nat):Int),(1:Int),Builtin.Slice.slicePlaces ((sIx n 0 lo:Nat):Int) ((sIx n n hi:Nat):Int) 1)) _ _ s;rw[Qan];exact Ec h
theorem SZ(xs:Array Value)(i k:Nat):((List.range k).filterMap λ(m:Nat)=>xs[((i:Int)+(m:Int) * 1).toNat]?).toArray=((xs.toList.drop i).take k).toArray:=by
 have e:(λ(m:Nat)=>xs[((i:Int)+(m:Int) * 1).toNat]?)=λm=>xs[i+m]?:=by
  funext m;have:((i:Int)+(m:Int) * 1).toNat=i+m:=⋯
  rw[this]
 rw[e];have:=pick_run xs i k;rw[List.filterMap_map]at this;have a:((λx=>xs[x]?)∘λx=>i+x)=λm=>xs[i+m]?:=rfl;rw[a]at this;rw[this]
theorem getItem_tuple_cut{t j:Addr}{items:Array Value}{lo hi:Option Int}{Q:Ej}(b:IsTup s.heap t items)(hs:s.heap.IsSliceOf j vl vu .none)(pl:IsPart vl lo)(n:IsPart vu hi)
  (hw:¬ (sIx items.size 0 lo=0/\sIx items.size items.size hi=items.size))
  (h:Q (.ref s.heap.objs.size) { s with heap:=s.heap.push { cls:=.type "tuple", data:=.seq ((items.toList.drop (sIx items.size 0 lo)).take (sIx items.size items.size hi-sIx items.size 0 lo)).toArray } })
  (hsz:items.size<=sizeLine):wpAny (model prog w) A (getItem (.ref t) (.ref j)) Q E s:=by
 have a:sizeOk (.seq ((items.toList.drop (sIx items.size 0 lo)).take (sIx items.size items.size hi-sIx items.size 0 lo)).toArray):=by show((items.toList.drop (sIx items.size 0 lo)).take (sIx items.size items.size hi-sIx items.size 0 lo)).toArray.size<=sizeLine;rw[Ao,A9,Bq,Cj];lia
 have o:sIx items.size items.size hi<=items.size:=M1 _ _ (Ae _) hi;obtain⟨os,i,e,l⟩:=id hs;have c:s.TypeIs (.ref j) "slice" := ⟨os,i,e⟩;unfold getItem
 try with_reducible refine wpAny_holding ?_
 first|refine C9 (Ec ?_)|skip
 refine C9 (wpAny_sequenceKey b.typeIs (by decide) ?_);refine C9 (wpAny_callSpecial?_slot (name:=Str.ofString "__getitem__") b.typeIs PyProof.Rows.slot_tuple_getitem
  (wpAny_call_entry PyProof.Rows.slot_tuple_getitem b.typeIs entry_tuple_getitem ?_ (args_tuple_getitem _ _)))
 show wpAny _ _ (Builtin.Tuple.tupleItemsOf (.ref t) >>= _) _ _ s;refine C9 (tupleItemsOf_ b ?_);refine C9 (wpAny_typeOf c ?_);rw[Eb (by decide)];refine C9 (sliceApplied_gen hs pl n ?_);have f:¬ ((((sIx items.size 0 lo:Nat):Int)==0&&(1:Int)==1&&(sIx items.size items.size hi-sIx items.size 0 lo)==items.size)=true):=by intro q;rw[Bc,Bc]at q;have r:((sIx items.size 0 lo:Nat):Int)=0:=eq_of_beq q.1.1;have u:sIx items.size items.size hi-sIx items.size 0 lo=items.size:=eq_of_beq q.2;exact hw ⟨⋯,⋯⟩
 show wpAny _ _ (if (((sIx items.size 0 lo:Nat):Int)==0&&(1:Int)==1&&(sIx items.size items.size hi-sIx items.size 0 lo)==items.size)=true then _ else _) _ _ s;rw[Ea f,SZ]
 first
  |exact C9 (m:=Builtin.Tuple.tupleExact _) (wpAny_newObj_type (Ec ⟨_,rfl,Ec h⟩) a)
  |exact C9 (m:=Builtin.Tuple.tupleExact _) (wpAny_newObj_type (C9 (Ec (Ec ⟨_,rfl,Ec h⟩))) a)
  |exact C9 (C9 (m:=Builtin.Tuple.tupleExact _) (wpAny_newObj_type (Ec (Ec ⟨_,rfl,Ec h⟩)) a))
  |exact C9 (C9 (m:=Builtin.Tuple.tupleExact _) (wpAny_newObj_type (Ec ⟨_,rfl,Ec h⟩) a))
end
end HT
namespace L2
open PySem PySem.Spec PyProof.Rows
abbrev TO:=St->Hp->(Option Int->Hp->Prop)->Prop
def PO(X:Cx)(e:Option Expr)(t:TO):Prop :=
  ∀(O9 : List (Addr × Obj))(s : Shared)(σ : St)(H : Hp)(Q : Option Int -> Hp -> Prop), Inv X O9 σ H s -> t σ H Q ->
    wpAny (model X.prog X.w) X.A (evalPart e X.env) (λu s'=>∃o H',Inv X O9 σ H' s'/\IsPart u o/\Q o H') X.xe s
def HE:TO:=λ_ H Q=>Q none H
def RQ(t:TE):TO:=λσ H Q=>t σ H λx H1=>∃i,x=.int i/\Q (some i) H1
section
variable{X:Cx}{e:Expr}{te:TE}{lo hi:Option Expr}{tl th:TO}{pos p2:Pos}
theorem RE:PO X none HE:=by intro a s σ H Q I h;rw[evalPart_none];exact Ec ⟨none,H,I,.none,h⟩
theorem RC(h:PE X e te):PO X (some e) (RQ te):=by intro a s σ H Q I hw;rw[evalPart_some];refine thn (h a s σ H _ I hw) λu b ⟨x,H1,I1,r1,q1⟩=>?_;obtain⟨i,rfl,q⟩:=q1;obtain⟨t,rfl⟩:=r1;exact⟨some i,H1,I1,.int i t,q⟩
def SlR(X:Cx)(r:V->Option Int->Option Int->Hp->VK->Prop):Prop :=
  ∀(a : List (Addr × Obj))(s : Shared)(σ : St)(H : Hp)(x : V)(v c f : Value)(lo hi : Option Int)(b : Addr)(Q : VK), Inv X a σ H s -> RelV x v -> s.heap.IsSliceOf b c f .none -> IsPart c lo -> IsPart f hi -> r x lo hi H Q ->
    ∃T id,typeLookup (.type T) "__getitem__" = pure (some (.builtin id))/\s.TypeIs v T/\wpAny (model X.prog X.w) X.A (getItem v (.ref b)) (EP X a σ Q) X.xe s
def tSl(r:V->Option Int->Option Int->Hp->VK->Prop)(te:TE)(tl th:TO):TE:=λσ H Q=>te σ H λx H1=>tl σ H1 λl H2=>th σ H2 λu H3=>r x l u H3 Q
theorem Qd7{r:V->Option Int->Option Int->Hp->VK->Prop}(t:SlR X r)(he:PE X e te)(o:PO X lo tl)(z:PO X hi th):PE X (.Subscript e (.Slice lo hi none p2) pos) (tSl r te tl th):=by intro c s σ H Q I h;refine Subscript_ (thn (he c s σ H _ I h) λv C ⟨x,H1,I1,r1,q1⟩=>?_);refine wpAny_Slice (thn (o c C σ H1 _ I1 q1) λf F ⟨l,H2,I2,pl,q2⟩=>thn (z c F σ H2 _ I2 q2) λi a ⟨u,H3,I3,pu,q3⟩=>?_);rw[evalPart_none];refine Ec ?_;have j:Inv X c σ H3 { a with heap:=a.heap.push { cls:=.type "slice", data:=.fields #[f,i,.none] } }:=I3.kept (t':=a.toks) λb ob q=>Ad _ q;obtain⟨T,id,m,y,n⟩:=t c { a with heap:=a.heap.push { cls:=.type "slice", data:=.fields #[f,i,.none] } } σ H3 x v f i l u a.heap.objs.size Q j r1 (Heap.IsSliceOf.new ..) pl pu q3;show wpAny (model X.prog X.w) X.A (subscriptTail e (.Slice lo hi none p2) v (.ref a.heap.objs.size)) (EP X c σ Q) X.xe { a with heap:=a.heap.push { cls:=.type "slice", data:=.fields #[f,i,.none] } };exact tail_any (ops:=[.ref a.heap.objs.size,v]) y m n (by with_unfolding_all rfl)
def uq(xs:List V)(lo hi:Option Int):List V:=(xs.drop (HT.sIx xs.length 0 lo)).take (HT.sIx xs.length xs.length hi-HT.sIx xs.length 0 lo)
theorem y6(xs:List V)(lo hi:Option Int):(uq xs lo hi).length<=xs.length:=by unfold uq;rw[A9,Bq];lia
def Sx(K:Aa):V->Option Int->Option Int->Hp->VK->Prop:=λx lo hi H Q=>∃a xs,x=.ref a/\SqT K H a xs /\
 ¬ (HT.sIx xs.length 0 lo=0/\HT.sIx xs.length xs.length hi=xs.length)/\∀p,H p=none->Q (.ref p) (upd H p (.tup (uq xs lo hi)))
theorem M0:SlR X (Sx X.K):=by
 intro j s σ H x v vl vu lo hi sl Q I rx hs pl pu h;obtain⟨a,xs,rfl,hx,hw,q⟩:=h;cases rx;obtain⟨f,r,i,hz⟩:=I.tuple hx;have c:f.toArray.size=xs.length:=by rw[Ao];exact r.length.symm
 refine⟨"tuple", _,PyProof.Rows.slot_tuple_getitem.lookup,i.typeIs,?_⟩;refine HT.getItem_tuple_cut i hs pl pu (by rw[c];exact hw) ?_ (by rw[c];exact hz);rw[c];refine⟨.ref s.heap.objs.size,_,I.laid (t':=s.toks) (o:=.tup (uq xs lo hi)) (λb ob q=>Ad _ q) (Ae _) ?_,rfl,q _ (I.hok.fresh (Ae _))⟩;exact⟨Bj (y6 xs lo hi) hz,_,(r.drop (HT.sIx xs.length 0 lo)).take (HT.sIx xs.length xs.length hi-HT.sIx xs.length 0 lo),IsTup.new _ _⟩
def Sq(K:Aa):R2:=λx y H Q=>∃a b xs ys,x=.ref a/\y=.ref b/\SqT K H a xs/\SqT K H b ys/\xs≠[]/\xs.length+ys.length<=sizeLine /\
 (ys=[]->Q (.ref a) H)/\(ys≠[]->∀p,H p=none->Q (.ref p) (upd H p (.tup (xs++ys))))
theorem Vals.nil_iff{xs:List V}{us:List Value}(r:Vals xs us):us=[]↔xs=[]:=by
 cases r with
 |nil=>simp
 |cons _ _=>simp
theorem BY:OpR X (binaryOp .Add) (Sq X.K):=by intro C s σ H x y v u Q I rx ry h;obtain⟨a,b,xs,ys,rfl,rfl,j,l,hx,hz,r,t⟩:=h;cases rx;cases ry;obtain⟨m,f,n,_⟩:=I.tuple j;obtain⟨i,c,p2,_⟩:=I.tuple l;refine HT.cat_tup n p2 (λz=>hx (f.nil_iff.mp z)) (λz=>⟨.ref a,H,I,rfl,r (c.nil_iff.mp z)⟩) (λz=>?_) (by rw[<- f.length,<- c.length];exact hz);refine⟨.ref s.heap.objs.size,_,I.laid (t':=s.toks) (o:=.tup (xs++ys)) (λb ob q=>Ad _ q) (Ae _) ?_,rfl,t (λw=>z (c.nil_iff.mpr w)) _ (I.hok.fresh (Ae _))⟩;exact⟨by rw[An];exact hz,_,f.append c,IsTup.new _ _⟩
end
def ixN(n:Nat)(i:Int):Option Nat:=if 0<=i then (if i<n then some i.toNat else none)else if -(n:Int)<=i then some (i+n).toNat else none
def atI{α:Type}(xs:List α)(i:Int):Option α:=(ixN xs.length i).bind λj=>xs[j]?
theorem Lg{n:Nat}{i:Int}{j:Nat}(h:ixN n i=some j):seqIndex? i n=some j/\j<n /\ -(n:Int)<=i/\i<n:=by
 unfold ixN at h;by_cases h0:0<=i
 ·rw[Eb h0]at h;by_cases h1:i<n
  ·rw[Eb h1]at h;have e:i.toNat=j:=Ak h;exact⟨by rw[seqIndex_of h0 h1,e],⋯,⋯,h1⟩
  ·rw[Ea h1]at h;cases h
 ·rw[Ea h0]at h;by_cases h1:-(n:Int)<=i
  ·rw[Eb h1]at h;have e:(i+n).toNat=j:=Ak h;exact⟨by rw[seqIndex_neg ⋯ h1,e],⋯,h1,⋯⟩
  ·rw[Ea h1]at h;cases h
theorem Mu{α:Type}{xs:List α}{i:Int}{v:α}(h:atI xs i=some v):∃j,seqIndex? i xs.length=some j/\xs[j]?=some v/\j<xs.length /\ -(xs.length:Int)<=i/\i<xs.length:=by
  unfold atI at h;cases e:ixN xs.length i with
  |none=>rw[e]at h;cases h
  |some j=>rw[e]at h;obtain⟨h1,h2,h3,h4⟩:=Lg e;exact⟨j,h1,h,h2,h3,h4⟩
theorem ja{α:Type}{xs:List α}{j:Nat}{v:α}(h:xs[j]?=some v):atI xs (j:Int)=some v:=by
 have a:j<xs.length:=(Ac.mp h).1;have e:ixN xs.length (j:Int)=some j:=by unfold ixN;rw[Eb ⋯,Eb ⋯];simp
 unfold atI;rw[e];exact h
def GE(b:Expr):Prop:=∀o i,subscripted b false o i=operate [o,i] (getItem o i)
def IxR(X:Cx)(r:R2):Prop :=
  ∀(value slice : Expr)(a : List (Addr × Obj))(s : Shared)(σ : St)(H : Hp)(x y : V)(v u : Value)(Q : VK), Inv X a σ H s -> RelV x v -> RelV y u -> r x y H Q ->
    subscripted slice false v u=operate [v,u] (getItem v u)->wpAny (model X.prog X.w) X.A (subscriptTail value slice v u) (EP X a σ Q) X.xe s
def MtR(X:Cx)(id:String)(r:V->List V->Hp->VK->Prop):Prop :=
  ∀(a : List (Addr × Obj))(s : Shared)(σ : St)(H : Hp)(x : V)(xs : List V)(v : Value)(us : List Value)(Q : VK), Inv X a σ H s -> RelV x v -> Vals xs us -> r x xs H Q ->
    wpAny (model X.prog X.w) X.A (call (.builtin id) (v::us)) (EP X a σ Q) X.xe s
section
variable{X:Cx}{a b:Expr}{ta tb:TE}{pos:Pos}
theorem FQ{r:R2}(i:IxR X r)(e:PE X a ta)(f:PE X b tb)(hs:GE b):PE X (.Subscript a b pos) (tOp r ta tb):=by intro c s σ H Q I h;exact Subscript_ (wJ e f I h λv u m x y H2 I2 j l q=>i a b c m σ H2 x y v u Q I2 j l q (hs _ _))
def SM(K:Aa):R2:=λx y H Q=>∃p xs i v,x=.ref p/\y=.int i/\SqL K H p xs/\atI xs i=some v/\Q v H
def SJ(K:Aa):R2:=λx y H Q=>∃p xs i v,x=.ref p/\y=.int i/\SqT K H p xs/\atI xs i=some v/\Q v H
theorem Le:IxR X (SM X.K):=by
 intro value slice O9 s σ H x y v u Q I rx ry h hs;obtain⟨p,xs,i,z,rfl,rfl,o,he,q⟩:=h;cases rx;obtain⟨t,rfl⟩:=ry;obtain⟨f,r,pl,hz⟩:=I.list o;obtain⟨j,h1,h2,h3,h4,h5⟩:=Mu he;obtain⟨w,m,l⟩:=r.get h2;have n:=r.length;have C:=vg;have c:EP X O9 σ Q w s:=⟨z,H,I,l,q⟩;by_cases h0:0<=i
 ·have e:i.toNat=j:=by rw[seqIndex_of h0 h5]at h1;exact Ak h1
  exact item_listR pl.isList h0 ⋯ (by rw[e];simpa using m) c hs
 ·have e:(i+(f.toArray.size:Int)).toNat=j:=by rw[seqIndex_neg ⋯ h4]at h1;rw[Ao,<- n];exact Ak h1
  exact subscriptTail_builtinR (x:=w) pl.isList.typeIs slot_list_getitem.lookup
   (wpAny_getItem_list_neg (Q:=λr s'=>r=w/\EP X O9 σ Q r s') pl.isList ⋯ (by rw[Ao]<;>lia) ⋯ (by rw[e];simpa using m) ⟨rfl,c⟩) hs
theorem WS:IxR X (SJ X.K):=by
 intro value slice O9 s σ H x y v u Q I rx ry h hs;obtain⟨p,xs,i,z,rfl,rfl,m,he,q⟩:=h;cases rx;obtain⟨t,rfl⟩:=ry;obtain⟨n,r,pl,hz⟩:=I.tuple m;obtain⟨j,h1,h2,h3,h4,h5⟩:=Mu he;obtain⟨w,f,e⟩:=r.get h2;have l:=r.length;have o:=vg;have c:EP X O9 σ Q w s:=⟨z,H,I,e,q⟩;exact subscriptTail_builtinR (x:=w) pl.typeIs slot_tuple_getitem.lookup
  (getItem_tuple (j:=j) (Q:=λr s'=>r=w/\EP X O9 σ Q r s') pl ⋯ ⋯ (by rw[Ao,<- l];exact h1) (by simpa using f) ⟨rfl,c⟩) hs
theorem Qac(c:List Value)(n j:Nat)(u:Value):Obj.mapSeq (·.setIfInBounds j u) { cls:=.type "list", data:=.seq c.toArray n }={ cls:=.type "list", data:=.seq (c.set j u).toArray n }:=by simp[Obj.mapSeq]
theorem Inv.lst{H:Hp}{p:Addr}(I:Inv X O9 σ H s)(h:H p=some (.lst xs)):
  ∃(c:List Value) (n:Nat),Vals xs c/\s.heap.get? p=some { cls:=.type "list", data:=.seq c.toArray n }/\xs.length<=sizeLine:=by
 obtain⟨z,c,n,r,e⟩:=I.hok p _ h;exact⟨c,n,r,e,z⟩
theorem Inv.lstUpd{H:Hp}{p:Addr}{xs ys:List V}{c its':List Value}{n i:Nat}{f:Obj->Obj}(I:Inv X O9 σ H s)(h:H p=some (.lst xs))
  (ho:s.heap.get? p=some { cls:=.type "list", data:=.seq c.toArray n }) (hf:f { cls:=.type "list", data:=.seq c.toArray n }={ cls:=.type "list", data:=.seq its'.toArray i }) (r:Vals ys its') (hz:ys.length<=sizeLine) (t:Nat) :
  Inv X O9 σ (upd H p (.lst ys)) { s with heap:=s.heap.update p f,toks:=t }:=by
 have e:(s.heap.update p f).get? p=some { cls:=.type "list", data:=.seq its'.toArray i }:=by rw[Heap.get?_update_self f ho (by rw[hf]<;>rfl),hf]
 refine I.write (x:=p) (e:=p) (by rw[h];trivial) (.inl rfl) (λb u j q=>(Heap.get?_update_other _ _ (Ne.symm j)).trans q) ⟨_,e⟩ ?_;exact⟨hz,its',i,r,e⟩
def R9:V->V->V->Hp->(Hp->Prop)->Prop:=λo i v H Q=>∃p xs k j,o=.ref p/\i=.int k/\H p=some (.lst xs)/\ixN xs.length k=some j/\Q (upd H p (.lst (xs.set j v)))
theorem SE:rM X R9:=by
 intro x s σ H o i v ov iv u Q I ro ri rv h;obtain⟨p,xs,k,j,rfl,rfl,U,y,q⟩:=h;cases ro;obtain⟨t,rfl⟩:=ri;obtain⟨c,n,r,l,hz⟩:=I.lst U;obtain⟨h1,h2,h3,h4⟩:=Lg y;have f:=r.length;have z:=vg;have m:Inv X x σ (upd H p (.lst (xs.set j v))) { s with heap:=s.heap.update p (Obj.mapSeq (·.setIfInBounds j u)) } :=
  I.lstUpd U l (Qac c n j u) (r.set rv j) (by rw[List.length_set];exact hz) s.toks
 by_cases h0:0<=k
 ·have e:k.toNat=j:=by rw[seqIndex_of h0 h4]at h1;exact Ak h1
  exact PySem.W.ki_setAt l h0 ⋯ (by rw[Ao,<- f];exact h4) (by rw[e];exact⟨_,m,q⟩)
 ·have e:(k+(c.toArray.size:Int)).toNat=j:=by rw[seqIndex_neg ⋯ h3]at h1;rw[Ao,<- f];exact Ak h1
  exact PySem.W.ki_setBack l ⋯ (by rw[Ao,<- f];exact h3) ⋯ (by rw[e];exact⟨_,m,q⟩)
theorem vG(lo hi:Option Int)(n:Nat):(sliceBounds lo hi none n).1=((HT.sIx n 0 lo:Nat):Int)/\(sliceBounds lo hi none n).2.1=((HT.sIx n n hi:Nat):Int)/\(sliceBounds lo hi none n).2.2=1:=by
  refine⟨?_,?_,rfl⟩
  . cases lo with
    |none=>simp[sliceBounds,HT.sIx]
    |some i =>
      simp only[sliceBounds,HT.sIx,Option.getD_none,show(1:Int) > 0 by decide,if_true];by_cases h:i<0
      . simp only[h,if_true]<;>lia
      . simp only[h,if_false]<;>lia
  . cases hi with
    |none=>simp[sliceBounds,HT.sIx]
    |some i =>
      simp only[sliceBounds,HT.sIx,Option.getD_none,show(1:Int) > 0 by decide,if_true];by_cases h:i<0
      . simp only[h,if_true]<;>lia
      . simp only[h,if_false]<;>lia
theorem KJ(c:List Value)(lo hi:Option Int):slicePick c.toArray lo hi none=((c.drop (HT.sIx c.length 0 lo)).take (HT.sIx c.length c.length hi-HT.sIx c.length 0 lo)).toArray:=by obtain⟨h1,h2,h3⟩:=vG lo hi c.toArray.size;unfold slicePick;rw[h1,h2,h3];simp only[sliceRange_one,pick_run,Ao]<;>rfl
def Sy(K:Aa):V->Option Int->Option Int->Hp->VK->Prop:=λx lo hi H Q=>∃a xs,x=.ref a/\SqL K H a xs/\∀p,H p=none->Q (.ref p) (upd H p (.lst (uq xs lo hi)))
theorem HL:SlR X (Sy X.K):=by
 intro i s σ H x v vl vu lo hi sl Q I rx hs pl pu h;obtain⟨a,xs,rfl,hx,q⟩:=h;cases rx;obtain⟨f,r,e,hz⟩:=I.list hx;have c:=r.length;refine⟨"list", _,slot_list_getitem.lookup,e.isList.typeIs,?_⟩;refine wpAny_getItem_list_slice e.isList hs pl pu .none (by simp) ?_ (by rw[Ao]<;>lia)
 rw[KJ,<- c];refine⟨.ref s.heap.objs.size,_,I.laid (t':=s.toks) (o:=.lst (uq xs lo hi)) (λb ob q=>Ad _ q) (Ae _) ?_,rfl,q _ (I.hok.fresh (Ae _))⟩;exact⟨Bj (y6 xs lo hi) hz,_,0,(r.drop (HT.sIx xs.length 0 lo)).take (HT.sIx xs.length xs.length hi-HT.sIx xs.length 0 lo),Av _ rfl⟩
def YC:V->Bool
 |.non=>true
 |.bl _=>true
 |.int _=>true
 |.str _=>true
 |_=>false
def eqV:V->V->Bool
 |.non,.non=>true
 |.bl a,.bl b=>a==b
 |.bl a,.int b=>(if a then 1 else 0)==b
 |.int a,.bl b=>a==(if b then 1 else 0)
 |.int a,.int b=>a==b
 |.str a,.str b=>a==b
 |_,_=>false
theorem BI(f:RelV y u)(c:RelV x v)(h:YC y=true)(e:YC x=true):SeqAt.EqAt A s u v (eqV y x):=by
  cases y with
  |non =>
    cases f;cases x with
    |non=>cases c;exact SeqAt.EqAt.same _
    |bl b=>cases c;exact SeqAt.EqAt.none_bool b
    |int b=>obtain⟨t,rfl⟩:=c;exact SeqAt.EqAt.none_int b t
    |str b=>obtain⟨t,rfl⟩:=c;exact SeqAt.EqAt.none_str b t
    |_=>exact absurd (show false=true from e) Bz
  |bl a =>
    cases f;cases x with
    |non=>cases c;exact SeqAt.EqAt.bool_none a
    |bl b=>cases c;exact SeqAt.EqAt.bool_bool a b
    |int b=>obtain⟨t,rfl⟩:=c;exact SeqAt.EqAt.bool_int a b t
    |str b=>obtain⟨t,rfl⟩:=c;exact SeqAt.EqAt.bool_str a b t
    |_=>exact absurd (show false=true from e) Bz
  |int a =>
    obtain⟨t',rfl⟩:=f;cases x with
    |non=>cases c;exact SeqAt.EqAt.int_none a t'
    |bl b=>cases c;exact SeqAt.EqAt.int_bool a t' b
    |int b=>obtain⟨t,rfl⟩:=c;exact SeqAt.EqAt.int_int a t' b t
    |str b=>obtain⟨t,rfl⟩:=c;exact SeqAt.EqAt.int_str a t' b t
    |_=>exact absurd (show false=true from e) Bz
  |str a =>
    obtain⟨t',rfl⟩:=f;cases x with
    |non=>cases c;exact SeqAt.EqAt.str_none a t'
    |bl b=>cases c;exact SeqAt.EqAt.str_bool a t' b
    |int b=>obtain⟨t,rfl⟩:=c;exact SeqAt.EqAt.str_int a t' b t
    |str b=>obtain⟨t,rfl⟩:=c;exact SeqAt.EqAt.str_str a t' b t
    |_=>exact absurd (show false=true from e) Bz
  |_=>exact absurd (show false=true from h) Bz
def eqU(x:V)(u:Value):Bool:=match u with
 |.none=>eqV .non x
 |.bool b=>eqV (.bl b) x
 |.int i _=>eqV (.int i) x
 |.str z _=>eqV (.str z) x
 |_=>false
theorem HF(r:RelV y u)(f:YC y=true):eqU x u=eqV y x:=by
 cases y with
 |non=>cases r;rfl
 |bl b=>cases r;rfl
 |int i=>obtain⟨t,rfl⟩:=r;rfl
 |str z=>obtain⟨t,rfl⟩:=r;rfl
 |_=>exact absurd (show false=true from f) Bz
theorem GH:∀{xs:List V}{us:List Value},Vals xs us->xs.all YC=true->us.any (eqU x)=xs.any λy=>eqV y x
  |_,_,.nil,_=>rfl
  |y::xs,u::us,.cons r t,f=>by rw[C6,Bc]at f;rw[Cs,Cs,HF r f.1,GH t f.2]
theorem Up(h:RelV x v)(e:YC x=true):∀{xs:List V}{us:List Value},Vals xs us->xs.all YC=true->∀u∈us,SeqAt.EqAt A s u v (eqU x u)
  |_,_,.nil,_=>λu c=>by cases c
  |y::xs,u::us,.cons r t,f=>λi c=>by
    rw[C6,Bc]at f;rcases Bk.mp c with rfl|c
    . rw[HF r f.1];exact BI r h f.1 e
    . exact Up h e t f.2 i c
def inV(x:V)(xs:List V):Bool:=xs.any λy=>eqV y x
def rIn(K:Aa)(c:Bool):R2:=λx y H Q=>∃p xs,y=.ref p/\(SqL K H p xs∨SqT K H p xs)/\YC x=true/\xs.all YC=true/\Q (.bl (if c then !inV x xs else inV x xs)) H
theorem Qcm:OpR X (compareOp .In) (rIn X.K false):=by
 intro i s σ H x y v u Q I rx ry h;obtain⟨p,xs,rfl,e,f,fs,q⟩:=h;cases ry;rcases e with e|e
 ·obtain⟨c,r,pl,hz⟩:=I.list e;refine SeqAt.in_listAt (eqU x) pl.isList (λw hw=>Up rx f r fs w (by simpa using hw)) ⟨.bl _,H,I,rfl,?_⟩;rw[show c.toArray.any (eqU x)=c.any (eqU x)by simp,GH r fs];exact q
 ·obtain⟨c,r,pl,hz⟩:=I.tuple e;refine SeqAt.in_tupleAt (eqU x) pl (λw hw=>Up rx f r fs w (by simpa using hw)) ⟨.bl _,H,I,rfl,?_⟩;rw[show c.toArray.any (eqU x)=c.any (eqU x)by simp,GH r fs];exact q
theorem qG:CallR X (.builtin "len") (λxs H Q=>∃p ys,xs=[.ref p]/\(SqL X.K H p ys∨SqT X.K H p ys)/\Q (.int ys.length) H):=by
 intro l s σ H xs us Q I r h;obtain⟨p,ys,rfl,e,q⟩:=h;obtain⟨u,rfl,j⟩:=Kf r;cases j;have m:=vg;rcases e with e|e
 ·obtain⟨f,i,pl,hz⟩:=I.list e;have c:=i.length;exact Calls.call_len_list pl.isList (by simp only[Ao]<;>lia) ⟨.int ys.length,H,I.tok _,⟨s.toks+1,by rw[Ao,c]⟩,q⟩
 ·obtain⟨f,i,pl,hz⟩:=I.tuple e;have c:=i.length;exact len_tuple pl (by simp only[Ao]<;>lia) ⟨.int ys.length,H,I.tok _,⟨s.toks+1,by rw[Ao,c]⟩,q⟩
theorem call_list_of:CallR X (.type "list") (λxs H Q=>∃p ys,xs=[.ref p]/\(SqL X.K H p ys∨SqT X.K H p ys)/\∀l,H l=none->Q (.ref l) (upd H l (.lst ys))):=by
 intro y s σ H xs us Q I r h;obtain⟨p,ys,rfl,t,q⟩:=h;obtain⟨u,rfl,z⟩:=Kf r;cases z;have j:∀(c:List Value),Vals ys c->ys.length<=sizeLine->∀(h':Heap)(f:Nat),(∀b o',s.heap.get? b=some o'->h'.get? b=some o') ->
   h'.get? s.heap.objs.size=some { cls:=.type "list", dict:=none,data:=.seq c.toArray f,slots:=#[] }->EP X y σ Q (.ref s.heap.objs.size) { s with heap:=h' }:=λc i hz h' f kp e =>
  ⟨.ref s.heap.objs.size,_,I.laid (t':=s.toks) kp (Ae _) (show ObjOk X.prog X.w _ h' _ (.lst ys)from⟨hz,c,f,i,e⟩),rfl,q _ (I.hok.fresh (Ae _))⟩
 rcases t with t|t
 ·obtain⟨c,i,pl,hz⟩:=I.list t;have m:=i.length;obtain⟨o,x,v,n,hd⟩:=pl.isList;exact call_list_seq p (.inl rfl) x v hd (λh' f kp e=>j c i hz h' f kp e) (by simp only[Ao]<;>lia)
 ·obtain⟨c,i,pl,hz⟩:=I.tuple t;have m:=i.length;obtain⟨o,x,v,n,hd⟩:=pl;exact call_list_seq p (.inr rfl) x v hd (λh' f kp e=>j c i hz h' f kp e) (by simp only[Ao]<;>lia)
theorem YT:CallR X (.type "tuple") (λxs H Q=>∃p ys,xs=[.ref p]/\((SqL X.K H p ys/\∀l,H l=none->Q (.ref l) (upd H l (.tup ys)))∨(SqT X.K H p ys/\Q (.ref p) H))):=by
 intro m s σ H xs us Q I r h;obtain⟨p,ys,rfl,h⟩:=h;obtain⟨u,rfl,v⟩:=Kf r;cases v;rcases h with ⟨f,q⟩|⟨f,q⟩
 ·obtain⟨c,i,pl,hz⟩:=I.list f;have n:=i.length;refine call_tuple_list pl.isList (λh' kp=>?_) (by simp only[Ao]<;>lia)
  have j:Inv X m σ H { s with heap:=h' }:=I.kept (t':=s.toks) kp;have t:Inv X m σ (upd H h'.objs.size (.tup ys)) { s with heap:=h'.push { cls:=.type "tuple", data:=.seq c.toArray } } :=
   j.laid (t':=s.toks) (λb o e=>Ad _ e) (Ae _) (show ObjOk X.prog X.w _ _ _ (.tup ys)from⟨hz,c,i,IsTup.new _ _⟩)
  exact⟨.ref h'.objs.size,_,t,rfl,q _ (j.hok.fresh (Ae _))⟩
 ·obtain⟨c,i,pl,hz⟩:=I.tuple f;exact call_tuple_same pl ⟨.ref p,H,I,rfl,q⟩
def tyV(K:Aa)(T:String)(x:V)(H:Hp):Prop:=match x with
 |.str _=>T = "str"
 |.int _=>T = "int"
 |.ref p=>(T = "list" /\ ∃xs,SqL K H p xs)∨(T = "tuple" /\ ∃o,K.lookup p=some o/\o.cls=.type "tuple" /\ o.dict=none) ∨
   (T = "dict" /\ ((∃kvs,H p=some (.dK kvs))∨∃kvs,H p=some (.dT kvs)))∨(T = "set" /\ ∃S n,H p=some (.set S n))
 |_=>False
theorem Wc{T:String}(I:Inv X O9 σ H s)(r:RelV x v)(ty:tyV X.K T x H):
    s.TypeIs v T/\∀a,v=.ref a->∃ob,s.heap.get? a=some ob/\ob.dict=none:=by
  cases x with
  |str z =>obtain⟨t,rfl⟩:=r;cases (show T = "str" from ty);exact⟨typeIs_str s z t,λ_ e=>nomatch e⟩
  |int i =>obtain⟨t,rfl⟩:=r;cases (show T = "int" from ty);exact⟨typeIs_int s i t,λ_ e=>nomatch e⟩
  |ref p =>
    cases r;rcases ty with ⟨rfl,xs,l⟩|⟨rfl,o,f,j,hd⟩|⟨rfl,f⟩|⟨rfl,S,n,f⟩
    . obtain⟨m,_,pl,_⟩:=I.list l
      refine⟨pl.isList.typeIs,λa e=>?_⟩;cases e;obtain⟨o,n,e,c,hd,_⟩:=pl;exact⟨o,e,hd⟩
    . refine⟨⟨o,I.kIn p o f,j⟩,λa e=>?_⟩
      cases e;exact⟨o,I.kIn _ o f,hd⟩
    . have z:∃o,s.heap.get? p=some o/\o.ExactDict:=by
        rcases f with ⟨kvs,f⟩|⟨kvs,f⟩
        . obtain⟨_,_,_,_,o,_,_,e,ex,_⟩:=I.hok p _ f
          exact⟨o,e,ex⟩
        . obtain⟨_,_,_,_,o,_,_,e,ex,_⟩:=I.hok p _ f
          exact⟨o,e,ex⟩
      obtain⟨o,e,ex⟩:=z;refine⟨⟨o,e,ex.1⟩,λa h=>?_⟩;cases h;exact⟨o,e,ex.2.1⟩
    . obtain⟨o,_,_,_,e,ex,_⟩:=I.hok p _ f
      refine⟨⟨o,e,ex.1⟩,λa h=>?_⟩;cases h;exact⟨o,e,ex.2.1⟩
  |_=>exact False.elim ty
def tBM(K:Aa)(T:String)(r:V->List V->Hp->VK->Prop)(to:TE)(t:TA):TE:=λσ H Q=>to σ H λx H1=>tyV K T x H1/\t σ H1 λxs H2=>r x xs H2 Q
variable{o e:Expr}{es:List Expr}{to:TE}{t:TA}{name:Str}{apos cpos:Pos}{T id:String}{r:V->List V->Hp->VK->Prop}
theorem WX(n:PlainAttrs T)(slot:Slot T name id)(f:typeOf (.builtin id)=pure (.type "method_descriptor"))(l:MtR X id r)(m:PE X o to)(j:PA X (e::es) t)
  (hbase:attributeBase o name X.env (eval o X.env)=eval o X.env:=by rfl)
  (hfew:((backTo cpos (starEach (e::es) X.env)).all (λx=>!x.1)&&(backToKw cpos (keywordEach [] X.env)).all (λx=>x.1.isSome)
   && decide ((e::es).length+([]:List Keyword).length+(if ([]:List Keyword).isEmpty then 0 else 1)<30))=true:=by rfl)
  (hline:(apos.endLine==cpos.line)=true:=by rfl) (hs:starEach (e::es) X.env=(false,eval e X.env)::starEach es X.env:=by rfl) (hplain:(backTo cpos (starEach es X.env)).any (·.1)=false:=by rfl) :
  PE X (.Call (.Attribute o name apos) (e::es) [] cpos) (tBM X.K T r to t):=by
 intro c s σ H Q I h;refine wpAny_Call_method_late hbase hfew hline rfl (thn (m c s σ H _ I h) λv q ⟨x,H1,I1,r1,ty,q1⟩=>?_);obtain⟨h1,h2⟩:=Wc I1 r1 ty;refine⟨T,id,n,slot,f,h1,h2,?_⟩;have i:=j cpos c q σ H1 _ I1 q1;rw[hs]at i ⊢;refine Calls.callWith_builtin (by show(false||(backTo cpos (starEach es X.env)).any (·.1))=false;rw[hplain]<;>rfl) (Calls.evalArgs_plain ?_)
 exact thn i λus u ⟨vs,H2,I2,r2,q2⟩=>l c u σ H2 x vs v us Q I2 r1 r2 q2
/- xs.append(e),list.index on a module's tuple .. are MtR facts of 06m -/
end
def MtM(X:Cx)(id:String)(r:V->List V->Hp->VK->Prop):Prop :=
  ∀(a : List (Addr × Obj))(s : Shared)(σ : St)(H : Hp)(x : V)(xs : List V)(v : Value)(us : List Value)(Q : VK), Inv X a σ H s -> RelV x v -> Vals xs us -> r x xs H Q ->
    wpAny (model X.prog X.w) X.A (call (.builtin id) (v::us)) (EP X a σ Q) X.xe s
theorem Vals.one:∀{x:V}{us:List Value},Vals [x] us->∃u,us=[u]/\RelV x u
 |_,_,.cons r .nil=>⟨_,rfl,r⟩
theorem Vals.dropLast{xs:List V}{us:List Value}(h:Vals xs us):Vals xs.dropLast us.dropLast:=by
  induction h with
  |nil=>exact .nil
  |cons r t a =>
    cases t with
    |nil=>exact .nil
    |cons q t'=>exact .cons r a
section
variable{X:Cx}{O9:Ek}{σ:St}{H:Hp}{s:Shared}{l b:Addr}{xs ys zs:List V}
theorem Inv.lset{a its':List Value}{n:Nat}{f:Array Value->Array Value}{t':Nat}(I:Inv X O9 σ H s)(c:H l=some (.lst xs))
  (e:s.heap.get? l=some { cls:=.type "list", data:=.seq a.toArray n }) (hf:f a.toArray=its'.toArray) (hv:Vals ys its') (hz:ys.length<=sizeLine) :
  Inv X O9 σ (upd H l (.lst ys)) { s with heap:=s.heap.update l (Obj.mapSeq f),toks:=t' }:=by
 have q:=PySem.IsL.update e f;rw[hf]at q;refine I.write (x:=l) (e:=l) (by rw[c];exact trivial) (.inl rfl) (λj u h i=>(Heap.get?_update_other s.heap (Obj.mapSeq f) (Ne.symm h)).trans i) ⟨_,q⟩ ?_;exact⟨hz,its',_,hv,q⟩
theorem Inv.lnew{t':Nat}(I:Inv X O9 σ H s)(a:Vals ys its)(hz:ys.length<=sizeLine):
  Inv X O9 σ (upd H s.heap.objs.size (.lst ys)) { s with heap:=s.heap.push { cls:=.type "list", data:=.seq its.toArray },toks:=t' } :=
 I.laid (λ_ _ q=>Ad _ q) (Ae _) ⟨hz,its,0,a,Av _ rfl⟩
def Inv.fresh(I:Inv X O9 σ H s):H s.heap.objs.size=none:=I.hok.fresh (Ae _)
theorem Inv.lstM(I:Inv X O9 σ H s)(c:H l=some (.lst xs)):xs.length<=sizeLine/\∃(a:List Value) (n:Nat),Vals xs a/\xs.length=a.length/\s.heap.get? l=some { cls:=.type "list", data:=.seq a.toArray n }:=by obtain⟨z,a,n,r,e⟩:=I.hok l _ c;exact⟨z,a,n,r,r.length,e⟩
theorem QdV{n:Nat}(h:n<=sizeLine):Builtin.List.listTooLong n=false:=by unfold Builtin.List.listTooLong;exact Eh ⋯
end
section
variable{X:Cx}
def D5:V->List V->Hp->VK->Prop:=λx vs H Q=>∃l xs y,x=.ref l/\vs=[y]/\H l=some (.lst xs)/\xs.length<sizeLine/\Q .non (upd H l (.lst (xs++[y])))
theorem Gc:MtM X "list.append" D5:=by intro f s σ H x vs v us Q I rx rv h;obtain⟨l,xs,y,rfl,rfl,b,hz,q⟩:=h;cases rx;obtain⟨u,rfl,c⟩:=rv.one;obtain⟨z,a,n,r,i,e⟩:=I.lstM b;refine call_meets F.slot_list_append ⟨_,e,rfl⟩ F.entry_list_append (F.args_list_append_2 _ _) (PySem.list_append l a.toArray n u (by rw[Ao];lia)) ⟨e,?_⟩;refine⟨.non,_,I.lset (its':=a++[u]) b e (by simp) (r.append (.cons c .nil)) ?_,rfl,q⟩;rw[An,List.length_singleton];lia
def SB:V->List V->Hp->VK->Prop:=λx vs H Q=>∃l b xs a,x=.ref l/\vs=[.ref b]/\H l=some (.lst xs)/\H b=some (.lst a)/\xs.length+a.length<=sizeLine/\Q .non (upd H l (.lst (xs++a)))
theorem Qck:MtM X "list.extend" SB:=by
 intro J s σ H x vs v us Q I rx rv h;obtain⟨l,b,xs,O,rfl,rfl,i,m,hz,q⟩:=h;cases rx;obtain⟨u,rfl,C⟩:=rv.one;cases C;obtain⟨z,c,n,r,L,e⟩:=I.lstM i;obtain⟨z2,a,t,y,o,j⟩:=I.lstM m;have hsz:c.toArray.size+a.toArray.size<=sizeLine:=by rw[Ao,Ao];lia
 have f:¬ (!c.toArray.isEmpty&&Builtin.List.listTooLong (c.toArray.size+a.toArray.size))=true:=by rw[QdV hsz,Bool.and_false];exact Bz
 refine call_meets F.slot_list_extend ⟨_,e,rfl⟩ F.entry_list_extend (F.args_list_extend_2 _ _)
  (AutoSeq1.list_extend_list_list_0 l c.toArray n b a.toArray t f (by rw[Ao];lia) ⋯) ⟨e,j,?_⟩
 refine⟨.non,_,I.lset (its':=c++a) i e (by simp) (r.append y) ?_,rfl,q⟩;rw[An];lia
end
section
variable{prog:Program}{w:World}{A:Around}{E:Ej}{s:Shared}
end
section
variable{X:Cx}
end
end L2
namespace Att
open PySem PySem.W PySem.Calls PyProof.Rows
theorem VA:∀(ns:List Int)(vs:List Value),WellAll P h vs (ns.map WData.int)->IntsAre vs ns:=by
  intro ns;induction ns with
  |nil=>intro vs w;rw[List.map_nil]at w;cases w;exact .nil
  |cons n ns c =>
    intro vs w;rw[Bb]at w;cases w with
    |cons a b=>cases a;exact .cons _ _ (c _ b)
theorem QcD{l:OpenLaw}{n:Nat}(j:l.most=some n){P:Params}{h:Heap}{args:List WData}{b:List Value}
    (hpre:l.row.toRowW.claim.pre args=true) (hwl:WellAll P h b args) :
    ∃a vs ns,b=[Value.ref a]/\args=[WData.list (ns.map WData.int)]/\h.get? a=some { cls:=.type "list", data:=.seq vs.toArray }/\IntsAre vs ns/\ns.length<=n:=by
  have f:WShape.hasAll [] args [.list .int]=true:=(pre_splitW hpre).1;have i:l.pre.holds [] { args:=args }=true:=(pre_splitW hpre).2;obtain⟨d,r,rfl,h1,h2⟩:=hasAllW_cons f;obtain rfl:=hasAllW_nil h2;obtain⟨xs,rfl,h3⟩:=hasW_list h1;obtain⟨ns,rfl⟩:=items_int h3;have e:ns.length<=n:=by
    unfold OpenLaw.pre at i;have h4:(WTm.not (.lt (.lit (.int (n:Int))) (.len (.arg 0)))).holds [] { args:=[.list (ns.map .int)] }=true:=by have h4:=(holds_andW i).1;rw[j]at h4;exact h4
    have h5:=condW_of h4 (w_not (w_lt w_lit (w_len_list (w_arg rfl))));rw[Br]at h5;refine C0 λq=>?_;have o:(n:Int)<((ns.length:Nat):Int):=⋯
    first
      | (rw[Ef o] at h5;exact absurd h5 (by decide))
      | (simp at h5;lia)
  cases hwl with
  |cons t u =>
    cases u;cases t with
    |list m c=>exact⟨_,_,ns,rfl,rfl,m,VA ns _ c,e⟩
theorem Qcu(l:OpenLaw)(args:List WData):l.row.toRowW.claim.post args (.bool true) args=true :=
 postW_of (r:=l.row.toRowW) (X:=(true==true))
  (show WShape.has [] (.bool true) .bool=true by first|rfl|decide|simp[WShape.has,WShape.arms,WShape.armsAll])
  (show(WTm.eq .res (.lit (.bool true))).value [] { args:=args,res:=some (.bool true),after:=args }=some (.bool (true==true))from w_eq_bool (w_res rfl) w_lit) rfl
theorem attach_call{l:OpenLaw}{n:Nat}{q:Program}{b:List Str}{t:(Em)->Heap->Prop}{u:World->Heap->Prop}{d:DefRec}
  (hn:l.most=some n) (hdf:d.params.defaults=[])
  (call:∀(w:World)(s₀ s₁:Shared)(mg mb:Em)(fa:Addr)(o:Obj)(m j c:Value)(a:Addr)(vs:List Value)(ns:List Int),
   Ground q b [] t w s₀ mg mb s₁.heap->u w s₁.heap ->
   s₁.heap.get? fa=some o->o.data=.func (docDef d.name d.params d.body d.scope m j c)->s₁.heap.CodeRec j d.name->mg d.name=some (.ref fa) ->
   s₁.heap.get? a=some { cls:=.type "list", data:=.seq vs.toArray }->IntsAre vs ns->ns.length<=n->s₁.gens = #[] ->
   codeAny (model l.prog w) callerA (.call (.ref fa) ⟨[.ref a],[]⟩) (λr s'=>r=.ok (.ret (.bool true))/\OldK s₁.heap s'.heap/\s'.os=s₁.os/\AllBare s'.gens) s₁) :
  WalkO q b t u l.row.toRowW d [] (λf vs=>PySem.call f vs):=by
 intro w s₀ s₁ mg mb G Y fa o m j c dV kV ho hd hcd hD hmg hg args vals as hpre hlay hrd hwl hlo;obtain rfl:dV=.none:=Dflts.none hD hdf;obtain rfl:kV=.none:=Dflts.noKw hD;obtain⟨a,vs,ns,rfl,rfl,i,e,h⟩:=QcD hn hpre hwl;refine enter_call (codeAny_mono (call w s₀ s₁ mg mb fa o m j c a vs ns G Y ho (fd_plain hd) hcd hmg i e h hg) λr s' x=>?_);obtain⟨rfl,h2,h3,h4⟩:=x;exact⟨.inl ⟨.bool true,.bool true,[],rfl,λ_=>rfl,.bool true,Qcu l _,λ_=>⟨List.Pairwise.nil,λ_ v=>(nomatch v)⟩⟩,h2,h3,h4⟩
section
variable{prog:Program}{w:World}{A:Around}{E:Ej}{s:Shared}{K:Frag}
def QjN(h:Heap)(L d:Addr):List (Addr×Obj):=(List.range h.objs.size).filterMap λa=>if a=L∨a=d then none else (h.get? a).map λo=>(a,o)
end
end Att
namespace L2
open PySem PySem.Spec PyProof.Rows
theorem qw:∀{vs:List Value}{ns:List Int},IntsAre vs ns->Vals (ns.map V.int) vs
 |_,_,.nil=>.nil
 |_,_,.cons n t h=>.cons ⟨t,rfl⟩ (qw h)
def wL(H:Hp):Prop:=∀b,H b=none∨∃o xs,H b=some (.frz o (.lst xs))
theorem QdD{P:Program}{w:World}{K:Aa}{mg mb:Em}{CX:CXT}{k:Nat}{fa a:Addr}{fd:FuncData}{x:Str}{sp:Sp}{s₁:Shared}{vs:List Value}{ns:List Int}
    (KX:K.In s₁.heap) (t:s₁.heap.Ns mainGlobals mg) (f:s₁.heap.Ns builtinsNs mb) (L:∀x:Str,x ≠ "__name__" -> mb x=bootBuiltins x) (hlim:s₁.heap.NoLimit) (hg:s₁.gens = #[])
    (ha:s₁.heap.get? a=some { cls:=.type "list", data:=.seq vs.toArray }) (hi:IntsAre vs ns) (hl:ns.length<=sizeLine) (hr:Room k callerA)
    (F:∀O8:Heap,K.In O8->O8.Ns mainGlobals mg->zA P w K mg O8 CX k fa fd [x] sp) (hbind:∀(s:Shared)(u:Value),BindsTo s fd ⟨[u],[]⟩ [(x,u)])
    (hsp:∀H:Hp,wL H->SqL K H a (ns.map V.int)->sp [.ref a] H (λv _=>v=.bl true) λ_ _ _=>False)
    (hCX:∀H e s',CX [] H s₁ (λ_ _ _=>False) e s'->False) :
    codeAny (model P w) callerA (.call (.ref fa) ⟨[.ref a],[]⟩) (λr s'=>r=.ok (.ret (.bool true))/\OldK s₁.heap s'.heap/\s'.os=s₁.os/\AllBare s'.gens) s₁:=by
  have Y:=qw hi;have C:=hi.length;have j:∀H:Hp,wL H->SqL K H a (ns.map V.int)->HOk P w H s₁.heap->(∀b,H b≠none->b=a)->(H a≠none->K.lookup a=none) ->
      codeAny (model P w) callerA (.call (.ref fa) ⟨[.ref a],[]⟩) (λr s'=>r=.ok (.ret (.bool true))/\OldK s₁.heap s'.heap/\s'.os=s₁.os/\AllBare s'.gens) s₁:=by
    intro H X hS hok U hK;have c:∀{b:Addr}{o:Obj},s₁.heap.get? b=some o->H b=none->(G7 s₁.heap H).get? b=some o:=λe n=>Qdw e n;have Q:∀{b:Addr}{o:Obj}{es:Array DictEntry}{ep:Nat},s₁.heap.get? b=some o->o.data=.dict es ep->H b=none:=λ{b o es ep} e d=>by
      cases q:H b with
      |none=>rfl
      |some u=>have J:b=a:=U b (by rw[q];simp);subst J;rw[ha]at e;cases e;have d':Data.seq vs.toArray _=Data.dict es ep:=d;cases d'
    have i:∀{b:Addr}{m:Em},s₁.heap.Ns b m->(G7 s₁.heap H).Ns b m:=λ{b m} ⟨o,es,ep,e,d,r⟩=>⟨o,es,ep,c e (Q e d),d,r⟩;have l:K.In (G7 s₁.heap H):=λb o e=>c (KX b o e) (by
      cases q:H b with
      |none=>rfl
      |some u=>have J:b=a:=U b (by rw[q];simp);subst J;rw[hK (by rw[q];simp)]at e;cases e)
    have hM:Mod K mg (G7 s₁.heap H):=⟨l,i t,⟨mb,i f,L⟩,let ⟨mc,h1,h2⟩:=hlim;⟨mc,i h1,h2⟩⟩;have e0:Env0 P w K mg (G7 s₁.heap H) callerA [] s₁ H:=⟨rfl,hM,λb o e=>Db e,Nat.le_of_eq (Qca _ _),trivial,λb f=>absurd (show b∈([]:Et)from f) (by simp),hok,.of_eq hg⟩;refine codeAny_mono ((F _ l (i t)).run callerA [] s₁ H ⟨[.ref a],[]⟩ [.ref a] [.ref a] _ _ hr e0 (hbind s₁ (.ref a)) (.cons rfl .nil) (hsp H X hS)) λr s' h=>?_;cases r with
    |error e=>exact(hCX H e s' h).elim
    |ok fl =>
      cases fl with
      |next=>exact False.elim h
      |brk=>exact False.elim h
      |cont=>exact False.elim h
      |ret u =>
        obtain⟨v,H',os,bare,un,y,r',q⟩:=h;have q':v=.bl true:=q;subst q';obtain rfl:u=Value.bool true:=r';refine⟨rfl,OldK.of_keep λb o e=>?_,os,bare⟩;cases q:H b with
        |none=>exact un.keep b o e q (by intro z;exact absurd (show b∈([]:Et)from z) (by simp)) (by simp)
        |some u =>
          rcases X b with z|⟨ob,xs,z⟩
          . rw[q]at z;cases z
          . have z2:=un.frzs b ob _ z
            obtain⟨R,_⟩:=hok b _ z;obtain⟨e2,_⟩:=y b _ z2;rw[e]at R;cases R;exact e2
  cases O:K.lookup a with
  |some o=>have e:=KX a o O;rw[ha]at e;cases e;refine j (λ_=>none) (λ_=>.inl rfl) (.inr ⟨_,vs.toArray,_,O,rfl,rfl,rfl,by rw[Ao,C];exact hl,by simpa using Y⟩) (λb u z=>by have I:(none:Option HO)=some u:=z;cases I) (λb z=>absurd rfl z) λz=>absurd rfl z
  |none =>
    refine j (λb=>if b=a then some (.frz { cls:=.type "list", data:=.seq vs.toArray } (.lst (ns.map V.int)))else none) (λb=>?_) (.inl (.inr ⟨{ cls:=.type "list", data:=.seq vs.toArray },Eb rfl⟩)) (λb u z=>?_) (λb z=>?_) λ_=>O
    . by_cases f:b=a
      . exact .inr ⟨_,_,Eb f⟩
      . exact .inl (Ea f)
    . by_cases f:b=a
      . have I:=(Eb f).symm.trans z
        cases I;subst f;exact⟨ha,by rw[Br];exact hl,vs,_,Y,ha⟩
      . have I:=(Ea f).symm.trans z
        cases I
    . by_cases f:b=a
      . exact f
      . exact absurd (Ea f) z
theorem QbM{l:PySem.W.OpenLaw}{n k:Nat}{q:Program}{j:List Str}{z:(Em)->Heap->Prop}{y:World->Heap->Prop}{d:DefRec}{K:Params->Aa}{CX:World->CXT}{sp:World->Sp}{x:Str}
    (hn:l.most=some n) (hn2:n<=sizeLine) (hdf:d.params.defaults=[]) (hr:Room k callerA)
    (hY:∀(w:World)(h:Heap),y w h->(K w.params).In h)
    (F:∀(w:World)(mg:Em)(fa:Addr)(h:Heap),(K w.params).In h->h.Ns mainGlobals mg->mg d.name=some (.ref fa) ->
      ∃fd : FuncData, (∀(s : Shared)(u : Value), BindsTo s fd ⟨[u], []⟩ [(x, u)]) /\
        ∀O8:Heap,(K w.params).In O8->O8.Ns mainGlobals mg->zA l.prog w (K w.params) mg O8 (CX w) k fa fd [x] (sp w))
    (hsp:∀(w:World)(H:Hp)(a:Addr)(ns:List Int),ns.length<=n->wL H->SqL (K w.params) H a (ns.map V.int)->sp w [.ref a] H (λv _=>v=.bl true) λ_ _ _=>False)
    (hCX:∀(w:World)(H:Hp)(s:Shared)(e:Value)(s':Shared),CX w [] H s (λ_ _ _=>False) e s'->False) :
    PySem.W.WalkO q j z y l.row.toRowW d [] (λf vs=>PySem.call f vs):=by
  refine Att.attach_call hn hdf λw s₀ s₁ mg mb fa o U Q C a vs ns G Y R hd O r m i c P=>?_;have t:=hY w _ Y;obtain⟨fd,L,I⟩:=F w mg fa _ t G.T.g r;exact QdD t G.T.g G.T.b G.T.builtins G.T.nolimit P m i (Bj c hn2) hr I L (λH J hS=>hsp w H a ns c J hS) λH e s'=>hCX w H s₁ e s'
end L2
/- THE LAST THEOREM (shape; LID, My.* are yours):
   My.Adr: a structure of the addresses that your layer names (classes,functions);My.Txt K t: a structure (Prop) of the equations over K;
   My.txt_mk:{K} {implicit addresses ..} (e1:nsIn K mainGlobals "law" = some (some (.ref f))) (e2:K.lookup f=some ⟨oc,od,.func (fnOf "law" "law" params body scope dV kV doc pm an cdv ct),sl⟩) (e3:codeIn K cdv "law" = true) ..:∃t,My.Txt K t
set_option maxRecDepth 100000 in
set_option maxHeartbeats 0 in
theorem PySem.Challenge.cw_LID_holds : PySem.Challenge.rw_LID.Holds := by
 w_on;o_law;k_head;(case hw=>w_witness2)
 k_fill
 refine L2.QbM (l:=PySem.Challenge.rw_LID) (n:=63) (k:=40) (x := "script") (CX:=fun w=>..) (sp:=fun _=>My.sp_law) rfl (by decide) rfl ⟨rfl,by decide,by decide⟩ (fun w h Y=>PySem.W.kIn_of Y) ?F ?S ?C
 case F =>
  intro w mg fa h KX G hmg;have T:∃t,My.Txt (L2.KOf KX) t:=by
   dsimp only[L2.KOf]                          -- K must stand as «<heap const> w.params» for k_is
   refine' My.txt_mk ?e1 ?e2 ?e3 ..
   (case e1=>PySem.W.k_is)                    -- in the order: a name->its address->its object->its parts
   (case e2=>PySem.W.k_is)
   ..
  obtain⟨t,T⟩:=T;have e0:=hmg.symm.trans (PySem.W.mg_of KX G T.law);cases e0                                       -- fa is the law's own address;exact⟨_,λs u=>.of_eq rfl,λO8 kb nb=>My.law_fn T kb nb⟩     -- if «.of_eq rfl» comes too early: refine' ⟨_,?b,λO8 kb nb=>My.law_fn T kb nb⟩;exact λs u=>.of_eq rfl
 case S=>exact λw H a ns hl hO hS=>..
 case C=>exact ..
(the tactic k_is has no namespace: write k_is) -/
namespace L2
open PySem PySem.Spec PyProof.Rows
def Zv(s:Stmt)(j:Nat):Stmt:=match s with
 |.ClassDef _ _ _ a _ _ _ _ _ _ _=>a.getD j (.Pass ⟨0,0,0,0⟩)
 |_=>.Pass ⟨0,0,0,0⟩
def JW(s:Stmt):Arguments:=match s with
 |.FunctionDef _ a _ _ _ _ _ _ _ _=>a
 |_=>{ posonlyargs:=[],args:=[],vararg:=none,kwonlyargs:=[],kw_defaults:=[],kwarg:=none,defaults:=[] }
def ZK(s:Stmt):List Stmt:=match s with
 |.FunctionDef _ _ b _ _ _ _ _ _ _=>b
 |_=>[]
def Qo(s:Stmt):Scope:=match s with
 |.FunctionDef _ _ _ _ _ _ a _ _ _=>a
 |_=>{ kind:=.function,names:=[],isGenerator:=false,isCoroutine:=false }
abbrev CX0:CXT:=λ_ _ _ _ _ _=>False
abbrev E0:XK:=λ_ _ _=>False
def Qy:YR CX0 X E0:=λ_ _ _ _ _ _ _ h=>h.elim
structure Fun(K:Aa)(x qual:Str)(st:Stmt)(f:Addr)(fd:FuncData):Prop where
 ex:∃(oc:Value)(od:Option Addr)(kV doc pm:Value)(an:Option Addr)(cdv ct:Value)(osl:Array (Option Value)),
  fd=PySem.W.fnOf x qual (JW st) (ZK st) (Qo st) .none kV doc pm an cdv ct/\K.lookup f=some ⟨oc,od,.func fd,osl⟩/\PySem.W.codeIn K cdv qual=true
 kp:PySem.W.keepIn K (.ref f)=true
section
variable{P:Program}{w:World}{K:Aa}{mg:Em}{O8:Heap}
theorem Fun.ok{x a:Str}{st:Stmt}{f:Addr}{fd:FuncData}{N ps:List Str}{k:Nat}{sp:Sp}(F:Fun K x a st f fd)(S:Qv N ps (Qo st))(len:∀vs H Q E,sp vs H Q E->vs.length=ps.length)
  (hbody:∀(b:Value)(A:Around)(outer:List Env)(s:Shared)(H:Hp)(vs:List V)(Q:VK)(E:XK),Room k (A.deeper (envOfC a (Qo st) s.heap.objs.size f b))->sp vs H Q E ->
   ∃t,PSs (Vx CX0 P w K mg O8 N a (Qo st) f b A outer s H E).nox (ZK st) t/\t { nx:=λ_ H'=>Q .non H',rt:=Q } (start N vs) H):zA P w K mg O8 CX0 (k+1) f fd ps sp:=by
 obtain⟨o,r,kV,i,u,n,b,ct,m,rfl,l,c⟩:=F.ex;refine WQ l c S len λA outer s H vs Q E j e=>?_;obtain⟨t,h,q⟩:=hbody b A outer s H vs Q E j e;exact⟨t,h.nox,q⟩
theorem Fun.binds{x a:Str}{st:Stmt}{f:Addr}{fd:FuncData}{ps:List Str}(F:Fun K x a st f fd)
  (h:∀(kV c i:Value)(e:Option Addr)(b ct:Value)(us:List Value),us.length=ps.length->bindArgs (PySem.W.fnOf x a (JW st) (ZK st) (Qo st) .none kV c i e b ct) ⟨us,[]⟩=pure (ps.zip us)):Binds K fd ps []:=by
 obtain⟨n,o,kV,c,i,e,b,ct,l,rfl,m,j⟩:=F.ex;exact .all (h kV c i e b ct)
theorem G0{x a:Str}{st:Stmt}{f:Addr}{m:Value}{n i:Option Addr}{h:Array (Option Value)}{kV e j b ct:Value}(l:K.lookup f=some ⟨m,n,.func (PySem.W.fnOf x a (JW st) (ZK st) (Qo st) .none kV e j i b ct),h⟩)
  (c:PySem.W.codeIn K b a=true) (k:PySem.W.keepIn K (.ref f)=true):Fun K x a st f (PySem.W.fnOf x a (JW st) (ZK st) (Qo st) .none kV e j i b ct):=⟨⟨m,n,kV,e,j,i,b,ct,h,rfl,l,c⟩,k⟩
end
theorem QA{A:Around}{k:Nat}(a:Room k A):A.units+1<cLine:=By (Nat.add_le_add_left (by decide:1<=64) _) a.units
section
variable{X:Cx}
end
theorem kS{A B:Prop}(h:B):if false=true then A else B:=by rw[Ea Bz];exact h
theorem kT{A B:Prop}(h:A):if true=true then A else B:=by rw[Eb rfl];exact h
end L2
set_option maxHeartbeats 4000000
namespace L2
open PySem PySem.Spec PyProof.Rows
section
variable{κ:Type}[DecidableEq κ]
def XJ(kvs:List (κ×V))(k:κ):Option V:=(kvs.find? λa=>decide (a.1=k)).map (·.2)
def zq(kvs:List (κ×V))(k:κ)(v:V):List (κ×V) :=
 if (kvs.any λa=>decide (a.1=k))=true then kvs.map (λa=>if a.1=k then (a.1,v)else a)else kvs++[(k,v)]
def xE(kvs:List (κ×V))(k:κ):List (κ×V):=kvs.filter λa=>decide (a.1≠k)
theorem Ke{p:κ×V}{r:List (κ×V)}{k:κ}(e:p.1=k):XJ (p::r) k=some p.2:=by simp[XJ,B8,e]
theorem Kc{p:κ×V}{r:List (κ×V)}{k:κ}(e:¬ p.1=k):XJ (p::r) k=XJ r k:=by simp[XJ,B8,e]
theorem gX(k:κ):∀kvs:List (κ×V),(kvs.any λa=>decide (a.1=k))=(XJ kvs k).isSome
  | []=>rfl
  |p::r=>by
    rw[Cs];by_cases e:p.1=k
    . simp only[Ke e,Ef e,Bool.true_or,Option.isSome_some]
    . rw[Kc e,Eh e,Bool.false_or];exact gX k r
theorem zP(kvs:List (κ×V))(k:κ)(v:V):(zq kvs k v).length<=kvs.length+1:=by
 unfold zq;split
 ·rw[Br];lia
 ·rw[An,Ba,List.length_nil];lia
theorem RelO.isSome_eq{o:Option V}{u:Option Value}(r:RelO o u):o.isSome=u.isSome:=by
  cases o with
  |none=>cases u with
    |none=>rfl
    |some _=>exact(show False from r).elim
  |some _=>cases u with
    |none=>exact(show False from r).elim
    |some _=>rfl
theorem RelO.getD{o:Option V}{u:Option Value}(r:RelO o u)(rd:RelV d d'):RelV (o.getD d) (u.getD d'):=by
  cases o with
  |none=>cases u with
    |none=>exact rd
    |some _=>exact(show False from r).elim
  |some _=>cases u with
    |none=>exact(show False from r).elim
    |some _=>exact r
theorem KV.val{kvs:List (κ×V)}{vs:List (κ×Value)}(r:KV kvs vs)(k:κ):RelO (XJ kvs k) (valueAt vs k):=by
  unfold KV at r;induction r with
  |nil=>exact True.intro
  |@cons p q ps c h t f =>
    obtain⟨h1,h2⟩:=h;by_cases e:p.1=k
    . have a:q.1=k:=h1.symm.trans e
      have b:valueAt (q::c) k=some q.2:=by simp[valueAt,B8,a]
      rw[Ke e,b];exact h2
    . have a:¬ q.1=k:=λz=>e (h1.trans z)
      have b:valueAt (q::c) k=valueAt c k:=by simp[valueAt,B8,a]
      rw[Kc e,b];exact f
theorem KV.any{kvs:List (κ×V)}{vs:List (κ×Value)}(r:KV kvs vs)(k:κ):(kvs.any λa=>decide (a.1=k))=vs.any λa=>decide (a.1=k):=by
 unfold KV at r;induction r with
 |nil=>rfl
 |cons h t b=>rw[Cs,Cs,b,h.1]
theorem KV.repl{kvs:List (κ×V)}{vs:List (κ×Value)}(r:KV kvs vs)(k:κ)(c:RelV y u):
    KV (kvs.map λa=>if a.1=k then (a.1,y)else a) (vs.map λa=>if a.1=k then (a.1,u)else a):=by
  unfold KV at r ⊢;induction r with
  |nil=>exact .nil
  |@cons p q ps f h t b =>
    rw[Bb,Bb];refine .cons ?_ b;obtain⟨h1,h2⟩:=h;by_cases e:p.1=k
    . rw[Eb e,Eb (h1.symm.trans e)];exact⟨h1,c⟩
    . rw[Ea e,Ea (λz=>e (h1.trans z))];exact⟨h1,h2⟩
theorem KV.put{kvs:List (κ×V)}{vs:List (κ×Value)}(r:KV kvs vs)(k:κ)(a:RelV y u):KV (zq kvs k y) (stored vs k u):=by
 unfold zq stored;rw[r.any k];by_cases e:(vs.any λb=>decide (b.1=k))=true
 ·rw[Eb e,Eb e];exact r.repl k a
 ·rw[Ea e,Ea e];exact Paired.snoc r ⟨rfl,a⟩
theorem KV.drop{kvs:List (κ×V)}{vs:List (κ×Value)}(r:KV kvs vs)(k:κ):KV (xE kvs k) (without vs k):=by
  unfold KV at r ⊢;unfold xE without;induction r with
  |nil=>exact .nil
  |@cons p q ps i h t c =>
    obtain⟨h1,h2⟩:=h;rw[As,As];by_cases e:p.1=k
    . have a:¬ decide (p.1≠k)=true:=by simp[e]
      have b:¬ decide (q.1≠k)=true:=by simp[h1.symm.trans e]
      rw[Ea a,Ea b];exact c
    . have f:¬ q.1=k:=λz=>e (h1.trans z)
      have a:decide (p.1≠k)=true:=by simp[e]
      have b:decide (q.1≠k)=true:=by simp[f]
      rw[Eb a,Eb b];exact .cons ⟨h1,h2⟩ c
def KV.length{kvs:List (κ×V)}{vs:List (κ×Value)}(r:KV kvs vs):kvs.length=vs.length:=Paired.length r
def uy(kvs:List (κ×V))(k:κ):(xE kvs k).length<=kvs.length:=Cb _ _
end
theorem jH{w:World}(r:RelV (kV k) u):(Zz P w).is k u=true:=by
 cases k with
 |inl i=>obtain⟨t,e⟩:=(show ∃t,u=Value.int i t from r);subst e;exact uX P w i t
 |inr x=>obtain⟨t,e⟩:=(show ∃t,u=Value.str x t from r);subst e;exact uY P w x t
theorem K7{w:World}:∀{ks:List Key}{us:List Value},Vals (ks.map kV) us->ItemsAre (Zz P w) ks us
  | [],_,r=>by rw[List.map_nil]at r;cases r;exact .nil
  |k::ks,_,r=>by
    rw[Bb]at r;cases r with
    |cons h t=>exact .cons (jH h) (K7 t)
abbrev KT(H:Hp):List (List Key×V)->List (List Key×Addr×Value)->Prop:=Paired λp q=>p.1=q.1/\H q.2.1=some (.tup (p.1.map kV))/\RelV p.2 q.2.2
theorem KT.val{kvs:List (List Key×V)}{xs:List (List Key×Addr×Value)}(r:KT H kvs xs)(k:List Key):RelO (XJ kvs k) ((atKey xs k).map (·.2)):=by
  induction r with
  |nil=>exact True.intro
  |@cons p q ps c h t f =>
    obtain⟨h1,_,h2⟩:=h;by_cases e:p.1=k
    . have a:q.1=k:=h1.symm.trans e
      have b:atKey (q::c) k=some q.2:=by simp[atKey,B8,a]
      rw[Ke e,b];exact h2
    . have a:¬ q.1=k:=λz=>e (h1.trans z)
      have b:atKey (q::c) k=atKey c k:=by simp[atKey,B8,a]
      rw[Kc e,b];exact f
theorem KT.repl{kvs:List (List Key×V)}{xs:List (List Key×Addr×Value)}(r:KT H kvs xs)(k:List Key)(c:RelV y u):
    KT H (kvs.map λa=>if a.1=k then (a.1,y)else a) (xs.map (putAt k u)):=by
  induction r with
  |nil=>exact .nil
  |@cons p q ps f h t b =>
    rw[Bb,Bb];refine .cons ?_ b;obtain⟨h1,h2,h3⟩:=h;unfold putAt;by_cases e:p.1=k
    . rw[Eb e,Eb (h1.symm.trans e)];exact⟨h1,h2,c⟩
    . rw[Ea e,Ea (λz=>e (h1.trans z))];exact⟨h1,h2,h3⟩
theorem KT.put{H:Hp}{kvs:List (List Key×V)}{xs:List (List Key×Addr×Value)}(r:KT H kvs xs)(k:List Key){b:Addr}(c:H b=some (.tup (k.map kV)))(a:RelV y u):
  KT H (zq kvs k y) (storedH xs k b u):=by
 have e:(kvs.any λf=>decide (f.1=k))=(atKey xs k).isSome:=by rw[gX,(r.val k).isSome_eq,Option.isSome_map]
 unfold zq storedH;rw[e];by_cases q:(atKey xs k).isSome=true
 ·rw[Eb q,Eb q];exact r.repl k a
 ·rw[Ea q,Ea q];exact Paired.snoc r ⟨rfl,c,a⟩
theorem KT.keeps{H H':Hp}{kvs:List (List Key×V)}{xs:List (List Key×Addr×Value)}(r:KT H kvs xs)(a:∀b ys,H b=some (.tup ys)->H' b=some (.tup ys)):KT H' kvs xs :=
 Paired.mapP r λ_ _ z=>⟨z.1,a _ _ z.2.1,z.2.2⟩
section
variable{P:Program}{w:World}{H:Hp}{h:Heap}{a:Addr}
def Fz(ok:HOk P w H h)(e:Rd H a u):ObjOk P w H h a u:=e.ok ok
theorem V6{kvs:List (Key×V)}(ok:HOk P w H h)(e:Rd H a (.dK kvs)):kvs.length<=sizeLine/\(a==sysModules)=false/\∃vs,KV kvs vs/\h.DictOf (Zz P w) a vs :=
 show ObjOk P w H h a (.dK kvs)from Fz ok e
def V5{kvs:List (Key×V)}(ok:HOk P w H h)(e:H a=some (.dK kvs)):kvs.length<=sizeLine/\(a==sysModules)=false/\∃vs,KV kvs vs/\h.DictOf (Zz P w) a vs:=V6 ok (.inl e)
theorem yG{ks:List Key}(ok:HOk P w H h)(e:H a=some (.tup (ks.map kV))):(tupleKind (Zz P w)).is h ks a:=by obtain⟨_,b,r,o,h1,h2,n,h3⟩:=(show ObjOk P w H h a (.tup (ks.map kV))from ok a _ e);exact⟨o,b.toArray,n,h1,h2,h3,by simpa using K7 r⟩
theorem K1{kvs:List (List Key×V)}(ok:HOk P w H h)(e:Rd H a (.dT kvs)):kvs.length<=sizeLine/\(a==sysModules)=false /\
    ∃xs,KT H kvs xs/\h.DictOfH (tupleKind (Zz P w)) a xs:=by
  obtain⟨z,y,xs,r,o,es,ep,h1,h2,h3,h4,h5⟩:=(show ObjOk P w H h a (.dT kvs)from Fz ok e);refine⟨z,y,xs,r,o,es,ep,h1,h2,h3,h4,λx hx=>?_,h5⟩;have all:∀{l:List (List Key×V)}{m:List (List Key×Addr×Value)},KT H l m->∀x∈m,(tupleKind (Zz P w)).is h x.1 x.2.1:=by
    intro l m q;induction q with
    |nil=>intro x hx;exact nomatch hx
    |@cons p q ps f b t c =>
      intro x hx;rcases Bk.mp hx with e|hx
      . subst e
        exact yG ok (by rw[<- b.1];exact b.2.1)
      . exact c x hx
  exact all r x hx
theorem XD{kvs:List (List Key×V)}(ok:HOk P w H h)(e:H a=some (.dT kvs)):kvs.length<=sizeLine/\(a==sysModules)=false /\
  ∃xs,KT H kvs xs/\h.DictOfH (tupleKind (Zz P w)) a xs:=K1 ok (.inl e)
end
def DGet(H:Hp)(a:Addr)(y:V)(r:Option V):Prop :=
 (∃kvs k,Rd H a (.dK kvs)/\y=kV k/\r=XJ kvs k)∨∃kvs k b,Rd H a (.dT kvs)/\y=.ref b/\H b=some (.tup (k.map kV))/\r=XJ kvs k
def DPut(H:Hp)(a:Addr)(y v:V)(c:Hp):Prop :=
 (∃kvs k,H a=some (.dK kvs)/\y=kV k/\kvs.length<sizeLine/\c=upd H a (.dK (zq kvs k v))) ∨
 ∃kvs k b,H a=some (.dT kvs)/\y=.ref b/\H b=some (.tup (k.map kV))/\kvs.length<sizeLine/\c=upd H a (.dT (zq kvs k v))
def DGet.k{H:Hp}{a:Addr}{kvs:List (Key×V)}{k:Key}(e:H a=some (.dK kvs)):DGet H a (kV k) (XJ kvs k):=.inl ⟨kvs,k,.inl e,rfl,rfl⟩
def DPut.k{H:Hp}{a:Addr}{kvs:List (Key×V)}{k:Key}{v:V}(e:H a=some (.dK kvs))(b:kvs.length<sizeLine):DPut H a (kV k) v (upd H a (.dK (zq kvs k v))):=.inl ⟨kvs,k,e,rfl,b,rfl⟩
section
variable{X:Cx}{O9:Ek}{σ:St}{H:Hp}{s:Shared}{a:Addr}{y v:V}{u r:Value}{o:Option V}{A:Around}{E:Ej}
theorem Inv.big(I:Inv X O9 σ H s):sysModules<s.heap.objs.size:=by have h:mainGlobals<s.heap.objs.size:=(I.mod.glob.keeps I.bk).lt;exact Nat.lt_trans (by decide) h
theorem Qb4{Q:Ej}(t:A.units+1<cLine)(I:Inv X O9 σ H s)(g:DGet H a y (some v))(n:RelV y u)(h:∀w' s',Inv X O9 σ H s'->RelV v w'->Q w' s'):
  wpAny (model X.prog X.w) A (getItem (.ref a) u) Q E s:=by
 rcases g with ⟨kvs,k,e,j,l⟩|⟨kvs,k,b,e,j,q,l⟩
 ·subst j;obtain⟨z,hd,vs,c,i⟩:=V6 I.hok e;obtain⟨w',hw,f⟩:=RelO.some_of (v:=v) (o:=valueAt vs k) (by rw[l];exact c.val k);exact wpAny_getItem_of (jH n) i.mapOf hw (h w' _ (I.tok _) f)
 ·subst j;cases (show u=Value.ref b from n);obtain⟨z,hd,xs,c,i⟩:=K1 I.hok e;obtain⟨w',hw,f⟩:=RelO.some_of (v:=v) (o:=(atKey xs k).map (·.2)) (by rw[l];exact c.val k);obtain⟨p,U,m⟩:=Cg.mp hw;refine wpAny_getItem_heap (tupleKind_room_in1 t) (yG I.hok q) i U ?_;rw[m];exact h w' _ (I.tok _) f
theorem Tg{Q:Ej}(n:A.units+1<cLine)(I:Inv X O9 σ H s)(g:DGet H a y o)(j:RelV y u)(h:∀s',Inv X O9 σ H s'->Q (.bool o.isSome) s'):
  wpAny (model X.prog X.w) A (compareOp .In u (.ref a)) Q E s:=by
 rcases g with ⟨kvs,k,e,i,l⟩|⟨kvs,k,b,e,i,m,l⟩
 ·subst i;obtain⟨z,hd,vs,c,f⟩:=V6 I.hok e;refine wpAny_in_of (jH j) hd f.mapOf ?_;rw[<- (c.val k).isSome_eq,<- l];exact h _ (I.tok _)
 ·subst i;cases (show u=Value.ref b from j);obtain⟨z,hd,xs,c,f⟩:=K1 I.hok e;refine wpAny_in_heap (tupleKind_room_in1 n) (yG I.hok m) hd f ?_;have q:=(c.val k).isSome_eq;rw[Option.isSome_map]at q;rw[<- q,<- l];exact h _ (I.tok _)
theorem xD{h':Heap}{t':Nat}(I:Inv X O9 σ H s)(mu:Mut (H a))(hs:Heap.SameBut a s.heap h')(he:∃q,h'.get? a=some q)(new:ObjOk X.prog X.w (upd H a ob) h' a ob):
  Inv X O9 σ (upd H a ob) { s with heap:=h',toks:=t' } :=
 I.write (x:=a) (e:=a) mu (.inl rfl) (λb q c z=>(hs.2 b c).trans z) he new
theorem GV{w:World}{c:Hp}{h':Heap}{kvs:List (Key×V)}{vs:List (Key×Value)}(z:kvs.length<=sizeLine)(hd:(a==sysModules)=false)(b:KV kvs vs)(e:h'.DictOf (Zz P w) a vs):
  ObjOk P w c h' a (.dK kvs):=⟨z,hd,vs,b,e⟩
theorem Qb5{Q:Unit->Shared->Prop}(O:A.units+1<cLine)(I:Inv X O9 σ H s)(g:DPut H a y v H')(L:RelV y u)(J:RelV v r)(h:∀s',Inv X O9 σ H' s'->Q () s'):
  wpAny (model X.prog X.w) A (setItem (.ref a) u r) Q E s:=by
 rcases g with ⟨kvs,k,e,t,l,n⟩|⟨kvs,k,b,e,t,C,l,n⟩
 ·subst t n;obtain⟨z,hd,vs,f,m⟩:=V5 I.hok e;have hz:vs.length<=sizeLine:=by rw[<- f.length];exact z
  have x:(zq kvs k v).length<=sizeLine:=by have:=zP kvs k v;lia
  refine wpAny_setItem_pairs (hsz:=hz) (jH L) m λh' i hs=>h _ ?_;have he:∃q,h'.get? a=some q:=let ⟨q,_,_,j,_⟩:=i;⟨q,j⟩;exact xD I (by rw[e];exact True.intro) hs he (GV x hd (f.put k J) i)
 ·subst t n;cases (show u=Value.ref b from L);obtain⟨z,hd,xs,f,m⟩:=XD I.hok e;have hz:xs.length<=sizeLine:=by rw[<- Paired.length f];exact z
  have x:(zq kvs k v).length<=sizeLine:=by have:=zP kvs k v;lia
  refine wpAny_setItem_heap (hsz:=hz) (tupleKind_room_in1 O) (yG I.hok C) m λh' i hs=>h _ ?_;obtain⟨q,es,ep,j,h2,h3,h4,_,h5⟩:=i;refine xD I (by rw[e];exact True.intro) hs ⟨q,j⟩ ⟨x,hd,_,(f.put k C J).keeps λc ys F=>?_,q,es,ep,j,h2,h3,h4,h5⟩;rw[QO (Wo F e (λz=>nomatch z))];exact F
end
section
variable{X:Cx}{O9:Ek}{σ:St}{H:Hp}{s:Shared}{a:Addr}{kvs:List (Key×V)}{k:Key}{u:Value}{A:Around}{E:Ej}
theorem Qio{Q:Unit->Shared->Prop}(I:Inv X O9 σ H s)(e:H a=some (.dK kvs))(j:RelV (kV k) u)(l:(XJ kvs k).isSome=true)(h:∀s',Inv X O9 σ (upd H a (.dK (xE kvs k))) s'->Q () s'):
  wpAny (model X.prog X.w) A (delItem (.ref a) u) Q E s:=by
 obtain⟨z,hd,vs,b,f⟩:=V5 I.hok e;refine wpAny_delItem_slot f.typeIs (by decide) PySem.F.slot_dict_delitem
  (call_meetsIn PySem.F.slot_dict_delitem f.typeIs PySem.F.entry_dict_delitem (PySem.F.args_dict_delitem_2 _ _) (meets_dict_delitem_pairs (Zz X.prog X.w) a (jH j)) ⟨vs,f,by rw[<- b.length];exact z,by rw[<- (b.val k).isSome_eq];exact l,λh' c hs=>h _ ?_⟩)
 have he:∃q,h'.get? a=some q:=let ⟨q,_,_,i,_⟩:=c;⟨q,i⟩;exact xD I (by rw[e];exact True.intro) hs he (GV (Bj (uy kvs k) z) hd (b.drop k) c)
theorem Fj{more:List Value}{Q:Ej}(I:Inv X O9 σ H s)(e:H a=some (.dK kvs))(j:RelV (kV k) u)(l:XJ kvs k=some v)(n:more=[]∨∃x,more=[x])
  (h:∀w' s',Inv X O9 σ (upd H a (.dK (xE kvs k))) s'->RelV v w'->Q w' s'):wpAny (model X.prog X.w) A (call (.builtin "dict.pop") (.ref a::u::more)) Q E s:=by
 obtain⟨z,hd,vs,b,m⟩:=V5 I.hok e;obtain⟨w',hw,f⟩:=RelO.some_of (v:=v) (o:=valueAt vs k) (by rw[<- l];exact b.val k);have U:(keyPart u).isSome=true:=by
  cases k with
  |inl i=>obtain⟨t,q⟩:=(show ∃t,u=Value.int i t from j);subst q;rfl
  |inr x=>obtain⟨t,q⟩:=(show ∃t,u=Value.str x t from j);subst q;rfl
 have r:argsOk "dict.pop" ⟨.ref a::u::more,[]⟩:=by
  rcases n with q|⟨x,q⟩
  ·subst q;exact PySem.F.args_dict_pop_2 _ _
  ·subst q;exact PySem.F.args_dict_pop_3 _ _ _
 refine call_meetsIn PySem.F.slot_dict_pop m.typeIs PySem.F.entry_dict_pop r (meets_dict_pop_there (Zz X.prog X.w) a (jH j) more n U)
  ⟨vs,w',m,by rw[<- b.length];exact z,hw,λh' c hs=>h w' _ ?_ f⟩
 have he:∃q,h'.get? a=some q:=let ⟨q,_,_,y,_⟩:=c;⟨q,y⟩;exact xD I (by rw[e];exact True.intro) hs he (GV (Bj (uy kvs k) z) hd (b.drop k) c)
theorem HQ{Q:Ej}(I:Inv X O9 σ H s)(e:H a=some (.dK kvs))(c:RelV (kV k) u)(l:XJ kvs k=none)(h:∀s',Inv X O9 σ H s'->Q r s'):
  wpAny (model X.prog X.w) A (call (.builtin "dict.pop") [.ref a,u,r]) Q E s:=by
 obtain⟨z,hd,vs,b,f⟩:=V5 I.hok e;have j:valueAt vs k=none:=RelO.none_of (by rw[<- l];exact b.val k);have U:(keyPart u).isSome=true:=by
  cases k with
  |inl i=>obtain⟨t,q⟩:=(show ∃t,u=Value.int i t from c);subst q;rfl
  |inr x=>obtain⟨t,q⟩:=(show ∃t,u=Value.str x t from c);subst q;rfl
 exact call_meetsIn PySem.F.slot_dict_pop f.typeIs PySem.F.entry_dict_pop (PySem.F.args_dict_pop_3 _ _ _) (meets_dict_pop_default (Zz X.prog X.w) a (jH c) hd U r) ⟨vs,f,j,h _ (I.tok _)⟩
theorem T5{Q:Ej}(I:Inv X O9 σ H s)(e:Rd H a (.dK kvs))(h:∀t s',Inv X O9 σ H s'->Q (.int kvs.length t) s'):wpAny (model X.prog X.w) A (call (.builtin "len") [.ref a]) Q E s:=by obtain⟨z,hd,vs,b,c⟩:=V6 I.hok e;refine call_len_dict hd c (by rw[<- b.length];rw[sizeLine_eq]at z;lia) ?_;rw[<- b.length];exact h _ _ (I.tok _)
end
theorem uv{s:Shared}{a:Addr}{o:Option V}(I:Inv X O9 σ H s)(g:DGet H a y o):s.TypeIs (.ref a) "dict" := by
 rcases g with ⟨kvs,k,e,_,_⟩|⟨kvs,k,b,e,_,_,_⟩
 ·obtain⟨_,_,vs,_,c⟩:=V6 I.hok e;exact c.typeIs
 ·obtain⟨_,_,xs,_,c⟩:=K1 I.hok e;exact c.typeIs
section
variable{X:Cx}{o i e value:Expr}{pos pos' tpos:Pos}{td ty tv:TE}
end
theorem ux{w:World}(h:Heap)(a:sysModules<h.objs.size):ObjOk P w H (h.push { cls:=.type "dict", data:=.dict #[] }) h.objs.size (.dK []) :=
 ⟨Be _,beq_eq_false_iff_ne.mpr (Ne.symm (Bf a)),[],.nil,Heap.DictOf.new h⟩
section
variable{X:Cx}{pos:Pos}
end
def vJ:List (TE×TE)->St->Hp->(List (V×V)->Hp->Prop)->Prop
 | [],_,H,Q=>Q [] H
 | (a,b)::r,σ,H,Q=>a σ H λx H1=>b σ H1 λy H2=>vJ r σ H2 λps H3=>Q ((x,y)::ps) H3
abbrev VV:List (V×V)->List (Value×Value)->Prop:=Paired λp q=>RelV p.1 q.1/\RelV p.2 q.2
def PPs(X:Cx)(pos:Pos)(keys:List (Option Expr))(values:List Expr)(a:List (TE×TE)):Prop :=
  ∀(O9 : List (Addr × Obj))(s : Shared)(σ : St)(H : Hp)(Q : List (V × V) -> Hp -> Prop), Inv X O9 σ H s -> vJ a σ H Q ->
    wpAny (model X.prog X.w) X.A (evalPairs (pairTrees keys values X.env pos)) (λvs s'=>∃ps H',Inv X O9 σ H' s'/\VV ps vs/\Q ps H') X.xe s
def RA:PPs X pos [] [] []:=λa s σ H Q I h=>pairTrees_nil_walk ⟨[],H,I,.nil,h⟩
theorem SY{ks:List (Option Expr)}{vs:List Expr}{a:List (TE×TE)}(c:PE X k tk)(f:PE X v tv)(e:PPs X pos ks vs a):
  PPs X pos (some k::ks) (v::vs) ((tk,tv)::a):=λb s σ H Q I h =>
 pairTrees_cons_walk (thn (c b s σ H _ I h) λu i ⟨x,H1,I1,rx,q1⟩=>thn (f b i σ H1 _ I1 q1) λm j ⟨y,H2,I2,ry,q2⟩ =>
  thn (e b j σ H2 _ I2 q2) λws l ⟨ps,H3,I3,rel,q3⟩=>⟨(x,y)::ps,H3,I3,.cons ⟨rx,ry⟩ rel,q3⟩)
def X8(kvs more:List (Key×V)):List (Key×V):=more.foldl (λacc a=>zq acc a.1 a.2) kvs
theorem KV.merge:∀{more:List (Key×V)}{a:List (Key×Value)}{kvs:List (Key×V)}{vs:List (Key×Value)},KV more a->KV kvs vs->KV (X8 kvs more) (merged vs a):=by
  intro more a kvs vs r;unfold KV at r;induction r generalizing kvs vs with
  |nil=>intro q;exact q
  |@cons p q ps f h t b =>
    intro c;have e:KV (zq kvs p.1 p.2) (stored vs q.1 q.2):=by have:=c.put p.1 h.2;rw[<- h.1];exact this
    exact b e
theorem jK:∀(more kvs:List (Key×V)),(X8 kvs more).length<=kvs.length+more.length
  | [],kvs=>by show kvs.length<=kvs.length+0;lia
  |p::r,kvs=>by have h1:=jK r (zq kvs p.1 p.2);have h2:=zP kvs p.1 p.2;show(X8 (zq kvs p.1 p.2) r).length<=_;rw[Ba];lia
theorem V1{w:World}:∀{kvs:List (Key×V)}{ws:List (Value×Value)},VV (kvs.map λf=>(kV f.1,f.2)) ws->∃e,Carries (Zz P w) ws e/\KV kvs e
  | [],_,r=>by rw[List.map_nil]at r;cases r;exact⟨[],True.intro,.nil⟩
  |p::kvs,_,r=>by
    rw[Bb]at r;cases r with
    |@cons a b j bs h t=>obtain⟨e,c,q⟩:=V1 (P:=P) (w:=w) t;obtain⟨l,i⟩:=b;exact⟨(p.1,i)::e,⟨jH h.1,rfl,c⟩,.cons ⟨rfl,h.2⟩ q⟩
section
variable{X:Cx}{O9:Ek}{σ:St}{H:Hp}{s:Shared}{a:Addr}{y d:V}{u r:Value}{o:Option V}{A:Around}{E:Ej}
theorem HU{Q:Ej}(n:A.units+1<cLine)(I:Inv X O9 σ H s)(g:DGet H a y o)(j:RelV y u)(h:∀w' s',Inv X O9 σ H s'->RelV (o.getD .non) w'->Q w' s'):
  wpAny (model X.prog X.w) A (call (.builtin "dict.get") [.ref a,u]) Q E s:=by
 rcases g with ⟨kvs,k,e,i,l⟩|⟨kvs,k,b,e,i,m,l⟩
 ·subst i;obtain⟨z,hd,vs,c,f⟩:=V6 I.hok e;refine call_meetsIn PySem.F.slot_dict_get f.typeIs PySem.F.entry_dict_get (PySem.F.args_dict_get_2 _ _) (meets_dict_get (Zz X.prog X.w) a (jH j) hd) ⟨_,f.mapOf,h _ _ (I.tok _) ?_⟩;rw[l];exact(c.val k).getD rfl
 ·subst i;cases (show u=Value.ref b from j);obtain⟨z,hd,xs,c,f⟩:=K1 I.hok e;refine call_meetsIn PySem.F.slot_dict_get f.typeIs PySem.F.entry_dict_get (PySem.F.args_dict_get_2 _ _) (meetsH_dict_get (tupleKind (Zz X.prog X.w)) a b hd) ⟨tupleKind_room_in1 n,k,xs,yG I.hok m,f,h _ _ (I.tok _) ?_⟩;rw[l];exact(c.val k).getD rfl
theorem HR{Q:Ej}(n:A.units+1<cLine)(I:Inv X O9 σ H s)(g:DGet H a y o)(j:RelV y u)(rd:RelV d r)(h:∀w' s',Inv X O9 σ H s'->RelV (o.getD d) w'->Q w' s'):
  wpAny (model X.prog X.w) A (call (.builtin "dict.get") [.ref a,u,r]) Q E s:=by
 rcases g with ⟨kvs,k,e,i,l⟩|⟨kvs,k,b,e,i,m,l⟩
 ·subst i;obtain⟨z,hd,vs,c,f⟩:=V6 I.hok e;refine call_meetsIn PySem.F.slot_dict_get f.typeIs PySem.F.entry_dict_get (PySem.F.args_dict_get_3 _ _ _) (meets_dict_get_default (Zz X.prog X.w) a (jH j) hd r) ⟨_,f.mapOf,h _ _ (I.tok _) ?_⟩;rw[l];exact(c.val k).getD rd
 ·subst i;cases (show u=Value.ref b from j);obtain⟨z,hd,xs,c,f⟩:=K1 I.hok e;refine call_meetsIn PySem.F.slot_dict_get f.typeIs PySem.F.entry_dict_get (PySem.F.args_dict_get_3 _ _ _) (meetsH_dict_get_default (tupleKind (Zz X.prog X.w)) a b hd r) ⟨tupleKind_room_in1 n,k,xs,yG I.hok m,f,h _ _ (I.tok _) ?_⟩;rw[l];exact(c.val k).getD rd
end
section
variable{X:Cx}{o e f:Expr}{apos cpos:Pos}{td ty tx:TE}
end
section
variable{X:Cx}{O9:Ek}{σ:St}{H:Hp}{s:Shared}{a:Addr}{kvs:List (Key×V)}{A:Around}{E:Ej}
end
section
variable{X:Cx}{O9:Ek}{σ:St}{H:Hp}{s:Shared}{a:Addr}{y:V}{u:Value}{A:Around}{E:Ej}
end
section
variable{X:Cx}
theorem QbZ:CallR X (.builtin "len") (λxs H Q=>∃a kvs,xs=[V.ref a]/\H a=some (.dK kvs)/\Q (.int kvs.length) H):=by intro f s σ H xs us Q I r h;obtain⟨a,kvs,rfl,c,q⟩:=h;obtain⟨u,rfl,e⟩:=Kf r;cases e;exact T5 I (.inl c) λt s' b=>⟨.int kvs.length,H,b,⟨t,rfl⟩,q⟩
end
section
variable{κ:Type}[DecidableEq κ]
end
end L2
namespace D
open PySem PySem.Spec PyProof.Rows L2
abbrev St:=L2.St
inductive DV where
 |non|bl (b:Bool)|int (i:Int)|str (x:Str)|tup (xs:List DV)|lst (xs:List DV)|ref (i:Nat)
inductive OV where
 |lst (xs:List DV)
 |aB (kvs:List (Key×DV))
 |ins (c:Str) (fs:List (Str×DV))
abbrev Hs:=List OV
abbrev M:=StateT Hs Option
abbrev Eu:=List DV->M DV
mutual
def au(K:Aa)(ρ:Et)(B:Er)(H:Hp):DV->V->Prop
 |.non,v=>v=.non
 |.bl b,v=>v=.bl b
 |.int i,v=>v=.int i
 |.str x,v=>v=.str x
 |.tup ds,v=>∃a xs,v=.ref a/\¬ B a/\SqT K H a xs/\ak K ρ B H ds xs
 |.lst ds,v=>∃a xs,v=.ref a/\¬ B a/\SqL K H a xs/\ak K ρ B H ds xs
 |.ref i,v=>∃a,v=.ref a/\ρ[i]?=some a
def ak(K:Aa)(ρ:Et)(B:Er)(H:Hp):List DV->List V->Prop
 | [],xs=>xs=[]
 |d::ds,xs=>∃x r,xs=x::r/\au K ρ B H d x/\ak K ρ B H ds r
end
def bf(K:Aa)(ρ:Et)(B:Er)(H:Hp)(a:Addr):OV->Prop
 |.lst ds=>∃xs,H a=some (.lst xs)/\ak K ρ B H ds xs
 |.aB kvs=>∃xs:List (Key×V),H a=some (.dK xs)/\xs.map (·.1)=kvs.map (·.1)/\ak K ρ B H (kvs.map (·.2)) (xs.map (·.2))
 |.ins c fs=>∃(C b:Addr)(xs:List (Str×V)),PySem.W.nsIn K mainGlobals c=some (some (.ref C))/\H a=some (.ins C b xs)/\xs.map (·.1)=fs.map (·.1)/\ak K ρ B H (fs.map (·.2)) (xs.map (·.2))
structure Gr(K:Aa)(ρ:Et)(B:Er)(H:Hp)(ρ':Et)(B':Er)(H':Hp):Prop where
 pre:ρ <+: ρ'
 ban:∀a,B a->B' a
 new:∀a,B' a->B a∨(H a=none/\K.lookup a=none)
 bU:∀a∈ρ',a∈ρ∨H a=none
 keep:∀a o,a∉ρ->H a=some o->H' a=some o
 trk:∀a,H' a=none->H a=none
structure aM(K:Aa)(ρ:Et)(B:Er)(U:Hs)(H:Hp):Prop where
 len:ρ.length=U.length
 nd:ρ.Nodup
 obj:∀(i:Nat)(a:Addr)(o:OV),ρ[i]?=some a->U[i]?=some o->bf K ρ B H a o
 rb:∀a∈ρ,B a
 bt:∀a,B a->H a≠none
 bk:∀a,B a->K.lookup a=none
section
variable{K:Aa}{ρ ρ' ρ'':Et}{B B' B'':Er}{H H' sG:Hp}
def Gr.refl:Gr K ρ B H ρ B H:=⟨Cm,λ_ h=>h,λ_ h=>.inl h,λ_ h=>.inl h,λ_ _ _ h=>h,λ_ h=>h⟩
theorem Gr.trans(a:Gr K ρ B H ρ' B' H')(b:Gr K ρ' B' H' ρ'' B'' sG):Gr K ρ B H ρ'' B'' sG where
 pre:=a.pre.trans b.pre
 ban:=λx h=>b.ban x (a.ban x h)
 new:=λx h=>(b.new x h).elim (a.new x) λz=>.inr ⟨a.trk x z.1,z.2⟩
 bU:=λx h=>(b.bU x h).elim (a.bU x) λz=>.inr (a.trk x z)
 keep:=λx o c h=>b.keep x o (λz=>(a.bU x z).elim c (λz=>by rw[h]at z;cases z)) (a.keep x o c h)
 trk:=λx h=>a.trk x (b.trk x h)
structure Gs(K:Aa)(ρ:Et)(B:Er)(H:Hp)(ρ':Et)(B':Er)(H':Hp):Prop where
 pre:ρ <+: ρ'
 new:∀a,B' a->B a∨(H a=none/\K.lookup a=none)
 keep:∀a o,¬ B a->H a=some o->H' a=some o
 trk:∀a,H' a=none->H a=none
def Gr.gs(rb:∀a∈ρ,B a)(g:Gr K ρ B H ρ' B' H'):Gs K ρ B H ρ' B' H':=⟨g.pre,g.new,λa o nb h=>g.keep a o (λz=>nb (rb a z)) h,g.trk⟩
def Gs.refl:Gs K ρ B H ρ B H:=⟨Cm,λ_ h=>.inl h,λ_ _ _ h=>h,λ_ h=>h⟩
theorem Gs.trans(a:Gs K ρ B H ρ' B' H')(b:Gs K ρ' B' H' ρ'' B'' sG):Gs K ρ B H ρ'' B'' sG where
 pre:=a.pre.trans b.pre
 new:=λx h=>(b.new x h).elim (a.new x) λz=>.inr ⟨a.trk x z.1,z.2⟩
 keep:=λx o nb h=>b.keep x o (λz=>(a.new x z).elim nb λq=>by rw[h]at q;cases q.1) (a.keep x o nb h)
 trk:=λx h=>a.trk x (b.trk x h)
theorem SqT.trk{a:Addr}(h:SqT K H a xs):H a≠none∨∃o,K.lookup a=some o:=by
 rcases h with (h|⟨o,h⟩)|⟨o,_,_,h,_⟩
 ·exact .inl (by rw[h];simp)
 ·exact .inl (by rw[h];simp)
 ·exact .inr ⟨o,h⟩
theorem SqL.trk{a:Addr}(h:SqL K H a xs):H a≠none∨∃o,K.lookup a=some o:=by
 rcases h with (h|⟨o,h⟩)|⟨o,_,_,h,_⟩
 ·exact .inl (by rw[h];simp)
 ·exact .inl (by rw[h];simp)
 ·exact .inr ⟨o,h⟩
theorem Gs.ok{a:Addr}(g:Gs K ρ B H ρ' B' H')(b:¬ B a)(t:H a≠none∨∃o,K.lookup a=some o):¬ B' a:=λz =>
 (g.new a z).elim b λ⟨n,k⟩=>t.elim (λq=>q n) λ⟨o,q⟩=>by rw[k]at q;cases q
theorem Gs.pQ{a:Addr}(g:Gs K ρ B H ρ' B' H')(b:¬ B a)(h:SqT K H a xs):SqT K H' a xs:=by
 rcases h with (h|⟨o,h⟩)|h
 ·exact .inl (.inl (g.keep _ _ b h))
 ·exact .inl (.inr ⟨o,g.keep _ _ b h⟩)
 ·exact .inr h
theorem Gs.BW{a:Addr}(g:Gs K ρ B H ρ' B' H')(b:¬ B a)(h:SqL K H a xs):SqL K H' a xs:=by
 rcases h with (h|⟨o,h⟩)|h
 ·exact .inl (.inl (g.keep _ _ b h))
 ·exact .inl (.inr ⟨o,g.keep _ _ b h⟩)
 ·exact .inr h
theorem Iw{i:Nat}{a:Addr}(p:ρ <+: ρ')(h:ρ[i]?=some a):ρ'[i]?=some a:=by obtain⟨t,rfl⟩:=p;rw[Ah (Ac.mp h).1];exact h
mutual
theorem au.gs(g:Gs K ρ B H ρ' B' H'):∀(d:DV)(v:V),au K ρ B H d v->au K ρ' B' H' d v
  |.non,_,h=>by unfold au at h ⊢;exact h
  |.bl _,_,h=>by unfold au at h ⊢;exact h
  |.int _,_,h=>by unfold au at h ⊢;exact h
  |.str _,_,h=>by unfold au at h ⊢;exact h
  |.ref _,_,h=>by unfold au at h ⊢;obtain⟨a,e,h⟩:=h;exact⟨a,e,Iw g.pre h⟩
  |.tup ds,_,h=>by unfold au at h ⊢;obtain⟨a,xs,e,nb,b,c⟩:=h;exact⟨a,xs,e,g.ok nb (SqT.trk b),g.pQ nb b,ak.gs g ds xs c⟩
  |.lst ds,_,h=>by unfold au at h ⊢;obtain⟨a,xs,e,nb,b,c⟩:=h;exact⟨a,xs,e,g.ok nb (SqL.trk b),g.BW nb b,ak.gs g ds xs c⟩
theorem ak.gs(g:Gs K ρ B H ρ' B' H'):∀(ds:List DV)(xs:List V),ak K ρ B H ds xs->ak K ρ' B' H' ds xs
  | [],_,h=>by unfold ak at h ⊢;exact h
  |d::ds,_,h=>by unfold ak at h ⊢;obtain⟨x,r,e,h1,h2⟩:=h;exact⟨x,r,e,au.gs g d x h1,ak.gs g ds r h2⟩
end
def au.grow(rb:∀a∈ρ,B a)(g:Gr K ρ B H ρ' B' H')(d:DV)(v:V)(h:au K ρ B H d v):au K ρ' B' H' d v:=au.gs (g.gs rb) d v h
def ak.grow(rb:∀a∈ρ,B a)(g:Gr K ρ B H ρ' B' H')(ds:List DV)(xs:List V)(h:ak K ρ B H ds xs):ak K ρ' B' H' ds xs:=ak.gs (g.gs rb) ds xs h
theorem ak.length:∀{ds:List DV}{xs:List V},ak K ρ B H ds xs->ds.length=xs.length
  | [],_,h=>by unfold ak at h;subst h;rfl
  |d::ds,_,h=>by unfold ak at h;obtain⟨x,r,rfl,_,h2⟩:=h;simp[ak.length h2]
theorem ak.get:∀{ds:List DV}{xs:List V}{i:Nat}{d:DV},ak K ρ B H ds xs->ds[i]?=some d->∃x,xs[i]?=some x/\au K ρ B H d x
  | [],_,_,_,_,e=>by simp at e
  |d::ds,_,0,_,h,e=>by unfold ak at h;obtain⟨x,r,rfl,h1,_⟩:=h;simp at e;subst e;exact⟨x,rfl,h1⟩
  |d::ds,_,i+1,_,h,e=>by unfold ak at h;obtain⟨x,r,rfl,_,h2⟩:=h;obtain⟨y,h3,h4⟩:=ak.get h2 (by simpa using e);exact⟨y,by simpa using h3,h4⟩
theorem ak.nil:ak K ρ B H [] []:=by unfold ak;rfl
theorem ak.cons{d:DV}{x:V}(h:au K ρ B H d x)(t:ak K ρ B H ds xs):ak K ρ B H (d::ds) (x::xs):=by unfold ak;exact⟨x,xs,rfl,h,t⟩
theorem ak.append:∀{ds es:List DV}{xs ys:List V},ak K ρ B H ds xs->ak K ρ B H es ys->ak K ρ B H (ds++es) (xs++ys)
  | [],_,_,_,h,t=>by unfold ak at h;subst h;exact t
  |d::ds,_,_,_,h,t=>by unfold ak at h;obtain⟨x,r,rfl,h1,h2⟩:=h;exact ak.cons h1 (ak.append h2 t)
def ak.one(h:au K ρ B H d x):ak K ρ B H [d] [x]:=ak.cons h ak.nil
theorem ak.take:∀(n:Nat){ds:List DV}{xs:List V},ak K ρ B H ds xs->ak K ρ B H (ds.take n) (xs.take n)
  |0,_,_,_=>by simp;exact ak.nil
  |_+1,[],_,h=>by unfold ak at h;subst h;simp;exact ak.nil
  |n+1,d::ds,_,h=>by unfold ak at h;obtain⟨x,r,rfl,h1,h2⟩:=h;exact ak.cons h1 (ak.take n h2)
theorem ak.drop:∀(n:Nat){ds:List DV}{xs:List V},ak K ρ B H ds xs->ak K ρ B H (ds.drop n) (xs.drop n)
  |0,_,_,h=>h
  |_+1,[],_,h=>by unfold ak at h;subst h;simp;exact ak.nil
  |n+1,d::ds,_,h=>by unfold ak at h;obtain⟨x,r,rfl,h1,h2⟩:=h;exact ak.drop n h2
theorem Gr.laid{p:Addr}(h:H p=none):Gr K ρ B H ρ B (upd H p o) where
 pre:=Cm
 ban:=λ_ h=>h
 new:=λ_ h=>.inl h
 bU:=λ_ h=>.inl h
 keep:=λa u _ q=>by rw[QO (ZJ q h)];exact q
 trk:=λa q=>by
  by_cases e:a=p
  ·subst e;rw[Q3]at q;cases q
  ·rw[QO e]at q;exact q
theorem bf.gs{a:Addr}(g:Gs K ρ B H ρ' B' H')(i:H' a=H a)(h:bf K ρ B H a o):bf K ρ' B' H' a o:=by
  cases o with
  |lst ds=>obtain⟨xs,e,b⟩:=h;exact⟨xs,i.trans e,ak.gs g _ _ b⟩
  |aB kvs=>obtain⟨xs,e,f,b⟩:=h;exact⟨xs,i.trans e,f,ak.gs g _ _ b⟩
  |ins c fs=>obtain⟨C,j,xs,l,e,f,b⟩:=h;exact⟨C,j,xs,l,i.trans e,f,ak.gs g _ _ b⟩
theorem aM.laid{p:Addr}(W:aM K ρ B U H)(h:H p=none):aM K ρ B U (upd H p o) where
 len:=W.len
 nd:=W.nd
 obj:=λi a u e q=>bf.gs ((Gr.laid h).gs W.rb) (by have b:=W.bt a (W.rb a (Aw e));exact QO (λz=>b (z▸h))) (W.obj i a u e q)
 rb:=W.rb
 bt:=λa z q=>W.bt a z ((Gr.laid (K:=K) (ρ:=ρ) (B:=B) h).trk a q)
 bk:=W.bk
end
inductive Sl where
 |un|val (d:DV)|acc (ds:List DV)
abbrev En:=List Sl
structure Ent where
 ρ:List Addr
 B:Addr->Prop
 H:Hp
structure bM(K:Aa)(Z:Ent)(env:En)(σ:St)(ρ:Et)(B:Er)(U:Hs)(H:Hp):Prop where
 gr:Gr K Z.ρ Z.B Z.H ρ B H
 zb:∀a,Z.B a->Z.H a≠none
 wo:aM K ρ B U H
 slot:∀(i:Nat)(d:DV),env[i]?=some (.val d)->∃v,σ[i]?=some (some v)/\au K ρ B H d v
 lQ:∀(i:Nat)(ds:List DV),env[i]?=some (.acc ds)->∃a xs,σ[i]?=some (some (.ref a))/\H a=some (.lst xs)/\Z.H a=none/\B a/\a∉ρ/\ak K ρ B H ds xs
 lO:∀(i j:Nat)(ds es:List DV)(a:Addr),env[i]?=some (.acc ds)->env[j]?=some (.acc es)->σ[i]?=some (some (.ref a))->σ[j]?=some (some (.ref a))->i=j
 len:σ.length=env.length
theorem bM.grow{K:Aa}{Z:Ent}(S:bM K Z env σ ρ B U H)(g:Gr K ρ B H ρ' B' H')(W:aM K ρ' B' hp' H'):bM K Z env σ ρ' B' hp' H' where
 gr:=S.gr.trans g
 zb:=S.zb
 wo:=W
 slot:=λi d e=>let ⟨v,h1,h2⟩:=S.slot i d e;⟨v,h1,au.grow S.wo.rb g d v h2⟩
 lQ:=λi ds e=>by
  obtain⟨a,xs,h1,h2,h3,h4,h5,b⟩:=S.lQ i ds e;refine⟨a,xs,h1,g.keep a _ h5 h2,h3,g.ban a h4,λz=>?_,ak.grow S.wo.rb g ds xs b⟩;rcases g.bU a z with q|q
  ·exact h5 q
  ·rw[h2]at q;cases q
 lO:=S.lO
 len:=S.len
abbrev aF:=En->M DV
abbrev bO:=En->M Bool
abbrev cu:=En->M (List DV)
inductive Fl where
 |nx|rt (d:DV)|bk|ct
abbrev aD:=En->M (Fl×En)
def iG(K:Aa)(ρ:Et)(B:Er)(H:Hp)(d:DV)(a:Hs)(Q:VK):Prop :=
 ∀v ρ' B' H',Gr K ρ B H ρ' B' H'->aM K ρ' B' a H'->au K ρ' B' H' d v->Q v H'
def DY(K:Aa)(ρ:Et)(B:Er)(H:Hp)(a:Hs)(Q:Hp->Prop):Prop :=
 ∀ρ' B' H',Gr K ρ B H ρ' B' H'->aM K ρ' B' a H'->Q H'
def Tp(K:Aa)(ρ:Et)(B:Er)(H:Hp)(ds:List DV)(a:Hs)(Q:List V->Hp->Prop):Prop :=
 ∀vs ρ' B' H',Gr K ρ B H ρ' B' H'->aM K ρ' B' a H'->ak K ρ' B' H' ds vs->Q vs H'
def tD(K:Aa)(f:aF):TE:=λσ H Q=>∃Z env ρ B U d a,bM K Z env σ ρ B U H/\f env U=some (d,a)/\iG K ρ B H d a Q
def fB(K:Aa)(f:bO):TT:=λσ H Q=>∃Z env ρ B U d a,bM K Z env σ ρ B U H/\f env U=some (d,a)/\DY K ρ B H a (Q d)
def fH(K:Aa)(f:cu):TA:=λσ H Q=>∃Z env ρ B U ds a,bM K Z env σ ρ B U H/\f env U=some (ds,a)/\Tp K ρ B H ds a Q
def DE(X:Cx)(e:Expr)(f:aF):Prop:=PE X e (tD X.K f)
def DT(X:Cx)(e:Expr)(f:bO):Prop:=PT X e (fB X.K f)
def DW(X:Cx)(e:Expr)(f:bO):Prop:=PW X e (fB X.K f)
def DA(X:Cx)(es:List Expr)(f:cu):Prop:=PA X es (fH X.K f)
def lR(K:Aa)(Z:Ent)(ρ:Et)(B:Er)(H:Hp)(c:Fl)(a:En)(b:Hs)(D:GB):Prop :=
  ∀σ' ρ' B' H', Gs K ρ B H ρ' B' H' -> bM K Z a σ' ρ' B' b H' -> match c with
    |.nx=>D.nx σ' H'
    |.bk=>D.bk σ' H'
    |.ct=>D.ct σ' H'
    |.rt d=>∀v,au K ρ' B' H' d v->D.rt v H'
def nu(K:Aa)(f:aD):TS:=λD σ H=>∃Z env ρ B U c a b,bM K Z env σ ρ B U H/\f env U=some ((c,a),b)/\lR K Z ρ B H c a b D
def DS(X:Cx)(st:Stmt)(f:aD):Prop:=PS X st (nu X.K f)
def fY(X:Cx)(st:List Stmt)(f:aD):Prop:=PSs X st (nu X.K f)
section
variable{X:Cx}
def _root_.L2.PE.imp{t t':TE}(h:PE X e t)(i:∀σ H Q,t' σ H Q->t σ H Q):PE X e t':=λa s σ H Q I q=>h a s σ H Q I (i σ H Q q)
def _root_.L2.PT.imp{t t':TT}(h:PT X e t)(i:∀σ H Q,t' σ H Q->t σ H Q):PT X e t':=λa s σ H Q I q=>h a s σ H Q I (i σ H Q q)
def _root_.L2.PW.imp{t t':TT}(h:PW X e t)(i:∀σ H Q,t' σ H Q->t σ H Q):PW X e t':=λa O9 s σ H Q I q=>h a O9 s σ H Q I (i σ H Q q)
def _root_.L2.PA.imp{es:List Expr}{t t':TA}(h:PA X es t)(i:∀σ H Q,t' σ H Q->t σ H Q):PA X es t':=λpos O9 s σ H Q I q=>h pos O9 s σ H Q I (i σ H Q q)
def _root_.L2.PS.imp{st:Stmt}{t t':TS}(h:PS X st t)(i:∀a σ H,t' a σ H->t a σ H):PS X st t':=λb s σ H a I q=>h b s σ H a I (i a σ H q)
def _root_.L2.PSs.imp{st:List Stmt}{t t':TS}(h:PSs X st t)(i:∀a σ H,t' a σ H->t a σ H):PSs X st t':=λb s σ H a I q=>h b s σ H a I (i a σ H q)
def rZ(K:Aa)(H:Hp):Prop:=∀a o,H a=some o->K.lookup a=none
theorem Inv.lY(I:Inv X O9 σ H s):rZ X.K H:=λa o e=>by
  cases q:X.K.lookup a with
  |none=>rfl
  |some ob=>have:=(I.bs a ob (I.ok.mod.kin a ob q)).2;rw[e]at this;cases this
theorem _root_.L2.PE.kf{t:TE}(h:PE X e t):PE X e (λσ H Q=>t σ H λv a=>rZ X.K a->Q v a):=λb s σ H Q I q =>
 thn (h b s σ H _ I q) λu s' ⟨v,a,I',r,z⟩=>⟨v,a,I',r,z (Inv.lY I')⟩
theorem Qf{α β:Type}{f:M α}{g:α->M β}{y:β}(h:(f >>= g) U=some (y,hp')):∃x hp1,f U=some (x,hp1)/\g x hp1=some (y,hp'):=by
 change (f U).bind (λp=>g p.1 p.2)=some (y,hp')at h;cases q:f U with
 |none=>rw[q]at h;cases h
 |some p=>rw[q]at h;exact⟨p.1,p.2,rfl,h⟩
theorem Qk{α:Type}{x y:α}{U a:Hs}(h:(pure x:M α) U=some (y,a)):x=y/\U=a:=by change some (x,U)=some (y,a)at h;cases h;exact⟨rfl,rfl⟩
theorem tD.run{K:Aa}{f:aF}{Z:Ent}{Q:VK}(S:bM K Z env σ ρ B U H)(e:f env U=some (d,hp1))
  (k:∀v ρ' B' H',Gr K ρ B H ρ' B' H'->bM K Z env σ ρ' B' hp1 H'->au K ρ' B' H' d v->Q v H'):tD K f σ H Q :=
 ⟨Z,env,ρ,B,U,d,hp1,S,e,λv ρ' B' H' g W r=>k v ρ' B' H' g (S.grow g W) r⟩
def Qb(i:Nat):aF:=λenv=>match env[i]? with
 |some (.val d)=>pure d
 |_=>failure
def eC(d:DV):aF:=λ_=>pure d
theorem Qb6{i:Nat}{env:En}{U a:Hs}(h:Qb i env U=some (d,a)):env[i]?=some (.val d)/\U=a:=by
  unfold Qb at h;cases q:env[i]? with
  |none=>rw[q]at h;cases h
  |some z =>
    rw[q]at h;cases z with
    |val x=>obtain⟨rfl,rfl⟩:=Qk h;exact⟨rfl,rfl⟩
    |un=>cases h
    |acc _=>cases h
theorem Qa(i:Nat){x:Str}{pos:Pos}(c:X.N[i]?=some x:=by rfl)(h:Vis X.env.scope x:=by first|exact Or.inl rfl|exact Or.inr (Or.inl rfl)|exact Or.inr (Or.inr rfl))(hd:(x==("__debug__" : Str))=false:=by decide)
  (hcd:(x==("__classdict__" : Str))=false:=by decide):DE X (.Name x pos) (Qb i) :=
 (ML c h hd hcd).imp λσ H Q a=>by obtain⟨Z,env,ρ,B,U,d,f,S,e,k⟩:=a;obtain⟨b,rfl⟩:=Qb6 e;obtain⟨v,h1,h2⟩:=S.slot i d b;exact⟨v,h1,k v ρ B H Gr.refl S.wo h2⟩
theorem zC(h:PE X e (tC v))(r:∀K ρ B H,au K ρ B H d v):DE X e (eC d) :=
 h.imp λσ H Q a=>by obtain⟨Z,env,ρ,B,U,d',b,S,e,k⟩:=a;obtain⟨rfl,rfl⟩:=Qk e;exact k v ρ B H Gr.refl S.wo (r _ _ _ _)
theorem Qn{i:Int}{j pos}:DE X (.Constant (.int i) j pos) (eC (.int i)):=zC MU λ_ _ _ _=>by unfold au;rfl
theorem Xe{b:Bool}{j pos}:DE X (.Constant (.bool b) j pos) (eC (.bl b)):=zC WY λ_ _ _ _=>by unfold au;rfl
theorem ZC{j pos}:DE X (.Constant .none j pos) (eC .non):=zC MT λ_ _ _ _=>by unfold au;rfl
theorem QT{x:Str}{j pos}:DE X (.Constant (.str x) j pos) (eC (.str x)):=zC MQ λ_ _ _ _=>by unfold au;rfl
theorem Qe4{x:Str}{i:Int}{t:Tok}{pos:Pos}(a:Gl X x)(b:X.mg x=some (.int i t))(hd:(x==("__debug__" : Str))=false:=by decide):DE X (.Name x pos) (eC (.int i)) :=
 zC (Iz (v:=.int i) a b ⟨t,rfl⟩ hd) λ_ _ _ _=>by unfold au;rfl
def m_(K:Aa)(g:DV->DV->M DV):R2:=λx y H Q=>∃ρ B U b c d a,aM K ρ B U H/\au K ρ B H b x/\au K ρ B H c y/\g b c U=some (d,a)/\iG K ρ B H d a Q
def P2(X:Cx)(f:Value->Value->Sem Value)(g:DV->DV->M DV):Prop:=OpR X f (m_ X.K g)
def Qi(g:DV->DV->M DV)(a b:aF):aF:=λenv=>do let x <- a env;let y <- b env;g x y
variable{a b c:Expr}{fa fb fc:aF}{pos:Pos}
theorem zD{K:Aa}{g:DV->DV->M DV}(h:tD K (Qi g fa fb) σ H Q):tOp (m_ K g) (tD K fa) (tD K fb) σ H Q:=by obtain⟨Z,env,ρ,B,U,d,f,S,e,k⟩:=h;obtain⟨x,hp1,l,m⟩:=Qf e;obtain⟨y,i,n,e4⟩:=Qf m;refine tD.run S l λv ρ1 B1 H1 g1 S1 o=>tD.run S1 n λu ρ2 j H2 g2 S2 q=>?_;exact⟨ρ2,j,i,x,y,d,f,S2.wo,au.grow S1.wo.rb g2 _ _ o,q,e4,λw ρ' B' H' g W r=>k w ρ' B' H' (g1.trans (g2.trans g)) W r⟩
theorem QC{e:Operator}{g:DV->DV->M DV}(j:P2 X (binaryOp e) g)(f:DE X a fa)(i:DE X b fb):DE X (.BinOp a e b pos) (Qi g fa fb) :=
 (WW j f i).imp λ_ _ _ h=>zD h
theorem XG{e:CmpOp}{g:DV->DV->M DV}(l:P2 X (compareOp e) g)(f:DE X a fa)(i:DE X b fb)(j:behindInMarks e b=false):DE X (.Compare a [e] [b] pos) (Qi g fa fb) :=
 (Se l f i j).imp λ_ _ _ h=>zD h
def cP:DV->M Bool
 |.bl b=>pure b
 |_=>failure
def eB(f:aF):bO:=λenv=>do cP (<- f env)
theorem Y6{d:DV}{c:Bool}{U e:Hs}(h:cP d U=some (c,e)):d=.bl c/\U=e:=by
 cases d with
 |bl b=>obtain⟨rfl,rfl⟩:=Qk h;exact⟨rfl,rfl⟩
 |_=>cases h
theorem au.fD{K:Aa}{b:Bool}{v:V}(h:au K ρ B H (.bl b) v):v=.bl b:=by unfold au at h;exact h
theorem au.aZ{K:Aa}{b:Int}{v:V}(h:au K ρ B H (.int b) v):v=.int b:=by unfold au at h;exact h
theorem au.fJ{K:Aa}{b:Str}{v:V}(h:au K ρ B H (.str b) v):v=.str b:=by unfold au at h;exact h
theorem au.eX{K:Aa}{v:V}(h:au K ρ B H .non v):v=.non:=by unfold au at h;exact h
theorem au.tupI{K:Aa}{B:Er}{v:V}(h:au K ρ B H (.tup ds) v):∃a xs,v=.ref a/\¬ B a/\SqT K H a xs/\ak K ρ B H ds xs:=by unfold au at h;exact h
theorem au.bK{K:Aa}{B:Er}{v:V}(h:au K ρ B H (.lst ds) v):∃a xs,v=.ref a/\¬ B a/\SqL K H a xs/\ak K ρ B H ds xs:=by unfold au at h;exact h
theorem au.oJ{K:Aa}{ρ:Et}{i:Nat}{v:V}(h:au K ρ B H (.ref i) v):∃a,v=.ref a/\ρ[i]?=some a:=by unfold au at h;exact h
section
variable{K:Aa}{ρ:Et}{B:Er}{H:Hp}
theorem Ja{b:Bool}:au K ρ B H (.bl b) (.bl b):=by unfold au;rfl
theorem Xa{b:Int}:au K ρ B H (.int b) (.int b):=by unfold au;rfl
theorem jp:au K ρ B H .non .non:=by unfold au;rfl
theorem qP{a:Addr}(h1:¬ B a)(h2:SqT K H a xs)(h3:ak K ρ B H ds xs):au K ρ B H (.tup ds) (.ref a):=by unfold au;exact⟨a,xs,rfl,h1,h2,h3⟩
theorem vp{a:Addr}(h1:¬ B a)(h2:SqL K H a xs)(h3:ak K ρ B H ds xs):au K ρ B H (.lst ds) (.ref a):=by unfold au;exact⟨a,xs,rfl,h1,h2,h3⟩
end
theorem XD{e:Expr}(h:DE X e f)(he:∀whole,isTrue e X.env whole=(do let v <- whole;standAt e.pos;holding [v] (truthy v)):=by intro _;rfl):DT X e (eB f) :=
 (WV h he).imp λσ H Q i=>by obtain⟨Z,env,ρ,B,U,d,m,S,e,k⟩:=i;obtain⟨x,hp1,j,l⟩:=Qf e;obtain⟨rfl,rfl⟩:=Y6 l;exact tD.run S j λv ρ1 B1 H1 g1 S1 n=>⟨d,n.fD,k ρ1 B1 H1 g1 S1.wo⟩
theorem Q4{f:CmpOp}{g:DV->DV->M DV}(o:P2 X (compareOp f) g)(l:DE X a fa)(m:DE X b fb)(n:behindInMarks f b=false):DT X (.Compare a [f] [b] pos) (eB (Qi g fa fb)) :=
 (D9 o l m n).imp λσ H Q h=>by obtain⟨Z,env,ρ,B,U,d,q,S,e,k⟩:=h;obtain⟨x,hp1,i,j⟩:=Qf e;obtain⟨rfl,rfl⟩:=Y6 j;exact zD (tD.run S i λv ρ1 B1 H1 g1 S1 r=>⟨d,r.fD,k ρ1 B1 H1 g1 S1.wo⟩)
def J1(f g:bO):bO:=λenv=>do if <- f env then g env else pure false
def cA(f g:bO):bO:=λenv=>do if <- f env then pure true else g env
def Jk(f:bO):bO:=λenv=>do let b <- f env;pure (!b)
def Jm(f g:aF):aF:=λenv=>do if <- cP (<- f env)then g env else pure (.bl false)
def xI(f g:aF):aF:=λenv=>do if <- cP (<- f env)then pure (.bl true)else g env
def Yc(f:aF):aF:=λenv=>do let b <- cP (<- f env);pure (.bl (!b))
def cL(c:bO)(f g:aF):aF:=λenv=>do if <- c env then f env else g env
theorem fB.run{K:Aa}{f:bO}{Z:Ent}{d:Bool}{Q:Bool->Hp->Prop}(S:bM K Z env σ ρ B U H)(e:f env U=some (d,hp1))
  (k:∀ρ' B' H',Gr K ρ B H ρ' B' H'->bM K Z env σ ρ' B' hp1 H'->Q d H'):fB K f σ H Q :=
 ⟨Z,env,ρ,B,U,d,hp1,S,e,λρ' B' H' g W=>k ρ' B' H' g (S.grow g W)⟩
variable{ca cb:bO}{rest:List Expr}
def je(h:DT X a ca):DW X (.BoolOp .And [a] pos) ca:=D6 h
def GY(h:DT X a ca):DW X (.BoolOp .Or [a] pos) ca:=Ha h
theorem yA(j:DT X a ca)(l:DW X (.BoolOp .And (b::rest) pos) cb):DW X (.BoolOp .And (a::b::rest) pos) (J1 ca cb) :=
  (Hb j l).imp λσ H Q h=>by
    obtain⟨Z,env,ρ,B,U,d,m,S,e,k⟩:=h;obtain⟨x,hp1,i,f⟩:=Qf e;refine fB.run S i λρ1 B1 H1 g1 S1=>?_;cases x with
    |true=>exact kT (fB.run S1 f λρ2 B2 H2 g2 S2=>k ρ2 B2 H2 (g1.trans g2) S2.wo)
    |false=>obtain⟨rfl,rfl⟩:=Qk f;exact kS (k ρ1 B1 H1 g1 S1.wo)
theorem uz(j:DT X a ca)(l:DW X (.BoolOp .Or (b::rest) pos) cb):DW X (.BoolOp .Or (a::b::rest) pos) (cA ca cb) :=
  (Ss j l).imp λσ H Q h=>by
    obtain⟨Z,env,ρ,B,U,d,m,S,e,k⟩:=h;obtain⟨x,hp1,i,f⟩:=Qf e;refine fB.run S i λρ1 B1 H1 g1 S1=>?_;cases x with
    |false=>exact kS (fB.run S1 f λρ2 B2 H2 g2 S2=>k ρ2 B2 H2 (g1.trans g2) S2.wo)
    |true=>obtain⟨rfl,rfl⟩:=Qk f;exact kT (k ρ1 B1 H1 g1 S1.wo)
def DW.pt(h:DW X e f):DT X e f:=h _
theorem XH(h:DT X a ca):DT X (.UnaryOp .Not a pos) (Jk ca) :=
 (WZ h).imp λσ H Q f=>by obtain⟨Z,env,ρ,B,U,d,l,S,e,k⟩:=f;obtain⟨x,hp1,i,j⟩:=Qf e;obtain⟨rfl,rfl⟩:=Qk j;exact fB.run S i λρ1 B1 H1 g1 S1=>k ρ1 B1 H1 g1 S1.wo
def GU{e:BoolOp}(h:DE X a fa):DE X (.BoolOp e [a] pos) fa:=MR h
theorem yw(l:DE X a fa)(m:DE X (.BoolOp .And (b::rest) pos) fb):DE X (.BoolOp .And (a::b::rest) pos) (Jm fa fb) :=
  (MW l m).imp λσ H Q f=>by
    obtain⟨Z,env,ρ,B,U,d,n,S,e,k⟩:=f;obtain⟨x,hp1,h,i⟩:=Qf e;obtain⟨c,o,j,e4⟩:=Qf i;obtain⟨rfl,rfl⟩:=Y6 j;refine tD.run S h λv ρ1 B1 H1 g1 S1 q=>⟨c,q.fD,?_⟩;cases c with
    |true=>exact kT (tD.run S1 e4 λv ρ2 B2 H2 g2 S2 r=>k v ρ2 B2 H2 (g1.trans g2) S2.wo r)
    |false=>obtain⟨rfl,rfl⟩:=Qk e4;exact kS (k _ ρ1 B1 H1 g1 S1.wo Ja)
theorem BQ(l:DE X a fa):DE X (.UnaryOp .Not a pos) (Yc fa) :=
 (MS l).imp λσ H Q f=>by obtain⟨Z,env,ρ,B,U,d,m,S,e,k⟩:=f;obtain⟨x,hp1,h,i⟩:=Qf e;obtain⟨c,n,j,e4⟩:=Qf i;obtain⟨rfl,rfl⟩:=Y6 j;obtain⟨rfl,rfl⟩:=Qk e4;exact tD.run S h λv ρ1 B1 H1 g1 S1 o=>⟨c,o.fD,k _ ρ1 B1 H1 g1 S1.wo Ja⟩
theorem Fi(n:DT X c ca)(l:DE X a fa)(m:DE X b fb):DE X (.IfExp c a b pos) (cL ca fa fb) :=
 (Qd4 n l m).imp λσ H Q i=>by
  obtain⟨Z,env,ρ,B,U,d,o,S,e,k⟩:=i;obtain⟨x,hp1,j,h⟩:=Qf e;refine fB.run S j λρ1 B1 H1 g1 S1=>?_;cases x with
  |true=>exact kT (tD.run S1 h λv ρ2 B2 H2 g2 S2 f=>k v ρ2 B2 H2 (g1.trans g2) S2.wo f)
  |false=>exact kS (tD.run S1 h λv ρ2 B2 H2 g2 S2 f=>k v ρ2 B2 H2 (g1.trans g2) S2.wo f)
def Ql:cu:=λ_=>pure []
def Qc(f:aF)(g:cu):cu:=λenv=>do let x <- f env;let xs <- g env;pure (x::xs)
theorem fH.run{K:Aa}{f:cu}{Z:Ent}{Q:List V->Hp->Prop}(S:bM K Z env σ ρ B U H)(e:f env U=some (ds,hp1))
  (k:∀vs ρ' B' H',Gr K ρ B H ρ' B' H'->bM K Z env σ ρ' B' hp1 H'->ak K ρ' B' H' ds vs->Q vs H'):fH K f σ H Q :=
 ⟨Z,env,ρ,B,U,ds,hp1,S,e,λvs ρ' B' H' g W r=>k vs ρ' B' H' g (S.grow g W) r⟩
theorem Qm:DA X [] Ql:=pa_nil.imp λσ H Q f=>by obtain⟨Z,env,ρ,B,U,ds,h,S,e,k⟩:=f;obtain⟨rfl,rfl⟩:=Qk e;exact k [] ρ B H Gr.refl S.wo ak.nil
theorem Qd{e:Expr}{es:List Expr}(m:DE X e f)(q:DA X es g)(hs:starEach (e::es) X.env=(false,eval e X.env)::starEach es X.env:=by rfl):DA X (e::es) (Qc f g) :=
 (Yf m q hs).imp λσ H Q h=>by obtain⟨Z,env,ρ,B,U,ds,n,S,e,k⟩:=h;obtain⟨x,hp1,i,j⟩:=Qf e;obtain⟨xs,o,l,e4⟩:=Qf j;obtain⟨rfl,rfl⟩:=Qk e4;exact tD.run S i λv ρ1 B1 H1 g1 S1 r=>fH.run S1 l λvs ρ2 B2 H2 g2 S2 t=>k _ ρ2 B2 H2 (g1.trans g2) S2.wo (ak.cons (au.grow S1.wo.rb g2 _ _ r) t)
def lim:Nat:=100000
theorem vf:lim<=sizeLine:=by decide
def QB(c:Bool):M Unit:=if c then pure ()else failure
theorem QM{c:Bool}{U e:Hs}{u:Unit}(h:QB c U=some (u,e)):c=true/\U=e:=by
 cases c with
 |true=>obtain⟨_,rfl⟩:=Qk (show(pure ():M Unit) U=some (u,e)from h);exact⟨rfl,rfl⟩
 |false=>cases h
def YN(ds:List DV):Bool:=decide (ds.length<=lim)
def qu{ds:List DV}(h:YN ds=true):ds.length<=sizeLine:=Bj (Eg h) vf
def Zk(f:cu):aF:=λenv=>do let xs <- f env;QB (YN xs);pure (.tup xs)
def Ye(f:cu):aF:=λenv=>do let xs <- f env;QB (YN xs);pure (.lst xs)
theorem xK{K:Aa}{H:Hp}{Q:VK}(W:aM K ρ B U H)(r:ak K ρ B H ds xs)(k:iG K ρ B H (.tup ds) U Q):∀p,H p=none->Q (.ref p) (upd H p (.tup xs)):=λp e =>
 k _ ρ B _ (Gr.laid e) (W.laid e) (qP (λz=>W.bt p z e) (SqT.of Q3) (ak.grow W.rb (Gr.laid e) _ _ r))
theorem ji{K:Aa}{H:Hp}{Q:VK}(W:aM K ρ B U H)(r:ak K ρ B H ds xs)(k:iG K ρ B H (.lst ds) U Q):∀p,H p=none->Q (.ref p) (upd H p (.lst xs)):=λp e =>
 k _ ρ B _ (Gr.laid e) (W.laid e) (vp (λz=>W.bt p z e) (SqL.of Q3) (ak.grow W.rb (Gr.laid e) _ _ r))
def iG.after{K:Aa}(g:Gr K ρ B H ρ1 B1 H1)(k:iG K ρ B H d hp' Q):iG K ρ1 B1 H1 d hp' Q:=λv ρ' B' H' g' W r=>k v ρ' B' H' (g.trans g') W r
theorem Zj{es:List Expr}{x1}(h:DA X es f):DE X (.Tuple es x1 pos) (Zk f) :=
 (MO h).imp λσ H Q j=>by obtain⟨Z,env,ρ,B,U,d,o,S,e,k⟩:=j;obtain⟨xs,hp1,l,m⟩:=Qf e;obtain⟨_,q,n,e4⟩:=Qf m;obtain⟨hs,rfl⟩:=QM n;obtain⟨rfl,rfl⟩:=Qk e4;exact fH.run S l λvs ρ1 B1 H1 g1 S1 i=>⟨by rw[<- i.length];exact qu hs,xK S1.wo i (k.after g1)⟩
theorem GR{es:List Expr}(h:DA X es f):DE X (.List es pos) (Ye f) :=
 (Ii h).imp λσ H Q j=>by obtain⟨Z,env,ρ,B,U,d,o,S,e,k⟩:=j;obtain⟨xs,hp1,l,m⟩:=Qf e;obtain⟨_,q,n,e4⟩:=Qf m;obtain⟨hs,rfl⟩:=QM n;obtain⟨rfl,rfl⟩:=Qk e4;exact fH.run S l λvs ρ1 B1 H1 g1 S1 i=>⟨by rw[<- i.length];exact qu hs,ji S1.wo i (k.after g1)⟩
end
end D
namespace L2
open PySem PySem.Spec PyProof.Rows
def X4(X:Cx)(scope:Scope)(a:List (Str×Addr))(C:Addr)(N:List Str)(s₀:Shared)(H₀:Hp)(ex:Et):Cx where
 prog:=X.prog
 w:=X.w
 K:=X.K
 mg:=X.mg
 O8:=X.O8
 A:=X.A
 N:=N
 s₀:=s₀
 H₀:=H₀
 env:=compEnvC scope a C X.env
 outer:=X.stack
 stack:=X.stack
 ex:=ex
 fn:=λ_=>false
 calm:=X.calm
 pn:=[]
 xe:=λ_ _=>False
def AllP{α:Type}(P:α->Prop):List α->Prop
 | []=>True
 |x::r=>P x/\AllP P r
theorem AllP.mem{α:Type}{P:α->Prop}:∀{l:List α}{x:α},AllP P l->x∈l->P x
 | [],_,_,h=>nomatch h
 |y::r,x,⟨h1,h2⟩,h=>(Bk.mp h).elim (λe=>e▸h1) λe=>AllP.mem h2 e
def cW(X:Cx)(scope:Scope)(a:List (Str×Addr)):List Str->List Nat->Prop
  | [],[]=>True
  | y :: ys, i :: b => X.N[i]? = some y /\ (X.env.kindOf y = some .cell ∨ X.env.kindOf y = some .free) /\ (∃c, a.lookup y = some c) /\
      (relabel scope X.env).names.lookup y≠some .local/\cW X scope a ys b
  |_,_=>False
theorem cW.get{f:List (Str×Addr)}:∀{ys:List Str}{e:List Nat}{j:Nat}{y:Str},cW X scope f ys e->ys[j]?=some y ->
    ∃i,e[j]?=some i/\X.N[i]?=some y/\(X.env.kindOf y=some .cell∨X.env.kindOf y=some .free)/\(∃c,f.lookup y=some c)/\(relabel scope X.env).names.lookup y≠some .local
  | [],_,_,_,_,h=>by simp at h
  |y::ys,[],_,_,h,_=>by simp[cW]at h
  |y::ys,i::e,0,z,⟨h1,h2,h3,h4,_⟩,h=>by simp at h;subst h;exact⟨i,rfl,h1,h2,h3,h4⟩
  |y::ys,i::e,j+1,z,⟨_,_,_,_,h5⟩,h=>by obtain⟨k,a,b⟩:=cW.get h5 (by simpa using h);exact⟨k,by simpa using a,b⟩
theorem cW.length{b:List (Str×Addr)}:∀{ys:List Str}{a:List Nat},cW X scope b ys a->ys.length=a.length
 | [],[],_=>rfl
 | [],_::_,h=>by simp[cW]at h
 |_::_,[],h=>by simp[cW]at h
 |_::ys,_::a,⟨_,_,_,_,h⟩=>by simp[cW.length h]
structure vR(X:Cx)(x:Str)(scope:Scope)(cl:List (Str×Addr))(caps:List Str)(idx:List Nat):Prop where
 clos:closureFor scope X.env=pure cl
 cell:∀y∈scope.names,y.2≠.cell
 kind:scope.kind=.function
 names:∀y∈scope.names,y.2=.local->scope.names.lookup y.1=some .local
 hx:scope.names.lookup x=some .local
 cls:AllP (λp:Str×Addr=>X.env.cells.lookup p.1=some p.2) cl
 has:((relabel scope X.env).names.all λp=>!(p.2==.cell||p.2==.free)||(cl.lookup p.1).isSome)=true
 cps:cW X scope cl caps idx
 nd:(x::caps).Nodup
def cσ(idx:List Nat)(σ:St)(o:Option V):St:=o::idx.map λi=>(σ[i]?).join
def ou(X:Cx)(a:List Expr)(t:TT):Prop :=
  ∀(O9 : List (Addr × Obj))(s : Shared)(σ : St)(H : Hp)(Q : Bool -> Hp -> Prop), Inv X O9 σ H s -> t σ H Q ->
    wpAny (model X.prog X.w) X.A (forIn a true λc r=>if r=true then do let ok <- isTrue c X.env (eval c X.env);pure (ForInStep.yield ok)else pure (ForInStep.yield r)) (TP X O9 σ Q) X.xe s
def D8:ou X [] (λ_ H Q=>Q true H):=λa s σ H Q I h=>wpAny_tests_nil ⟨H,I,h⟩
def D7{t:TT}(h:PT X c t):ou X [c] t:=λa s σ H Q I q=>wpAny_tests_one (h a s σ H Q I q)
section
variable{prog:Program}{w:World}{A:Around}{R:Result->Shared->Prop}{s:Shared}
theorem GP{b target a:Expr}{e:List Expr}{scope:Scope}{pos:Pos}{f acc:Value}{env:Env}(I:Nat->Shared->Prop)
    (turn:∀n s,I n s->wpAny (model prog w) A (pyNext f) (λr s₁=>match r with
      |none=>R (.ok .next) s₁
      |some v=>wpAny (model prog w) A (letOwnedTupleGo target f v) (λ_ s₁'=>wpAny (model prog w) A (assign target env v) (λ_ s₂ =>
          wpAny (model prog w) A (forIn e true λc r=>if r=true then do let ok <- isTrue c env (eval c env);pure (ForInStep.yield ok)else pure (ForInStep.yield r)) (λok s₃ =>
            if ok=true then wpAny (model prog w) A (eval b env) (λx s₄ =>
              wpAny (model prog w) A (call (.builtin "list.append") [acc,x]) (λ_ s₅=>∃m,m<n/\I m s₅) (λ_ _=>False) s₄) (λ_ _=>False) s₃
            else ∃m,m<n/\I m s₃) (λ_ _=>False) s₂) (λ_ _=>False) s₁') (λ_ _=>False) s₁) (λ_ _=>False) s)
    (n:Nat) (h:I n s) :
    codeAny (model prog w) A (.compLoop (.ListComp b [⟨target,a,e,0⟩] scope pos) 0 f acc env) R s:=by
  refine codeAny_loop rfl I (λn s hI=>?_) n h;show wpAny _ A ((compTurn (.ListComp b [⟨target,a,e,0⟩] scope pos) 0 f acc env).onRaise (λx=>do noteFrame x env;theTreesLotGoes x)) _ _ s;refine wpAny_noted ?_;rw[compTurn_list];refine C9 (wpAny_standAt (C9 (wpAny_mono (turn n s hI) (λr s₁ h₁=>?_) λ_ _ h'=>h'.elim)));cases r with
  |none=>exact Ec h₁
  |some v =>
    refine C9 (wpAny_mono h₁ (λ_ s₁' h₁'=>?_) λ_ _ h'=>h'.elim);refine C9 (wpAny_mono h₁' (λ_ s₂ h₂=>C9 (wpAny_mono h₂ (λok s₃ h₃=>?_) λ_ _ h'=>h'.elim)) λ_ _ h'=>h'.elim);cases ok with
    |false=>exact Ec ⟨rfl,h₃⟩
    |true=>exact C9 (C9 (wpAny_mono h₃ (λx s₄ h₄=>C9 (wpAny_mono h₄ (λ_ s₅ h₅=>Ec (Ec ⟨rfl,h₅⟩)) λ_ _ h'=>h'.elim)) λ_ _ h'=>h'.elim))
end
def rP(K:Aa)(f:TI)(tt:TT)(te:TE)(idx:List Nat):TE:=λσ H Q=>f σ H λJ e=>∀D,e D=none->K.lookup D=none->∃W:Nat->Nat->List V->Hp->Prop,(∃m,W 0 m [] (upd e D (.lst []))) /\
  ∀i m ys H, W i m ys H -> H D = some (.lst ys) /\ ((J.stop i H /\ Q (.ref D) H) ∨ (J.go i H /\ ∀x H', J.yld i H x H' -> tt (cσ idx σ (some x)) H' λb H2 =>
    if b=true then te (cσ idx σ (some x)) H2 λy H3=>H3 D=some (.lst ys)/\ys.length<sizeLine/\∃a,a<m/\W (i+1) a (ys++[y]) (upd H3 D (.lst (ys++[y])))
    else ∃a,a<m/\W (i+1) a ys H2))
section
variable{X:Cx}{elt iter:Expr}{x:Str}{px:Pos}{ifs:List Expr}{scope:Scope}{cl:List (Str×Addr)}{pos:Pos}{caps:List Str}{idx:List Nat}{wi:TI}{tt:TT}{te:TE}
theorem ul{E:Ej}{use:Option (Value->Sem Unit)}{QQ:Ej}{mK:Pos}(S:vR X x scope cl caps idx)(hc:X.calm=true)(hi:PI X (.Name x px) iter wi)
    (ht:∀C s₀ H₀ ex,ou (X4 X scope cl C (x::caps) s₀ H₀ ex) ifs tt) (he:∀C s₀ H₀ ex,PE (X4 X scope cl C (x::caps) s₀ H₀ ex) elt te)
    {O9:Ek} {s:Shared} {σ:St} {H:Hp} {Q:VK} (I:Inv X O9 σ H s) (h:rP X.K wi tt te idx σ H Q)
    (hE:X.xe=E)
    (hend:∀(D C:Addr)(F:Hp)(s':Shared)(m:Em),Inv X O9 σ F s'->Q (.ref D) F->s'.heap.Ns C m->F C=none->C≠X.env.locals->X.s₀.heap.objs.size<=C->(∀x c,X.env.cells.lookup x=some c->c≠C)->(∀p∈X.pn++O9,p.1≠C) ->
      compPost (model X.prog X.w) X.A E use QQ (.ref D) C (.ok .next) s')
    (hs:∀x,foldedSetIterable iter X.env x=pure x:=by intro _;rfl) :
    wpAny (model X.prog X.w) X.A (comprehension (.ListComp elt [⟨.Name x px,iter,ifs,0⟩] scope pos) scope X.env mK (newList []) false (eval iter X.env) use) QQ E s:=by
  subst hE;refine wpAny_comprehension_free (use:=use) rfl hs S.clos S.kind S.names (thn (hi O9 s σ H _ I h) λxv s1 h1=>thn h1 λcv L h2=>?_);obtain⟨it,O,tn,J,H2,rfl,I2,T,bh,Y,hQ⟩:=h2;refine wpAny_newObj_type (wpAny_newFunctionEnv S.cell (by intro y hy;simp at hy) (λh₁ ay₁ ba₁=>?_) S.kind);dsimp only at ay₁ ba₁ ⊢;generalize av:L.heap.push { cls:=.type "list", dict:=none,data:=.seq ([]:List Value).toArray }=t at ay₁ ba₁ ⊢;have hC:t.objs.size=L.heap.objs.size+1:=by rw[<- av,Co]
  have i_:∀b o,L.heap.get? b=some o->t.get? b=some o:=λb o e=>av▸Ad _ e;have cf:H2 L.heap.objs.size=none:=I2.hok.fresh (Ae _);have f:Inv X O9 σ (upd H2 L.heap.objs.size (.lst [])) { L with heap:=t } :=
    I2.laid (t':=L.toks) i_ (Ae _) ⟨Be _,[],_,.nil,av▸Av _ rfl⟩
  have Rj:X.K.lookup L.heap.objs.size=none:=by
    cases q:X.K.lookup L.heap.objs.size with
    |none=>rfl
    |some o=>exact absurd (Ap (I2.kIn _ o q)) (Cy _)
  obtain⟨W,⟨m0,w0⟩,bm⟩:=hQ _ cf Rj;generalize Rk:L.heap.objs.size=D at *;generalize nO:t.objs.size=C at *;have pW:∀b o,t.get? b=some o->b≠C:=λb o e=>by rw[<- nO];exact Bf (Ap e)
  have eY:∀b o,t.get? b=some o->h₁.get? b=some o:=λb o e=>ba₁.extBut b o (pW b o e) (Ad _ e);have Pb:({ L with heap:=t }:Shared).heap.objs.size=C:=nO;have mY:∀y c,cl.lookup y=some c->X.env.cells.lookup y=some c:=λy c e=>S.cls.mem (PySem.mem_of_lookup e);have oZ:∀b∈O,∃o,L.heap.get? b=some o:=λb a=>let ⟨o,e,_⟩:=T.obj _ _ bh b a;⟨o,e⟩;have Dq:∀b∈O,b≠C:=λb a=>let ⟨o,e⟩:=oZ b a;pW b o (i_ b o e);have Ru:∀b∈O,b≠D:=λb a=>let ⟨o,e⟩:=oZ b a;by rw[<- Rk];exact Bf (Ap e)
  have bv:∀b∈O,(upd H2 D (.lst [])) b=none:=λb a=>by rw[QO (Ru b a)];exact(Y b a).1
  have mZ:∀y c,X.env.cells.lookup y=some c->c≠C:=λy c e=>let ⟨v,o,ho,_⟩:=f.cell y c e;pW c o ho;have mj:∀b∈O,b∉frs X.stack:=λb a z=>(Bk.mp (I2.stkSub b z)).elim (Y b a).2.1 (Y b a).2.2.1
  let P:=X4 X scope cl C (x::caps) { L with heap:=t } (upd H2 D (.lst [])) O
  have cm:P.Ok:=by
    refine⟨f.ok.mod,by show(relabel scope X.env).kind=_;exact S.kind,f.ok.glob,f.ok.blt,by show t.objs.size<=C;rw[nO];exact Ae _,λy z c h1 h2=>f.ok.inj y z c (mY y c h1) (mY z c h2),λy hy=>?_,
      λy c z=>(by cases z),f.ok.hd,f.ok.frames,.inl rfl,λb a=>⟨Dq b a,λy c e=>(Y b a).2.2.2.2.1 y c (mY y c e)⟩,f.bs,Bj f.ok.bsz f.sz,
      λb o e a=>?_,λb a=>mj b a,f.stack,f.stkFree⟩
    . have ck:(relabel scope X.env).names.lookup y=some .cell∨(relabel scope X.env).names.lookup y=some .free:=hy
      have q:=S.has;rw[List.all_eq_true]at q;have:(cl.lookup y).isSome=true:=by
        rcases ck with z|z
        . have q:=q _ (PySem.mem_of_lookup z);simpa using q
        . have q:=q _ (PySem.mem_of_lookup z);simpa using q
      exact Option.isSome_iff_exists.mp this
    . have:=(Y b a).2.2.2.1
      have e3:=(I2.ok.bs b o e).1;rcases this with z|z
      . exact I2.ok.noex b o e z
      . exact absurd (Ay (Ap e3) z) (Cy _)
  have lM:=S.cps.length;have I4:Inv P [] (cσ idx σ none) (upd H2 D (.lst [])) { L with heap:=h₁,toks:=L.toks+([]:List (Str×Value)).length }:=by
    refine⟨cm,rfl,f.bare,Un.kept eY,⟨_,ay₁,λi y v e1 e2 e3=>?_⟩,λy c e=>?_,?_,λy c e=>f.freeC y c (mY y c e),λp U=>absurd (show p∈([]:Ek)from U) (by simp),f.hok.kept eY,?_⟩
    . cases i with
      |zero=>exact absurd e2 (by simp[cσ])
      |succ j =>
        obtain⟨k,h1,h2,h3,⟨c,h4⟩,h5⟩:=S.cps.get (show caps[j]?=some y by have br:(x::caps)[j+1]?=some y:=e1;simpa using br);have ab:(σ[k]?).join=some v:=by simpa [cσ,h1]using e2
        have wz:σ[k]?=some (some v):=by
          cases q:σ[k]? with
          |none=>rw[q]at ab;cases ab
          |some z=>rw[q]at ab;exact congrArg some ab
        obtain⟨mL,cr,hl⟩:=f.loc;have vis:Vis X.env.scope y:=by rcases h3 with z|z;exact .inr (.inl z);exact .inr (.inr z)
        obtain⟨u,r,l⟩:=hl k y v h2 wz vis;refine⟨u,r,.inr ⟨?_,c,h4,?_⟩⟩
        . have bu:(relabel scope X.env).names.lookup y=some .local∨(relabel scope X.env).names.lookup y=some .cell∨(relabel scope X.env).names.lookup y=some .free:=e3
          rcases bu with z|z|z
          . exact absurd z h5
          . exact .inl z
          . exact .inr z
        . rcases l with ⟨z,_⟩|⟨_,c',e,z⟩
          . rcases h3 with q|q <;> · rw[q]at z;cases z
          . rw[mY y c h4]at e;cases e
            obtain⟨o,ho,hd⟩:=z;exact⟨o,eY _ _ ho,hd⟩
    . obtain⟨v,o,ho,hd⟩:=f.cell y c (mY y c e)
      exact⟨v,o,eY _ _ ho,hd⟩
    . exact f.hok.fresh (by show t.objs.size<=C;rw[nO];exact Ae _)
    . simp[cσ,P,X4,lM]
  have lD:tn 0 h₁:=T.keep _ _ _ bh λb _ o e=>eY b o (i_ b o e);have u_:∀{F:Hp}{R:Ek},(∀b∈O,F b=none)->(R=[])->∀b∈O,Vt P R F b:=λhn e b a=>by subst e;exact⟨hn b a,Dq b a,mj b a,.inl a,λy c e=>(Y b a).2.2.2.2.1 y c (mY y c e),λp U=>absurd (show p∈([]:Ek)from U) (by simp)⟩
  have ae:∀s₃:Shared,s₃={ L with heap:=h₁,toks:=L.toks+([]:List (Str×Value)).length } ->
      codeAny (model X.prog X.w) X.A (.compLoop (.ListComp elt [⟨.Name x px,iter,ifs,0⟩] scope pos) 0 (.ref it) (.ref D) (compEnvC scope cl C X.env)) (compPost (model X.prog X.w) X.A X.xe use QQ (.ref D) C) s₃:=by
    rintro s₃ rfl;refine GP (λn s'=>∃i o F ys,Inv P [] (cσ idx σ o) F s'/\tn i s'.heap/\(∀b∈O,F b=none)/\W i n ys F) ?_ m0 ⟨0,none,_,[],I4,lD,bv,w0⟩;rintro n s5 ⟨i,o,H5,ys,I5,st5,fr5,w5⟩;obtain⟨hD,tw⟩:=bm i n ys H5 w5;rcases tw with ⟨stop,q⟩|⟨go,step⟩
    . refine thn (T.done P rfl rfl rfl hc i [] s5 _ H5 _ I5 (u_ fr5 rfl) st5 stop) λr s6 ⟨hr,I6⟩=>?_
      subst hr;obtain⟨m6,Ra,_⟩:=I6.loc;have I7:Inv X O9 σ H5 s6:=f.call' (s':=s6) (ch:=O) I6.os I6.O8 I6.hok I6.bare λb a=>⟨(Y b a).2.2.2.1,(Y b a).2.1,(Y b a).2.2.2.2.1,(Y b a).2.2.2.2.2⟩;refine hend D C H5 s6 m6 I7 q Ra I6.free ?_ ?_ mZ λp U=>?_
      . rw[<- nO];exact C7 f.lt
      . rw[<- nO];exact f.sz
      . exact pW p.1 p.2 (f.pin p U).1
    . refine thn (T.item P rfl rfl rfl hc i [] s5 _ H5 _ I5 (u_ fr5 rfl) st5 go) λr s6 ⟨u,hr,h6⟩=>?_
      subst hr;refine thn h6 λ_ s7 ⟨y,H7,I7,r7,y7,sJ,Rt⟩=>?_;have bq:=I7.pinned (u_ Rt rfl) (T.obj _ _ sJ);refine thn (vo (X:=P) (i:=0) S.nd rfl (.inl (lookup_relabel_local S.hx)) (.inr (lookup_relabel_local S.hx)) _ s7 _ H7 y u (λσ' F=>σ'=cσ idx σ (some y)/\F=H7) bq r7 ⟨rfl,rfl⟩) λ_ s8 ⟨σ8,H8,I8,e8,Ry⟩=>?_;subst e8;subst Ry;have again:∀{H9:Hp}{s9:Shared}{bd:List V},Inv P ([]++UB O s7.heap) (cσ idx σ (some y)) H9 s9->(∃m',m'<n/\W (i+1) m' bd H9) ->
          ∃m,m<n/\∃i o F ys,Inv P [] (cσ idx σ o) F s9/\tn i s9.heap/\(∀b∈O,F b=none)/\W i m ys F:=λ{H9 s9 bd} I9 ⟨m',hm,w9⟩=>by
        refine⟨m',hm,i+1,some y,H9,bd,I9.unpinned,T.keep _ _ _ sJ λb a o e=>(I9.pin (b,o) (Aj _ (Aj _ (qN a e)))).1,λb a=>?_,w9⟩;obtain⟨o,e,d⟩:=T.obj _ _ sJ b a;exact(I9.pin (b,o) (Aj _ (Aj _ (qN a e)))).2.1
      refine thn (ht _ _ _ _ _ s8 _ H8 _ I8 (step y H8 y7)) λok s9 ⟨H9,I9,q9⟩=>?_;cases ok with
      |false=>exact again I9 (by rw[Ea Bz]at q9;exact q9)
      |true=>rw[Eb rfl]at q9 ⊢;refine thn (he _ _ _ _ _ s9 _ H9 _ I9 q9) λv Ph aK=>?_;obtain⟨z,M9,bn,cp,tX,be,m',hm,cq⟩:=aK;refine thn (Gc (X:=P) _ Ph _ M9 (.ref D) [z] (.ref D) [v] (λ_ F=>F=upd M9 D (.lst (ys++[z]))) bn rfl (.cons cp .nil) ⟨D,ys,z,rfl,rfl,tX,be,rfl⟩) λ_ cw ⟨_,H11,I11,_,fj⟩=>?_;subst fj;exact again I11 ⟨m',hm,cq⟩
  exact codeAny_compStart_list (ae _ rfl) (T.self X.A 0 _ _ _ lD (ae _ rfl))
end
section
variable{X:Cx}{elt iter:Expr}{x:Str}{px:Pos}{ifs:List Expr}{scope:Scope}{cl:List (Str×Addr)}{pos:Pos}{caps:List Str}{idx:List Nat}{wi:TI}{tt:TT}{te:TE}
theorem Sb(S:vR X x scope cl caps idx)(j:X.calm=true)(hi:PI X (.Name x px) iter wi)
  (ht:∀C s₀ H₀ ex,ou (X4 X scope cl C (x::caps) s₀ H₀ ex) ifs tt) (he:∀C s₀ H₀ ex,PE (X4 X scope cl C (x::caps) s₀ H₀ ex) elt te)
  (hs:∀x,foldedSetIterable iter X.env x=pure x:=by intro _;rfl):PE X (.ListComp elt [⟨.Name x px,iter,ifs,0⟩] scope pos) (rP X.K wi tt te idx):=by
 intro c s σ H Q I h;rw[eval_ListComp];refine ul (use:=none) S j hi ht he I h rfl (λD C a s' m I' q l f h1 h2 h3 h4=>?_) hs;show ∃m,s'.heap.Ns C m/\∀h',Heap.SameBut C s'.heap h'->EP X c σ Q (.ref D) { s' with heap:=h' };exact⟨m,l,λh' hs=>⟨.ref D,a,I'.turned (t':=s'.toks) (λb o i e=>hs.extBut b o i e) f (Ne.symm (Ne.symm h1)) (.inr h2) h3 h4,rfl,q⟩⟩
theorem Rl{i:Nat}{y:Str}{j f:Pos}(S:vR X x scope cl caps idx)(J:X.calm=true)(hi:PI X (.Name x px) iter wi)
  (ht:∀C s₀ H₀ ex,ou (X4 X scope cl C (x::caps) s₀ H₀ ex) ifs tt) (he:∀C s₀ H₀ ex,PE (X4 X scope cl C (x::caps) s₀ H₀ ex) elt te)
  (hN:X.N.Nodup) (hy:X.N[i]?=some y) (hx:Loc X.env.scope y) (hsw:swapsWith (.ListComp elt [⟨.Name x px,iter,ifs,0⟩] scope pos) (some (.Name y j)) f.line X.env=pure true)
  (hf:X.fn y=true∨X.env.scope.names.lookup y=some .local:=by first|exact .inl rfl|exact .inr rfl|assumption)
  (hs:∀x,foldedSetIterable iter X.env x=pure x:=by intro _;rfl):PS X (.Assign [.Name y j] (.ListComp elt [⟨.Name x px,iter,ifs,0⟩] scope pos) f) (rF (rP X.K wi tt te idx) (su i)):=by
 intro t s σ H D I h;rw[exec_Assign_Name_used _ _ _ _ hsw];refine C9 (wpAny_standAt (C9 ?_));show wpAny _ X.A (do let _ <- comprehension (.ListComp elt [⟨.Name x px,iter,ifs,0⟩] scope pos) scope X.env _ (newList []) false (eval iter X.env) (some (assign (.Name y j) X.env))) _ _ s;refine C9 (wpAny_mono (ul (use:=some (assign (.Name y j) X.env)) (QQ:=λ_ s'=>SP X t D .next s') S J hi ht he I h rfl (λr C u s' m I' q L z h1 h2 h3 h4=>?_) hs) (λ_ s' O=>Ec (Ec O)) λ_ _ e=>e);show wpAny _ X.A (assign (.Name y j) X.env (.ref r)) (λ_ c=>∃m,c.heap.Ns C m/\∀h',Heap.SameBut C c.heap h'->SP X t D .next { c with heap:=h' }) _ s';refine wpAny_assign_Name (Gw I' hN hy hx (v:=.ref r) rfl (λc I'' ⟨a,hs,l⟩=>?_) hf);refine⟨m,L.sameBut hs ?_,λh' n=>⟨_,u,I''.turned (t':=c.toks) (λb o F e=>n.extBut b o F e) z h1 (.inr h2) h3 h4,q⟩⟩;rcases l with rfl|l
 ·exact h1
 ·exact Ne.symm (h3 _ _ l)
end
end L2
namespace D
open PySem PySem.Spec PyProof.Rows L2
section
variable{K:Aa}{Z:Ent}{env:En}{σ:St}{ρ ρ':Et}{B B':Er}{U hp':Hs}{H H':Hp}
theorem bM.set{i:Nat}(S:bM K Z env σ ρ B U H)(r:au K ρ B H d v):bM K Z (env.set i (.val d)) (σ.set i (some v)) ρ B U H where
 gr:=S.gr
 zb:=S.zb
 wo:=S.wo
 slot:=λj e h=>by
  by_cases b:j=i
  ·subst b;have c:j<env.length:=by have:=(Ac.mp h).1;simpa using this
   rw[Au c]at h;cases h;exact⟨v,Au (by rw[S.len];exact c),r⟩
  ·rw[Am (Ne.symm b)]at h ⊢;exact S.slot j e h
 lQ:=λj ds h=>by
  by_cases b:j=i
  ·subst b;have c:j<env.length:=by have:=(Ac.mp h).1;simpa using this
   rw[Au c]at h;cases h
  ·rw[Am (Ne.symm b)]at h ⊢;exact S.lQ j ds h
 lO:=λj k ds es a h1 h2 h3 h4=>by
  have f:∀{j:Nat}{ds:List DV},(env.set i (.val d))[j]?=some (.acc ds)->j≠i:=λ{j ds} h e=>by
   subst e;have c:j<env.length:=by have:=(Ac.mp h).1;simpa using this
   rw[Au c]at h;cases h
  have b:=f h1;have l:=f h2;rw[Am (Ne.symm b)]at h1 h3;rw[Am (Ne.symm l)]at h2 h4;exact S.lO j k ds es a h1 h2 h3 h4
 len:=by simp[S.len]
end
section
variable{X:Cx}{e a b c:Expr}{f fa fb:aF}{ca cb:bO}{pos:Pos}{st:Stmt}{sts rest:List Stmt}{s s':aD}
theorem lR.after{K:Aa}{Z:Ent}{h:Fl}{D:GB}(g:Gs K ρ B H ρ1 B1 H1)(k:lR K Z ρ B H h env' hp' D):lR K Z ρ1 B1 H1 h env' hp' D :=
 λσ' ρ' B' H' g' S=>k σ' ρ' B' H' (g.trans g') S
def Q6:aD:=λenv=>pure (.nx,env)
def Qq(f g:aD):aD:=λenv=>do
 let r <- f env
 match r.1 with
 |.nx=>g r.2
 |_=>pure r
def aL(c:bO)(f g:aD):aD:=λenv=>do if <- c env then f env else g env
def QF(f:aF):aD:=λenv=>do let d <- f env;pure (.rt d,env)
def YI:aD:=λenv=>pure (.rt .non,env)
def ZY(f:aF):aD:=λenv=>do let _ <- f env;pure (.nx,env)
def QD(i:Nat)(f:aF):aD:=λenv=>do let d <- f env;pure (.nx,env.set i (.val d))
theorem QP:fY X [] Q6:=pss_nil.imp λD σ H i=>by obtain⟨Z,env,ρ,B,U,m,h,l,S,e,k⟩:=i;obtain⟨j,rfl⟩:=Qk e;cases j;exact k σ ρ B H Gs.refl S
theorem SI{K:Aa}{D:GB}(h:nu K (Qq s s') D σ H):Dw (nu K s) (nu K s') D σ H:=by
 obtain⟨Z,env,ρ,B,U,r,i,n,S,e,k⟩:=h;obtain⟨⟨o,aR⟩,hp1,q,m⟩:=Qf e;refine⟨Z,env,ρ,B,U,o,aR,hp1,S,q,λσ' ρ' j H' g l=>?_⟩;cases o with
 |nx=>exact⟨Z,aR,ρ',j,hp1,r,i,n,l,m,k.after g⟩
 |rt d=>obtain⟨z,rfl⟩:=Qk m;cases z;exact k σ' ρ' j H' g l
 |bk=>obtain⟨z,rfl⟩:=Qk m;cases z;exact k σ' ρ' j H' g l
 |ct=>obtain⟨z,rfl⟩:=Qk m;cases z;exact k σ' ρ' j H' g l
def Qj(h1:DS X st s)(h2:fY X rest s'):fY X (st::rest) (Qq s s'):=(SV h1 h2).imp λ_ _ _ h=>SI h
def Qp(h1:DS X st s):fY X [st] s:=Rc h1
theorem Zo{x y:List Stmt}(r:DT X c ca)(h1:fY X x s)(h2:fY X y s'):DS X (.If c x y pos) (aL ca s s') :=
 (WT r h1 h2).imp λD σ H o=>by
  obtain⟨Z,env,ρ,B,U,n,h,i,S,e,k⟩:=o;obtain⟨x,hp1,q,m⟩:=Qf e;refine fB.run S q λρ1 j H1 g1 l=>?_;cases x with
  |true=>exact kT ⟨Z,env,ρ1,j,hp1,n,h,i,l,m,k.after (g1.gs S.wo.rb)⟩
  |false=>exact kS ⟨Z,env,ρ1,j,hp1,n,h,i,l,m,k.after (g1.gs S.wo.rb)⟩
theorem Qu(h:DE X e f):DS X (.Return (some e) pos) (QF f) :=
 (Mc h).imp λD σ H j=>by obtain⟨Z,env,ρ,B,U,q,i,n,S,e,k⟩:=j;obtain⟨d,hp1,l,m⟩:=Qf e;obtain⟨z,rfl⟩:=Qk m;cases z;exact tD.run S l λv ρ1 B1 H1 g1 S1 o=>k σ ρ1 B1 H1 (g1.gs S.wo.rb) S1 v o
theorem J0(h:DE X e f)(hs:swapsWith e none pos.line X.env=pure false:=by rfl):DS X (.Expr e pos) (ZY f) :=
 (Re h hs).imp λD σ H j=>by obtain⟨Z,env,ρ,B,U,o,i,n,S,e,k⟩:=j;obtain⟨d,hp1,l,m⟩:=Qf e;obtain⟨z,rfl⟩:=Qk m;cases z;exact tD.run S l λv ρ1 B1 H1 g1 S1 q=>k σ ρ1 B1 H1 (g1.gs S.wo.rb) S1
theorem gt{K:Aa}{D:GB}{σ:St}{i:Nat}{t:TE}(o:∀σ H Q,tD K f σ H Q->t σ H Q)(h:nu K (QD i f) D σ H):rF t (su i) D σ H:=by obtain⟨Z,env,ρ,B,U,r,j,n,S,e,k⟩:=h;obtain⟨d,hp1,l,m⟩:=Qf e;obtain⟨z,rfl⟩:=Qk m;cases z;exact o _ _ _ (tD.run S l λv ρ1 B1 H1 g1 S1 q=>k _ ρ1 B1 H1 (g1.gs S.wo.rb) (S1.set q))
theorem QG(i:Nat){x:Str}{j:Pos}(l:X.N.Nodup)(he:DE X e f)(hi:X.N[i]?=some x:=by rfl)(hx:Loc X.env.scope x:=by first|exact Or.inl rfl|exact Or.inr rfl)(hs:swapsWith e (some (.Name x j)) pos.line X.env=pure false:=by rfl)
  (hf:X.fn x=true∨X.env.scope.names.lookup x=some .local:=by first|exact .inl rfl|exact .inr rfl|assumption):DS X (.Assign [.Name x j] e pos) (QD i f) :=
 (Mb l hi hx he hs hf).imp λ_ _ _ h=>gt (λ_ _ _ q=>q) h
abbrev iH:=DV->En->M En
def nA(K:Aa)(g:iH):TG:=λv σ H Q=>∃Z env ρ B U d h i,bM K Z env σ ρ B U H/\au K ρ B H d v/\g d env U=some (h,i)/\∀σ' ρ' B' H',Gs K ρ B H ρ' B' H'->bM K Z h σ' ρ' B' i H'->Q σ' H'
def gN(i:Nat):iH:=λd env=>pure (env.set i (.val d))
theorem qH(i:Nat){x:Str}(m:X.N.Nodup)(hi:X.N[i]?=some x:=by rfl)(hx:Loc X.env.scope x:=by first|exact Or.inl rfl|exact Or.inr rfl)(hf:X.fn x=true∨X.env.scope.names.lookup x=some .local:=by first|exact .inl rfl|exact .inr rfl|assumption):PG X (.Name x pos) (nA X.K (gN i)):=by intro l s σ H v u Q I r h;refine vo m hi hx hf l s σ H v u Q I r ?_;obtain⟨Z,env,ρ,B,U,d,j,n,S,rd,e,k⟩:=h;obtain⟨rfl,rfl⟩:=Qk e;exact k _ ρ B H Gs.refl (S.set rd)
def n8(K:Aa)(ρ:Et)(B:Er)(H:Hp)(ds:List DV)(J:It):Prop :=
 ∀ρ1 j h,Gs K ρ B H ρ1 j h->(∀b∈ρ1,j b)->(∀a,j a->h a≠none)->(∀(i:Nat)(d:DV),ds[i]?=some d->J.go i h/\∀x l,J.yld i h x l->au K ρ1 j l d x/\(l=h∨∃p o,h p=none/\l=upd h p o))/\J.stop ds.length h
abbrev lA:=En->M (List DV)
def Ox(K:Aa)(f:lA):TI:=λσ H R=>∃Z env ρ B U ds h,bM K Z env σ ρ B U H/\f env U=some (ds,h)/\∀J ρ' B' H',Gr K ρ B H ρ' B' H'->aM K ρ' B' h H'->n8 K ρ' B' H' ds J->R J H'
def DI(X:Cx)(i h:Expr)(f:lA):Prop:=PI X i h (Ox X.K f)
def KM:DV->M (List DV)
 |.tup ds=>pure ds
 |_=>failure
def mR(f:aF):lA:=λenv=>do KM (<- f env)
theorem Yk{d:DV}{U i:Hs}(h:KM d U=some (ds,i)):d=.tup ds/\U=i:=by
 cases d with
 |tup xs=>obtain⟨rfl,rfl⟩:=Qk h;exact⟨rfl,rfl⟩
 |_=>cases h
theorem DD{K:Aa}{B:Er}{a:Addr}(nb:¬ B a)(n:SqL K H a xs)(m:ak K ρ B H ds xs):n8 K ρ B H ds (Itl K a):=λρ1 B1 H1 g _ _=>by have h:=g.BW nb n;have j:=ak.gs g _ _ m;refine⟨λi d e=>?_,xs,h,by rw[j.length];exact Ae _⟩;obtain⟨x,hx,r⟩:=j.get e;refine⟨⟨xs,x,h,hx⟩,λy H' ⟨l,q⟩=>?_⟩;subst l;have:=q xs h;rw[hx]at this;cases this;exact⟨r,.inl rfl⟩
theorem BD{K:Aa}{B:Er}{a:Addr}(nb:¬ B a)(n:SqT K H a xs)(m:ak K ρ B H ds xs):n8 K ρ B H ds (Itt K a):=λρ1 B1 H1 g _ _=>by have h:=g.pQ nb n;have j:=ak.gs g _ _ m;refine⟨λi d e=>?_,xs,h,by rw[j.length];exact Ae _⟩;obtain⟨x,hx,r⟩:=j.get e;refine⟨⟨xs,x,h,hx⟩,λy H' ⟨l,q⟩=>?_⟩;subst l;have:=q xs h;rw[hx]at this;cases this;exact⟨r,.inl rfl⟩
def Zt(lo:Int)(n:Nat):List DV:=(List.range n).map λ(i:Nat)=>.int (lo+(i:Int))
theorem QdA{K:Aa}{lo:Int}{n:Nat}:n8 K ρ B H (Zt lo n) (Itr lo n):=λρ1 B1 H1 g _ _=>by
 refine⟨λi d e=>?_,by show n<=_;simp[Zt]⟩;have hi:i<n:=by have:=(Ac.mp e).1;simpa [Zt]using this
 refine⟨hi,λy H' ⟨h,q⟩=>?_⟩;subst h q;have:d=.int (lo+i):=by simp[Zt,hi]at e;exact e.symm
 subst this;exact⟨Xa,.inl rfl⟩
variable{tg iter:Expr}
def _root_.L2.PI.imp{l j:TI}(h:PI X tg iter l)(i:∀σ H R,j σ H R->l σ H R):PI X tg iter j:=λm s σ H R I q=>h m s σ H R I (i σ H R q)
theorem HX(h:DE X iter f):DI X tg iter (mR f):=(MB h).imp λσ H R j=>by obtain⟨Z,env,ρ,B,U,ds,n,S,e,k⟩:=j;obtain⟨d,hp1,l,m⟩:=Qf e;obtain⟨rfl,rfl⟩:=Yk m;refine tD.run S l λv ρ1 B1 H1 g1 S1 o=>?_;obtain⟨a,xs,rfl,nb,i,q⟩:=o.tupI;exact⟨a,rfl,⟨xs,i⟩,k _ ρ1 B1 H1 g1 S1.wo (BD nb i q)⟩
def U6(j:Int):Bool:=decide (-(2 ^ 62)<=j/\j<2 ^ 62)
def nT:List DV->M (List DV)
 | [.int j]=>do QB (U6 j);pure (Zt 0 j.toNat)
 |_=>failure
def zN(f:cu):lA:=λenv=>do nT (<- f env)
theorem Qcy{ds out:List DV}{U i:Hs}(h:nT ds U=some (out,i)):∃j:Int,ds=[.int j]/\U6 j=true/\out=Zt 0 j.toNat/\U=i:=by
 unfold nT at h;split at h
 ·obtain⟨u,hp1,l,m⟩:=Qf h;obtain⟨h1,rfl⟩:=QM l;obtain⟨rfl,rfl⟩:=Qk m;exact⟨_,rfl,h1,rfl,rfl⟩
 ·cases h
theorem ak.ints1{K:Aa}{j:Int}{vs:List V}(h:ak K ρ B H [.int j] vs):vs=[.int j]:=by unfold ak at h;obtain⟨x,r,rfl,h1,h2⟩:=h;unfold ak at h2;rw[h1.aZ,h2]
theorem ak.ints2{K:Aa}{i j:Int}{vs:List V}(h:ak K ρ B H [.int i,.int j] vs):vs=[.int i,.int j]:=by unfold ak at h;obtain⟨x,r,rfl,h1,h2⟩:=h;rw[h1.aZ,h2.ints1]
theorem JX{x:Expr}{p:Pos}{f:cu}(o:Gl X "range")(q:X.mg "range" = none)(n:DA X [x] f)(hs:starEach [x] X.env=[(false,eval x X.env)]:=by rfl):DI X tg (.Call (.Name "range" p) [x] [] pos) (zN f) :=
 (Qct o q n hs).imp λσ H R i=>by obtain⟨Z,env,ρ,B,U,ds,r,S,e,k⟩:=i;obtain⟨d,hp1,l,m⟩:=Qf e;obtain⟨j,rfl,h1,rfl,rfl⟩:=Qcy m;refine fH.run S l λvs ρ1 B1 H1 g1 S1 t=>?_;have h:=Eg h1;exact⟨j,t.ints1,h.1,h.2,k _ ρ1 B1 H1 g1 S1.wo QdA⟩
def zk(b:DV->aD):List DV->aD
  | [],env=>pure (.nx,env)
  |d::ds,env=>do
    let r <- b d env
    match r.1 with
    |.nx=>zk b ds r.2
    |.ct=>zk b ds r.2
    |.bk=>pure (.nx,r.2)
    |.rt x=>pure (.rt x,r.2)
def gq(f:lA)(g:iH)(h:aD):aD:=λenv=>do let ds <- f env;zk (λd env=>do let env' <- g d env;h env') ds env
def A_{K:Aa}{B:Er}{H:Hp}{p:Addr}(rb:∀a∈ρ,B a)(h:H p=none):Gs K ρ B H ρ B (upd H p o):=(Gr.laid h).gs rb
theorem V8{j:List Stmt}{Y:lA}{g:iH}{sb:aD}(U:PassesOwn (model X.prog X.w) X.A X.env X.xe)(hc:X.calm=true)(hi:DI X tg iter Y)(hg:PG X tg (nA X.K g))(hb:fY X j sb)
  (hs:∀x,foldedSetIterable iter X.env x=pure x:=by intro _;rfl):DS X (.For tg iter j [] pos) (gq Y g sb) :=
 (Hj U hc hi hg hb hs).imp λD σ H aK=>by
  obtain⟨Z,env,ρ,B,U,fl,h,n,S,e,k⟩:=aK;obtain⟨ds,hp1,e1,e2⟩:=Qf e;refine⟨Z,env,ρ,B,U,ds,hp1,S,e1,λJ ρ1 F H1 g1 W1 it=>?_⟩;have k1:=k.after (g1.gs S.wo.rb);refine⟨λi m σ H=>m=ds.length-i/\i<=ds.length/\∃env ρ B U,bM X.K Z env σ ρ B U H/\Gs X.K ρ1 F H1 ρ B H/\zk (λd env=>do let h <- g d env;sb h) (ds.drop i) env U=some ((fl,h),n),
   ⟨ds.length,rfl,Be _,env,ρ1,F,hp1,S.grow g1 W1,Gs.refl,by simpa using e2⟩,?_⟩
  rintro i m σ H ⟨rfl,hi,iB,ρ2,B2,hp2,S2,g2,e3⟩;obtain⟨P_,P⟩:=it ρ2 B2 H g2 S2.wo.rb S2.wo.bt;by_cases l:i<ds.length
  ·have hd:ds[i]?=some ds[i]:=Ab l;obtain⟨go,yl⟩:=P_ i _ hd;rw[Bi l]at e3;obtain⟨⟨R,L⟩,I,e4,C⟩:=Qf e3;obtain⟨k_,r,e6,e7⟩:=Qf e4;refine .inr ⟨go,λσ' H'=>∃env ρ B U,bM X.K Z env σ' ρ B U H'/\Gs X.K ρ1 F H1 ρ B H'/\zk (λd env=>do let h <- g d env;sb h) (ds.drop (i+1)) env U=some ((fl,h),n),
    λσ' H' q=>⟨ds.length-(i+1),⋯,rfl,l,q⟩,λx H' y=>?_⟩
   obtain⟨rx,hx⟩:=yl x H' y;have Q:bM X.K Z iB σ ρ2 B2 hp2 H'/\Gs X.K ρ2 B2 H ρ2 B2 H':=by
    rcases hx with rfl|⟨p,o,O,rfl⟩
    ·exact⟨S2,Gs.refl⟩
    ·exact⟨S2.grow (Gr.laid O) (S2.wo.laid O),A_ S2.wo.rb O⟩
   refine⟨Z,iB,ρ2,B2,hp2,ds[i],k_,r,Q.1,rx,e6,λσ5 ρ5 B5 H5 g5 S5=>⟨Z,k_,ρ5,B5,r,R,L,I,S5,e7,λσ6 ρ6 t H6 g6 v=>?_⟩⟩;have u:=g2.trans (Q.2.trans (g5.trans g6));cases R with
   |nx=>exact⟨L,ρ6,t,I,v,u,C⟩
   |ct=>exact⟨L,ρ6,t,I,v,u,C⟩
   |bk=>obtain⟨z,rfl⟩:=Qk C;cases z;exact k1 σ6 ρ6 t H6 u v
   |rt d=>obtain⟨z,rfl⟩:=Qk C;cases z;exact k1 σ6 ρ6 t H6 u v
  ·have e:i=ds.length:=⋯
   subst e;rw[C5]at e3;obtain⟨z,rfl⟩:=Qk e3;cases z;exact .inl ⟨P,k1 σ ρ2 B2 H g2 S2⟩
end
section
variable{K:Aa}{Z:Ent}{env:En}{σ:St}{ρ ρ':Et}{B B':Er}{U hp':Hs}{H H':Hp}
def jW(B:Er)(p:Addr):Addr->Prop:=λa=>B a∨a=p
theorem Gr.banned{p:Addr}(h:H p=none)(kf:K.lookup p=none):Gr K ρ B H ρ (jW B p) (upd H p o) where
 pre:=Cm
 ban:=λ_ h=>.inl h
 new:=λa z=>z.elim .inl λe=>.inr (e▸⟨h,kf⟩)
 bU:=λ_ h=>.inl h
 keep:=λa u _ q=>by rw[QO (ZJ q h)];exact q
 trk:=(Gr.laid (K:=K) (ρ:=ρ) (B:=B) h).trk
theorem aM.banned{p:Addr}(W:aM K ρ B U H)(h:H p=none)(kf:K.lookup p=none):aM K ρ (jW B p) U (upd H p o) where
 len:=W.len
 nd:=W.nd
 obj:=λi a u e q=>bf.gs ((Gr.banned h kf).gs W.rb) (QO (λz=>W.bt a (W.rb a (Aw e)) (z▸h))) (W.obj i a u e q)
 rb:=λa h=>.inl (W.rb a h)
 bt:=λa z q=>by
  have b:=(Gr.laid (K:=K) (ρ:=ρ) (B:=B) h).trk a q;rcases z with z|rfl
  ·exact W.bt a z b
  ·rw[Q3]at q;cases q
 bk:=λa z=>z.elim (W.bk a) λe=>e▸kf
end
section
variable{X:Cx}{e a b c:Expr}{f fa fb:aF}{ca cb:bO}{pos:Pos}{st:Stmt}{sts rest:List Stmt}{s s':aD}
def xY(i:Nat):aD:=λenv=>pure (.nx,env.set i (.acc []))
def jZ(i:Nat)(env:En):En:=match env[i]? with
 |some (.acc ds)=>env.set i (.val (.lst ds))
 |_=>env
def x3(i:Nat)(f:aD):aD:=λenv=>f (jZ i env)
def xZ(i:Nat)(f:aF):aD:=λenv=>do
 let d <- f env
 match env[i]? with
 |some (.acc ds)=>if ds.length<lim then pure (.nx,env.set i (.acc (ds++[d])))else failure
 |_=>failure
def n_:Sl->Sl
 |.val d=>.val d
 |_=>.un
def cE(idx:List Nat)(env:En)(d:DV):En:=.val d::idx.map λi=>n_ ((env[i]?).getD .un)
def vI:bO:=λ_=>pure true
variable{elt iter:Expr}{x:Str}{px:Pos}{ifs:List Expr}{scope:Scope}{cl:List (Str×Addr)}{caps:List Str}{idx:List Nat}{src:lA}{te:bO}
theorem cσ_ok{K:Aa}{Z:Ent}(S:bM K Z env σ ρ B U H)(g:Gs K ρ B H ρ1 B1 H1)(W:aM K ρ1 B1 hp1 H1)(r:au K ρ1 B1 H1 d v):
    bM K ⟨ρ1,B1,H1⟩ (cE idx env d) (cσ idx σ (some v)) ρ1 B1 hp1 H1:=by
  refine⟨Gr.refl,W.bt,W,λi e h=>?_,λi es h=>?_,λi j es m a h=>?_,by simp[cE,cσ]⟩
  . cases i with
    |zero =>
      have:d=e:=by simpa [cE]using h
      subst this;exact⟨v,by simp[cσ],r⟩
    |succ i =>
      cases q:idx[i]? with
      |none=>simp[cE,q]at h
      |some k =>
        have h':n_ ((env[k]?).getD .un)=.val e:=by simpa [cE,q]using h
        cases z:env[k]? with
        |none=>rw[z]at h';cases h'
        |some n =>
          rw[z]at h';cases n with
          |un=>cases h'
          |acc _=>cases h'
          |val l =>
            have:l=e:=by simpa [n_]using h'
            subst this;obtain⟨u,h1,h2⟩:=S.slot k l z;exact⟨u,by simp[cσ,q,h1],au.gs g _ _ h2⟩
  . exfalso
    cases i with
    |zero=>simp[cE]at h
    |succ i =>
      cases q:idx[i]? with
      |none=>simp[cE,q]at h
      |some k =>
        have h':n_ ((env[k]?).getD .un)=.acc es:=by simpa [cE,q]using h
        cases z:(env[k]?).getD .un with
        |un=>rw[z]at h';cases h'
        |acc _=>rw[z]at h';cases h'
        |val _=>rw[z]at h';cases h'
  . exfalso
    cases i with
    |zero=>simp[cE]at h
    |succ i =>
      cases q:idx[i]? with
      |none=>simp[cE,q]at h
      |some k =>
        have h':n_ ((env[k]?).getD .un)=.acc es:=by simpa [cE,q]using h
        cases z:(env[k]?).getD .un with
        |un=>rw[z]at h';cases h'
        |acc _=>rw[z]at h';cases h'
        |val _=>rw[z]at h';cases h'
def sH(X:Cx)(ifs:List Expr)(t:bO):Prop:=ou X ifs (fB X.K t)
theorem VI:sH X [] vI:=λh s σ H Q I i=>by obtain⟨Z,env,ρ,B,U,d,j,S,e,k⟩:=i;obtain⟨rfl,rfl⟩:=Qk e;exact D8 h s σ H Q I (k ρ B H Gr.refl S.wo)
def jd(h:DT X c te):sH X [c] te:=D7 h
def Zb(n:Nat)(h:aD):List DV->M DV:=λds=>do
 let r <- h (ds.map .val++List.replicate (n-ds.length) .un)
 match r.1 with
 |.nx=>pure .non
 |.rt d=>pure d
 |_=>failure
def iJ(K:Aa)(n:Nat)(F:Eu):Sp:=λvs H Q _=>vs.length=n/\∃ρ B U ds d h,aM K ρ B U H/\ak K ρ B H ds vs/\F ds U=some (d,h)/\iG K ρ B H d h Q
structure Has(P:Program)(w:World)(K:Aa)(mg:Em)(O8:Heap)(x:Str)(k n:Nat)(F:Eu):Prop where
 ex:∃(g:Addr)(fd:FuncData)(ps:List Str),zA P w K mg O8 CX0 k g fd ps (iJ K n F)/\Binds K fd ps []/\PySem.W.keepIn K (.ref g)=true/\mg x=some (.ref g)
theorem yS{K:Aa}{N:List Str}(W:aM K ρ B U H)(r:ak K ρ B H ds vs):
  bM K ⟨ρ,B,H⟩ (ds.map .val++List.replicate (N.length-ds.length) .un) (L2.start N vs) ρ B U H:=by
 have m:=r.length;have at_:∀{i:Nat}{z:Sl},(ds.map Sl.val++List.replicate (N.length-ds.length) Sl.un)[i]?=some z->z=.un∨∃d,ds[i]?=some d/\z=.val d:=λ{i z} h=>by
  by_cases hi:i<ds.length
  ·rw[Ah (by simpa using hi),Bu,Ab hi]at h;cases h;exact .inr ⟨_,Ab hi,rfl⟩
  ·rw[Aq (by simpa using hi),List.getElem?_replicate]at h;split at h
   ·cases h;exact .inl rfl
   ·cases h
 refine⟨Gr.refl,W.bt,W,λi d h=>?_,λi es h=>?_,λi j es l a h=>?_,by unfold L2.start;simp;lia⟩
 ·rcases at_ h with z|⟨d',q,z⟩
  ·cases z
  ·cases z;obtain⟨v,h1,h2⟩:=r.get q;refine⟨v,?_,h2⟩;unfold L2.start;have hi:i<vs.length:=(Ac.mp h1).1;rw[Ah (by simpa using hi),Bu,h1];rfl
 ·rcases at_ h with z|⟨d',q,z⟩<;>cases z
 ·rcases at_ h with z|⟨d',q,z⟩<;>cases z
theorem Hy{P:Program}{w:World}{K:Aa}{mg:Em}{O8:Heap}{x:Str}{g:Addr}{k:Nat}{j:aD}(F:Fun K x x stm g fd)(q:Qv N ps (Qo stm))(y:mg x=some (.ref g))
  (hb:∀(kV n I:Value)(t:Option Addr)(i ct:Value)(us:List Value),us.length=ps.length->bindArgs (PySem.W.fnOf x x (JW stm) (ZK stm) (Qo stm) .none kV n I t i ct) ⟨us,[]⟩=pure (ps.zip us))
  (h:∀(i:Value)(A:Around)(outer:List Env)(s:Shared)(H:Hp)(E:XK),Room k (A.deeper (envOfC x (Qo stm) s.heap.objs.size g i))->fY (Vx CX0 P w K mg O8 N x (Qo stm) g i A outer s H E).nox (ZK stm) j) :
  Has P w K mg O8 x (k+1) ps.length (Zb N.length j):=by
 refine⟨g,fd,ps,F.ok q (λvs H Q E h=>h.1) (λi A outer s H vs Q E C sp=>?_),F.binds hb,F.kp,y⟩;obtain⟨L,ρ,B,U,ds,d,z,W,r,e,k⟩:=sp;obtain⟨⟨o,l⟩,hp1,u,m⟩:=Qf e;refine⟨_,h i A outer s H E C,⟨ρ,B,H⟩,_,ρ,B,U,o,l,hp1,yS W r,u,λσ' ρ' B' H' g' S'=>?_⟩;cases o with
 |nx=>obtain⟨rfl,rfl⟩:=Qk m;exact k .non ρ' B' H' S'.gr S'.wo jp
 |rt x=>obtain⟨rfl,rfl⟩:=Qk m;exact λv J=>k v ρ' B' H' S'.gr S'.wo J
 |bk=>cases m
 |ct=>cases m
def Qs(n:Nat)(F:Eu)(a:cu):aF:=λenv=>do
 let ds <- a env
 QB (decide (ds.length=n))
 F ds
theorem QE{y:Str}{k j n:Nat}{F:Eu}{e:Expr}{es:List Expr}{fa:cu}{p:Pos}(h:Has X.prog X.w X.K X.mg X.O8 y j n F)(R:Room k X.A)(I:j<=k)(hx:YR CX0 X E0)(v:DA X (e::es) fa)(C:Gl X y:=by rfl)
  (hdb:(y==("__debug__" : Str))=false:=by decide) (he:starEach (e::es) X.env=(false,eval e X.env)::starEach es X.env:=by rfl) (hpl:(backTo pos (starEach es X.env)).any (·.1)=false:=by rfl):DE X (.Call (.Name y p) (e::es) [] pos) (Qs n F fa):=by
 obtain⟨g,fd,ps,o,z,J,O⟩:=h.ex;refine L2.PE.imp (Sf o (R.mono I) C O J z .nil hx v hdb he hpl) λσ H Q q=>?_;obtain⟨Z,env,ρ,B,U,d,i,S,e,k⟩:=q;obtain⟨ds,hp1,r,t⟩:=Qf e;obtain⟨_,P,u,e4⟩:=Qf t;obtain⟨L,rfl⟩:=QM u;refine fH.run S r λvs ρ1 m H1 g1 S1 l=>?_;refine⟨by rw[Bt,<- l.length];exact Eg L,ρ1,m,hp1,ds,d,i,S1.wo,by rw[Bt];exact l,e4,k.after g1⟩
end
section
variable{X:Cx}{e a b c:Expr}{f fa fb fc:aF}{ca cb:bO}{pos:Pos}
def zm(C:Int->Int->Bool)(g:Int->Int->DV):DV->DV->M DV
 |.int i,.int j=>if C i j then pure (g i j)else failure
 |_,_=>failure
theorem yF{C:Int->Int->Bool}{g:Int->Int->DV}{x y d:DV}{U l:Hs}(h:zm C g x y U=some (d,l)):∃i j,x=.int i/\y=.int j/\C i j=true/\d=g i j/\U=l:=by
 unfold zm at h;split at h
 ·rename_i i j;by_cases m:C i j=true
  ·rw[Eb m]at h;obtain⟨rfl,rfl⟩:=Qk h;exact⟨i,j,rfl,rfl,m,rfl,rfl⟩
  ·rw[Ea m]at h;cases h
 ·cases h
theorem vm{g:Value->Value->Sem Value}{C:Int->Int->Bool}{P:Int->Int->Prop}{q:Int->Int->Int}(o:OpR X g (rI P λi j=>.int (q i j)))(m:∀i j,C i j=true->P i j):P2 X g (zm C λi j=>.int (q i j)):=by intro l s σ H x y v u Q I rx ry h;refine o l s σ H x y v u Q I rx ry ?_;obtain⟨ρ,B,U,F,J,d,r,W,t,z,e,k⟩:=h;obtain⟨i,j,rfl,rfl,n,rfl,rfl⟩:=yF e;exact⟨i,j,t.aZ,z.aZ,m i j n,k _ ρ B H Gr.refl W Xa⟩
theorem BS{g:Value->Value->Sem Value}{q:Int->Int->Int}(m:OpR X g (rI0 λi j=>.int (q i j))):P2 X g (zm (λ_ _=>true) λi j=>.int (q i j)):=by intro l s σ H x y v u Q I rx ry h;refine m l s σ H x y v u Q I rx ry ?_;obtain⟨ρ,B,U,t,z,d,n,W,o,r,e,k⟩:=h;obtain⟨i,j,rfl,rfl,C,rfl,rfl⟩:=yF e;exact⟨i,j,o.aZ,r.aZ,k _ ρ B H Gr.refl W Xa⟩
theorem VM{g:Value->Value->Sem Value}{q:Int->Int->Bool}(m:OpR X g (rI0 λi j=>.bl (q i j))):P2 X g (zm (λ_ _=>true) λi j=>.bl (q i j)):=by intro l s σ H x y v u Q I rx ry h;refine m l s σ H x y v u Q I rx ry ?_;obtain⟨ρ,B,U,t,z,d,n,W,o,r,e,k⟩:=h;obtain⟨i,j,rfl,rfl,C,rfl,rfl⟩:=yF e;exact⟨i,j,o.aZ,r.aZ,k _ ρ B H Gr.refl W Ja⟩
def wI(i j:Int):Bool:=decide ((-(2 ^ 64)<i/\i<2 ^ 64)∨(-(2 ^ 64)<j/\j<2 ^ 64))
def DP(_ j:Int):Bool:=decide (0<j/\j<1073741824)
def DN(_ j:Int):Bool:=decide (0<j)
def Ti(i j:Int):Bool:=decide (0<=j/\j<=1000000/\i.natAbs<2 ^ 64)
def KK:DV->DV->M DV:=zm (λ_ _=>true) λi j=>.int (i-j)
def qh:DV->DV->M DV:=zm wI λi j=>.int (i * j)
def pq:DV->DV->M DV:=zm DP λi j=>.int (i / j)
def Ur:DV->DV->M DV:=zm DN λi j=>.int (i % j)
def zS:DV->DV->M DV:=zm Ti λi j=>.int (i ^ j.toNat)
def eO:DV->DV->M DV:=zm (λ_ _=>true) λi j=>.bl (decide (i<j))
def iy:DV->DV->M DV:=zm (λ_ _=>true) λi j=>.bl (decide (i<=j))
def lZ:DV->DV->M DV:=zm (λ_ _=>true) λi j=>.bl (decide (j<i))
def nP:DV->DV->M DV:=zm (λ_ _=>true) λi j=>.bl (decide (j<=i))
def Uw:P2 X (binaryOp .Sub) KK:=BS W8
def jM:P2 X (binaryOp .Mult) qh:=vm W_ λi j h=>Eg (p:=(-(2 ^ 64)<i/\i<2 ^ 64)∨(-(2 ^ 64)<j/\j<2 ^ 64)) h
def FW:P2 X (binaryOp .FloorDiv) pq:=vm BV λi j h=>Eg (p:=0<j/\j<1073741824) h
def Vd:P2 X (binaryOp .Mod) Ur:=vm X_ λ_ _ h=>Eg h
def jN:P2 X (binaryOp .Pow) zS:=vm W9 λi j h=>Eg (p:=0<=j/\j<=1000000/\i.natAbs<2 ^ 64) h
def vn:P2 X (compareOp .Lt) eO:=VM W7
def pC:P2 X (compareOp .LtE) iy:=VM Wj
def wG:P2 X (compareOp .Gt) lZ:=VM Wl
def EY:P2 X (compareOp .GtE) nP:=VM Wm
def El:DV->M DV
 |.int i=>pure (.int (-i))
 |_=>failure
def xH(f:aF):aF:=λenv=>do El (<- f env)
theorem QdY:OpR X (binaryOp .Add) (λx y H Q=>∃a b ys,x=.ref a/\y=.ref b/\SqT X.K H a []/\SqT X.K H b ys/\ys.length<=sizeLine/\Q (.ref b) H):=by
 intro O s σ H x y v u Q I rx ry h;obtain⟨a,b,ys,rfl,rfl,l,o,hz,q⟩:=h;cases rx;cases ry;obtain⟨i,C,r,_⟩:=I.tuple l;obtain⟨j,J,t,_⟩:=I.tuple o;obtain⟨m,F⟩:=I.fr;have z:i=[]:=by cases C;rfl
 subst z;exact add_tuples F (QdT (g:=X.O8) (L:=X.env.locals)) r t (λ_=>⟨.ref b,H,I,rfl,q⟩) (λn=>absurd rfl n) (λn=>absurd rfl n) (by have:=J.length;simp;lia)
def ZE:DV->DV->M DV
 |.int i,.int j=>pure (.int (i+j))
 |.tup xs,.tup ys=>do QB (YN (xs++ys));pure (.tup (xs++ys))
 |.lst xs,.lst ys=>do QB (YN (xs++ys));pure (.lst (xs++ys))
 |_,_=>failure
theorem Iv:OpR X (binaryOp .Add) (λx y H Q=>∃l b xs m,x=.ref l/\y=.ref b/\SqL X.K H l xs/\SqL X.K H b m/\xs.length+m.length<=sizeLine/\∀p,H p=none->Q (.ref p) (upd H p (.lst (xs++m)))):=by
 intro O9 s σ H x y v u Q I rx ry h;obtain⟨l,b,xs,m,rfl,rfl,hl,hb,hz,q⟩:=h;cases rx;cases ry;obtain⟨j,P,⟨⟨k1,av,ab,o⟩,n1,L,t,C,U⟩,_⟩:=I.list hl;obtain⟨i,R,⟨⟨k2,ay,ae,r⟩,n2,O,z,J,Y⟩,_⟩:=I.list hb;simp only at t C U z J Y;subst t C U z J Y;have ea:j.toArray++i.toArray=(j++i).toArray:=by simp
 have n:j.length+i.length<=sizeLine:=by rw[<- P.length,<- R.length];exact hz
 refine concat_meets (T := "list") ⟨_,L,rfl⟩ ⟨_,O,rfl⟩ noFill_list_add seq_list_add PySem.F.slot_list_add PySem.F.entry_list_add (PySem.F.args_list_add_2 _ _) (list_addW l b j.toArray i.toArray n1 n2 none none o r (by simpa using n)) ⟨L,O,?_⟩;rw[ea];exact⟨.ref _,_,I.lnew (t':=s.toks) (P.append R) (by rw[An];exact hz),rfl,q _ I.fresh⟩
theorem Z8:P2 X (binaryOp .Add) ZE:=by
 intro n s σ H x y v u Q I rx ry h;obtain⟨ρ,B,U,L,O,d,J,W,r,t,e,k⟩:=h;unfold ZE at e;split at e
 ·obtain⟨rfl,rfl⟩:=Qk e;exact Z_ n s σ H x y v u Q I rx ry ⟨_,_,r.aZ,t.aZ,k _ ρ B H Gr.refl W Xa⟩
 ·rename_i xs ys;obtain⟨_,hp1,o,q⟩:=Qf e;obtain⟨hs,rfl⟩:=QM o;obtain⟨rfl,rfl⟩:=Qk q;obtain⟨a,vs,rfl,C,l,i⟩:=r.tupI;obtain⟨b,ws,rfl,F,m,j⟩:=t.tupI;have hz:vs.length+ws.length<=sizeLine:=by have:=qu hs;rw[An]at this;rw[<- i.length,<- j.length];exact this
  by_cases z:vs=[]
  ·subst z;have:xs=[]:=by have:=i.length;cases xs with|nil=>rfl|cons _ _=>simp at this
   subst this;exact QdY n s σ H _ _ v u Q I rx ry ⟨a,b,ws,rfl,rfl,l,m,by simp at hz;exact hz,k _ ρ B H Gr.refl W (qP F m j)⟩
  ·refine BY n s σ H _ _ v u Q I rx ry ⟨a,b,vs,ws,rfl,rfl,l,m,z,hz,λhw=>?_,λhw=>xK W (ak.append i j) k⟩;subst hw;have:ys=[]:=by have:=j.length;cases ys with|nil=>rfl|cons _ _=>simp at this
   subst this;rw[Bt]at k;exact k _ ρ B H Gr.refl W (qP C l i)
 ·rename_i xs ys;obtain⟨_,hp1,o,q⟩:=Qf e;obtain⟨hs,rfl⟩:=QM o;obtain⟨rfl,rfl⟩:=Qk q;obtain⟨a,vs,rfl,C,l,i⟩:=r.bK;obtain⟨b,ws,rfl,F,m,j⟩:=t.bK;have hz:vs.length+ws.length<=sizeLine:=by have:=qu hs;rw[An]at this;rw[<- i.length,<- j.length];exact this
  exact Iv n s σ H _ _ v u Q I rx ry ⟨a,b,vs,ws,rfl,rfl,l,m,hz,ji W (ak.append i j) k⟩
 ·cases e
def tO:DV->Bool
 |.non=>true
 |_=>false
theorem Lj{K:Aa}{v:V}(r:au K ρ B H d v):decide (v=.non)=tO d:=by
 cases d with
 |non=>rw[r.eX];rfl
 |bl b=>rw[r.fD];rfl
 |int b=>rw[r.aZ];rfl
 |str b=>rw[r.fJ];rfl
 |tup b=>obtain⟨a,xs,rfl,_⟩:=r.tupI;rfl
 |lst b=>obtain⟨a,xs,rfl,_⟩:=r.bK;rfl
 |ref b=>obtain⟨a,rfl,_⟩:=r.oJ;rfl
def isD:DV->DV->M DV
 |x,.non=>pure (.bl (tO x))
 |.bl p,.bl q=>pure (.bl (p==q))
 |_,_=>failure
def qK:DV->DV->M DV
 |x,.non=>pure (.bl (!tO x))
 |.bl p,.bl q=>pure (.bl (p != q))
 |_,_=>failure
theorem m5:P2 X (compareOp .Is) isD:=by
 intro l s σ H x y v u Q I rx ry h;obtain⟨ρ,B,U,n,o,d,m,W,i,j,e,k⟩:=h;unfold isD at e;split at e
 ·obtain⟨rfl,rfl⟩:=Qk e;refine Y_ l s σ H x y v u Q I rx ry ⟨j.eX,?_⟩;rw[Lj i];exact k _ ρ B H Gr.refl W Ja
 ·obtain⟨rfl,rfl⟩:=Qk e;obtain rfl:=i.fD;obtain rfl:=j.fD;cases rx;cases ry;exact is_bool ⟨.bl _,H,I,rfl,k _ ρ B H Gr.refl W Ja⟩
 ·cases e
theorem Vc:P2 X (compareOp .IsNot) qK:=by
 intro l s σ H x y v u Q I rx ry h;obtain⟨ρ,B,U,n,o,d,m,W,i,j,e,k⟩:=h;unfold qK at e;split at e
 ·obtain⟨rfl,rfl⟩:=Qk e;refine BU l s σ H x y v u Q I rx ry ⟨j.eX,?_⟩;rw[Lj i];exact k _ ρ B H Gr.refl W Ja
 ·obtain⟨rfl,rfl⟩:=Qk e;obtain rfl:=i.fD;obtain rfl:=j.fD;cases rx;cases ry;exact isnot_bool ⟨.bl _,H,I,rfl,k _ ρ B H Gr.refl W Ja⟩
 ·cases e
theorem GJ{K:Aa}{i:Int}(r:ak K ρ B H ds xs)(h:atI ds i=some d):∃x,atI xs i=some x/\au K ρ B H d x:=by
  unfold atI at h ⊢;rw[<- r.length];cases q:ixN ds.length i with
  |none=>rw[q]at h;cases h
  |some j=>rw[q]at h;exact r.get h
def bL:DV->DV->M DV
  |.tup ds,.int i=>match atI ds i with
    |some d=>pure d
    |none=>failure
  |.lst ds,.int i=>match atI ds i with
    |some d=>pure d
    |none=>failure
  |_,_=>failure
theorem Ez:IxR X (m_ X.K bL):=by
  intro value slice O9 s σ H x y v u Q I rx ry h hsub;obtain⟨ρ,B,U,C,F,d,r,W,n,o,e,k⟩:=h;unfold bL at e;split at e
  . rename_i ds i
    cases q:atI ds i with
    |none=>rw[q]at e;cases e
    |some d' =>rw[q]at e;obtain⟨rfl,rfl⟩:=Qk e;obtain⟨a,xs,rfl,t,l,j⟩:=n.tupI;obtain⟨z,hz,m⟩:=GJ j q;exact WS value slice O9 s σ H _ _ v u Q I rx ry ⟨a,xs,i,z,rfl,o.aZ,l,hz,k _ ρ B H Gr.refl W m⟩ hsub
  . rename_i ds i
    cases q:atI ds i with
    |none=>rw[q]at e;cases e
    |some d' =>rw[q]at e;obtain⟨rfl,rfl⟩:=Qk e;obtain⟨a,xs,rfl,t,l,j⟩:=n.bK;obtain⟨z,hz,m⟩:=GJ j q;exact Le value slice O9 s σ H _ _ v u Q I rx ry ⟨a,xs,i,z,rfl,o.aZ,l,hz,k _ ρ B H Gr.refl W m⟩ hsub
  . cases e
theorem JN(i:DE X a fa)(j:DE X b fb)(hs:GE b:=by intro _ _;rfl):DE X (.Subscript a b pos) (Qi bL fa fb):=L2.PE.imp (FQ Ez i j hs) λ_ _ _ h=>zD h
end
mutual
def toP:DV->PyData
 |.non=>.none
 |.bl b=>.bool b
 |.int i=>.int i
 |.str x=>.str x
 |.tup xs=>.tuple (bZ xs)
 |.lst xs=>.list (bZ xs)
 |.ref _=>.none
def bZ:List DV->List PyData
 | []=>[]
 |d::ds=>toP d::bZ ds
end
mutual
def Gd:DV->Bool
 |.ref _=>false
 |.tup xs=>cV xs
 |.lst xs=>cV xs
 |_=>true
def cV:List DV->Bool
 | []=>true
 |d::ds=>Gd d&&cV ds
end
section
variable{X:Cx}{O9:Ek}{σ:St}{H:Hp}{s:Shared}{ρ:Et}{B:Er}
mutual
theorem UH(I:Inv X O9 σ H s):∀(d:DV)(v:V)(u:Value),au X.K ρ B H d v->RelV v u->Gd d=true->∃h,Reads s.heap u (toP d) h
  |.non,_,_,r,c,_=>by obtain rfl:=r.eX;cases c;exact⟨[],by unfold toP;exact .none⟩
  |.bl b,_,_,r,c,_=>by obtain rfl:=r.fD;cases c;exact⟨[],by unfold toP;exact .bool b⟩
  |.int i,_,_,r,c,_=>by obtain rfl:=r.aZ;obtain⟨t,rfl⟩:=c;exact⟨[],by unfold toP;exact .int i t⟩
  |.str x,_,_,r,c,_=>by obtain rfl:=r.fJ;obtain⟨t,rfl⟩:=c;exact⟨[],by unfold toP;exact .str x t⟩
  |.ref _,_,_,_,_,n=>by cases n
  |.tup ds,_,_,r,c,n=>by obtain⟨a,xs,rfl,_,y,l⟩:=r.tupI;cases c;obtain⟨f,m,⟨o,e,j,k,hd⟩,_⟩:=I.tuple y;obtain⟨h,q⟩:=cC I ds xs f l m (by unfold Gd at n;exact n);exact⟨_,by unfold toP;exact reads_tuple_at e j hd (by simpa using q)⟩
  |.lst ds,_,_,r,c,n=>by obtain⟨a,xs,rfl,_,y,l⟩:=r.bK;cases c;obtain⟨f,m,⟨o,k,e,j,_,hd⟩,_⟩:=I.list y;obtain⟨h,q⟩:=cC I ds xs f l m (by unfold Gd at n;exact n);exact⟨_,by unfold toP;exact reads_list_at e j hd (by simpa using q)⟩
theorem cC(I:Inv X O9 σ H s):∀(ds:List DV)(xs:List V)(us:List Value),ak X.K ρ B H ds xs->Vals xs us->cV ds=true->∃b,ReadsAll s.heap us (bZ ds) b
  | [],_,_,r,a,_=>by unfold ak at r;subst r;cases a;exact⟨[],by unfold bZ;exact .nil⟩
  |d::ds,_,_,r,a,n=>by
    unfold ak at r;obtain⟨x,xs,rfl,f,h⟩:=r;cases a with
    |cons c e=>unfold cV at n;rw[Bc]at n;obtain⟨b,h1⟩:=UH I d x _ f c n.1;obtain⟨bs,h2⟩:=cC I ds xs _ h e n.2;exact⟨_,by unfold bZ;exact .cons h1 h2⟩
end
end
def iY(d:DV):Bool:=Gd d&&SeqAt.shaped (toP d)
def j_:DV->DV->M DV:=λx y=>do QB (iY x&&iY y);pure (.bl (PyData.eqv (toP x) (toP y)))
def CZ:DV->DV->M DV:=λx y=>do QB (iY x&&iY y);pure (.bl (!PyData.eqv (toP x) (toP y)))
section
variable{X:Cx}{e a b c:Expr}{f fa fb fc:aF}{ca cb:bO}{pos:Pos}
theorem rJ(o:X.A.units+64<cLine):P2 X (compareOp .Eq) j_:=by intro C s σ H x y v u Q I rx ry h;obtain⟨ρ,B,U,i,j,d,n,W,t,z,e,k⟩:=h;obtain⟨_,hp1,l,m⟩:=Qf e;obtain⟨hs,rfl⟩:=QM l;obtain⟨rfl,rfl⟩:=Qk m;simp only[iY,Bc]at hs;obtain⟨F,q⟩:=UH I i x v t rx hs.1.1;obtain⟨bs,r⟩:=UH I j y u z ry hs.2.1;exact eq_dataH q r hs.1.2 hs.2.2 o ⟨.bl _,H,I,rfl,k _ ρ B H Gr.refl W Ja⟩
def iT(K:Aa)(g:Eu):List V->Hp->VK->Prop:=λxs H Q=>∃ρ B U ds d h,aM K ρ B U H/\ak K ρ B H ds xs/\g ds U=some (d,h)/\iG K ρ B H d h Q
def ZO(g:Eu)(a:cu):aF:=λenv=>do g (<- a env)
theorem uA{K:Aa}{g:Eu}{fa:cu}{σ:St}{H:Hp}{Q:VK}(h:tD K (ZO g fa) σ H Q):tCB (iT K g) (fH K fa) σ H Q:=by obtain⟨Z,env,ρ,B,U,d,i,S,e,k⟩:=h;obtain⟨ds,hp1,l,m⟩:=Qf e;exact fH.run S l λvs ρ1 j H1 g1 S1 n=>⟨ρ1,j,hp1,ds,d,i,S1.wo,n,m,k.after g1⟩
theorem Xc{x:Str}{id:String}{g:Eu}{e:Expr}{es:List Expr}{fa:cu}{p:Pos}(l:CallR X (.builtin id) (iT X.K g))(n:X.mg x=none)(q:bootBuiltins x=some (.builtin id))(j:DA X (e::es) fa)(m:Gl X x:=by rfl)(o:x ≠ "__name__" := by decide)(i:(x==("__debug__" : Str))=false:=by decide)
  (he:starEach (e::es) X.env=(false,eval e X.env)::starEach es X.env:=by rfl) (hpl:(backTo pos (starEach es X.env)).any (·.1)=false:=by rfl):DE X (.Call (.Name x p) (e::es) [] pos) (ZO g fa) :=
 L2.PE.imp (Uz l m n q j o i he hpl) λ_ _ _ h=>uA h
theorem rQ{x:Str}{T:String}{g:Eu}{e:Expr}{es:List Expr}{fa:cu}{p:Pos}(l:CallR X (.type T) (iT X.K g))(n:X.mg x=none)(q:bootBuiltins x=some (.type T))(j:DA X (e::es) fa)(m:Gl X x:=by rfl)(o:x ≠ "__name__" := by decide)(i:(x==("__debug__" : Str))=false:=by decide)
  (he:starEach (e::es) X.env=(false,eval e X.env)::starEach es X.env:=by rfl) (hpl:(backTo pos (starEach es X.env)).any (·.1)=false:=by rfl):DE X (.Call (.Name x p) (e::es) [] pos) (ZO g fa) :=
 L2.PE.imp (Qco l m n q j o i he hpl) λ_ _ _ h=>uA h
theorem ak.b_{K:Aa}{vs:List V}(h:ak K ρ B H [d] vs):∃v,vs=[v]/\au K ρ B H d v:=by unfold ak at h;obtain⟨x,r,rfl,h1,h2⟩:=h;unfold ak at h2;subst h2;exact⟨x,rfl,h1⟩
def qM:List DV->M DV
 | [.tup ds]=>pure (.int ds.length)
 | [.lst ds]=>pure (.int ds.length)
 |_=>failure
theorem rR:CallR X (.builtin "len") (iT X.K qM):=by
 intro m s σ H xs us Q I r h;obtain⟨ρ,B,U,ds,d,o,W,n,e,k⟩:=h;unfold qM at e;split at e
 ·obtain⟨rfl,rfl⟩:=Qk e;obtain⟨v,rfl,i⟩:=n.b_;obtain⟨a,ys,rfl,_,j,l⟩:=i.tupI;exact qG m s σ H _ us Q I r ⟨a,ys,rfl,.inr j,by rw[<- l.length];exact k _ ρ B H Gr.refl W Xa⟩
 ·obtain⟨rfl,rfl⟩:=Qk e;obtain⟨v,rfl,i⟩:=n.b_;obtain⟨a,ys,rfl,_,j,l⟩:=i.bK;exact qG m s σ H _ us Q I r ⟨a,ys,rfl,.inl j,by rw[<- l.length];exact k _ ρ B H Gr.refl W Xa⟩
 ·cases e
def vi:List DV->M DV
 | [.int i,.int j]=>pure (.int (if j<i then j else i))
 |_=>failure
theorem wX(j:X.calm=true):CallR X (.builtin "min") (iT X.K vi):=by
 intro i s σ H xs us Q I r h;obtain⟨ρ,B,U,ds,d,l,W,m,e,k⟩:=h;unfold vi at e;split at e
 ·obtain⟨rfl,rfl⟩:=Qk e;exact Qb0 j i s σ H xs us Q I r ⟨_,_,m.ints2,k _ ρ B H Gr.refl W Xa⟩
 ·cases e
def wC:List DV->M DV
 | [.lst ds]=>pure (.tup ds)
 | [.tup ds]=>pure (.tup ds)
 |_=>failure
theorem Qe1:CallR X (.type "tuple") (iT X.K wC):=by
 intro m s σ H xs us Q I r h;obtain⟨ρ,B,U,ds,d,o,W,n,e,k⟩:=h;unfold wC at e;split at e
 ·obtain⟨rfl,rfl⟩:=Qk e;obtain⟨v,rfl,j⟩:=n.b_;obtain⟨a,ys,rfl,_,i,l⟩:=j.bK;exact YT m s σ H _ us Q I r ⟨a,ys,rfl,.inl ⟨i,xK W l k⟩⟩
 ·obtain⟨rfl,rfl⟩:=Qk e;obtain⟨v,rfl,j⟩:=n.b_;obtain⟨a,ys,rfl,nb,i,l⟩:=j.tupI;exact YT m s σ H _ us Q I r ⟨a,ys,rfl,.inr ⟨i,k _ ρ B H Gr.refl W (qP nb i l)⟩⟩
 ·cases e
def Kb:DV->Option String
 |.non=>some "NoneType"
 |.bl _=>some "bool"
 |.int _=>some "int"
 |.str _=>some "str"
 |.tup _=>some "tuple"
 |.lst _=>some "list"
 |.ref _=>none
def Kz(t T:String):Bool:=t==T||(t == "bool" && T == "int")
def o_(T:String)(f:aF):aF:=λenv=>do
 match Kb (<- f env)with
 |some t=>pure (.bl (Kz t T))
 |none=>failure
theorem Fp{T:String}(O:T∈["int", "bool", "tuple", "str", "list"]):CallR X (.builtin "isinstance") (λxs H Q=>∃ρ B d x t,xs=[x,.ty T]/\au X.K ρ B H d x/\Kb d=some t/\Q (.bl (Kz t T)) H):=by
  intro P s σ H xs us Q I r h;obtain⟨ρ,B,d,x,t,rfl,n,l,q⟩:=h;obtain⟨u,w',rfl,m,J⟩:=gY r;cases J;have i:∀v,EP X P σ Q (.bool (Kz t T)) { s with toks:=v }:=λv=>⟨.bl _,H,I.tok _,rfl,q⟩;have j:PySem.W.kitOne X.K (.type t) (.type T)=some (Kz t T):=by
    have:t∈["NoneType", "bool", "int", "str", "tuple", "list"]:=by cases d<;>cases l<;>simp
    simp only[Bk,Cf,or_false]at this O;rcases this with rfl|rfl|rfl|rfl|rfl|rfl<;>rcases O with rfl|rfl|rfl|rfl|rfl<;>first|rfl|decide|with_unfolding_all rfl|kernel_rfl
  cases d with
  |non=>obtain rfl:=n.eX;cases l;cases m;exact PySem.W.kia_one PySem.W.kitx_none I.kIn True.intro j (λz=>nomatch z) i
  |bl b=>obtain rfl:=n.fD;cases l;cases m;exact PySem.W.kia_one PySem.W.kitx_bool I.kIn True.intro j (λz=>nomatch z) i
  |int b=>obtain rfl:=n.aZ;cases l;obtain⟨v,rfl⟩:=m;exact PySem.W.kia_one PySem.W.kitx_int I.kIn True.intro j (λz=>nomatch z) i
  |str b=>obtain rfl:=n.fJ;cases l;obtain⟨v,rfl⟩:=m;exact PySem.W.kia_one PySem.W.kitx_str I.kIn True.intro j (λz=>nomatch z) i
  |ref b=>cases l
  |tup b=>cases l;obtain⟨a,ys,rfl,_,L,_⟩:=n.tupI;cases m;obtain⟨F,_,⟨o,y,C,_⟩,_⟩:=I.tuple L;exact PySem.W.kia_one PySem.W.kitx_tuple I.kIn ⟨o,y,C⟩ j (λz=>nomatch z) i
  |lst b=>cases l;obtain⟨a,ys,rfl,_,L,_⟩:=n.bK;cases m;obtain⟨F,_,⟨o,k,y,C,_⟩,_⟩:=I.list L;exact PySem.W.kia_one PySem.W.kitx_list I.kIn ⟨o,y,C⟩ j (λz=>nomatch z) i
theorem kH{T:String}{p p':Pos}(y:X.mg "isinstance" = none)(l:X.mg (Str.ofString T)=none)(C:bootBuiltins (Str.ofString T)=some (.type T))(r:T∈["int", "bool", "tuple", "str", "list"])(h:DE X e f)(u:Gl X "isinstance" := by rfl)(j:Gl X (Str.ofString T):=by rfl)
    (hn:Str.ofString T ≠ "__name__" := by decide) (hdb:(Str.ofString T==("__debug__" : Str))=false:=by decide) (hs:starEach [e,.Name (Str.ofString T) p'] X.env=(false,eval e X.env)::starEach [.Name (Str.ofString T) p'] X.env:=by rfl)
    (hs2:starEach [.Name (Str.ofString T) p'] X.env=(false,eval (.Name (Str.ofString T) p') X.env)::starEach [] X.env:=by rfl) (hpl:(backTo pos (starEach [.Name (Str.ofString T) p'] X.env)).any (·.1)=false:=by rfl):DE X (.Call (.Name "isinstance" p) [e,.Name (Str.ofString T) p'] [] pos) (o_ T f) :=
  L2.PE.imp (Uz (Fp r) u y boot_isinstance (Yf h (Yf (IK (v:=.ty T) j l C rfl hn hdb) pa_nil hs2) hs) (by decide) (by decide) hs hpl) λσ H Q n=>by
    obtain⟨Z,env,ρ,B,U,d,z,S,e,k⟩:=n;obtain⟨x,hp1,o,i⟩:=Qf e;refine tD.run S o λv ρ1 m H1 g1 S1 F=>?_;cases q:Kb x with
    |none=>rw[q]at i;cases i
    |some t=>rw[q]at i;obtain⟨rfl,rfl⟩:=Qk i;exact⟨ρ1,m,x,v,t,rfl,F,q,k _ ρ1 m H1 g1 S1.wo Ja⟩
def Xp(g g':DV->DV->M DV)(fa fb fc:aF):aF:=λenv=>do
 let x <- fa env
 let y <- fb env
 let z <- g x y
 if <- cP z then
  let u <- fc env
  g' y u
 else pure (.bl false)
end
section
variable{X:Cx}{e a b c:Expr}{f fa fb fc:aF}{ca cb:bO}{pos:Pos}
theorem kM{K:Aa}{g g':DV->DV->M DV}(h:tD K (Xp g g' fa fb fc) σ H Q):Hu (m_ K g) (m_ K g') (tD K fa) (tD K fb) (tD K fc) σ H Q:=by
  obtain⟨Z,env,ρ,B,U,d,i,S,e,k⟩:=h;obtain⟨x,hp1,r,e⟩:=Qf e;obtain⟨y,j,C,e⟩:=Qf e;obtain⟨z,L,F,e⟩:=Qf e;obtain⟨t,cZ,e4,e⟩:=Qf e;obtain⟨rfl,rfl⟩:=Y6 e4;refine tD.run S r λv ρ1 B1 H1 g1 S1 P=>tD.run S1 C λu ρ2 n H2 g2 S2 m=>?_;refine⟨ρ2,n,j,x,y,_,_,S2.wo,au.grow S1.wo.rb g2 _ _ P,m,F,λw ρ3 B3 H3 g3 W3 R=>⟨t,R.fD,?_⟩⟩;have l:=S2.grow g3 W3;cases t with
  |false=>obtain⟨rfl,rfl⟩:=Qk e;exact kS (k _ ρ3 B3 H3 (g1.trans (g2.trans g3)) W3 Ja)
  |true=>obtain⟨q,O,I,J⟩:=Qf e;refine kT (tD.run l I λp ρ4 o H4 g4 S4 Y=>?_);exact⟨ρ4,o,O,y,q,d,i,S4.wo,au.grow l.wo.rb g4 _ _ (au.grow S2.wo.rb g3 _ _ m),Y,J,k.after (g1.trans (g2.trans (g3.trans g4)))⟩
theorem V9{j h:CmpOp}{g g':DV->DV->M DV}(u:P2 X (compareOp j) g)(i:P2 X (compareOp h) g')(o:DE X a fa)(q:DE X b fb)(r:DE X c fc)(t:lastMarks [j,h] [b,c]=false:=by with_unfolding_all rfl):DT X (.Compare a [j,h] [b,c] pos) (eB (Xp g g' fa fb fc)) :=
 L2.PT.imp (SU u i o q r t) λσ H Q l=>by obtain⟨Z,env,ρ,B,U,d,y,S,e,k⟩:=l;obtain⟨x,hp1,m,n⟩:=Qf e;obtain⟨rfl,rfl⟩:=Y6 n;exact kM (tD.run S m λv ρ1 B1 H1 g1 S1 z=>⟨d,z.fD,k ρ1 B1 H1 g1 S1.wo⟩)
abbrev m9:=En->M (Option Int)
def oF(K:Aa)(f:m9):TO:=λσ H Q=>∃Z env ρ B U d h,bM K Z env σ ρ B U H/\f env U=some (d,h)/\DY K ρ B H h (Q d)
def DO(X:Cx)(e:Option Expr)(f:m9):Prop:=PO X e (oF X.K f)
def ZW:m9:=λ_=>pure none
def cF:DV->M Int
 |.int i=>pure i
 |_=>failure
theorem VW{d:DV}{c:Int}{U i:Hs}(h:cF d U=some (c,i)):d=.int c/\U=i:=by
 cases d with
 |int b=>obtain⟨rfl,rfl⟩:=Qk h;exact⟨rfl,rfl⟩
 |_=>cases h
def ZX(f:aF):m9:=λenv=>do let i <- cF (<- f env);pure (some i)
theorem JY:DO X none ZW:=λh s σ H Q I i=>by obtain⟨Z,env,ρ,B,U,d,j,S,e,k⟩:=i;obtain⟨rfl,rfl⟩:=Qk e;exact RE h s σ H Q I (k ρ B H Gr.refl S.wo)
theorem JZ(h:DE X e f):DO X (some e) (ZX f):=λj s σ H Q I l=>by obtain⟨Z,env,ρ,B,U,d,q,S,e,k⟩:=l;obtain⟨x,hp1,m,n⟩:=Qf e;obtain⟨i,r,o,e4⟩:=Qf n;obtain⟨rfl,rfl⟩:=VW o;obtain⟨rfl,rfl⟩:=Qk e4;exact RC h j s σ H Q I (tD.run S m λv ρ1 B1 H1 g1 S1 t=>⟨i,t.aZ,k ρ1 B1 H1 g1 S1.wo⟩)
theorem oF.run{K:Aa}{f:m9}{Z:Ent}{d:Option Int}{Q:Option Int->Hp->Prop}(S:bM K Z env σ ρ B U H)(e:f env U=some (d,hp1))
  (k:∀ρ' B' H',Gr K ρ B H ρ' B' H'->bM K Z env σ ρ' B' hp1 H'->Q d H'):oF K f σ H Q :=
 ⟨Z,env,ρ,B,U,d,hp1,S,e,λρ' B' H' g W=>k ρ' B' H' g (S.grow g W)⟩
def Vw(ds:List DV)(lo hi:Option Int):List DV:=(ds.drop (HT.sIx ds.length 0 lo)).take (HT.sIx ds.length ds.length hi-HT.sIx ds.length 0 lo)
theorem uo{K:Aa}{lo hi:Option Int}(r:ak K ρ B H ds xs):ak K ρ B H (Vw ds lo hi) (uq xs lo hi):=by unfold Vw uq;rw[r.length];exact ak.take _ (ak.drop _ r)
def g_(d:DV)(lo hi:Option Int):M DV:=match d with
 |.lst ds=>pure (.lst (Vw ds lo hi))
 |.tup ds=>pure (.tup (Vw ds lo hi))
 |_=>failure
def bY(f:aF)(lo hi:m9):aF:=λenv=>do let d <- f env;let l <- lo env;let h <- hi env;g_ d l h
def Ov(K:Aa):V->Option Int->Option Int->Hp->VK->Prop:=λx lo hi H Q=>∃ρ B U d r h,aM K ρ B U H/\au K ρ B H d x/\g_ d lo hi U=some (r,h)/\iG K ρ B H r h Q
theorem gS{prog:Program}{w:World}{A:Around}{E:Ej}{s:Shared}{t o:Addr}{items:Array Value}{lo hi:Option Int}{Q:Ej}(i:IsTup s.heap t items)(hs:s.heap.IsSliceOf o vl vu .none)(pl:IsPart vl lo)(y:IsPart vu hi)
  (h0:HT.sIx items.size 0 lo=0) (h1:HT.sIx items.size items.size hi=items.size) (h:Q (.ref t) s):wpAny (model prog w) A (getItem (.ref t) (.ref o)) Q E s:=by
 obtain⟨os,n,m,x⟩:=id hs;have l:s.TypeIs (.ref o) "slice" := ⟨os,n,m⟩;unfold getItem
 try with_reducible refine wpAny_holding ?_
 first|refine C9 (Ec ?_)|skip
 refine C9 (wpAny_sequenceKey i.typeIs (by decide) ?_);refine C9 (wpAny_callSpecial?_slot (name:=Str.ofString "__getitem__") i.typeIs PyProof.Rows.slot_tuple_getitem (wpAny_call_entry PyProof.Rows.slot_tuple_getitem i.typeIs entry_tuple_getitem ?_ (args_tuple_getitem _ _)));show wpAny _ _ (Builtin.Tuple.tupleItemsOf (.ref t) >>= _) _ _ s;refine C9 (tupleItemsOf_ i ?_);refine C9 (wpAny_typeOf l ?_);rw[Eb (by decide)];refine C9 (HT.sliceApplied_gen hs pl y ?_);have r:(((HT.sIx items.size 0 lo:Nat):Int)==0&&(1:Int)==1&&(HT.sIx items.size items.size hi-HT.sIx items.size 0 lo)==items.size)=true:=by rw[h0,h1];simp
 show wpAny _ _ (if (((HT.sIx items.size 0 lo:Nat):Int)==0&&(1:Int)==1&&(HT.sIx items.size items.size hi-HT.sIx items.size 0 lo)==items.size)=true then _ else _) _ _ s;rw[Eb r];have ex:∀{j:Bool->Shared->Prop}{u:Around}{v:Ej},j true s->wpAny (model prog w) u (Builtin.Tuple.tupleIsExact (.ref t)) j v s:=λ{j u v} q=>by unfold Builtin.Tuple.tupleIsExact;exact C9 (wpAny_typeOf i.typeIs (Ec (by rw[show(Value.type "tuple" == Value.type "tuple")=true from beq_self_eq_true _];exact q)))
 refine C9 (ex ?_);rw[Eb rfl]
 first
  |exact C9 (wpAny_rule (Ec ⟨_,rfl,Ec h⟩))
  |exact C9 (wpAny_rule (C9 (Ec (Ec ⟨_,rfl,Ec h⟩))))
theorem HK:SlR X (λx lo hi H Q=>∃a xs,x=.ref a/\SqT X.K H a xs/\(HT.sIx xs.length 0 lo=0/\HT.sIx xs.length xs.length hi=xs.length)/\Q (.ref a) H):=by
 intro m s σ H x v vl vu lo hi sl Q I rx hs pl pu h;obtain⟨a,xs,rfl,hx,⟨h0,h1⟩,q⟩:=h;cases rx;obtain⟨j,r,l,hz⟩:=I.tuple hx;have i:j.toArray.size=xs.length:=by rw[Ao];exact r.length.symm
 exact⟨"tuple", _,PyProof.Rows.slot_tuple_getitem.lookup,l.typeIs,gS l hs pl pu (by rw[i];exact h0) (by rw[i];exact h1) ⟨.ref a,H,I,rfl,q⟩⟩
theorem Qb3{α:Type}(ds:List α)(i j:Nat)(h0:i=0)(h1:j=ds.length):(ds.drop i).take (j-i)=ds:=by subst h0 h1;simp
theorem S7:SlR X (Ov X.K):=by
  intro l s σ H x v vl vu lo hi sl Q I rx hs pl pu h;obtain⟨ρ,B,U,d,r,n,W,m,e,k⟩:=h;cases d with
  |lst ds=>obtain⟨rfl,rfl⟩:=Qk e;obtain⟨a,xs,rfl,nb,j,i⟩:=m.bK;exact HL l s σ H _ v vl vu lo hi sl Q I rx hs pl pu ⟨a,xs,rfl,j,ji W (uo i) k⟩
  |tup ds =>
    obtain⟨rfl,rfl⟩:=Qk e;obtain⟨a,xs,rfl,nb,j,i⟩:=m.tupI;by_cases hw:HT.sIx xs.length 0 lo=0/\HT.sIx xs.length xs.length hi=xs.length
    . refine HK l s σ H _ v vl vu lo hi sl Q I rx hs pl pu ⟨a,xs,rfl,j,hw,?_⟩
      have:Vw ds lo hi=ds:=by unfold Vw;exact Qb3 ds _ _ (by rw[i.length];exact hw.1) (by rw[i.length];exact hw.2)
      rw[this]at k;exact k _ ρ B H Gr.refl W (qP nb j i)
    . exact M0 l s σ H _ v vl vu lo hi sl Q I rx hs pl pu ⟨a,xs,rfl,j,hw,xK W (uo i) k⟩
  |non=>cases e
  |bl _=>cases e
  |int _=>cases e
  |str _=>cases e
  |ref _=>cases e
theorem qd{lo hi:Option Expr}{n m:m9}(h:DE X e f)(C:DO X lo n)(z:DO X hi m):DE X (.Subscript e (.Slice lo hi none p2) pos) (bY f n m) :=
 L2.PE.imp (Qd7 S7 h C z) λσ H Q q=>by obtain⟨Z,env,ρ,B,U,d,i,S,e,k⟩:=q;obtain⟨x,hp1,r,e⟩:=Qf e;obtain⟨l,F,t,e⟩:=Qf e;obtain⟨u,j,y,e⟩:=Qf e;refine tD.run S r λv ρ1 B1 H1 g1 S1 I=>oF.run S1 t λρ2 B2 H2 g2 S2=>oF.run S2 y λρ3 o H3 g3 S3=>?_;exact⟨ρ3,o,j,x,d,i,S3.wo,au.grow S1.wo.rb (g2.trans g3) _ _ I,e,k.after (g1.trans (g2.trans g3))⟩
theorem WM{P:Program}{w:World}{K:Aa}{mg:Em}{O8:Heap}{x:Str}{g:Addr}{k:Nat}{j:aD}(F:Fun K x x stm g fd)(o:Qv N ps (Qo stm))
  (h:∀(i:Value)(A:Around)(outer:List Env)(s:Shared)(H:Hp)(E:XK),Room k (A.deeper (envOfC x (Qo stm) s.heap.objs.size g i))->fY (Vx CX0 P w K mg O8 N x (Qo stm) g i A outer s H E).nox (ZK stm) j) :
  zA P w K mg O8 CX0 (k+1) g fd ps (iJ K ps.length (Zb N.length j)):=by
 refine F.ok o (λvs H Q E h=>h.1) (λi A outer s H vs Q E u sp=>?_);obtain⟨z,ρ,B,U,ds,d,t,W,r,e,k⟩:=sp;obtain⟨⟨n,l⟩,hp1,q,m⟩:=Qf e;refine⟨_,h i A outer s H E u,⟨ρ,B,H⟩,_,ρ,B,U,n,l,hp1,yS W r,q,λσ' ρ' B' H' g' S'=>?_⟩;cases n with
 |nx=>obtain⟨rfl,rfl⟩:=Qk m;exact k .non ρ' B' H' S'.gr S'.wo jp
 |rt x=>obtain⟨rfl,rfl⟩:=Qk m;exact λv y=>k v ρ' B' H' S'.gr S'.wo y
 |bk=>cases m
 |ct=>cases m
theorem gk{K:Aa}:∀ns:List Int,ak K ρ B H (ns.map DV.int) (ns.map V.int)
 | []=>ak.nil
 |_::r=>ak.cons Xa (gk r)
theorem WE{K:Aa}{F:Eu}{a:Addr}{ns:List Int}(h:∃j,F [.lst (ns.map .int)] []=some (.bl true,j))(hS:SqL K H a (ns.map V.int)):iJ K 1 F [.ref a] H (λv _=>v=.bl true) E:=by obtain⟨j,h⟩:=h;refine⟨rfl,[],λ_=>False,[],[.lst (ns.map .int)],.bl true,j,⟨rfl,List.nodup_nil,λi a o h=>by simp at h,λa h=>absurd h (by simp),λa h=>absurd h (λz=>z),λa h=>h.elim⟩,ak.one (vp (λz=>z) hS (gk ns)),h,λv _ _ _ _ _ r=>r.fD⟩
end
end D
namespace L2
open PySem PySem.Spec PyProof.Rows
section
variable{prog:Program}{w:World}{A:Around}{E:Ej}{s:Shared}
theorem jt{p q:Addr}{n:Nat}{xs:Array Value}{Q:Ej}(c:s.heap.IsTupleIter p q n)(e:s.heap.IsTuple q xs)(f:xs[n]?=some v)
  (k:∀g,g.IsTupleIter p q (n+1)->Heap.SameBut p s.heap g->Q v { s with heap:=g }):wpAny (model prog w) A (Builtin.SmallTypes.nextOf (.ref p)) Q E s:=by
 obtain⟨ob,b,h,a⟩:=id c;obtain⟨l,i,_,m,j⟩:=e;unfold Builtin.SmallTypes.nextOf;refine C9 (wpAny_callSpecial?_slot (name:=Str.ofString "__next__") c.typeIs F.slot_tuple_iterator_next (wpAny_call_entry F.slot_tuple_iterator_next c.typeIs F.entry_tuple_iterator_next ?_ (F.args_tuple_iterator_next_1 _)));show wpAny _ _ (field (.ref p) 0 >>= _) _ _ s;refine C9 (wpAny_field b a (x:=.ref q) rfl ?_);show wpAny _ _ (if (Value.ref q==Value.none)=true then _ else _) _ _ s;rw[Ea (show ¬ ((Value.ref q==Value.none)=true)from Bz)];show wpAny _ _ (field (.ref p) 1 >>= _) _ _ s;refine C9 (wpAny_field b a (x:=.int n 0) rfl ?_);show wpAny _ _ (seqItems? (.ref q) >>= _) _ _ s;refine C9 (wpAny_seqItems i j ?_);simp only[B7,f];refine C9 (wpAny_setField b a (by simp) (Ec ⟨v,rfl,Ec (k _ ?_ (Heap.SameBut.update ..))⟩));exact⟨_,Heap.get?_update_self _ b (Obj.isFreed_of_fields (Obj.data_mapFields a _)),(Obj.cls_mapFields ..).trans h,by rw[Obj.data_mapFields a];simp[rawInt]⟩
theorem vQ{p q:Addr}{n:Nat}{xs:Array Value}{Q:Ej}(f:A.handled=none)(b:s.heap.IsTupleIter p q n)(h:s.heap.IsTuple q xs)(i:xs[n]?=none)
  (k:∀g x,Heap.ExtBut p s.heap g->(∃o,g.get? x=some o/\o.cls=.type "StopIteration")->E (.ref x) { s with heap:=g }):wpAny (model prog w) A (Builtin.SmallTypes.nextOf (.ref p)) Q E s:=by
 obtain⟨ob,c,r,e⟩:=id b;obtain⟨t,j,_,m,l⟩:=h;unfold Builtin.SmallTypes.nextOf;refine C9 (wpAny_callSpecial?_slot (name:=Str.ofString "__next__") b.typeIs F.slot_tuple_iterator_next (wpAny_call_entry F.slot_tuple_iterator_next b.typeIs F.entry_tuple_iterator_next ?_ (F.args_tuple_iterator_next_1 _)));show wpAny _ _ (field (.ref p) 0 >>= _) _ _ s;refine C9 (wpAny_field c e (x:=.ref q) rfl ?_);show wpAny _ _ (if (Value.ref q==Value.none)=true then _ else _) _ _ s;rw[Ea (show ¬ ((Value.ref q==Value.none)=true)from Bz)];show wpAny _ _ (field (.ref p) 1 >>= _) _ _ s;refine C9 (wpAny_field c e (x:=.int n 0) rfl ?_);show wpAny _ _ (seqItems? (.ref q) >>= _) _ _ s;refine C9 (wpAny_seqItems j l ?_);simp only[B7,i];refine C9 (wpAny_rule (C9 (wpAny_setField c e (by simp) ?_)));show wpAny _ _ (newExc (.type "StopIteration") [] >>= _) _ _ _;refine C9 ?_;simp only[newExc,newTuple];refine C9 (wpAny_newObj_type ?_ (by size_fits));refine C9 (m:=firstArgMember _ _) (wpAny_of_eq (a:=Value.none) (by first|rfl|(simp only[firstArgMember];rfl)) ?_);refine wpAny_newObj_type ?_ (by size_fits);simp only[raiseNew];refine C9 (wpAny_handled ?_)
 first|rw[show A.in1.handled=none from f]|rw[f]
 refine C9 (Ec (wpAny_throw ?_));exact k _ _ (((Heap.SameBut.update ..).extBut.push _).push _) ⟨_,Av _ rfl,rfl⟩
structure ZA(z p o i j a b:Addr):Prop where
 pz:p≠z
 oz:o≠z
 iz:i≠z
 jz:j≠z
 po:p≠o
 pi:p≠i
 pj:p≠j
 oi:o≠i
 oj:o≠j
 ij:i≠j
 az:a≠z
 ao:a≠o
 ai:a≠i
 aj:a≠j
 bz:b≠z
 bo:b≠o
 bi:b≠i
 bj:b≠j
end
section
variable{X:Cx}{O9:Ek}{σ:L2.St}{H:Hp}{s:Shared}{h':Heap}
theorem Inv.lW{t':Nat}{f:Et}(I:Inv X O9 σ H s)(hf:∀b∈f,Vt X O9 H b)(k:∀b o,b∉f->s.heap.get? b=some o->h'.get? b=some o):Inv X O9 σ H { s with heap:=h',toks:=t' }:=by
 refine I.step (g':=s.gens) (d':=s.drawn) (ch:=f) (λb h=>⟨(hf b h).2.2.2.1,(hf b h).2.1,(hf b h).2.2.2.2.1,(hf b h).2.2.2.2.2⟩) (λb o _ _ a e _=>k b o a e) (λb o _ _ a e _=>⟨o.slots,k b o a e⟩) (λ_ _ _ _ n=>n)
  (λb o a e=>⟨o,k b o a e⟩) (λ_ _ e=>e) (λ_ _ _ e=>e) (λb ps e=>⟨#[],by rw[e];simp⟩) (λm i=>?_) (λb u e=>?_) I.bare
 ·obtain⟨o,es,ep,j,r⟩:=i;exact⟨o,es,ep,k _ o (λz=>(hf _ z).2.1 rfl) j,r⟩
 ·have nf:∀c u,H c=some u->c∉f:=λc u q z=>by rw[(hf c z).1]at q;cases q
  refine(I.hok b u e).stay (λc v a q=>k c v ?_ q) (λ_ q=>q) λ_ _ q=>q;rcases a with z|z
  ·rw[z];exact nf b u e
  ·exact nf c _ z
theorem Inv.fU{t':Nat}{i:Et}{vs:List V}{us:List Value}(I:Inv X O9 σ H s)(hf:∀b∈i,Vt X O9 H b)(k:∀b o,b∉i->s.heap.get? b=some o->h'.get? b=some o)
  (hv:Vals vs us) (hz:vs.length<=sizeLine) (hT:IsTup h' s.heap.objs.size us.toArray):Inv X O9 σ (upd H s.heap.objs.size (.tup vs)) { s with heap:=h',toks:=t' }:=by
 have h:H s.heap.objs.size=none:=I.hok.fresh (Ae _);refine I.step (g':=s.gens) (d':=s.drawn) (ch:=i) (λb a=>⟨(hf b a).2.2.2.1,(hf b a).2.1,(hf b a).2.2.2.2.1,(hf b a).2.2.2.2.2⟩) (λb o _ _ f e _=>k b o f e) (λb o _ _ f e _=>⟨o.slots,k b o f e⟩)
  (λb o _ e n=>by rw[QO (Bf (Ap e))];exact n) (λb o f e=>⟨o,k b o f e⟩) (λb xs e=>by rw[QO (ZJ e h)];exact e) (λb o u e=>by rw[QO (ZJ e h)];exact e) (λb ps e=>⟨#[],by rw[QO (ZJ e h),e];simp⟩) (λm j=>?_) (λb u e=>?_) I.bare
 ·obtain⟨o,es,ep,l,r⟩:=j;exact⟨o,es,ep,k _ o (λz=>(hf _ z).2.1 rfl) l,r⟩
 ·by_cases a:b=s.heap.objs.size
  ·subst a;rw[Q3]at e;cases e;exact⟨hz,us,hv,hT⟩
  ·rw[QO a]at e;have nf:∀c u,H c=some u->c∉i:=λc u q z=>by rw[(hf c z).1]at q;cases q
   refine(I.hok b u e).stay (λc v f q=>k c v ?_ q) (λc q=>by rw[QO (ZJ q h)];exact q) λc xs q=>by rw[QO (ZJ q h)];exact q
   rcases f with z|z
   ·rw[z];exact nf b u e
   ·exact nf c _ z
end
def pI(K:Aa)(a b:Addr):It :=
  ⟨λi H=>∃xs ys x y,SqT K H a xs/\SqT K H b ys/\xs[i]?=some x/\ys[i]?=some y,
   λi H v H'=>∃p x y,H p=none/\(∀xs,SqT K H a xs->xs[i]?=some x)/\(∀ys,SqT K H b ys->ys[i]?=some y)/\v=.ref p/\H'=upd H p (.tup [x,y]),
   λi H=>∃xs ys,SqT K H a xs/\SqT K H b ys/\(xs.length<=i∨ys.length<=i)⟩
abbrev pN(h:Heap)(a:Addr):Heap:=h.push { cls:=.type "tuple_iterator", data:=.fields #[.ref a,.int 0 0] }
abbrev pL(h:Heap)(a b:Addr):Heap:=(pN h a).push { cls:=.type "tuple_iterator", data:=.fields #[.ref b,.int 0 0] }
abbrev pK(h:Heap)(a b:Addr):Heap:=(pL h a b).push { cls:=.type "tuple", data:=.seq #[.ref h.objs.size,.ref (pN h a).objs.size] }
abbrev pJ(h:Heap)(a b:Addr):Heap:=(pK h a b).push { cls:=.type "tuple", data:=.seq #[.none,.none] }
abbrev lB(h:Heap)(a b:Addr):Heap:=(pJ h a b).push { cls:=.type "zip", data:=.fields #[.none,.bool false,.bool false,.ref (pL h a b).objs.size,.ref (pK h a b).objs.size] }
theorem Hd(a b:Addr)(xs ys:Array Value):Meets (Builtin.«zip.__new__» ⟨[.type "zip", .ref a,.ref b],[]⟩) (λ_ R s=>s.heap.IsTuple a xs/\s.heap.IsTuple b ys/\R (.ok (.ret (.ref (pJ s.heap a b).objs.size))) { s with heap:=lB s.heap a b }) :=
 .of_wp λprog w A R s h=>by
  obtain⟨U,g,d,f,os⟩:=s;obtain⟨i,j,h⟩:=h;have c:=sub_zip;have l:Heap.IsTuple (Shared.heap ⟨U,g,d,f,os⟩) a xs:=i;have m:Heap.IsTuple (Shared.heap ⟨U.push { cls:=.type "tuple_iterator", data:=.fields #[.ref a,.int 0 0] },g,d,f,os⟩) b ys:=let ⟨ob,e,r⟩:=j;⟨ob,Ad _ e,r⟩
  wp_walk using wpAny_pyIter_tuple l,wpAny_pyIter_tuple m
  exact⟨_,rfl,h⟩
section
variable{X:Cx}{elts:List Expr}{kt:Nat}{p2:Pos}
def Ww(K:Aa)(c:TA):TI:=λσ H R=>c σ H λvs H1=>∃a b xs ys,vs=[.ref a,.ref b]/\SqT K H1 a xs/\SqT K H1 b ys/\R (pI K a b) H1
end
end L2
namespace D
open PySem PySem.Spec PyProof.Rows L2
def qY:List DV->List DV->List DV
 |x::xs,y::ys=>.tup [x,y]::qY xs ys
 |_,_=>[]
theorem Kl:∀{xs ys:List DV}{i:Nat}{d:DV},(qY xs ys)[i]?=some d->∃x y,xs[i]?=some x/\ys[i]?=some y/\d=.tup [x,y]
  |x::xs,y::ys,0,d,h=>by simp[qY]at h;exact⟨x,y,rfl,rfl,h.symm⟩
  |x::xs,y::ys,i+1,d,h=>by obtain⟨a,b,h1,h2,h3⟩:=Kl (xs:=xs) (ys:=ys) (i:=i) (by simpa [qY]using h);exact⟨a,b,by simpa using h1,by simpa using h2,h3⟩
  | [],_,_,_,h=>by simp[qY]at h
  |_::_,[],_,_,h=>by simp[qY]at h
theorem Km:∀(xs ys:List DV),(qY xs ys).length=min xs.length ys.length
 |x::xs,y::ys=>by simp only[qY,Ba,Km xs ys];lia
 | [],_=>by simp[qY]
 |_::_,[]=>by simp[qY]
def uP(f g:aF):lA:=λenv=>do
 let x <- f env
 let xs <- KM x
 let y <- g env
 let ys <- KM y
 pure (qY xs ys)
theorem WU{K:Aa}{B:Er}{a b:Addr}(na:¬ B a)(F:SqT K H a xs)(L:ak K ρ B H ds xs)(nb:¬ B b)(I:SqT K H b ys)(rb:ak K ρ B H es ys):n8 K ρ B H (qY ds es) (pI K a b):=λρ1 B1 H1 g J Q=>by
 have j:=g.pQ na F;have h:=g.pQ nb I;have c:=ak.gs g _ _ L;have l:=ak.gs g _ _ rb;refine⟨λi d e=>?_,xs,ys,j,h,?_⟩
 ·obtain⟨x,y,h1,h2,rfl⟩:=Kl e;obtain⟨u,n,O⟩:=c.get h1;obtain⟨v,o,P⟩:=l.get h2;refine⟨⟨xs,ys,u,v,j,h,n,o⟩,λz H' r=>?_⟩;obtain⟨p,R,U,f,h3,h4,t,C⟩:=r;subst t C;have m:=h3 xs j;have e4:=h4 ys h;rw[n]at m;cases m;rw[o]at e4;cases e4;refine⟨qP (λz=>Q p z f) (SqT.of Q3) (ak.gs (A_ J f) _ _ (ak.cons O (ak.one P))),.inr ⟨p,_,f,rfl⟩⟩
 ·rw[Km,c.length,l.length];rcases Nat.le_total xs.length ys.length with q|q
  ·exact .inl (by rw[Nat.min_eq_left q];exact Ae _)
  ·exact .inr (by rw[Nat.min_eq_right q];exact Ae _)
section
variable{X:Cx}{elts:List Expr}{kt:Nat}{p2:Pos}{f g:aF}
def gT(a:List Nat):iH:=λd env=>do
 let ds <- KM d
 QB (decide (ds.length=a.length))
 pure ((a.zip ds).foldl (λb q=>b.set q.1 (.val q.2)) env)
def GD(X:Cx):List Nat->List Expr->Prop
 | [],[]=>True
 |i::a,.Name x _::es=>X.N[i]?=some x/\Loc X.env.scope x/\(X.fn x=true∨X.env.scope.names.lookup x=some .local)/\GD X a es
 |_,_=>False
theorem Ge(e:X.N.Nodup):∀(c:List Nat)(es:List Expr),GD X c es->(∀a x p,(assignEach (.Name x p::a) X.env).map (·.2)=assign (.Name x p) X.env::(assignEach a X.env).map (·.2)) ->
    PGs X es (λvs σ H Q=>vs.length=c.length/\Q ((c.zip vs).foldl (λs q=>s.set q.1 (some q.2)) σ) H)
  | [],[],_,_=>by
    intro b s σ H vs us Q I r h;obtain⟨h1,h2⟩:=h;have:vs=[]:=by cases vs with|nil=>rfl|cons _ _=>simp at h1
    subst this;exact RR b s σ H [] us Q I r ⟨rfl,by simpa using h2⟩
  |i::m,.Name x p::es,⟨h1,h2,h3,h4⟩,j=>by
    intro b s σ H vs us Q I r h;obtain⟨h5,l⟩:=h;cases vs with
    |nil=>simp at h5
    |cons v vs=>exact S0 (vo e h1 h2 h3) (Ge e m es h4 j) (j _ _ _) b s σ H (v::vs) us Q I r ⟨v,vs,rfl,by simpa using h5,by simpa using l⟩
theorem MN{K:Aa}{Z:Ent}:∀(b:List Nat)(ds:List DV)(vs:List V){env:En}{σ:L2.St},ak K ρ B H ds vs->bM K Z env σ ρ B U H ->
    bM K Z ((b.zip ds).foldl (λc q=>c.set q.1 (.val q.2)) env) ((b.zip vs).foldl (λs q=>s.set q.1 (some q.2)) σ) ρ B U H
  | [],_,_,_,_,_,S=>by simpa using S
  |i::a,[],_,_,_,r,S=>by unfold ak at r;subst r;simpa using S
  |i::a,d::ds,_,_,_,r,S=>by unfold ak at r;obtain⟨v,vs,rfl,e,h⟩:=r;simpa using MN a ds vs h (S.set (i:=i) e)
theorem BN(b:List Nat)(q:X.N.Nodup)(z:GD X b elts)(y:X.calm=true)(t:∀c x p,(assignEach (.Name x p::c) X.env).map (·.2)=assign (.Name x p) X.env::(assignEach c X.env).map (·.2))
  (hl:(assignEach elts X.env).length=b.length:=by rfl) (hst:(assignEach elts X.env).findIdx? (·.1)=none:=by rfl):PG X (.Tuple elts kt p2) (nA X.K (gT b)):=by
 intro m s σ H v u Q I r h;refine MC y (Ge q b elts z t) hl hst m s σ H v u Q I r ?_;obtain⟨Z,env,ρ,B,U,d,j,C,S,rd,e,k⟩:=h;obtain⟨ds,hp1,n,e⟩:=Qf e;obtain⟨rfl,rfl⟩:=Yk n;obtain⟨_,F,o,e⟩:=Qf e;obtain⟨hs,rfl⟩:=QM o;obtain⟨rfl,rfl⟩:=Qk e;obtain⟨a,xs,rfl,na,J,l⟩:=rd.tupI;have i:xs.length=b.length:=by rw[<- l.length];exact Eg hs
 exact⟨a,xs,rfl,J,i,i,k _ ρ B H Gs.refl (MN b ds xs l S)⟩
def Jw(f:aF)(g:iH):aD:=λenv=>do let d <- f env;let env' <- g d env;pure (.nx,env')
theorem YW{a e:Expr}{g:iH}{pos:Pos}(he:DE X e f)(n:PG X a (nA X.K g))(hs:swapsWithSole [a] e pos.line X.env=pure false:=by rfl)(hw:swappedStores [a] e X.env=pure none:=by rfl)
  (h1:(assignEach [a] X.env).map (·.2)=[assign a X.env]:=by rfl):DS X (.Assign [a] e pos) (Jw f g) :=
 L2.PS.imp (Me he n hs hw h1) λD σ H j=>by obtain⟨Z,env,ρ,B,U,r,b,o,S,e,k⟩:=j;obtain⟨d,hp1,l,e⟩:=Qf e;obtain⟨aR,c,m,e⟩:=Qf e;obtain⟨z,rfl⟩:=Qk e;cases z;exact tD.run S l λv ρ1 h H1 g1 i q=>⟨Z,env,ρ1,h,hp1,d,b,c,i,q,m,λσ' ρ' B' H' g' S'=>k σ' ρ' B' H' ((g1.gs S.wo.rb).trans g') S'⟩
end
theorem Qap{lo:Int}{n i:Nat}{d:DV}(h:(Zt lo n)[i]?=some d):i<n/\d=.int (lo+i):=by
 have hi:i<n:=by have:=(Ac.mp h).1;simpa [Zt]using this
 refine⟨hi,?_⟩;simp[Zt,hi]at h;exact h.symm
theorem Jl(lo:Int)(n:Nat):(Zt lo n).length=n:=by simp[Zt]
theorem VL(i:Int):iY (.int i)=true:=by rfl
def M5(i j:Int):PyData.eqv (.int i) (.int j)=(i==j):=rfl
theorem ZS(i j:Int):j_ (.int i) (.int j)=pure (.bl (i==j)):=by simp only[j_,VL,Bool.and_self,QB,if_true,Ei,toP,M5]
theorem JO(i j:Int):CZ (.int i) (.int j)=pure (.bl (!(i==j))):=by simp only[CZ,VL,Bool.and_self,QB,if_true,Ei,toP,M5]
theorem BA{α:Type}{xs:List α}{i:Int}(h0:0<=i)(h1:i<xs.length):atI xs i=xs[i.toNat]?:=by unfold atI ixN;rw[Eb h0,Eb h1];rfl
theorem GI(ns:List Int){i:Int}(h0:0<=i)(h1:i<ns.length):atI (ns.map DV.int) i=some (.int (ns.getD i.toNat 0)):=by
 have a:i.toNat<ns.length:=⋯
 rw[BA h0 (by simpa using h1),Bu,Ab a];simp[List.getD_eq_getElem?_getD,a]
def opt:Option Int->DV
 |none=>.non
 |some i=>.int i
theorem XU(x y:Int)(h:0<y):Ur (.int x) (.int y)=pure (.int (x % y)):=by simp[Ur,zm,DN,h]
theorem uw(x y:Int)(h:0<y)(h':y<1073741824):pq (.int x) (.int y)=pure (.int (x / y)):=by simp[pq,zm,DP,h,h']
theorem xf(x y:Int)(h:-(2 ^ 64)<x)(h':x<2 ^ 64):qh (.int x) (.int y)=pure (.int (x * y)):=by simp only[qh,zm,wI,Ef (Or.inl (b:=(-(2 ^ 64)<y/\y<2 ^ 64)) (And.intro h h')),if_true]
theorem z_(x y:Int)(h:-(2 ^ 64)<y)(h':y<2 ^ 64):qh (.int x) (.int y)=pure (.int (x * y)):=by simp only[qh,zm,wI,Ef (Or.inr (a:=(-(2 ^ 64)<x/\x<2 ^ 64)) (And.intro h h')),if_true]
def ZN(x y:Int):ZE (.int x) (.int y)=pure (.int (x+y)):=rfl
def Ji(x y:Int):KK (.int x) (.int y)=pure (.int (x-y)):=rfl
def Je(x y:Int):lZ (.int x) (.int y)=pure (.bl (decide (y<x))):=rfl
def Z3(x y:Int):eO (.int x) (.int y)=pure (.bl (decide (x<y))):=rfl
def Jt(x y:Int):iy (.int x) (.int y)=pure (.bl (decide (x<=y))):=rfl
def Jq(x y:Int):nP (.int x) (.int y)=pure (.bl (decide (y<=x))):=rfl
def Jg(x:Int):El (.int x)=pure (.int (-x)):=rfl
def Xv:zS (.int 10) (.int 30)=pure (.int 1000000000000000000000000000000):=rfl
def YG:zS (.int 10) (.int 21)=pure (.int 1000000000000000000000):=rfl
def xV:zS (.int 10) (.int 9)=pure (.int 1000000000):=rfl
theorem QeF{m:Int}(h0:0<=m)(h1:m<=1000000):U6 m=true:=Ef ⟨⋯,⋯⟩
def qv{ds:List DV}(h:ds.length<=100000):YN ds=true:=Ef h
theorem ZT{f g:aD}(h:f env=pure (.nx,aR)):Qq f g env=g aR:=by simp only[Qq,h,Ei]
theorem Sj{f g:aD}(h:f env=pure (.rt d,aR)):Qq f g env=pure (.rt d,aR):=by simp only[Qq,h,Ei]
theorem Z4{i:Nat}{f:aF}{env:En}(h:f env=pure d):QD i f env=pure (.nx,env.set i (.val d)):=by simp only[QD,h,Ei]
theorem R5{c:bO}{f g:aD}(h:c env=pure true):aL c f g env=f env:=by simp only[aL,h,Ei,if_true]
theorem R6{c:bO}{f g:aD}(h:c env=pure false):aL c f g env=g env:=by simp only[aL,h,Ei,Az,if_false]
theorem Yh{f:aF}(h:f env=pure d):QF f env=pure (.rt d,env):=by simp only[QF,h,Ei]
theorem YH{n:Nat}{a:aD}{ds:List DV}(h:a (ds.map .val++List.replicate (n-ds.length) .un)=pure (.rt d,env)):Zb n a ds=pure d:=by simp only[Zb,h,Ei]
theorem T4{f:aF}{b:Bool}(h:f env=pure (.bl b)):eB f env=pure b:=by simp only[eB,h,Ei,cP]
theorem jg{g:DV->DV->M DV}{f a:aF}(h:f env=pure x)(h':a env=pure y)(b:g x y=pure d):Qi g f a env=pure d:=by simp only[Qi,h,h',Ei,b]
theorem yC{F:Eu}{f a:aF}(h:f env=pure x)(h':a env=pure y)(b:F [x,y]=pure d):Qs 2 F (Qc f (Qc a Ql)) env=pure d:=by simp[Qs,Qc,Ql,h,h',QB,b]
theorem HN{F:Eu}{f c a:aF}(h:f env=pure x)(h':c env=pure y)(b:a env=pure z)(e:F [x,y,z]=pure d):Qs 3 F (Qc f (Qc c (Qc a Ql))) env=pure d:=by simp[Qs,Qc,Ql,h,h',b,QB,e]
section
variable{K:Aa}{ρ:Et}{B:Er}{U:Hs}{H:Hp}
theorem Gr.dh{p:Addr}(h:H p=none)(kf:K.lookup p=none):Gr K ρ B H (ρ++[p]) (jW B p) (upd H p o) where
 pre:=List.prefix_append _ _
 ban:=λ_ h=>.inl h
 new:=λa z=>z.elim .inl λe=>.inr (e▸⟨h,kf⟩)
 bU:=λa z=>(Ai.mp z).elim .inl λq=>.inr (by rw[Ar.mp q];exact h)
 keep:=λa u _ q=>by rw[QO (ZJ q h)];exact q
 trk:=(Gr.laid (K:=K) (ρ:=ρ) (B:=B) h).trk
theorem aM.dh{p:Addr}(W:aM K ρ B U H)(h:H p=none)(kf:K.lookup p=none)(l:bf K (ρ++[p]) (jW B p) (upd H p o) p v):aM K (ρ++[p]) (jW B p) (U++[v]) (upd H p o) where
 len:=by simp[W.len]
 nd:=List.nodup_append.mpr ⟨W.nd,by simp,λa f b j=>by rw[Ar.mp j];exact λz=>W.bt a (W.rb a f) (z▸h)⟩
 obj:=λi a u e q=>by
  by_cases hi:i<ρ.length
  ·rw[Ah hi]at e;rw[Ah (by rw[<- W.len];exact hi)]at q;exact bf.gs ((Gr.dh h kf).gs W.rb) (QO (λz=>W.bt a (W.rb a (Aw e)) (z▸h))) (W.obj i a u e q)
  ·rw[Aq ⋯]at e;rw[Aq (by rw[<- W.len];lia)]at q;have c:i-ρ.length=0:=by have:=(Ac.mp e).1;simp at this;lia
   rw[c]at e;rw[<- W.len,c]at q;simp at e q;subst e q;exact l
 rb:=λa z=>(Ai.mp z).elim (λq=>.inl (W.rb a q)) λq=>.inr (Ar.mp q)
 bt:=λa z q=>by
  have m:=(Gr.laid (K:=K) (ρ:=ρ) (B:=B) h).trk a q;rcases z with z|rfl
  ·exact W.bt a z m
  ·rw[Q3]at q;cases q
 bk:=λa z=>z.elim (W.bk a) λe=>e▸kf
theorem Gr.dR{i:Nat}{a:Addr}(c:ρ[i]?=some a)(h:H a=some o):Gr K ρ B H ρ B (upd H a o') where
 pre:=Cm
 ban:=λ_ h=>h
 new:=λ_ h=>.inl h
 bU:=λ_ h=>.inl h
 keep:=λb u nb q=>by rw[QO (show b≠a from λz=>nb (by rw[z];exact Aw c))];exact q
 trk:=λb q=>by
  by_cases e:b=a
  ·subst e;rw[Q3]at q;cases q
  ·rw[QO e]at q;exact q
theorem aM.dR{i:Nat}{a:Addr}(W:aM K ρ B U H)(c:ρ[i]?=some a)(h:H a=some o)(n:bf K ρ B (upd H a o') a v):aM K ρ B (U.set i v) (upd H a o') where
 len:=by simp[W.len]
 nd:=W.nd
 obj:=λj b u e q=>by
  by_cases f:j=i
  ·subst f;rw[c]at e;cases e;have m:j<U.length:=by rw[<- W.len];exact(Ac.mp c).1
   rw[Au m]at q;cases q;exact n
  ·rw[Am (Ne.symm f)]at q;have l:b≠a:=λz=>f (by subst z;exact(List.getElem?_inj (Ac.mp e).1 W.nd).mp (e.trans c.symm))
   exact bf.gs ((Gr.dR c h).gs W.rb) (QO l) (W.obj j b u e q)
 rb:=W.rb
 bt:=λb z q=>W.bt b z ((Gr.dR (K:=K) (B:=B) c h).trk b q)
 bk:=W.bk
end
section
variable{X:Cx}{e a b c:Expr}{f fa fb fc:aF}{pos:Pos}
def X0(o:OV):M DV:=λh=>some (.ref h.length,h++[o])
def ZF(i:Nat):M OV:=λh=>match h[i]? with
 |some o=>some (o,h)
 |none=>none
def xq(i:Nat)(o:OV):M Unit:=λh=>some ((),h.set i o)
theorem ZB{i:Nat}{U j:Hs}(h:ZF i U=some (o,j)):U[i]?=some o/\U=j:=by
 unfold ZF at h;cases q:U[i]? with
 |none=>rw[q]at h;cases h
 |some z=>rw[q]at h;cases h;exact⟨rfl,rfl⟩
def Xf(f:cu):aF:=λenv=>do let ds <- f env;QB (YN ds);X0 (.lst ds)
theorem MP{K:Aa}{H:Hp}{U:Hs}{Q:VK}(W:aM K ρ B U H)(r:ak K ρ B H ds xs)(k:iG K ρ B H (.ref U.length) (U++[.lst ds]) Q):∀p,H p=none->rZ K (upd H p (.lst xs))->Q (.ref p) (upd H p (.lst xs)):=λp h kf=>by have kp:=kf p _ Q3;have g:Gr K ρ B H (ρ++[p]) (jW B p) (upd H p (.lst xs)):=Gr.dh h kp;refine k _ _ _ _ g (W.dh h kp ⟨xs,Q3,ak.grow W.rb g _ _ r⟩) ?_;unfold au;exact⟨p,rfl,by rw[<- W.len];simp⟩
theorem VH{es:List Expr}{f:cu}(h:DA X es f):DE X (.List es pos) (Xf f) :=
 L2.PE.imp (Ii h).kf λσ H Q j=>by obtain⟨Z,env,ρ,B,U,d,o,S,e,k⟩:=j;obtain⟨xs,hp1,l,m⟩:=Qf e;obtain⟨_,q,n,e4⟩:=Qf m;obtain⟨hs,rfl⟩:=QM n;cases e4;exact fH.run S l λvs ρ1 B1 H1 g1 S1 i=>⟨by rw[<- i.length];exact qu hs,MP S1.wo i (k.after g1)⟩
theorem au.aY{K:Aa}{ρ:Et}{U:Hs}{i:Nat}{v:V}(W:aM K ρ B U H)(r:au K ρ B H (.ref i) v)(h:U[i]?=some o):∃a,v=.ref a/\ρ[i]?=some a/\bf K ρ B H a o:=by obtain⟨a,rfl,e⟩:=r.oJ;exact⟨a,rfl,e,W.obj i a o e h⟩
def ixW:DV->DV->M DV
  |.ref n,.int i=>do
    match <- ZF n with
    |.lst ds=>match atI ds i with
      |some d=>pure d
      |none=>failure
    |_=>failure
  |x,y=>bL x y
def nY:List DV->M DV
  | [.ref n]=>do
    match <- ZF n with
    |.lst ds=>pure (.tup ds)
    |_=>failure
  |xs=>wC xs
theorem v9:CallR X (.type "tuple") (iT X.K nY):=by
  intro l s σ H xs us Q I r h;obtain⟨ρ,B,U,ds,d,j,W,m,e,k⟩:=h;unfold nY at e;split at e
  . rename_i n
    obtain⟨o,hp1,q,i⟩:=Qf e;obtain⟨t,rfl⟩:=ZB q;cases o with
    |aB _=>cases i
    |ins _ _=>cases i
    |lst y=>obtain⟨rfl,rfl⟩:=Qk i;obtain⟨v,rfl,x⟩:=m.b_;obtain⟨a,rfl,_,ys,h1,u⟩:=au.aY W x t;exact YT l s σ H _ us Q I r ⟨a,ys,rfl,.inl ⟨SqL.of h1,xK W u k⟩⟩
  . exact Qe1 l s σ H xs us Q I r ⟨ρ,B,U,_,d,j,W,m,e,k⟩
end
def Runs{α:Type}(m:M α)(x:α):Prop:=∀U,∃a,m U=some (x,a)
section
variable{f g:aD}{env aR iB:En}{c ca cb:bO}{e fa fb:aF}{d x y:DV}{r:Fl×En}
end
theorem Qg{α β:Type}{m:M α}{k:α->M β}{x:α}(h:m U=some (x,hp1)):(m >>= k) U=k x hp1:=by show(m U).bind (λp=>k p.1 p.2)=_;rw[h];rfl
def qQ{f g:aD}(h:f env U=some ((.nx,aR),hp1)):Qq f g env U=g aR hp1:=Qg h
def QS{i:Nat}{f:aF}{env:En}(h:f env U=some (d,hp1)):QD i f env U=some ((.nx,env.set i (.val d)),hp1):=Qg h
theorem DB{i:Int}(h:atI ds i=some d):bL (.tup ds) (.int i)=pure d:=by simp only[bL,h]
theorem ur(ds:List DV)(m:Nat):D.Vw ds none (some (m:Int))=ds.take m:=by unfold D.Vw;rw[HT.sIx_nat];show(ds.drop 0).take (min m ds.length-0)=ds.take m;simp
theorem Qdc(ds:List DV)(m:Nat):D.Vw ds (some (m:Int)) none=ds.drop m:=by
 unfold D.Vw;rw[HT.sIx_nat];show(ds.drop (min m ds.length)).take (ds.length-min m ds.length)=ds.drop m;rcases Nat.le_total m ds.length with h|h
 ·rw[Nat.min_eq_left h,Ci (by simp)]
 ·rw[Nat.min_eq_right h,Cn h,Cn (Ae _)];simp
theorem U4(ds:List DV)(m:Nat):g_ (.tup ds) none (some (m:Int))=pure (.tup (ds.take m)):=by rw[<- ur];rfl
theorem U3(ds:List DV)(m:Nat):g_ (.tup ds) (some (m:Int)) none=pure (.tup (ds.drop m)):=by rw[<- Qdc];rfl
theorem uD{f g:aF}{ds:List DV}{m:Nat}(h:f env=pure (.tup ds))(h':g env=pure (.int (m:Int))):bY f ZW (ZX g) env=pure (.tup (ds.take m)):=by simp only[bY,ZW,ZX,h,h',Ei,cF,U4]
theorem uC{f g:aF}{ds:List DV}{m:Nat}(h:f env=pure (.tup ds))(h':g env=pure (.int (m:Int))):bY f (ZX g) ZW env=pure (.tup (ds.drop m)):=by simp only[bY,ZW,ZX,h,h',Ei,cF,U3]
end D
namespace L2
open PySem PySem.Spec PyProof.Rows
section
variable{X:Cx}
def SN:R2:=λx y H Q=>∃a kvs k v,x=.ref a/\y=kV k/\H a=some (.dK kvs)/\XJ kvs k=some v/\Q v H
theorem Dx(f:X.A.units+1<cLine):IxR X SN:=by intro value slice O9 s σ H x y v u Q I rx ry h hs;obtain⟨a,kvs,k,z,rfl,rfl,e,i,q⟩:=h;cases rx;have g:DGet H a (kV k) (some z):=i▸DGet.k e;exact tail_any (uv I g) PySem.F.slot_dict_getitem.lookup (Qb4 f I g ry λw' s' c b=>⟨z,H,c,b,q⟩) hs
theorem Qaf(e:X.A.units+1<cLine):OpR X (compareOp .In) (λx y H Q=>∃a kvs k,y=.ref a/\x=kV k/\H a=some (.dK kvs)/\Q (.bl (XJ kvs k).isSome) H):=by intro f s σ H x y v u Q I rx ry h;obtain⟨a,kvs,k,rfl,rfl,c,q⟩:=h;cases ry;exact Tg e I (DGet.k c) rx λs' b=>⟨.bl _,H,b,rfl,q⟩
def R_:V->V->V->Hp->(Hp->Prop)->Prop:=λo i v H Q=>∃a kvs k,o=.ref a/\i=kV k/\H a=some (.dK kvs)/\kvs.length<sizeLine/\Q (upd H a (.dK (zq kvs k v)))
theorem SF(f:X.A.units+1<cLine):rM X R_:=λn s σ H o i v t r u Q I l j m h=>by obtain⟨a,kvs,k,rfl,rfl,c,e,q⟩:=h;cases l;exact Qb5 f I (DPut.k c e) j m λs' b=>⟨_,b,q⟩
def Sd:V->List V->Hp->VK->Prop:=λx vs H Q=>∃a kvs k,x=.ref a/\H a=some (.dK kvs)/\((vs=[kV k]/\∃v,XJ kvs k=some v/\Q v (upd H a (.dK (xE kvs k)))) ∨
 ∃z,vs=[kV k,z]/\(∀v,XJ kvs k=some v->Q v (upd H a (.dK (xE kvs k))))/\(XJ kvs k=none->Q z H))
theorem vj:MtR X "dict.pop" Sd:=by
 intro n s σ H x vs v us Q I rx rv h;obtain⟨a,kvs,k,rfl,f,h⟩:=h;cases rx;rcases h with ⟨rfl,w,hw,q⟩|⟨z,rfl,j,m⟩
 ·obtain⟨u,rfl,e⟩:=Kf rv;exact Fj I f e hw (.inl rfl) λw' s' c b=>⟨w,_,c,b,q⟩
 ·obtain⟨u,u2,rfl,e,i⟩:=gY rv;cases l:XJ kvs k with
  |some w=>exact Fj I f e l (.inr ⟨u2,rfl⟩) λw' s' c b=>⟨w,_,c,b,j w l⟩
  |none=>exact HQ I f e l λs' c=>⟨z,H,c,i,m l⟩
def Sg:V->List V->Hp->VK->Prop:=λx vs H Q=>∃a kvs k,x=.ref a/\H a=some (.dK kvs)/\((vs=[kV k]/\Q ((XJ kvs k).getD .non) H)∨∃z,vs=[kV k,z]/\Q ((XJ kvs k).getD z) H)
theorem I_(i:X.A.units+1<cLine):MtR X "dict.get" Sg:=by
 intro l s σ H x vs v us Q I rx rv h;obtain⟨a,kvs,k,rfl,f,h⟩:=h;cases rx;rcases h with ⟨rfl,q⟩|⟨z,rfl,q⟩
 ·obtain⟨u,rfl,e⟩:=Kf rv;exact HU i I (DGet.k f) e λw' s' c b=>⟨_,H,c,b,q⟩
 ·obtain⟨u,u2,rfl,e,j⟩:=gY rv;exact HR i I (DGet.k f) e j λw' s' c b=>⟨_,H,c,b,q⟩
def Ey(n:Nat)(i:Int):Nat:=if i<0 then (i+(n:Int)).toNat else min i.toNat n
end
end L2
namespace D
open PySem PySem.Spec PyProof.Rows L2
def YV:DV->Option Key
 |.int i=>some (.inl i)
 |.str x=>some (.inr x)
 |_=>none
def Jx(kvs:List (Key×DV))(k:Key):Option DV:=(kvs.find? λa=>decide (a.1=k)).map (·.2)
def Ya(kvs:List (Key×DV))(k:Key)(d:DV):List (Key×DV) :=
 if (kvs.any λa=>decide (a.1=k))=true then kvs.map (λa=>if a.1=k then (a.1,d)else a)else kvs++[(k,d)]
def J5(kvs:List (Key×DV))(k:Key):List (Key×DV):=kvs.filter λa=>decide (a.1≠k)
section
variable{K:Aa}{ρ:Et}{B:Er}{H:Hp}{U:Hs}
theorem XT{v:V}(h:YV d=some k)(r:au K ρ B H d v):v=kV k:=by
 cases d<;>simp[YV]at h<;>subst h
 ·exact r.aZ
 ·exact r.fJ
abbrev aP(K:Aa)(ρ:Et)(B:Er)(H:Hp):List (Key×DV)->List (Key×V)->Prop:=Paired λp q=>p.1=q.1/\au K ρ B H p.2 q.2
theorem Ip:∀{kvs:List (Key×DV)}{xs:List (Key×V)},xs.map (·.1)=kvs.map (·.1)->ak K ρ B H (kvs.map (·.2)) (xs.map (·.2))->aP K ρ B H kvs xs
  | [],[],_,_=>.nil
  | [],_::_,e,_=>by simp at e
  |_::_,[],e,_=>by simp at e
  |p::kvs,q::xs,e,r=>by simp only[Bb,List.cons.injEq]at e;simp only[Bb]at r;unfold ak at r;obtain⟨x,t,a,h1,h2⟩:=r;simp only[List.cons.injEq]at a;obtain⟨rfl,rfl⟩:=a;exact .cons ⟨e.1.symm,h1⟩ (Ip e.2 h2)
theorem aP.to{kvs:List (Key×DV)}{xs:List (Key×V)}(r:aP K ρ B H kvs xs):xs.map (·.1)=kvs.map (·.1)/\ak K ρ B H (kvs.map (·.2)) (xs.map (·.2)):=by
 induction r with
 |nil=>exact⟨rfl,ak.nil⟩
 |cons h _ a=>exact⟨by simp[a.1,h.1],by simpa using ak.cons h.2 a.2⟩
theorem aP.val(r:aP K ρ B H kvs xs)(k:Key):(Jx kvs k=none/\XJ xs k=none)∨∃d v,Jx kvs k=some d/\XJ xs k=some v/\au K ρ B H d v:=by
  induction r with
  |nil=>exact .inl ⟨rfl,rfl⟩
  |@cons p q _ _ h _ b =>
    by_cases e:p.1=k
    . exact .inr ⟨p.2,q.2,by simp[Jx,B8,e],by simp[XJ,B8,h.1▸e],h.2⟩
    . have a:¬ q.1=k:=h.1▸e
      simpa [Jx,XJ,B8,e,a]using b
theorem aP.any{kvs:List (Key×DV)}{xs:List (Key×V)}(r:aP K ρ B H kvs xs)(k:Key):(kvs.any λa=>decide (a.1=k))=xs.any λa=>decide (a.1=k):=by
 induction r with
 |nil=>rfl
 |cons h _ b=>simp only[Cs,b,h.1]
theorem aP.repl{kvs:List (Key×DV)}{xs:List (Key×V)}(r:aP K ρ B H kvs xs)(k:Key)(rd:au K ρ B H d v):aP K ρ B H (kvs.map λa=>if a.1=k then (a.1,d)else a) (xs.map λa=>if a.1=k then (a.1,v)else a):=by
  induction r with
  |nil=>exact .nil
  |@cons p q _ _ h _ b =>
    refine .cons ?_ b;dsimp only;by_cases e:p.1=k
    . rw[Eb e,Eb (h.1▸e)];exact⟨h.1,rd⟩
    . rw[Ea e,Ea (h.1▸e)];exact h
theorem aP.snoc{kvs:List (Key×DV)}{xs:List (Key×V)}(r:aP K ρ B H kvs xs)(rd:au K ρ B H d v):aP K ρ B H (kvs++[(k,d)]) (xs++[(k,v)]):=by
 induction r with
 |nil=>exact .cons ⟨rfl,rd⟩ .nil
 |cons h _ a=>exact .cons h a
theorem aP.put(r:aP K ρ B H kvs xs)(k:Key)(rd:au K ρ B H d v):aP K ρ B H (Ya kvs k d) (zq xs k v):=by
 unfold Ya zq;rw[r.any k];split
 ·exact r.repl k rd
 ·exact r.snoc rd
theorem aP.drop(r:aP K ρ B H kvs xs)(k:Key):aP K ρ B H (J5 kvs k) (xE xs k):=by
  induction r with
  |nil=>exact .nil
  |@cons p q _ _ h _ b =>
    unfold J5 xE at b ⊢;by_cases e:p.1=k
    . have a:q.1=k:=h.1▸e
      simpa [e,a]using b
    . have a:¬ q.1=k:=h.1▸e
      rw[List.filter_cons_of_pos (by simpa using e),List.filter_cons_of_pos (by simpa using a)];exact .cons h b
def aP.len{kvs:List (Key×DV)}{xs:List (Key×V)}(r:aP K ρ B H kvs xs):kvs.length=xs.length:=Paired.length r
def aP.gs(g:Gs K ρ B H ρ' B' H')(r:aP K ρ B H kvs xs):aP K ρ' B' H' kvs xs:=L2.Paired.mapP r λ_ _ h=>⟨h.1,au.gs g _ _ h.2⟩
theorem bf.aB{a:Addr}(h:bf K ρ B H a (.aB kvs)):∃xs,H a=some (.dK xs)/\aP K ρ B H kvs xs:=by obtain⟨xs,e,b,c⟩:=h;exact⟨xs,e,Ip b c⟩
def aP.iw{a:Addr}(r:aP K ρ B H kvs xs)(e:H a=some (.dK xs)):bf K ρ B H a (.aB kvs):=⟨xs,e,r.to.1,r.to.2⟩
theorem Ki{n:Nat}{a:Addr}(W:aM K ρ B U H)(i:ρ[n]?=some a)(e:H a=some (.dK xs))(r:aP K ρ B H kvs' xs'):Gr K ρ B H ρ B (upd H a (.dK xs'))/\aM K ρ B (U.set n (.aB kvs')) (upd H a (.dK xs')):=by have g:Gr K ρ B H ρ B (upd H a (.dK xs')):=Gr.dR i e;exact⟨g,W.dR (o':=.dK xs') (v:=.aB kvs') i e ((r.gs (g.gs W.rb)).iw Q3)⟩
theorem Kj{n:Nat}{a:Addr}(W:aM K ρ B U H)(i:ρ[n]?=some a)(e:H a=some o)(r:ak K ρ B H ds' xs'):Gr K ρ B H ρ B (upd H a (.lst xs'))/\aM K ρ B (U.set n (.lst ds')) (upd H a (.lst xs')):=by have g:Gr K ρ B H ρ B (upd H a (.lst xs')):=Gr.dR i e;exact⟨g,W.dR (o':=.lst xs') (v:=.lst ds') i e ⟨xs',Q3,ak.grow W.rb g _ _ r⟩⟩
end
section
variable{X:Cx}{e a b c:Expr}{f fa fb fc:aF}{pos:Pos}
def Yz(o:Option DV):M DV:=match o with
 |some d=>pure d
 |none=>failure
theorem jn{o:Option DV}{U i:Hs}(h:Yz o U=some (d,i)):o=some d/\U=i:=by
 cases o with
 |none=>cases h
 |some z=>obtain⟨rfl,rfl⟩:=Qk h;exact⟨rfl,rfl⟩
def JR(d:DV):M Key:=match YV d with
 |some k=>pure k
 |none=>failure
theorem Xh{U i:Hs}(h:JR d U=some (k,i)):YV d=some k/\U=i:=by
 unfold JR at h;cases q:YV d with
 |none=>rw[q]at h;cases h
 |some z=>rw[q]at h;obtain⟨rfl,rfl⟩:=Qk h;exact⟨rfl,rfl⟩
def aA:DV->DV->M DV
  |.ref n,y=>do
    match <- ZF n with
    |.lst ds=>do let i <- cF y;Yz (atI ds i)
    |.aB kvs=>do let k <- JR y;Yz (Jx kvs k)
    |_=>failure
  |x,y=>bL x y
theorem W5(Y:X.A.units+1<cLine):IxR X (m_ X.K aA):=by
  intro value slice O9 s σ H x y v u Q I rx ry h hsub;obtain⟨ρ,B,U,dx,dy,d,q,W,J,t,e,k⟩:=h;unfold aA at e;split at e
  . rename_i n
    obtain⟨o,hp1,O,l⟩:=Qf e;obtain⟨P,rfl⟩:=ZB O;obtain⟨a,rfl,i1,L⟩:=au.aY W J P;cases o with
    |ins _ _=>cases l
    |aB kvs =>
      obtain⟨F,r,e4,m⟩:=Qf l;obtain⟨R,rfl⟩:=Xh e4;obtain⟨j,rfl⟩:=jn m;obtain⟨xs,h1,rk⟩:=L.aB;rcases rk.val F with ⟨z,_⟩|⟨d',v',z,zv,C⟩
      . rw[j]at z;cases z
      . rw[j]at z;cases z
        exact Dx Y value slice O9 s σ H _ _ v u Q I rx ry ⟨a,xs,F,v',rfl,XT R t,h1,zv,k _ ρ B H Gr.refl W C⟩ hsub
    |lst ds=>obtain⟨i,r,e4,m⟩:=Qf l;obtain⟨rfl,rfl⟩:=VW e4;obtain⟨j,rfl⟩:=jn m;obtain⟨xs,h1,l1⟩:=L;obtain⟨z,hz,C⟩:=GJ l1 j;exact Le value slice O9 s σ H _ _ v u Q I rx ry ⟨a,xs,i,z,rfl,t.aZ,SqL.of h1,hz,k _ ρ B H Gr.refl W C⟩ hsub
  . exact Ez value slice O9 s σ H x y v u Q I rx ry ⟨ρ,B,U,_,_,d,q,W,J,t,e,k⟩ hsub
theorem Qx(l:X.A.units+1<cLine)(i:DE X a fa)(j:DE X b fb)(hs:GE b:=by intro _ _;rfl):DE X (.Subscript a b pos) (Qi aA fa fb):=L2.PE.imp (FQ (W5 l) i j hs) λ_ _ _ h=>zD h
def Yw:List DV->M DV
  | [.ref n]=>do
    match <- ZF n with
    |.lst ds=>pure (.int ds.length)
    |.aB kvs=>pure (.int kvs.length)
    |_=>failure
  |xs=>qM xs
theorem yr:CallR X (.builtin "len") (iT X.K Yw):=by
  intro i s σ H xs us Q I r h;obtain⟨ρ,B,U,ds,d,l,W,q,e,k⟩:=h;unfold Yw at e;split at e
  . rename_i n
    obtain⟨o,hp1,u,j⟩:=Qf e;obtain⟨x,rfl⟩:=ZB u;obtain⟨v,rfl,y⟩:=q.b_;obtain⟨a,rfl,_,t⟩:=au.aY W y x;cases o with
    |ins _ _=>cases j
    |lst z=>obtain⟨rfl,rfl⟩:=Qk j;obtain⟨ys,h1,m⟩:=t;exact qG i s σ H _ us Q I r ⟨a,ys,rfl,.inl (SqL.of h1),by rw[<- m.length];exact k _ ρ B H Gr.refl W Xa⟩
    |aB kvs=>obtain⟨rfl,rfl⟩:=Qk j;obtain⟨ys,h1,m⟩:=t.aB;exact QbZ i s σ H _ us Q I r ⟨a,ys,rfl,h1,by rw[<- m.len];exact k _ ρ B H Gr.refl W Xa⟩
  . exact rR i s σ H xs us Q I r ⟨ρ,B,U,_,d,l,W,q,e,k⟩
def o9:DV->M (List DV)
  |.tup ds=>pure ds
  |.lst ds=>pure ds
  |.ref n=>do
    match <- ZF n with
    |.lst ds=>pure ds
    |_=>failure
  |_=>failure
theorem gF{U i:Hs}{K:Aa}{v:V}(W:aM K ρ B U H)(r:au K ρ B H d v)(h:o9 d U=some (ds,i)):U=i/\∃p xs,v=.ref p/\(SqL K H p xs∨SqT K H p xs)/\ak K ρ B H ds xs:=by
  cases d with
  |tup xs=>obtain⟨rfl,rfl⟩:=Qk h;obtain⟨a,ys,rfl,_,m,l⟩:=r.tupI;exact⟨rfl,a,ys,rfl,.inr m,l⟩
  |lst xs=>obtain⟨rfl,rfl⟩:=Qk h;obtain⟨a,ys,rfl,_,m,l⟩:=r.bK;exact⟨rfl,a,ys,rfl,.inl m,l⟩
  |ref n =>
    obtain⟨o,hp1,q,j⟩:=Qf (show(ZF n >>= λo=>(match o with|.lst ds=>pure ds|_=>failure:M (List DV))) U=some (ds,i)from h);obtain⟨t,rfl⟩:=ZB q;cases o with
    |lst x=>obtain⟨rfl,rfl⟩:=Qk j;obtain⟨a,rfl,_,ys,h1,u⟩:=au.aY W r t;exact⟨rfl,a,ys,rfl,.inl (SqL.of h1),u⟩
    |aB _=>cases j
    |ins _ _=>cases j
  |non=>cases h
  |bl _=>cases h
  |int _=>cases h
  |str _=>cases h
def pA(g:DV->M DV):List DV->M DV
 | [d]=>g d
 |_=>failure
def pB:List DV->M DV:=pA λd=>do let ds <- o9 d;pure (.lst ds)
def Eo:List DV->M DV:=pA λd=>do let ds <- o9 d;X0 (.lst ds)
theorem yM{g:DV->M DV}{ds:List DV}(h:pA g ds U=some (d,hp')):∃x,ds=[x]/\g x U=some (d,hp'):=by
 unfold pA at h;split at h
 ·exact⟨_,rfl,h⟩
 ·cases h
theorem HV:CallR X (.type "list") (iT X.K pB):=by intro i s σ H xs us Q I r h;obtain⟨ρ,B,U,ds,d,n,W,o,e,k⟩:=h;obtain⟨x,rfl,e⟩:=yM e;obtain⟨u,hp1,j,m⟩:=Qf e;obtain⟨rfl,rfl⟩:=Qk m;obtain⟨v,rfl,q⟩:=o.b_;obtain⟨rfl,p,ys,rfl,t,l⟩:=gF W q j;exact call_list_of i s σ H _ us Q I r ⟨p,ys,rfl,t,ji W l k⟩
theorem _root_.L2.CallR.kf{f:Value}{r:List V->Hp->VK->Prop}(h:CallR X f r):CallR X f (λxs H Q=>r xs H λv i=>rZ X.K i->Q v i):=by intro j s σ H xs us Q I rv q;refine thn (h j s σ H xs us _ I rv q) λv s' ⟨x,i,I',rx,q'⟩=>⟨x,i,I',rx,q' (Inv.lY I')⟩
theorem Qe0:CallR X (.type "list") (iT X.K Eo):=by intro i s σ H xs us Q I r h;obtain⟨ρ,B,U,ds,d,n,W,o,e,k⟩:=h;obtain⟨x,rfl,e⟩:=yM e;obtain⟨u,hp1,j,m⟩:=Qf e;obtain⟨v,rfl,q⟩:=o.b_;obtain⟨rfl,p,ys,rfl,t,l⟩:=gF W q j;cases m;exact call_list_of.kf i s σ H _ us Q I r ⟨p,ys,rfl,t,MP W l k⟩
end
def cD:Nat->Hs->DV->Option DV
  |0,_,_=>none
  |n+1,U,d=>match d with
    |.ref i=>match U[i]? with
      |some (.lst ds)=>(ds.mapM (cD n U)).map .lst
      |_=>none
    |.tup ds=>(ds.mapM (cD n U)).map .tup
    |.lst ds=>(ds.mapM (cD n U)).map .lst
    |d=>some d
theorem Uo{α β:Type}{f:α->Option β}{x:α}{xs:List α}{ys:List β}(h:(x::xs).mapM f=some ys):∃y a,f x=some y/\xs.mapM f=some a/\ys=y::a:=by
  rw[List.mapM_cons]at h;cases q:f x with
  |none=>rw[q]at h;cases h
  |some y =>
    cases b:xs.mapM f with
    |none=>rw[q,b]at h;cases h
    |some a=>rw[q,b]at h;exact⟨y,a,rfl,rfl,(Ak h).symm⟩
section
variable{X:Cx}{O9:Ek}{σ:St}{H:Hp}{s:Shared}{ρ:Et}{B:Er}{U:Hs}
theorem qi(I:Inv X O9 σ H s)(W:aM X.K ρ B U H):∀(n:Nat)(d d':DV)(v:V)(u:Value),cD n U d=some d'->au X.K ρ B H d v->RelV v u->∃j,Reads s.heap u (toP d') j
  |0,_,_,_,_,h,_,_=>by cases h
  |n+1,d,d',v,u,h,r,f=>by
    have all:∀(ds c:List DV)(xs:List V)(us:List Value),ds.mapM (cD n U)=some c->ak X.K ρ B H ds xs->Vals xs us->∃j,ReadsAll s.heap us (bZ c) j:=by
      intro ds;induction ds with
      |nil=>intro c xs us h r f;rw[List.mapM_nil]at h;cases h;unfold ak at r;subst r;cases f;exact⟨[],by unfold bZ;exact .nil⟩
      |cons x ds Q =>
        intro c xs us h r f;obtain⟨y,zs,h1,h2,rfl⟩:=Uo h;unfold ak at r;obtain⟨z,t,rfl,r1,r2⟩:=r;cases f with
        |cons R Y=>obtain⟨j,O⟩:=qi I W n x y z _ h1 r1 R;obtain⟨bs,P⟩:=Q zs t _ h2 r2 Y;exact⟨_,by unfold bZ;exact .cons O P⟩
    have lst:∀(ds c:List DV)(a:Addr)(xs:List V),ds.mapM (cD n U)=some c->SqL X.K H a xs->ak X.K ρ B H ds xs->∃j,Reads s.heap (.ref a) (toP (.lst c)) j:=by intro ds c a xs h F C;obtain⟨m,L,⟨o,k,e,J,_,hd⟩,_⟩:=I.list F;obtain⟨j,q⟩:=all ds c xs m h C L;exact⟨_,by unfold toP;exact reads_list_at e J hd (by simpa using q)⟩
    unfold cD at h;cases d with
    |non=>cases h;obtain rfl:=r.eX;cases f;exact⟨[],by unfold toP;exact .none⟩
    |bl b=>cases h;obtain rfl:=r.fD;cases f;exact⟨[],by unfold toP;exact .bool b⟩
    |int i=>cases h;obtain rfl:=r.aZ;obtain⟨t,rfl⟩:=f;exact⟨[],by unfold toP;exact .int i t⟩
    |str x=>cases h;obtain rfl:=r.fJ;obtain⟨t,rfl⟩:=f;exact⟨[],by unfold toP;exact .str x t⟩
    |tup ds=>obtain⟨c,h1,rfl⟩:=Cg.mp h;obtain⟨a,xs,rfl,_,F,C⟩:=r.tupI;cases f;obtain⟨m,L,⟨o,e,J,k,hd⟩,_⟩:=I.tuple F;obtain⟨j,q⟩:=all ds c xs m h1 C L;exact⟨_,by unfold toP;exact reads_tuple_at e J hd (by simpa using q)⟩
    |lst ds=>obtain⟨c,h1,rfl⟩:=Cg.mp h;obtain⟨a,xs,rfl,_,F,C⟩:=r.bK;cases f;exact lst ds c a xs h1 F C
    |ref i =>
      cases q:U[i]? with
      |none=>simp only[q]at h;cases h
      |some o =>
        simp only[q]at h;cases o with
        |aB _=>cases h
        |ins _ _=>cases h
        |lst ds=>obtain⟨c,h1,rfl⟩:=Cg.mp h;obtain⟨a,rfl,_,xs,h2,l⟩:=au.aY W r q;cases f;exact lst ds c a xs h1 (SqL.of h2) l
end
def kL(d:DV):M DV:=λU=>(cD 40 U d).map λx=>(x,U)
theorem K0{U a:Hs}(h:kL d U=some (d',a)):cD 40 U d=some d'/\U=a:=by obtain⟨x,h1,h2⟩:=Cg.mp h;cases h2;exact⟨h1,rfl⟩
def Vy(x y:DV):M Bool:=do
 let x' <- kL x
 let y' <- kL y
 QB (SeqAt.shaped (toP x')&&SeqAt.shaped (toP y'))
 pure (PyData.eqv (toP x') (toP y'))
def aX:DV->DV->M DV:=λx y=>do let b <- Vy x y;pure (.bl b)
def dI:DV->DV->M DV:=λx y=>do let b <- Vy x y;pure (.bl (!b))
section
variable{X:Cx}{e a b c:Expr}{f fa fb fc:aF}{ca cb:bO}{pos:Pos}
theorem K3{k:Bool}{U i:Hs}(h:Vy x y U=some (k,i)):∃j l,cD 40 U x=some j/\cD 40 U y=some l/\SeqAt.shaped (toP j)=true/\SeqAt.shaped (toP l)=true/\k=PyData.eqv (toP j) (toP l)/\U=i:=by obtain⟨j,hp1,m,h⟩:=Qf h;obtain⟨l,q,n,h⟩:=Qf h;obtain⟨_,r,o,h⟩:=Qf h;obtain⟨t,rfl⟩:=K0 m;obtain⟨u,rfl⟩:=K0 n;obtain⟨hs,rfl⟩:=QM o;obtain⟨rfl,rfl⟩:=Qk h;rw[Bc]at hs;exact⟨j,l,t,u,hs.1,hs.2,rfl,rfl⟩
theorem XV(o:X.A.units+64<cLine):P2 X (compareOp .Eq) aX:=by intro J s σ H x y v u Q I rx ry h;obtain⟨ρ,B,U,O,P,d,n,W,t,z,e,k⟩:=h;obtain⟨b,hp1,l,m⟩:=Qf e;obtain⟨rfl,rfl⟩:=Qk m;obtain⟨R,Y,q,r,C,F,rfl,rfl⟩:=K3 l;obtain⟨L,i⟩:=qi I W _ _ _ _ _ q t rx;obtain⟨bs,j⟩:=qi I W _ _ _ _ _ r z ry;exact eq_dataH i j C F o ⟨.bl _,H,I,rfl,k _ ρ B H Gr.refl W Ja⟩
theorem rO(o:X.A.units+64<cLine):P2 X (compareOp .NotEq) dI:=by intro J s σ H x y v u Q I rx ry h;obtain⟨ρ,B,U,O,P,d,n,W,t,z,e,k⟩:=h;obtain⟨b,hp1,l,m⟩:=Qf e;obtain⟨rfl,rfl⟩:=Qk m;obtain⟨R,Y,q,r,C,F,rfl,rfl⟩:=K3 l;obtain⟨L,i⟩:=qi I W _ _ _ _ _ q t rx;obtain⟨bs,j⟩:=qi I W _ _ _ _ _ r z ry;exact ne_dataH i j C F o ⟨.bl _,H,I,rfl,k _ ρ B H Gr.refl W Ja⟩
def Xg:DV->Bool
 |.non=>true
 |.bl _=>true
 |.int _=>true
 |.str _=>true
 |_=>false
def Ds:DV->DV->Bool
 |.non,.non=>true
 |.bl a,.bl b=>a==b
 |.bl a,.int b=>(if a then 1 else 0)==b
 |.int a,.bl b=>a==(if b then 1 else 0)
 |.int a,.int b=>a==b
 |.str a,.str b=>a==b
 |_,_=>false
def lV:DV->V
 |.non=>.non
 |.bl b=>.bl b
 |.int i=>.int i
 |.str x=>.str x
 |_=>.non
theorem Lz{K:Aa}{v:V}(h:Xg d=true)(r:au K ρ B H d v):v=lV d:=by
 cases d<;>simp[Xg]at h
 ·exact r.eX
 ·exact r.fD
 ·exact r.aZ
 ·exact r.fJ
theorem uG(h:Xg d=true):YC (lV d)=true:=by cases d<;>simp[Xg]at h<;>rfl
theorem D2{d e:DV}(h:Xg d=true)(h':Xg e=true):eqV (lV d) (lV e)=Ds d e:=by cases d<;>simp[Xg]at h<;>cases e<;>simp[Xg]at h'<;>rfl
theorem LC{K:Aa}:∀{ds:List DV}{xs:List V},ds.all Xg=true->ak K ρ B H ds xs->xs=ds.map lV
  | [],_,_,r=>by unfold ak at r;exact r
  |d::ds,_,h,r=>by unfold ak at r;obtain⟨x,t,rfl,i,j⟩:=r;rw[C6,Bc]at h;rw[Lz h.1 i,LC h.2 j];rfl
def inB(d:DV)(ds:List DV):Bool:=ds.any λy=>Ds y d
theorem Lp{d:DV}(h:Xg d=true):∀{ds:List DV},ds.all Xg=true->inV (lV d) (ds.map lV)=inB d ds
  | [],_=>rfl
  |x::ds,h'=>by rw[C6,Bc]at h';have i:=Lp h h'.2;unfold inV inB at i ⊢;rw[Bb,Cs,Cs,i,D2 h'.1 h]
theorem vV:∀{ds:List DV},ds.all Xg=true->(ds.map lV).all YC=true
  | [],_=>rfl
  |x::ds,h=>by rw[C6,Bc]at h;rw[Bb,C6,uG h.1,vV h.2];rfl
def wF(x:DV):DV->M Bool
  |.ref n=>do
    match <- ZF n with
    |.lst ds=>do QB (Xg x&&ds.all Xg);pure (inB x ds)
    |.aB kvs=>do let k <- JR x;pure (Jx kvs k).isSome
    |_=>failure
  |.tup ds=>do QB (Xg x&&ds.all Xg);pure (inB x ds)
  |.lst ds=>do QB (Xg x&&ds.all Xg);pure (inB x ds)
  |_=>failure
def eU:DV->DV->M DV:=λx y=>do let b <- wF x y;pure (.bl b)
theorem Qad{k:Bool}{U i:Hs}{K:Aa}(W:aM K ρ B U H)(v:au K ρ B H x vx)(u:au K ρ B H y vy)(h:wF x y U=some (k,i)):U=i /\
    ((∃p xs,vy=.ref p/\(SqL K H p xs∨SqT K H p xs)/\YC vx=true/\xs.all YC=true/\k=inV vx xs)∨∃a kvs q,vy=.ref a/\vx=kV q/\H a=some (.dK kvs)/\k=(XJ kvs q).isSome):=by
  have l:∀(ds:List DV)(xs:List V)(p:Addr),(do QB (Xg x&&ds.all Xg);pure (inB x ds):M Bool) U=some (k,i)->ak K ρ B H ds xs->(SqL K H p xs∨SqT K H p xs)->vy=.ref p->U=i/\(∃p xs,vy=.ref p/\(SqL K H p xs∨SqT K H p xs)/\YC vx=true/\xs.all YC=true/\k=inV vx xs):=by intro ds xs p h j r J;obtain⟨_,hp1,t,m⟩:=Qf h;obtain⟨hs,rfl⟩:=QM t;obtain⟨rfl,rfl⟩:=Qk m;rw[Bc]at hs;have ex:=LC hs.2 j;have C:=Lz hs.1 v;subst ex C;exact⟨rfl,p,_,J,r,uG hs.1,vV hs.2,(Lp hs.1 hs.2).symm⟩
  cases y with
  |tup ds=>obtain⟨a,xs,rfl,_,r,j⟩:=u.tupI;exact(l ds xs a h j (.inr r) rfl).imp id .inl
  |lst ds=>obtain⟨a,xs,rfl,_,r,j⟩:=u.bK;exact(l ds xs a h j (.inl r) rfl).imp id .inl
  |ref n =>
    obtain⟨o,hp1,t,m⟩:=Qf h;obtain⟨F,rfl⟩:=ZB t;obtain⟨a,rfl,_,z⟩:=au.aY W u F;cases o with
    |lst ds=>obtain⟨xs,h1,j⟩:=z;exact(l ds xs a m j (.inl (SqL.of h1)) rfl).imp id .inl
    |aB kvs=>obtain⟨q,O,e4,I⟩:=Qf m;obtain⟨L,rfl⟩:=Xh e4;obtain⟨rfl,rfl⟩:=Qk I;obtain⟨xs,h1,P⟩:=z.aB;refine⟨rfl,.inr ⟨a,xs,q,rfl,XT L v,h1,?_⟩⟩;rcases P.val q with ⟨z1,z2⟩|⟨_,_,z1,z2,_⟩<;>rw[z1,z2]<;>rfl
    |ins _ _=>cases m
  |non=>cases h
  |bl _=>cases h
  |int _=>cases h
  |str _=>cases h
theorem wU(r:X.A.units+1<cLine):P2 X (compareOp .In) eU:=by
 intro j s σ H x y v u Q I rx ry h;obtain⟨ρ,B,U,J,L,d,q,W,z,C,e,k⟩:=h;obtain⟨b,hp1,l,m⟩:=Qf e;obtain⟨rfl,rfl⟩:=Qk m;obtain⟨rfl,h⟩:=Qad W z C l;have i:=k _ ρ B H Gr.refl W (Ja (b:=b));rcases h with ⟨p,xs,rfl,F,n,o,rfl⟩|⟨a,kvs,t,rfl,rfl,h1,rfl⟩
 ·exact Qcm j s σ H _ _ v u Q I rx ry ⟨p,xs,rfl,F,n,o,i⟩
 ·exact Qaf r j s σ H _ _ v u Q I rx ry ⟨a,kvs,t,rfl,rfl,h1,i⟩
def xg(o i d:DV):M Unit:=match o with
  |.ref n=>do
    match <- ZF n with
    |.lst ds=>do
      let k <- cF i
      match ixN ds.length k with
      |some j=>xq n (.lst (ds.set j d))
      |none=>failure
    |.aB kvs=>do
      let k <- JR i
      QB (decide (kvs.length<lim))
      xq n (.aB (Ya kvs k d))
    |_=>failure
  |_=>failure
def Ow(K:Aa)(g:DV->DV->DV->M Unit):rK:=λo i v H Q=>∃ρ B U j l dv h,aM K ρ B U H/\au K ρ B H j o/\au K ρ B H l i/\au K ρ B H dv v/\g j l dv U=some ((),h)/\∀ρ' B' H',Gr K ρ B H ρ' B' H'->aM K ρ' B' h H'->Q H'
theorem ak.set{K:Aa}(r:au K ρ B H d x):∀{ds:List DV}{xs:List V}(i:Nat),ak K ρ B H ds xs->ak K ρ B H (ds.set i d) (xs.set i x)
  | [],_,i,h=>by unfold ak at h;subst h;exact ak.nil
  |_::ds,_,0,h=>by unfold ak at h;obtain⟨y,t,rfl,_,h2⟩:=h;exact ak.cons r h2
  |_::ds,_,i+1,h=>by unfold ak at h;obtain⟨y,t,rfl,h1,h2⟩:=h;exact ak.cons h1 (ak.set r i h2)
theorem W4(hu:X.A.units+1<cLine):rM X (Ow X.K xg):=by
  intro z s σ H o i v ov iv u Q I ro ri rv h;obtain⟨ρ,B,U,R,di,dv,ab,W,r1,L,O,e,k⟩:=h;cases R with
  |ref n =>
    obtain⟨ob,hp1,Y,t⟩:=Qf e;obtain⟨e3,rfl⟩:=ZB Y;obtain⟨a,rfl,C,y⟩:=au.aY W r1 e3;cases ob with
    |ins _ _=>cases t
    |lst ds =>
      obtain⟨j,x,e4,l⟩:=Qf t;obtain⟨rfl,rfl⟩:=VW e4;obtain⟨xs,h1,J⟩:=y;cases q:ixN ds.length j with
      |none=>simp only[q]at l;cases l
      |some m=>simp only[q]at l;cases l;obtain⟨g,r⟩:=Kj W C h1 (ak.set O m J);exact SE z s σ H _ _ v ov iv u Q I ro ri rv ⟨a,xs,j,m,rfl,L.aZ,h1,by rw[<- J.length];exact q,k ρ B _ g r⟩
    |aB kvs=>obtain⟨F,x,e4,l⟩:=Qf t;obtain⟨hk,rfl⟩:=Xh e4;obtain⟨_,ae,e6,e7⟩:=Qf l;obtain⟨hl,rfl⟩:=QM e6;cases e7;obtain⟨xs,h1,P⟩:=y.aB;obtain⟨g,r⟩:=Ki W C h1 (P.put F O);exact SF hu z s σ H _ _ v ov iv u Q I ro ri rv ⟨a,xs,F,rfl,XT hk L,h1,by rw[<- P.len];exact Ay (Eg hl) vf,k ρ B _ g r⟩
  |non=>cases e
  |bl _=>cases e
  |int _=>cases e
  |str _=>cases e
  |tup _=>cases e
  |lst _=>cases e
def bB(f g:aF):iH:=λd env=>do
 let o <- f env
 let i <- g env
 xg o i d
 pure env
theorem YU(O:X.A.units+1<cLine)(J:DE X o fo)(hi:DE X i fi)
  (ha:∀v,assign (.Subscript o i pos) X.env v=(do
   let ov <- holding [v] (eval o X.env)
   let iv <- holding [v,ov] (eval i X.env)
   standAt pos
   holding [v,ov,iv] (setItem ov iv v)
   release [v,ov,iv] []):=by intro _;rfl):PG X (.Subscript o i pos) (nA X.K (bB fo fi)):=by
 intro q s σ H v u Q I r h;refine MD J hi (W4 O) ha q s σ H v u Q I r ?_;obtain⟨Z,env,ρ,B,U,d,m,L,S,rd,e,k⟩:=h;obtain⟨x,hp1,t,e⟩:=Qf e;obtain⟨y,j,C,e⟩:=Qf e;obtain⟨z,l,F,e⟩:=Qf e;obtain⟨rfl,rfl⟩:=Qk e;refine tD.run S t λY ρ1 B1 H1 g1 S1 P=>tD.run S1 C λvy ρ2 n H2 g2 S2 R=>?_;exact⟨ρ2,n,j,x,y,d,l,S2.wo,au.grow S1.wo.rb g2 _ _ P,R,au.grow S.wo.rb (g1.trans g2) _ _ rd,F,λρ3 B3 H3 g3 W3=>k _ ρ3 B3 H3 ((g1.trans (g2.trans g3)).gs S.wo.rb) (S2.grow g3 W3)⟩
def Xi:String->DV->M Unit
  | "list", .lst _=>pure ()
  | "str", .str _=>pure ()
  |T,.ref n=>do
    match <- ZF n with
    |.lst _=>QB (T == "list")
    |.aB _=>QB (T == "dict")
    |_=>failure
  |_,_=>failure
theorem QdB{T:String}{U i:Hs}{K:Aa}{u:Unit}(W:aM K ρ B U H)(r:au K ρ B H d v)(h:Xi T d U=some (u,i)):U=i/\tyV K T v H:=by
  unfold Xi at h;split at h
  . obtain⟨_,rfl⟩:=Qk h
    obtain⟨a,xs,rfl,_,t,_⟩:=r.bK;exact⟨rfl,.inl ⟨rfl,xs,t⟩⟩
  . obtain⟨_,rfl⟩:=Qk h
    obtain rfl:=r.fJ;exact⟨rfl,rfl⟩
  . obtain⟨o,hp1,n,j⟩:=Qf h
    obtain⟨q,rfl⟩:=ZB n;obtain⟨a,rfl,_,m⟩:=au.aY W r q;cases o with
    |lst ds=>obtain⟨l,rfl⟩:=QM j;obtain⟨xs,h1,_⟩:=m;exact⟨rfl,.inl ⟨by simpa using l,xs,SqL.of h1⟩⟩
    |aB kvs=>obtain⟨l,rfl⟩:=QM j;obtain⟨xs,h1,_⟩:=m;exact⟨rfl,.inr (.inr (.inl ⟨by simpa using l,.inl ⟨xs,h1⟩⟩))⟩
    |ins _ _=>cases j
  . cases h
def oE(K:Aa)(m:DV->List DV->M DV):V->List V->Hp->VK->Prop:=λx vs H Q=>∃ρ B U i ds d h,aM K ρ B U H/\au K ρ B H i x/\ak K ρ B H ds vs/\m i ds U=some (d,h)/\iG K ρ B H d h Q
def JL(T:String)(m:DV->List DV->M DV)(f:aF)(a:cu):aF:=λenv=>do
 let x <- f env
 Xi T x
 let ds <- a env
 m x ds
theorem jY{T id:String}{name:Str}{es:List Expr}{m:DV->List DV->M DV}{i h:Pos}(O:MtR X id (oE X.K m))(Y:PlainAttrs T)(slot:Slot T name id)(n:typeOf (.builtin id)=pure (.type "method_descriptor"))(P:DE X o fo)(L:DA X (e::es) fs)
  (hbase:attributeBase o name X.env (eval o X.env)=eval o X.env:=by rfl)
  (hfew:((backTo h (starEach (e::es) X.env)).all (λx=>!x.1)&&(backToKw h (keywordEach [] X.env)).all (λx=>x.1.isSome)
   && decide ((e::es).length+([]:List Keyword).length+(if ([]:List Keyword).isEmpty then 0 else 1)<30))=true:=by rfl)
  (hline:(i.endLine==h.line)=true:=by rfl) (hs:starEach (e::es) X.env=(false,eval e X.env)::starEach es X.env:=by rfl) (hplain:(backTo h (starEach es X.env)).any (·.1)=false:=by rfl) :
  DE X (.Call (.Attribute o name i) (e::es) [] h) (JL T m fo fs) :=
 L2.PE.imp (WX Y slot n O P L hbase hfew hline hs hplain) λσ H Q u=>by obtain⟨Z,env,ρ,B,U,d,j,S,e,k⟩:=u;obtain⟨x,hp1,y,F⟩:=Qf e;obtain⟨_,R,C,I⟩:=Qf F;obtain⟨ds,l,q,J⟩:=Qf I;refine tD.run S y λv ρ1 B1 H1 g1 S1 r=>?_;obtain⟨z,ty⟩:=QdB S1.wo r C;rw[<- z]at q;exact⟨ty,fH.run S1 q λvs ρ2 t H2 g2 S2 r2=>⟨ρ2,t,l,x,ds,d,j,S2.wo,au.grow S1.wo.rb g2 _ _ r,r2,J,k.after (g1.trans g2)⟩⟩
def fC(x:DV)(k:Nat->List DV->M DV):M DV:=match x with
  |.ref n=>do
    match <- ZF n with
    |.lst ds=>k n ds
    |_=>failure
  |_=>failure
def dH(x:DV)(k:Nat->List (Key×DV)->M DV):M DV:=match x with
  |.ref n=>do
    match <- ZF n with
    |.aB ds=>k n ds
    |_=>failure
  |_=>failure
theorem Uv{x d:DV}{k:Nat->List DV->M DV}{U i:Hs}(h:fC x k U=some (d,i)):∃n ds,x=.ref n/\U[n]?=some (.lst ds)/\k n ds U=some (d,i):=by
  cases x with
  |ref n =>
    obtain⟨o,hp1,l,j⟩:=Qf h;obtain⟨m,rfl⟩:=ZB l;cases o with
    |lst ds=>exact⟨n,ds,rfl,m,j⟩
    |aB _=>cases j
    |ins _ _=>cases j
  |_=>cases h
theorem xS{x d:DV}{k:Nat->List (Key×DV)->M DV}{U i:Hs}(h:dH x k U=some (d,i)):∃n ds,x=.ref n/\U[n]?=some (.aB ds)/\k n ds U=some (d,i):=by
  cases x with
  |ref n =>
    obtain⟨o,hp1,l,j⟩:=Qf h;obtain⟨m,rfl⟩:=ZB l;cases o with
    |aB ds=>exact⟨n,ds,rfl,m,j⟩
    |lst _=>cases j
    |ins _ _=>cases j
  |_=>cases h
def Jf(x:DV):List DV->M DV
 | [d]=>fC x λn ds=>do QB (decide (ds.length<lim));xq n (.lst (ds++[d]));pure .non
 |_=>failure
theorem uV:MtR X "list.append" (oE X.K Jf):=by
 intro l s σ H x vs v us Q I rx rv h;obtain⟨ρ,B,U,F,es,d,t,W,z,C,e,k⟩:=h;unfold Jf at e;split at e
 ·rename_i y;obtain⟨n,ds,rfl,h0,e⟩:=Uv e;obtain⟨_,hp1,o,q⟩:=Qf e;obtain⟨r,rfl⟩:=QM o;cases q;obtain⟨a,rfl,u,xs,h1,j⟩:=au.aY W z h0;obtain⟨w,rfl,i⟩:=C.b_;obtain⟨g,m⟩:=Kj W u h1 (ak.append j (ak.one i));exact Gc l s σ H _ _ v us Q I rx rv ⟨a,xs,w,rfl,rfl,h1,by rw[<- j.length];exact Ay (Eg r) vf,k _ ρ B _ g m jp⟩
 ·cases e
def Xt(x:DV):List DV->M DV
 | [.int i,d]=>fC x λn ds=>do QB (decide (ds.length<lim)&&U6 i);xq n (.lst (ds.take (Ey ds.length i)++d::ds.drop (Ey ds.length i)));pure .non
 |_=>failure
def Yd(x:DV):List DV->M DV
  | [y]=>dH x λn kvs=>do
    let k <- JR y
    let d <- Yz (Jx kvs k)
    xq n (.aB (J5 kvs k))
    pure d
  | [y,z]=>dH x λn kvs=>do
    let k <- JR y
    match Jx kvs k with
    |some d=>do xq n (.aB (J5 kvs k));pure d
    |none=>pure z
  |_=>failure
theorem Wp:MtR X "dict.pop" (oE X.K Yd):=by
 intro r s σ H x vs v us Q I rx rv h;obtain⟨ρ,B,U,dx,es,d,ab,W,Y,o,e,k⟩:=h;unfold Yd at e;split at e
 ·rename_i y;obtain⟨n,kvs,rfl,h0,e⟩:=xS e;obtain⟨j,hp1,F,e⟩:=Qf e;obtain⟨J,rfl⟩:=Xh F;obtain⟨d',ae,e2,e⟩:=Qf e;obtain⟨i,rfl⟩:=jn e2;cases e;obtain⟨a,rfl,L,O⟩:=au.aY W Y h0;obtain⟨xs,h1,q⟩:=O.aB;obtain⟨w,rfl,l⟩:=o.b_;obtain rfl:=XT J l;obtain⟨g,u⟩:=Ki W L h1 (q.drop j);rcases q.val j with ⟨z,_⟩|⟨C,v',z,m,P⟩
  ·rw[i]at z;cases z
  ·rw[i]at z;cases z;exact vj r s σ H _ _ v us Q I rx rv ⟨a,xs,j,rfl,h1,.inl ⟨rfl,v',m,k _ ρ B _ g u (au.grow W.rb g _ _ P)⟩⟩
 ·rename_i y z;obtain⟨n,kvs,rfl,h0,e⟩:=xS e;obtain⟨j,hp1,F,e⟩:=Qf e;obtain⟨J,rfl⟩:=Xh F;obtain⟨a,rfl,L,O⟩:=au.aY W Y h0;obtain⟨xs,h1,q⟩:=O.aB;unfold ak at o;obtain⟨w,t,rfl,l,o⟩:=o;obtain rfl:=XT J l;obtain⟨w2,rfl,sS⟩:=o.b_;rcases q.val j with ⟨z1,m⟩|⟨C,v',z1,m,P⟩
  ·rw[z1]at e;obtain⟨rfl,rfl⟩:=Qk e;exact vj r s σ H _ _ v us Q I rx rv ⟨a,xs,j,rfl,h1,.inr ⟨w2,rfl,(λv i=>by rw[m]at i;cases i),λ_=>k _ ρ B H Gr.refl W sS⟩⟩
  ·rw[z1]at e;cases e;obtain⟨g,u⟩:=Ki W L h1 (q.drop j);exact vj r s σ H _ _ v us Q I rx rv ⟨a,xs,j,rfl,h1,.inr ⟨w2,rfl,(λv i=>by rw[m]at i;cases i;exact k _ ρ B _ g u (au.grow W.rb g _ _ P)),λR=>by rw[m]at R;cases R⟩⟩
 ·cases e
def Xs(x:DV):List DV->M DV
  | [y]=>dH x λn kvs=>do
    let k <- JR y
    pure ((Jx kvs k).getD .non)
  | [y,z]=>dH x λn kvs=>do
    let k <- JR y
    pure ((Jx kvs k).getD z)
  |_=>failure
theorem Ia(L:X.A.units+1<cLine):MtR X "dict.get" (oE X.K Xs):=by
 intro J s σ H x vs v us Q I rx rv h;obtain⟨ρ,B,U,dx,es,d,P,W,O,l,e,k⟩:=h;unfold Xs at e;split at e
 ·rename_i y;obtain⟨n,kvs,rfl,h0,e⟩:=xS e;obtain⟨j,hp1,q,e⟩:=Qf e;obtain⟨r,rfl⟩:=Xh q;obtain⟨rfl,rfl⟩:=Qk e;obtain⟨a,rfl,R,C⟩:=au.aY W O h0;obtain⟨xs,h1,u⟩:=C.aB;obtain⟨w,rfl,i⟩:=l.b_;obtain rfl:=XT r i;refine I_ L J s σ H _ _ v us Q I rx rv ⟨a,xs,j,rfl,h1,.inl ⟨rfl,k _ ρ B H Gr.refl W ?_⟩⟩;rcases u.val j with ⟨z1,m⟩|⟨o,v',z1,m,F⟩<;>rw[z1,m]
  ·exact jp
  ·exact F
 ·rename_i y z;obtain⟨n,kvs,rfl,h0,e⟩:=xS e;obtain⟨j,hp1,q,e⟩:=Qf e;obtain⟨r,rfl⟩:=Xh q;obtain⟨rfl,rfl⟩:=Qk e;obtain⟨a,rfl,R,C⟩:=au.aY W O h0;obtain⟨xs,h1,u⟩:=C.aB;unfold ak at l;obtain⟨w,t,rfl,i,l⟩:=l;obtain rfl:=XT r i;obtain⟨w2,rfl,Y⟩:=l.b_;refine I_ L J s σ H _ _ v us Q I rx rv ⟨a,xs,j,rfl,h1,.inr ⟨w2,rfl,k _ ρ B H Gr.refl W ?_⟩⟩;rcases u.val j with ⟨z1,m⟩|⟨o,v',z1,m,F⟩<;>rw[z1,m]
  ·exact Y
  ·exact F
 ·cases e
end
end D
namespace L2
open PySem PySem.Spec PyProof.Rows
theorem Inv.iZ{X:Cx}{s:Shared}(I:Inv X O9 σ H s):X.K.lookup s.heap.objs.size=none:=by
 cases q:X.K.lookup s.heap.objs.size with
 |none=>rfl
 |some o=>exact absurd (Ap (I.kIn _ o q)) (Cy _)
def Wi(K:Aa)(a:List (TE×TE)):TE:=λσ H Q=>∀p,H p=none->K.lookup p=none->vJ a σ (upd H p (.dK [])) λps H2=>H2 p=some (.dK [])/\∃kvs:List (Key×V),ps=kvs.map (λb=>(kV b.1,b.2))/\kvs.length<=15/\Q (.ref p) (upd H2 p (.dK (X8 [] kvs)))
theorem Qd3{keys:List (Option Expr)}{values:List Expr}{i:List (TE×TE)}(h:PPs X pos keys values i)(f:keys.all (·.isSome)=true)(u:keys.length=values.length)(h0:keys≠[])
  (h15:keys.length<=15):PE X (.Dict keys values pos) (Wi X.K i):=by
 intro n s σ H Q I q;have v:=I.hok.fresh (Ae s.heap.objs.size);have m:=I.laid (a:=s.heap.objs.size) (o:=.dK []) (h':=s.heap.push { cls:=.type "dict", data:=.dict #[] }) (t':=s.toks) (λ_ _ q=>Ad _ q) (Ae _) (ux s.heap I.big);refine wpAny_Dict_walk (knd:=Zz X.prog X.w) f u h0 h15 (thn (h n _ σ _ _ m (q _ v I.iZ)) λws U r=>?_);obtain⟨ps,O,l,j,e,kvs,ep,R,y⟩:=r;subst ep;obtain⟨J,c,F⟩:=V1 (P:=X.prog) (w:=X.w) j;obtain⟨z,hd,L,C,t⟩:=V5 l.hok e;cases C;refine⟨J,c,t,λh' b hs=>⟨.ref s.heap.objs.size,_,?_,rfl,y⟩⟩;have hz:(X8 [] kvs).length<=sizeLine:=by have h1:=jK kvs [];rw[List.length_nil]at h1;rw[sizeLine_eq];lia
 have he:∃q,h'.get? s.heap.objs.size=some q:=let ⟨q,_,_,x,_⟩:=b;⟨q,x⟩;exact xD l (by rw[e];exact True.intro) hs he (GV hz hd (F.merge .nil) b)
theorem Qcp{X:Cx}:PE X (.Dict [] [] pos) (λ_ H Q=>∀p,H p=none->X.K.lookup p=none->Q (.ref p) (upd H p (.dK []))):=λb s σ H Q I h =>
 wpAny_Dict_empty ⟨.ref s.heap.objs.size,_,I.laid (a:=s.heap.objs.size) (o:=.dK []) (t':=s.toks) (λ_ _ q=>Ad _ q) (Ae _) (ux s.heap I.big),rfl,h _ (I.hok.fresh (Ae _)) I.iZ⟩
end L2
namespace D
open PySem PySem.Spec PyProof.Rows L2
section
variable{X:Cx}{e a b c:Expr}{f fa fb fc:aF}{ca cb:bO}{pos:Pos}
def d9:List (aF×aF)->En->M (List (Key×DV))
  | [],_=>pure []
  | (f,g)::r,env=>do
    let x <- f env
    let k <- JR x
    let y <- g env
    let ps <- d9 r env
    pure ((k,y)::ps)
def Uq(kvs more:List (Key×DV)):List (Key×DV):=more.foldl (λacc h=>Ya acc h.1 h.2) kvs
def Xq(ps:List (aF×aF)):aF:=λenv=>do
 let kvs <- d9 ps env
 QB (decide (kvs.length<=15))
 X0 (.aB (Uq [] kvs))
def Ft(K:Aa)(ps:List (aF×aF)):List (TE×TE):=ps.map λp=>(tD K p.1,tD K p.2)
structure sI(X:Cx)(pos:Pos)(keys:List (Option Expr))(values:List Expr)(ps:List (aF×aF)):Prop where
 out:PPs X pos keys values (Ft X.K ps)
def HW:sI X pos [] [] []:=⟨RA⟩
def qI{k v:Expr}{ks:List (Option Expr)}{vs:List Expr}{ps:List (aF×aF)}(h:DE X k fa)(j:DE X v fb)(i:sI X pos ks vs ps):sI X pos (some k::ks) (v::vs) ((fa,fb)::ps):=⟨SY h j i.out⟩
theorem aP.merge{K:Aa}(r:aP K ρ B H more ms):∀{kvs:List (Key×DV)}{xs:List (Key×V)},aP K ρ B H kvs xs->aP K ρ B H (Uq kvs more) (X8 xs ms):=by
  induction r with
  |nil=>intro kvs xs r;exact r
  |@cons p q _ _ h _ i=>intro kvs xs r;unfold Uq X8 at i ⊢;rw[List.foldl_cons,List.foldl_cons,h.1];exact i (r.put q.1 h.2)
theorem M4{K:Aa}:∀(ps:List (aF×aF)){Z:Ent}{env:En}{σ:St}{ρ:Et}{B:Er}{U hp1:Hs}{H:Hp}{kvs:List (Key×DV)}{R:List (V×V)->Hp->Prop},bM K Z env σ ρ B U H->d9 ps env U=some (kvs,hp1) ->
    (∀xs ρ' B' H',Gr K ρ B H ρ' B' H'->bM K Z env σ ρ' B' hp1 H'->aP K ρ' B' H' kvs xs->R (xs.map λh=>(kV h.1,h.2)) H')->vJ (Ft K ps) σ H R
  | [],_,_,_,_,_,_,_,_,_,_,S,e,k=>by obtain⟨rfl,rfl⟩:=Qk e;exact k [] _ _ _ Gr.refl S .nil
  | (f,g)::r,_,_,_,_,_,_,_,_,_,_,S,e,k=>by obtain⟨x,n,i,e⟩:=Qf e;obtain⟨q,o,j,e⟩:=Qf e;obtain⟨m,rfl⟩:=Xh j;obtain⟨y,F,l,e⟩:=Qf e;obtain⟨ps,I,e4,e⟩:=Qf e;obtain⟨rfl,rfl⟩:=Qk e;refine tD.run S i λv ρ1 B1 H1 g1 S1 t=>tD.run S1 l λu ρ2 B2 H2 g2 S2 z=>M4 r S2 e4 λxs ρ3 B3 H3 g3 S3 C=>?_;obtain rfl:=XT m t;exact k ((q,u)::xs) ρ3 B3 H3 (g1.trans (g2.trans g3)) S3 (.cons ⟨rfl,au.grow S2.wo.rb g3 _ _ z⟩ C)
theorem Mr{keys:List (Option Expr)}{values:List Expr}{ps:List (aF×aF)}(h:sI X pos keys values ps)(l:keys.all (·.isSome)=true:=by rfl)(hl:keys.length=values.length:=by rfl)(h0:keys≠[]:=by exact List.cons_ne_nil _ _)(r:keys.length<=15:=by exact Nat.le_of_ble_eq_true rfl):DE X (.Dict keys values pos) (Xq ps) :=
 L2.PE.imp (Qd3 h.out l hl h0 r) λσ H Q L=>by
  obtain⟨Z,env,ρ,B,U,d,ab,S,e,k⟩:=L;obtain⟨kvs,hp1,O,P⟩:=Qf e;obtain⟨_,ae,R,e4⟩:=Qf P;obtain⟨hs,rfl⟩:=QM R;cases e4;intro p n x;have g0:Gr X.K ρ B H ρ (jW B p) (upd H p (.dK [])):=Gr.banned n x;have I:=S.wo.banned (o:=.dK []) n x;have y:p∉ρ:=λz=>S.wo.bt p (S.wo.rb p z) n;refine M4 ps (S.grow g0 I) O λxs ρ1 B1 H1 g1 S1 C=>?_;have t:p∉ρ1:=λz=>(g1.bU p z).elim y λq=>by rw[Q3]at q;cases q
  have tU:H1 p=some (.dK []):=g1.keep p _ y Q3;refine⟨tU,xs,rfl,by rw[<- C.len];exact Eg hs,?_⟩;have G:=g0.trans g1;have trk:∀b,(upd H1 p (.dK (X8 [] xs))) b=none->H1 b=none:=λb q=>by
   by_cases e:b=p
   ·subst e;rw[Q3]at q;cases q
   ·rw[QO e]at q;exact q
  have v:B1 p:=g1.ban p (.inr rfl);have g2:Gs X.K ρ1 B1 H1 (ρ1++[p]) B1 (upd H1 p (.dK (X8 [] xs))):=⟨List.prefix_append _ _,λ_ h=>.inl h,λb o nb h=>by rw[QO (show b≠p from λz=>nb (by rw[z];exact v))];exact h,trk⟩;have F:Gr X.K ρ B H (ρ1++[p]) B1 (upd H1 p (.dK (X8 [] xs))) :=
   ⟨G.pre.trans (List.prefix_append _ _),G.ban,G.new,λa z=>(Ai.mp z).elim (G.bU a) λq=>.inr (by rw[Ar.mp q];exact n),
    λa o na h=>by rw[QO (show a≠p from λz=>by rw[z,n]at h;cases h)];exact G.keep a o na h,λa q=>G.trk a (trk a q)⟩
  have j:=S1.wo;have oD:bf X.K (ρ1++[p]) B1 (upd H1 p (.dK (X8 [] xs))) p (.aB (Uq [] kvs)):=((aP.merge C (kvs:=[]) (xs:=[]) .nil).gs g2).iw Q3;have J:aM X.K (ρ1++[p]) B1 (hp1++[.aB (Uq [] kvs)]) (upd H1 p (.dK (X8 [] xs))):=by
   refine⟨by simp[j.len],List.nodup_append.mpr ⟨j.nd,by simp,λa Y b hb=>by rw[Ar.mp hb];exact λz=>t (z▸Y)⟩,λi a u e q=>?_,λa z=>(Ai.mp z).elim (j.rb a) λq=>by rw[Ar.mp q];exact v,λa z q=>j.bt a z (trk a q),j.bk⟩;by_cases hi:i<ρ1.length
   ·rw[Ah hi]at e;rw[Ah (by rw[<- j.len];exact hi)]at q;exact bf.gs g2 (QO (λz=>t (by rw[<- z];exact Aw e))) (j.obj i a u e q)
   ·rw[Aq ⋯]at e;rw[Aq (by rw[<- j.len];lia)]at q;have m:i-ρ1.length=0:=by have:=(Ac.mp e).1;simp at this;lia
    rw[m]at e;rw[<- j.len,m]at q;simp at e q;subst e q;exact oD
  refine k _ _ _ _ F J ?_;unfold au;exact⟨p,rfl,by rw[<- j.len];simp⟩
def J3:aF:=λ_=>X0 (.aB [])
theorem uu:DE X (.Dict [] [] pos) J3:=L2.PE.imp Qcp λσ H Q j=>by obtain⟨Z,env,ρ,B,U,d,l,S,e,k⟩:=j;cases e;intro p i h;have g:Gr X.K ρ B H (ρ++[p]) (jW B p) (upd H p (.dK [])):=Gr.dh i h;refine k _ _ _ _ g (S.wo.dh i h (aP.iw (xs:=[]) .nil Q3)) ?_;unfold au;exact⟨p,rfl,by rw[<- S.wo.len];simp⟩
abbrev NX:=Nat->M (Option DV)
def wW(K:Aa)(ρ:Et)(B:Er)(H:Hp)(m:NX)(J:It):Prop :=
  ∀ρ1 B1 hp1 h, Gs K ρ B H ρ1 B1 h -> aM K ρ1 B1 hp1 h -> ∀(i : Nat)(o : Option DV)(j : Hs), m i hp1 = some (o, j) -> j = hp1 /\ match o with
    |none=>J.stop i h
    |some d=>J.go i h/\∀x l,J.yld i h x l->au K ρ1 B1 l d x/\(l=h∨∃p o,h p=none/\l=upd h p o)
abbrev lU:=En->M NX
def BP(K:Aa)(f:lU):TI:=λσ H R=>∃Z env ρ B U i h,bM K Z env σ ρ B U H/\f env U=some (i,h)/\∀J ρ' B' H',Gr K ρ B H ρ' B' H'->aM K ρ' B' h H'->wW K ρ' B' H' i J->R J H'
def DX(X:Cx)(i h:Expr)(f:lU):Prop:=PI X i h (BP X.K f)
def bW(ds:List DV):NX:=λi=>if i<=ds.length then pure ds[i]? else failure
def sW(n:Nat):NX:=λi=>do
 match <- ZF n with
 |.lst ds=>pure ds[i]?
 |_=>failure
theorem H_{K:Aa}(h:n8 K ρ B H ds J):wW K ρ B H (bW ds) J:=λρ1 B1 hp1 H1 g W i o j e=>by
  unfold bW at e;by_cases hi:i<=ds.length
  . rw[Eb hi]at e
    obtain⟨rfl,rfl⟩:=Qk e;obtain⟨h1,h2⟩:=h ρ1 B1 H1 g W.rb W.bt;refine⟨rfl,?_⟩;cases q:ds[i]? with
    |none =>
      have:i=ds.length:=by have:=List.getElem?_eq_none_iff.mp q;lia
      subst this;exact h2
    |some d=>exact h1 i d q
  . rw[Ea hi]at e;cases e
theorem y_{K:Aa}{ρ:Et}{n:Nat}{a:Addr}(v:ρ[n]?=some a)(kf:∀h:Hp,∀xs ys,h a=some (.lst xs)->SqL K h a ys->ys=xs):wW K ρ B H (sW n) (Itl K a):=λρ1 B1 hp1 h g W i o z e=>by
  obtain⟨ob,C,r,j⟩:=Qf e;obtain⟨t,rfl⟩:=ZB r;have l:=Iw g.pre v;cases ob with
  |aB _=>cases j
  |ins _ _=>cases j
  |lst ds =>
    obtain⟨rfl,rfl⟩:=Qk j;obtain⟨xs,h1,m⟩:=W.obj n a _ l t;refine⟨rfl,?_⟩;cases q:ds[i]? with
    |none=>exact⟨xs,SqL.of h1,by rw[<- m.length];exact List.getElem?_eq_none_iff.mp q⟩
    |some d=>obtain⟨x,hx,F⟩:=m.get q;refine⟨⟨xs,x,SqL.of h1,hx⟩,λy H' ⟨u,hy⟩=>?_⟩;subst u;have:=hy xs (SqL.of h1);rw[hx]at this;cases this;exact⟨F,.inl rfl⟩
theorem QeG{K:Aa}{a:Addr}(i:K.lookup a=none)(H:Hp)(xs ys:List V)(h:H a=some (.lst xs))(h':SqL K H a ys):ys=xs:=by
 rcases h' with (h'|⟨o,h'⟩)|⟨o,_,_,h',_⟩
 ·rw[h]at h';cases h';rfl
 ·rw[h]at h';cases h'
 ·rw[i]at h';cases h'
def eG(f:lA):lU:=λenv=>do let ds <- f env;pure (bW ds)
def fO(f:aF):lU:=λenv=>do
  match <- f env with
  |.lst ds=>pure (bW ds)
  |.ref n=>do
    match <- ZF n with
    |.lst _=>pure (sW n)
    |_=>failure
  |_=>failure
variable{tg iter:Expr}
theorem Ua(h:DI X tg iter g):DX X tg iter (eG g):=L2.PI.imp h λσ H R i=>by obtain⟨Z,env,ρ,B,U,o,m,S,e,k⟩:=i;obtain⟨ds,hp1,j,l⟩:=Qf e;obtain⟨rfl,rfl⟩:=Qk l;exact⟨Z,env,ρ,B,U,ds,hp1,S,j,λJ ρ' B' H' g W n=>k J ρ' B' H' g W (H_ n)⟩
theorem jf(h:DE X iter f):DX X tg iter (fO f):=L2.PI.imp (RH (L2.PE.kf h)) λσ H R r=>by
  obtain⟨Z,env,ρ,B,U,l,j,S,e,k⟩:=r;obtain⟨d,hp1,t,i⟩:=Qf e;refine tD.run S t λv ρ1 B1 H1 g1 S1 m kf=>?_;cases d with
  |lst ds=>obtain⟨rfl,rfl⟩:=Qk i;obtain⟨a,xs,rfl,nb,q,I⟩:=m.bK;exact⟨a,rfl,⟨xs,q⟩,k _ ρ1 B1 H1 g1 S1.wo (H_ (DD nb q I))⟩
  |ref n =>
    obtain⟨o,C,u,e4⟩:=Qf (show(ZF n >>= λo=>(match o with|.lst _=>pure (sW n)|_=>failure:M NX)) hp1=some (l,j)from i);obtain⟨x,y⟩:=ZB u;cases o with
    |lst ds=>obtain⟨rfl,z⟩:=Qk e4;rw[<- z,<- y]at k;obtain⟨a,rfl,F,xs,h1,_⟩:=au.aY S1.wo m x;exact⟨a,rfl,⟨xs,SqL.of h1⟩,k _ ρ1 B1 H1 g1 S1.wo (y_ F (QeG (kf a _ h1)))⟩
    |aB _=>cases e4
    |ins _ _=>cases e4
  |non=>cases i
  |bl _=>cases i
  |int _=>cases i
  |str _=>cases i
  |tup _=>cases i
def xL(h:NX)(b:DV->aD):Nat->Nat->aD
  |0,_,_=>failure
  |m+1,i,env=>do
    match <- h i with
    |none=>pure (.nx,env)
    |some d=>do
      let r <- b d env
      match r.1 with
      |.nx=>xL h b m (i+1) r.2
      |.ct=>xL h b m (i+1) r.2
      |.bk=>pure (.nx,r.2)
      |.rt x=>pure (.rt x,r.2)
def Gg(f:lU)(g:iH)(h:aD):aD:=λenv=>do let nxt <- f env;xL nxt (λd env=>do let env' <- g d env;h env') 100000 0 env
theorem GX{j:List Stmt}{fi:lU}{g:iH}{sb:aD}(U:PassesOwn (model X.prog X.w) X.A X.env X.xe)(hc:X.calm=true)(hi:DX X tg iter fi)(hg:PG X tg (nA X.K g))(hb:fY X j sb)
    (hs:∀x,foldedSetIterable iter X.env x=pure x:=by intro _;rfl):DS X (.For tg iter j [] pos) (Gg fi g sb) :=
  (Hj U hc hi hg hb hs).imp λD σ H aK=>by
    obtain⟨Z,env,ρ,B,U,fl,h,t,S,e,k⟩:=aK;obtain⟨n,hp1,e1,e2⟩:=Qf e;refine⟨Z,env,ρ,B,U,n,hp1,S,e1,λJ ρ1 O H1 g1 W1 it=>?_⟩;have k1:=k.after (g1.gs S.wo.rb);refine⟨λi m σ H=>∃env ρ B U,bM X.K Z env σ ρ B U H/\Gs X.K ρ1 O H1 ρ B H/\xL n (λd env=>do let h <- g d env;sb h) m i env U=some ((fl,h),t),
      ⟨100000,env,ρ1,O,hp1,S.grow g1 W1,Gs.refl,e2⟩,?_⟩
    rintro i m σ H ⟨iB,ρ2,B2,hp2,S2,g2,r⟩;cases m with
    |zero=>cases r
    |succ m =>
      obtain⟨o,l,eo,r⟩:=Qf r;obtain⟨rfl,v⟩:=it ρ2 B2 hp2 H g2 S2.wo i o l eo;cases o with
      |none=>obtain⟨z,rfl⟩:=Qk r;cases z;exact .inl ⟨v,k1 σ ρ2 B2 H g2 S2⟩
      |some d =>
        obtain⟨go,yl⟩:=v;obtain⟨⟨f1,Q⟩,P,e4,L⟩:=Qf r;obtain⟨k_,u,e6,e7⟩:=Qf e4;refine .inr ⟨go,λσ' H'=>∃env ρ B U,bM X.K Z env σ' ρ B U H'/\Gs X.K ρ1 O H1 ρ B H'/\xL n (λd env=>do let h <- g d env;sb h) m (i+1) env U=some ((fl,h),t),
          λσ' H' q=>⟨m,C4 m,q⟩,λx H' y=>?_⟩
        obtain⟨rx,hx⟩:=yl x H' y;have Y:bM X.K Z iB σ ρ2 B2 l H'/\Gs X.K ρ2 B2 H ρ2 B2 H':=by
          rcases hx with rfl|⟨p,o,R,rfl⟩
          . exact⟨S2,Gs.refl⟩
          . exact⟨S2.grow (Gr.laid R) (S2.wo.laid R),A_ S2.wo.rb R⟩
        refine⟨Z,iB,ρ2,B2,l,d,k_,u,Y.1,rx,e6,λσ5 ρ5 B5 H5 g5 S5=>⟨Z,k_,ρ5,B5,u,f1,Q,P,S5,e7,λσ6 ρ6 C H6 g6 I=>?_⟩⟩;have F:=g2.trans (Y.2.trans (g5.trans g6));cases f1 with
        |nx=>exact⟨Q,ρ6,C,P,I,F,L⟩
        |ct=>exact⟨Q,ρ6,C,P,I,F,L⟩
        |bk=>obtain⟨z,rfl⟩:=Qk L;cases z;exact k1 σ6 ρ6 C H6 F I
        |rt d=>obtain⟨z,rfl⟩:=Qk L;cases z;exact k1 σ6 ρ6 C H6 F I
def Z6(h:NX)(g:DV->M Bool)(f:DV->M DV):Nat->Nat->M (List DV)
  |0,_=>failure
  |m+1,i=>do
    match <- h i with
    |none=>pure []
    |some d=>do
      if <- g d then
        let y <- f d
        let ys <- Z6 h g f m (i+1)
        pure (y::ys)
      else Z6 h g f m (i+1)
def ZR(i:Bool)(h:lU)(idx:List Nat)(t:bO)(f:aF):aF:=λenv=>do
 let nxt <- h env
 let out <- Z6 nxt (λd=>t (cE idx env d)) (λd=>f (cE idx env d)) lim 0
 if i then X0 (.lst out)else pure (.lst out)
variable{elt:Expr}{x:Str}{px:Pos}{ifs:List Expr}{scope:Scope}{cl:List (Str×Addr)}{caps:List Str}{idx:List Nat}{src:lU}{te:bO}{nw:Bool}
theorem Ub{K:Aa}(h:tD K (ZR nw src idx te f) σ H Q):rP K (BP K src) (fB K te) (tD K f) idx σ H Q:=by
  obtain⟨Z,env,ρ,B,U,d,ae,S,e,k⟩:=h;obtain⟨ay,hp1,e1,e2⟩:=Qf e;obtain⟨out,ba,e5,e6⟩:=Qf e2;refine⟨Z,env,ρ,B,U,ay,hp1,S,e1,λJ ρ1 B1 H1 g1 W1 it D hD hK=>?_⟩;have Rp:=g1.gs S.wo.rb;refine⟨λi m ys H2=>H2 D=some (.lst ys)/\i+m=lim/\∃ρ2 n C l F,Gr K ρ1 B1 H1 ρ2 n H2/\aM K ρ2 n C H2/\n D/\D∉ρ2/\ak K ρ2 n H2 l ys/\l.length<=i /\
    Z6 ay (λd=>te (cE idx env d)) (λd=>f (cE idx env d)) m i C=some (F,ba)/\l++F=out,?_,?_⟩
  . exact⟨lim,Q3,Nat.zero_add _,ρ1,jW B1 D,hp1,[],out,Gr.banned hD hK,W1.banned hD hK,.inr rfl,λz=>W1.bt D (W1.rb D z) hD,ak.nil,Ae _,e5,rfl⟩
  . rintro i m ys H2 ⟨oY,him,ρ2,n,C,l,F,g2,W2,bD,nD,rd,dn,P,e8⟩
    refine⟨oY,?_⟩;cases m with
    |zero=>cases P
    |succ m =>
      obtain⟨o,t,eo,P⟩:=Qf P;obtain⟨rfl,av⟩:=it ρ2 n C H2 (g2.gs W1.rb) W2 i o t eo;cases o with
      |some d0 =>
        obtain⟨go,yl⟩:=av;obtain⟨b,cZ,e9,O⟩:=Qf P;refine .inr ⟨go,λx H3 y=>?_⟩;obtain⟨rx,hx⟩:=yl x H3 y;have L:Gr K ρ2 n H2 ρ2 n H3/\aM K ρ2 n t H3:=by
          rcases hx with rfl|⟨p,o,hn,rfl⟩
          . exact⟨Gr.refl,W2⟩
          . exact⟨Gr.laid hn,W2.laid hn⟩
        have g3:=g2.trans L.1;have C3:=cσ_ok (idx:=idx) S (Rp.trans (g3.gs W1.rb)) L.2 rx;refine fB.run C3 e9 λρ4 B4 H4 g4 S4=>?_;have tW:H4 D=some (.lst ys):=g4.keep D _ nD (L.1.keep D _ nD oY);have sZ:D∉ρ4:=λz=>(g4.bU D z).elim nD λq=>by rw[L.1.keep D _ nD oY]at q;cases q
        cases b with
        |false=>exact kS ⟨m,C4 m,tW,⋯,ρ4,B4,cZ,l,F,g3.trans g4,S4.wo,g4.ban D bD,sZ,ak.grow W2.rb (L.1.trans g4) _ _ rd,⋯,O,e8⟩
        |true =>
          obtain⟨z,lJ,fj,RG⟩:=Qf O;obtain⟨zs,Q_,RB,Rz⟩:=Qf RG;obtain⟨rfl,rfl⟩:=Qk Rz;refine kT (tD.run S4 fj λv ρ5 B5 H5 R S5 r5=>?_);have Rm:H5 D=some (.lst ys):=R.keep D _ sZ tW;have C_:D∉ρ5:=λz=>(R.bU D z).elim sZ λq=>by rw[tW]at q;cases q
          have Du:B5 D:=R.ban D (g4.ban D bD);have I:=g3.trans (g4.trans R);have CJ:=ak.grow W2.rb (L.1.trans (g4.trans R)) _ _ rd;have trk:∀b,(upd H5 D (.lst (ys++[v]))) b=none->H5 b=none:=λb q=>by
            by_cases e:b=D
            . subst e;rw[Q3]at q;cases q
            . rw[QO e]at q;exact q
          have g6:Gs K ρ5 B5 H5 ρ5 B5 (upd H5 D (.lst (ys++[v]))):=⟨Cm,λ_ h=>.inl h,λb o nb h=>by rw[QO (show b≠D from λz=>nb (by rw[z];exact Du))];exact h,trk⟩;refine⟨Rm,?_,m,C4 m,Q3,⋯,ρ5,B5,lJ,l++[z],zs,?_,?_,Du,C_,ak.gs g6 _ _ (ak.append CJ (ak.one r5)),by simp;lia,RB,by rw[<- e8];simp⟩
          . have h1:=CJ.length
            have h2:lim<sizeLine:=by decide
            lia
          . exact⟨I.pre,I.ban,I.new,I.bU,λb o nb h=>by rw[QO (show b≠D from λq=>by rw[q,hD]at h;cases h)];exact I.keep b o nb h,λb q=>I.trk b (trk b q)⟩
          . exact⟨S5.wo.len,S5.wo.nd,λj b o r u=>bf.gs g6 (QO (show b≠D from λz=>C_ (by rw[<- z];exact Aw r))) (S5.wo.obj j b o r u),S5.wo.rb,λb z q=>S5.wo.bt b z (trk b q),S5.wo.bk⟩
      |none =>
        obtain⟨z,z'⟩:=Qk P;subst z;subst z';refine .inl ⟨av,?_⟩;rw[Bt]at e8;subst e8;cases nw with
        |false =>
          obtain⟨rfl,rfl⟩:=Qk (show(pure (.lst l):M DV) t=some (d,ae)from e6);have Y:Gs K ρ2 n H2 ρ2 (λb=>n b/\b≠D) H2:=⟨Cm,λ_ h=>.inl h.1,λ_ _ _ h=>h,λ_ h=>h⟩;refine k (.ref D) ρ2 (λb=>n b/\b≠D) H2 (g1.trans ⟨g2.pre,λb z=>⟨g2.ban b z,λq=>W1.bt b z (q▸hD)⟩,λb z=>g2.new b z.1,g2.bU,g2.keep,g2.trk⟩)
            ⟨W2.len,W2.nd,λj b o r u=>bf.gs Y rfl (W2.obj j b o r u),λb z=>⟨W2.rb b z,λq=>nD (q▸z)⟩,λb z=>W2.bt b z.1,λb z=>W2.bk b z.1⟩ (vp (λz=>z.2 rfl) (SqL.of oY) (ak.gs Y _ _ rd))
        |true =>
          cases (show some (DV.ref t.length,t++[OV.lst l])=some (d,ae)from e6);have Y:Gs K ρ2 n H2 (ρ2++[D]) n H2:=⟨List.prefix_append _ _,λ_ h=>.inl h,λ_ _ _ h=>h,λ_ h=>h⟩;refine k (.ref D) (ρ2++[D]) n H2 (g1.trans ⟨g2.pre.trans (List.prefix_append _ _),g2.ban,g2.new,λa z=>(Ai.mp z).elim (g2.bU a) λq=>.inr (by rw[Ar.mp q];exact hD),g2.keep,g2.trk⟩)
            ⟨by simp[W2.len],List.nodup_append.mpr ⟨W2.nd,by simp,λa ha b hb=>by rw[Ar.mp hb];exact λz=>nD (z▸ha)⟩,λj b o r u=>?_,λb z=>(Ai.mp z).elim (W2.rb b) λq=>by rw[Ar.mp q];exact bD,W2.bt,W2.bk⟩ ?_
          . by_cases hi:j<ρ2.length
            . rw[Ah hi]at r
              rw[Ah (by rw[<- W2.len];exact hi)]at u;exact bf.gs Y rfl (W2.obj j b o r u)
            . rw[Aq ⋯]at r
              rw[Aq (by rw[<- W2.len];lia)]at u;have ab:j-ρ2.length=0:=by have:=(Ac.mp r).1;simp at this;lia
              rw[ab]at r;rw[<- W2.len,ab]at u;simp at r u;subst r u;exact⟨ys,oY,ak.gs Y _ _ rd⟩
          . unfold au
            exact⟨D,rfl,by rw[<- W2.len];simp⟩
theorem qc(S:vR X x scope cl caps idx)(i:X.calm=true)(hi:DX X (.Name x px) iter src)
  (ht:∀C s₀ H₀ ex,sH (X4 X scope cl C (x::caps) s₀ H₀ ex) ifs te) (he:∀C s₀ H₀ ex,DE (X4 X scope cl C (x::caps) s₀ H₀ ex) elt f)
  (hs:∀x,foldedSetIterable iter X.env x=pure x:=by intro _;rfl):DE X (.ListComp elt [⟨.Name x px,iter,ifs,0⟩] scope pos) (ZR nw src idx te f) :=
 L2.PE.imp (Sb (tt:=fB X.K te) (te:=tD X.K f) S i hi ht he hs) λ_ _ _ h=>Ub h
theorem xF(i:Nat){y:Str}{l j:Pos}(m:X.N.Nodup)(S:vR X x scope cl caps idx)(n:X.calm=true)(hi:DX X (.Name x px) iter src)
  (ht:∀C s₀ H₀ ex,sH (X4 X scope cl C (x::caps) s₀ H₀ ex) ifs te) (he:∀C s₀ H₀ ex,DE (X4 X scope cl C (x::caps) s₀ H₀ ex) elt f)
  (hy:X.N[i]?=some y:=by rfl) (hx:Loc X.env.scope y:=by first|exact Or.inl rfl|exact Or.inr rfl)
  (hsw:swapsWith (.ListComp elt [⟨.Name x px,iter,ifs,0⟩] scope pos) (some (.Name y l)) j.line X.env=pure true:=by with_unfolding_all rfl)
  (hf:X.fn y=true∨X.env.scope.names.lookup y=some .local:=by first|exact .inl rfl|exact .inr rfl|assumption)
  (hs:∀x,foldedSetIterable iter X.env x=pure x:=by intro _;rfl):DS X (.Assign [.Name y l] (.ListComp elt [⟨.Name x px,iter,ifs,0⟩] scope pos) j) (QD i (ZR nw src idx te f)) :=
 L2.PS.imp (Rl (tt:=fB X.K te) (te:=tD X.K f) S n hi ht he m hy hx hsw hf hs) λ_ _ _ h=>gt (λ_ _ _ q=>Ub q) h
end
def WP{α:Type}(m:M α)(U:Hs)(Q:α->Hs->Prop):Prop:=∃x a,m U=some (x,a)/\Q x a
section
variable{α β:Type}{m:M α}{k:α->M β}{U:Hs}{Q:α->Hs->Prop}{R:β->Hs->Prop}
theorem bR{x:α}:WP (pure x) U Q↔Q x U:=⟨λ⟨y,h,e,q⟩=>by obtain⟨rfl,rfl⟩:=Qk e;exact q,λq=>⟨x,U,rfl,q⟩⟩
theorem VF:WP (m >>= k) U R↔WP m U λx h=>WP (k x) h R:=⟨λ⟨y,h,e,q⟩=>by obtain⟨x,h1,a,b⟩:=Qf e;exact⟨x,h1,a,y,h,b,q⟩,λ⟨x,h1,a,y,h,b,q⟩=>⟨y,h,(Qg a).trans b,q⟩⟩
def WP.mono{a:α->Hs->Prop}(h:WP m U Q)(b:∀x h,Q x h->a x h):WP m U a:=let ⟨x,h1,e,q⟩:=h;⟨x,h1,e,b x h1 q⟩
def WP.of{x:α}(e:m U=some (x,hp'))(q:Q x hp'):WP m U Q:=⟨x,hp',e,q⟩
end
section
variable{U:Hs}{env:En}{Q:Fl×En->Hs->Prop}
theorem GF{b:DV->aD}(I:Nat->En->Hs->Prop)(ds:List DV)(h0:I 0 env U)(hs:∀(i:Nat) d,ds[i]?=some d->∀env U,I i env U->WP (b d env) U λr h=>match r.1 with
    |.nx=>I (i+1) r.2 h
    |.ct=>I (i+1) r.2 h
    |.bk=>Q (.nx,r.2) h
    |.rt x=>Q (.rt x,r.2) h) (he:∀env U,I ds.length env U->Q (.nx,env) U):WP (zk b ds env) U Q:=by
  suffices h:∀(m i:Nat) env U,m+i=ds.length->I i env U->WP (zk b (ds.drop i) env) U Q by simpa using h ds.length 0 env U rfl h0
  intro m;induction m with
  |zero =>
    intro i env U e hI;have:i=ds.length:=⋯
    subst this;rw[C5];exact bR.mpr (he env U hI)
  |succ m c =>
    intro i env U e hI;have a:i<ds.length:=⋯
    rw[Bi a,zk,VF];refine(hs i ds[i] (Ab a) env U hI).mono λr h q=>?_;obtain⟨f,aR⟩:=r;cases f with
    |nx=>exact c (i+1) aR h ⋯ q
    |ct=>exact c (i+1) aR h ⋯ q
    |bk=>exact bR.mpr q
    |rt x=>exact bR.mpr q
theorem QeW{a:NX}{b:DV->aD}(ds:List DV)(I:Nat->En->Hs->Prop)(t:ds.length<100000)(j:∀(i:Nat) env U,i<=ds.length->I i env U->a i U=some (ds[i]?,U))(h0:I 0 env U)(hs:∀(i:Nat) d,ds[i]?=some d->∀env U,I i env U->WP (b d env) U λr h=>match r.1 with
    |.nx=>I (i+1) r.2 h
    |.ct=>I (i+1) r.2 h
    |.bk=>Q (.nx,r.2) h
    |.rt x=>Q (.rt x,r.2) h) (he:∀env U,I ds.length env U->Q (.nx,env) U):WP (xL a b 100000 0 env) U Q:=by
  suffices h:∀(m i n:Nat) env U,m+i=ds.length->m<n->I i env U->WP (xL a b n i env) U Q from h ds.length 0 100000 env U rfl t h0;intro m;induction m with
  |zero =>
    intro i n env U e f hI;have:i=ds.length:=⋯
    subst this;obtain⟨n,rfl⟩:∃k,n=k+1:=⟨n-1,⋯⟩;rw[xL,VF];refine WP.of (j _ env U (Ae _) hI) ?_;rw[show ds[ds.length]?=none by simp];exact bR.mpr (he env U hI)
  |succ m l =>
    intro i n env U e f hI;have c:i<ds.length:=⋯
    obtain⟨n,rfl⟩:∃k,n=k+1:=⟨n-1,⋯⟩;rw[xL,VF];refine WP.of (j i env U ⋯ hI) ?_;simp only[Ab c];rw[VF];refine(hs i ds[i] (Ab c) env U hI).mono λr h q=>?_;obtain⟨o,aR⟩:=r;cases o with
    |nx=>exact l (i+1) n aR h ⋯ ⋯ q
    |ct=>exact l (i+1) n aR h ⋯ ⋯ q
    |bk=>exact bR.mpr q
    |rt x=>exact bR.mpr q
theorem zR(ds:List DV)(i:Nat)(h:i<=ds.length)(U:Hs):bW ds i U=some (ds[i]?,U):=by unfold bW;rw[Eb h];rfl
theorem VS{b:DV->aD}(ds:List DV)(I:Nat->En->Hs->Prop)(a:ds.length<100000)(h0:I 0 env U)(hs:∀(i:Nat) d,ds[i]?=some d->∀env U,I i env U->WP (b d env) U λr h=>match r.1 with
  |.nx=>I (i+1) r.2 h
  |.ct=>I (i+1) r.2 h
  |.bk=>Q (.nx,r.2) h
  |.rt x=>Q (.rt x,r.2) h) (he:∀env U,I ds.length env U->Q (.nx,env) U):WP (xL (bW ds) b 100000 0 env) U Q :=
 QeW ds I a (λi env U h _=>zR ds i h U) h0 hs he
end
theorem kF{a:NX}{t:DV->M Bool}{f:DV->M DV}{p:Int->Bool}{g:Int->Int}(ns:List Int)(l:∀i,i<=ns.length->a i U=some ((ns.map DV.int)[i]?,U))(r:∀x,t (.int x) U=some (p x,U))(hf:∀x,f (.int x) U=some (.int (g x),U))(o:ns.length<100000):
    Z6 a t f 100000 0 U=some (((ns.filter p).map g).map .int,U):=by
  suffices h:∀(m i n:Nat),m+i=ns.length->m<n->Z6 a t f n i U=some ((((ns.drop i).filter p).map g).map .int,U)by simpa using h ns.length 0 100000 rfl o
  intro m;induction m with
  |zero =>
    intro i n e j;obtain⟨n,rfl⟩:∃k,n=k+1:=⟨n-1,⋯⟩;have:i=ns.length:=⋯
    subst this;have b:=l ns.length (Ae _);rw[show(ns.map DV.int)[ns.length]?=none by simp]at b;rw[Z6,Qg b,C5];rfl
  |succ m u =>
    intro i n e j;obtain⟨n,rfl⟩:∃k,n=k+1:=⟨n-1,⋯⟩;have c:i<ns.length:=⋯
    have b:=l i ⋯;rw[Bu,Ab c]at b;have hi:=u (i+1) n ⋯ ⋯;rw[Z6,Qg b];simp only[Option.map_some];rw[Qg (r ns[i]),Bi c];cases q:p ns[i]with
    |false=>rw[List.filter_cons_of_neg (by simp[q])];simpa using hi
    |true=>rw[List.filter_cons_of_pos q];simp only[if_true];rw[Qg (hf ns[i]),Qg hi];rfl
def Mj(n:Nat)(U:Hs)(i:Int):cD (n+1) U (.int i)=some (.int i):=rfl
def M8(n:Nat)(U:Hs)(b:Str):cD (n+1) U (.str b)=some (.str b):=rfl
theorem jm{α:Type}{f:α->Option α}:∀{xs:List α},(∀x∈xs,f x=some x)->xs.mapM f=some xs
  | [],_=>rfl
  |x::xs,h=>by rw[List.mapM_cons,h x (by simp),jm λy a=>h y (Ax _ a)];rfl
theorem Ml(h:cD 40 U d=some d'):kL d U=some (d',U):=by unfold kL;rw[h];rfl
theorem M6(hx:cD 40 U x=some x')(c:cD 40 U y=some y')(a:iY x'=true)(b:iY y'=true):Vy x y U=some (PyData.eqv (toP x') (toP y'),U):=by unfold Vy;simp only[iY,Bc]at a b;rw[Qg (Ml hx),Qg (Ml c)];simp only[a.2,b.2,Bool.and_self,QB,if_true,Ei];rfl
def uE(i j:Int)(U:Hs):Vy (.int i) (.int j) U=some (i==j,U):=M6 (Mj 39 U i) (Mj 39 U j) (VL i) (VL j)
theorem Gy(p:Key×DV)(r:List (Key×DV))(j:Key):Jx (p::r) j=if p.1=j then some p.2 else Jx r j:=by
 by_cases e:p.1=j
 ·simp[Jx,B8,e]
 ·simp[Jx,B8,e]
theorem ST(kvs:List (Key×DV))(k:Key)(d:DV):(Ya kvs k d).length<=kvs.length+1:=by unfold Ya;split<;>simp
theorem Zg{n:Nat}{U:Hs}(h:U[n]?=some o):ZF n U=some (o,U):=by unfold ZF;rw[h]
theorem xX{n:Nat}{kvs:List (Key×DV)}{U:Hs}(h:U[n]?=some (.aB kvs))(c:YV i=some k)(e:kvs.length<100000):xg (.ref n) i d U=some ((),U.set n (.aB (Ya kvs k d))):=by
 show(ZF n >>= _) U=_;rw[Qg (Zg h)];have a:JR i U=some (k,U):=by unfold JR;rw[c];rfl
 have b:QB (decide (kvs.length<lim)) U=some ((),U):=by rw[show decide (kvs.length<lim)=true from Ef e];rfl
 show(JR i >>= λk=>QB (decide (kvs.length<lim)) >>= λ_=>xq n (.aB (Ya kvs k d))) U=_;rw[Qg a,Qg b];rfl
theorem jr{f:aF}{g:iH}(h:f env U=some (d,hp1))(h':g d env hp1=some (env',hp2)):Jw f g env U=some ((.nx,env'),hp2):=by unfold Jw;rw[Qg h,Qg h'];rfl
theorem Ze{α:Type}{m:M α}{x:α}(h:m=pure x)(U:Hs):m U=some (x,U):=by rw[h];rfl
theorem Hh{c:bO}{b:Bool}(h:c env U=some (b,hp1)):aL c f g env U=if b=true then f env hp1 else g env hp1:=by unfold aL;rw[Qg h];cases b<;>rfl
theorem QR{f:aF}{b:Bool}(h:f env U=some (.bl b,hp1)):eB f env U=some (b,hp1):=by unfold eB;rw[Qg h];rfl
theorem Qh{g:DV->DV->M DV}{f a:aF}(h:f env U=some (x,hp1))(h':a env hp1=some (y,hp2))(b:g x y hp2=some (d,hp3)):Qi g f a env U=some (d,hp3):=by unfold Qi;rw[Qg h,Qg h',b]
theorem QL{f:aF}(h:f env U=some (d,hp1)):QF f env U=some ((.rt d,env),hp1):=by unfold QF;rw[Qg h];rfl
theorem Q2{f g:aD}(h:f env U=some ((.rt d,aR),hp1)):Qq f g env U=some ((.rt d,aR),hp1):=by unfold Qq;rw[Qg h];rfl
theorem XA{f:aF}(h:f env U=some (d,hp1)):ZY f env U=some ((.nx,env),hp1):=by unfold ZY;rw[Qg h];rfl
theorem QI{n:Nat}{a:aD}{ds:List DV}(h:a (ds.map .val++List.replicate (n-ds.length) .un) U=some ((.rt d,env),hp1)):Zb n a ds U=some (d,hp1):=by unfold Zb;rw[Qg h];rfl
theorem Jp{c:bO}{b:Bool}(h:c env U=some (b,hp1)):Jk c env U=some (!b,hp1):=by unfold Jk;rw[Qg h];rfl
theorem qe{f g:aF}{b:Bool}(h:f env U=some (.bl b,hp1)):Jm f g env U=if b=true then g env hp1 else some (.bl false,hp1):=by unfold Jm;rw[Qg h];cases b<;>rfl
end D
namespace TS
open PySem PyProof.Rows
def gal:Bool->Keyed->Array Keyed->Nat->Nat->Nat->StateT SortSt Sem (Option Nat):=sortPriv% PySem.Builtin.gallop
def tu:Array Keyed->Array Keyed->StateT SortSt Sem (Array Keyed):=sortPriv% PySem.Builtin.mergeLo
def tE:Array Keyed->Array Keyed->StateT SortSt Sem (Array Keyed):=sortPriv% PySem.Builtin.mergeHi
def xp:Nat->StateT SortSt Sem Unit:=sortPriv% PySem.Builtin.setMinGallop
def Dd:Nat->StateT SortSt Sem Bool:=mergeAt'
structure cM where
 key:Keyed->Int
 kd:SortKind
 S:Keyed->Prop
 prog:Program
 w:World
 A:Around
 E:Value->Shared->Prop
 s:Shared
 lt:∀(st:SortSt)(p q:Keyed)(Q:Option Bool->SortSt->Prop),S p->S q->kindOf st=kd->Q (some (decide (key p<key q))) st->wpS (model prog w) A E s (lt' p q) Q st
variable{C:cM}
abbrev W(C:cM){σ α:Type}(m:StateT σ Sem α)(Q:α->σ->Prop)(st:σ):Prop:=wpS (model C.prog C.w) C.A C.E C.s m Q st
def kx(C:cM)(xs:Array Keyed)(i:Nat):Int:=((xs[i]?).map C.key).getD 0
structure Ok(C:cM)(st:SortSt):Prop where
 kind:kindOf st=C.kd
 fine:failedOf st=none
 mem:∀p∈(arrOf st).toList,C.S p
theorem Zy{xs:Array Keyed}{i:Nat}{Q:Keyed->SortSt->Prop}{st:SortSt}(hi:i<xs.size)(h:Q xs[i] st):W C (elem' xs i) Q st:=by rw[elem'_eq,getElem?_pos xs i hi];exact Ee h
theorem JH(xs:Array Keyed){i:Nat}(hi:i<xs.size):kx C xs i=C.key xs[i]:=by unfold kx;rw[getElem?_pos xs i hi];rfl
theorem yJ{st:SortSt}{i j:Nat}{Q:Option Bool->SortSt->Prop}(g:Ok C st)(hi:i<(arrOf st).size)(a:j<(arrOf st).size)(h:Q (some (decide (kx C (arrOf st) i<kx C (arrOf st) j))) st):W C (ltAt' i j) Q st:=by rw[ltAt'_eq];refine Ed (wpS_get (Ed (Zy hi (Ed (Zy a ?_)))));refine C.lt st _ _ Q (g.mem _ (by simp)) (g.mem _ (by simp)) g.kind ?_;rw[<- JH _ hi,<- JH _ a];exact h
theorem BH(left:Bool)(key:Keyed)(c:Array Keyed)(O8 n a:Nat):gal left key c O8 n a=(do
  let e (i:Nat):StateT SortSt Sem (Option Bool):=do
   let x <- elem' c (O8+i)
   if left then lt' x key else return (<- lt' key x).map (!·)
  let mut last:=0
  let mut ofs:=1
  let mut lo:=0
  let mut hi:=0
  let some right <- e a|return none
  if right then
   let b:=n-a
   for _ in [0:n] do
    if ofs≥b then break
    let some more <- e (a+ofs)|return none
    if !more then break
    last:=ofs
    ofs:=2 * ofs+1
   lo:=a+last+1
   hi:=a+min ofs b
  else
   let b:=a+1
   for _ in [0:n] do
    if ofs≥b then break
    let some found <- e (a-ofs)|return none
    if found then break
    last:=ofs
    ofs:=2 * ofs+1
   lo:=a+1-min ofs b
   hi:=a-last
  for _ in [0:n] do
   if lo≥hi then break
   let m:=lo+(hi-lo) / 2
   let some more <- e m|return none
   if more then lo:=m+1 else hi:=m
  return some hi):=rfl
def wK(left:Bool)(key:Keyed)(a:Array Keyed)(O8 i:Nat):StateT SortSt Sem (Option Bool):=do
 let x <- elem' a (O8+i)
 if left then lt' x key else return (<- lt' key x).map (!·)
def DQ(left:Bool)(key:Keyed)(a:Array Keyed)(O8 n l h:Nat):StateT SortSt Sem (Option Nat):=do
 let mut lo:=l
 let mut hi:=h
 for _ in [0:n] do
  if lo≥hi then break
  let m:=lo+(hi-lo) / 2
  let some more <- wK left key a O8 m|return none
  if more then lo:=m+1 else hi:=m
 return some hi
theorem qf{left:Bool}{key:Keyed}{f:Array Keyed}{O8 n a:Nat}{Q:Option Nat->SortSt->Prop}{st:SortSt}(T:Nat->Bool)(F:kindOf st=C.kd)(m:C.S key)(hS:∀p∈f.toList,C.S p)(Y:O8+n<=f.size)(O:a<n)
    (hT:∀i,i<n->T i=if left then decide (kx C f (O8+i)<C.key key)else !decide (C.key key<kx C f (O8+i))) (mono:∀i j,i<=j->j<n->T j=true->T i=true)
    (h:∀hi,hi<=n->(∀i,i<hi->T i=true)->(∀i,hi<=i->i<n->T i=false)->Q (some hi) st):W C (gal left key f O8 n a) Q st:=by
  have y:∀(i:Nat)(R:Option Bool->SortSt->Prop),i<n->R (some (T i)) st->W C (wK left key f O8 i) R st:=by
    intro i R hi r;have t:O8+i<f.size:=⋯
    unfold wK;refine Ed (Zy t ?_);have l:C.S f[O8+i]:=hS _ (by simp);rw[hT i hi,JH _ t]at r;cases left with
    |true=>simp only[if_true]at r ⊢;exact C.lt st _ _ R l m F r
    |false=>simp only[Az,if_false]at r ⊢;exact Ed (C.lt st _ _ _ m l F (Ee r))
  have bin:∀lo hi,lo<=hi->hi<=n->(∀i,i<lo->T i=true)->(∀i,hi<=i->i<n->T i=false)->W C (DQ left key f O8 n lo hi) Q st:=by
    intro lo hi J z U v;unfold DQ;dsimp only;refine Ed (wpS_mono (wpS_forRange (I:=λx c e=>e=st/\∃lo hi,c=(none,lo,hi)/\lo<=hi/\hi<=n/\hi-lo<=n-x/\(∀i,i<lo->T i=true)/\(∀i,hi<=i->i<n->T i=false))
      (Q:=λc e=>e=st/\∃hi lo,c=(none,lo,hi)/\hi<=n/\(∀i,i<hi->T i=true)/\(∀i,hi<=i->i<n->T i=false)) ?step ?fin ⟨rfl,lo,hi,rfl,J,z,⋯,U,v⟩) ?post)
    case post =>
      rintro c e ⟨rfl,hi,lo,rfl,h1,h2,h3⟩;exact Ee (h hi h1 h2 h3)
    case fin =>
      rintro c e ⟨rfl,lo,hi,rfl,h1,h2,h3,h4,h5⟩;have:lo=hi:=⋯
      subst this;exact⟨rfl,lo,lo,rfl,h2,h4,h5⟩
    case step =>
      rintro x c e _ hx ⟨rfl,lo,hi,rfl,h1,h2,h3,h4,h5⟩;dsimp only;by_cases q:lo≥hi
      . rw[Eb q]
        have:lo=hi:=⋯
        subst this;exact Ee ⟨rfl,lo,lo,rfl,h2,h4,h5⟩
      . rw[Ea q]
        refine Ed (y _ _ ⋯ ?_);dsimp only;cases l:T (lo+(hi-lo) / 2)with
        |true=>simp only[if_true];refine Ee ⟨rfl,_,hi,rfl,⋯,h2,⋯,λi P=>?_,h5⟩;exact mono i (lo+(hi-lo) / 2) ⋯ ⋯ l
        |false =>
          simp only[Az,if_false];refine Ee ⟨rfl,lo,_,rfl,⋯,⋯,⋯,h4,λi o L=>?_⟩;cases u:T i with
          |false=>rfl
          |true=>rw[mono _ i o L u]at l;cases l
  rw[BH];dsimp only;refine Ed (y a _ O ?_);dsimp only;cases v:T a with
  |true =>
    simp only[if_true];refine Ed (wpS_mono (wpS_forRange (I:=λx c e=>e=st/\∃last b,c=(none,last,b)/\last<b/\x+1<=b/\a+last<n/\T (a+last)=true)
      (Q:=λc e=>e=st/\∃last b,c=(none,last,b)/\last<b/\a+last<n/\T (a+last)=true/\(n-a<=b∨T (a+b)=false)) ?step ?fin ⟨rfl,0,1,rfl,⋯,⋯,⋯,v⟩) ?post)
    case fin =>
      rintro c e ⟨rfl,last,b,rfl,h1,h2,h3,h4⟩;exact⟨rfl,last,b,rfl,h1,h3,h4,.inl ⋯⟩
    case step =>
      rintro x c e _ hx ⟨rfl,last,b,rfl,h1,h2,h3,h4⟩;dsimp only;by_cases q:b≥n-a
      . rw[Eb q]
        exact Ee ⟨rfl,last,b,rfl,h1,h3,h4,.inl q⟩
      . rw[Ea q]
        refine Ed (y _ _ ⋯ ?_);dsimp only;cases l:T (a+b)with
        |true=>simp only[Bool.not_true,Az,if_false];exact Ee ⟨rfl,b,2 * b+1,rfl,⋯,⋯,⋯,l⟩
        |false=>simp only[Bool.not_false,if_true];exact Ee ⟨rfl,last,b,rfl,h1,h3,h4,.inr l⟩
    case post =>
      rintro c e ⟨rfl,last,b,rfl,h1,h2,h3,h4⟩;dsimp only;refine bin (a+last+1) (a+min b (n-a)) ⋯ ⋯ (λi hi=>mono i (a+last) ⋯ h2 h3) λi h5 o=>?_;rcases h4 with q|q
      . lia
      . cases u:T i with
        |false=>rfl
        |true=>rw[mono _ i ⋯ o u]at q;cases q
  |false =>
    simp only[Az,if_false];refine Ed (wpS_mono (wpS_forRange (I:=λx c e=>e=st/\∃last b,c=(none,last,b)/\last<b/\x+1<=b/\last<=a/\T (a-last)=false)
      (Q:=λc e=>e=st/\∃last b,c=(none,last,b)/\last<b/\last<=a/\T (a-last)=false/\(a+1<=b∨(b<=a/\T (a-b)=true))) ?step ?fin ⟨rfl,0,1,rfl,⋯,⋯,⋯,v⟩) ?post)
    case fin =>
      rintro c e ⟨rfl,last,b,rfl,h1,h2,h3,h4⟩;exact⟨rfl,last,b,rfl,h1,h3,h4,.inl ⋯⟩
    case step =>
      rintro x c e _ hx ⟨rfl,last,b,rfl,h1,h2,h3,h4⟩;dsimp only;by_cases q:b≥a+1
      . rw[Eb q]
        exact Ee ⟨rfl,last,b,rfl,h1,h3,h4,.inl q⟩
      . rw[Ea q]
        refine Ed (y _ _ ⋯ ?_);dsimp only;cases l:T (a-b)with
        |true=>simp only[if_true];exact Ee ⟨rfl,last,b,rfl,h1,h3,h4,.inr ⟨⋯,l⟩⟩
        |false=>simp only[Az,if_false];exact Ee ⟨rfl,b,2 * b+1,rfl,⋯,⋯,⋯,l⟩
    case post =>
      rintro c e ⟨rfl,last,b,rfl,h1,h2,h3,h4⟩;dsimp only;refine bin (a+1-min b (a+1)) (a-last) ⋯ ⋯ (λi hi=>?_) λi h5 o=>?_
      . rcases h4 with q|⟨q1,X⟩
        . lia
        . exact mono i (a-b) ⋯ ⋯ X
      . cases u:T i with
        |false=>rfl
        |true=>rw[mono _ i h5 o u]at h3;cases h3
variable{C:cM}
def bx(C:cM)(l:List Keyed):Prop:=l.Pairwise λp q=>C.key p<=C.key q
def Sm(st a:SortSt):Prop:=kindOf a=kindOf st/\arrOf a=arrOf st/\pendingOf a=pendingOf st/\failedOf a=failedOf st
def Sm.refl(st:SortSt):Sm st st:=⟨rfl,rfl,rfl,rfl⟩
theorem yh{g:Nat}{st₀ st:SortSt}{Q:Unit->SortSt->Prop}(hs:Sm st₀ st)(h:∀a,Sm st₀ a->Q () a):W C (xp g) Q st:=by show W C (modify (λs=>SortSt.mk' (kindOf s) (arrOf s) (pendingOf s) g (failedOf s)):StateT SortSt Sem Unit) Q st;exact wpS_modify (h _ hs)
def yQ{x:String}{st:SortSt}{Q:Unit->SortSt->Prop}(h:Q () st):W C (liftM (rule x):StateT SortSt Sem Unit) Q st:=wpS_lift (wpAny_rule ⟨rfl,h⟩)
structure MI(C:cM)(A B out:List Keyed)(i j:Nat):Prop where
 perm:(out++(A.drop i++B.drop j)).Perm (A++B)
 dB:bx C out
 low:∀x∈out,∀y∈A.drop i++B.drop j,C.key x<=C.key y
section
variable{A B out:List Keyed}{i j:Nat}
def bx.drop(h:bx C A)(n:Nat):bx C (A.drop n):=List.Pairwise.sublist (List.drop_sublist _ _) h
def bx.take(h:bx C A)(n:Nat):bx C (A.take n):=List.Pairwise.sublist (List.take_sublist _ _) h
def bx.app(h:bx C A)(h':bx C B)(a:∀x∈A,∀y∈B,C.key x<=C.key y):bx C (A++B):=Bv.mpr ⟨h,h',a⟩
theorem MI.cI(m:MI C A B out i j)(b:bx C A)(k:Nat)(h:∀x∈(A.drop i).take k,∀y∈B.drop j,C.key x<=C.key y):MI C A B (out++(A.drop i).take k) (i+k) j:=by
 have e:A.drop i=(A.drop i).take k++A.drop (i+k):=by rw[<- Cv,B0]
 have hd:=b.drop i;rw[e]at hd;obtain⟨_,_,h3⟩:=Bv.mp hd;refine⟨?_,m.dB.app ((b.drop i).take k) λx hx y a=>m.low x hx y (A7 _ (Bx a)),λx hx y a=>?_⟩
 ·have:=m.perm;rw[e]at this;simpa [A8]using this
 ·rcases Ai.mp hx with q|q
  ·refine m.low x q y ?_;rcases Ai.mp a with z|z
   ·exact A7 _ (by rw[e];exact Aj _ z)
   ·exact Aj _ z
  ·rcases Ai.mp a with z|z
   ·exact h3 x q y z
   ·exact h x q y z
theorem MI.cH(m:MI C A B out i j)(b:bx C B)(k:Nat)(h:∀x∈(B.drop j).take k,∀y∈A.drop i,C.key x<=C.key y):MI C A B (out++(B.drop j).take k) i (j+k):=by
 have e:B.drop j=(B.drop j).take k++B.drop (j+k):=by rw[<- Cv,B0]
 have hd:=b.drop j;rw[e]at hd;obtain⟨_,_,h3⟩:=Bv.mp hd;refine⟨?_,m.dB.app ((b.drop j).take k) λx hx y a=>m.low x hx y (Aj _ (Bx a)),λx hx y a=>?_⟩
 ·refine List.Perm.trans ?_ m.perm;rw[A8];refine List.Perm.append_left _ ?_;generalize (B.drop j).take k=ch at e ⊢;rw[e,<- A8,<- A8];exact List.Perm.append_right _ List.perm_append_comm
 ·rcases Ai.mp hx with q|q
  ·refine m.low x q y ?_;rcases Ai.mp a with z|z
   ·exact A7 _ z
   ·exact Aj _ (by rw[e];exact Aj _ z)
  ·rcases Ai.mp a with z|z
   ·exact h x q y z
   ·exact h3 x q y z
def Fin(C:cM)(A B r:List Keyed):Prop:=bx C r/\r.Perm (A++B)
theorem MI.iC(m:MI C A B out i j)(a:bx C A)(h:B.length<=j):Fin C A B (out++A.drop i++B.drop j):=by have e:B.drop j=[]:=Cn h;refine⟨?_,by have:=m.perm;simpa [A8]using this⟩;rw[e,Bt];exact m.dB.app (a.drop i) λx hx y b=>m.low x hx y (A7 _ b)
theorem MI.iD(m:MI C A B out i j)(a:bx C B)(h:A.length<=i):Fin C A B (out++A.drop i++B.drop j):=by have e:A.drop i=[]:=Cn h;refine⟨?_,by have:=m.perm;simpa [A8]using this⟩;rw[e,Bt];exact m.dB.app (a.drop j) λx hx y b=>m.low x hx y (Aj _ b)
theorem MI.fW(m:MI C A B out i j)(c:bx C A)(f:bx C B)(b:∀x∈A.drop (A.length-1),∀y∈B,C.key y<=C.key x)(h:i+1=A.length):Fin C A B (out++B.drop j++A.drop i):=by
 have e:A.length-1=i:=⋯
 rw[e]at b;refine⟨?_,?_⟩
 ·refine(m.dB.app (f.drop j) λx hx y a=>m.low x hx y (Aj _ a)).app (c.drop i) λx hx y a=>?_;rcases Ai.mp hx with q|q
  ·exact m.low x q y (A7 _ a)
  ·exact b y a x (Cd q)
 ·refine List.Perm.trans ?_ m.perm;rw[A8];exact List.Perm.append_left _ List.perm_append_comm
end
theorem WA(a b:Array Keyed):tu a b=(do
  rule "list.sort.merge-lo"
  let all:=a.size+b.size
  let c (res:Array Keyed) (i j:Nat):=res++a.extract i a.size++b.extract j b.size
  let lst (res:Array Keyed) (i j:Nat):=res++b.extract j b.size++a.extract i a.size
  let mut res:Array Keyed:=#[<- elem' b 0]
  let mut i:=0
  let mut j:=1
  if j==b.size then return c res i j
  if i+1==a.size then return lst res i j
  let mut mg:=gallopOf (<- get)
  for _ in [0:all] do
   let mut ac:=0
   let mut bc:=0
   for _ in [0:all] do
    let some bw <- lt' (<- elem' b j) (<- elem' a i)|return c res i j
    if bw then
     res:=res.push (<- elem' b j);j:=j+1;bc:=bc+1;ac:=0
     if j==b.size then return c res i j
     if bc≥mg then break
    else
     res:=res.push (<- elem' a i);i:=i+1;ac:=ac+1;bc:=0
     if i+1==a.size then return lst res i j
     if ac≥mg then break
   rule "list.sort.gallop"
   mg:=mg+1
   for _ in [0:all] do
    if mg > 1 then mg:=mg-1
    xp mg
    let some k <- gal false (<- elem' b j) a i (a.size-i) 0|return c res i j
    ac:=k
    if k > 0 then
     res:=res++a.extract i (i+k);i:=i+k
     if i+1==a.size then return lst res i j
     if i==a.size then return c res i j
    res:=res.push (<- elem' b j);j:=j+1
    if j==b.size then return c res i j
    let some k <- gal true (<- elem' a i) b j (b.size-j) 0|return c res i j
    bc:=k
    if k > 0 then
     res:=res++b.extract j (j+k);j:=j+k
     if j==b.size then return c res i j
    res:=res.push (<- elem' a i);i:=i+1
    if i+1==a.size then return lst res i j
    if ac<7&&bc<7 then break
   mg:=mg+1
   xp mg
  unsupported "internal:list.sort.merge-bound"):=rfl
abbrev GS:=Option (Array Keyed)×Array Keyed×Nat×Nat×Nat×Nat×Nat
def tK(a b:Array Keyed)(mg ac bc:Nat)(res:Array Keyed)(i j:Nat):StateT SortSt Sem (ForInStep GS):=do
 let x <- elem' a i
 if (i+1+1==a.size)=true then pure (.done (some (res.push x++b.extract j b.size++a.extract (i+1) a.size),res.push x,i+1,j,mg,ac,bc))
 else if (decide (ac<7)&&decide (bc<7))=true then pure (.done (none,res.push x,i+1,j,mg,ac,bc))else pure (.yield (none,res.push x,i+1,j,mg,ac,bc))
def Df(a b:Array Keyed)(mg ac bc:Nat)(res:Array Keyed)(i j:Nat):StateT SortSt Sem (ForInStep GS):=do
 let y <- elem' a i
 let z <- gal true y b j (b.size-j) 0
 match z with
 |some k=>(if k > 0 then (if (j+k==b.size)=true then pure (.done (some (res++b.extract j (j+k)++a.extract i a.size++b.extract (j+k) b.size),res++b.extract j (j+k),i,j+k,mg,ac,k))else tK a b mg ac k (res++b.extract j (j+k)) i (j+k))else tK a b mg ac k res i j:StateT SortSt Sem (ForInStep GS))
 |_=>pure (.done (some (res++a.extract i a.size++b.extract j b.size),res,i,j,mg,ac,bc))
def lo2(a b:Array Keyed)(mg ac bc:Nat)(res:Array Keyed)(i j:Nat):StateT SortSt Sem (ForInStep GS):=do
 let y <- elem' b j
 if (j+1==b.size)=true then pure (.done (some (res.push y++a.extract i a.size++b.extract (j+1) b.size),res.push y,i,j+1,mg,ac,bc))
 else Df a b mg ac bc (res.push y) i (j+1)
def lo1(a b:Array Keyed)(mg ac bc:Nat)(res:Array Keyed)(i j:Nat):StateT SortSt Sem (ForInStep GS):=do
 xp mg
 let y <- elem' b j
 let z <- gal false y a i (a.size-i) 0
 match z with
 |some k=>(if k > 0 then (if (i+k+1==a.size)=true then pure (.done (some (res++a.extract i (i+k)++b.extract j b.size++a.extract (i+k) a.size),res++a.extract i (i+k),i+k,j,mg,k,bc))
   else if (i+k==a.size)=true then pure (.done (some (res++a.extract i (i+k)++a.extract (i+k) a.size++b.extract j b.size),res++a.extract i (i+k),i+k,j,mg,k,bc))
   else lo2 a b mg k bc (res++a.extract i (i+k)) (i+k) j)else lo2 a b mg k bc res i j:StateT SortSt Sem (ForInStep GS))
 |_=>pure (.done (some (res++a.extract i a.size++b.extract j b.size),res,i,j,mg,ac,bc))
section
variable{a b res:Array Keyed}{i j k:Nat}
theorem XE(a:Array Keyed)(i:Nat):(a.extract i a.size).toList=a.toList.drop i:=by simp[Array.toList_extract,List.extract_eq_take_drop];exact Ci (by simp)
theorem K4(a:Array Keyed)(i k:Nat):(a.extract i (i+k)).toList=(a.toList.drop i).take k:=by simp[Array.toList_extract,List.extract_eq_take_drop]
theorem X9(a:Array Keyed){i:Nat}(h:i<a.size):(a.toList.drop i).take 1=[a[i]]:=by rw[Bi (by simpa using h)];simp
theorem zQ{x:Keyed}(h:x∈(a.toList.drop i).take k):∃t,t<k/\∃q:i+t<a.size,x=a[i+t]:=by
 obtain⟨t,c,e⟩:=List.getElem_of_mem h;have h1:t<k:=by simp at c;lia
 have h2:i+t<a.size:=by simp at c;lia
 exact⟨t,h1,h2,by rw[<- e];simp[Cz,List.getElem_drop]⟩
theorem yK{x:Keyed}(h:x∈a.toList.drop i):∃t,i<=t/\∃q:t<a.size,x=a[t]:=by
 obtain⟨t,c,e⟩:=List.getElem_of_mem h;have h2:i+t<a.size:=by simp at c;lia
 exact⟨i+t,⋯,h2,by rw[<- e];simp[List.getElem_drop]⟩
theorem qU(h:bx C a.toList){s t:Nat}(c:s<=t)(e:t<a.size):C.key (a[s]'⋯)<=C.key a[t]:=by
 rcases Bh s t with q|q
 ·have:=List.pairwise_iff_getElem.mp h s t (by simp;lia) (by simpa using e) q;simpa using this
 ·have:s=t:=⋯
  subst this;exact Bo _
theorem U7(h:bx C a.toList){s t:Nat}(c:s<=t)(e:t<a.size):kx C a s<=kx C a t:=by rw[JH a ⋯,JH a e];exact qU h c e
end
structure Two(C:cM)(a b:Array Keyed):Prop where
 sa:bx C a.toList
 sb:bx C b.toList
 ma:∀p∈a.toList,C.S p
 mb:∀p∈b.toList,C.S p
 na:1<=a.size
 nb:1<=b.size
 first:∀y∈a.toList,∀x∈b.toList.take 1,C.key x<=C.key y
 last:∀x∈a.toList.drop (a.size-1),∀y∈b.toList,C.key y<=C.key x
section
variable{a b:Array Keyed}{st₀:SortSt}{n0:Nat}
def vS(C:cM)(a b:Array Keyed)(st₀:SortSt)(r:Option (Array Keyed))(c:SortSt):Prop:=Sm st₀ c/\∃x,r=some x/\Fin C a.toList b.toList x.toList
def mD(C:cM)(a b:Array Keyed)(st₀:SortSt)(n0:Nat)(r:Option (Array Keyed))(res:Array Keyed)(i j:Nat)(c:SortSt):Prop:=Sm st₀ c/\r=none/\MI C a.toList b.toList res.toList i j/\i+1<a.size/\j<b.size/\n0<i+j
def rW(C:cM)(a b:Array Keyed)(st₀:SortSt)(n0:Nat)(r:ForInStep GS)(e:SortSt):Prop:=match r with
 |.done c=>vS C a b st₀ c.1 e∨mD C a b st₀ n0 c.1 c.2.1 c.2.2.1 c.2.2.2.1 e
 |.yield c=>mD C a b st₀ n0 c.1 c.2.1 c.2.2.1 c.2.2.2.1 e
variable{mg ac bc i j:Nat}{res:Array Keyed}{st:SortSt}
theorem G_(T:Two C a b)(hs:Sm st₀ st)(m:MI C a.toList b.toList res.toList i j)(hi:i+1<a.size)(h:j<b.size)(n:n0<=i+j)(f:∀y∈b.toList.drop j,C.key (a[i]'⋯)<=C.key y):W C (tK a b mg ac bc res i j) (rW C a b st₀ n0) st:=by
 have c:i<a.size:=⋯
 refine Ed (Zy c ?_);have e:=m.cI T.sa 1 (λx hx y l=>by rw[X9 a c]at hx;rw[Ar.mp hx];exact f y l);rw[X9 a c,<- Array.toList_push]at e;by_cases q:i+1+1=a.size
 ·rw[Eb (by simpa using q)];refine Ee (.inl ⟨hs,_,rfl,?_⟩);rw[Ag,Ag,XE,XE];exact e.fW T.sa T.sb (by simpa using T.last) (by simpa using q)
 ·rw[Ea (by simpa using q)];have g:mD C a b st₀ n0 none (res.push a[i]) (i+1) j st:=⟨hs,rfl,e,⋯,h,⋯⟩;split
  ·exact Ee (.inr g)
  ·exact Ee g
theorem Ws(T:Two C a b)(r:kindOf st=C.kd)(hs:Sm st₀ st)(m:MI C a.toList b.toList res.toList i j)(hi:i+1<a.size)(o:j<b.size)(u:n0<=i+j):W C (Df a b mg ac bc res i j) (rW C a b st₀ n0) st:=by
 have f:i<a.size:=⋯
 refine Ed (Zy f (Ed (qf (λt=>decide (kx C b (j+t)<C.key a[i])) r (T.ma _ (by simp)) T.mb ⋯ ⋯ (λt _=>rfl) (λs t h1 h2 h3=>?_) λk h1 h2 h3=>?_)))
 ·exact Ef (Int.lt_of_le_of_lt (U7 T.sb ⋯ ⋯) (Eg h3))
 ·dsimp only;have v:∀x∈(b.toList.drop j).take k,C.key x<C.key a[i]:=λx hx=>by
   obtain⟨t,e,q,rfl⟩:=zQ hx;have:=Eg (h2 t e)
   rwa [JH b q]at this
  have n:=m.cH T.sb k (λx hx y h=>by obtain⟨t,e,q,rfl⟩:=yK h;have:=v x hx;have:=qU T.sa e q;lia)
  have l:∀y∈b.toList.drop (j+k),C.key a[i]<=C.key y:=λy h=>by obtain⟨t,e,q,rfl⟩:=yK h;have:=of_decide_eq_false (h3 (t-j) ⋯ ⋯);rw[show j+(t-j)=t by lia,JH b q]at this;lia
  by_cases c:k > 0
  ·rw[Eb c];by_cases q:j+k=b.size
   ·rw[Eb (by simpa using q)];refine Ee (.inl ⟨hs,_,rfl,?_⟩);rw[Ag,Ag,Ag,XE,XE,K4];exact n.iC T.sa (by simp;lia)
   ·rw[Ea (by simpa using q)];refine G_ T hs ?_ hi ⋯ ⋯ l;rw[Ag,K4];exact n
  ·rw[Ea c];have:k=0:=⋯
   subst this;exact G_ T hs m hi o u l
theorem Hf(T:Two C a b)(h:kindOf st=C.kd)(hs:Sm st₀ st)(m:MI C a.toList b.toList res.toList i j)(hi:i+1<a.size)(c:j<b.size)(n:n0<=i+j)(f:∀y∈a.toList.drop i,C.key b[j]<=C.key y):W C (lo2 a b mg ac bc res i j) (rW C a b st₀ n0) st:=by
 refine Ed (Zy c ?_);have e:=m.cH T.sb 1 (λx hx y l=>by rw[X9 b c]at hx;rw[Ar.mp hx];exact f y l);rw[X9 b c,<- Array.toList_push]at e;by_cases q:j+1=b.size
 ·rw[Eb (by simpa using q)];refine Ee (.inl ⟨hs,_,rfl,?_⟩);rw[Ag,Ag,XE,XE];exact e.iC T.sa (by simp;lia)
 ·rw[Ea (by simpa using q)];exact Ws T h hs e hi ⋯ ⋯
theorem Wt(T:Two C a b)(u:kindOf st₀=C.kd)(hs:Sm st₀ st)(m:MI C a.toList b.toList res.toList i j)(hi:i+1<a.size)(h:j<b.size)(v:n0<=i+j):W C (lo1 a b mg ac bc res i j) (rW C a b st₀ n0) st:=by
 refine Ed (yh hs λst hs=>?_);have c:kindOf st=C.kd:=hs.1.trans u;refine Ed (Zy h (Ed (qf (λt=>!decide (C.key b[j]<kx C a (i+t))) c (T.mb _ (by simp)) T.ma ⋯ ⋯ (λt _=>rfl) (λs t h1 h2 h3=>?_) λk h1 h2 h3=>?_)))
 ·have q:=U7 T.sa (show i+s<=i+t by lia) ⋯;simp only[Cq,decide_eq_false_iff_not]at h3 ⊢;lia
 ·dsimp only;have z:∀x∈(a.toList.drop i).take k,C.key x<=C.key b[j]:=λx hx=>by obtain⟨t,f,q,rfl⟩:=zQ hx;have:=h2 t f;simp only[Cq,decide_eq_false_iff_not]at this;rw[JH a q]at this;lia
  have n:=m.cI T.sa k (λx hx y l=>by obtain⟨t,f,q,rfl⟩:=yK l;have:=z x hx;have:=qU T.sb f q;lia)
  have o:∀y∈a.toList.drop (i+k),C.key b[j]<=C.key y:=λy l=>by obtain⟨t,f,q,rfl⟩:=yK l;have:=h3 (t-i) ⋯ ⋯;simp only[Bool.not_eq_false',decide_eq_true_eq]at this;rw[show i+(t-i)=t by lia,JH a q]at this;lia
  by_cases e:k > 0
  ·rw[Eb e];by_cases q:i+k+1=a.size
   ·rw[Eb (by simpa using q)];refine Ee (.inl ⟨hs,_,rfl,?_⟩);rw[Ag,Ag,Ag,XE,XE,K4];exact n.fW T.sa T.sb (by simpa using T.last) (by simpa using q)
   ·rw[Ea (by simpa using q)];by_cases r:i+k=a.size
    ·rw[Eb (by simpa using r)];refine Ee (.inl ⟨hs,_,rfl,?_⟩);rw[Ag,Ag,Ag,XE,XE,K4];exact n.iD T.sb (by simp;lia)
    ·rw[Ea (by simpa using r)];refine Hf T c hs ?_ ⋯ h ⋯ o;rw[Ag,K4];exact n
  ·rw[Ea e];have:k=0:=⋯
   subst this;exact Hf T c hs m hi h v o
end
variable{C:cM}{a b:Array Keyed}
theorem PN(T:Two C a b):MI C a.toList b.toList [b[0]'T.nb] 0 1:=by have m:MI C a.toList b.toList [] 0 0:=⟨by simp,List.Pairwise.nil,λx hx=>by simp at hx⟩;have:=m.cH T.sb 1 (λx hx y c=>T.first y (by simpa using c) x (by simpa using hx));rw[X9 b T.nb]at this;simpa using this
def ex1{α:Type}{P:α->Prop}{G:Prop}(k:∀a,P a->G):(∃a,P a)->G:=λ⟨a,h⟩=>k a h
def ex2{α β:Type}{P:α->β->Prop}{G:Prop}(k:∀a b,P a b->G):(∃a b,P a b)->G:=λ⟨a,b,h⟩=>k a b h
def Dr{α β γ δ:Type}{P:α->β->γ->δ->Prop}{G:Prop}(k:∀a b c d,P a b c d->G):(∃a b c d,P a b c d)->G:=λ⟨a,b,c,d,h⟩=>k a b c d h
def rC{α β γ δ ε:Type}{P:α->β->γ->δ->ε->Prop}{G:Prop}(k:∀a b c d e,P a b c d e->G):(∃a b c d e,P a b c d e)->G:=λ⟨a,b,c,d,e,h⟩=>k a b c d e h
def rB{α β γ δ ε ζ:Type}{P:α->β->γ->δ->ε->ζ->Prop}{G:Prop}(k:∀a b c d e f,P a b c d e f->G):(∃a b c d e f,P a b c d e f)->G:=λ⟨a,b,c,d,e,f,h⟩=>k a b c d e f h
theorem Wq{st:SortSt}{Q:Array Keyed->SortSt->Prop}(T:Two C a b)(hk:kindOf st=C.kd)(h:∀r l,Sm st l->Fin C a.toList b.toList r.toList->Q r l):W C (tu a b) Q st:=by
  have na:=T.na;have nb:=T.nb;have m0:=PN T;rw[WA];dsimp only;refine Ed (yQ (Ed (Zy T.nb ?_)));by_cases q:1=b.size
  . rw[Eb (by simpa using q)]
    refine Ee (h _ st (Sm.refl _) ?_);rw[Ag,Ag,XE,XE];exact m0.iC T.sa (by simp;lia)
  rw[Ea (by simpa using q)];by_cases q:0+1=a.size
  . rw[Eb (by simpa using q)]
    refine Ee (h _ st (Sm.refl _) ?_);rw[Ag,Ag,XE,XE];exact m0.fW T.sa T.sb (by simpa using T.last) (by simpa using q)
  rw[Ea (by simpa using q)];refine Ed (wpS_get ?_);refine Ed (wpS_mono (wpS_forRange (I:=λx c l=>∃res i j mg,c=(none,res,i,j,mg)/\mD C a b st x none res i j l) (Q:=λc l=>vS C a b st c.1 l) ?step ?fin ⟨_,_,_,_,rfl,Sm.refl _,rfl,m0,⋯,⋯,⋯⟩) ?post)
  case post =>
    rintro⟨J,L⟩ l ⟨hs,x,rfl,hf⟩;exact Ee (h x l hs hf)
  case fin =>
    rintro c l ⟨res,i,j,mg,rfl,hs,_,m,h1,h2,h3⟩;lia
  case step =>
    intro x c l _ hx;refine Dr λres i j mg z=>?_;have e:=z.1;subst e;have hs:=z.2.1;have m:=z.2.2.2.1;have h1:=z.2.2.2.2.1;have h2:=z.2.2.2.2.2.1;have h3:=z.2.2.2.2.2.2;dsimp only;refine Ed (wpS_mono (wpS_forRange (I:=λy c f=>∃res i j ac bc,c=(none,res,i,j,ac,bc)/\mD C a b st (x+y) none res i j f)
      (Q:=λc f=>vS C a b st c.1 f∨∃res i j ac bc,c=(none,res,i,j,ac,bc)/\mD C a b st (x+1) none res i j f) ?step1 ?mX ⟨_,_,_,_,_,rfl,hs,rfl,m,h1,h2,h3⟩) ?iW)
    case mX =>
      rintro c f ⟨res,i,j,ac,bc,rfl,hs,_,m,h1,h2,h3⟩;lia
    case step1 =>
      intro y c f _ P;refine rC λres i j ac bc z=>?_;have e:=z.1;subst e;have hs:=z.2.1;have m:=z.2.2.2.1;have h1:=z.2.2.2.2.1;have h2:=z.2.2.2.2.2.1;have h3:=z.2.2.2.2.2.2;dsimp only;have hi:i<a.size:=⋯
      refine Ed (Zy h2 (Ed (Zy hi (Ed (C.lt f _ _ _ (T.mb _ (by simp)) (T.ma _ (by simp)) (hs.1.trans hk) ?_)))));dsimp only;by_cases O:C.key b[j]<C.key a[i]
      . simp only[O,decide_true,if_true]
        refine Ed (Zy h2 ?_);have F:=m.cH T.sb 1 (λx hx y P=>by rw[X9 b h2]at hx;rw[Ar.mp hx];obtain⟨t,ht,q,rfl⟩:=yK P;have:=qU T.sa ht q;lia)
        rw[X9 b h2,<- Array.toList_push]at F;by_cases q:j+1=b.size
        . rw[Eb (by simpa using q)]
          refine Ee (.inl ⟨hs,_,rfl,?_⟩);rw[Ag,Ag,XE,XE];exact F.iC T.sa (by simp;lia)
        . rw[Ea (by simpa using q)]
          split
          . exact Ee (.inr ⟨_,_,_,_,_,rfl,hs,rfl,F,h1,⋯,⋯⟩)
          . exact Ee ⟨_,_,_,_,_,rfl,hs,rfl,F,h1,⋯,⋯⟩
      . simp only[O,decide_false,Az,if_false]
        refine Ed (Zy hi ?_);have F:=m.cI T.sa 1 (λx hx y P=>by rw[X9 a hi]at hx;rw[Ar.mp hx];obtain⟨t,ht,q,rfl⟩:=yK P;have:=qU T.sb ht q;lia)
        rw[X9 a hi,<- Array.toList_push]at F;by_cases q:i+1+1=a.size
        . rw[Eb (by simpa using q)]
          refine Ee (.inl ⟨hs,_,rfl,?_⟩);rw[Ag,Ag,XE,XE];exact F.fW T.sa T.sb (by simpa using T.last) (by simpa using q)
        . rw[Ea (by simpa using q)]
          split
          . exact Ee (.inr ⟨_,_,_,_,_,rfl,hs,rfl,F,⋯,h2,⋯⟩)
          . exact Ee ⟨_,_,_,_,_,rfl,hs,rfl,F,⋯,h2,⋯⟩
    case iW =>
      intro c f z0;refine z0.elim (λz0=>?_) (rC λres i j ac bc z=>?_)
      . obtain⟨J,L⟩:=c
        obtain⟨hs,r,u,hf⟩:=z0;simp only at u;subst u;exact Ee ⟨hs,r,rfl,hf⟩
      . have e:=z.1
        subst e;have hs:=z.2.1;have m:=z.2.2.2.1;have h1:=z.2.2.2.2.1;have h2:=z.2.2.2.2.2.1;have h3:=z.2.2.2.2.2.2;dsimp only;refine Ed (yQ ?_);refine Ed (wpS_mono (wpS_forRange (I:=λy c n=>∃res i j mg ac bc,c=(none,res,i,j,mg,ac,bc)/\mD C a b st (x+1+y) none res i j n)
          (Q:=λc n=>vS C a b st c.1 n∨∃res i j mg ac bc,c=(none,res,i,j,mg,ac,bc)/\mD C a b st (x+1) none res i j n) ?iU ?fin2 ⟨_,_,_,_,_,_,rfl,hs,rfl,m,h1,h2,⋯⟩) ?post2)
        case fin2 =>
          rintro c n ⟨res,i,j,mg,ac,bc,rfl,hs,_,m,h1,h2,h3⟩;lia
        case iU =>
          intro y c n _ P;refine rB λres i j mg ac bc z=>?_;have e:=z.1;subst e;have hs:=z.2.1;have m:=z.2.2.2.1;have h1:=z.2.2.2.2.1;have h2:=z.2.2.2.2.2.1;have h3:=z.2.2.2.2.2.2;dsimp only;have key:=λmg=>Wt (mg:=mg) (ac:=ac) (bc:=bc) (n0:=x+1+(y+1)) T hk hs m h1 h2 ⋯;rcases Bh 1 mg with hm|hm
          . rw[Eb hm]
            refine wpS_mono (key (mg-1)) ?_;intro r lD u;cases r with
            |done c =>
              obtain⟨J,L,R,U,X,Y,c7⟩:=c;rcases u with q|q
              . exact .inl q
              . obtain⟨g1,g2,g3,g4,o,v⟩:=q
                simp only at g2 g3 g4 o v;subst g2;exact .inr ⟨_,_,_,_,_,_,rfl,g1,rfl,g3,g4,o,⋯⟩
            |yield c=>obtain⟨J,L,R,U,X,Y,c7⟩:=c;obtain⟨g1,g2,g3,g4,o,v⟩:=u;simp only at g2 g3 g4 o v;subst g2;exact⟨_,_,_,_,_,_,rfl,g1,rfl,g3,g4,o,v⟩
          . rw[Ea ⋯]
            refine wpS_mono (key mg) ?_;intro r lD u;cases r with
            |done c =>
              obtain⟨J,L,R,U,X,Y,c7⟩:=c;rcases u with q|q
              . exact .inl q
              . obtain⟨g1,g2,g3,g4,o,v⟩:=q
                simp only at g2 g3 g4 o v;subst g2;exact .inr ⟨_,_,_,_,_,_,rfl,g1,rfl,g3,g4,o,⋯⟩
            |yield c=>obtain⟨J,L,R,U,X,Y,c7⟩:=c;obtain⟨g1,g2,g3,g4,o,v⟩:=u;simp only at g2 g3 g4 o v;subst g2;exact⟨_,_,_,_,_,_,rfl,g1,rfl,g3,g4,o,v⟩
        case post2 =>
          intro c n z0;refine z0.elim (λz0=>?_) (rB λres i j mg ac bc z=>?_)
          . obtain⟨J,L⟩:=c
            obtain⟨hs,r,u,hf⟩:=z0;simp only at u;subst u;exact Ee ⟨hs,r,rfl,hf⟩
          . have e:=z.1
            subst e;have hs:=z.2.1;have m:=z.2.2.2.1;have h1:=z.2.2.2.2.1;have h2:=z.2.2.2.2.2.1;have h3:=z.2.2.2.2.2.2;dsimp only;refine Ed (yh hs λlD tR=>?_);exact Ee ⟨_,_,_,_,rfl,tR,rfl,m,h1,h2,h3⟩
variable{C:cM}
structure MH(C:cM)(A B R:List Keyed)(p q:Nat):Prop where
 perm:(A.take p++B.take q++R).Perm (A++B)
 dB:bx C R
 high:∀x∈A.take p++B.take q,∀y∈R,C.key x<=C.key y
section
variable{A B R:List Keyed}{p q:Nat}
theorem GQ(A:List Keyed){p r:Nat}(h:r<=p):A.take p=A.take r++(A.take p).drop r:=by
 have:A.take r=(A.take p).take r:=by rw[List.take_take,Nat.min_eq_left h]
 rw[this,B0]
theorem MH.cI(m:MH C A B R p q)(f:bx C A){r:Nat}(l:r<=p)(h:∀y∈(A.take p).drop r,∀x∈B.take q,C.key x<=C.key y):MH C A B ((A.take p).drop r++R) r q:=by
 have e:=GQ A l;have hd:=f.take p;rw[e]at hd;obtain⟨_,_,h3⟩:=Bv.mp hd;have j:bx C ((A.take p).drop r):=(f.take p).drop r;have i:∀y∈(A.take p).drop r,y∈A.take p:=λy c=>Cd c;generalize (A.take p).drop r=ch at e h h3 j i ⊢;refine⟨?_,j.app m.dB λx hx y c=>m.high x (A7 _ (i x hx)) y c,λx hx y c=>?_⟩
 ·refine List.Perm.trans ?_ m.perm;rw[e];simp only[A8];refine List.Perm.append_left _ ?_;rw[<- A8,<- A8];exact List.Perm.append_right _ List.perm_append_comm
 ·rcases Ai.mp c with z|z
  ·rcases Ai.mp hx with w|w
   ·exact h3 x w y z
   ·exact h y z x w
  ·refine m.high x ?_ y z;rcases Ai.mp hx with w|w
   ·exact A7 _ (by rw[e];exact A7 _ w)
   ·exact Aj _ w
theorem MH.cH(m:MH C A B R p q)(f:bx C B){r:Nat}(l:r<=q)(h:∀y∈(B.take q).drop r,∀x∈A.take p,C.key x<=C.key y):MH C A B ((B.take q).drop r++R) p r:=by
 have e:=GQ B l;have hd:=f.take q;rw[e]at hd;obtain⟨_,_,h3⟩:=Bv.mp hd;have j:bx C ((B.take q).drop r):=(f.take q).drop r;have i:∀y∈(B.take q).drop r,y∈B.take q:=λy c=>Cd c;generalize (B.take q).drop r=ch at e h h3 j i ⊢;refine⟨?_,j.app m.dB λx hx y c=>m.high x (Aj _ (i x hx)) y c,λx hx y c=>?_⟩
 ·have:=m.perm;rw[e]at this;simpa [A8]using this
 ·rcases Ai.mp c with z|z
  ·rcases Ai.mp hx with w|w
   ·exact h y z x w
   ·exact h3 x w y z
  ·refine m.high x ?_ y z;rcases Ai.mp hx with w|w
   ·exact A7 _ w
   ·exact Aj _ (by rw[e];exact A7 _ w)
theorem MH.iD(m:MH C A B R p q)(U:p=0)(c:bx C B):Fin C A B (A.take p++B.take q++R):=by subst U;exact⟨by simpa using(c.take q).app m.dB λx hx y e=>m.high x (Aj _ hx) y e,m.perm⟩
theorem MH.iC(m:MH C A B R p q)(e:q=0)(c:bx C A):Fin C A B (A.take p++B.take q++R):=by subst e;exact⟨by simpa using(c.take p).app m.dB λx hx y f=>m.high x (A7 _ hx) y f,m.perm⟩
theorem MH.d8(m:MH C A B R p q)(h:q=1)(e:bx C A)(f:bx C B)(hf:∀y∈A,∀x∈B.take 1,C.key x<=C.key y):Fin C A B (B.take q++A.take p++R):=by
 subst h;refine⟨((f.take 1).app (e.take p) λx hx y c=>hf y (Bx c) x hx).app m.dB λx hx y c=>?_,?_⟩
 ·refine m.high x ?_ y c;rcases Ai.mp hx with w|w
  ·exact Aj _ w
  ·exact A7 _ w
 ·exact(List.Perm.append_right _ List.perm_append_comm).trans m.perm
end
theorem WB(a b:Array Keyed):tE a b=(do
  rule "list.sort.merge-hi"
  let all:=a.size+b.size
  let c (res:Array Keyed) (p q:Nat):=a.extract 0 p++b.extract 0 q++res.reverse
  let fst (res:Array Keyed) (p q:Nat):=b.extract 0 q++a.extract 0 p++res.reverse
  let mut p:=a.size-1
  let mut q:=b.size
  let mut res:Array Keyed:=#[<- elem' a p]
  if p==0 then return c res p q
  if q==1 then return fst res p q
  let mut mg:=gallopOf (<- get)
  for _ in [0:all] do
   let mut ac:=0
   let mut bc:=0
   for _ in [0:all] do
    let some aw <- lt' (<- elem' b (q-1)) (<- elem' a (p-1))|return c res p q
    if aw then
     p:=p-1;res:=res.push (<- elem' a p);ac:=ac+1;bc:=0
     if p==0 then return c res p q
     if ac≥mg then break
    else
     q:=q-1;res:=res.push (<- elem' b q);bc:=bc+1;ac:=0
     if q==1 then return fst res p q
     if bc≥mg then break
   rule "list.sort.gallop"
   mg:=mg+1
   for _ in [0:all] do
    if mg > 1 then mg:=mg-1
    xp mg
    let some t <- gal false (<- elem' b (q-1)) a 0 p (p-1)|return c res p q
    let k:=p-t
    ac:=k
    if k > 0 then
     res:=res++(a.extract t p).reverse;p:=t
     if p==0 then return c res p q
    q:=q-1;res:=res.push (<- elem' b q)
    if q==1 then return fst res p q
    let some t <- gal true (<- elem' a (p-1)) b 0 q (q-1)|return c res p q
    let k:=q-t
    bc:=k
    if k > 0 then
     res:=res++(b.extract t q).reverse;q:=t
     if q==1 then return fst res p q
     if q==0 then return c res p q
    p:=p-1;res:=res.push (<- elem' a p)
    if p==0 then return c res p q
    if ac<7&&bc<7 then break
   mg:=mg+1
   xp mg
  unsupported "internal:list.sort.merge-bound"):=rfl
abbrev HS:=Option (Array Keyed)×Nat×Nat×Array Keyed×Nat×Nat×Nat
def tV(a b:Array Keyed)(mg ac bc:Nat)(res:Array Keyed)(p q:Nat):StateT SortSt Sem (ForInStep HS):=do
 let x <- elem' a (p-1)
 if (p-1==0)=true then pure (.done (some (a.extract 0 (p-1)++b.extract 0 q++(res.push x).reverse),p-1,q,res.push x,mg,ac,bc))
 else if (decide (ac<7)&&decide (bc<7))=true then pure (.done (none,p-1,q,res.push x,mg,ac,bc))else pure (.yield (none,p-1,q,res.push x,mg,ac,bc))
def Dh(a b:Array Keyed)(mg ac bc:Nat)(res:Array Keyed)(p q:Nat):StateT SortSt Sem (ForInStep HS):=do
 let y <- elem' a (p-1)
 let z <- gal true y b 0 q (q-1)
 match z with
 |some t=>(if q-t > 0 then (if (t==1)=true then pure (.done (some (b.extract 0 t++a.extract 0 p++(res++(b.extract t q).reverse).reverse),p,t,res++(b.extract t q).reverse,mg,ac,q-t))
   else if (t==0)=true then pure (.done (some (a.extract 0 p++b.extract 0 t++(res++(b.extract t q).reverse).reverse),p,t,res++(b.extract t q).reverse,mg,ac,q-t))
   else tV a b mg ac (q-t) (res++(b.extract t q).reverse) p t)else tV a b mg ac (q-t) res p q:StateT SortSt Sem (ForInStep HS))
 |_=>pure (.done (some (a.extract 0 p++b.extract 0 q++res.reverse),p,q,res,mg,ac,bc))
def hi2(a b:Array Keyed)(mg ac bc:Nat)(res:Array Keyed)(p q:Nat):StateT SortSt Sem (ForInStep HS):=do
 let y <- elem' b (q-1)
 if (q-1==1)=true then pure (.done (some (b.extract 0 (q-1)++a.extract 0 p++(res.push y).reverse),p,q-1,res.push y,mg,ac,bc))
 else Dh a b mg ac bc (res.push y) p (q-1)
def hi1(a b:Array Keyed)(mg ac bc:Nat)(res:Array Keyed)(p q:Nat):StateT SortSt Sem (ForInStep HS):=do
 xp mg
 let y <- elem' b (q-1)
 let z <- gal false y a 0 p (p-1)
 match z with
 |some t=>(if p-t > 0 then (if (t==0)=true then pure (.done (some (a.extract 0 t++b.extract 0 q++(res++(a.extract t p).reverse).reverse),t,q,res++(a.extract t p).reverse,mg,p-t,bc))
   else hi2 a b mg (p-t) bc (res++(a.extract t p).reverse) t q)else hi2 a b mg (p-t) bc res p q:StateT SortSt Sem (ForInStep HS))
 |_=>pure (.done (some (a.extract 0 p++b.extract 0 q++res.reverse),p,q,res,mg,ac,bc))
section
variable{a b res:Array Keyed}{p q r:Nat}
theorem zj(a:Array Keyed)(p:Nat):(a.extract 0 p).toList=a.toList.take p:=by simp[Array.toList_extract,List.extract_eq_take_drop]
theorem HD(a:Array Keyed)(r p:Nat):(a.extract r p).toList=(a.toList.take p).drop r:=by rw[Array.toList_extract,List.extract_eq_take_drop,List.drop_take]
theorem VO(x:Keyed):(res.push x).toList.reverse=x::res.toList.reverse:=by simp
theorem Hi(ch:Array Keyed):(res++ch.reverse).toList.reverse=ch.toList++res.toList.reverse:=by simp
theorem qV(a:Array Keyed){p:Nat}(h0:1<=p)(h:p<=a.size):(a.toList.take p).drop (p-1)=[a[p-1]'⋯]:=by rw[List.drop_take,show p-(p-1)=1 by lia];exact X9 a ⋯
theorem J_{x:Keyed}(h:x∈(a.toList.take p).drop r):∃t,r<=t/\t<p/\∃z:t<a.size,x=a[t]:=by
 obtain⟨t,c,e⟩:=List.getElem_of_mem h;have h1:r+t<p/\r+t<a.size:=by simp at c;lia
 exact⟨r+t,⋯,h1.1,h1.2,by rw[<- e];simp[Cz,List.getElem_drop]⟩
theorem yL{x:Keyed}(h:x∈a.toList.take p):∃t,t<p/\∃z:t<a.size,x=a[t]:=by
 obtain⟨t,c,e⟩:=List.getElem_of_mem h;have h1:t<p/\t<a.size:=by simp at c;lia
 exact⟨t,h1.1,h1.2,by rw[<- e];simp[Cz]⟩
end
section
variable{a b:Array Keyed}{st₀:SortSt}{n0:Nat}
def mC(C:cM)(a b:Array Keyed)(st₀:SortSt)(n0:Nat)(r:Option (Array Keyed))(res:Array Keyed)(p q:Nat)(c:SortSt):Prop:=Sm st₀ c/\r=none/\MH C a.toList b.toList res.toList.reverse p q/\(1<=p/\p<=a.size)/\(2<=q/\q<=b.size)/\n0+p+q<a.size+b.size
def rT(C:cM)(a b:Array Keyed)(st₀:SortSt)(n0:Nat)(r:ForInStep HS)(e:SortSt):Prop:=match r with
 |.done c=>vS C a b st₀ c.1 e∨mC C a b st₀ n0 c.1 c.2.2.2.1 c.2.1 c.2.2.1 e
 |.yield c=>mC C a b st₀ n0 c.1 c.2.2.2.1 c.2.1 c.2.2.1 e
variable{mg ac bc p q:Nat}{res:Array Keyed}{st:SortSt}
theorem E_(T:Two C a b)(hs:Sm st₀ st)(m:MH C a.toList b.toList res.toList.reverse p q)(U:1<=p/\p<=a.size)(i:2<=q/\q<=b.size)(j:n0+p+q<=a.size+b.size)(h:∀x∈b.toList.take q,C.key x<=C.key (a[p-1]'⋯)):W C (tV a b mg ac bc res p q) (rT C a b st₀ n0) st:=by
 have c:p-1<a.size:=⋯
 refine Ed (Zy c ?_);have e:=m.cI T.sa (r:=p-1) ⋯ (λy f x hx=>by rw[qV a U.1 U.2]at f;rw[Ar.mp f];exact h x hx);rw[qV a U.1 U.2,List.singleton_append,<- VO]at e;by_cases z:p-1=0
 ·rw[Eb (by simpa using z)];refine Ee (.inl ⟨hs,_,rfl,?_⟩);rw[Ag,Ag,zj,zj,Ce];exact e.iD z T.sb
 ·rw[Ea (by simpa using z)];have g:mC C a b st₀ n0 none (res.push a[p-1]) (p-1) q st:=⟨hs,rfl,e,⋯,i,⋯⟩;split
  ·exact Ee (.inr g)
  ·exact Ee g
theorem WD(T:Two C a b)(o:kindOf st=C.kd)(hs:Sm st₀ st)(m:MH C a.toList b.toList res.toList.reverse p q)(U:1<=p/\p<=a.size)(F:2<=q/\q<=b.size)(r:n0+p+q<=a.size+b.size):W C (Dh a b mg ac bc res p q) (rT C a b st₀ n0) st:=by
 have f:p-1<a.size:=⋯
 refine Ed (Zy f (Ed (qf (λt=>decide (kx C b (0+t)<C.key a[p-1])) o (T.ma _ (by simp)) T.mb ⋯ ⋯ (λt _=>rfl) (λs t h1 h2 h3=>?_) λt h1 h2 h3=>?_)))
 ·exact Ef (Int.lt_of_le_of_lt (U7 T.sb ⋯ ⋯) (Eg h3))
 ·dsimp only;have h:=m.cH T.sb h1 (λy I x hx=>by obtain⟨u,i,j,z,rfl⟩:=J_ I;have e:=of_decide_eq_false (h3 u i j);rw[Nat.zero_add,JH b z]at e;obtain⟨v,n,z2,rfl⟩:=yL hx;have:=qU T.sa (show v<=p-1 by lia) f;lia)
  have l:∀x∈b.toList.take t,C.key x<=C.key a[p-1]:=λx hx=>by obtain⟨v,n,z2,rfl⟩:=yL hx;have e:=Eg (h2 v n);rw[Nat.zero_add,JH b z2]at e;lia
  rw[<- HD,<- Hi]at h;by_cases c:q-t > 0
  ·rw[Eb c];by_cases z:t=1
   ·rw[Eb (by simpa using z)];refine Ee (.inl ⟨hs,_,rfl,?_⟩);rw[Ag,Ag,zj,zj,Ce];exact h.d8 z T.sa T.sb T.first
   ·rw[Ea (by simpa using z)];by_cases z2:t=0
    ·rw[Eb (by simpa using z2)];refine Ee (.inl ⟨hs,_,rfl,?_⟩);rw[Ag,Ag,zj,zj,Ce];exact h.iC z2 T.sa
    ·rw[Ea (by simpa using z2)];exact E_ T hs h U ⋯ ⋯ l
  ·rw[Ea c];have:t=q:=⋯
   subst this;exact E_ T hs m U F r l
theorem Fb(T:Two C a b)(j:kindOf st=C.kd)(hs:Sm st₀ st)(m:MH C a.toList b.toList res.toList.reverse p q)(U:1<=p/\p<=a.size)(f:2<=q/\q<=b.size)(l:n0+p+q<=a.size+b.size)(i:∀x∈a.toList.take p,C.key x<=C.key (b[q-1]'⋯)):W C (hi2 a b mg ac bc res p q) (rT C a b st₀ n0) st:=by
 have c:q-1<b.size:=⋯
 refine Ed (Zy c ?_);have e:=m.cH T.sb (r:=q-1) ⋯ (λy h x hx=>by rw[qV b ⋯ f.2]at h;rw[Ar.mp h];exact i x hx);rw[qV b ⋯ f.2,List.singleton_append,<- VO]at e;by_cases z:q-1=1
 ·rw[Eb (by simpa using z)];refine Ee (.inl ⟨hs,_,rfl,?_⟩);rw[Ag,Ag,zj,zj,Ce];exact e.d8 z T.sa T.sb T.first
 ·rw[Ea (by simpa using z)];exact WD T j hs e U ⋯ ⋯
theorem WK(T:Two C a b)(F:kindOf st₀=C.kd)(hs:Sm st₀ st)(m:MH C a.toList b.toList res.toList.reverse p q)(U:1<=p/\p<=a.size)(o:2<=q/\q<=b.size)(I:n0+p+q<=a.size+b.size):W C (hi1 a b mg ac bc res p q) (rT C a b st₀ n0) st:=by
 refine Ed (yh hs λst hs=>?_);have c:kindOf st=C.kd:=hs.1.trans F;have h:q-1<b.size:=⋯
 refine Ed (Zy h (Ed (qf (λt=>!decide (C.key b[q-1]<kx C a (0+t))) c (T.mb _ (by simp)) T.ma ⋯ ⋯ (λt _=>rfl) (λs t h1 h2 h3=>?_) λt h1 h2 h3=>?_)))
 ·have e:=U7 T.sa (show 0+s<=0+t by lia) ⋯;simp only[Cq,decide_eq_false_iff_not]at h3 ⊢;lia
 ·dsimp only;have l:=m.cI T.sa h1 (λy J x hx=>by obtain⟨u,i,j,z,rfl⟩:=J_ J;have e:=h3 u i j;simp only[Bool.not_eq_false',decide_eq_true_eq]at e;rw[Nat.zero_add,JH a z]at e;obtain⟨v,r,z2,rfl⟩:=yL hx;have:=qU T.sb (show v<=q-1 by lia) h;lia)
  have n:∀x∈a.toList.take t,C.key x<=C.key b[q-1]:=λx hx=>by obtain⟨v,r,z2,rfl⟩:=yL hx;have e:=h2 v r;simp only[Cq,decide_eq_false_iff_not]at e;rw[Nat.zero_add,JH a z2]at e;lia
  rw[<- HD,<- Hi]at l;by_cases f:p-t > 0
  ·rw[Eb f];by_cases z:t=0
   ·rw[Eb (by simpa using z)];refine Ee (.inl ⟨hs,_,rfl,?_⟩);rw[Ag,Ag,zj,zj,Ce];exact l.iD z T.sb
   ·rw[Ea (by simpa using z)];exact Fb T c hs l ⋯ o ⋯ n
  ·rw[Ea f];have:t=p:=⋯
   subst this;exact Fb T c hs m U o I n
theorem PX(T:Two C a b):MH C a.toList b.toList [a[a.size-1]'(by have:=T.na;lia)] (a.size-1) b.size:=by have na:=T.na;have e:a.toList.take a.size=a.toList:=Ci (by simp);have f:b.toList.take b.size=b.toList:=Ci (by simp);have m:MH C a.toList b.toList [] a.size b.size:=⟨by rw[e,f,Bt],List.Pairwise.nil,λx hx y c=>by simp at c⟩;have:=m.cI T.sa (r:=a.size-1) ⋯ (λy c x hx=>T.last y (by rw[e]at c;exact c) x (Bx hx));rw[qV a na (Ae _)]at this;simpa using this
theorem Wr{Q:Array Keyed->SortSt->Prop}(T:Two C a b)(hk:kindOf st=C.kd)(h:∀r i,Sm st i->Fin C a.toList b.toList r.toList->Q r i):W C (tE a b) Q st:=by
  have na:=T.na;have nb:=T.nb;have m0:=PX T;have hl:a.size-1<a.size:=⋯
  rw[WB];dsimp only;refine Ed (yQ (Ed (Zy hl ?_)));have m1:MH C a.toList b.toList (#[a[a.size-1]]).toList.reverse (a.size-1) b.size:=m0;by_cases z:a.size-1=0
  . rw[Eb (by simpa using z)]
    refine Ee (h _ st (Sm.refl _) ?_);rw[Ag,Ag,zj,zj,Ce];exact m1.iD z T.sb
  rw[Ea (by simpa using z)];by_cases z:b.size=1
  . rw[Eb (by simpa using z)]
    refine Ee (h _ st (Sm.refl _) ?_);rw[Ag,Ag,zj,zj,Ce];exact m1.d8 z T.sa T.sb T.first
  rw[Ea (by simpa using z)];refine Ed (wpS_get ?_);refine Ed (wpS_mono (wpS_forRange (I:=λx c i=>∃p q res mg,c=(none,p,q,res,mg)/\mC C a b st x none res p q i) (Q:=λc i=>vS C a b st c.1 i) ?step ?fin ⟨_,_,_,_,rfl,Sm.refl _,rfl,m1,⋯,⋯,⋯⟩) ?post)
  case post =>
    rintro⟨L,O⟩ i ⟨hs,x,rfl,hf⟩;exact Ee (h x i hs hf)
  case fin =>
    rintro c i ⟨p,q,res,mg,rfl,hs,_,m,h1,h2,h3⟩;lia
  case step =>
    intro x c i _ hx;refine Dr λp q res mg z=>?_;have e:=z.1;subst e;have hs:=z.2.1;have m:=z.2.2.2.1;have h1:=z.2.2.2.2.1;have h2:=z.2.2.2.2.2.1;have h3:=z.2.2.2.2.2.2;dsimp only;refine Ed (wpS_mono (wpS_forRange (I:=λy c f=>∃p q res ac bc,c=(none,p,q,res,ac,bc)/\mC C a b st (x+y) none res p q f)
      (Q:=λc f=>vS C a b st c.1 f∨∃p q res ac bc,c=(none,p,q,res,ac,bc)/\mC C a b st (x+1) none res p q f) ?step1 ?mX ⟨_,_,_,_,_,rfl,hs,rfl,m,h1,h2,h3⟩) ?iW)
    case mX =>
      rintro c f ⟨p,q,res,ac,bc,rfl,hs,_,m,h1,h2,h3⟩;lia
    case step1 =>
      intro y c f _ J;refine rC λp q res ac bc z=>?_;have e:=z.1;subst e;have hs:=z.2.1;have m:=z.2.2.2.1;have h1:=z.2.2.2.2.1;have h2:=z.2.2.2.2.2.1;have h3:=z.2.2.2.2.2.2;dsimp only;have u:p-1<a.size:=⋯
      have F:q-1<b.size:=⋯
      refine Ed (Zy F (Ed (Zy u (Ed (C.lt f _ _ _ (T.mb _ (by simp)) (T.ma _ (by simp)) (hs.1.trans hk) ?_)))));dsimp only;by_cases P:C.key b[q-1]<C.key a[p-1]
      . simp only[P,decide_true,if_true]
        refine Ed (Zy u ?_);have t:=m.cI T.sa (r:=p-1) ⋯ (λy J x hx=>by rw[qV a h1.1 h1.2]at J;rw[Ar.mp J];obtain⟨v,hv,z2,rfl⟩:=yL hx;have:=qU T.sb (show v<=q-1 by lia) F;lia)
        rw[qV a h1.1 h1.2,List.singleton_append,<- VO]at t;by_cases z:p-1=0
        . rw[Eb (by simpa using z)]
          refine Ee (.inl ⟨hs,_,rfl,?_⟩);rw[Ag,Ag,zj,zj,Ce];exact t.iD z T.sb
        . rw[Ea (by simpa using z)]
          split
          . exact Ee (.inr ⟨_,_,_,_,_,rfl,hs,rfl,t,⋯,h2,⋯⟩)
          . exact Ee ⟨_,_,_,_,_,rfl,hs,rfl,t,⋯,h2,⋯⟩
      . simp only[P,decide_false,Az,if_false]
        refine Ed (Zy F ?_);have t:=m.cH T.sb (r:=q-1) ⋯ (λy J x hx=>by rw[qV b ⋯ h2.2]at J;rw[Ar.mp J];obtain⟨v,hv,z2,rfl⟩:=yL hx;have:=qU T.sa (show v<=p-1 by lia) u;lia)
        rw[qV b ⋯ h2.2,List.singleton_append,<- VO]at t;by_cases z:q-1=1
        . rw[Eb (by simpa using z)]
          refine Ee (.inl ⟨hs,_,rfl,?_⟩);rw[Ag,Ag,zj,zj,Ce];exact t.d8 z T.sa T.sb T.first
        . rw[Ea (by simpa using z)]
          split
          . exact Ee (.inr ⟨_,_,_,_,_,rfl,hs,rfl,t,h1,⋯,⋯⟩)
          . exact Ee ⟨_,_,_,_,_,rfl,hs,rfl,t,h1,⋯,⋯⟩
    case iW =>
      intro c f z0;refine z0.elim (λz0=>?_) (rC λp q res ac bc z=>?_)
      . obtain⟨L,O⟩:=c
        obtain⟨hs,r,n,hf⟩:=z0;simp only at n;subst n;exact Ee ⟨hs,r,rfl,hf⟩
      . have e:=z.1
        subst e;have hs:=z.2.1;have m:=z.2.2.2.1;have h1:=z.2.2.2.2.1;have h2:=z.2.2.2.2.2.1;have h3:=z.2.2.2.2.2.2;dsimp only;refine Ed (yQ ?_);refine Ed (wpS_mono (wpS_forRange (I:=λy c j=>∃p q res mg ac bc,c=(none,p,q,res,mg,ac,bc)/\mC C a b st (x+1+y) none res p q j)
          (Q:=λc j=>vS C a b st c.1 j∨∃p q res mg ac bc,c=(none,p,q,res,mg,ac,bc)/\mC C a b st (x+1) none res p q j) ?iU ?fin2 ⟨_,_,_,_,_,_,rfl,hs,rfl,m,h1,h2,⋯⟩) ?post2)
        case fin2 =>
          rintro c j ⟨p,q,res,mg,ac,bc,rfl,hs,_,m,h1,h2,h3⟩;lia
        case iU =>
          intro y c j _ J;refine rB λp q res mg ac bc z=>?_;have e:=z.1;subst e;have hs:=z.2.1;have m:=z.2.2.2.1;have h1:=z.2.2.2.2.1;have h2:=z.2.2.2.2.2.1;have h3:=z.2.2.2.2.2.2;dsimp only;have key:=λmg=>WK (mg:=mg) (ac:=ac) (bc:=bc) (n0:=x+1+(y+1)) T hk hs m h1 h2 ⋯;rcases Bh 1 mg with hm|hm
          . rw[Eb hm]
            refine wpS_mono (key (mg-1)) ?_;intro r lD n;cases r with
            |done c =>
              obtain⟨L,O,R,U,X,Y,c7⟩:=c;rcases n with z|z
              . exact .inl z
              . obtain⟨g1,g2,g3,g4,l,o⟩:=z
                simp only at g2 g3 g4 l o;subst g2;exact .inr ⟨_,_,_,_,_,_,rfl,g1,rfl,g3,g4,l,⋯⟩
            |yield c=>obtain⟨L,O,R,U,X,Y,c7⟩:=c;obtain⟨g1,g2,g3,g4,l,o⟩:=n;simp only at g2 g3 g4 l o;subst g2;exact⟨_,_,_,_,_,_,rfl,g1,rfl,g3,g4,l,o⟩
          . rw[Ea ⋯]
            refine wpS_mono (key mg) ?_;intro r lD n;cases r with
            |done c =>
              obtain⟨L,O,R,U,X,Y,c7⟩:=c;rcases n with z|z
              . exact .inl z
              . obtain⟨g1,g2,g3,g4,l,o⟩:=z
                simp only at g2 g3 g4 l o;subst g2;exact .inr ⟨_,_,_,_,_,_,rfl,g1,rfl,g3,g4,l,⋯⟩
            |yield c=>obtain⟨L,O,R,U,X,Y,c7⟩:=c;obtain⟨g1,g2,g3,g4,l,o⟩:=n;simp only at g2 g3 g4 l o;subst g2;exact⟨_,_,_,_,_,_,rfl,g1,rfl,g3,g4,l,o⟩
        case post2 =>
          intro c j z0;refine z0.elim (λz0=>?_) (rB λp q res mg ac bc z=>?_)
          . obtain⟨L,O⟩:=c
            obtain⟨hs,r,n,hf⟩:=z0;simp only at n;subst n;exact Ee ⟨hs,r,rfl,hf⟩
          . have e:=z.1
            subst e;have hs:=z.2.1;have m:=z.2.2.2.1;have h1:=z.2.2.2.2.1;have h2:=z.2.2.2.2.2.1;have h3:=z.2.2.2.2.2.2;dsimp only;refine Ed (yh hs λlD tR=>?_);exact Ee ⟨_,_,_,_,rfl,tR,rfl,m,h1,h2,h3⟩
end
variable{C:cM}
def seg(L:List Keyed)(s n:Nat):List Keyed:=(L.drop s).take n
theorem Yi{L:List Keyed}{s n:Nat}(h:s+n<=L.length):(seg L s n).length=n:=by simp[seg];lia
theorem Gn(L:List Keyed)(s n:Nat):L=L.take s++seg L s n++L.drop (s+n):=by unfold seg;rw[A8,<- Cv,B0,B0]
theorem VP(L:List Keyed)(s n m:Nat):seg L s (n+m)=seg L s n++seg L (s+n) m:=by unfold seg;rw[<- Cv,List.take_add]
theorem HP{P M M' R:List Keyed}{s n:Nat}(h:s+n<=P.length):seg (P++M++R) s n=seg (P++M'++R) s n:=by
 unfold seg;have:∀T:List Keyed,((P++T).drop s).take n=(P.drop s).take n:=λT=>by rw[List.drop_append_of_le_length ⋯,List.take_append_of_le_length (by simp;lia)]
 rw[A8,A8,this,this]
theorem SH{P M M' R:List Keyed}{s n:Nat}(f:M.length=M'.length)(h:P.length+M.length<=s):seg (P++M++R) s n=seg (P++M'++R) s n:=by
 unfold seg;have e:∀T:List Keyed,T.length<=s->(T++R).drop s=R.drop (s-T.length):=λT c=>by rw[List.drop_append,Cn c,List.nil_append]
 rw[e (P++M) (by rw[An];lia),e (P++M') (by rw[An];lia),An,An,f]
theorem Si{P M R:List Keyed}{s n:Nat}(h:s=P.length)(c:n=M.length):seg (P++M++R) s n=M:=by subst h c;unfold seg;rw[A8,List.drop_left,List.take_left]
theorem vC{c:Array Keyed}{s n i j:Nat}(h:bx C (seg c.toList s n))(f:s+n<=c.size)(e:i<=j)(l:j<n):kx C c (s+i)<=kx C c (s+j):=by
 rcases Bh i j with q|q
 ·have m:(seg c.toList s n).length=n:=Yi (by simpa using f);have:=List.pairwise_iff_getElem.mp h i j ⋯ ⋯ q;rw[JH c ⋯,JH c ⋯];simpa [seg,Cz,List.getElem_drop]using this
 ·have:i=j:=⋯
  subst this;exact Bo _
theorem HI{c:Array Keyed}{s n:Nat}(f:s+n<=c.size)(h:∀i j,i<=j->j<n->kx C c (s+i)<=kx C c (s+j)):bx C (seg c.toList s n):=by refine List.pairwise_iff_getElem.mpr λi j hi l e=>?_;have m:(seg c.toList s n).length=n:=Yi (by simpa using f);have:=h i j ⋯ ⋯;rw[JH c ⋯,JH c ⋯]at this;simpa [seg,Cz,List.getElem_drop]using this
def Runs(C:cM)(L:List Keyed):List (Nat×Nat×Nat)->Nat->Nat->Prop
 | [],s,e=>s=e
 | (x,n,_)::r,s,e=>x=s/\1<=n/\bx C (seg L s n)/\Runs C L r (s+n) e
theorem Runs.le:∀{r:List (Nat×Nat×Nat)}{s e:Nat},Runs C L r s e->s+r.length<=e
 | [],_,_,h=>by cases h;simp
 | (x,n,_)::r,s,e,⟨_,h1,_,h2⟩=>by have:=Runs.le h2;simp;lia
theorem Runs.congr:∀{r:List (Nat×Nat×Nat)}{s e:Nat},Runs C L r s e->(∀a n,s<=a->a+n<=e->seg L' a n=seg L a n)->Runs C L' r s e
  | [],_,_,h,_=>h
  | (x,n,_)::r,s,e,⟨h0,h1,h2,h3⟩,q=>by have c:=h3.le;exact⟨h0,h1,by rw[q s n (Ae _) ⋯];exact h2,h3.congr λa m i f=>q a m ⋯ f⟩
theorem Runs.app:∀{r c:List (Nat×Nat×Nat)}{s e:Nat},Runs C L (r++c) s e↔∃m,Runs C L r s m/\Runs C L c m e
  | [],c,s,e=>⟨λh=>⟨s,rfl,h⟩,λ⟨m,h1,h2⟩=>by cases h1;exact h2⟩
  | (x,n,_)::r,c,s,e=>by
    constructor
    . rintro⟨h0,h1,h2,h3⟩
      obtain⟨m,f,i⟩:=Runs.app.mp h3;exact⟨m,⟨h0,h1,h2,f⟩,i⟩
    . rintro⟨m,⟨h0,h1,h2,h3⟩,q⟩
      exact⟨h0,h1,h2,Runs.app.mpr ⟨m,h3,q⟩⟩
structure G(C:cM)(L0:List Keyed)(st:SortSt)(lo:Nat):Prop where
 kind:kindOf st=C.kd
 fine:failedOf st=none
 perm:(arrOf st).toList.Perm L0
 runs:Runs C (arrOf st).toList (pendingOf st).toList 0 lo
 le:lo<=(arrOf st).size
theorem uH(c:Nat):∀(M:List Keyed)(i:Nat)(f:Array Keyed),c+i+M.length<=f.size->((M.zipIdx i).foldl (λa x=>a.setIfInBounds (c+x.2) x.1) f).toList=f.toList.take (c+i)++M++f.toList.drop (c+i+M.length)
  | [],i,f,h=>by simp
  |m::M,i,f,h=>by
    rw[List.zipIdx_cons,List.foldl_cons];have h':c+i<f.size:=by simp at h;lia
    rw[uH c M (i+1) _ (by simp at h ⊢;lia)];have e:(f.setIfInBounds (c+i) m).toList=f.toList.take (c+i)++m::f.toList.drop (c+i+1):=by rw[Array.toList_setIfInBounds,List.set_eq_take_append_cons_drop,Eb (by simpa using h')]
    have j:(f.toList.take (c+i)).length=c+i:=by simp;lia
    have l:(f.toList.take (c+i)++m::f.toList.drop (c+i+1)).take (c+(i+1))=f.toList.take (c+i)++[m]:=by rw[List.take_append,j,show c+(i+1)-(c+i)=1 by lia,Ci ⋯];simp
    have n:(f.toList.take (c+i)++m::f.toList.drop (c+i+1)).drop (c+(i+1)+M.length)=f.toList.drop (c+i+(m::M).length):=by rw[List.drop_append,j,Cn ⋯,show c+(i+1)+M.length-(c+i)=M.length+1 by lia];simp[Cv];congr 1;lia
    show _=_;rw[e,l,n];simp
theorem WC(i:Nat):Dd i=(do
  let s <- get
  let (some (sa,na,pw),some (sb,nb,_)):=((pendingOf s)[i]?,(pendingOf s)[i+1]?)|unsupported "internal:list.sort.pending"
  set (setPending s (((pendingOf s).setIfInBounds i (sa,na+nb,pw)).eraseIdxIfInBounds (i+1)))
  let some k <- gal false (<- elem' (arrOf s) sb) (arrOf s) sa na 0|return false
  let (sa,na):=(sa+k,na-k)
  if na==0 then return true
  let some nb <- gal true (<- elem' (arrOf s) (sa+na-1)) (arrOf s) sb nb (nb-1)|return false
  if nb==0 then return true
  let x:=(arrOf s).extract sa sb
  let y:=(arrOf s).extract sb (sb+nb)
  let both <- if na<=nb then tu x y else tE x y
  modify λs=>setArr s (both.toList.zipIdx.foldl (λa x=>a.setIfInBounds (sa+x.2) x.1) (arrOf s))
  return (failedOf (<- get)).isNone):=rfl
def HB(a:Array Keyed)(s n:Nat):(a.extract s (s+n)).toList=seg a.toList s n:=K4 a s n
theorem QeR{σ:Type}{s' st:σ}{Q:PUnit->σ->Prop}(h:Q ⟨⟩ s'):W C (set s':StateT σ Sem PUnit) Q st:=by show wpS _ _ _ _ _ Q st;unfold wpS;rw[StateT.run_set];exact Ec ⟨rfl,h⟩
theorem FZ{L0:List Keyed}{st:SortSt}{lo i:Nat}{Q:Bool->SortSt->Prop}(hS:∀p∈L0,C.S p)(g:G C L0 st lo)(hi:i+1<(pendingOf st).size)(h:∀f,G C L0 f lo->(pendingOf f).size+1=(pendingOf st).size->(arrOf f).toList.drop lo=(arrOf st).toList.drop lo->Q true f):W C (Dd i) Q st:=by
 have mO:∀p∈(arrOf st).toList,C.S p:=λp U=>hS p (g.perm.mem_iff.mp U);have e1:(pendingOf st)[i]?=some (pendingOf st)[i]:=getElem?_pos _ i ⋯;have e2:(pendingOf st)[i+1]?=some (pendingOf st)[i+1]:=getElem?_pos _ (i+1) hi;obtain⟨⟨sa,na,pw⟩,ea⟩:∃x,(pendingOf st)[i]=x:=⟨_,rfl⟩;obtain⟨⟨sb,nb,Pn⟩,eb⟩:∃x,(pendingOf st)[i+1]=x:=⟨_,rfl⟩;rw[ea]at e1;rw[eb]at e2;have split:(pendingOf st).toList=(pendingOf st).toList.take i++(sa,na,pw)::(sb,nb,Pn)::(pendingOf st).toList.drop (i+2):=by
  have l1:i<(pendingOf st).toList.length:=by simp;lia
  have l2:i+1<(pendingOf st).toList.length:=by simpa using hi
  conv=>lhs;rw[<- B0 i (pendingOf st).toList,Bi l1,Bi l2]
  simp[ea,eb]
 have Oz:(((pendingOf st).setIfInBounds i (sa,na+nb,pw)).eraseIdxIfInBounds (i+1)).toList=(pendingOf st).toList.take i++(sa,na+nb,pw)::(pendingOf st).toList.drop (i+2):=by
  have l1:i<(pendingOf st).toList.length:=by simp;lia
  have:∀(x:Array (Nat×Nat×Nat)) k,(x.eraseIdxIfInBounds k).toList=x.toList.eraseIdx k:=λx k=>by
   have e:x=x.toList.toArray:=by simp
   conv=>lhs;rw[e,List.eraseIdxIfInBounds_toArray]
  rw[this,Array.toList_setIfInBounds,List.set_eq_take_append_cons_drop,Eb l1];have l3:((pendingOf st).toList.take i).length=i:=by simp;lia
  rw[List.eraseIdx_append_of_length_le ⋯,l3,show i+1-i=1 by lia];rw[Bi (by simpa using hi)];rfl
 have r:=g.runs;rw[split]at r;obtain⟨m,r1,⟨ba,bn,Y,bd,bq,sB,r2⟩⟩:=Runs.app.mp r;subst ba bd;have bm:=r2.le;have hsz:=g.le;have bh:(arrOf st).toList.length=(arrOf st).size:=by simp
 have br:=r1.le;generalize u:(arrOf st).toList=L at *;have done:∀(f:SortSt)(M:List Keyed),kindOf f=kindOf st->failedOf f=failedOf st->pendingOf f=((pendingOf st).setIfInBounds i (sa,na+nb,pw)).eraseIdxIfInBounds (i+1)->(arrOf f).toList=L.take sa++M++L.drop (sa+(na+nb))->bx C M->M.Perm (seg L sa na++seg L (sa+na) nb)->Q true f:=by
  intro f M q1 q2 q3 q4 q5 q6;have hM:M.length=na+nb:=by rw[q6.length_eq,An,Yi ⋯,Yi ⋯]
  have hT:(L.take sa).length=sa:=by simp;lia
  have mW:=Gn L sa (na+nb);have lH:(seg L sa (na+nb)).length=M.length:=by rw[Yi ⋯,hM]
  refine h f ⟨q1.trans g.kind,q2.trans g.fine,?_,?_,?_⟩ ?_ ?_
  ·rw[q4];refine List.Perm.trans ?_ (show L.Perm L0 from u▸g.perm)
   conv=>rhs;rw[mW,VP]
   exact List.Perm.append_right _ (List.Perm.append_left _ q6)
  ·rw[q3,Oz,q4];refine Runs.app.mpr ⟨sa,r1.congr λa n ha hn=>?_,rfl,⋯,?_,?_⟩
   ·conv=>rhs;rw[mW]
    exact HP (by rw[hT];lia)
   ·rw[Si hT.symm hM.symm];exact q5
   ·have be:Runs C L ((pendingOf st).toList.drop (i+2)) (sa+(na+nb)) lo:=by rw[<- Nat.add_assoc];exact r2
    refine be.congr λa n ha hn=>?_
    conv=>rhs;rw[mW]
    exact SH lH.symm (by rw[hT,hM];lia)
  ·have:(arrOf f).size=(arrOf st).size:=by have e:=congrArg List.length q4;rw[An,An,hM,hT,Bq]at e;rw[<- Cj,e];lia
   lia
  ·have e:=congrArg List.length Oz;rw[<- q3]at e;have e0:=congrArg List.length split;simp at e e0;lia
  ·have d:L.drop lo=(L.drop (sa+(na+nb))).drop (lo-(sa+(na+nb))):=by rw[Cv];congr 1;lia
   have hl:(L.take sa++M).length=sa+(na+nb):=by rw[An,hT,hM]
   rw[q4,d,List.drop_append,hl,List.drop_eq_nil_of_le (by rw[hl];lia),List.nil_append]
 rw[WC];refine Ed (wpS_get ?_);simp only[e1,e2];refine Ed (QeR ?_);have kd:kindOf (setPending st (((pendingOf st).setIfInBounds i (sa,na+nb,pw)).eraseIdxIfInBounds (i+1)))=C.kd:=g.kind;generalize I:setPending st (((pendingOf st).setIfInBounds i (sa,na+nb,pw)).eraseIdxIfInBounds (i+1))=o at kd;have P:kindOf o=kindOf st:=by rw[<- I]
 have q_:failedOf o=failedOf st:=by rw[<- I]
 have tY:pendingOf o=((pendingOf st).setIfInBounds i (sa,na+nb,pw)).eraseIdxIfInBounds (i+1):=by rw[<- I]
 have Dk:arrOf o=arrOf st:=by rw[<- I]
 have R:sa+na<(arrOf st).size:=⋯
 have BZ:bx C (seg (arrOf st).toList sa na):=by rw[u];exact Y
 have BX:bx C (seg (arrOf st).toList (sa+na) nb):=by rw[u];exact sB
 have fV:∀p∈(arrOf st).toList,C.S p:=by rw[u];exact mO
 have b0:∀y∈seg L (sa+na) nb,C.key (arrOf st)[sa+na]<=C.key y:=λy l=>by rw[<- u]at l;obtain⟨t,O,z,rfl⟩:=zQ l;have:=vC BX ⋯ (Be t) O;rw[Nat.add_zero,JH _ R,JH _ z]at this;exact this
 refine Ed (Zy R (Ed (qf (λt=>!decide (C.key (arrOf st)[sa+na]<kx C (arrOf st) (sa+t))) kd (fV _ (by simp)) fV ⋯ ⋯ (λt _=>rfl) (λs t h1 h2 h3=>?_) λk h1 h2 h3=>?_)))
 ·have q:=vC BZ ⋯ h1 h2;simp only[Cq,decide_eq_false_iff_not]at h3 ⊢;lia
 dsimp only;have A1:∀x∈seg L sa k,C.key x<=C.key (arrOf st)[sa+na]:=λx hx=>by rw[<- u]at hx;obtain⟨t,O,z,rfl⟩:=zQ hx;have e:=h2 t O;simp only[Cq,decide_eq_false_iff_not]at e;rw[JH _ z]at e;lia
 have A2:∀x∈seg L (sa+k) (na-k),C.key (arrOf st)[sa+na]<C.key x:=λx hx=>by rw[<- u]at hx;obtain⟨t,O,z,rfl⟩:=zQ hx;have e:=h3 (k+t) ⋯ ⋯;simp only[Bool.not_eq_false',decide_eq_true_eq]at e;rw[<- Nat.add_assoc,JH _ z]at e;exact e
 have eA:seg L sa na=seg L sa k++seg L (sa+k) (na-k):=by rw[<- VP,show k+(na-k)=na by lia]
 have same:(arrOf o).toList=L.take sa++(seg L sa na++seg L (sa+na) nb)++L.drop (sa+(na+nb)):=by rw[Dk,u,<- VP];exact Gn L sa (na+nb)
 by_cases hz:na-k=0
 ·rw[Eb (by simpa using hz)];have ay:k=na:=⋯
  subst ay;exact Ee (done o _ P q_ tY same (Y.app sB λx hx y l=>C1 (A1 x hx) (b0 y l)) (List.Perm.refl _))
 rw[Ea (by simpa using hz)];have F:sa+k+(na-k)-1<(arrOf st).size:=⋯
 have wj:sa+k+(na-k)-1=sa+(na-1):=⋯
 have kl:∀x∈seg L sa na,C.key x<=C.key ((arrOf st)[sa+k+(na-k)-1]'F):=λx hx=>by rw[<- u]at hx;obtain⟨t,O,z,rfl⟩:=zQ hx;have e:=vC BZ ⋯ (show t<=na-1 by lia) ⋯;rw[JH _ z,<- wj,JH _ F]at e;exact e
 refine Ed (Zy F (Ed (qf (λt=>decide (kx C (arrOf st) (sa+na+t)<C.key ((arrOf st)[sa+k+(na-k)-1]'F))) kd (fV _ (by simp)) fV ⋯ ⋯ (λt _=>rfl) (λs t h1 h2 h3=>?_) λc g1 g2 g3=>?_)))
 ·exact Ef (Int.lt_of_le_of_lt (vC BX ⋯ h1 h2) (Eg h3))
 dsimp only;generalize av:C.key ((arrOf st)[sa+k+(na-k)-1]'F)=al at kl g2 g3;have B1:∀y∈seg L (sa+na) c,C.key y<al:=λy l=>by
  rw[<- u]at l;obtain⟨t,O,z,rfl⟩:=zQ l;have e:=Eg (g2 t O)
  rwa [JH _ z]at e
 have B2:∀y∈seg L (sa+na+c) (nb-c),al<=C.key y:=λy l=>by rw[<- u]at l;obtain⟨t,O,z,rfl⟩:=zQ l;have e:=of_decide_eq_false (g3 (c+t) ⋯ ⋯);rw[<- Nat.add_assoc,JH _ z]at e;lia
 have eB:seg L (sa+na) nb=seg L (sa+na) c++seg L (sa+na+c) (nb-c):=by rw[<- VP,show c+(nb-c)=nb by lia]
 by_cases X:c=0
 ·rw[Eb (by simpa using X)];subst X;refine Ee (done o _ P q_ tY same (Y.app sB λx hx y l=>?_) (List.Perm.refl _));exact C1 (kl x hx) (B2 y (by simpa using l))
 rw[Ea (by simpa using X)];have ex:((arrOf st).extract (sa+k) (sa+na)).toList=seg L (sa+k) (na-k):=by rw[show sa+na=sa+k+(na-k)by lia,HB,u]
 have ey:((arrOf st).extract (sa+na) (sa+na+c)).toList=seg L (sa+na) c:=by rw[HB,u]
 have sx:((arrOf st).extract (sa+k) (sa+na)).size=na-k:=by rw[<- Cj,ex,Yi ⋯]
 have sy:((arrOf st).extract (sa+na) (sa+na+c)).size=c:=by rw[<- Cj,ey,Yi ⋯]
 have sX:bx C (seg L (sa+k) (na-k)):=by rw[eA]at Y;exact(Bv.mp Y).2.1
 have sY:bx C (seg L (sa+na) c):=by rw[eB]at sB;exact(Bv.mp sB).1
 have O_:bx C (seg L (sa+na+c) (nb-c)):=by rw[eB]at sB;exact(Bv.mp sB).2.1
 have Pa:bx C (seg L sa k):=by rw[eA]at Y;exact(Bv.mp Y).1
 have nG:∀s n,∀p∈seg L s n,p∈L:=λs n p U=>Cd (Bx U);have T:Two C ((arrOf st).extract (sa+k) (sa+na)) ((arrOf st).extract (sa+na) (sa+na+c)):=by
  refine⟨by rw[ex];exact sX,by rw[ey];exact sY,by rw[ex];exact λp U=>mO p (nG _ _ p U),by rw[ey];exact λp U=>mO p (nG _ _ p U),⋯,⋯,?_,?_⟩
  ·rw[ex,ey];intro y l x hx;have:x∈seg L (sa+na) 1:=by
    unfold seg at hx ⊢;rw[List.take_take]at hx
    rwa [Nat.min_eq_left ⋯]at hx
   rw[<- u]at this;have e:=X9 (arrOf st) R;unfold seg at this;rw[e]at this;rw[Ar.mp this];exact Ck (A2 y l)
  ·rw[ex,ey,sx];intro x hx y l;have J:x∈seg L (sa+k+(na-k)-1) 1:=by
    unfold seg at hx ⊢;rw[List.drop_take,Cv,show na-k-(na-k-1)=1 by lia]at hx
    rwa [show sa+k+(na-k)-1=sa+k+(na-k-1)by lia]
   rw[<- u]at J;have e:=X9 (arrOf st) F;unfold seg at J;rw[e]at J;rw[Ar.mp J,av];exact Ck (B1 y l)
 have ab:∀(r:Array Keyed)(j:SortSt),Sm o j->Fin C ((arrOf st).extract (sa+k) (sa+na)).toList ((arrOf st).extract (sa+na) (sa+na+c)).toList r.toList->W C (do
   modify λs=>setArr s (r.toList.zipIdx.foldl (λa x=>a.setIfInBounds (sa+k+x.2) x.1) (arrOf s))
   let __do_lift <- get
   pure (failedOf __do_lift).isNone:StateT SortSt Sem Bool) Q j:=by
  intro r j hs ⟨f1,f2⟩;rw[ex,ey]at f2;refine Ed (wpS_modify (Ed (wpS_get ?_)));have hf:failedOf (setArr j (r.toList.zipIdx.foldl (λa x=>a.setIfInBounds (sa+k+x.2) x.1) (arrOf j)))=none:=(hs.2.2.2.trans q_).trans g.fine;rw[hf];have rl:r.toList.length=na-k+c:=by rw[f2.length_eq,An,Yi ⋯,Yi ⋯]
  have a2:arrOf j=arrOf st:=hs.2.1.trans Dk;have oU:∀x∈r.toList,x∈seg L (sa+k) (na-k)∨x∈seg L (sa+na) c:=λx hx=>Ai.mp (f2.mem_iff.mp hx);refine Ee (done _ (seg L sa k++r.toList++seg L (sa+na+c) (nb-c)) (hs.1.trans P) (hs.2.2.2.trans q_) (hs.2.2.1.trans tY) ?_ ?_ ?_)
  ·show((r.toList.zipIdx.foldl (λa x=>a.setIfInBounds (sa+k+x.2) x.1) (arrOf j)).toList)=_;rw[a2,uH (sa+k) r.toList 0 (arrOf st) (by rw[rl];lia),u,Nat.add_zero,rl];have t1:L.take (sa+k)=L.take sa++seg L sa k:=by unfold seg;rw[List.take_add]
   have t2:L.drop (sa+k+(na-k+c))=seg L (sa+na+c) (nb-c)++L.drop (sa+(na+nb)):=by unfold seg;rw[show sa+k+(na-k+c)=sa+na+c by lia,show L.drop (sa+(na+nb))=(L.drop (sa+na+c)).drop (nb-c)by rw[Cv];congr 1;lia,B0]
   rw[t1,t2];simp[A8]
  ·refine(Pa.app f1 λx hx y l=>?_).app O_ λx hx y l=>?_
   ·rcases oU y l with w|w
    ·exact C1 (A1 x hx) (Ck (A2 y w))
    ·exact C1 (A1 x hx) (b0 y (by rw[eB];exact A7 _ w))
   ·have ae:=B2 y l;rcases Ai.mp hx with w|w
    ·exact C1 (A1 x w) (b0 y (by rw[eB];exact Aj _ l))
    ·rcases oU x w with v|v
     ·exact C1 (kl x (by rw[eA];exact Aj _ v)) ae
     ·exact Ck (Int.lt_of_lt_of_le (B1 x v) ae)
  ·rw[eA,eB];have:(seg L sa k++r.toList++seg L (sa+na+c) (nb-c)).Perm (seg L sa k++(seg L (sa+k) (na-k)++seg L (sa+na) c)++seg L (sa+na+c) (nb-c)):=List.Perm.append_right _ (List.Perm.append_left _ f2);simpa [A8]using this
 by_cases oW:na-k<=c
 ·rw[Eb oW];exact Ed (Wq T kd λr j hs hf=>ab r j hs hf)
 ·rw[Ea oW];exact Ed (Wr T kd λr j hs hf=>ab r j hs hf)
variable{C:cM}
structure Bs(C:cM)(st₀ st:SortSt)(lo:Nat):Prop where
 kind:kindOf st=C.kd
 fine:failedOf st=none
 pend:pendingOf st=pendingOf st₀
 perm:(arrOf st).toList.Perm (arrOf st₀).toList
 low:∀i:Nat,i<lo->(arrOf st)[i]?=(arrOf st₀)[i]?
 mem:∀p∈(arrOf st₀).toList,C.S p
def SR(C:cM)(st:SortSt)(lo n:Nat):Prop:=∀i j,i<=j->j<n->kx C (arrOf st) (lo+i)<=kx C (arrOf st) (lo+j)
def NI(C:cM)(st:SortSt)(lo n:Nat):Prop:=∀i j,i<=j->j<n->kx C (arrOf st) (lo+j)<=kx C (arrOf st) (lo+i)
section
variable{st₀ st:SortSt}{lo n m:Nat}
theorem Bs.size(b:Bs C st₀ st lo):(arrOf st).size=(arrOf st₀).size:=by have:=b.perm.length_eq;simpa using this
def Bs.ok(b:Bs C st₀ st lo):Ok C st:=⟨b.kind,b.fine,λp U=>b.mem p (b.perm.mem_iff.mp U)⟩
theorem Bs.set(b:Bs C st₀ st lo){xs:Array Keyed}(U:xs.Perm (arrOf st))(c:∀i:Nat,i<lo->xs[i]?=(arrOf st)[i]?):Bs C st₀ (setArr st xs) lo :=
 ⟨b.kind,b.fine,b.pend,(Array.perm_iff_toList_perm.mp U).trans b.perm,λi h=>(c i h).trans (b.low i h),b.mem⟩
theorem uQ{xs ys:Array Keyed}{i j:Nat}(h:xs[i]?=ys[j]?):kx C xs i=kx C ys j:=by unfold kx;rw[h]
theorem yI{xs:Array Keyed}{i j:Nat}(c:j<=xs.size)(k:Nat):kx C (mirror xs i j ((j-i) / 2)) k=if i<=k/\k<j then kx C xs (i+j-1-k)else kx C xs k:=by
 have e:=getElem?_mirror_all (i:=i) c k;split at e<;>rename_i q
 ·rw[Eb q];exact uQ e
 ·rw[Ea q];exact uQ e
theorem Bs.mirror(b:Bs C st₀ st lo){i j:Nat}(hi:lo<=i)(c:j<=(arrOf st).size):Bs C st₀ (setArr st (mirror (arrOf st) i j ((j-i) / 2))) lo :=
 b.set (mirror_perm _ _ _ _) λk e=>by rw[getElem?_mirror_all c,Ea ⋯]
theorem vc{xs:Array Keyed}{i j:Nat}(c:j<=xs.size)(he:∀k,i<=k->k<j->kx C xs k=kx C xs (j-1))(k:Nat):kx C (mirror xs i j ((j-i) / 2)) k=kx C xs k:=by
 rw[yI c];split
 ·rename_i q;rw[he (i+j-1-k) ⋯ ⋯,he k q.1 q.2]
 ·rfl
theorem rN{i j:Nat}{Q:Unit->SortSt->Prop}(h:Q () (setArr st (mirror (arrOf st) i j ((j-i) / 2)))):W C (reverseSlice' i j) Q st:=by rw[reverseSlice'_eq];exact wpS_modify h
def wM(lo n c:Nat):StateT SortSt Sem (Option Nat):=do
 reverseSlice' lo (lo+n)
 let mut m:=n
 for _ in [n:c] do
  let some less <- ltAt' (lo+m) (lo+m-1)|return none
  if less then break
  m:=m+1
 return some m
theorem LK{e:Nat}{Q:Option Nat->SortSt->Prop}(b:Bs C st₀ st lo)(h1:1<=n)(L:n<=e)(hs:lo+e<=(arrOf st₀).size)(J:NI C st lo n)(h:∀m f,Bs C st₀ f lo->1<=m->m<=e->SR C f lo m->Q (some m) f):W C (wM lo n e) Q st:=by
 unfold wM;have hz:=b.size;refine Ed (rN ?_);have r:=b.mirror (i:=lo) (j:=lo+n) (Ae _) ⋯;have u:SR C (setArr st (PyProof.Rows.mirror (arrOf st) lo (lo+n) ((lo+n-lo) / 2))) lo n:=λi j o y=>by show kx C (PyProof.Rows.mirror _ _ _ _) _<=kx C (PyProof.Rows.mirror _ _ _ _) _;rw[yI ⋯,yI ⋯,Eb ⋯,Eb ⋯];have:=J (n-1-j) (n-1-i) ⋯ ⋯;rw[show lo+(lo+n)-1-(lo+i)=lo+(n-1-i)by lia,show lo+(lo+n)-1-(lo+j)=lo+(n-1-j)by lia];exact this
 generalize setArr st (PyProof.Rows.mirror (arrOf st) lo (lo+n) ((lo+n-lo) / 2))=l at r u ⊢;have F:=r.size;dsimp only;refine Ed (wpS_mono (wpS_forRange (I:=λx c f=>f=l/\c=(none,x)/\SR C l lo x) (Q:=λc f=>f=l/\∃m,c=(none,m)/\1<=m/\m<=e/\SR C l lo m) ?step ?fin ⟨rfl,rfl,u⟩) ?post)
 case post =>
  rintro c f ⟨rfl,m,rfl,q1,q2,q3⟩;exact Ee (h m _ r q1 q2 q3)
 case fin =>
  rintro c f ⟨rfl,rfl,q⟩;rw[show max n e=e by lia]at q ⊢;exact⟨rfl,e,rfl,⋯,Ae _,q⟩
 case step =>
  rintro x c f hx z ⟨rfl,rfl,q⟩;dsimp only;refine Ed (yJ r.ok ⋯ ⋯ ?_);by_cases t:kx C (arrOf f) (lo+x)<kx C (arrOf f) (lo+x-1)
  ·simp only[t,decide_true,if_true];exact Ee ⟨rfl,x,rfl,⋯,⋯,q⟩
  ·simp only[t,decide_false,Az,if_false];refine Ee ⟨rfl,rfl,λi j o y=>?_⟩;rcases Bh j x with w|w
   ·exact q i j o w
   ·have:j=x:=⋯
    subst this;rcases Bh i j with v|v
    ·have:=q i (j-1) ⋯ ⋯;rw[show lo+(j-1)=lo+j-1 by lia]at this;lia
    ·have:i=j:=⋯
     subst this;exact Bo _
def Fg(lo n0 c:Nat):StateT SortSt Sem (Option Nat):=do
 rule "list.sort.descending-run"
 let mut n:=n0+1
 let mut eqs:=0
 for _ in [n:c] do
  let some less <- ltAt' (lo+n) (lo+n-1)|return none
  if less then
   if eqs > 0 then reverseSlice' (lo+n-(eqs+1)) (lo+n)
   eqs:=0
  else
   let some more <- ltAt' (lo+n-1) (lo+n)|return none
   if more then break
   eqs:=eqs+1
  n:=n+1
 if eqs > 0 then reverseSlice' (lo+n-(eqs+1)) (lo+n)
 wM lo n c
theorem Mp{o:Nat}{Q:Option Nat->SortSt->Prop}(b:Bs C st₀ st lo)(L:n+1<=o)(hs:lo+o<=(arrOf st₀).size)(J:NI C st lo (n+1))(h:∀m f,Bs C st₀ f lo->1<=m->m<=o->SR C f lo m->Q (some m) f):W C (Fg lo n o) Q st:=by
 unfold Fg;refine Ed (yQ ?_);dsimp only;refine Ed (wpS_mono (wpS_forRange (I:=λx c f=>∃l,c=(none,x,l)/\Bs C st₀ f lo/\NI C f lo x/\l+1<=x/\∀i,x-(l+1)<=i->i<x->kx C (arrOf f) (lo+i)=kx C (arrOf f) (lo+x-1))
  (Q:=λc f=>∃x l,c=(none,x,l)/\Bs C st₀ f lo/\NI C f lo x/\l+1<=x/\1<=x/\x<=o/\∀i,x-(l+1)<=i->i<x->kx C (arrOf f) (lo+i)=kx C (arrOf f) (lo+x-1)) ?step ?fin ⟨0,rfl,b,J,⋯,λi h1 h2=>by congr 1;lia⟩) ?post)
 case fin =>
  rintro c f ⟨l,rfl,q1,q2,q3,q4⟩;rw[show max (n+1) o=o by lia]at q2 q3 q4 ⊢;exact⟨o,l,rfl,q1,q2,q3,⋯,Ae _,q4⟩
 case step =>
  rintro x c f hx F ⟨l,rfl,q1,q2,q3,q4⟩;dsimp only;have hz:=q1.size;refine Ed (yJ q1.ok ⋯ ⋯ ?_);by_cases t:kx C (arrOf f) (lo+x)<kx C (arrOf f) (lo+x-1)
  ·simp only[t,decide_true,if_true];have more:∀ys:Array Keyed,(∀k,kx C ys k=kx C (arrOf f) k)->∀i j,i<=j->j<x+1->kx C ys (lo+j)<=kx C ys (lo+i):=λys y i j q r=>by
    rw[y,y];rcases Bh j x with w|w
    ·exact q2 i j q w
    ·have:j=x:=⋯
     subst this;rcases Bh i j with v|v
     ·have:=q2 i (j-1) ⋯ ⋯;rw[show lo+(j-1)=lo+j-1 by lia]at this;lia
     ·have:i=j:=⋯
      subst this;exact Bo _
   by_cases he:l > 0
   ·rw[Eb he];refine Ed (rN (Ee ⟨0,rfl,q1.mirror ⋯ ⋯,more _ (vc ⋯ λk h1 h2=>?_),⋯,λi h1 h2=>by congr 1;lia⟩));have e:=q4 (k-lo) ⋯ ⋯
    rwa [show lo+(k-lo)=k by lia]at e
   ·rw[Ea he];exact Ee ⟨0,rfl,q1,more _ λ_=>rfl,⋯,λi h1 h2=>by congr 1;lia⟩
  ·simp only[t,decide_false,Az,if_false];refine Ed (yJ q1.ok ⋯ ⋯ ?_);by_cases u:kx C (arrOf f) (lo+x-1)<kx C (arrOf f) (lo+x)
   ·simp only[u,decide_true,if_true];exact Ee ⟨x,l,rfl,q1,q2,q3,⋯,⋯,q4⟩
   ·simp only[u,decide_false,Az,if_false];have z:kx C (arrOf f) (lo+x)=kx C (arrOf f) (lo+x-1):=⋯
    refine Ee ⟨l+1,rfl,q1,λi j q r=>?_,⋯,λi h1 h2=>?_⟩
    ·rcases Bh j x with w|w
     ·exact q2 i j q w
     ·have:j=x:=⋯
      subst this;rcases Bh i j with v|v
      ·have:=q2 i (j-1) ⋯ ⋯;rw[show lo+(j-1)=lo+j-1 by lia]at this;lia
      ·have:i=j:=⋯
       subst this;exact Bo _
    ·rw[show lo+(x+1)-1=lo+x by lia];rcases Bh i x with w|w
     ·rw[q4 i ⋯ w,z]
     ·have:i=x:=⋯
      subst this;rfl
 case post =>
  rintro c f ⟨x,l,rfl,q1,q2,q3,q4,q5,q6⟩;dsimp only;have hz:=q1.size;by_cases he:l > 0
  ·rw[Eb he];refine Ed (rN (LK (q1.mirror ⋯ ⋯) q4 q5 hs ?_ h));intro i j q r;show kx C (PyProof.Rows.mirror _ _ _ _) _<=kx C (PyProof.Rows.mirror _ _ _ _) _;have same:=vc (C:=C) (xs:=arrOf f) (i:=lo+x-(l+1)) (j:=lo+x) ⋯ λk h1 h2=>by
    have e:=q6 (k-lo) ⋯ ⋯
    rwa [show lo+(k-lo)=k by lia]at e
   rw[same,same];exact q2 i j q r
  ·rw[Ea he];exact LK q1 q4 q5 hs q2 h
theorem kG{l:Nat}{Q:Option Nat->SortSt->Prop}(b:Bs C st₀ st lo)(h1:1<=l)(hs:lo+l<=(arrOf st₀).size)(h:∀m f,Bs C st₀ f lo->1<=m->m<=l->SR C f lo m->Q (some m) f):W C (countRun' lo l) Q st:=by
 have hz:=b.size;rw[countRun'_eq];dsimp only;refine Ed (wpS_mono (wpS_forRange (I:=λx c f=>f=st/\c=(none,x)/\SR C st lo x) (Q:=λc f=>f=st/\∃m,c=(none,m)/\1<=m/\m<=l/\SR C st lo m/\(m=l∨kx C (arrOf st) (lo+m)<kx C (arrOf st) (lo+m-1))) ?step ?fin ⟨rfl,rfl,λi j o u=>(by obtain rfl:i=j:=⋯;exact Bo _)⟩) ?post)
 case fin =>
  rintro c f ⟨rfl,rfl,q⟩;rw[show max 1 l=l by lia]at q ⊢;exact⟨rfl,l,rfl,⋯,Ae _,q,.inl rfl⟩
 case step =>
  rintro x c f hx O ⟨rfl,rfl,q⟩;dsimp only;refine Ed (yJ b.ok ⋯ ⋯ ?_);by_cases y:kx C (arrOf f) (lo+x)<kx C (arrOf f) (lo+x-1)
  ·simp only[y,decide_true,if_true];exact Ee ⟨rfl,x,rfl,⋯,⋯,q,.inr y⟩
  ·simp only[y,decide_false,Az,if_false];refine Ee ⟨rfl,rfl,λi j o u=>?_⟩;rcases Bh j x with w|w
   ·exact q i j o w
   ·have:j=x:=⋯
    subst this;rcases Bh i j with v|v
    ·have:=q i (j-1) ⋯ ⋯;rw[show lo+(j-1)=lo+j-1 by lia]at this;lia
    ·have:i=j:=⋯
     subst this;exact Bo _
 case post =>
  rintro c f ⟨rfl,m,rfl,q1,q2,q3,q4⟩;dsimp only;by_cases z:m=l
  ·rw[Eb (by simpa using z)];exact Ee (h m _ b q1 q2 q3)
  ·rw[Ea (by simpa using z)];have lt:=q4.resolve_left z;by_cases F:m > 1
   ·rw[Eb F];refine Ed (yJ b.ok ⋯ ⋯ ?_);by_cases J:kx C (arrOf f) lo<kx C (arrOf f) (lo+m-1)
    ·simp only[J,decide_true,if_true];exact Ee (h m _ b q1 q2 q3)
    ·simp only[J,decide_false,Az,if_false];have all:∀k,k<m->kx C (arrOf f) (lo+k)=kx C (arrOf f) (lo+m-1):=λk L=>by have r:=q3 0 k ⋯ L;have t:=q3 k (m-1) ⋯ ⋯;rw[show lo+(m-1)=lo+m-1 by lia]at t;rw[Nat.add_zero]at r;lia
     have same:=vc (C:=C) (xs:=arrOf f) (i:=lo) (j:=lo+m) ⋯ λk h1 h2=>by
      have e:=all (k-lo) ⋯
      rwa [show lo+(k-lo)=k by lia]at e
     refine Ed (rN (Mp (b.mirror (Ae _) ⋯) ⋯ hs (λi j o u=>?_) h));show kx C (PyProof.Rows.mirror _ _ _ _) _<=kx C (PyProof.Rows.mirror _ _ _ _) _;rw[same,same];rcases Bh j m with w|w
     ·rw[all i ⋯,all j w];exact Bo _
     ·have:j=m:=⋯
      subst this;rcases Bh i j with v|v
      ·rw[all i v];exact Ck lt
      ·have:i=j:=⋯
       subst this;exact Bo _
   ·rw[Ea F];have:m=1:=⋯
    subst this;refine Mp b ⋯ hs (λi j o u=>?_) h;rcases Bh i j with v|v
    ·have r:i=0:=⋯
     have t:j=1:=⋯
     subst r t;rw[Nat.add_zero];exact Ck lt
    ·have:i=j:=⋯
     subst this;exact Bo _
theorem Qcf{xs:Array Keyed}{c d:Nat}(hs:c<xs.size)(hd:d<=c)(k:Nat):kx C (bubble xs c d) k=if k=c-d then kx C xs c else if c-d<k/\k<=c then kx C xs (k-1)else kx C xs k:=by
 have e:=getElem?_bubble hs d hd k;split at e<;>rename_i q
 ·rw[Eb q];exact uQ e
 ·rw[Ea q];split at e<;>rename_i f
  ·rw[Eb f];exact uQ e
  ·rw[Ea f];exact uQ e
theorem Qc3{ok:Nat}{Q:Bool->SortSt->Prop}(b:Bs C st₀ st lo)(h1:1<=ok)(Y:ok<=n)(hs:lo+n<=(arrOf st₀).size)(U:SR C st lo ok)(h:∀f,Bs C st₀ f lo->SR C f lo n->Q true f):W C (binarySort' lo n ok) Q st:=by
 rw[binarySort'_eq];refine Ed (wpS_mono (wpS_forRange (I:=λk c f=>c=(none,())/\Bs C st₀ f lo/\SR C f lo (min k n)) (Q:=λc f=>c=(none,())/\Bs C st₀ f lo/\SR C f lo n) ?step ?fin ?init) ?post)
 case post =>
  rintro c f ⟨rfl,q1,q2⟩;exact Ee (h f q1 q2)
 case init=>exact⟨rfl,b,λi j q P=>U i j q ⋯⟩
 case fin =>
  rintro c f ⟨e,q1,q2⟩;refine⟨e,q1,?_⟩
  rwa [show min (max (max ok 1) n) n=n by lia]at q2
 case step =>
  rintro k c f X R ⟨rfl,q1,q2⟩;rw[show min k n=k by lia]at q2;have hz:=q1.size;refine Ed (wpS_mono (wpS_forRange (I:=λx c o=>o=f/\∃l r,c=(none,l,r)/\l<=r/\r<=k/\r-l<=k-x/\(∀i,i<l->kx C (arrOf f) (lo+i)<=kx C (arrOf f) (lo+k))/\(∀i,r<=i->i<k->kx C (arrOf f) (lo+k)<kx C (arrOf f) (lo+i)))
   (Q:=λc o=>o=f/\∃l r,c=(none,l,r)/\l<=k/\(∀i,i<l->kx C (arrOf f) (lo+i)<=kx C (arrOf f) (lo+k))/\(∀i,l<=i->i<k->kx C (arrOf f) (lo+k)<kx C (arrOf f) (lo+i))) ?st2 ?Rv ⟨rfl,0,k,rfl,⋯,⋯,⋯,(λi hi=>⋯),λi h1 h2=>⋯⟩) ?Pq)
  case Rv =>
   rintro c o ⟨rfl,l,r,rfl,g1,g2,g3,g4,g5⟩;have:l=r:=⋯
   subst this;exact⟨rfl,l,l,rfl,g2,g4,g5⟩
  case st2 =>
   rintro x c o _ hx ⟨rfl,l,r,rfl,g1,g2,g3,g4,g5⟩;dsimp only;by_cases u:l≥r
   ·rw[Eb u];have:l=r:=⋯
    subst this;exact Ee ⟨rfl,l,l,rfl,g2,g4,g5⟩
   ·rw[Ea u];refine Ed (yJ q1.ok ⋯ ⋯ ?_);by_cases y:kx C (arrOf o) (lo+k)<kx C (arrOf o) (lo+(l+r) / 2)
    ·simp only[y,decide_true,if_true];exact Ee ⟨rfl,l,(l+r) / 2,rfl,⋯,⋯,⋯,g4,λi u1 u2=>Int.lt_of_lt_of_le y (q2 _ _ u1 u2)⟩
    ·simp only[y,decide_false,Az,if_false];exact Ee ⟨rfl,(l+r) / 2+1,r,rfl,⋯,⋯,⋯,(λi u1=>C1 (q2 i ((l+r) / 2) ⋯ ⋯) (Int.not_lt.mp y)),g5⟩
  case Pq =>
   rintro c o ⟨rfl,l,r,rfl,g1,g2,g3⟩;show W C (do moveDown' (lo+k) (lo+l);pure (ForInStep.yield (none,()))) _ _;rw[moveDown'_eq];have t:lo+k<(arrOf o).size:=⋯
   refine Ed (wpS_modify (Ee ⟨rfl,q1.set (bubble_perm _ _ _) (λi hi=>?_),?_⟩))
   ·rw[getElem?_bubble t _ ⋯,Ea ⋯,Ea ⋯]
   rw[show min (k+1) n=k+1 by lia];intro i j q P;show kx C (bubble (arrOf o) (lo+k) (lo+k-(lo+l))) (lo+i)<=kx C (bubble (arrOf o) (lo+k) (lo+k-(lo+l))) (lo+j);have val:∀i,i<=k->kx C (bubble (arrOf o) (lo+k) (lo+k-(lo+l))) (lo+i)=if i=l then kx C (arrOf o) (lo+k)else if l<i then kx C (arrOf o) (lo+(i-1))else kx C (arrOf o) (lo+i):=λi hi=>by
    rw[Qcf t ⋯];by_cases z:i=l
    ·rw[Eb ⋯,Eb z]
    ·rw[Ea ⋯,Ea z];by_cases F:l<i
     ·rw[Eb ⋯,Eb F,show lo+i-1=lo+(i-1)by lia]
     ·rw[Ea ⋯,Ea F]
   rw[val i ⋯,val j ⋯];by_cases J:i=l
   ·rw[Eb J];by_cases v:j=l
    ·rw[Eb v];exact Bo _
    ·rw[Ea v,Eb ⋯];exact Ck (g3 (j-1) ⋯ ⋯)
   ·rw[Ea J];by_cases L:l<i
    ·rw[Eb L,Ea ⋯,Eb ⋯];exact q2 _ _ ⋯ ⋯
    ·rw[Ea L];by_cases v:j=l
     ·rw[Eb v];exact g2 i ⋯
     ·rw[Ea v];by_cases O:l<j
      ·rw[Eb O];exact q2 _ _ ⋯ ⋯
      ·rw[Ea O];exact q2 _ _ ⋯ ⋯
end
end TS
open PySem PyProof PyProof.Rows
namespace TS
variable{C:cM}
theorem QcE{L L':List Keyed}{lo a n:Nat}(h:∀i:Nat,i<lo->L'[i]?=L[i]?)(b:a+n<=lo):seg L' a n=seg L a n:=by
 apply List.ext_getElem?;intro i;unfold seg;by_cases hi:i<n
 ·rw[Ca hi,Ca hi,Cc,Cc];exact h _ ⋯
 ·rw[List.getElem?_eq_none (by simp;lia),List.getElem?_eq_none (by simp;lia)]
theorem Bs.g{L0:List Keyed}{st₀ st:SortSt}{lo:Nat}(b:Bs C st₀ st lo)(g:G C L0 st₀ lo):G C L0 st lo:=by refine⟨b.kind,b.fine,b.perm.trans g.perm,?_,by have:=b.size;have:=g.le;lia⟩;rw[b.pend];refine g.runs.congr λa n _ c=>QcE (lo:=lo) (λi hi=>?_) c;have:=b.low i hi;simpa using this
theorem SG{L L':List Keyed}{lo n:Nat}(h:L'.drop lo=L.drop lo):seg L' lo n=seg L lo n:=by unfold seg;rw[h]
theorem Runs.pw{pw:Nat}:∀{r:List (Nat×Nat×Nat)}{s e:Nat}(k:Nat),Runs C L r s e->Runs C L (r.modify k λ(a,b,_)=>(a,b,pw)) s e
 | [],_,_,k,h=>by simpa using h
 | (x,n,_)::r,s,e,0,⟨h0,h1,h2,h3⟩=>⟨h0,h1,h2,h3⟩
 | (x,n,_)::r,s,e,k+1,⟨h0,h1,h2,h3⟩=>⟨h0,h1,h2,h3.pw k⟩
theorem G.pw{L0:List Keyed}{st:SortSt}{lo pw:Nat}(g:G C L0 st lo):G C L0 (setPending st ((pendingOf st).modify ((pendingOf st).size-1) λ(st,len,_)=>(st,len,pw))) lo:=by refine⟨g.kind,g.fine,g.perm,?_,g.le⟩;show Runs C (arrOf st).toList ((pendingOf st).modify _ _).toList 0 lo;rw[Array.toList_modify];exact g.runs.pw _
theorem G.push{L0:List Keyed}{st:SortSt}{lo n:Nat}(g:G C L0 st lo)(h1:1<=n)(a:lo+n<=(arrOf st).size)(hs:bx C (seg (arrOf st).toList lo n)):G C L0 (setPending st ((pendingOf st).push (lo,n,0))) (lo+n):=by refine⟨g.kind,g.fine,g.perm,?_,a⟩;show Runs C (arrOf st).toList ((pendingOf st).push (lo,n,0)).toList 0 (lo+n);rw[Array.toList_push];exact Runs.app.mpr ⟨lo,g.runs,rfl,h1,hs,rfl⟩
theorem G.size{L0:List Keyed}{st:SortSt}{lo:Nat}(g:G C L0 st lo):(arrOf st).size=L0.length:=by have:=g.perm.length_eq;simpa using this
theorem SK{L:List Keyed}{r:List (Nat×Nat×Nat)}{e:Nat}(h:Runs C L r 0 e)(a:r.length<=1):bx C (L.take e):=by
  match r,a,h with
  | [],_,h=>cases h;simp[bx]
  | [(x,n,_)],_,⟨_,_,h2,h3⟩ => 
    have:0+n=e:=h3;subst this;simpa [seg]using h2
theorem DC(b:Bool)(k:Nat):(if b=true then k-1 else k)<=k:=by cases b<;>simp
theorem Qaz{L0:List Keyed}{st:SortSt}{Q:Unit->SortSt->Prop}(hS:∀p∈L0,C.S p)(g0:G C L0 st 0)(h:∀e,failedOf e=none->(arrOf e).toList.Perm L0->bx C (arrOf e).toList->Q () e):W C sortRuns' Q st:=by
  rw[sortRuns'_eq];refine Ed (wpS_get ?_);dsimp only;rw[g0.size];generalize hm:minRun' L0.length L0.length 0=j;generalize hsz:L0.length=size;refine Ed (wpS_mono (wpS_forRange
    (I:=λx c e=>∃lo,c=(none,lo)/\G C L0 e lo/\min x size<=lo)
    (Q:=λc e=>c=(none,size)/\G C L0 e size) ?step ?fin ⟨0,rfl,g0,⋯⟩) ?post)
  case fin =>
    rintro c e ⟨lo,rfl,g,q⟩;have a:=g.le;have b:=g.size;obtain rfl:lo=size:=⋯
    exact⟨rfl,g⟩
  case step =>
    rintro x c e _ hx ⟨lo,rfl,g,q⟩;dsimp only;have hz:=g.size;have ae:=g.le;by_cases J:lo≥size
    . rw[Eb J]
      obtain rfl:lo=size:=⋯
      exact Ee ⟨rfl,g⟩
    rw[Ea J];have b0:Bs C e e lo:=⟨g.kind,g.fine,rfl,List.Perm.refl _,λ_ _=>rfl,λp U=>hS p (g.perm.mem_iff.mp U)⟩;refine Ed (kG b0 ⋯ ⋯ λm ab O u P Y=>?_);dsimp only;by_cases t:m<j;rw[Eb t];refine Ed (yQ ?_);refine Ed (Qc3 O u (n:=min (size-lo) j) ⋯ ⋯ Y λf b L=>?_);simp only[Bool.not_true,Az,if_false];have r:1<=min (size-lo) j:=⋯
    have z:lo+min (size-lo) j<=size:=⋯
    generalize min (size-lo) j=n at r z L ⊢
    rotate_left
    rw[Ea t];have z:lo+m<=size:=⋯
    have r:=u;have b:=O;have L:=Y;clear Y O u P t;generalize m=n at r z L ⊢;generalize ab=f at b L ⊢
    all_goals
      have g2:=b.g g;have R:=g2.size;have lH:bx C (seg (arrOf f).toList lo n):=HI ⋯ L;refine Ed (wpS_get ?_);cases hb:(pendingOf f).back? with
      |none=>dsimp only;exact Ed (wpS_modify (Ee ⟨lo+n,rfl,g2.push r ⋯ lH,⋯⟩))
      |some v =>
        obtain⟨s1,X,bd⟩:=v;dsimp only;generalize power' size (2 * s1+X) (2 * s1+X+X+n) size=pw;refine Ed (wpS_mono (wpS_forRange (I:=λ_ c e=>c=(none,())/\G C L0 e lo/\(arrOf e).toList.drop lo=(arrOf f).toList.drop lo) (Q:=λc e=>c=(none,())/\G C L0 e lo/\(arrOf e).toList.drop lo=(arrOf f).toList.drop lo) ?_ (λ_ _ hh=>hh) ⟨rfl,g2,rfl⟩) ?_)
        . rintro y c l _ hy ⟨rfl,g3,t3⟩
          refine Ed (wpS_get ?_);by_cases h1:(pendingOf l).size > 1
          . rw[Eb h1,getElem?_pos (pendingOf l) ((pendingOf l).size-2) ⋯]
            obtain⟨⟨q1,q2,F⟩,eo⟩:∃x,(pendingOf l)[(pendingOf l).size-2]'(by omega)=x:=⟨_,rfl⟩;rw[eo];dsimp only;by_cases ho:F<=pw
            . rw[Eb ho]
              exact Ee ⟨rfl,g3,t3⟩
            . rw[Ea ho]
              refine Ed (FZ hS g3 ⋯ λlD g4 _ t4=>?_);simp only[Bool.not_true,Az,if_false];exact Ee ⟨rfl,g4,t4.trans t3⟩
          . rw[Ea h1]
            exact Ee ⟨rfl,g3,t3⟩
        . rintro c l ⟨rfl,g3,t3⟩
          dsimp only;have ba:=g3.size;refine Ed (wpS_modify (Ed (wpS_modify (Ee ⟨lo+n,rfl,G.push g3.pw r (by show lo+n<=(arrOf l).size;lia) ?_,⋯⟩))));show bx C (seg (arrOf l).toList lo n);rw[SG t3];exact lH
  case post =>
    rintro c e ⟨rfl,g⟩;dsimp only;have hz:=g.size;have ay:=g.runs.le;have av:(pendingOf e).toList.length=(pendingOf e).size:=by simp
    refine Ed (wpS_mono (wpS_forRange (I:=λx c o=>c=(none,())/\G C L0 o size/\(pendingOf o).size+x<=size) (Q:=λc o=>c=(none,())/\G C L0 o size/\(pendingOf o).size<=1) ?_ ?_ ⟨rfl,g,⋯⟩) ?_)
    . rintro x c f _ hx ⟨rfl,g2,U⟩
      refine Ed (wpS_get ?_);by_cases h1:(pendingOf f).size<=1
      . rw[Eb h1]
        exact Ee ⟨rfl,g2,h1⟩
      . rw[Ea h1]
        generalize hi:(if Option.any (λx=>decide (x<Option.elim (pendingOf f)[(pendingOf f).size-2+1]? 0 λx=>x.2.1)) (if (pendingOf f).size-2 > 0 then Option.map (λx=>x.2.1) (pendingOf f)[(pendingOf f).size-2-1]? else none)=true then (pendingOf f).size-2-1 else (pendingOf f).size-2)=i;have hi2:i<=(pendingOf f).size-2:=by rw[<- hi];exact DC _ _
        refine Ed (FZ hS g2 ⋯ λl g3 hq _=>?_);simp only[Bool.not_true,Az,if_false];exact Ee ⟨rfl,g3,⋯⟩
    . rintro c f ⟨rfl,g2,U⟩
      exact⟨rfl,g2,⋯⟩
    . rintro c f ⟨rfl,g2,U⟩
      have R:=g2.size;have s2:=SK g2.runs (by simpa using U);rw[Ci (by simp;lia)]at s2;exact Ee (h f g2.fine g2.perm s2)
open PySem PyProof PyProof.Rows
section
variable{prog:Program}{w:World}{A:Around}{E:Ej}{s:Shared}
def CI(prog:Program)(w:World)(A:Around)(E:Ej)(s:Shared):cM where
 key p:=numOf p.1
 kd:=oneType'
 S p:=∃n t,p.1=.int n t
 prog:=prog
 w:=w
 A:=A
 E:=E
 s:=s
 lt:=by rintro st ⟨_,p⟩ ⟨_,q⟩ Q ⟨n,t,rfl⟩ ⟨k,u,rfl⟩ hk h;rw[lt'_eq];refine Ed (wpS_get ?_);rw[hk];exact Ed (wpS_lift (wpAny_attempt (keyLt'_oneType _ _▸oneLt_int ⟨rfl,Ee h⟩)))
theorem Ew(xs:Array Keyed)(i:Nat):kx (CI prog w A E s) xs i=K xs i:=by unfold kx K;cases xs[i]?<;>rfl
theorem QcA{vs:List Value}{ns:List Int}(hI:IntsAre vs ns):wpAny (model prog w) A (sortRuns'.run (SortSt.mk' oneType' (vs.toArray.zip vs.toArray) #[] 7 none)) (λr s'=>s'=s/\failedOf r.2=none/\(arrOf r.2).Perm (pairsOf vs)/\SortedTo (arrOf r.2) (pairsOf vs).size) E s:=by
 have q:W (CI prog w A E s) sortRuns' (λ_ a=>failedOf a=none/\(arrOf a).Perm (pairsOf vs)/\SortedTo (arrOf a) (pairsOf vs).size) (SortSt.mk' oneType' (vs.toArray.zip vs.toArray) #[] 7 none):=by
  refine Qaz (L0:=(pairsOf vs).toList) (λp U=>hI.intKeys p U) ⟨rfl,rfl,List.Perm.refl _,rfl,Be _⟩ λa f h l=>?_;have c:(arrOf a).Perm (pairsOf vs):=Array.perm_iff_toList_perm.mpr h;refine⟨f,c,λi j b m=>?_⟩;have e:=U7 l b (by rw[c.size_eq];exact m)
  rwa [Ew,Ew]at e
 exact q
def Keeps(h h':Heap)(a:Addr):Prop:=∀b o,b≠a->h.get? b=some o->h'.get? b=some o
theorem Keeps.upd(h:Heap)(a:Addr)(f:Obj->Obj):Keeps h (h.update a f) a:=λb o c e=>by rw[Heap.get?_update_ne _ _ _ _ c];exact e
theorem QcJ{a:Addr}{vs:List Value}{ns:List Int}{n:Nat}{P:PySem.Fin->Shared->Prop}(z:s.heap.get? a=some (seqObj "list" vs.toArray n))(hI:IntsAre vs ns)(hz:vs.length<=sizeLine)
  (h:∀(h':Heap) (out:List Value) (l:List Int) (c:Nat),Keeps s.heap h' a->h'.get? a=some (seqObj "list" out.toArray c)->IntsAre out l->l.Perm ns->l.Pairwise (· <= ·)->P (.done (.ret .none)) { s with heap:=h' }) :
  wpAny (model prog w) A (Builtin.«list.sort» ⟨[.ref a],[]⟩) P E s:=by
 have k1:=Keeps.upd s.heap a (Obj.mapSeq λ_=>#[]);obtain⟨t,g1⟩:∃t,(s.heap.update a (Obj.mapSeq λ_=>#[])).get? a=some (seqObj "list" #[] t):=⟨_,get?_update_seq z (λ_=>#[])⟩;generalize y:s.heap.update a (Obj.mapSeq λ_=>#[])=H1 at k1 g1;have g3:=Ad (seqObj "list" #[] 0) (Ad (seqObj "tuple" vs.toArray 0) g1);have k3:Keeps s.heap ((H1.push (seqObj "tuple" vs.toArray 0)).push (seqObj "list" #[] 0)) a:=λb o r e=>Ad _ (Ad _ (k1 b o r e));have hsz:vs.toArray.size=vs.length:=by simp
 have m:∀f:SortSt,failedOf f=none->(arrOf f).Perm (pairsOf vs)->SortedTo (arrOf f) (pairsOf vs).size->wpAny (model prog w) A (do
   let touched:=(<- seqEpoch a) != t
   Builtin.List.listUpdate (.ref a) λ_=>(arrOf f).map (·.2)
   if let some e:=failedOf f then rule "list.sort.comparison-raised"; throw e
   if touched then rule "list.sort.modified"; raiseError "ValueError" "list modified during sort"
   ret .none) P E { s with heap:=(H1.push (seqObj "tuple" vs.toArray 0)).push (seqObj "list" #[] 0) }:=by
  intro f v q x;obtain⟨l,L,O,Q⟩:=sorted_out hI q x;refine C9 (seqEpoch_at g3 rfl ?_);have oz:((arrOf f).map (·.2)).size<=sizeLine+1:=by rw[Array.size_map,q.size_eq,pairsOf_size];lia
  refine C9 (listUpdate_at g3 rfl ?_ (Be _) oz);rw[v];simp only[bne_self_eq_false,Az,if_false];obtain⟨u,e⟩:∃u,(((H1.push (seqObj "tuple" vs.toArray 0)).push (seqObj "list" #[] 0)).update a (Obj.mapSeq λ_=>(arrOf f).map (·.2))).get? a=some (seqObj "list" ((arrOf f).map (·.2)) u):=⟨_,get?_update_seq g3 λ_=>(arrOf f).map (·.2)⟩;refine Ec (h _ ((arrOf f).map (·.2)).toList l u (λb o r e=>Keeps.upd _ a _ b o r (k3 b o r e)) ?_ L O Q);rw[Array.toArray_toList];exact e
 rw[list_sort_plain];refine C9 (listItems_at z rfl (C9 (listUpdate_at z rfl ?_ (by rw[hsz];exact hz) (Be _))));rw[y];refine C9 (seqEpoch_at g1 rfl (C9 (wpAny_newTuple ?_ (by simpa using hz))));refine C9 (wpAny_newList (wpAny_holding ?_) (Be _));show wpAny (model prog w) A _ P E { s with heap:=(H1.push (seqObj "tuple" vs.toArray 0)).push (seqObj "list" #[] 0) };dsimp only;by_cases h2:vs.toArray.size<2
 ·rw[Eb h2,Eb h2];refine C9 (Ec ?_);rw[StateT.run_pure];refine C9 (Ec (m (SortSt.mk' general' (vs.toArray.zip vs.toArray) #[] 7 none) rfl (Array.Perm.refl _) λi j F I=>?_));obtain rfl:i=j:=by rw[pairsOf_size]at I;lia
  exact Bo _
 ·rw[Ea h2,Ea h2];have J:keyKind' vs.toArray=pure oneType':=by
   match vs,hI,h2 with
   | [],_,h2=>simp at h2
   | [_],_,h2=>simp at h2
   |_::_::_,hI,_=>exact keyKind_ints hI
  rw[J];refine C9 (Ec (C9 (wpAny_mono (QcA hI) ?_ λ_ _ e=>e)));rintro⟨⟨⟩,f⟩ s' ⟨rfl,v,q,x⟩;exact m f v q x
theorem f9{x:Value}{ns:List Int}{Q:Ej}
  (hc:∀(R:List Value->Shared->Prop),(∀(h':Heap)(f:Nat)(vs:List Value),IntsAre vs ns->vs.length<=sizeLine->(∀b o,s.heap.get? b=some o->h'.get? b=some o)->R vs { s with heap:=h',toks:=f })->wpAny (model prog w) A.in1 (collect x) R E s)
  (h:∀(h1 h':Heap) (f:Nat) (out:List Value) (a:List Int) (c:Nat),(∀b o,s.heap.get? b=some o->h1.get? b=some o)->(∀b o,h1.get? b=some o->h'.get? b=some o)->h'.get? h1.objs.size=some (seqObj "list" out.toArray c)->IntsAre out a->a.Perm ns->a.Pairwise (· <= ·)->Q (.ref h1.objs.size) { s with heap:=h',toks:=f }) :
  wpAny (model prog w) A (call (.builtin "sorted") [x]) Q E s:=by
 refine Calls.call_function_entry kind_sorted plain_sorted entry_sorted (args_sorted1 _) ?_;unfold Builtin.«sorted»;refine C9 (m:=checkCount "sorted" 1 1 _) (Ec (C9 (hc _ λh1 f vs hI hz k1=>?_)));refine C9 (wpAny_newList ?_ hz);have g:(h1.push (seqObj "list" vs.toArray 0)).get? h1.objs.size=some (seqObj "list" vs.toArray 0):=Av _ rfl;refine C9 (wpAny_holding (wpAny_call_entry slot_list_sort ⟨_,g,rfl⟩ entry_list_sort (QcJ g hI hz λh2 out a c k2 g2 i j l=>⟨_,rfl,?_⟩) (args_list_sort _)));refine Ec ⟨_,rfl,h h1 h2 f out a c k1 (λb o e=>k2 b o (Bf (Ap e)) (Ad _ e)) g2 i j l⟩
end
end TS
namespace D
open PySem PySem.Spec PyProof.Rows L2
variable{X:Cx}
def dB(ns:List Int):List Int:=ns.mergeSort (λa b=>decide (a<=b))
def gK(ns:List Int):(dB ns).Perm ns:=List.mergeSort_perm _ _
theorem QaA(ns:List Int):(dB ns).Pairwise (· <= ·):=by have:=List.pairwise_mergeSort (le:=λa b:Int=>decide (a<=b)) (λa b c h1 h2=>by simp at *;lia) (λa b=>by simp;lia) ns;exact this.imp λh=>by simpa using h
theorem U8{ns c:List Int}(p:c.Perm ns)(h:c.Pairwise (· <= ·)):c=dB ns :=
 (p.trans (gK ns).symm).eq_of_pairwise (λa b _ _ h1 h2=>Int.le_antisymm h1 h2) h (QaA ns)
theorem K6:∀{ns:List Int}{us:List Value},Vals (ns.map V.int) us->IntsAre us ns
 | [],_,.nil=>.nil
 |n::ns,_,.cons ⟨t,e⟩ r=>by subst e;exact .cons n t (K6 r)
theorem qw:∀{us:List Value}{ns:List Int},IntsAre us ns->Vals (ns.map V.int) us
 |_,_,.nil=>.nil
 |_,_,.cons n t r=>.cons ⟨t,rfl⟩ (qw r)
theorem Lk:∀{us:List Value}{ns:List Int},us.length=ns.length->(∀(j:Nat)(u:Value)(n:Int),us[j]?=some u->ns[j]?=some n->∃t,u=.int n t)->IntsAre us ns
  | [],[],_,_=>.nil
  |u::us,n::ns,c,h=>by obtain⟨t,rfl⟩:=h 0 u n rfl rfl;exact .cons n t (Lk (by simpa using c) λj u n a b=>h (j+1) u n a b)
theorem Ld:∀{kvs:List (Key×V)}{vs:List (Key×Value)},KV kvs vs->vs.map (·.1)=kvs.map (·.1)
 |_,_,.nil=>rfl
 |_,_,.cons a b=>by rw[Bb,Bb,Ld b,a.1]
def Ij(K:Aa)(H:Hp)(p:Addr)(ns:List Int):Prop:=SqL K H p (ns.map .int)∨∃kvs:List (Key×V),H p=some (.dK kvs)/\kvs.map (·.1)=ns.map .inl
theorem ud(hc:X.calm=true):CallR X (.builtin "sorted") (λxs H Q=>∃p ns,xs=[.ref p]/\Ij X.K H p ns/\∀l,H l=none->Q (.ref l) (upd H l (.lst ((dB ns).map .int)))):=by
 intro O9 s σ H xs us Q I r h;obtain⟨p,ns,rfl,f,q⟩:=h;have hh:X.A.handled=none:=I.ok.hd hc;obtain⟨u,rfl,rx⟩:=Kf r;cases rx;have hz:ns.length<=sizeLine:=by
  rcases f with f|⟨kvs,f,e⟩
  ·have:=(I.list f).choose_spec.2.2;simpa using this
  ·have a:=(V5 I.hok f).1;have b:=congrArg List.length e;simp at b;lia
 refine TS.f9 (ns:=ns) (λR U=>?_) λh1 h' y out ab c k1 k2 g o1 o2 o3=>?_
 ·rcases f with f|⟨kvs,f,e⟩
  ·obtain⟨m,r',pl,z⟩:=I.list f;have hI:=K6 r';have hl:m.length=ns.length:=by have:=r'.length;simpa using this.symm
   have R1:=U ((s.heap.push (seqObj "list" #[] 0)).update s.heap.objs.size (Obj.mapSeq (· ++ m.toArray))) s.toks m hI ⋯ λb o e=>by have F:b<s.heap.objs.size:=Ap e;rw[Heap.get?_update_ne _ _ _ _ (Bf F)];exact Ad _ e
   exact collect_list pl.isList R1 ⋯
  ·obtain⟨_,lo,vs,kv,hd⟩:=V5 I.hok f;obtain⟨ep,C⟩:=hd.dictAt;have Y:vs.map (·.1)=ns.map Sum.inl:=(Ld kv).trans e;have J:vs.length=ns.length:=by have:=congrArg List.length Y;simpa using this
   refine PySem.W.kdu_collect (PySem.W.kdl_dict (knd:=Zz X.prog X.w) (kvs:=vs) (ep:=ep) lo) hh C ⋯ λh1 y acc k1 L=>U h1 y acc.toList (Lk ?_ λj u n a b=>?_) ?_ k1
   ·rw[Cj,L.1,J]
   ·obtain⟨k,x,e1,e2⟩:=L.2 j u (by simpa using a);have:k=Sum.inl n:=by have P:=congrArg (λl=>l[j]?) Y;simp[e1,b]at P;exact P
    subst this;rcases ZV (show Uj (Sum.inl n) u=true from e2)with ⟨i,t,h1,h2⟩|⟨_,_,h1,_⟩
    ·cases h1;exact⟨t,h2⟩
    ·cases h1
   ·rw[Cj,L.1];lia
 ·obtain rfl:=U8 o2 o3;have O:Inv X O9 σ H { s with heap:=h1,toks:=y }:=I.kept k1;have v:(dB ns).length<=sizeLine:=by rw[(gK ns).length_eq];exact hz
  exact⟨.ref h1.objs.size,_,O.laid (t':=y) k2 (Ae _) (show ObjOk X.prog X.w _ h' _ (.lst ((dB ns).map .int))from⟨by simpa using v,out,c,qw o1,g⟩),rfl,q _ (O.hok.fresh (Ae _))⟩
def KZ:List DV->Option (List Int)
 | []=>some []
 |.int n::r=>(KZ r).map (n :: ·)
 |_=>none
def xQ:List (Key×DV)->Option (List Int)
 | []=>some []
 | (.inl n,_)::r=>(xQ r).map (n :: ·)
 |_=>none
def m8{α:Type}:Option α->M α
 |some d=>pure d
 |none=>failure
theorem yN{α:Type}{o:Option α}{d:α}{U a:Hs}(h:m8 o U=some (d,a)):o=some d/\U=a:=by
 cases o with
 |none=>cases h
 |some x=>obtain⟨rfl,rfl⟩:=Qk h;exact⟨rfl,rfl⟩
def wQ:DV->M (List Int)
  |.lst ds=>m8 (KZ ds)
  |.ref n=>do
    match <- ZF n with
    |.lst ds=>m8 (KZ ds)
    |.aB kvs=>m8 (xQ kvs)
    |_=>failure
  |_=>failure
def Vp:List DV->M DV:=pA λd=>do let ns <- wQ d;pure (.lst ((dB ns).map .int))
variable{K:Aa}{ρ:Et}{B:Er}{H:Hp}
theorem yv:∀{ds:List DV}{ns:List Int}{xs:List V},KZ ds=some ns->ak K ρ B H ds xs->xs=ns.map .int
  | [],_,xs,h,r=>by cases h;exact r
  |.int n::ds,ns,xs,h,⟨x,q,e,a,b⟩=>by obtain⟨c,h1,rfl⟩:=Cg.mp (show(KZ ds).map (n :: ·)=some ns from h);rw[e,a.aZ,yv h1 b];rfl
theorem K5:∀ns:List Int,ak K ρ B H (ns.map .int) (ns.map .int)
 | []=>rfl
 |n::ns=>⟨_,_,rfl,Xa,K5 ns⟩
theorem Ui:∀{kvs:List (Key×DV)}{ns:List Int},xQ kvs=some ns->kvs.map (·.1)=ns.map .inl
  | [],_,h=>by cases h;rfl
  | (.inl n,d)::kvs,ns,h=>by obtain⟨a,h1,rfl⟩:=Cg.mp (show(xQ kvs).map (n :: ·)=some ns from h);rw[Bb,Bb,Ui h1]
theorem yt(q:X.calm=true):CallR X (.builtin "sorted") (iT X.K Vp):=by
  intro i s σ H xs us Q I r h;obtain⟨ρ,B,U,ds,d,t,W,F,e,k⟩:=h;obtain⟨x,rfl,e⟩:=yM e;obtain⟨ns,hp1,b,j⟩:=Qf e;obtain⟨rfl,rfl⟩:=Qk j;obtain⟨v,rfl,c⟩:=F.b_;have key:U=hp1/\∃p,v=.ref p/\Ij X.K H p ns:=by
    cases x with
    |lst O=>obtain⟨h1,rfl⟩:=yN b;obtain⟨a,ys,rfl,_,L,l⟩:=c.bK;exact⟨rfl,a,rfl,.inl (yv h1 l▸L)⟩
    |ref n =>
      obtain⟨o,u,m,e4⟩:=Qf (show(ZF n >>= λo=>(match o with|.lst ds=>m8 (KZ ds)|.aB kvs=>m8 (xQ kvs)|_=>failure:M (List Int))) U=some (ns,hp1)from b);obtain⟨f,rfl⟩:=ZB m;cases o with
      |lst O=>obtain⟨h1,rfl⟩:=yN e4;obtain⟨a,rfl,_,ys,h2,z⟩:=au.aY W c f;exact⟨rfl,a,rfl,.inl (yv h1 z▸SqL.of h2)⟩
      |aB kvs=>obtain⟨h1,rfl⟩:=yN e4;obtain⟨a,rfl,_,J⟩:=au.aY W c f;obtain⟨ys,h2,C⟩:=J.aB;exact⟨rfl,a,rfl,.inr ⟨ys,h2,C.to.1.trans (Ui h1)⟩⟩
      |ins _ _=>cases e4
    |tup _=>cases b
    |non=>cases b
    |bl _=>cases b
    |int _=>cases b
    |str _=>cases b
  obtain⟨rfl,p,rfl,y⟩:=key;exact ud q i s σ H _ us Q I r ⟨p,ns,rfl,y,ji W (K5 _) k⟩
abbrev bJ(K:Aa)(c:Str)(C:Addr):Prop:=PySem.W.nsIn K mainGlobals c=some (some (.ref C))
theorem bJ.uniq{K:Aa}{c:Str}{C C':Addr}(h:bJ K c C)(h':bJ K c C'):C=C':=by have e:=h.symm.trans h';cases e;rfl
structure qE(K:Aa)(c f:Str):Prop where
 ex:∃C,bJ K c C/\Cls K C/\NoAttr K C f
structure XR(P:Program)(w:World)(K:Aa)(mg:Em)(O8:Heap)(c m:Str)(k n:Nat)(F:Eu):Prop where
 ex:∃(C f:Addr)(fd:FuncData)(ps:List Str),bJ K c C/\Cls K C/\kr K C m f/\zA P w K mg O8 CX0 k f fd ps (iJ K n F)/\Binds K fd ps []
structure pH(P:Program)(w:World)(K:Aa)(mg:Em)(O8:Heap)(c:Str)(k n:Nat)(F:Eu):Prop where
 ex:∃(C f:Addr)(fd:FuncData)(ps:List Str),bJ K c C/\mg c=some (.ref C)/\Mk K C f/\zA P w K mg O8 CX0 k f fd ps (iJ K n F)/\Binds K fd ps []
section
variable{K:Aa}{ρ:Et}{B:Er}{H:Hp}{U:Hs}
abbrev bN(K:Aa)(ρ:Et)(B:Er)(H:Hp):List (Str×DV)->List (Str×V)->Prop:=Paired λp q=>p.1=q.1/\au K ρ B H p.2 q.2
theorem Ir:∀{fs:List (Str×DV)}{xs:List (Str×V)},xs.map (·.1)=fs.map (·.1)->ak K ρ B H (fs.map (·.2)) (xs.map (·.2))->bN K ρ B H fs xs
  | [],[],_,_=>.nil
  | [],_::_,e,_=>by simp at e
  |_::_,[],e,_=>by simp at e
  |p::fs,q::xs,e,r=>by simp only[Bb,List.cons.injEq]at e;simp only[Bb]at r;unfold ak at r;obtain⟨x,t,a,h1,h2⟩:=r;simp only[List.cons.injEq]at a;obtain⟨rfl,rfl⟩:=a;exact .cons ⟨e.1.symm,h1⟩ (Ir e.2 h2)
theorem bN.to{fs:List (Str×DV)}{xs:List (Str×V)}(r:bN K ρ B H fs xs):xs.map (·.1)=fs.map (·.1)/\ak K ρ B H (fs.map (·.2)) (xs.map (·.2)):=by
 induction r with
 |nil=>exact⟨rfl,ak.nil⟩
 |cons h _ a=>exact⟨by simp[a.1,h.1],by simpa using ak.cons h.2 a.2⟩
theorem bN.look{fs:List (Str×DV)}{xs:List (Str×V)}(r:bN K ρ B H fs xs)(f:Str):(fs.lookup f=none/\xs.lookup f=none)∨∃d v,fs.lookup f=some d/\xs.lookup f=some v/\au K ρ B H d v:=by
  induction r with
  |nil=>exact .inl ⟨rfl,rfl⟩
  |@cons p q _ _ h _ b =>
    obtain⟨a,c⟩:=p;obtain⟨i,j⟩:=q;obtain⟨h1,h2⟩:=h;have h1:a=i:=h1;subst h1;cases e:f==a with
    |true=>exact .inr ⟨c,j,by simp[List.lookup,e],by simp[List.lookup,e],h2⟩
    |false=>simpa [List.lookup,e]using b
def Xw(f:Str)(d:DV):List (Str×DV)->List (Str×DV)
 | []=>[(f,d)]
 | (g,x)::r=>if g=f then (g,d)::r else (g,x)::Xw f d r
theorem bN.put(r:bN K ρ B H fs xs)(f:Str)(rd:au K ρ B H d v):bN K ρ B H (Xw f d fs) (YZ f v xs):=by
  induction r with
  |nil=>exact .cons ⟨rfl,rd⟩ .nil
  |@cons p q _ _ h t b =>
    obtain⟨a,i⟩:=p;obtain⟨c,j⟩:=q;obtain⟨h1,h2⟩:=h;have h1:a=c:=h1;subst h1;unfold Xw YZ;by_cases e:a=f
    . rw[Eb e,Eb e];exact .cons ⟨rfl,rd⟩ t
    . rw[Ea e,Ea e];exact .cons ⟨rfl,h2⟩ b
def bN.len{fs:List (Str×DV)}{xs:List (Str×V)}(r:bN K ρ B H fs xs):fs.length=xs.length:=Paired.length r
def bN.gs(g:Gs K ρ B H ρ' B' H')(r:bN K ρ B H fs xs):bN K ρ' B' H' fs xs:=L2.Paired.mapP r λ_ _ h=>⟨h.1,au.gs g _ _ h.2⟩
theorem bf.ins{a:Addr}{c:Str}(h:bf K ρ B H a (.ins c fs)):∃C b xs,bJ K c C/\H a=some (.ins C b xs)/\bN K ρ B H fs xs:=by obtain⟨C,b,xs,i,e,f,j⟩:=h;exact⟨C,b,xs,i,e,Ir f j⟩
def bN.iw{a C b:Addr}{c:Str}(f:bJ K c C)(r:bN K ρ B H fs xs)(e:H a=some (.ins C b xs)):bf K ρ B H a (.ins c fs):=⟨C,b,xs,f,e,r.to.1,r.to.2⟩
theorem QeS{n:Nat}{a C b:Addr}{c:Str}(W:aM K ρ B U H)(i:ρ[n]?=some a)(f:bJ K c C)(e:H a=some (.ins C b xs))(r:bN K ρ B H fs' xs'):Gr K ρ B H ρ B (upd H a (.ins C b xs'))/\aM K ρ B (U.set n (.ins c fs')) (upd H a (.ins C b xs')):=by have g:Gr K ρ B H ρ B (upd H a (.ins C b xs')):=Gr.dR i e;exact⟨g,W.dR (o':=.ins C b xs') (v:=.ins c fs') i e ((r.gs (g.gs W.rb)).iw f Q3)⟩
end
def eN{α:Type}(c:Str)(x:DV)(k:Nat->List (Str×DV)->M α):M α:=match x with
  |.ref n=>do
    match <- ZF n with
    |.ins a fs=>do QB (decide (a=c));k n fs
    |_=>failure
  |_=>failure
theorem xT{α:Type}{c:Str}{x:DV}{d:α}{k:Nat->List (Str×DV)->M α}{U a:Hs}(h:eN c x k U=some (d,a)):∃n fs,x=.ref n/\U[n]?=some (.ins c fs)/\k n fs U=some (d,a):=by
  cases x with
  |ref n =>
    obtain⟨o,hp1,f,b⟩:=Qf (show(ZF n >>= λo=>(match o with|.ins e fs=>do QB (decide (e=c));k n fs|_=>failure:M α)) U=some (d,a)from h);obtain⟨i,rfl⟩:=ZB f;cases o with
    |ins e fs=>obtain⟨_,m,e4,j⟩:=Qf b;obtain⟨l,rfl⟩:=QM e4;obtain rfl:=Eg l;exact⟨n,fs,rfl,i,j⟩
    |lst _=>cases b
    |aB _=>cases b
  |non=>cases h
  |bl _=>cases h
  |int _=>cases h
  |str _=>cases h
  |tup _=>cases h
  |lst _=>cases h
def j7(c f:Str)(x:DV):M DV:=eN c x λ_ fs=>Yz (fs.lookup f)
def xo(c f:Str)(x d:DV):M Unit:=eN c x λn fs=>do QB (decide (fs.length<1000));xq n (.ins c (Xw f d fs))
def QN(c f:Str)(g:aF):aF:=λenv=>do let x <- g env;j7 c f x
def Zf(c f:Str)(a b:aF):aD:=λenv=>do let y <- b env;let x <- a env;xo c f x y;pure (.nx,env)
def Yx(c f:Str)(e:DV->DV->M DV)(a b:aF):aD:=λenv=>do let x <- a env;let v <- j7 c f x;let y <- b env;let z <- e v y;xo c f x z;pure (.nx,env)
def jv:DV->DV->M DV
 |.int i,.int j=>pure (.int (i+j))
 |_,_=>failure
def Ka:DV->DV->M DV
 |.int i,.int j=>pure (.int (i-j))
 |_,_=>failure
def Qz(c m:Str)(n:Nat)(F:Eu)(a:aF)(fa:cu):aF:=λenv=>do
 let x <- a env
 eN c x λ_ fs=>QB (fs.lookup m).isNone
 let ds <- fa env
 QB (decide (ds.length+1=n))
 F (x::ds)
def J6(c:Str)(n:Nat)(F:Eu)(fa:cu):aF:=λenv=>do
 let ds <- fa env
 QB (decide (ds.length+1=n))
 let x <- X0 (.ins c [])
 let r <- F (x::ds)
 match r with
 |.non=>pure x
 |_=>failure
section
variable{X:Cx}{o e value:Expr}{c f m:Str}{pos pos' tpos apos:Pos}{fo fv:aF}
theorem uI{K:Aa}{H:Hp}{U b:Hs}{v:V}(W:aM K ρ B U H)(r:au K ρ B H x v)(h:j7 c f x U=some (d,b)):U=b/\∃a C j xs u,v=.ref a/\bJ K c C/\H a=some (.ins C j xs)/\xs.lookup f=some u/\au K ρ B H d u:=by
 obtain⟨n,fs,rfl,q,t⟩:=xT h;obtain⟨l,rfl⟩:=jn t;obtain⟨a,rfl,i,I⟩:=au.aY W r q;obtain⟨C,j,xs,y,e,F⟩:=I.ins;rcases F.look f with ⟨z,_⟩|⟨d',u,z,L,J⟩
 ·rw[l]at z;cases z
 ·rw[l]at z;cases z;exact⟨rfl,a,C,j,xs,u,rfl,y,e,L,J⟩
theorem gG{K:Aa}{H:Hp}{v y:V}{z:Unit}(W:aM K ρ B U H)(r:au K ρ B H x v)(rd:au K ρ B H d y)(h:xo c f x d U=some (z,hp')):∃a C b xs,v=.ref a/\bJ K c C/\H a=some (.ins C b xs)/\xs.length<1000/\Gr K ρ B H ρ B (upd H a (.ins C b (YZ f y xs)))/\aM K ρ B hp' (upd H a (.ins C b (YZ f y xs))):=by obtain⟨n,fs,rfl,t,u⟩:=xT h;obtain⟨_,hp1,F,e4⟩:=Qf u;obtain⟨I,rfl⟩:=QM F;cases e4;obtain⟨a,rfl,i,J⟩:=au.aY W r t;obtain⟨C,b,xs,j,e,l⟩:=J.ins;obtain⟨g,q⟩:=QeS W i j e (l.put f rd);exact⟨a,C,b,xs,rfl,j,e,by rw[<- l.len];exact Eg I,g,q⟩
theorem QH(r:qE X.K c f)(y:DE X o fo)(q:attributeBase o f X.env (eval o X.env)=eval o X.env:=by rfl):DE X (.Attribute o f pos) (QN c f fo) :=
 L2.PE.imp (MV y q) λσ H Q b=>by obtain⟨Z,env,ρ,B,U,d,z,S,e,k⟩:=b;obtain⟨x,hp1,j,l⟩:=Qf e;refine tD.run S j λv ρ1 B1 H1 g1 S1 J=>?_;obtain⟨rfl,a,C,i,xs,u,rfl,I,n,t,L⟩:=uI S1.wo J l;obtain⟨O,F,h,na⟩:=r.ex;obtain rfl:=I.uniq F;exact⟨a,C,i,xs,u,rfl,n,h,na,t,k u ρ1 B1 H1 g1 S1.wo L⟩
theorem Zr(F:qE X.K c f)(J:DE X o fo)(Q:DE X value fv)(hs:swapsWith value (some (.Attribute o f pos')) pos.line X.env=pure false:=by rfl):DS X (.Assign [.Attribute o f pos'] value pos) (Zf c f fo fv) :=
 L2.PS.imp (Md J Q hs) λD σ H h=>by obtain⟨Z,env,ρ,B,U,fl,b,L,S,e,k⟩:=h;obtain⟨y,hp1,l,e⟩:=Qf e;obtain⟨x,O,n,e⟩:=Qf e;obtain⟨z,P,r,e⟩:=Qf e;obtain⟨q,rfl⟩:=Qk e;cases q;refine tD.run S l λu ρ1 B1 H1 g1 S1 r1=>tD.run S1 n λv ρ2 B2 H2 g2 S2 r2=>?_;obtain⟨a,C,j,xs,rfl,Y,t,I,g,W⟩:=gG S2.wo r2 (au.grow S1.wo.rb g2 _ _ r1) r;obtain⟨C',R,i,na⟩:=F.ex;obtain rfl:=Y.uniq R;exact⟨a,C,j,xs,rfl,t,i,na,I,k σ ρ2 B2 _ ((g1.trans (g2.trans g)).gs S.wo.rb) (S2.grow g W)⟩
theorem yz(hk:qE X.K c f)(ho:DE X o fo)(hv:DE X value fv):DS X (.AugAssign (.Attribute o f tpos) .Add value pos) (Yx c f jv fo fv) :=
 L2.PS.imp (Qcv ho hv BE) λD σ H I=>by
  obtain⟨Z,env,ρ,B,U,fl,n,ab,S,e,k⟩:=I;obtain⟨x,hp1,O,e⟩:=Qf e;obtain⟨v,ae,P,e⟩:=Qf e;obtain⟨y,av,Q,e⟩:=Qf e;obtain⟨z,cZ,e4,e⟩:=Qf e;obtain⟨_,lJ,R,e⟩:=Qf e;obtain⟨q,rfl⟩:=Qk e;cases q;refine tD.run S O λvx ρ1 B1 H1 g1 S1 t=>?_;obtain⟨rfl,a,C,L,xs,u,rfl,r,Y,hl,ru⟩:=uI S1.wo t P;obtain⟨C',lF,J,na⟩:=hk.ex;obtain rfl:=r.uniq lF;refine⟨a,C,L,xs,u,rfl,Y,J,na,hl,tD.run S1 Q λw ρ2 B2 H2 g2 S2 r2=>?_⟩;have oG:=au.grow S1.wo.rb g2 _ _ ru;have j:=au.grow S1.wo.rb g2 _ _ t;unfold jv at e4;split at e4
  ·obtain⟨rfl,rfl⟩:=Qk e4;refine⟨_,_,oG.aZ,r2.aZ,?_⟩;obtain⟨a',C2,b,l,q1,F,h,i,g,W⟩:=gG S2.wo j Xa R;cases q1;obtain rfl:=F.uniq r;exact⟨b,l,h,i,k σ ρ2 B2 _ ((g1.trans (g2.trans g)).gs S.wo.rb) (S2.grow g W)⟩
  ·cases e4
theorem QdQ{C:Addr}{n:Nat}{F:Eu}(nc:bJ X.K c C)(h:tD X.K (Qz c m n F fo fa) σ H Q):wN C m (iJ X.K n F) [] E0 (tD X.K fo) (fH X.K fa) σ H Q:=by
 obtain⟨Z,env,ρ,B,U,d,b,S,e,k⟩:=h;obtain⟨x,hp1,y,e⟩:=Qf e;obtain⟨_,R,I,e⟩:=Qf e;obtain⟨ds,j,J,e⟩:=Qf e;obtain⟨_,cZ,e4,O⟩:=Qf e;obtain⟨P,rfl⟩:=QM e4;refine tD.run S y λv ρ1 B1 H1 g1 S1 q=>?_;obtain⟨i,fs,rfl,w1,w2⟩:=xT I;obtain⟨l,rfl⟩:=QM w2;obtain⟨a,rfl,_,ro⟩:=au.aY S1.wo q w1;obtain⟨C',u,xs,Y,L,rf⟩:=ro.ins;obtain rfl:=Y.uniq nc;have hx:xs.lookup m=none:=by
  rcases rf.look m with ⟨_,z⟩|⟨_,_,z,_,_⟩
  ·exact z
  ·rw[z]at l;cases l
 refine⟨a,u,xs,rfl,L,hx,fH.run S1 J λvs ρ2 t H2 g2 S2 r=>?_⟩;refine⟨?_,ρ2,t,j,_,d,b,S2.wo,?_,O,k.after (g1.trans g2)⟩
 ·rw[Bt,Ba,<- r.length];exact Eg P
 ·rw[Bt];exact ak.cons (au.grow S1.wo.rb g2 _ _ q) r
theorem ZD{k j n:Nat}{F:Eu}{es:List Expr}{pl:Sem Bool}(h:XR X.prog X.w X.K X.mg X.O8 c m j n F)(v:Room k X.A)(r:j<=k)(hx:YR CX0 X E0)(u:DE X o fo)(i:DA X (e::es) fa)
  (hst:starEach (e::es) X.env=(false,eval e X.env)::starEach es X.env:=by rfl) (hpl:(backTo pos (starEach es X.env)).any (·.1)=false:=by rfl)
  (ht:eval (.Call (.Attribute o m apos) (e::es) [] pos) X.env=(do
   let ov <- eval o X.env
   standAt apos.atName
   let (f,first) <- holding [ov] (getMethod ov m pl)
   callWith pos f first (backTo pos (starEach (e::es) X.env)) (backToKw pos (keywordEach [] X.env))):=by rfl):DE X (.Call (.Attribute o m apos) (e::es) [] pos) (Qz c m n F fo fa):=by
 obtain⟨C,g,fd,ps,x,b,t,a,l⟩:=h.ex;exact L2.PE.imp (RY (pl:=pl) u b t a (v.mono r) l .nil hx i hst hpl ht) λσ H Q q=>QdQ x q
theorem Zp{k j n:Nat}{F:Eu}{pl:Sem Bool}(h:XR X.prog X.w X.K X.mg X.O8 c m j n F)(hr:Room k X.A)(hj:j<=k)(hx:YR CX0 X E0)(ho:DE X o fo)
  (ht:eval (.Call (.Attribute o m apos) [] [] pos) X.env=(do
   let ov <- eval o X.env
   standAt apos.atName
   let (f,first) <- holding [ov] (getMethod ov m pl)
   callWith pos f first (backTo pos (starEach [] X.env)) (backToKw pos (keywordEach [] X.env))):=by rfl):DE X (.Call (.Attribute o m apos) [] [] pos) (Qz c m n F fo Ql):=by
 obtain⟨C,g,fd,ps,nc,y,hm,u,Y⟩:=h.ex;refine L2.PE.imp (Qd6 (pl:=pl) ho y hm u (hr.mono hj) Y .nil hx ht) λσ H Q q=>?_;obtain⟨Z,env,ρ,B,U,d,b,S,e,k⟩:=q;obtain⟨x,hp1,J,e⟩:=Qf e;obtain⟨_,ab,L,e⟩:=Qf e;obtain⟨ds,ae,O,e⟩:=Qf e;obtain⟨_,cZ,e4,R⟩:=Qf e;obtain⟨hl,rfl⟩:=QM e4;obtain⟨rfl,rfl⟩:=Qk O;refine tD.run S J λv ρ1 t H1 g1 S1 r=>?_;obtain⟨i,fs,rfl,w1,w2⟩:=xT L;obtain⟨l,rfl⟩:=QM w2;obtain⟨a,rfl,_,ro⟩:=au.aY S1.wo r w1;obtain⟨C',I,xs,lF,P,rf⟩:=ro.ins;obtain rfl:=lF.uniq nc;have hx:xs.lookup m=none:=by
  rcases rf.look m with ⟨_,z⟩|⟨_,_,z,_,_⟩
  ·exact z
  ·rw[z]at l;cases l
 exact⟨a,I,xs,rfl,P,hx,Eg hl,ρ1,t,hp1,_,d,b,S1.wo,ak.cons r ak.nil,R,k.after g1⟩
theorem Qcz{k:Nat}{C g:Addr}{b:Ek}{σ:St}{H:Hp}{s:Shared}{Q:VK}{us:List Value}{vs:List V}(M:Mk X.K C g)(F:zA X.prog X.w X.K X.mg X.O8 CX0 k g fd ps sp)(P:Room (k+1) X.A)(O:Binds X.K fd ps [])
    (hx:YR CX0 X E0) (I:Inv X b σ H s) (r:Vals vs us)
    (h:∀x a,H x=none->H a=none->a≠x->X.K.lookup x=none->sp (.ref x::vs) (upd (upd H a (.own x)) x (.ins C a [])) (λv H2=>v=.non/\Q (.ref x) H2) E0) :
    wpAny (model X.prog X.w) X.A (call (.ref C) us) (EP X b σ Q) X.xe s:=by
  have kf:X.K.lookup (s.heap.objs.size+1)=none:=by
    cases q:X.K.lookup (s.heap.objs.size+1)with
    |none=>rfl
    |some o=>exact absurd (Ap (I.kIn _ _ q)) (Nat.not_lt.mpr (Nat.le_succ _))
  have j:=h _ _ (I.hok.fresh (Nat.le_succ _)) (I.hok.fresh (Ae _)) (Bf (C4 _)) kf;have J:=Inv.made (C:=C) I;have l:Vals (V.ref (s.heap.objs.size+1)::vs) (Value.ref (s.heap.objs.size+1)::us):=.cons rfl r;have R:((Value.ref (s.heap.objs.size+1)::us)++[]).length=ps.length:=by rw[Bt,<- l.length];exact F.len _ _ _ _ j
  have i:=O _ (Value.ref (s.heap.objs.size+1)::us) J.kIn R;rw[Bt]at i;refine wpAny_call (QdO (f:=g) I.kIn M.makes M.init (beq_iff_eq.mp M.fn) (codeAny_mono (F.run _ X.stack _ _ ⟨Value.ref (s.heap.objs.size+1)::us,[]⟩ _ _ _ E0 (P.make C us []) (J.env0.make C us []) i l j) λq s' z=>?_));cases q with
  |error e=>exact hx b σ _ _ e s' J z
  |ok L =>
    cases L with
    |ret u=>obtain⟨v,n,t,Y,y,U⟩:=J.after z;subst y;exact⟨Y,⟨V.ref (s.heap.objs.size+1),n,t,rfl,U⟩⟩
    |next=>exact z.elim
    |brk=>exact z.elim
    |cont=>exact z.elim
theorem QdN{C:Addr}{n:Nat}{F:Eu}{K:Aa}{U b:Hs}{ds:List DV}{d:DV}{Q:VK}(O:bJ K c C)(J:ds.length+1=n)(W:aM K ρ B U H)(r:ak K ρ B H ds vs)
  (e:(do let x <- X0 (.ins c []);let r <- F (x::ds);match r with|.non=>pure x|_=>failure:M DV) U=some (d,b)) (k:iG K ρ B H d b Q) :
  ∀x a,H x=none->H a=none->a≠x->K.lookup x=none->iJ K n F (.ref x::vs) (upd (upd H a (.own x)) x (.ins C a [])) (λv H2=>v=.non/\Q (.ref x) H2) E0:=by
 intro x a hx i ne kf;have l:F (.ref U.length::ds) (U++[.ins c []])=some (.non,b)/\d=.ref U.length:=by
  obtain⟨y,hp1,u,z⟩:=Qf e;cases u;obtain⟨y,L,I,h⟩:=Qf z;cases y with
  |non=>obtain⟨rfl,rfl⟩:=Qk h;exact⟨I,rfl⟩
  |bl _=>cases h
  |int _=>cases h
  |str _=>cases h
  |tup _=>cases h
  |lst _=>cases h
  |ref _=>cases h
 obtain⟨l,rfl⟩:=l;have j:upd H a (.own x) x=none:=by rw[QO (Ne.symm ne)];exact hx
 have g0:Gr K ρ B H ρ B (upd H a (.own x)):=Gr.laid i;have g1:Gr K ρ B (upd H a (.own x)) (ρ++[x]) (jW B x) (upd (upd H a (.own x)) x (.ins C a [])):=Gr.dh j kf;have q:aM K (ρ++[x]) (jW B x) (U++[.ins c []]) (upd (upd H a (.own x)) x (.ins C a [])):=(W.laid i).dh j kf (bN.iw O .nil Q3);have t:au K (ρ++[x]) (jW B x) (upd (upd H a (.own x)) x (.ins C a [])) (.ref U.length) (.ref x):=by unfold au;exact⟨x,rfl,by rw[<- W.len];simp⟩
 refine⟨?_,ρ++[x],jW B x,U++[.ins c []],.ref U.length::ds,.non,b,q,ak.cons t (ak.grow W.rb (g0.trans g1) _ _ r),l,λv ρ' B' H' g' W' P=>?_⟩
 ·rw[Ba,<- r.length];exact J
 ·exact⟨P.eX,k _ ρ' B' H' ((g0.trans g1).trans g') W' (au.grow q.rb g' _ _ t)⟩
theorem GT{k j n:Nat}{F:Eu}{es:List Expr}{p:Pos}(h:pH X.prog X.w X.K X.mg X.O8 c j n F)(R:Room k X.A)(z:j+1<=k)(hx:YR CX0 X E0)(v:DA X (e::es) fa)(y:Gl X c:=by rfl)
  (hdb:(c==("__debug__" : Str))=false:=by decide) (he:starEach (e::es) X.env=(false,eval e X.env)::starEach es X.env:=by rfl) (hpl:(backTo pos (starEach es X.env)).any (·.1)=false:=by rfl):DE X (.Call (.Name c p) (e::es) [] pos) (J6 c n F fa):=by
 obtain⟨C,g,fd,ps,Y,L,M,a,x⟩:=h.ex;intro i s σ H Q I q;obtain⟨Z,env,ρ,B,U,d,O,S,e,k⟩:=q;obtain⟨ds,hp1,l,t⟩:=Qf e;obtain⟨_,P,u,e4⟩:=Qf t;obtain⟨J,rfl⟩:=QM u;refine wpAny_Call_Name_kw (ve I y L ?_ hdb);refine PySem.W.callWith_K (h₀:=X.O8) I.ok.mod.kin M.kp (thn (v pos i s σ H _ I (fH.run S l λvs ρ1 B1 b g1 S1 r1=>QdN (Q:=Q) Y (Eg J) S1.wo r1 e4 (k.after g1))) λus s1 ⟨vs,b,I1,r,q⟩=>⟨I1.kIn,?_⟩) he hpl;exact Qcz M a (R.mono z) x hx I1 r q
end
theorem Hx{P:Program}{w:World}{K:Aa}{mg:Em}{O8:Heap}{x a:Str}{g:Addr}{k:Nat}{c:aD}(F:Fun K x a stm g fd)(l:Qv N ps (Qo stm))
  (h:∀(b:Value)(A:Around)(outer:List Env)(s:Shared)(H:Hp)(E:XK),Room k (A.deeper (envOfC a (Qo stm) s.heap.objs.size g b))->fY (Vx CX0 P w K mg O8 N a (Qo stm) g b A outer s H E).nox (ZK stm) c) :
  zA P w K mg O8 CX0 (k+1) g fd ps (iJ K ps.length (Zb N.length c)):=by
 refine F.ok l (λvs H Q E h=>h.1) (λb A outer s H vs Q E o sp=>?_);obtain⟨t,ρ,B,U,ds,d,n,W,r,e,k⟩:=sp;obtain⟨⟨j,f⟩,hp1,m,i⟩:=Qf e;refine⟨_,h b A outer s H E o,⟨ρ,B,H⟩,_,ρ,B,U,j,f,hp1,yS W r,m,λσ' ρ' B' H' g' S'=>?_⟩;cases j with
 |nx=>obtain⟨rfl,rfl⟩:=Qk i;exact k .non ρ' B' H' S'.gr S'.wo jp
 |rt x=>obtain⟨rfl,rfl⟩:=Qk i;exact λv q=>k v ρ' B' H' S'.gr S'.wo q
 |bk=>cases i
 |ct=>cases i
theorem QdP{P:Program}{w:World}{K:Aa}{mg:Em}{O8:Heap}{c m a:Str}{C g:Addr}{k:Nat}{e:aD}(o:bJ K c C)(l:Cls K C)(n:kr K C m g)(F:Fun K m a stm g fd)(i:Qv N ps (Qo stm))
  (hb:∀(kV f q:Value)(j:Option Addr)(b ct:Value)(us:List Value),us.length=ps.length->bindArgs (PySem.W.fnOf m a (JW stm) (ZK stm) (Qo stm) .none kV f q j b ct) ⟨us,[]⟩=pure (ps.zip us))
  (h:∀(b:Value)(A:Around)(outer:List Env)(s:Shared)(H:Hp)(E:XK),Room k (A.deeper (envOfC a (Qo stm) s.heap.objs.size g b))->fY (Vx CX0 P w K mg O8 N a (Qo stm) g b A outer s H E).nox (ZK stm) e) :
  XR P w K mg O8 c m (k+1) ps.length (Zb N.length e):=⟨C,g,fd,ps,o,l,n,Hx F i h,F.binds hb⟩
theorem Qdy{P:Program}{w:World}{K:Aa}{mg:Em}{O8:Heap}{c a:Str}{C g:Addr}{k:Nat}{e:aD}(n:bJ K c C)(l:mg c=some (.ref C))(m:Mk K C g)(F:Fun K "__init__" a stm g fd)(i:Qv N ps (Qo stm))
  (hb:∀(kV f o:Value) (j:Option Addr) (b ct:Value) (us:List Value),us.length=ps.length->bindArgs (PySem.W.fnOf "__init__" a (JW stm) (ZK stm) (Qo stm) .none kV f o j b ct) ⟨us,[]⟩=pure (ps.zip us))
  (h:∀(b:Value)(A:Around)(outer:List Env)(s:Shared)(H:Hp)(E:XK),Room k (A.deeper (envOfC a (Qo stm) s.heap.objs.size g b))->fY (Vx CX0 P w K mg O8 N a (Qo stm) g b A outer s H E).nox (ZK stm) e) :
  pH P w K mg O8 c (k+1) ps.length (Zb N.length e):=⟨C,g,fd,ps,n,l,m,Hx F i h,F.binds hb⟩
section
variable{X:Cx}
def Fy:aD:=λ_=>failure
theorem D4{st:Stmt}:DS X st Fy:=L2.PS.imp SW λD σ H ⟨Z,env,ρ,B,U,fl,env',hp',S,e,k⟩=>by cases e
def UK(i:Nat)(b:DV->DV->M DV)(a:aF):aD:=λenv=>do let v <- Qb i env;let y <- a env;let z <- b v y;pure (.nx,env.set i (.val z))
end
theorem ZG{α β:Type}(m:M α)(k:α->M β)(U:Hs):(m >>= k) U=(m U).bind λp=>k p.1 p.2:=by
 show(StateT.bind m k U)=_;unfold StateT.bind;cases m U with
 |none=>rfl
 |some p=>obtain⟨a,h⟩:=p;rfl
theorem Xy{α β:Type}(f:α->β)(m:M α)(U:Hs):(f <$> m) U=(m U).map λp=>(f p.1,p.2):=by
 show(StateT.map f m U)=_;unfold StateT.map;cases m U with
 |none=>rfl
 |some p=>obtain⟨a,h⟩:=p;rfl
def run_pure{α:Type}(a:α)(U:Hs):(pure a:M α) U=some (a,U):=rfl
def JS{α:Type}(U:Hs):(failure:M α) U=none:=rfl
theorem Jv(b:Bool)(U:Hs):QB b U=if b=true then some ((),U)else none:=by cases b<;>rfl
theorem Xx(n:Nat)(U:Hs):ZF n U=(U[n]?).map λo=>(o,U):=by unfold ZF;cases U[n]?<;>rfl
def run_set(n:Nat)(o:OV)(U:Hs):xq n o U=some ((),U.set n o):=rfl
def Xz(o:OV)(U:Hs):X0 o U=some (.ref U.length,U++[o]):=rfl
theorem Zl(U:Hs)(k:Nat)(X:OV)(h:(U[k]?).isSome=true):(U.set k X)[k]?=some X:=by
 have:k<U.length:=by
  rcases Bh k U.length with q|q
  ·exact q
  ·rw[List.getElem?_eq_none q]at h;cases h
 rw[Au this]
def QV(U:Hs)(k n:Nat)(X:OV)(h:k≠n):(U.set k X)[n]?=U[n]?:=Am h
theorem Z1(U:Hs)(X:OV):(U++[X])[U.length]?=some X:=by simp
mutual
def bA(K:Aa):DV->V->Prop
 |.non,v=>v=.non
 |.bl b,v=>v=.bl b
 |.int i,v=>v=.int i
 |.str x,v=>v=.str x
 |.tup ds,v=>∃(a:Addr) (o:Obj) (c:Array Value) (n:Nat) (xs:List V),v=.ref a/\K.lookup a=some o/\o.cls=.type "tuple" /\ o.data=.seq c n/\c.size<=sizeLine/\Vals xs c.toList/\bC K ds xs
 |_,_=>False
def bC(K:Aa):List DV->List V->Prop
 | [],xs=>xs=[]
 |d::ds,xs=>∃x r,xs=x::r/\bA K d x/\bC K ds r
end
mutual
theorem bA.rep{K:Aa}{B:Er}(c:∀a,B a->K.lookup a=none):∀(d:DV)(v:V),bA K d v->au K ρ B H d v
  |.non,_,h=>by unfold bA at h;unfold au;exact h
  |.bl _,_,h=>by unfold bA at h;unfold au;exact h
  |.int _,_,h=>by unfold bA at h;unfold au;exact h
  |.str _,_,h=>by unfold bA at h;unfold au;exact h
  |.lst _,_,h=>by unfold bA at h;exact h.elim
  |.ref _,_,h=>by unfold bA at h;exact h.elim
  |.tup ds,_,h=>by unfold bA at h;unfold au;obtain⟨a,o,b,n,xs,rfl,h1,h2,h3,h4,h5,e⟩:=h;exact⟨a,xs,rfl,λz=>(by rw[c a z]at h1;cases h1),.inr ⟨o,b,n,h1,h2,h3,h4,h5⟩,bC.rep c ds xs e⟩
theorem bC.rep{K:Aa}{B:Er}(b:∀a,B a->K.lookup a=none):∀(ds:List DV)(xs:List V),bC K ds xs->ak K ρ B H ds xs
  | [],_,h=>by unfold bC at h;unfold ak;exact h
  |d::ds,_,h=>by unfold bC at h;unfold ak;obtain⟨x,r,e,h1,h2⟩:=h;exact⟨x,r,e,bA.rep b d x h1,bC.rep b ds r h2⟩
end
theorem kU{K:Aa}{a:Addr}{f:Option Addr}{b:Array Value}{n:Nat}{i:Array (Option Value)}(h:K.lookup a=some ⟨.type "tuple", f,.seq b n,i⟩)(hs:b.size<=sizeLine)(e:Vals xs b.toList)(c:bC K ds xs):bA K (.tup ds) (.ref a):=by unfold bA;exact⟨a,_,b,n,xs,rfl,h,rfl,rfl,hs,e,c⟩
theorem Ie{K:Aa}:bA K .non .non:=by unfold bA;rfl
theorem WG{K:Aa}{i:Int}:bA K (.int i) (.int i):=by unfold bA;rfl
theorem vb{K:Aa}:bC K [] []:=by unfold bC;rfl
theorem zO{K:Aa}{d:DV}{x:V}(h:bA K d x)(h':bC K ds r):bC K (d::ds) (x::r):=by unfold bC;exact⟨x,r,rfl,h,h'⟩
theorem Qe5{X:Cx}{x:Str}{a:Addr}{pos:Pos}(c:Gl X x)(h:X.mg x=some (.ref a))(f:bA X.K (.tup ds) (.ref a))(hd:(x==("__debug__" : Str))=false:=by decide):DE X (.Name x pos) (eC (.tup ds)) :=
 (Iz (v:=.ref a) c h rfl hd).imp λσ H Q b=>by obtain⟨Z,env,ρ,B,U,d',i,S,e,k⟩:=b;obtain⟨rfl,rfl⟩:=Qk e;exact k _ ρ B H Gr.refl S.wo (bA.rep S.wo.bk _ _ f)
theorem MK{b:DV->aD}{d:DV}(h:b d env U=some ((.nx,aR),hp1)):zk b (d::ds) env U=zk b ds aR hp1:=by rw[zk,Qg h]
theorem Hw(U:Hs)(x:OV)(t:Hs):(U++x::t)[U.length]?=some x:=by simp
theorem Hg(U:Hs)(x y:OV)(t:Hs):(U++x::t).set U.length y=U++y::t:=by rw[List.set_append_right _ _ (Ae _)];simp
theorem vD{U:Hs}{n:Nat}(h:U[n]?=some x):U.set n x=U:=by obtain⟨a,rfl⟩:=Ac.mp h;exact List.set_getElem_self a
theorem jq{n i:Nat}{d:DV}(h:(Zt 0 n)[i]?=some d):i<n/\d=.int (i:Int):=by obtain⟨h1,h2⟩:=Qap h;exact⟨h1,by rw[h2];simp⟩
theorem QcI{n:Nat}(h:n<=1000000):U6 (n:Int)=true:=QeF ⋯ ⋯
theorem Us{i:Int}(h:0<=i):∃j:Nat,i=j:=⟨i.toNat,⋯⟩
theorem Lh{n i:Nat}(h:i<n):ixN n (i:Int)=some i:=by unfold ixN;rw[Eb ⋯,Eb ⋯];simp
theorem xh{f:lU}{g:iH}{r:(Fl×En)×Hs}(h:f env U=some (bW ds,hp1))(h':xL (bW ds) (λd env=>do let env' <- g d env;body env') 100000 0 env hp1=some r):Gg f g body env U=some r:=by unfold Gg;rw[Qg h];exact h'
theorem qj{f:lA}{g:iH}{r:(Fl×En)×Hs}(h:f env U=some (ds,hp1))(h':zk (λd env=>do let env' <- g d env;body env') ds env hp1=some r):gq f g body env U=some r:=by unfold gq;rw[Qg h];exact h'
theorem Sz{m:Nat}(h:m<=1000000)(U:Hs):nT [.int (m:Int)] U=some (Zt 0 m,U):=by
 have e:nT [.int (m:Int)]=pure (Zt 0 (m:Int).toNat):=by simp only[nT,QcI h,QB,if_true,Ei]
 rw[e,B7];rfl
theorem YE{f:cu}{m:Nat}(h:f env U=some ([.int (m:Int)],hp1))(a:m<=1000000):zN f env U=some (Zt 0 m,hp1):=by unfold zN;rw[Qg h];exact Sz a hp1
theorem Kk{f:aF}(h:f env U=some (.lst ds,hp1)):fO f env U=some (bW ds,hp1):=by unfold fO;rw[Qg h];rfl
section
variable{X:Cx}
def YF(x:DV):List DV->M DV
 | [y]=>fC x λn ds=>fC y λ_ es=>do QB (decide (ds.length+es.length<=lim));xq n (.lst (ds++es));pure .non
 |_=>failure
theorem uW:MtR X "list.extend" (oE X.K YF):=by
 intro l s σ H x vs v us Q I rx rv h;obtain⟨ρ,B,U,J,es,d,u,W,C,F,e,k⟩:=h;unfold YF at e;split at e
 ·rename_i y;obtain⟨n,ds,rfl,h0,e⟩:=Uv e;obtain⟨m,O,rfl,c,e⟩:=Uv e;obtain⟨_,hp1,q,r⟩:=Qf e;obtain⟨t,rfl⟩:=QM q;cases r;obtain⟨a,rfl,z,xs,h1,i⟩:=au.aY W C h0;obtain⟨w,rfl,f⟩:=F.b_;obtain⟨b,rfl,L,ys,h2,j⟩:=au.aY W f c;obtain⟨g,o⟩:=Kj W z h1 (ak.append i j);exact Qck l s σ H _ _ v us Q I rx rv ⟨a,b,xs,ys,rfl,rfl,h1,h2,by rw[<- i.length,<- j.length];exact Bj (Eg t) vf,k _ ρ B _ g o jp⟩
 ·cases e
end
end D
namespace L2
open PySem PySem.Spec PyProof.Rows
abbrev XZ(h:Heap)(z p o:Addr)(f:Value)(b:Bool):Prop:=h.get? z=some { cls:=Value.type "zip", data:=Data.fields #[f,Value.bool b,Value.bool false,Value.ref p,Value.ref o] }
structure ZU(h:Heap)(z p o i j a b:Addr)(n:Nat):Prop where
 zz:∃f fl,XZ h z p o f fl/\(f=.none∨∃T:Nat,f=rawInt T)
 pp:IsPair h p (.ref i) (.ref j)
 oo:∃x y,IsPair h o x y
 ii:h.IsTupleIter i a n
 jj:h.IsTupleIter j b n
section
variable{prog:Program}{w:World}{A:Around}{E:Ej}{s:Shared}
theorem km{a:Addr}{Q:Option Obj->Shared->Prop}(h:Q (s.heap.get? a) s):wpAny (model prog w) A (loadIfAlive a) Q E s:=by intro Γ p hΓ;unfold loadIfAlive;rw[Sem.wp_loadIfAlive];exact Ec (M:=model prog w) (A:=A) (E:=E) h Γ p hΓ
theorem Lw{z p o:Addr}{f:Value}{a:Bool}{Q:Bool->Shared->Prop}(zz:XZ s.heap z p o f a)(hf:f=.none∨∃T:Nat,f=rawInt T)(b:Q true s)(c:∀g,XZ g z p o f true->Heap.ExtBut z s.heap g->g.objs.size=s.heap.objs.size->Q false { s with heap:=g }):
    wpAny (model prog w) A (Builtin.SmallTypes.ownedTupleIsFree (.ref z)) Q E s:=by
  unfold Builtin.SmallTypes.ownedTupleIsFree;rcases hf with rfl|⟨T,rfl⟩
  . exact C9 (wpAny_field zz rfl (x:=.none) rfl (Ec b))
  . refine C9 (wpAny_field zz rfl (x:=rawInt T) rfl ?_)
    show wpAny _ _ (loadIfAlive (T:Int).toNat >>= _) _ _ _;refine C9 (km ?_);cases h:s.heap.get? (T:Int).toNat with
    |none=>exact Ec b
    |some ob =>
      show wpAny _ _ (field (.ref z) 1 >>= _) _ _ _;refine C9 (wpAny_field zz rfl (x:=.bool a) rfl ?_);cases a with
      |true=>exact Ec (c _ zz (λ_ _ _ e=>e) rfl)
      |false=>show wpAny _ _ (setField (.ref z) 1 (.bool true) >>= _) _ _ _;exact C9 (wpAny_setField_rec zz (by simp) λg z1 k1=>Ec (c g z1 k1.extBut k1.1))
theorem Ls{z p o i j a b:Addr}{n:Nat}{xs ys:Array Value}{Q:Ej}(D:ZA z p o i j a b)(S:ZU s.heap z p o i j a b n)(X:s.heap.IsTuple a xs)(Y:s.heap.IsTuple b ys)(hx:xs[n]?=some x)(hy:ys[n]?=some y)
  (k:∀g,ZU g z p o i j a b (n+1)->IsPair g s.heap.objs.size x y->g.objs.size=s.heap.objs.size+1->(∀c u,c≠z->c≠o->c≠i->c≠j->s.heap.get? c=some u->g.get? c=some u)->Q (.ref s.heap.objs.size) { s with heap:=g }) :
  wpAny (model prog w) A (Builtin.«zip.__next__» ⟨[.ref z],[]⟩) (λP s'=>∃v,P=.done (.ret v)/\Q v s') E s:=by
 obtain⟨⟨f,L,zz,hf⟩,pp,⟨u1,u2,oo⟩,ii,jj⟩:=S;have I:∀{g g':Heap}{q c:Addr}{vs:Array Value},Heap.SameBut q g g'->c≠q->g.IsTuple c vs->g'.IsTuple c vs:=λ{g g' q c vs} sb hc ⟨ob,e,r⟩=>⟨ob,sb.extBut _ _ hc e,r⟩;show wpAny _ _ (field (.ref z) 2 >>= _) _ _ _;refine C9 (wpAny_field zz rfl (x:=.bool false) rfl ?_);show wpAny _ _ (field (.ref z) 3 >>= _) _ _ _;refine C9 (wpAny_field zz rfl (x:=.ref p) rfl ?_);refine C9 (wpAny_seqItems pp rfl ?_);show wpAny _ _ (Builtin.SmallTypes.ownedTupleIsFree (.ref z) >>= _) _ _ _;refine C9 (Lw zz hf ?_ ?_)
 ·simp only[if_true];refine C9 (wpAny_rule ?_);refine C9 (wpAny_field zz rfl (x:=.ref o) rfl ?_);refine C9 (wpAny_setField_rec zz (by simp) λg1 z1 k1=>?_);replace z1:XZ g1 z p o .ellipsis L:=z1;refine C9 ?_;simp only[List.zipIdx_cons,List.zipIdx_nil,List.forIn_cons,List.forIn_nil];refine C9 (C9 (wpAny_onRaise ?_));show wpAny _ _ (Builtin.SmallTypes.nextOf (.ref i) >>= _) _ _ _;refine C9 (jt (ii.extBut k1.extBut D.iz) (I k1 D.az X) hx λg2 R k2=>Ec ?_);have o2:IsPair g2 o u1 u2:=k2.extBut _ _ D.oi (k1.extBut _ _ D.oz oo);refine C9 (wpAny_seqItems o2 rfl ?_);refine C9 (wpAny_updateSeq_pair o2 λg3 U k3=>?_);replace U:IsPair g3 o x u2:=U;refine C9 (wpAny_letGo (Ec ?_));refine C9 (C9 (wpAny_onRaise ?_));show wpAny _ _ (Builtin.SmallTypes.nextOf (.ref j) >>= _) _ _ _;refine C9 (jt (((jj.extBut k1.extBut D.jz).extBut k2.extBut D.ij.symm).extBut k3.extBut D.oj.symm) (I k3 D.bo (I k2 D.bi (I k1 D.bz Y))) hy λg4 j4 k4=>Ec ?_);have o4:IsPair g4 o x u2:=k4.extBut _ _ D.oj U;refine C9 (wpAny_seqItems o4 rfl ?_);refine C9 (wpAny_updateSeq_pair o4 λh O k5=>?_);replace O:IsPair h o x y:=O;refine C9 (wpAny_letGo (Ec (Ec ?_)));refine C9 (wpAny_seqItems O rfl ?_);refine C9 (wpAny_newTuple ?_);have sz:h.objs.size=s.heap.objs.size:=by rw[k5.1,k4.1,k3.1,k2.1,k1.1]
  have z5:XZ h z p o .ellipsis L:=k5.extBut _ _ D.oz.symm (k4.extBut _ _ D.jz.symm (k3.extBut _ _ D.oz.symm (k2.extBut _ _ D.iz.symm z1)));have C:∀c u,c≠z->c≠o->c≠i->c≠j->s.heap.get? c=some u->h.get? c=some u:=λc u l J m t e=>k5.extBut _ _ J (k4.extBut _ _ t (k3.extBut _ _ J (k2.extBut _ _ m (k1.extBut _ _ l e))));have i5:h.IsTupleIter i a (n+1):=((R.extBut k3.extBut D.oi.symm).extBut k4.extBut D.ij).extBut k5.extBut D.oi.symm;have j5:h.IsTupleIter j b (n+1):=j4.extBut k5.extBut D.oj.symm;have zl:z<h.objs.size:=Ap z5;show wpAny _ _ (Builtin.SmallTypes.ownedTupleHandOut (.ref z) (.ref h.objs.size) >>= _) _ _ _;refine C9 ?_;unfold Builtin.SmallTypes.ownedTupleHandOut;have z6:XZ (h.push { cls:=.type "tuple", data:=.seq #[x,y] }) z p o .ellipsis L:=Ad _ z5;refine C9 (wpAny_setField_rec z6 (by simp) λg7 z7 k7=>?_);replace z7:XZ g7 z p o (rawInt h.objs.size) L:=z7;refine wpAny_setField_rec z7 (by simp) λF z8 k8=>?_;replace z8:XZ F z p o (rawInt h.objs.size) false:=z8;have up:∀c u,c≠z->h.get? c=some u->F.get? c=some u:=λc u l e=>k8.extBut _ _ l (k7.extBut _ _ l (Ad _ e));have t8:IsPair F h.objs.size x y:=k8.extBut _ _ (C7 zl) (k7.extBut _ _ (C7 zl) (Av _ rfl));have s8:F.objs.size=h.objs.size+1:=by rw[k8.1,k7.1,Co]
  refine Ec ⟨_,rfl,?_⟩;show Q (.ref h.objs.size) _;rw[sz]at z8 t8 s8;rw[sz];exact k F ⟨⟨_,_,z8,.inr ⟨_,rfl⟩⟩,up _ _ D.pz (C _ _ D.pz D.po D.pi D.pj pp),⟨x,y,up _ _ D.oz O⟩,i5.at λu e=>up _ u D.iz e,j5.at λu e=>up _ u D.jz e⟩ t8 s8 λc u l J m t e=>up c u l (C c u l J m t e)
 ·intro g1 z1 k1 BR;simp only[Az,if_false];refine C9 ?_;have pZ:g1.IsTuple a xs:=let ⟨ob,e,r⟩:=X;⟨ob,k1 _ _ D.az e,r⟩;have tQ:g1.IsTuple b ys:=let ⟨ob,e,r⟩:=Y;⟨ob,k1 _ _ D.bz e,r⟩;simp only[List.forIn_toArray,List.forIn_cons,List.forIn_nil];refine C9 (C9 (wpAny_holding ?_));show wpAny _ _ (Builtin.SmallTypes.nextOf (.ref i) >>= _) _ _ _;refine C9 (jt (s:={ s with heap:=g1 }) (ii.extBut k1 D.iz) pZ hx λg2 R k2=>Ec (Ec ?_));refine C9 (C9 (wpAny_holding ?_));show wpAny _ _ (Builtin.SmallTypes.nextOf (.ref j) >>= _) _ _ _;refine C9 (jt (s:={ s with heap:=g2 }) ((jj.extBut k1 D.jz).extBut k2.extBut D.ij.symm) (I k2 D.bi tQ) hy λg3 j3 k3=>Ec (Ec ?_));refine Ec ?_;refine C9 (wpAny_newTuple ?_ (show(2:Nat)<=sizeLine by decide));have sz:g3.objs.size=s.heap.objs.size:=by rw[k3.1,k2.1,BR]
  have C:∀c u,c≠z->c≠i->c≠j->s.heap.get? c=some u->(g3.push { cls:=.type "tuple", data:=.seq #[x,y] }).get? c=some u:=λc u l m t e=>Ad _ (k3.extBut _ _ t (k2.extBut _ _ m (k1 _ _ l e)));have z3:XZ (g3.push { cls:=.type "tuple", data:=.seq #[x,y] }) z p o f true:=Ad _ (k3.extBut _ _ D.jz.symm (k2.extBut _ _ D.iz.symm z1));refine Ec ⟨_,rfl,?_⟩;show Q (.ref g3.objs.size) _;rw[sz];refine k _ ⟨⟨f,true,z3,hf⟩,C _ _ D.pz D.pi D.pj pp,⟨u1,u2,C _ _ D.oz D.oi D.oj oo⟩,(R.extBut k3.extBut D.ij).at λu e=>Ad _ e,j3.at λu e=>Ad _ e⟩ ?_ (by rw[Co,sz]) λc u l _ m t e=>C c u l m t e;rw[<- sz];exact Av _ rfl
theorem Lr{z p o i j a b:Addr}{n:Nat}{xs ys:Array Value}{Q:PySem.Fin->Shared->Prop}(v:A.handled=none)(D:ZA z p o i j a b)(S:ZU s.heap z p o i j a b n)(F:s.heap.IsTuple a xs)(O:s.heap.IsTuple b ys)(he:xs[n]?=none∨ys[n]?=none)
    (k:∀g x,(∀c u,c≠z->c≠o->c≠i->c≠j->s.heap.get? c=some u->g.get? c=some u)->(∃u,g.get? x=some u/\u.cls=.type "StopIteration")->E (.ref x) { s with heap:=g }) :
    wpAny (model prog w) A (Builtin.«zip.__next__» ⟨[.ref z],[]⟩) Q E s:=by
  obtain⟨⟨f,C,zz,hf⟩,pp,⟨u1,u2,oo⟩,ii,jj⟩:=S;have t:∀{g g':Heap}{q c:Addr}{vs:Array Value},Heap.SameBut q g g'->c≠q->g.IsTuple c vs->g'.IsTuple c vs:=λ{g g' q c vs} sb Y ⟨ob,e,r⟩=>⟨ob,sb.extBut _ _ Y e,r⟩;show wpAny _ _ (field (.ref z) 2 >>= _) _ _ _;refine C9 (wpAny_field zz rfl (x:=.bool false) rfl ?_);show wpAny _ _ (field (.ref z) 3 >>= _) _ _ _;refine C9 (wpAny_field zz rfl (x:=.ref p) rfl ?_);refine C9 (wpAny_seqItems pp rfl ?_);show wpAny _ _ (Builtin.SmallTypes.ownedTupleIsFree (.ref z) >>= _) _ _ _;refine C9 (Lw zz hf ?_ ?_)
  . simp only[if_true]
    refine C9 (wpAny_rule ?_);refine C9 (wpAny_field zz rfl (x:=.ref o) rfl ?_);refine C9 (wpAny_setField_rec zz (by simp) λg1 z1 k1=>?_);replace z1:XZ g1 z p o .ellipsis C:=z1;refine C9 ?_;simp only[List.zipIdx_cons,List.zipIdx_nil,List.forIn_cons,List.forIn_nil];refine C9 (C9 (wpAny_onRaise ?_));show wpAny _ _ (Builtin.SmallTypes.nextOf (.ref i) >>= _) _ _ _;cases hx:xs[n]? with
    |none =>
      refine C9 (vQ v (ii.extBut k1.extBut D.iz) (t k1 D.az F) hx λg2 x k2 h2=>?_);obtain⟨J,h3,h4⟩:=h2;have z2:XZ g2 z p o .ellipsis C:=k2 _ _ D.iz.symm z1;have L:x≠z:=λq=>by subst q;rw[z2]at h3;cases h3;simp at h4
      exact wpAny_setField_rec z2 (by simp) λg3 _ k3=>k g3 x (λc u l _ m _ e=>k3.extBut _ _ l (k2 _ _ m (k1.extBut _ _ l e))) ⟨J,k3.extBut _ _ L h3,h4⟩
    |some x0 =>
      have I:ys[n]?=none:=by rcases he with h|h;rw[hx]at h;cases h;exact h
      refine C9 (jt (ii.extBut k1.extBut D.iz) (t k1 D.az F) hx λg2 i2 k2=>Ec ?_);have P:IsPair g2 o u1 u2:=k2.extBut _ _ D.oi (k1.extBut _ _ D.oz oo);refine C9 (wpAny_seqItems P rfl ?_);refine C9 (wpAny_updateSeq_pair P λg3 o3 k3=>?_);refine C9 (wpAny_letGo (Ec ?_));refine C9 (C9 (wpAny_onRaise ?_));show wpAny _ _ (Builtin.SmallTypes.nextOf (.ref j) >>= _) _ _ _;refine C9 (vQ v (((jj.extBut k1.extBut D.jz).extBut k2.extBut D.ij.symm).extBut k3.extBut D.oj.symm) (t k3 D.bo (t k2 D.bi (t k1 D.bz O))) I λg4 x k4 h2=>?_);obtain⟨J,h3,h4⟩:=h2;have z4:XZ g4 z p o .ellipsis C:=k4 _ _ D.jz.symm (k3.extBut _ _ D.oz.symm (k2.extBut _ _ D.iz.symm z1));have L:x≠z:=λq=>by subst q;rw[z4]at h3;cases h3;simp at h4
      exact wpAny_setField_rec z4 (by simp) λX _ k5=>k X x (λc u l U m y e=>k5.extBut _ _ l (k4 _ _ y (k3.extBut _ _ U (k2.extBut _ _ m (k1.extBut _ _ l e))))) ⟨J,k5.extBut _ _ L h3,h4⟩
  . intro g1 z1 k1 BR
    simp only[Az,if_false];refine C9 ?_;have R:g1.IsTuple a xs:=let ⟨ob,e,r⟩:=F;⟨ob,k1 _ _ D.az e,r⟩;have tQ:g1.IsTuple b ys:=let ⟨ob,e,r⟩:=O;⟨ob,k1 _ _ D.bz e,r⟩;simp only[List.forIn_toArray,List.forIn_cons,List.forIn_nil];refine C9 (C9 (wpAny_holding ?_));show wpAny _ _ (Builtin.SmallTypes.nextOf (.ref i) >>= _) _ _ _;cases hx:xs[n]? with
    |none=>exact C9 (vQ (s:={ s with heap:=g1 }) v (ii.extBut k1 D.iz) R hx λg2 x k2 h2=>k g2 x (λc u l _ m _ e=>k2 _ _ m (k1 _ _ l e)) h2)
    |some x0 =>
      have I:ys[n]?=none:=by rcases he with h|h;rw[hx]at h;cases h;exact h
      refine C9 (jt (s:={ s with heap:=g1 }) (ii.extBut k1 D.iz) R hx λg2 i2 k2=>Ec (Ec ?_));refine C9 (C9 (wpAny_holding ?_));show wpAny _ _ (Builtin.SmallTypes.nextOf (.ref j) >>= _) _ _ _;exact C9 (vQ (s:={ s with heap:=g2 }) v ((jj.extBut k1 D.jz).extBut k2.extBut D.ij.symm) (t k2 D.bi tQ) I λg3 x k3 h2=>k g3 x (λc u l _ m y e=>k3 _ _ y (k2.extBut _ _ m (k1 _ _ l e))) h2)
end
theorem ZU.at{h h':Heap}{z p o i j a b:Addr}{n:Nat}(S:ZU h z p o i j a b n)(k:∀c∈[z,p,o,i,j],∀u,h.get? c=some u->h'.get? c=some u):ZU h' z p o i j a b n:=by obtain⟨⟨f,l,zz,hf⟩,pp,⟨u1,u2,oo⟩,ii,jj⟩:=S;exact⟨⟨f,l,k z (by simp) _ zz,hf⟩,k p (by simp) _ pp,⟨u1,u2,k o (by simp) _ oo⟩,ii.at λu e=>k i (by simp) u e,jj.at λu e=>k j (by simp) u e⟩
inductive pG:Expr->Prop
 |nm (x:Str) (p:Pos):pG (.Name x p)
 |tp (l:List Expr) (k:Nat) (p:Pos):pG (.Tuple l k p)
theorem RN{prog:Program}{w:World}{A:Around}{E:Ej}{s:Shared}(q:pG tg){z p o i j a b T:Addr}{n:Nat}{Q:Unit->Shared->Prop}(D:ZA z p o i j a b)(S:ZU s.heap z p o i j a b n)(h:∀h',ZU h' z p o i j a b n->Heap.ExtBut z s.heap h'->Q () { s with heap:=h' }):wpAny (model prog w) A (letOwnedTupleGo tg (.ref z) (.ref T)) Q E s:=by
  cases q with
  |nm x p'=>exact Ec (h s.heap S λ_ _ _ e=>e)
  |tp l k p' =>
    obtain⟨f,m,zz,hf⟩:=S.zz;unfold letOwnedTupleGo;refine C9 (wpAny_load zz ?_);dsimp only;split
    . refine C9 (wpAny_rule ?_)
      show wpAny _ _ (setField (.ref z) 0 .none) Q E s;obtain⟨_,pp,⟨u1,u2,oo⟩,ii,jj⟩:=S;exact wpAny_setField_rec zz (by simp) λh' r c=>h h' ⟨⟨.none,m,r,.inl rfl⟩,c.extBut _ _ D.pz pp,⟨u1,u2,c.extBut _ _ D.oz oo⟩,ii.extBut c.extBut D.iz,jj.extBut c.extBut D.jz⟩ c.extBut
    . exact Ec (h s.heap S λ_ _ _ e=>e)
theorem Gx{P:Program}{w:World}{K:Aa}{tg:Expr}(ht:pG tg){z p o i j a b:Addr}(D:ZA z p o i j a b):pF P w K tg (pI K a b) [z,p,o,i,j] z (λn h=>ZU h z p o i j a b n) where
 mem:=by simp
 obj:=λn h S c l=>by
  obtain⟨⟨f,fl,zz,hf⟩,pp,⟨u1,u2,oo⟩,⟨oi,O,ci,di⟩,⟨oj,Q,cj,dj⟩⟩:=S;simp only[Bk,Cf,or_false]at l;rcases l with rfl|rfl|rfl|rfl|rfl
  ·exact⟨_,zz,λv q=>by have t:Data.fields _=Data.cell v:=q;cases t⟩
  ·exact⟨_,pp,λv q=>by have t:Data.seq _ _=Data.cell v:=q;cases t⟩
  ·exact⟨_,oo,λv q=>by have t:Data.seq _ _=Data.cell v:=q;cases t⟩
  ·exact⟨oi,O,λv q=>by rw[di]at q;cases q⟩
  ·exact⟨oj,Q,λv q=>by rw[dj]at q;cases q⟩
 keep:=λn h h' S k=>S.at k
 item:=by
  intro X U hw R l n O9 s σ H E I hf S hg;subst U hw R;obtain⟨xs,ys,x,y,C,J,hx,hy⟩:=hg;obtain⟨Y,ra,pa,_⟩:=I.tuple C;obtain⟨ib,rb,pb,_⟩:=I.tuple J;obtain⟨u,hu,ru⟩:=ra.get hx;obtain⟨v,hv,rv⟩:=rb.get hy;obtain⟨f0,nQ,r,lK⟩:=S.zz;have m:s.TypeIs (.ref z) "zip" := ⟨_,r,rfl⟩;unfold pyNext;refine C9 (wpAny_attempt (wpAny_callSpecial?_slot (name:=Str.ofString "__next__") m F.slot_zip_next (wpAny_call_entry F.slot_zip_next m F.entry_zip_next
   (Ls D S (show s.heap.IsTuple a Y.toArray from pa) (show s.heap.IsTuple b ib.toArray from pb) (by simpa using hu) (by simpa using hv) λg' L tp sz kp=>Ec ?_) (F.args_zip_next_1 _))))
  refine⟨_,rfl,RN (s:={ s with heap:=g' }) ht D L λg2 L kx=>?_⟩;replace tp:=kx _ _ (C7 (Ap r)) tp;have ab:∀c q,c∉[z,p,o,i,j]->s.heap.get? c=some q->g2.get? c=some q:=λc q l e=>by simp only[Bk,Cf,or_false,not_or]at l;refine kx _ _ l.1 (kp c q l.1 l.2.2.1 l.2.2.2.1 l.2.2.2.2 e)
  have ne:∀c∈[z,p,o,i,j],c≠s.heap.objs.size:=λc l e=>by
   obtain⟨_,pp,⟨u1,u2,oo⟩,⟨oi,O,_⟩,⟨oj,Q,_⟩⟩:=S;simp only[Bk,Cf,or_false]at l;rcases l with rfl|rfl|rfl|rfl|rfl
   ·exact Bf (Ap r) e
   ·exact Bf (Ap pp) e
   ·exact Bf (Ap oo) e
   ·exact Bf (Ap O) e
   ·exact Bf (Ap Q) e
  refine⟨.ref s.heap.objs.size,upd H s.heap.objs.size (.tup [x,y]),I.fU (t':=s.toks) hf ab (us:=[u,v]) (.cons ru (.cons rv .nil)) (show 2<=sizeLine by decide) ⟨_,tp,rfl,_,rfl⟩,rfl,
   ⟨_,x,y,I.hok.fresh (Ae _),λae h=>by rw[I.tuple_inj h C];exact hx,λav h=>by rw[I.tuple_inj h J];exact hy,rfl,rfl⟩,L,λc l=>?_⟩
  rw[QO (ne c l)];exact(hf c l).1
 done:=by
  intro X U hw R l n O9 s σ H E I hf S hg;subst U hw R;obtain⟨xs,ys,C,J,hs⟩:=hg;obtain⟨Y,ra,pa,_⟩:=I.tuple C;obtain⟨ib,rb,pb,_⟩:=I.tuple J;have l1:=ra.length;have l2:=rb.length;obtain⟨f0,nQ,r,lK⟩:=S.zz;have m:s.TypeIs (.ref z) "zip" := ⟨_,r,rfl⟩;unfold pyNext;refine C9 (wpAny_attempt (wpAny_callSpecial?_slot (name:=Str.ofString "__next__") m F.slot_zip_next (wpAny_call_entry F.slot_zip_next m F.entry_zip_next
   (Lr (I.ok.hd l) D S (show s.heap.IsTuple a Y.toArray from pa) (show s.heap.IsTuple b ib.toArray from pb) (by rcases hs with q|q;exact .inl (by simp;lia);exact .inr (by simp;lia)) λg x kp hx=>?_) (F.args_zip_next_1 _))))
  obtain⟨ox,h1,h2⟩:=hx;refine C9 (wpAny_isInstance (T := "StopIteration") (b:=true) ⟨ox,h1,h2⟩ isSubtype_stop ?_);refine Ec ⟨rfl,I.lW (t':=s.toks) hf λc q l e=>?_⟩;simp only[Bk,Cf,or_false,not_or]at l;exact kp c q l.1 l.2.2.1 l.2.2.2.1 l.2.2.2.2 e
 self:=λ_ _ _ _ _ S h=>by obtain⟨f0,nQ,r,lK⟩:=S.zz;have m:Shared.TypeIs _ (Value.ref z) "zip" := ⟨_,r,rfl⟩;refine wpAny_pyIter_slot m F.slot_zip_iter (wpAny_call_entry F.slot_zip_iter m F.entry_zip_iter ?_ (F.args_zip_iter_1 _));exact Ec ⟨_,rfl, "zip", _,m,(F.slot_zip_next).1,h⟩
section
variable{X:Cx}{xn:Str}{p2:Pos}{O9:Ek}{σ:L2.St}
theorem Hq{E:Ej}{Q:Ej}{a b:Addr}(I:Inv X O9 σ H s)(x:SqT X.K H a xs)(y:SqT X.K H b ys)
  (k:∀(s':Shared) (z p o i j:Addr),Inv X O9 σ H s'->ZA z p o i j a b->ZU s'.heap z p o i j a b 0->(∀c∈[z,p,o,i,j],Vt X O9 H c)->Q (.ref z) s'):wpAny (model X.prog X.w) X.A (call (.type "zip") [.ref a,.ref b]) Q E s:=by
 obtain⟨m,C,t,_⟩:=I.tuple x;obtain⟨n,rb,u,_⟩:=I.tuple y;refine callType_new F.called_zip (by decide) (F.typeCall_zip_2 _ _) (F.newCall_zip_2 _ _) (λobj=>F.args_object_init_3 obj _ _) F.entry_zip_new (Hd a b m.toArray n.toArray) ⟨show s.heap.IsTuple a m.toArray from t,show s.heap.IsTuple b n.toArray from u,?_⟩;have z1:(pN s.heap a).objs.size=s.heap.objs.size+1:=Co ..;have z2:(pL s.heap a b).objs.size=s.heap.objs.size+2:=by rw[Co,z1]
 have z3:(pK s.heap a b).objs.size=s.heap.objs.size+3:=by rw[Co,z2]
 have z4:(pJ s.heap a b).objs.size=s.heap.objs.size+4:=by rw[Co,z3]
 have h:(lB s.heap a b).get? (pJ s.heap a b).objs.size=some _:=Av _ rfl;have g4:(lB s.heap a b).get? (pK s.heap a b).objs.size=some _:=Ad _ (Av _ rfl);have g3:(lB s.heap a b).get? (pL s.heap a b).objs.size=some _:=Ad _ (Ad _ (Av _ rfl));have g2:(lB s.heap a b).get? (pN s.heap a).objs.size=some _:=Ad _ (Ad _ (Ad _ (Av _ rfl)));have g1:(lB s.heap a b).get? s.heap.objs.size=some _:=Ad _ (Ad _ (Ad _ (Ad _ (Av _ rfl))));show _/\_;have kp:∀c o,s.heap.get? c=some o->(lB s.heap a b).get? c=some o:=λc o e=>Ad _ (Ad _ (Ad _ (Ad _ (Ad _ e))));refine⟨⟨_,h,rfl⟩,?_⟩;rw[z2,z3,z4]at h;rw[z1,z2]at g3;rw[z3]at g4;rw[z1]at g2;rw[z4];have q:a<s.heap.objs.size:=by obtain⟨o,e,_⟩:=t;exact Ap e
 have r:b<s.heap.objs.size:=by obtain⟨o,e,_⟩:=u;exact Ap e
 have D:ZA (s.heap.objs.size+4) (s.heap.objs.size+2) (s.heap.objs.size+3) s.heap.objs.size (s.heap.objs.size+1) a b:=by constructor<;>first|exact Bf q|exact Bf r|exact Bf (Ay q (Nat.le_add_right _ _))|exact Bf (Ay r (Nat.le_add_right _ _))|exact Bf ⋯|exact C7 ⋯
 have v:Inv X O9 σ H { s with heap:=lB s.heap a b }:=I.kept (t':=s.toks) kp;have S:ZU (lB s.heap a b) (s.heap.objs.size+4) (s.heap.objs.size+2) (s.heap.objs.size+3) s.heap.objs.size (s.heap.objs.size+1) a b 0:=⟨⟨_,_,h,.inl rfl⟩,g3,⟨_,_,g4⟩,⟨_,g1,rfl,rfl⟩,⟨_,g2,rfl,rfl⟩⟩;refine k { s with heap:=lB s.heap a b } _ _ _ _ _ v D S λc l=>?_;have f:s.heap.objs.size<=c:=by simp only[Bk,Cf,or_false]at l;rcases l with rfl|rfl|rfl|rfl|rfl<;>first|exact Ae _|exact Nat.le_add_right _ _
 exact I.fpOk f (I.hok.fresh f)
theorem Hm(c:pG tg){R:It->Hp->Prop}{E:Ej}{a b:Addr}(I:Inv X O9 σ H s)(f:SqT X.K H a xs)(h:SqT X.K H b ys)(q:R (pI X.K a b) H):
  wpAny (model X.prog X.w) X.A (call (.type "zip") [.ref a,.ref b]) (λv l=>wpAny (model X.prog X.w) X.A (pyIter v) (PIE X O9 σ tg R) E l) E s :=
 Hq I f h λs' z p o i j e D S hf=>(Gx (K:=X.K) c D).self _ _ _ _ _ S ⟨_,[z,p,o,i,j],_,pI X.K a b,H,rfl,e,Gx c D,S,hf,q⟩
theorem RF{p pos:Pos}(j:Gl X "zip")(l:X.mg "zip" = none)(i:PA X [x,y] ta)(hs:starEach [x,y] X.env=[(false,eval x X.env),(false,eval y X.env)]:=by rfl)(c:starEach [y] X.env=[(false,eval y X.env)]:=by rfl):
    PI X (.Name xn p2) (.Call (.Name "zip" p) [x,y] [] pos) (Ww X.K ta):=by
  intro O9 s σ H R I h;refine Call_ (xc I j l boot_zip (PyProof.Rows.callWith_type1 (thn (i pos O9 s σ H _ I h) λus t ⟨vs,H1,I1,r1,q1⟩=>?_) (by rw[hs,c]) (by rw[c];rfl)));obtain⟨a,b,xs,ys,e,m,n,q⟩:=q1;subst e;cases r1 with
  |cons r f =>
    cases f with
    |cons o f=>cases f;cases r;cases o;exact Hm (.nm ..) I1 m n q
end
end L2
namespace D
open PySem PySem.Spec PyProof.Rows L2
section
variable{X:Cx}{xn:Str}{p2:Pos}{f g:aF}
theorem Qe9{p pos:Pos}(o:Gl X "zip")(q:X.mg "zip" = none)(hx:DE X x f)(C:DE X y g)(hs:starEach [x,y] X.env=[(false,eval x X.env),(false,eval y X.env)]:=by rfl)(c:starEach [y] X.env=[(false,eval y X.env)]:=by rfl):
  DI X (.Name xn p2) (.Call (.Name "zip" p) [x,y] [] pos) (uP f g) :=
 L2.PI.imp (RF o q (Yf hx (Yf C pa_nil (by rw[c];rfl)) (by rw[hs,c])) hs c) λσ H R j=>by obtain⟨Z,env,ρ,B,U,ds,r,S,e,k⟩:=j;obtain⟨P,hp1,l,e⟩:=Qf e;obtain⟨xs,t,m,e⟩:=Qf e;obtain⟨rfl,rfl⟩:=Yk m;obtain⟨Q,z,n,e⟩:=Qf e;obtain⟨ys,O,e4,e⟩:=Qf e;obtain⟨rfl,rfl⟩:=Yk e4;obtain⟨rfl,rfl⟩:=Qk e;refine tD.run S l λv ρ1 B1 H1 g1 S1 J=>tD.run S1 n λu ρ2 B2 H2 g2 S2 L=>?_;obtain⟨a,vs,rfl,na,h,F⟩:=(au.grow S1.wo.rb g2 _ _ J).tupI;obtain⟨b,us,rfl,nb,i,I⟩:=L.tupI;exact⟨a,b,vs,us,rfl,h,i,k _ ρ2 B2 H2 (g1.trans g2) S2.wo (WU na h F nb i I)⟩
end
end D
namespace TR
structure Pg where
 lv:Nat
 ks:List Int
 ps:List Int
 hi:Option Int
 sd:Option Nat
structure Sh where
 O2:Nat
 pg:List Pg
 top:Nat
 rd:Int
 wr:Int
inductive bH where
 |find (k:Int)|put (k w:Int)|cut (k:Int)|stretch (l h:Int)
def bH.key:bH->Int
 |.find k=>k
 |.put k _=>k
 |.cut k=>k
 |.stretch l _=>l
structure Wk where
 O0:bH
 aim:Int
 O4:Nat
 O6:Option Nat
 O3:List (Nat×Nat)
 Oz:Option Nat
 O1:Option Int
 O5:List (Int×Int)
 O7:Bool
inductive Row where
 |non
 |side (n t:Nat)
 |down (n t:Nat)
 |found (n:Nat) (w:Option Int)
 |put (n:Nat) (w:Option Int) (k:Option Nat)
 |cut (n:Nat) (w:Option Int)
 |read (n:Nat) (ps:Ep) (t:Option (Nat×Int))
 |told (n:Nat) (k:Option Nat)
 |raised (n t:Nat)
def aG(ks:List Int)(k:Int):Nat:=(ks.filter λx=>decide (x<=k)).length
def aQ(ks:List Int)(k:Int):Nat:=(ks.filter λx=>decide (x<k)).length
def J2(fs:List (Nat×Nat))(k:Nat):Option Nat:=(fs.find? λp=>decide (p.1=k)).map (·.2)
def yP(fs:List (Nat×Nat))(k v:Nat):List (Nat×Nat):=if (fs.any λp=>decide (p.1=k))=true then fs.map (λp=>if p.1=k then (p.1,v)else p)else fs++[(k,v)]
def Jo(p:Pg)(k:Int):Bool:=match p.hi with
 |none=>false
 |some h=>decide (h<=k)
def QX(p:Pg)(k:Int):Option Int:=if aQ p.ks k=aG p.ks k then none else p.ps[aQ p.ks k]?
def QW(p:Pg)(k w:Int):Pg:={ p with ks:=p.ks.take (aQ p.ks k)++k::p.ks.drop (aG p.ks k),ps:=p.ps.take (aQ p.ks k)++w::p.ps.drop (aG p.ks k) }
def without(p:Pg)(k:Int):Pg:={ p with ks:=p.ks.take (aQ p.ks k)++p.ks.drop (aG p.ks k),ps:=p.ps.take (aQ p.ks k)++p.ps.drop (aG p.ks k) }
def Zh(p:Pg)(k:Int)(c:Nat):Pg:={ p with ks:=p.ks.take (aG p.ks k)++k::p.ks.drop (aG p.ks k),ps:=p.ps.take (aG p.ks k+1)++(c:Int)::p.ps.drop (aG p.ks k+1) }
def mid(p:Pg):Nat:=p.ks.length / 2
def Zn(p:Pg):Nat:=if p.lv=0 then mid p else mid p+1
def Xd(p:Pg):Int:=p.ks.getD (mid p) 0
def Q0(p:Pg)(n:Nat):Pg:=⟨p.lv,p.ks.take (mid p),p.ps.take (Zn p),some (Xd p),some n⟩
def QK(p:Pg):Pg:=⟨p.lv,p.ks.drop (Zn p),p.ps.drop (Zn p),p.hi,p.sd⟩
def Qt(S:Sh)(w:Wk)(n:Nat)(p:Pg):Option Nat×Sh×Wk :=
 if p.ks.length<=S.O2 then (none,{ S with pg:=S.pg.set n p,wr:=S.wr+1 },{ w with O7:=true })
 else (some S.pg.length,{ S with pg:=(S.pg++[QK p]).set n (Q0 p S.pg.length),wr:=S.wr+1+1 },{ w with Oz:=some S.pg.length,aim:=Xd p,O4:=p.lv+1,O6:=J2 w.O3 (p.lv+1) })
def Q1(p:Pg)(l h:Int):List (Int×Int):=(p.ks.zip p.ps).filter λq=>decide (l<=q.1)&&decide (q.1<h)
def Jz(S:Sh)(w:Wk)(n:Nat)(p:Pg):Row×Sh×Wk:=match w.O0 with
  |.find _=>(.found n (QX p w.aim),S,{ w with O1:=QX p w.aim,O7:=true })
  |.put _ x=>match Qt S { w with O1:=QX p w.aim } n (QW p w.aim x)with
    | (r,a,b)=>(.put n (QX p w.aim) r,a,b)
  |.cut _=>(.cut n (QX p w.aim),if (QX p w.aim).isSome=true then { S with pg:=S.pg.set n (without p w.aim),wr:=S.wr+1 }else S,{ w with O1:=QX p w.aim,O7:=true })
  |.stretch l h=>match p.hi,p.sd with
    |some x,some s=>if h<=x then (.read n (Q1 p l h) none,S,{ w with O5:=w.O5++Q1 p l h,O7:=true })
        else (.read n (Q1 p l h) (some (s,x)),S,{ w with O5:=w.O5++Q1 p l h,aim:=x,O6:=some s })
    |_,_=>(.read n (Q1 p l h) none,S,{ w with O5:=w.O5++Q1 p l h,O7:=true })
def Xj(S:Sh)(w:Wk):Option (Row×Sh×Wk) :=
  if w.O7=true then some (.non,S,w)else
  match S.pg[w.O6.getD S.top]? with
  |none=>none
  |some p =>
    if w.O6=none/\p.lv<w.O4 then
      match w.Oz with
      |none=>none
      |some k=>some (.raised S.top S.pg.length,{ S with rd:=S.rd+1,pg:=S.pg++[⟨p.lv+1,[w.aim],[(S.top:Int),(k:Int)],none,none⟩],top:=S.pg.length,wr:=S.wr+1 },{ w with O7:=true })
    else if Jo p w.aim=true then
      match p.sd with
      |none=>none
      |some s=>some (.side (w.O6.getD S.top) s,{ S with rd:=S.rd+1 },{ w with O6:=some s })
    else if w.O4<p.lv then
      match p.ps[aG p.ks w.aim]? with
      |none=>none
      |some c=>some (.down (w.O6.getD S.top) c.toNat,{ S with rd:=S.rd+1 },{ w with O3:=yP w.O3 p.lv (w.O6.getD S.top),O6:=some c.toNat })
    else if 0<w.O4 then
      match w.Oz with
      |none=>none
      |some k=>match Qt { S with rd:=S.rd+1 } w (w.O6.getD S.top) (Zh p w.aim k)with
        | (r,a,b)=>some (.told (w.O6.getD S.top) r,a,b)
    else some (Jz { S with rd:=S.rd+1 } w (w.O6.getD S.top) p)
theorem YO{ks:List Int}(h:ks.Pairwise (· < ·))(k:Int):ks.take (aG ks k)=ks.filter (λx=>decide (x<=k))/\ks.drop (aG ks k)=ks.filter (λx=>decide (k<x)):=by
  unfold aG;induction ks with
  |nil=>simp
  |cons x xs j =>
    obtain⟨h1,h2⟩:=Cp.mp h;by_cases q:x<=k
    . obtain⟨f,i⟩:=j h2
      have b:¬ k<x:=⋯
      simp[As,q,b,f,i]
    . have e:xs.filter (λy=>decide (y<=k))=[]:=by rw[List.filter_eq_nil_iff];intro y a;have:=h1 y a;simp;lia
      have c:xs.filter (λy=>decide (k<y))=xs:=by rw[Cu];intro y a;have:=h1 y a;simp;lia
      have b:k<x:=⋯
      simp[As,q,b,e,c]
theorem qT{ks:List Int}(h:ks.Pairwise (· < ·))(k:Int):ks.take (aQ ks k)=ks.filter (λx=>decide (x<k))/\ks.drop (aQ ks k)=ks.filter (λx=>decide (k<=x)):=by
  unfold aQ;induction ks with
  |nil=>simp
  |cons x xs j =>
    obtain⟨h1,h2⟩:=Cp.mp h;by_cases q:x<k
    . obtain⟨f,i⟩:=j h2
      have b:¬ k<=x:=⋯
      simp[As,q,b,f,i]
    . have e:xs.filter (λy=>decide (y<k))=[]:=by rw[List.filter_eq_nil_iff];intro y a;have:=h1 y a;simp;lia
      have c:xs.filter (λy=>decide (k<=y))=xs:=by rw[Cu];intro y a;have:=h1 y a;simp;lia
      have b:k<=x:=⋯
      simp[As,q,b,e,c]
def Xo(ks:List Int)(k:Int):aG ks k<=ks.length:=Cb _ _
def yq(ks:List Int)(k:Int):aQ ks k<=ks.length:=Cb _ _
theorem GN(ks:List Int)(k:Int):aQ ks k<=aG ks k:=by
  unfold aQ aG;induction ks with
  |nil=>simp
  |cons x xs a =>
    by_cases q:x<k
    . have:x<=k:=⋯
      simp[As,q,this,a]
    . by_cases b:x<=k
      . simp[As,q,b];lia
      . simp[As,q,b,a]
theorem Qc4{ks:List Int}(h:ks.Pairwise (· < ·))(k:Int):aG ks k<=aQ ks k+1:=by
  unfold aQ aG;induction ks with
  |nil=>simp
  |cons x xs b =>
    obtain⟨h1,h2⟩:=Cp.mp h;by_cases q:x<k
    . have:x<=k:=⋯
      have:=b h2;simp[As,q, *]
    . have e:xs.filter (λy=>decide (y<=k))=[]:=by rw[List.filter_eq_nil_iff];intro y a;have:=h1 y a;simp;lia
      by_cases c:x<=k<;>simp[As,q,c,e]
theorem Uh{ks:List Int}(h:ks.Pairwise (· < ·))(k:Int):(ks.take (aQ ks k)++k::ks.drop (aG ks k)).Pairwise (· < ·):=by
 rw[(qT h k).1,(YO h k).2];rw[Bv];refine⟨h.filter _,Cp.mpr ⟨λy a=>?_,h.filter _⟩,λx hx y a=>?_⟩
 ·simpa using(Bm.mp a).2
 ·have h1:x<k:=by simpa using(Bm.mp hx).2
  rcases Bk.mp a with rfl|a
  ·exact h1
  ·have h2:k<y:=by simpa using(Bm.mp a).2
   lia
theorem xP{ks:List Int}(h:ks.Pairwise (· < ·)){k x:Int}(hx:x∈ks.take (aQ ks k)++k::ks.drop (aG ks k)):x=k∨x∈ks:=by
 rcases Ai.mp hx with hx|hx
 ·exact .inr (Bx hx)
 ·rcases Bk.mp hx with rfl|hx
  ·exact .inl rfl
  ·exact .inr (Cd hx)
theorem kJ{ks:List Int}(h:ks.Pairwise (· < ·))(k:Int):(ks.take (aQ ks k)++ks.drop (aG ks k)).Pairwise (· < ·):=by
 rw[(qT h k).1,(YO h k).2];rw[Bv];refine⟨h.filter _,h.filter _,λx hx y a=>?_⟩;have h1:x<k:=by simpa using(Bm.mp hx).2
 have h2:k<y:=by simpa using(Bm.mp a).2
 lia
theorem Mq{ks:List Int}{k x:Int}(hx:x∈ks.take (aQ ks k)++ks.drop (aG ks k)):x∈ks:=by
 rcases Ai.mp hx with hx|hx
 ·exact Bx hx
 ·exact Cd hx
theorem Im{ks:List Int}(h:k∉ks):aQ ks k=aG ks k:=by
 unfold aQ aG;congr 1;apply List.filter_congr;intro x hx;have:x≠k:=λe=>h (e▸hx);by_cases q:x<k
 ·have:x<=k:=⋯
  simp[q,this]
 ·have:¬ x<=k:=⋯
  simp[q,this]
theorem zH(fs:List (Nat×Nat))(k v j:Nat):J2 (yP fs k v) j=if j=k then some v else J2 fs j:=by
  unfold yP J2;by_cases h:(fs.any λp=>decide (p.1=k))=true
  . rw[Eb h]
    induction fs with
    |nil=>simp at h
    |cons p fs b =>
      simp only[Bb,B8];by_cases q:p.1=k
      . by_cases e:j=k
        . subst e;simp[q]
        . have:¬ k=j:=λz=>e z.symm
          simp only[q,if_true,this,decide_false];by_cases h2:(fs.any λp=>decide (p.1=k))=true
          . have:=b h2;simpa [e]using this
          . have a:fs.map (λp=>if p.1=k then (p.1,v)else p)=fs:=by
              conv=>rhs;rw[<- List.map_id fs]
              apply List.map_congr_left;intro x hx;have:¬ x.1=k:=λz=>h2 (by rw[List.any_eq_true];exact⟨x,hx,by simpa using z⟩);simp[this]
            rw[a,Ea e]
      . have h2:(fs.any λp=>decide (p.1=k))=true:=by simpa [Cs,q]using h
        have:=b h2;simp only[q,if_false];by_cases e:p.1=j
        . have:¬ j=k:=λz=>q (e.trans z)
          simp[e,this]
        . simpa [e]using this
  . rw[Ea h,List.find?_append]
    have c:∀p∈fs,¬ p.1=k:=λp U z=>h (by rw[List.any_eq_true];exact⟨p,U,by simpa using z⟩);by_cases e:j=k
    . subst e
      have:fs.find? (λp=>decide (p.1=j))=none:=by rw[List.find?_eq_none];intro p U;simpa using c p U
      simp[this]
    . have:¬ k=j:=λz=>e z.symm
      simp[this,e]
abbrev Bg:=Nat->Option Int
def leB(b:Option Int)(x:Int):Prop:=∀v,b=some v->v<=x
def ltB(b:Option Int)(x:Int):Prop:=∀v,b=some v->v<x
def lG(x:Int)(h:Option Int):Prop:=∀v,h=some v->x<v
def cO(b c:Option Int):Prop:=∀v,b=some v->∃u,c=some u/\v<=u
def cO.refl(b:Option Int):cO b b:=λv h=>⟨v,h,Bo _⟩
theorem cO.trans{a b c:Option Int}(h:cO a b)(g:cO b c):cO a c:=λv e=>by obtain⟨u,f,j⟩:=h v e;obtain⟨x,i,l⟩:=g u f;exact⟨x,i,⋯⟩
def Ju(b:Option Int)(ks:List Int):Nat->Option Int
 |0=>b
 |j+1=>ks[j]?
structure JP(O2:Nat)(b:Option Int)(p:Pg):Prop where
 sorted:p.ks.Pairwise (· < ·)
 few:p.ks.length<=O2
 parts:p.ps.length=p.ks.length+(if p.lv=0 then 0 else 1)
 low:∀k∈p.ks,leB b k
 dD:0<p.lv->∀k∈p.ks,ltB b k
 high:∀k∈p.ks,lG k p.hi
 wide:∀h,p.hi=some h->ltB b h
structure Tree(S:Sh)(bg:Bg):Prop where
 cU:2<=S.O2
 root:∃r:Pg,S.pg[S.top]?=some r/\∀(n:Nat)(p:Pg),S.pg[n]?=some p->p.lv<=r.lv
 lE:bg S.top=none
 page:∀(n:Nat)(p:Pg),S.pg[n]?=some p->JP S.O2 (bg n) p
 link:∀(n:Nat)(p:Pg),S.pg[n]?=some p->(p.hi=none/\p.sd=none)∨∃(h:Int)(s:Nat)(q:Pg),p.hi=some h/\p.sd=some s/\S.pg[s]?=some q/\q.lv=p.lv/\bg s=some h
 kid:∀(n:Nat)(p:Pg),S.pg[n]?=some p->0<p.lv->∀j k,p.ps[j]?=some k->∃(c:Nat)(q:Pg),k=(c:Int)/\S.pg[c]?=some q/\q.lv+1=p.lv/\bg c=Ju (bg n) p.ks j
 dis:∀(n m:Nat)(p q:Pg),S.pg[n]?=some p->S.pg[m]?=some q->p.lv=q.lv->n≠m->(∃h v,p.hi=some h/\bg m=some v/\h<=v)∨(∃h v,q.hi=some h/\bg n=some v/\h<=v)
 pred:∀(n:Nat)(p:Pg),S.pg[n]?=some p->∀v,bg n=some v->∃(m:Nat)(q:Pg),S.pg[m]?=some q/\q.lv=p.lv/\q.hi=some v
theorem Tree.uniq{S:Sh}{bg:Bg}(T:Tree S bg){n m:Nat}{p q:Pg}(c:S.pg[n]?=some p)(b:S.pg[m]?=some q)(e:p.lv=q.lv)(a:bg n=bg m):n=m:=by
 rcases Nat.decEq n m with h|h
 ·exfalso;rcases T.dis n m p q c b e h with ⟨x,v,h1,h2,h3⟩|⟨x,v,h1,h2,h3⟩
  ·have:=(T.page n p c).wide x h1 v (a.trans h2);lia
  ·have:=(T.page m q b).wide x h1 v (a.symm.trans h2);lia
 ·exact h
structure aV(S:Sh)(bg:Bg)(S':Sh)(aH:Bg):Prop where
 old:∀(n:Nat)(p:Pg),S.pg[n]?=some p->aH n=bg n/\∃p':Pg,S'.pg[n]?=some p'/\p'.lv=p.lv
def aV.refl:aV S bg S bg:=⟨λn p h=>⟨rfl,p,h,rfl⟩⟩
theorem aV.trans(a:aV S bg S' aH)(b:aV S' aH RM wA):aV S bg RM wA:=⟨λn p h=>by obtain⟨c,j,h1,f⟩:=a.old n p h;obtain⟨e,l,h2,i⟩:=b.old n j h1;exact⟨e.trans c,l,h2,i.trans f⟩⟩
def aU(S:Sh)(k:Nat):Prop:=∀(n:Nat)(p:Pg),S.pg[n]?=some p->0<p.lv->(k:Int)∉p.ps
structure aM(S:Sh)(bg:Bg)(w:Wk):Prop where
 at_:∀n:Nat,w.O6=some n->∃p:Pg,S.pg[n]?=some p/\w.O4<=p.lv/\leB (bg n) w.aim
 none_:w.O6=none->∀l f,J2 w.O3 l=some f->l<w.O4
 kept:∀l f,J2 w.O3 l=some f->∃p:Pg,S.pg[f]?=some p/\p.lv=l
 above:∀(n:Nat)(p:Pg),w.O6=some n->S.pg[n]?=some p->∀l f,J2 w.O3 l=some f->p.lv<l->cO (bg f) (bg n)
 chain:∀l f l' f',J2 w.O3 l=some f->J2 w.O3 l'=some f'->w.O4<=l->l<l'->cO (bg f') (bg f)
 gap:∀(n:Nat)(p:Pg),w.O6=some n->S.pg[n]?=some p->w.O4<p.lv->∀l f,J2 w.O3 l=some f->l<w.O4∨p.lv<l
 full:∀(n:Nat)(p:Pg),w.O6=some n->S.pg[n]?=some p->∀l' f',J2 w.O3 l'=some f'->∀l,p.lv<l->l<=l'->∃f,J2 w.O3 l=some f
 tell:0<w.O4->∃(k:Nat)(q:Pg),w.Oz=some k/\S.pg[k]?=some q/\q.lv+1=w.O4/\bg k=some w.aim
theorem aM.grow{w:Wk}(W:aM S bg w)(g:aV S bg S' aH):aM S' aH w where
 at_:=λn h=>by obtain⟨p,h1,h2,h3⟩:=W.at_ n h;obtain⟨e,p',h4,h5⟩:=g.old n p h1;exact⟨p',h4,⋯,by rw[e];exact h3⟩
 none_:=W.none_
 kept:=λl f h=>by obtain⟨p,h1,h2⟩:=W.kept l f h;obtain⟨e,p',h4,h5⟩:=g.old f p h1;exact⟨p',h4,⋯⟩
 above:=λn p' U c l f hf u=>by obtain⟨p,h1,_⟩:=W.at_ n U;obtain⟨e,r,h4,h5⟩:=g.old n p h1;rw[h4]at c;cases c;obtain⟨t,o,_⟩:=W.kept l f hf;rw[e,(g.old f t o).1];exact W.above n p U h1 l f hf ⋯
 chain:=λl f j i h h' a b=>by obtain⟨p,h1,_⟩:=W.kept l f h;obtain⟨p',m,_⟩:=W.kept j i h';rw[(g.old f p h1).1,(g.old i p' m).1];exact W.chain l f j i h h' a b
 gap:=λn p' U c a l f hf=>by obtain⟨p,h1,_⟩:=W.at_ n U;obtain⟨e,r,h4,h5⟩:=g.old n p h1;rw[h4]at c;cases c;rw[h5];exact W.gap n p U h1 ⋯ l f hf
 full:=λn p' U c j i hf l a b=>by obtain⟨p,h1,_⟩:=W.at_ n U;obtain⟨e,r,h4,h5⟩:=g.old n p h1;rw[h4]at c;cases c;exact W.full n p U h1 j i hf l ⋯ b
 tell:=λh=>by obtain⟨k,q,h1,h2,h3,h4⟩:=W.tell h;obtain⟨e,p',h5,o⟩:=g.old k q h2;exact⟨k,p',h1,h5,⋯,by rw[e];exact h4⟩
theorem aM.fresh{w:Wk}(h1:w.O6=none)(h2:w.O3=[])(h3:w.O4=0):aM S bg w where
 at_:=λn h=>by rw[h1]at h;cases h
 none_:=λ_ l f h=>by rw[h2]at h;cases h
 kept:=λl f h=>by rw[h2]at h;cases h
 above:=λn p h=>by rw[h1]at h;cases h
 chain:=λl f b a h=>by rw[h2]at h;cases h
 gap:=λn p h=>by rw[h1]at h;cases h
 full:=λn p h=>by rw[h1]at h;cases h
 tell:=λh=>⋯
theorem Q7{α:Type}{xs:List α}{n m:Nat}{x y:α}(h:(xs.set n x)[m]?=some y):(m=n/\y=x/\n<xs.length)∨(m≠n/\xs[m]?=some y):=by
 by_cases e:m=n
 ·subst e;by_cases a:m<xs.length
  ·rw[Au a]at h;cases h;exact .inl ⟨rfl,rfl,a⟩
  ·rw[List.getElem?_eq_none (by simpa using a)]at h;cases h
 ·rw[Am (Ne.symm e)]at h;exact .inr ⟨e,h⟩
theorem Mg{α:Type}{xs:List α}{n m:Nat}{x y:α}(h:xs[m]?=some y):(xs.set n x)[m]?=some (if m=n then x else y):=by
 have a:=(Ac.mp h).1;by_cases e:m=n
 ·subst e;rw[Au a,Eb rfl]
 ·rw[Am (Ne.symm e),h,Ea e]
theorem Tree.write{S:Sh}{bg:Bg}(T:Tree S bg){n:Nat}{p p':Pg}{x y:Int}(I:S.pg[n]?=some p)(F:p'.lv=p.lv)(z:p'.hi=p.hi)(hs:p'.sd=p.sd)(ok:JP S.O2 (bg n) p')
  (hk:0<p.lv->∀j k,p'.ps[j]?=some k->∃(c:Nat)(q:Pg),k=(c:Int)/\S.pg[c]?=some q/\q.lv+1=p.lv/\bg c=Ju (bg n) p'.ks j) :
  Tree { S with pg:=S.pg.set n p',rd:=x,wr:=y } bg/\aV S bg { S with pg:=S.pg.set n p',rd:=x,wr:=y } bg:=by
 have old:∀(m:Nat)(q:Pg),S.pg[m]?=some q->∃f:Pg,(S.pg.set n p')[m]?=some f/\f.lv=q.lv/\f.hi=q.hi/\f.sd=q.sd:=λm q h=>by
  refine⟨_,Mg h,?_⟩;by_cases e:m=n
  ·subst e;rw[I]at h;cases h;simp[F,z,hs]
  ·simp[e]
 have new:∀(m:Nat)(f:Pg),(S.pg.set n p')[m]?=some f->∃q:Pg,S.pg[m]?=some q/\f.lv=q.lv/\f.hi=q.hi/\f.sd=q.sd:=λm f h=>by
  rcases Q7 h with ⟨rfl,rfl,_⟩|⟨_,h⟩
  ·exact⟨p,I,F,z,hs⟩
  ·exact⟨f,h,rfl,rfl,rfl⟩
 refine⟨⟨T.cU,?_,T.lE,λm q h=>?_,λm q h=>?_,λm q h h0 j k C=>?_,λa b q r O Q P e=>?_,λm q h v R=>?_⟩,⟨λm q h=>⟨rfl,by obtain⟨f,h1,h2,_⟩:=old m q h;exact⟨f,h1,h2⟩⟩⟩⟩
 ·obtain⟨r,h1,h2⟩:=T.root;obtain⟨i,h3,h4,_⟩:=old _ _ h1;exact⟨i,h3,λm q h=>by obtain⟨o,h5,u,_⟩:=new m q h;rw[u,h4];exact h2 m o h5⟩
 ·rcases Q7 h with ⟨rfl,rfl,_⟩|⟨_,h⟩
  ·exact ok
  ·exact T.page m q h
 ·obtain⟨o,h1,h2,h3,h4⟩:=new m q h;rcases T.link m o h1 with ⟨a,b⟩|⟨x,s,r,a,b,c,d,e⟩
  ·exact .inl ⟨h3.trans a,h4.trans b⟩
  ·obtain⟨i,l,t,_⟩:=old s r c;exact .inr ⟨x,s,i,h3.trans a,h4.trans b,l,by rw[t,d,h2],e⟩
 ·rcases Q7 h with ⟨rfl,rfl,_⟩|⟨_,h⟩
  ·obtain⟨c,r,h1,h2,h3,h4⟩:=hk ⋯ j k C;obtain⟨i,l,t,_⟩:=old c r h2;exact⟨c,i,h1,l,⋯,h4⟩
  ·obtain⟨c,r,h1,h2,h3,h4⟩:=T.kid m q h h0 j k C;obtain⟨i,l,t,_⟩:=old c r h2;exact⟨c,i,h1,l,⋯,h4⟩
 ·obtain⟨o,h1,h2,h3,_⟩:=new a q O;obtain⟨U,h5,u,L,_⟩:=new b r Q;rw[h3,L];exact T.dis a b o U h1 h5 ⋯ e
 ·obtain⟨o,h1,h2,_⟩:=new m q h;obtain⟨a,r,h3,h4,h5⟩:=T.pred m o h1 v R;obtain⟨i,l,t,J,_⟩:=old a r h3;exact⟨a,i,l,⋯,J.trans h5⟩
theorem Jr{α:Type}{xs:List α}{x:α}{m:Nat}{y:α}(h:(xs++[x])[m]?=some y):(m=xs.length/\y=x)∨xs[m]?=some y:=by
 rcases Bh m xs.length with q|q
 ·rw[Ah q]at h;exact .inr h
 ·rw[Aq q]at h;by_cases e:m-xs.length=0
  ·rw[e]at h;simp at h;exact .inl ⟨⋯,h.symm⟩
  ·rw[List.getElem?_eq_none (by simp;lia)]at h;cases h
theorem J9{α:Type}{xs:List α}{x:α}{m:Nat}{y:α}(h:xs[m]?=some y):(xs++[x])[m]?=some y:=by rw[Ah (Ac.mp h).1];exact h
def QJ{α:Type}{xs:List α}{m:Nat}{y:α}(h:xs[m]?=some y):m<xs.length:=(Ac.mp h).1
def Yb(bg:Bg)(l:Nat)(k:Option Int):Bg:=λi=>if i=l then k else bg i
theorem KN{bg:Bg}{l:Nat}{k:Option Int}{i:Nat}(h:i<l):Yb bg l k i=bg i:=by unfold Yb;rw[Ea ⋯]
theorem Jb{l:Nat}{k:Option Int}:Yb bg l k l=k:=by unfold Yb;rw[Eb rfl]
section
variable{S:Sh}{bg:Bg}{n:Nat}{p P:Pg}
theorem qL(h3:1<=P.ks.length):P.ks[mid P]?=some (Xd P):=by
 have:mid P<P.ks.length:=by unfold mid;lia
 unfold Xd;rw[List.getD_eq_getElem?_getD,Ab this];rfl
theorem qS{ks:List Int}(h:ks.Pairwise (· < ·)){i j:Nat}{x y:Int}(hi:ks[i]?=some x)(e:ks[j]?=some y)(c:i<j):x<y:=by obtain⟨a,rfl⟩:=Ac.mp hi;obtain⟨b,rfl⟩:=Ac.mp e;exact List.pairwise_iff_getElem.mp h i j a b c
theorem G9(ok:JP P.ks.length (bg n) P)(h3:3<=P.ks.length):ltB (bg n) (Xd P):=by intro v c;have h0:P.ks[0]?=some (P.ks[0]'⋯):=Ab _;have a:=ok.low _ (B9 (by lia:0<P.ks.length)) v c;have b:=qS ok.sorted h0 (qL (P:=P) ⋯) (by unfold mid;lia);lia
theorem x_(ok:JP P.ks.length (bg n) P)(h3:3<=P.ks.length)(j:P.ks.length<=S.O2+1)(l:Nat):JP S.O2 (bg n) (Q0 P l) where
 sorted:=ok.sorted.sublist (List.take_sublist _ _)
 few:=by show(P.ks.take (mid P)).length<=_;rw[A9];unfold mid;lia
 parts:=by show(P.ps.take (Zn P)).length=(P.ks.take (mid P)).length+(if P.lv=0 then 0 else 1);have:=ok.parts;rw[A9,A9];unfold Zn mid;split at this<;>split<;>simp_all<;>lia
 low:=λk a=>ok.low k (Bx a)
 dD:=λh k a=>ok.dD h k (Bx a)
 high:=λk a v f=>by
  cases f;obtain⟨i,hi,e⟩:=Cr.mp a;simp only[Q0,Cz]at e;have b:i<mid P:=by have:=hi;rw[show(Q0 P l).ks=P.ks.take (mid P)from rfl,A9]at this;lia
  exact qS ok.sorted (i:=i) (by rw[<- e];exact Ab _) (qL (P:=P) ⋯) b
 wide:=λh c=>by cases c;exact G9 ok h3
theorem We(ok:JP P.ks.length (bg n) P)(h3:3<=P.ks.length)(j:P.ks.length<=S.O2+1):JP S.O2 (some (Xd P)) (QK P) where
 sorted:=ok.sorted.sublist (List.drop_sublist _ _)
 few:=by show(P.ks.drop (Zn P)).length<=_;rw[Bq];unfold Zn mid;split<;>lia
 parts:=by show(P.ps.drop (Zn P)).length=(P.ks.drop (Zn P)).length+(if P.lv=0 then 0 else 1);have:=ok.parts;rw[Bq,Bq];unfold Zn mid;split at this<;>split<;>simp_all<;>lia
 low:=λk b v c=>by
  cases c;obtain⟨i,hi,e⟩:=Cr.mp b;rw[show(QK P).ks=P.ks.drop (Zn P)from rfl]at hi;have hi2:Zn P+i<P.ks.length:=by rw[Bq]at hi;lia
  have a:P.ks[Zn P+i]?=some k:=by rw[<- e];rw[Ab hi2];simp[QK]
  rcases Bh (mid P) (Zn P+i)with q|q
  ·exact Ck (qS ok.sorted (qL (P:=P) ⋯) a q)
  ·have:mid P=Zn P+i:=by unfold Zn at q ⊢;split<;>simp_all<;>lia
   rw[<- this,qL (P:=P) ⋯]at a;cases a;lia
 dD:=λh k b v c=>by
  cases c;obtain⟨i,hi,e⟩:=Cr.mp b;rw[show(QK P).ks=P.ks.drop (Zn P)from rfl]at hi;have hi2:Zn P+i<P.ks.length:=by rw[Bq]at hi;lia
  have a:P.ks[Zn P+i]?=some k:=by rw[<- e];rw[Ab hi2];simp[QK]
  have h':0<P.lv:=h;exact qS ok.sorted (qL (P:=P) ⋯) a (by unfold Zn;rw[Ea ⋯];lia)
 high:=λk b=>ok.high k (Cd b)
 wide:=λh f v c=>by cases c;exact ok.high _ (Aw (qL (P:=P) ⋯)) h f
theorem Tree.split(T:Tree S bg){x y:Int}(u:S.pg[n]?=some p)(hl:P.lv=p.lv)(hh:P.hi=p.hi)(hs:P.sd=p.sd)(ok:JP P.ks.length (bg n) P)(h1:S.O2<P.ks.length)(h2:P.ks.length<=S.O2+1)
  (hk:0<p.lv->∀j k,P.ps[j]?=some k->∃(c:Nat)(q:Pg),k=(c:Int)/\S.pg[c]?=some q/\q.lv+1=p.lv/\bg c=Ju (bg n) P.ks j) :
  Tree { S with pg:=(S.pg++[QK P]).set n (Q0 P S.pg.length),rd:=x,wr:=y } (Yb bg S.pg.length (some (Xd P)))/\aV S bg { S with pg:=(S.pg++[QK P]).set n (Q0 P S.pg.length),rd:=x,wr:=y } (Yb bg S.pg.length (some (Xd P))):=by
 have r2:=T.cU;have h3:3<=P.ks.length:=⋯
 have ay:=QJ u;have kg:=qL (P:=P) ⋯;have kl:=G9 ok h3;have kh:∀h,p.hi=some h->Xd P<h:=λh e=>ok.high _ (Aw kg) h (hh.trans e);have bo:∀m q,S.pg[m]?=some q->Yb bg S.pg.length (some (Xd P)) m=bg m:=λm q h=>KN (QJ h);have old:∀(m:Nat)(q:Pg),S.pg[m]?=some q->∃U:Pg,((S.pg++[QK P]).set n (Q0 P S.pg.length))[m]?=some U/\U.lv=q.lv/\(m≠n->U=q)/\(m=n->U=Q0 P S.pg.length):=λm q h=>by
  refine⟨_,Mg (J9 h),?_,λe=>by rw[Ea e],λe=>by rw[Eb e]⟩;by_cases e:m=n
  ·subst e;rw[u]at h;cases h;rw[Eb rfl];exact hl
  ·rw[Ea e]
 have gl:((S.pg++[QK P]).set n (Q0 P S.pg.length))[S.pg.length]?=some (QK P):=by rw[Am ⋯,Aq (Ae _)];simp
 have gn:((S.pg++[QK P]).set n (Q0 P S.pg.length))[n]?=some (Q0 P S.pg.length):=by rw[Au (by simp;lia)]
 have new:∀(m:Nat)(q:Pg),((S.pg++[QK P]).set n (Q0 P S.pg.length))[m]?=some q->(m=n/\q=Q0 P S.pg.length)∨(m=S.pg.length/\q=QK P)∨(m≠n/\S.pg[m]?=some q):=λm q h=>by
  rcases Q7 h with ⟨a,b,_⟩|⟨a,b⟩
  ·exact .inl ⟨a,b⟩
  ·rcases Jr b with c|c
   ·exact .inr (.inl c)
   ·exact .inr (.inr ⟨a,c⟩)
 have mJ:(Q0 P S.pg.length).lv=p.lv:=hl;have Q:(QK P).lv=p.lv:=hl;refine⟨⟨r2,?_,?_,λm q h=>?_,λm q h=>?_,λm q h h0 j k hj=>?_,λa b q r ha L F e=>?_,λm q h v O=>?_⟩,⟨λm q h=>⟨bo m q h,by obtain⟨U,a,b,_⟩:=old m q h;exact⟨U,a,b⟩⟩⟩⟩
 ·obtain⟨r,a,b⟩:=T.root;obtain⟨r',c,d,_⟩:=old _ _ a;refine⟨r',c,λm q h=>?_⟩;rcases new m q h with ⟨_,rfl⟩|⟨_,rfl⟩|⟨_,h⟩
  ·rw[mJ,d];exact b n p u
  ·rw[Q,d];exact b n p u
  ·rw[d];exact b m q h
 ·obtain⟨r,a,_⟩:=T.root;rw[show Yb bg S.pg.length (some (Xd P)) S.top=bg S.top from bo _ _ a];exact T.lE
 ·rcases new m q h with ⟨rfl,rfl⟩|⟨rfl,rfl⟩|⟨_,h⟩
  ·rw[bo _ _ u];exact x_ ok h3 h2 _
  ·rw[Jb];exact We ok h3 h2
  ·rw[bo _ _ h];exact T.page m q h
 ·rcases new m q h with ⟨rfl,rfl⟩|⟨rfl,rfl⟩|⟨_,h⟩
  ·exact .inr ⟨Xd P,S.pg.length,QK P,rfl,rfl,gl,rfl,Jb⟩
  ·rcases T.link n p u with ⟨a,b⟩|⟨z,s,r,a,b,c,d,e⟩
   ·exact .inl ⟨hh.trans a,hs.trans b⟩
   ·obtain⟨r',I,Y,_⟩:=old s r c;exact .inr ⟨z,s,r',hh.trans a,hs.trans b,I,by rw[Y,d,Q],by rw[bo _ _ c];exact e⟩
  ·rcases T.link m q h with ⟨a,b⟩|⟨z,s,r,a,b,c,d,e⟩
   ·exact .inl ⟨a,b⟩
   ·obtain⟨r',I,Y,_⟩:=old s r c;exact .inr ⟨z,s,r',a,b,I,by rw[Y,d],by rw[bo _ _ c];exact e⟩
 ·have R:∀{b0:Option Int}{tM:List Int}{j0:Nat}{X:Option Int}{tL:List Int}{l1:Nat},Ju b0 tM j0=Ju X tL j->l1=p.lv->(∃(c:Nat)(q:Pg),k=(c:Int)/\S.pg[c]?=some q/\q.lv+1=p.lv/\bg c=Ju b0 tM j0)->∃(c:Nat)(q:Pg),k=(c:Int)/\((S.pg++[QK P]).set n (Q0 P S.pg.length))[c]?=some q/\q.lv+1=l1/\Yb bg S.pg.length (some (Xd P)) c=Ju X tL j:=λ{b0 tM j0 X tL l1} e el aK=>by obtain⟨c,q,o,f,C,a4⟩:=aK;obtain⟨U,I,Y,_⟩:=old c q f;exact⟨c,U,o,I,⋯,by rw[bo _ _ f,a4,e]⟩
  rcases new m q h with ⟨rfl,rfl⟩|⟨rfl,rfl⟩|⟨_,h⟩
  ·rw[mJ]at h0;have hc:Zn P=mid P+1:=by unfold Zn;rw[Ea ⋯]
   have av:j<mid P+1:=by have:=QJ hj;rw[show(Q0 P S.pg.length).ps=P.ps.take (Zn P)from rfl,A9,hc]at this;lia
   have ae:P.ps[j]?=some k:=by rw[show(Q0 P S.pg.length).ps=P.ps.take (Zn P)from rfl,Ca ⋯]at hj;exact hj
   refine R ?_ mJ (hk h0 j k ae);rw[bo _ _ u];cases j with
   |zero=>rfl
   |succ i=>show P.ks[i]?=(P.ks.take (mid P))[i]?;rw[Ca ⋯]
  ·rw[Q]at h0;have hc:Zn P=mid P+1:=by unfold Zn;rw[Ea ⋯]
   have ae:P.ps[mid P+1+j]?=some k:=by rw[show(QK P).ps=P.ps.drop (Zn P)from rfl,Cc,hc]at hj;exact hj
   refine R ?_ Q (hk h0 _ k ae);rw[Jb];cases j with
   |zero=>show P.ks[mid P+0]?=some (Xd P);exact kg
   |succ i=>show P.ks[mid P+1+i]?=(P.ks.drop (Zn P))[i]?;rw[Cc,hc]
  ·obtain⟨c,r,o,f,C,a4⟩:=T.kid m q h h0 j k hj;obtain⟨r',I,Y,_⟩:=old c r f;exact⟨c,r',o,I,⋯,by rw[bo _ _ f,bo _ _ h,a4]⟩
 ·have on:∀(b:Nat)(r:Pg),b≠n->S.pg[b]?=some r->p.lv=r.lv->(∃h v,(Q0 P S.pg.length).hi=some h/\Yb bg S.pg.length (some (Xd P)) b=some v/\h<=v)∨(∃h v,r.hi=some h/\Yb bg S.pg.length (some (Xd P)) n=some v/\h<=v):=λb r ab L mU=>by
   rcases T.dis n b p r u L mU (Ne.symm ab)with ⟨h,v,o,f,C⟩|⟨h,v,o,f,C⟩
   ·exact .inl ⟨Xd P,v,rfl,by rw[bo _ _ L];exact f,by have:=kh h o;lia⟩
   ·exact .inr ⟨h,v,o,by rw[bo _ _ u];exact f,C⟩
  have nn:∀(b:Nat)(r:Pg),b≠n->S.pg[b]?=some r->p.lv=r.lv->(∃h v,(QK P).hi=some h/\Yb bg S.pg.length (some (Xd P)) b=some v/\h<=v)∨(∃h v,r.hi=some h/\Yb bg S.pg.length (some (Xd P)) S.pg.length=some v/\h<=v):=λb r ab L mU=>by
   rcases T.dis n b p r u L mU (Ne.symm ab)with ⟨h,v,o,f,C⟩|⟨h,v,o,f,C⟩
   ·exact .inl ⟨h,v,hh.trans o,by rw[bo _ _ L];exact f,C⟩
   ·exact .inr ⟨h,Xd P,o,Jb,by have:=kl v f;lia⟩
  rcases new a q ha with ⟨rfl,rfl⟩|⟨rfl,rfl⟩|⟨na,J⟩
  ·rcases new b r L with ⟨rfl,rfl⟩|⟨rfl,rfl⟩|⟨nb,t⟩
   ·exact absurd rfl e
   ·exact .inl ⟨Xd P,Xd P,rfl,Jb,Bo _⟩
   ·exact on b r nb t (by rw[<- F,mJ])
  ·rcases new b r L with ⟨rfl,rfl⟩|⟨rfl,rfl⟩|⟨nb,t⟩
   ·exact .inr ⟨Xd P,Xd P,rfl,Jb,Bo _⟩
   ·exact absurd rfl e
   ·exact nn b r nb t (by rw[<- F,Q])
  ·rcases new b r L with ⟨rfl,rfl⟩|⟨rfl,rfl⟩|⟨nb,t⟩
   ·exact(on a q na J (by rw[F,mJ])).symm
   ·exact(nn a q na J (by rw[F,Q])).symm
   ·rcases T.dis a b q r J t F e with ⟨h,v,o,f,C⟩|⟨h,v,o,f,C⟩
    ·exact .inl ⟨h,v,o,by rw[bo _ _ t];exact f,C⟩
    ·exact .inr ⟨h,v,o,by rw[bo _ _ J];exact f,C⟩
 ·have pr:∀(l:Nat)(z:Pg),S.pg[l]?=some z->z.hi=some v->∃(m:Nat)(q:Pg),((S.pg++[QK P]).set n (Q0 P S.pg.length))[m]?=some q/\q.lv=z.lv/\q.hi=some v:=λl z hz O=>by
   by_cases e:l=n
   ·subst e;rw[u]at hz;cases hz;exact⟨_,_,gl,Q,hh.trans O⟩
   ·obtain⟨z',I,Y,c3,_⟩:=old l z hz;exact⟨l,z',I,Y,by rw[c3 e];exact O⟩
  rcases new m q h with ⟨rfl,rfl⟩|⟨rfl,rfl⟩|⟨nm,h⟩
  ·rw[bo _ _ u]at O;obtain⟨a,z,X,b2,b3⟩:=T.pred m p u v O;obtain⟨c,z',d1,d2,d3⟩:=pr a z X b3;exact⟨c,z',d1,by rw[d2,b2,mJ],d3⟩
  ·rw[Jb]at O;exact⟨n,_,gn,by rw[mJ,Q],O⟩
  ·rw[bo _ _ h]at O;obtain⟨a,z,X,b2,b3⟩:=T.pred m q h v O;obtain⟨c,z',d1,d2,d3⟩:=pr a z X b3;exact⟨c,z',d1,by rw[d2,b2],d3⟩
end
section
variable{S:Sh}{bg:Bg}{n:Nat}{p:Pg}
theorem Tree.raise(T:Tree S bg){r q:Pg}{k:Nat}{aim x y:Int}(O:S.pg[S.top]?=some r)(J:S.pg[k]?=some q)(hl:q.lv=r.lv)(hb:bg k=some aim):
    Tree { S with rd:=x,pg:=S.pg++[⟨r.lv+1,[aim],[(S.top:Int),(k:Int)],none,none⟩],top:=S.pg.length,wr:=y } (Yb bg S.pg.length none)/\aV S bg { S with rd:=x,pg:=S.pg++[⟨r.lv+1,[aim],[(S.top:Int),(k:Int)],none,none⟩],top:=S.pg.length,wr:=y } (Yb bg S.pg.length none):=by
  have r2:=T.cU;have P:∀(m:Nat)(z:Pg),S.pg[m]?=some z->z.lv<=r.lv:=λm z h=>by obtain⟨r',a,b⟩:=T.root;rw[O]at a;cases a;exact b m z h
  have bo:∀(m:Nat)(z:Pg),S.pg[m]?=some z->Yb bg S.pg.length none m=bg m:=λm z h=>KN (QJ h);have gl:(S.pg++[(⟨r.lv+1,[aim],[(S.top:Int),(k:Int)],none,none⟩:Pg)])[S.pg.length]?=some ⟨r.lv+1,[aim],[(S.top:Int),(k:Int)],none,none⟩:=by simp
  refine⟨⟨r2,⟨_,gl,λm z h=>?_⟩,Jb,λm z h=>?_,λm z h=>?_,λm z h h0 j c l=>?_,λa b z L ha I t e=>?_,λm z h v f=>?_⟩,⟨λm z h=>⟨bo m z h,z,J9 h,rfl⟩⟩⟩
  . rcases Jr h with ⟨_,rfl⟩|h
    . exact Ae _
    . exact Nat.le_succ_of_le (P m z h)
  . rcases Jr h with ⟨rfl,rfl⟩|h
    . rw[Jb]
      exact⟨by simp,by show 1<=S.O2;lia,by simp,λk J v f=>(by cases f),λ_ k J v f=>(by cases f),λk J v f=>(by cases f),λh hh=>(by cases hh)⟩
    . rw[bo _ _ h];exact T.page m z h
  . rcases Jr h with ⟨rfl,rfl⟩|h
    . exact .inl ⟨rfl,rfl⟩
    . rcases T.link m z h with a|⟨z1,s,z2,a,b,c,d,e⟩
      . exact .inl a
      . exact .inr ⟨z1,s,z2,a,b,J9 c,d,by rw[bo _ _ c];exact e⟩
  . rcases Jr h with ⟨rfl,rfl⟩|h
    . match j,l with
      |0,l=>cases l;exact⟨S.top,r,rfl,J9 O,rfl,by rw[bo _ _ O,Jb];exact T.lE⟩
      |1,l=>cases l;exact⟨k,q,rfl,J9 J,by show q.lv+1=r.lv+1;lia,by rw[bo _ _ J];exact hb⟩
      |j+2,l=>simp at l
    . obtain⟨Y,L,C,u,F,Q⟩:=T.kid m z h h0 j c l
      exact⟨Y,L,C,J9 u,F,by rw[bo _ _ u,bo _ _ h,Q]⟩
  . rcases Jr ha with ⟨rfl,rfl⟩|o
    . rcases Jr I with ⟨rfl,rfl⟩|i
      . exact absurd rfl e
      . have:=P b L i;have:r.lv+1=L.lv:=t;lia
    . rcases Jr I with ⟨rfl,rfl⟩|i
      . have:=P a z o;have:z.lv=r.lv+1:=t;lia
      . rcases T.dis a b z L o i t e with ⟨h,v,C,u,F⟩|⟨h,v,C,u,F⟩
        . exact .inl ⟨h,v,C,by rw[bo _ _ i];exact u,F⟩
        . exact .inr ⟨h,v,C,by rw[bo _ _ o];exact u,F⟩
  . rcases Jr h with ⟨rfl,rfl⟩|h
    . rw[Jb]at f;cases f
    . rw[bo _ _ h]at f
      obtain⟨a,z1,R,U,X⟩:=T.pred m z h v f;exact⟨a,z1,J9 R,U,X⟩
theorem V0{k:Int}(h:Jo p k=false):lG k p.hi:=λv a=>by unfold Jo at h;rw[a]at h;simp at h;lia
theorem gZ{O2:Nat}(ok:JP O2 (bg n) p)(f:p.lv=0){k x:Int}(h1:leB (bg n) k)(h2:lG k p.hi):JP (QW p k x).ks.length (bg n) (QW p k x) where
 sorted:=Uh ok.sorted k
 few:=Ae _
 parts:=by have a:=ok.parts;rw[Eb f]at a;have b:=yq p.ks k;have c:=Xo p.ks k;show(p.ps.take (aQ p.ks k)++x::p.ps.drop (aG p.ks k)).length=(p.ks.take (aQ p.ks k)++k::p.ks.drop (aG p.ks k)).length+(if p.lv=0 then 0 else 1);rw[Eb f];simp only[An,Ba,A9,Bq];lia
 low:=λy e=>by
  rcases xP ok.sorted e with rfl|e
  ·exact h1
  ·exact ok.low y e
 dD:=λh=>by have:0<p.lv:=h;lia
 high:=λy e=>by
  rcases xP ok.sorted e with rfl|e
  ·exact h2
  ·exact ok.high y e
 wide:=ok.wide
theorem ym{O2:Nat}(ok:JP O2 (bg n) p){k x:Int}:(QW p k x).ks.length<=O2+1:=by have b:=yq p.ks k;have c:=Xo p.ks k;have d:=GN p.ks k;have e:=ok.few;show(p.ks.take (aQ p.ks k)++k::p.ks.drop (aG p.ks k)).length<=_;simp only[An,Ba,A9,Bq];lia
theorem QaF{O2:Nat}(ok:JP O2 (bg n) p)(i:p.lv=0){k:Int}:JP O2 (bg n) (without p k) where
 sorted:=kJ ok.sorted k
 few:=by have b:=yq p.ks k;have c:=Xo p.ks k;have d:=GN p.ks k;have e:=ok.few;show(p.ks.take (aQ p.ks k)++p.ks.drop (aG p.ks k)).length<=_;simp only[An,A9,Bq];lia
 parts:=by have a:=ok.parts;rw[Eb i]at a;have b:=yq p.ks k;have c:=Xo p.ks k;show(p.ps.take (aQ p.ks k)++p.ps.drop (aG p.ks k)).length=(p.ks.take (aQ p.ks k)++p.ks.drop (aG p.ks k)).length+(if p.lv=0 then 0 else 1);rw[Eb i];simp only[An,A9,Bq];lia
 low:=λy f=>ok.low y (Mq f)
 dD:=λh=>by have:0<p.lv:=h;lia
 high:=λy f=>ok.high y (Mq f)
 wide:=ok.wide
theorem QeL(T:Tree S bg)(a:S.pg[n]?=some p){k:Nat}{q:Pg}{aim:Int}(o:S.pg[k]?=some q)(v:q.lv+1=p.lv)(m:bg k=some aim)(t:aU S k):aim∉p.ks/\bg n≠some aim:=by
 have ok:=T.page n p a;have h0:0<p.lv:=⋯
 have pl:=ok.parts;rw[Ea ⋯]at pl;have key:∀j,Ju (bg n) p.ks j=some aim->j<p.ps.length->False:=λj e b=>by obtain⟨c,z,f,h,u,l⟩:=T.kid n p a h0 j _ (Ab b);have:c=k:=T.uniq h o ⋯ (by rw[l,e,m]);subst this;exact t n p a h0 (by rw[<- f];exact B9 b)
 refine⟨λr=>?_,λe=>key 0 e ⋯⟩;obtain⟨i,hi,e⟩:=Cr.mp r;exact key (i+1) (by show p.ks[i]?=some aim;rw[Ab hi,e]) ⋯
theorem qW{k:Int}{c:Nat}(h:k∉p.ks):(Zh p k c).ks=p.ks.take (aQ p.ks k)++k::p.ks.drop (aG p.ks k):=by show p.ks.take (aG p.ks k)++k::p.ks.drop (aG p.ks k)=_;rw[Im h]
theorem QaE{O2:Nat}(ok:JP O2 (bg n) p)(f:0<p.lv){k:Int}{c:Nat}(e:k∉p.ks)(h1:ltB (bg n) k)(h2:lG k p.hi):JP (Zh p k c).ks.length (bg n) (Zh p k c) where
 sorted:=by rw[qW e];exact Uh ok.sorted k
 few:=Ae _
 parts:=by have a:=ok.parts;rw[Ea ⋯]at a;have d:=Xo p.ks k;show(p.ps.take (aG p.ks k+1)++(c:Int)::p.ps.drop (aG p.ks k+1)).length=(p.ks.take (aG p.ks k)++k::p.ks.drop (aG p.ks k)).length+(if p.lv=0 then 0 else 1);rw[Ea ⋯];simp only[An,Ba,A9,Bq];lia
 low:=λy b=>by
  rw[qW e]at b;rcases xP ok.sorted b with rfl|b
  ·exact λv i=>Ck (h1 v i)
  ·exact ok.low y b
 dD:=λh y b=>by
  rw[qW e]at b;rcases xP ok.sorted b with rfl|b
  ·exact h1
  ·exact ok.dD f y b
 high:=λy b=>by
  rw[qW e]at b;rcases xP ok.sorted b with rfl|b
  ·exact h2
  ·exact ok.high y b
 wide:=ok.wide
theorem Vq{O2:Nat}(ok:JP O2 (bg n) p){k:Int}{c:Nat}:(Zh p k c).ks.length<=O2+1:=by have d:=Xo p.ks k;have e:=ok.few;show(p.ks.take (aG p.ks k)++k::p.ks.drop (aG p.ks k)).length<=_;simp only[An,Ba,A9,Bq];lia
theorem vK(T:Tree S bg)(r:S.pg[n]?=some p){k:Nat}{q:Pg}{aim:Int}(v:S.pg[k]?=some q)(x:q.lv+1=p.lv)(u:bg k=some aim):
    ∀j c,(Zh p aim k).ps[j]?=some c->∃(a:Nat)(q:Pg),c=(a:Int)/\S.pg[a]?=some q/\q.lv+1=p.lv/\bg a=Ju (bg n) (Zh p aim k).ks j:=by
  intro j c b;have ok:=T.page n p r;have h0:0<p.lv:=⋯
  have pl:=ok.parts;rw[Ea ⋯]at pl;have d:=Xo p.ks aim;have b:(p.ps.take (aG p.ks aim+1)++(k:Int)::p.ps.drop (aG p.ks aim+1))[j]?=some c:=b;show ∃(a:Nat)(q:Pg),c=(a:Int)/\S.pg[a]?=some q/\q.lv+1=p.lv/\bg a=Ju (bg n) (p.ks.take (aG p.ks aim)++aim::p.ks.drop (aG p.ks aim)) j;have lt:(p.ps.take (aG p.ks aim+1)).length=aG p.ks aim+1:=by rw[A9];lia
  have t:(p.ks.take (aG p.ks aim)).length=aG p.ks aim:=by rw[A9];lia
  rcases Bh j (aG p.ks aim+1)with h|h
  . rw[Ah ⋯,Ca h]at b
    obtain⟨a,z,f,l,m,o⟩:=T.kid n p r h0 j c b;refine⟨a,z,f,l,m,?_⟩;rw[o];cases j with
    |zero=>rfl
    |succ i=>show p.ks[i]?=(p.ks.take (aG p.ks aim)++aim::p.ks.drop (aG p.ks aim))[i]?;rw[Ah ⋯,Ca ⋯]
  . rw[Aq ⋯,lt]at b
    rcases Bh (aG p.ks aim+1) j with h2|h2
    . obtain⟨i,rfl⟩:∃i,j=aG p.ks aim+2+i:=⟨j-(aG p.ks aim+2),⋯⟩
      rw[show aG p.ks aim+2+i-(aG p.ks aim+1)=i+1 by lia,List.getElem?_cons_succ,Cc]at b;obtain⟨a,z,f,l,m,o⟩:=T.kid n p r h0 _ c b;refine⟨a,z,f,l,m,?_⟩;rw[o];rw[show aG p.ks aim+1+i=(aG p.ks aim+i)+1 by lia,show aG p.ks aim+2+i=(aG p.ks aim+1+i)+1 by lia];show p.ks[aG p.ks aim+i]?=(p.ks.take (aG p.ks aim)++aim::p.ks.drop (aG p.ks aim))[aG p.ks aim+1+i]?;rw[Aq ⋯,t,show aG p.ks aim+1+i-aG p.ks aim=i+1 by lia,List.getElem?_cons_succ,Cc]
    . have e:j=aG p.ks aim+1:=⋯
      subst e;rw[show aG p.ks aim+1-(aG p.ks aim+1)=0 by lia]at b;cases b;refine⟨k,q,rfl,v,x,?_⟩;rw[u];show some aim=(p.ks.take (aG p.ks aim)++aim::p.ks.drop (aG p.ks aim))[aG p.ks aim]?;rw[Aq ⋯,t];simp
end
structure All(S:Sh)(bg:Bg)(ws:List Wk):Prop where
 ok:∀(i:Nat)(w:Wk),ws[i]?=some w->w.O7=false->aM S bg w
 fQ:∀(i:Nat)(w:Wk)(k:Nat),ws[i]?=some w->w.O7=false->0<w.O4->w.Oz=some k->aU S k
 diff:∀(i j:Nat)(w v:Wk)(k:Nat),i≠j->ws[i]?=some w->ws[j]?=some v->w.O7=false->v.O7=false->0<w.O4->0<v.O4->w.Oz=some k->v.Oz≠some k
structure fM(S:Sh)(bg:Bg)(w:Wk)(S':Sh)(aH:Bg)(w':Wk):Prop where
 tree:Tree S' aH
 grow:aV S bg S' aH
 iR:w'.O7=false->aM S' aH w'
 fQ:∀k v,aU S k->bg k=some v->(0<w.O4->w.Oz≠some k)->aU S' k
 new:∀k,w'.O7=false->0<w'.O4->w'.Oz=some k->aU S' k/\((0<w.O4/\w.Oz=some k)∨S.pg.length<=k)
 O2:S'.O2=S.O2
 len:S'.pg.length<=S.pg.length+1
theorem All.step{ws:List Wk}{i:Nat}{w w':Wk}(A:All S bg ws)(hi:ws[i]?=some w)(hw:w.O7=false)(st:fM S bg w S' aH w'):All S' aH (ws.set i w') where
 ok:=λj v J n=>by
  rcases Q7 J with ⟨rfl,rfl,_⟩|⟨_,h⟩
  ·exact st.iR n
  ·exact(A.ok j v h n).grow st.grow
 fQ:=λj v k J n r f=>by
  rcases Q7 J with ⟨rfl,rfl,_⟩|⟨e,h⟩
  ·exact(st.new k n r f).1
  ·obtain⟨k',q,t,O,a3,R⟩:=(A.ok j v h n).tell r;rw[f]at t;cases t;exact st.fQ k _ (A.fQ j v k h n r f) R λg0=>(A.diff j i v w k e h hi n hw r g0 f)
 diff:=λa b u v k e X Q L n z C f m=>by
  have key:∀(c:Nat)(x:Wk),c≠i->ws[c]?=some x->x.O7=false->0<x.O4->x.Oz=some k->w'.O7=false->0<w'.O4->w'.Oz=some k->False:=λc x Y hx he r f F I m=>by
   rcases(st.new k F I m).2 with ⟨g0,n0⟩|l
   ·exact A.diff c i x w k Y hx hi he hw r g0 f n0
   ·obtain⟨k',q,t,O,_⟩:=(A.ok c x hx he).tell r;rw[f]at t;cases t;have:=QJ O;lia
  rcases Q7 X with ⟨rfl,rfl,_⟩|⟨U,y⟩
  ·rcases Q7 Q with ⟨rfl,rfl,_⟩|⟨P,o⟩
   ·exact e rfl
   ·exact key b v P o n C m L z f
  ·rcases Q7 Q with ⟨rfl,rfl,_⟩|⟨P,o⟩
   ·exact key a u U y L z f n C m
   ·exact A.diff a b u v k e y o L n z C f m
theorem All.put{ws:List Wk}{i:Nat}{w:Wk}(A:All S bg ws)(h1:w.O6=none)(h2:w.O3=[])(h3:w.O4=0):All S bg (ws.set i w) where
 ok:=λj v m c=>by
  rcases Q7 m with ⟨rfl,rfl,_⟩|⟨_,h⟩
  ·exact aM.fresh h1 h2 h3
  ·exact A.ok j v h c
 fQ:=λj v k m c r n=>by
  rcases Q7 m with ⟨rfl,rfl,_⟩|⟨_,h⟩
  ·lia
  ·exact A.fQ j v k h c r n
 diff:=λa b u v k e f l t c o q n=>by
  rcases Q7 f with ⟨rfl,rfl,_⟩|⟨_,f⟩
  ·lia
  ·rcases Q7 l with ⟨rfl,rfl,_⟩|⟨_,l⟩
   ·lia
   ·exact A.diff a b u v k e f l t c o q n
def Tree.rd{S:Sh}(T:Tree S bg)(x y:Int):Tree { S with rd:=x,wr:=y } bg:=⟨T.cU,T.root,T.lE,T.page,T.link,T.kid,T.dis,T.pred⟩
section
variable{S:Sh}{bg:Bg}{n:Nat}{p P:Pg}{w:Wk}
theorem aU.set{S:Sh}{n:Nat}{p P:Pg}{k:Nat}{x y:Int}(h:aU S k)(c:S.pg[n]?=some p)(e:P.lv=p.lv)(hs:0<p.lv->(k:Int)∈P.ps->(k:Int)∈p.ps):aU { S with pg:=S.pg.set n P,rd:=x,wr:=y } k:=λm q a h0 b=>by
 rcases Q7 a with ⟨rfl,rfl,_⟩|⟨_,a⟩
 ·exact h m p c ⋯ (hs ⋯ b)
 ·exact h m q a h0 b
theorem aU.halves{S:Sh}{n:Nat}{p P:Pg}{k l:Nat}{x y:Int}(h:aU S k)(e:S.pg[n]?=some p)(f:P.lv=p.lv)(hs:0<p.lv->(k:Int)∈P.ps->(k:Int)∈p.ps):aU { S with pg:=(S.pg++[QK P]).set n (Q0 P l),rd:=x,wr:=y } k:=λm q a h0 c=>by
 rcases Q7 a with ⟨rfl,rfl,_⟩|⟨_,a⟩
 ·have b:0<P.lv:=h0;exact h m p e ⋯ (hs ⋯ (Bx c))
 ·rcases Jr a with ⟨rfl,rfl⟩|a
  ·have b:0<P.lv:=h0;exact h n p e ⋯ (hs ⋯ (Cd c))
  ·exact h m q a h0 c
theorem Tree.fG(T:Tree S bg){k:Nat}(h:S.pg.length<=k):aU S k:=λm q l h0 i=>by
 obtain⟨j,f,e⟩:=Cr.mp i;obtain⟨c,z,a,b,_⟩:=T.kid m q l h0 j _ (Ab f);rw[e]at a;have:k=c:=⋯
 have:=QJ b;lia
theorem Gq(T:Tree S bg)(C:S.pg[n]?=some p)(F:P.lv=p.lv)(hh:P.hi=p.hi)(hs:P.sd=p.sd)(ok:JP P.ks.length (bg n) P)(h2:P.ks.length<=S.O2+1)
  (hk:0<p.lv->∀j k,P.ps[j]?=some k->∃(c:Nat)(q:Pg),k=(c:Int)/\S.pg[c]?=some q/\q.lv+1=p.lv/\bg c=Ju (bg n) P.ks j)
  (W:aM S bg w) (hw:w.O7=false) (hpl:w.O6=some n∨w.O6=none) (hg:p.lv=w.O4) (hsub:∀k:Nat,0<p.lv->(k:Int)∈P.ps->(k:Int)∈p.ps∨(0<w.O4/\w.Oz=some k)) :
  ∃aH,fM S bg w (Qt S w n P).2.1 aH (Qt S w n P).2.2:=by
 unfold Qt;by_cases hr:P.ks.length<=S.O2
 ·rw[Eb hr];obtain⟨T',G⟩:=T.write (x:=S.rd) (y:=S.wr+1) (p':=P) C F hh hs ⟨ok.sorted,hr,ok.parts,ok.low,ok.dD,ok.high,ok.wide⟩ hk;refine⟨bg,T',G,λh=>(by cases h),λk v hu hb L=>hu.set C F λh0 Y=>?_,λk h=>(by cases h),rfl,(by simp)⟩;rcases hsub k h0 Y with a|⟨a,b⟩
  ·exact a
  ·exact absurd b (L a)
 ·rw[Ea hr];obtain⟨T',G⟩:=T.split (x:=S.rd) (y:=S.wr+1+1) C F hh hs ok ⋯ h2 hk;have r2:=T.cU;have kl:=G9 ok ⋯;have gl:((S.pg++[QK P]).set n (Q0 P S.pg.length))[S.pg.length]?=some (QK P):=by rw[Am (by have:=QJ C;lia),Aq (Ae _)];simp
  have CN:∀f,J2 w.O3 (p.lv+1)=some f->w.O6=some n:=λf hf=>by
   rcases hpl with h|h
   ·exact h
   ·have:=W.none_ h _ f hf;lia
  refine⟨_,T',G,λ_=>?_,λk v hu hb L=>hu.halves C F λh0 Y=>?_,λk _ _ e=>?_,rfl,by simp⟩
  ·have ae:P.lv=w.O4:=F.trans hg;refine⟨λf hf=>?_,λm l f hf=>?_,λl f hf=>?_,λf q hf I l t i X=>?_,λl f l' t hf i a b=>?_,λf q hf I X=>?_,λf q hf I l' t i l a b=>?_,λ_=>⟨S.pg.length,QK P,rfl,gl,rfl,Jb⟩⟩
   ·have hf:J2 w.O3 (P.lv+1)=some f:=hf;rw[F]at hf;obtain⟨q,o,J⟩:=W.kept _ f hf;obtain⟨e,O,r,a4⟩:=G.old f q o;refine⟨O,r,?_,?_⟩
    ·show P.lv+1<=O.lv;lia
    ·rw[e];intro v hv;obtain⟨u,R,b2⟩:=W.above n p (CN f hf) C _ f hf ⋯ v hv;have:=kl u R;show v<=Xd P;lia
   ·have m:J2 w.O3 (P.lv+1)=none:=m;show l<P.lv+1;rcases Bh l (P.lv+1)with h|h
    ·exact h
    ·exfalso;rcases hpl with U|U
     ·obtain⟨f0,lK⟩:=W.full n p U C l f hf (P.lv+1) ⋯ h;rw[m]at lK;cases lK
     ·have:=W.none_ U l f hf;lia
   ·obtain⟨q,o,J⟩:=W.kept l f hf;obtain⟨e,O,r,a4⟩:=G.old f q o;exact⟨O,r,⋯⟩
   ·have hf:J2 w.O3 (P.lv+1)=some f:=hf;obtain⟨Q,o,J⟩:=W.kept _ f hf;obtain⟨q1,R,b2⟩:=W.kept _ t i;obtain⟨e,O,r,a4⟩:=G.old f Q o;rw[e,(G.old t q1 R).1];rw[r]at I;cases I;exact W.chain _ f l t hf i ⋯ ⋯
   ·obtain⟨Q,o,J⟩:=W.kept _ f hf;obtain⟨q1,R,b2⟩:=W.kept _ t i;rw[(G.old f Q o).1,(G.old t q1 R).1];have a:P.lv+1<=l:=a;exact W.chain l f l' t hf i ⋯ b
   ·have hf:J2 w.O3 (P.lv+1)=some f:=hf;obtain⟨Q,o,J⟩:=W.kept _ f hf;obtain⟨e,O,r,a4⟩:=G.old f Q o;have ab:P.lv+1<q.lv:=X;rw[r]at I;cases I;lia
   ·have hf:J2 w.O3 (P.lv+1)=some f:=hf;obtain⟨Q,o,J⟩:=W.kept _ f hf;obtain⟨e,O,r,a4⟩:=G.old f Q o;rw[r]at I;cases I;rw[F]at hf;exact W.full n p (CN f hf) C l' t i l ⋯ b
  ·rcases hsub k h0 Y with a|⟨a,b⟩
   ·exact a
   ·exact absurd b (L a)
  ·have e:S.pg.length=k:=Ak e;subst e;refine⟨(T.fG (Ae _)).halves C F λh0 Y=>?_,.inr (Ae _)⟩;obtain⟨j,hj,e⟩:=Cr.mp Y;obtain⟨c,z,o,J,_⟩:=hk h0 j _ (Ab hj);rw[e]at o;have:S.pg.length=c:=⋯
   have:=QJ J;lia
end
section
variable{S:Sh}{bg:Bg}{n:Nat}{p:Pg}{w:Wk}
theorem Qcg{ks:List Int}(h:ks.Pairwise (· < ·)){k x:Int}{i:Nat}(hi:i<aG ks k)(hx:ks[i]?=some x):x<=k:=by
 have e:(ks.take (aG ks k))[i]?=some x:=by rw[Ca hi];exact hx
 rw[(YO h k).1]at e;simpa using(Bm.mp (Aw e)).2
theorem Lq(T:Tree S bg)(W:aM S bg w)(i:w.O6=some n∨w.O6=none)(t:S.pg[n]?=some p)(Y:w.O4<=p.lv){s:Nat}{q:Pg}{h:Int}(X:p.hi=some h)(hs:S.pg[s]?=some q)(hl:q.lv=p.lv)(F:bg s=some h){w':Wk}(o:w'.O6=some s)(j:w'.O3=w.O3)(C:w'.O4=w.O4)(e4:h<=w'.aim)(R:0<w.O4->w'.Oz=w.Oz/\w'.aim=w.aim):aM S bg w' where
 at_:=λm c=>by rw[o]at c;cases c;exact⟨q,hs,⋯,λv u=>by rw[F]at u;cases u;exact e4⟩
 none_:=λc=>by rw[o]at c;cases c
 kept:=λl f hf=>W.kept l f (j▸hf)
 above:=λm z c hz l f hf y=>by
  rw[o]at c;cases c;rw[hs]at hz;cases hz;rw[j]at hf;rcases i with U|U
  ·refine(W.above n p U t l f hf ⋯).trans λv u=>⟨h,F,?_⟩;have:=(T.page n p t).wide h X v u;lia
  ·have:=W.none_ U l f hf;lia
 chain:=λl f x r hf e a b=>W.chain l f x r (j▸hf) (j▸e) (C▸a) b
 gap:=λm z c hz y l f hf=>by
  rw[o]at c;cases c;rw[hs]at hz;cases hz;rw[j]at hf;rcases i with U|U
  ·rcases W.gap n p U t ⋯ l f hf with a|a
   ·exact .inl ⋯
   ·exact .inr ⋯
  ·exact .inl (by have:=W.none_ U l f hf;lia)
 full:=λm z c hz x r e l a b=>by
  rw[o]at c;cases c;rw[hs]at hz;cases hz;rw[j]at e ⊢;rcases i with U|U
  ·exact W.full n p U t x r e l ⋯ b
  ·have:=W.none_ U x r e;lia
 tell:=λh0=>by rw[C]at h0 ⊢;obtain⟨k,z,I,J,L,O⟩:=W.tell h0;obtain⟨P,Q⟩:=R h0;exact⟨k,z,P.trans I,J,L,by rw[Q];exact O⟩
theorem DL(T:Tree S bg)(W:aM S bg w)(J:w.O6=some n∨(w.O6=none/\n=S.top))(F:S.pg[n]?=some p)(Y:w.O4<p.lv){c:Nat}{q:Pg}(L:S.pg[c]?=some q)(hl:q.lv+1=p.lv)(P:bg c=Ju (bg n) p.ks (aG p.ks w.aim)):aM S bg { w with O3:=yP w.O3 p.lv n,O6:=some c }:=by
  have ok:=T.page n p F;have Q:cO (bg n) (bg c):=by
    rw[P];cases e:aG p.ks w.aim with
    |zero=>exact cO.refl _
    |succ i =>
      intro v I;have hi:i<p.ks.length:=by have:=Xo p.ks w.aim;lia
      refine⟨p.ks[i],Ab hi,Ck (ok.dD ⋯ _ (B9 hi) v I)⟩
  have la:leB (bg n) w.aim:=by
    rcases J with U|⟨_,rfl⟩
    . obtain⟨p',a1,a2,R⟩:=W.at_ n U
      exact R
    . intro v I;rw[T.lE]at I;cases I
  have X:leB (bg c) w.aim:=by
    rw[P];cases e:aG p.ks w.aim with
    |zero=>exact la
    |succ i=>intro v I;exact Qcg ok.sorted ⋯ I
  have old:∀l f,J2 w.O3 l=some f->l≠p.lv->l<w.O4∨(p.lv<l/\w.O6=some n):=λl f hf j=>by
    rcases J with U|⟨U,_⟩
    . rcases W.gap n p U F Y l f hf with a|a
      . exact .inl a
      . exact .inr ⟨a,U⟩
    . exact .inl (W.none_ U l f hf)
  have C:∀l f,J2 (yP w.O3 p.lv n) l=some f->(l=p.lv/\f=n)∨(l≠p.lv/\J2 w.O3 l=some f):=λl f hf=>by
    rw[zH]at hf;by_cases e:l=p.lv
    . rw[Eb e]at hf;cases hf;exact .inl ⟨e,rfl⟩
    . rw[Ea e]at hf;exact .inr ⟨e,hf⟩
  refine⟨λm u=>?_,λu=>(by cases u),λl f hf=>?_,λm z u hz l f hf O=>?_,λl f x r hf t a b=>?_,λm z u hz O l f hf=>?_,λm z u hz x r t l a b=>?_,W.tell⟩
  . cases u
    refine⟨q,L,?_,X⟩;show w.O4<=q.lv;lia
  . rcases C l f hf with ⟨rfl,rfl⟩|⟨_,h⟩
    . exact⟨p,F,rfl⟩
    . exact W.kept l f h
  . cases u
    rw[L]at hz;cases hz;rcases C l f hf with ⟨rfl,rfl⟩|⟨j,h⟩
    . exact Q
    . rcases old l f h j with a|⟨a,U⟩
      . lia
      . exact(W.above n p U F l f h a).trans Q
  . have a:w.O4<=l:=a
    rcases C l f hf with ⟨rfl,rfl⟩|⟨j,h⟩
    . rcases C x r t with ⟨rfl,rfl⟩|⟨y,h'⟩
      . lia
      . rcases old x r h' y with o|⟨o,U⟩
        . lia
        . exact W.above _ p U F x r h' o
    . rcases C x r t with ⟨rfl,rfl⟩|⟨y,h'⟩
      . rcases old l f h j with o|⟨o,U⟩<;>lia
      . exact W.chain l f x r h h' a b
  . cases u
    rw[L]at hz;cases hz;show l<w.O4∨_;rcases C l f hf with ⟨rfl,rfl⟩|⟨j,h⟩
    . exact .inr ⋯
    . rcases old l f h j with o|⟨o,U⟩
      . exact .inl o
      . exact .inr ⋯
  . cases u
    rw[L]at hz;cases hz;by_cases e:l=p.lv
    . exact⟨n,by rw[zH,Eb e]⟩
    . rcases C x r t with ⟨rfl,rfl⟩|⟨j,h⟩
      . lia
      . rcases old x r h j with o|⟨o,U⟩
        . lia
        . obtain⟨f,hf⟩:=W.full n p U F x r h l ⋯ b
          exact⟨f,by rw[zH,Ea e];exact hf⟩
def fM.oM{a:Sh}{b:Bg}{w':Wk}{x y:Int}(h:fM { S with rd:=x,wr:=y } bg w a b w'):fM S bg w a b w':=⟨h.tree,⟨h.grow.old⟩,h.iR,h.fQ,h.new,h.O2,h.len⟩
theorem fM.still(T:Tree S bg){w':Wk}{x y:Int}(b:0<w.O4->∀k,w.Oz=some k->aU S k)(h:w'.O7=false->aM S bg w'/\(w'.O4=w.O4/\(0<w.O4->w'.Oz=w.Oz))):fM S bg w { S with rd:=x,wr:=y } bg w' where
 tree:=T.rd x y
 grow:=⟨λn p h=>⟨rfl,p,h,rfl⟩⟩
 iR:=λe=>let W:=(h e).1;⟨W.at_,W.none_,W.kept,W.above,W.chain,W.gap,W.full,W.tell⟩
 fQ:=λk v b _ _=>b
 new:=λk e g0 a=>by obtain⟨_,c,f⟩:=h e;rw[c]at g0;rw[f g0]at a;exact⟨b g0 k a,.inl ⟨g0,a⟩⟩
 O2:=rfl
 len:=Nat.le_succ _
def aM.rd(W:aM S bg w)(x y:Int):aM { S with rd:=x,wr:=y } bg w:=⟨W.at_,W.none_,W.kept,W.above,W.chain,W.gap,W.full,W.tell⟩
theorem LR(T:Tree S bg)(W:aM S bg w)(hw:w.O7=false)(I:0<w.O4->∀k,w.Oz=some k->aU S k):∃r S' w' Q,Xj S w=some (r,S',w')/\fM S bg w S' Q w':=by
  obtain⟨n,ae,j⟩:∃n,w.O6.getD S.top=n/\(w.O6=some n∨(w.O6=none/\n=S.top)):=by
    cases e:w.O6 with
    |none=>exact⟨S.top,rfl,.inr ⟨rfl,rfl⟩⟩
    |some m=>exact⟨m,rfl,.inl rfl⟩
  obtain⟨p,f⟩:∃p,S.pg[n]?=some p:=by
    rcases j with U|⟨_,rfl⟩
    . obtain⟨p,a,_⟩:=W.at_ n U;exact⟨p,a⟩
    . obtain⟨p,a,_⟩:=T.root;exact⟨p,a⟩
  have i:w.O6=some n∨w.O6=none:=j.imp id And.left;have ok:=T.page n p f;have la:leB (bg n) w.aim:=by
    rcases j with U|⟨_,rfl⟩
    . obtain⟨p',C,F,O⟩:=W.at_ n U
      exact O
    . intro v hv;rw[T.lE]at hv;cases hv
  unfold Xj;rw[Ea (by rw[hw];simp),ae];simp only[f];by_cases hr:w.O6=none/\p.lv<w.O4
  . rw[Eb hr]
    have Y:n=S.top:=by
      rcases j with U|⟨_,e⟩
      . rw[hr.1]at U;cases U
      . exact e
    subst Y;obtain⟨k,q,C,F,O,L⟩:=W.tell ⋯;simp only[C];have pX:q.lv<=p.lv:=by obtain⟨r,R,b2⟩:=T.root;rw[f]at R;cases R;exact b2 k q F
    obtain⟨T',G⟩:=T.raise (x:=S.rd+1) (y:=S.wr+1) f F ⋯ L;refine⟨_,_,_,_,rfl,T',G,λh=>(by cases h),λu v J t av m z o h0 X=>?_,λu h=>(by cases h),rfl,by simp⟩;rcases Jr o with ⟨rfl,rfl⟩|o
    . have ab:(u:Int)=(S.top:Int)∨(u:Int)=(k:Int):=by simpa using X
      rcases ab with e|e
      . have:u=S.top:=⋯
        subst this;rw[T.lE]at t;cases t
      . have:u=k:=⋯
        subst this;exact av ⋯ C
    . exact J m z o h0 X
  . rw[Ea hr]
    have hg:w.O4<=p.lv:=by
      rcases j with U|⟨U,_⟩
      . obtain⟨p',R,b2,_⟩:=W.at_ n U
        rw[f]at R;cases R;exact b2
      . exact C0 λh=>hr ⟨U,h⟩
    cases t:Jo p w.aim with
    |true =>
      rw[Eb rfl];rcases T.link n p f with ⟨a,b⟩|⟨h,s,q,a,b,c,d,e⟩
      . unfold Jo at t;rw[a]at t;cases t
      . simp only[b]
        have ha:h<=w.aim:=by unfold Jo at t;rw[a]at t;simpa using t
        exact⟨_,_,_,bg,rfl,fM.still T I λ_=>⟨Lq T W i f hg a c d e rfl rfl rfl ha λ_=>⟨rfl,rfl⟩,rfl,λ_=>rfl⟩⟩
    |false =>
      have lh:=V0 t;rw[Ea (by simp)];by_cases hd:w.O4<p.lv
      . rw[Eb hd]
        have pl:=ok.parts;rw[Ea ⋯]at pl;have hc:aG p.ks w.aim<p.ps.length:=by have:=Xo p.ks w.aim;lia
        obtain⟨c,q,C,F,O,L⟩:=T.kid n p f ⋯ _ _ (Ab hc);rw[Ab hc,C];simp only[B7];exact⟨_,_,_,bg,rfl,fM.still T I λ_=>⟨DL T W j f hd F O L,rfl,λ_=>rfl⟩⟩
      . rw[Ea hd]
        have mU:p.lv=w.O4:=⋯
        by_cases h0:0<w.O4
        . rw[Eb h0]
          obtain⟨k,q,C,F,O,L⟩:=W.tell h0;simp only[C];obtain⟨n1,n2⟩:=QeL T f F ⋯ L (I h0 k C);have lt:ltB (bg n) w.aim:=λv hv=>by have:=la v hv;have:v≠w.aim:=λe=>n2 (by rw[hv,e]);lia
          obtain⟨Q,st⟩:=Gq (S:={ S with rd:=S.rd+1,wr:=S.wr }) (P:=Zh p w.aim k) (T.rd _ _) f rfl rfl rfl (QaE ok ⋯ n1 lt lh) (Vq ok) (λ_=>vK T f F ⋯ L) (W.rd _ _) hw i mU (λu _ o=>by
            rcases Ai.mp o with o|o
            . exact .inl (Bx o)
            . rcases Bk.mp o with e|o
              . have:u=k:=⋯
                subst this;exact .inr ⟨h0,C⟩
              . exact .inl (Cd o))
          exact⟨_,_,_,Q,rfl,st.oM⟩
        . rw[Ea h0]
          have hz:p.lv=0:=⋯
          have g0:w.O4=0:=⋯
          unfold Jz;cases ay:w.O0 with
          |find k=>exact⟨_,_,_,bg,rfl,fM.still T I λh=>(by cases h)⟩
          |put k x=>have W1:aM { S with rd:=S.rd+1,wr:=S.wr } bg ({ O0:=.put k x,aim:=w.aim,O4:=w.O4,O6:=w.O6,O3:=w.O3,Oz:=w.Oz,O1:=QX p w.aim,O5:=w.O5,O7:=w.O7 }:Wk):=⟨W.at_,W.none_,W.kept,W.above,W.chain,W.gap,W.full,W.tell⟩;obtain⟨Q,st⟩:=Gq (S:={ S with rd:=S.rd+1,wr:=S.wr }) (w:=({ O0:=.put k x,aim:=w.aim,O4:=w.O4,O6:=w.O6,O3:=w.O3,Oz:=w.Oz,O1:=QX p w.aim,O5:=w.O5,O7:=w.O7 }:Wk)) (P:=QW p w.aim x) (T.rd _ _) f rfl rfl rfl (gZ ok hz la lh) (ym ok) (λh=>⋯) W1 hw i mU (λu h=>⋯);exact⟨_,_,_,Q,rfl,⟨st.tree,⟨st.grow.old⟩,st.iR,st.fQ,st.new,st.O2,st.len⟩⟩
          |cut k =>
            dsimp only;by_cases hs:(QX p w.aim).isSome=true
            . rw[Eb hs]
              obtain⟨T',G⟩:=T.write (x:=S.rd+1) (y:=S.wr+1) (p':=without p w.aim) f rfl rfl rfl (QaF ok hz) (λh=>⋯);exact⟨_,_,_,bg,rfl,T',G,λh=>(by cases h),λu v J _ _=>J.set f rfl λh=>⋯,λu h=>(by cases h),rfl,by simp⟩
            . rw[Ea hs]
              exact⟨_,_,_,bg,rfl,fM.still T I λh=>(by cases h)⟩
          |stretch l h =>
            dsimp only;rcases T.link n p f with ⟨a,b⟩|⟨x,s,q,a,b,c,d,e⟩
            . simp only[a,b]
              exact⟨_,_,_,bg,rfl,fM.still T I λh=>(by cases h)⟩
            . simp only[a,b]
              by_cases hx:h<=x
              . rw[Eb hx]
                exact⟨_,_,_,bg,rfl,fM.still T I λh=>(by cases h)⟩
              . rw[Ea hx]
                exact⟨_,_,_,bg,rfl,fM.still T I λ_=>⟨Lq T W i f hg a c d e rfl rfl rfl (Bo _) (λz=>⋯),rfl,λ_=>rfl⟩⟩
end
def cY:Option Int->Option Int->Bool
 |none,some _=>true
 |some v,some u=>decide (v<u)
 |_,none=>false
theorem qg{a b c:Option Int}(h:cY a b=true)(g:cY b c=true):cY a c=true:=by cases a<;>cases b<;>cases c<;>simp_all [cY];lia
theorem jk(a:Option Int):cY a a=false:=by cases a<;>simp[cY]
theorem Um{b:Option Int}{h:Int}(w:ltB b h):cY b (some h)=true:=by
 cases b with
 |none=>rfl
 |some v=>simpa [cY]using w v rfl
theorem GZ{α:Type}(p q:α->Bool):∀l:List α,(∀x∈l,q x=true->p x=true)->(l.filter q).length<=(l.filter p).length
  | [],_=>Ae _
  |x::l,h=>by
    have c:=GZ p q l λy e=>h y (Ax _ e);have hx:=h x (by simp);by_cases a:q x=true
    . simp[As,a,hx a,c]
    . by_cases b:p x=true
      . simp[As,a,b];lia
      . simp[As,a,b,c]
theorem xJ{α:Type}(p q:α->Bool):∀l:List α,(∀x∈l,q x=true->p x=true)->(∃a∈l,p a=true/\q a=false)->(l.filter q).length<(l.filter p).length
  | [],_,h=>by obtain⟨a,h,_⟩:=h;cases h
  |x::l,h,⟨a,c,f,i⟩=>by
    have le:=GZ p q l λy e=>h y (Ax _ e);rcases Bk.mp c with rfl|c
    . simp[As,f,i];lia
    . have j:=xJ p q l (λy e=>h y (Ax _ e)) ⟨a,c,f,i⟩
      have hx:=h x (by simp);by_cases a:q x=true
      . simp[As,a,hx a];lia
      . by_cases b:p x=true
        . simp[As,a,b];lia
        . simp[As,a,b];lia
inductive Chain(S:Sh):Nat->List Nat->Prop
 |last {n:Nat} {p:Pg}:S.pg[n]?=some p->p.sd=none->Chain S n [n]
 |next {n:Nat} {p:Pg} {s:Nat} {r:List Nat}:S.pg[n]?=some p->p.sd=some s->Chain S s r->Chain S n (n::r)
section
variable{S:Sh}{bg:Bg}
theorem VR(T:Tree S bg){n s:Nat}{p:Pg}(f:S.pg[n]?=some p)(hs:p.sd=some s):∃h q,p.hi=some h/\S.pg[s]?=some q/\q.lv=p.lv/\bg s=some h/\cY (bg n) (bg s)=true:=by
 rcases T.link n p f with ⟨_,b⟩|⟨h,s',q,a,b,c,d,e⟩
 ·rw[hs]at b;cases b
 ·rw[hs]at b;cases b;exact⟨h,q,a,c,d,e,by rw[e];exact Um ((T.page n p f).wide h a)⟩
def mu(S:Sh)(bg:Bg)(n:Nat):Nat:=((List.range S.pg.length).filter λm=>cY (bg n) (bg m)).length
theorem uh(T:Tree S bg):∀(m n:Nat)(p:Pg),mu S bg n<m->S.pg[n]?=some p->∃r,Chain S n r
  |0,_,_,h,_=>⋯
  |m+1,n,p,h,a=>by
    cases hs:p.sd with
    |none=>exact⟨_,.last a hs⟩
    |some s =>
      obtain⟨x,q,i,b,j,l,c⟩:=VR T a hs;have:mu S bg s<mu S bg n:=by refine xJ _ _ _ (λy _ f=>qg c f) ⟨s,Ch.mpr (QJ b),c,jk _⟩
      obtain⟨r,e⟩:=uh T m s q ⋯ b;exact⟨_,.next a hs e⟩
theorem Chain.facts(T:Tree S bg){n:Nat}{r:List Nat}(c:Chain S n r):∀p,S.pg[n]?=some p->(∀m∈r,∃q,S.pg[m]?=some q/\q.lv=p.lv)/\(∀m∈r,m=n∨cY (bg n) (bg m)=true)/\r.Pairwise (λa b=>cY (bg a) (bg b)=true)/\(∀m∈r,∀q s,S.pg[m]?=some q->q.sd=some s->s∈r)/\n∈r:=by
  induction c with
  |@last n O f hs =>
    intro p U;rw[f]at U;cases U;refine⟨λm e=>?_,λm e=>?_,by simp,λm e q s i j=>?_,by simp⟩
    . rw[Ar.mp e];exact⟨_,f,rfl⟩
    . exact .inl (Ar.mp e)
    . rw[Ar.mp e,f]at i;cases i;rw[hs]at j;cases j
  |@next n O s r f hs c L =>
    intro p U;rw[f]at U;cases U;obtain⟨x,q,Q,o,t,R,l⟩:=VR T f hs;obtain⟨y,C,F,I,J⟩:=L q o;have up:∀m∈r,cY (bg n) (bg m)=true:=λm e=>by
      rcases C m e with rfl|h
      . exact l
      . exact qg l h
    refine⟨λm e=>?_,λm e=>?_,Cp.mpr ⟨up,F⟩,λm e P s' i j=>?_,by simp⟩
    . rcases Bk.mp e with rfl|e
      . exact⟨_,f,rfl⟩
      . obtain⟨z,u,v⟩:=y m e
        exact⟨z,u,v.trans t⟩
    . rcases Bk.mp e with rfl|e
      . exact .inl rfl
      . exact .inr (up m e)
    . rcases Bk.mp e with rfl|e
      . rw[f]at i;cases i
        rw[hs]at j;cases j;exact Ax _ J
      . exact Ax _ (I m e P s' i j)
theorem gc{r:List Nat}(h:r.Pairwise (λa b=>cY (bg a) (bg b)=true)):r.Nodup :=
 h.imp λ{a b} c e=>by subst e;rw[jk]at c;cases c
theorem KS(T:Tree S bg){n:Nat}{r:List Nat}{p:Pg}(c:Chain S n r)(j:S.pg[n]?=some p)(l:bg n=none):∀(k m:Nat)(q:Pg),((List.range S.pg.length).filter λx=>cY (bg x) (bg m)).length<k->S.pg[m]?=some q->q.lv=p.lv->m∈r
  |0,_,_,h,_,_=>⋯
  |k+1,m,q,h,i,F=>by
    obtain⟨L,O,P,o,t⟩:=c.facts T p j;cases e:bg m with
    |none=>rw[T.uniq i j F (by rw[e,l])];exact t
    |some v =>
      obtain⟨a,z,b,J,f⟩:=T.pred m q i v e;have lt:cY (bg a) (bg m)=true:=by rw[e];exact Um ((T.page a z b).wide v f)
      have:((List.range S.pg.length).filter λx=>cY (bg x) (bg a)).length<((List.range S.pg.length).filter λx=>cY (bg x) (bg m)).length :=
        xJ _ _ _ (λy _ I=>qg I lt) ⟨a,Ch.mpr (QJ b),lt,jk _⟩
      have C:=KS T c j l k a z ⋯ b ⋯;rcases T.link a z b with ⟨g1,_⟩|⟨x,s,y,g1,g2,g3,g4,u⟩
      . rw[f]at g1;cases g1
      . rw[f]at g1;cases g1
        have:s=m:=T.uniq g3 i ⋯ (by rw[u,e]);subst this;exact o a C z s b g2
theorem M2(T:Tree S bg){n:Nat}{p:Pg}(a:S.pg[n]?=some p)(f:bg n=none):∃r,Chain S n r/\r.Nodup/\(∀m,m∈r↔∃q,S.pg[m]?=some q/\q.lv=p.lv):=by obtain⟨r,c⟩:=uh T (mu S bg n+1) n p ⋯ a;obtain⟨b,h,e,i,j⟩:=c.facts T p a;exact⟨r,c,gc e,λm=>⟨b m,λ⟨q,h1,h2⟩=>KS T c a f _ m q (C4 _) h1 h2⟩⟩
def cB(S:Sh)(f:Nat->Bool)(n:Nat):Bool:=match S.pg[n]? with
 |some p=>f p.lv
 |none=>false
theorem So(T:Tree S bg){l:Nat}{r:List Nat}(h:r.Nodup)(a:∀m,m∈r↔∃q,S.pg[m]?=some q/\q.lv=l):r.length=((List.range S.pg.length).filter (cB S λx=>decide (x=l))).length:=by
 refine List.Perm.length_eq ((List.perm_ext_iff_of_nodup h (List.nodup_range.filter _)).mpr λm=>?_);rw[a m,Bm,Ch];constructor
 ·rintro⟨q,h1,h2⟩;exact⟨QJ h1,by unfold cB;rw[h1];simpa using h2⟩
 ·rintro⟨h1,h2⟩;unfold cB at h2;rw[Ab h1]at h2;exact⟨_,Ab h1,by simpa using h2⟩
theorem jb(S:Sh)(j:Nat):∀l:List Nat,(l.filter (cB S λx=>decide (x<j+1))).length=(l.filter (cB S λx=>decide (x<j))).length+(l.filter (cB S λx=>decide (x=j))).length
  | []=>rfl
  |n::l=>by
    have a:=jb S j l;have e:∀f:Nat->Bool,((n::l).filter (cB S f)).length=(if cB S f n=true then 1 else 0)+(l.filter (cB S f)).length:=λf=>by
      by_cases h:cB S f n=true
      . simp[As,h];lia
      . simp[As,h]
    rw[e,e,e,a];unfold cB;cases S.pg[n]? with
    |none=>simp
    |some p =>
      simp only[decide_eq_true_eq];rcases Nat.lt_trichotomy p.lv j with h|h|h
      . rw[Eb ⋯,Eb h,Ea ⋯];lia
      . rw[Eb ⋯,Ea ⋯,Eb h];lia
      . rw[Ea ⋯,Ea ⋯,Ea ⋯];lia
theorem V3(S:Sh)(l:List Nat):(l.filter (cB S λx=>decide (x<0))).length=0:=by rw[List.length_eq_zero_iff,List.filter_eq_nil_iff];intro n _;unfold cB;cases S.pg[n]?<;>simp
theorem KY{L:Nat}(h:∀(n:Nat)(p:Pg),S.pg[n]?=some p->p.lv<=L):((List.range S.pg.length).filter (cB S λx=>decide (x<L+1))).length=S.pg.length:=by rw[Cu.mpr,List.length_range];intro n a;rw[Ch]at a;unfold cB;rw[Ab a];have:=h n _ (Ab a);simp;lia
inductive dM(S:Sh)(bg:Bg):Nat->List Nat->Prop
 |leaf {n:Nat} {p:Pg}:S.pg[n]?=some p->p.lv=0->bg n=none->dM S bg n [n]
 |fork {n c:Nat} {p:Pg} {r:List Nat}:S.pg[n]?=some p->0<p.lv->bg n=none->p.ps[0]?=some (c:Int)->dM S bg c r->dM S bg n (n::r)
theorem uT(T:Tree S bg):∀(l n:Nat)(p:Pg),p.lv=l->S.pg[n]?=some p->bg n=none->∃r,dM S bg n r/\r.length=l+1
  |0,n,p,h,a,b=>⟨_,.leaf a h b,rfl⟩
  |l+1,n,p,h,a,b=>by
    have ok:=T.page n p a;have pl:=ok.parts;rw[Ea ⋯]at pl;have h0:0<p.ps.length:=⋯
    obtain⟨c,q,e,f,o,i⟩:=T.kid n p a ⋯ 0 _ (Ab h0);obtain⟨r,j,m⟩:=uT T l c q ⋯ f (by rw[i];exact b);exact⟨_,.fork a ⋯ b (by rw[Ab h0,e]) j,by simp[m]⟩
theorem dM.get{n:Nat}{r:List Nat}(h:dM S bg n r):∀(T:Tree S bg)(p:Pg),S.pg[n]?=some p->r.length=p.lv+1/\∀i c,r[i]?=some c->∃q,S.pg[c]?=some q/\q.lv+i=p.lv/\bg c=none:=by
  induction h with
  |@leaf n f b h0 e =>
    intro T p U;rw[b]at U;cases U;refine⟨by simp[h0],λi c a=>?_⟩
    match i,a with
    |0,a=>cases a;exact⟨_,b,rfl,e⟩
    |i+1,a=>simp at a
  |@fork n c f r b h0 e a l x =>
    intro T p U;rw[b]at U;cases U;obtain⟨t,q,y,j,C,F⟩:=T.kid n f b h0 0 _ a;have:c=t:=⋯
    subst this;obtain⟨u,v⟩:=x T q j;refine⟨by simp[u];lia,λi d hd=>?_⟩
    match i,hd with
    |0,hd=>cases hd;exact⟨_,b,rfl,e⟩
    |i+1,hd=>obtain⟨z,m,I,o⟩:=v i d (by simpa using hd);exact⟨z,m,⋯,o⟩
end
theorem SS(fs:List (Nat×Nat))(k v:Nat):(yP fs k v).length<=fs.length+1:=by unfold yP;split<;>simp
theorem yi(S:Sh)(w:Wk)(n:Nat)(P:Pg):(Qt S w n P).2.2.O3=w.O3/\(Qt S w n P).2.2.O5=w.O5:=by unfold Qt;split<;>exact⟨rfl,rfl⟩
theorem gf(p:Pg)(l h:Int):(Q1 p l h).length<=p.ks.length:=by unfold Q1;refine Bj (Cb _ _) ?_;rw[List.length_zip];lia
theorem kW(S:Sh)(w:Wk)(n:Nat)(p:Pg):(Jz S w n p).2.2.O3=w.O3/\(Jz S w n p).2.2.O5.length<=w.O5.length+p.ks.length:=by
  obtain⟨O0,aim,O4,O6,O3,Oz,O1,O5,O7⟩:=w;cases O0 with
  |find k=>exact⟨rfl,by simp[Jz]⟩
  |put k x=>have:=yi S ⟨.put k x,aim,O4,O6,O3,Oz,QX p aim,O5,O7⟩ n (QW p aim x);refine⟨this.1,?_⟩;show(Qt S ⟨.put k x,aim,O4,O6,O3,Oz,QX p aim,O5,O7⟩ n (QW p aim x)).2.2.O5.length<=_;rw[this.2];exact Nat.le_add_right _ _
  |cut k=>exact⟨rfl,by simp[Jz]⟩
  |stretch l h =>
    have pl:=gf p l h;unfold Jz;dsimp only;split
    . split
      . exact⟨rfl,by simp;lia⟩
      . exact⟨rfl,by simp;lia⟩
    . exact⟨rfl,by simp;lia⟩
theorem xr{S a:Sh}{w w':Wk}{r:Row}{m:Nat}(f:∀(n:Nat)(p:Pg),S.pg[n]?=some p->p.ks.length<=m)(h:Xj S w=some (r,a,w')):w'.O3.length<=w.O3.length+1/\w'.O5.length<=w.O5.length+m:=by
 unfold Xj at h;split at h
 ·cases h;exact⟨⋯,⋯⟩
 ·split at h
  ·cases h
  ·rename_i p U;have j:=f _ p U;split at h
   ·split at h
    ·cases h
    ·cases h;exact⟨by simp,by simp⟩
   ·split at h
    ·split at h
     ·cases h
     ·cases h;exact⟨by simp,by simp⟩
    ·split at h
     ·split at h
      ·cases h
      ·cases h;exact⟨SS _ _ _,by simp⟩
     ·split at h
      ·split at h
       ·cases h
       ·rename_i c i;have z:=yi { S with rd:=S.rd+1 } w (w.O6.getD S.top) (Zh p w.aim c);have e:=Ak h;have b:(Qt { S with rd:=S.rd+1 } w (w.O6.getD S.top) (Zh p w.aim c)).2.2=w':=congrArg (λt=>t.2.2) e;rw[b]at z;exact⟨by rw[z.1];lia,by rw[z.2];lia⟩
      ·have e:=Ak h;have z:=kW { S with rd:=S.rd+1 } w (w.O6.getD S.top) p;rw[e]at z;have z2:w'.O5.length<=w.O5.length+p.ks.length:=z.2;have z1:w'.O3=w.O3:=z.1;exact⟨by rw[z1];lia,⋯⟩
def fresh(d:bH):Wk:=⟨d,d.key,0,none,[],none,none,[],false⟩
end TR
namespace D
open PySem PySem.Spec PyProof.Rows L2
def oN:Option Nat->DV
 |none=>.non
 |some n=>.int n
def aJ(p:TR.Pg):DV:=.tup [.int p.lv,.tup (p.ks.map .int),.tup (p.ps.map .int),opt p.hi,oN p.sd]
def Q9:TR.bH->DV
 |.find k=>.tup [.str "find", .int k]
 |.put k w=>.tup [.str "put", .int k,.int w]
 |.cut k=>.tup [.str "cut", .int k]
 |.stretch l h=>.tup [.str "stretch", .int l,.int h]
def dZ(fs:List (Nat×Nat)):List (Key×DV):=fs.map λp=>(.inl p.1,.int p.2)
def aO(ps:Ep):List DV:=ps.map λp=>.tup [.int p.1,.int p.2]
def cG(s f q:Nat)(d a g p n w e:DV):List (Str×DV):=[("shelf", .ref s),("deed", d),("aim", a),("goal", g),("place", p),("forks", .ref f),("new_page", n),("worth", w),("pairs", .ref q),("ended", e)]
def cN(s f q:Nat)(w:TR.Wk):OV:=.ins "Walk" (cG s f q (Q9 w.O0) (.int w.aim) (.int w.O4) (oN w.O6) (oN w.Oz) (opt w.O1) (.bl w.O7))
def UJ:TR.Row->DV
 |.non=>.non
 |.side n t=>.tup [.str "side", .int n,.int t]
 |.down n t=>.tup [.str "down", .int n,.int t]
 |.found n w=>.tup [.str "found", .int n,opt w]
 |.put n w k=>.tup [.str "put", .int n,opt w,oN k]
 |.cut n w=>.tup [.str "cut", .int n,opt w]
 |.read n ps none=>.tup [.str "read", .int n,.tup (aO ps),.non,.non]
 |.read n ps (some (t,a))=>.tup [.str "read", .int n,.tup (aO ps),.int t,.int a]
 |.told n k=>.tup [.str "told", .int n,oN k]
 |.raised n t=>.tup [.str "raised", .int n,.int t]
section
variable(s f q:Nat)(d a g p n w e x:DV)
theorem QcQ:List.lookup ("shelf" : Str) (cG s f q d a g p n w e)=some (.ref s):=by rfl
theorem zY:List.lookup ("deed" : Str) (cG s f q d a g p n w e)=some d:=by rfl
theorem YQ:List.lookup ("aim" : Str) (cG s f q d a g p n w e)=some a:=by rfl
theorem ki:List.lookup ("goal" : Str) (cG s f q d a g p n w e)=some g:=by rfl
theorem qy:List.lookup ("place" : Str) (cG s f q d a g p n w e)=some p:=by rfl
theorem Gz:List.lookup ("forks" : Str) (cG s f q d a g p n w e)=some (.ref f):=by rfl
theorem vO:List.lookup ("new_page" : Str) (cG s f q d a g p n w e)=some n:=by rfl
theorem Yl:List.lookup ("worth" : Str) (cG s f q d a g p n w e)=some w:=by rfl
theorem GA:List.lookup ("pairs" : Str) (cG s f q d a g p n w e)=some (.ref q):=by rfl
theorem qx:List.lookup ("ended" : Str) (cG s f q d a g p n w e)=some e:=by rfl
def HA:(cG s f q d a g p n w e).length=10:=rfl
theorem Ht:List.lookup ("go_on" : Str) (cG s f q d a g p n w e)=none:=by rfl
theorem Wb:List.lookup ("do_deed" : Str) (cG s f q d a g p n w e)=none:=by rfl
theorem Wa:List.lookup ("tell_fork" : Str) (cG s f q d a g p n w e)=none:=by rfl
theorem V_:List.lookup ("raise_root_over" : Str) (cG s f q d a g p n w e)=none:=by rfl
theorem Hr:List.lookup ("settle" : Str) (cG s f q d a g p n w e)=none:=by rfl
theorem U_:List.lookup ("find_worth" : Str) (cG s f q d a g p n w e)=none:=by rfl
theorem T_:List.lookup ("put_pair" : Str) (cG s f q d a g p n w e)=none:=by rfl
theorem T9:List.lookup ("cut_key" : Str) (cG s f q d a g p n w e)=none:=by rfl
theorem T8:List.lookup ("read_pairs" : Str) (cG s f q d a g p n w e)=none:=by rfl
theorem vN:List.lookup ("step" : Str) (cG s f q d a g p n w e)=none:=by rfl
theorem qX:List.lookup ("over" : Str) (cG s f q d a g p n w e)=none:=by rfl
theorem js:List.lookup ("answer" : Str) (cG s f q d a g p n w e)=none:=by rfl
end
theorem DZ(fs:List (Nat×Nat))(k v:Nat):Ya (dZ fs) (.inl (k:Int)) (.int v)=dZ (TR.yP fs k v):=by
 unfold Ya TR.yP;have e:((dZ fs).any λa=>decide (a.1=(.inl (k:Int):Key)))=fs.any λp=>decide (p.1=k):=by unfold dZ;rw[List.any_map];congr 1;funext p;simp only[Function.comp];congr 1;simp;lia
 rw[e];by_cases h:(fs.any λp=>decide (p.1=k))=true
 ·rw[Eb h,Eb h];unfold dZ;rw[List.map_map,List.map_map];apply List.map_congr_left;intro p _;simp only[Function.comp];by_cases q:p.1=k
  ·simp[q]
  ·have:¬ ((p.1:Int)=(k:Int)):=⋯
   simp[q,this]
 ·rw[Ea h,Ea h];simp[dZ]
theorem DU(fs:List (Nat×Nat))(k:Nat):Jx (dZ fs) (.inl (k:Int))=(TR.J2 fs k).map λv=>.int v:=by
  induction fs with
  |nil=>rfl
  |cons p r a =>
    rw[show dZ (p::r)=(.inl (p.1:Int),.int p.2)::dZ r from rfl,Gy,a];unfold TR.J2;rw[B8];by_cases q:p.1=k
    . simp[q]
    . have:¬ ((p.1:Int)=(k:Int)):=⋯
      simp[q,this]
def D0(fs:List (Nat×Nat)):(dZ fs).length=fs.length:=Br _
section
variable{c f m:Str}{o e:aF}{fa:cu}{env:En}{U hp1 hp2:Hs}{a n:Nat}{fs:List (Str×DV)}{d v:DV}{ds:List DV}{F:Eu}
theorem vk{α:Type}{k:Nat->List (Str×DV)->M α}(h:U[a]?=some (.ins c fs)):eN c (.ref a) k U=k a fs U:=by show(ZF a >>= _) U=_;rw[Qg (Zg h)];show(QB (decide (c=c)) >>= λ_=>k a fs) U=_;rw[Ef rfl];rfl
theorem JE(he:e env U=some (v,hp1))(i:o env hp1=some (.ref a,hp1))(h:hp1[a]?=some (.ins c fs))(b:fs.length<1000):Zf c f o e env U=some ((.nx,env),hp1.set a (.ins c (Xw f v fs))):=by
 unfold Zf;rw[Qg he,Qg i];unfold xo;have:eN c (.ref a) (λn fs=>do QB (decide (fs.length<1000));xq n (.ins c (Xw f v fs))) hp1=some ((),hp1.set a (.ins c (Xw f v fs))):=by rw[vk h,Ef b];rfl
 rw[Qg this];rfl
theorem Zc(b:o env U=some (.ref a,hp1))(h:hp1[a]?=some (.ins c fs))(hf:fs.lookup f=some d):QN c f o env U=some (d,hp1):=by unfold QN;rw[Qg b];unfold j7;rw[vk h,hf];rfl
theorem QZ(q:o env U=some (.ref a,U))(h:U[a]?=some (.ins c fs))(j:fs.lookup m=none)(i:fa env U=some (ds,hp1))(l:ds.length+1=n)(b:F (.ref a::ds) hp1=some (d,hp2)):Qz c m n F o fa env U=some (d,hp2):=by
 unfold Qz;rw[Qg q];have:eN c (.ref a) (λ_ fs=>QB (fs.lookup m).isNone) U=some ((),U):=by rw[vk h,j];rfl
 rw[Qg this,Qg i,Ef l];show(QB true >>= λ_=>F (.ref a::ds)) hp1=_;exact b
def JQ:Ql env U=some ([],U):=rfl
theorem Jd(h:e env U=some (v,hp1)):Qc e Ql env U=some ([v],hp1):=by unfold Qc;rw[Qg h];rfl
theorem ZM{b:aF}(h:e env U=some (v,hp1))(h':b env hp1=some (v',hp2)):Qc e (Qc b Ql) env U=some ([v,v'],hp2):=by have:=Jd h';unfold Qc at this ⊢;rw[Qg h,Qg this];rfl
theorem Z5{j b:aF}(h:e env U=some (v,hp1))(h':j env hp1=some (v',hp2))(i:b env hp2=some (v'',hp3)):Qc e (Qc j (Qc b Ql)) env U=some ([v,v',v''],hp3):=by have:=ZM h' i;unfold Qc at this ⊢;rw[Qg h,Qg this];rfl
theorem Qe{i:Nat}(h:env[i]?=some (.val d)):Qb i env U=some (d,U):=by unfold Qb;rw[h];rfl
theorem QY{k:Nat}(h:fa env U=some (ds,hp1))(i:ds.length=k)(b:F ds hp1=some (d,hp2)):Qs k F fa env U=some (d,hp2):=by unfold Qs;rw[Qg h,Ef i];exact b
theorem BG{c:bO}{f g:aD}(h:c env U=some (true,hp1)):aL c f g env U=f env hp1:=by rw[Hh h];rfl
theorem Hv{c:bO}{f g:aD}(h:c env U=some (false,hp1)):aL c f g env U=g env hp1:=by rw[Hh h];rfl
def v_:Q6 env U=some ((.nx,env),U):=rfl
theorem XO{i:Nat}(h:U[a]?=some (.lst ds))(hd:ds[i]?=some d):aA (.ref a) (.int i) U=some (d,U):=by show(ZF a >>= _) U=_;rw[Qg (Zg h)];show(cF (.int (i:Int)) >>= λi=>Yz (atI ds i)) U=_;simp only[cF,Ei,ja hd];rfl
end
theorem Qe8{o:aF}{fa:cu}{U:Hs}{a:Nat}{fs:List (Nat×Nat)}{j:Nat}(e:o env U=some (.ref a,U))(h:U[a]?=some (.aB (dZ fs)))(c:fa env U=some ([.int (j:Int)],U)):JL "dict" Xs o fa env U=some (oN (TR.J2 fs j),U):=by
 unfold JL;rw[Qg e];have b:Xi "dict" (.ref a) U=some ((),U):=by show(ZF a >>= _) U=_;rw[Qg (Zg h)];rfl
 rw[Qg b,Qg c];show(ZF a >>= _) U=_;rw[Qg (Zg h)];show some (((Jx (dZ fs) (.inl (j:Int))).getD .non),U)=_;rw[DU];cases TR.J2 fs j<;>rfl
theorem wl{s f q:Nat}{d a g p n w e:DV}:(cG s f q d a g p n w e).length<1000:=by rw[HA];decide
theorem Zm{xs:List DV}{i:Nat}(h:xs[i]?=some d)(U:Hs):aA (.tup xs) (.int i) U=some (d,U):=by show bL (.tup xs) (.int i) U=_;simp only[bL,ja h];rfl
def Ig(p:TR.Pg)(U:Hs):aA (aJ p) (.int 0) U=some (.int p.lv,U):=Zm (i:=0) rfl U
def Ih(p:TR.Pg)(U:Hs):aA (aJ p) (.int 1) U=some (.tup (p.ks.map .int),U):=Zm (i:=1) rfl U
def Ho(p:TR.Pg)(U:Hs):aA (aJ p) (.int 2) U=some (.tup (p.ps.map .int),U):=Zm (i:=2) rfl U
def MG(p:TR.Pg)(U:Hs):aA (aJ p) (.int 3) U=some (opt p.hi,U):=Zm (i:=3) rfl U
def w6(p:TR.Pg)(U:Hs):aA (aJ p) (.int 4) U=some (oN p.sd,U):=Zm (i:=4) rfl U
theorem Qdd(d:TR.bH)(U:Hs):aA (Q9 d) (.int 1) U=some (.int d.key,U):=by cases d<;>exact Zm (i:=1) rfl U
section
variable{e e' e'' e3 e4:aF}{fa:cu}{env:En}{U hp1 hp2 hp3 cZ lJ:Hs}{v v' v'' v3 v4 d:DV}{ds:List DV}
theorem JG(a:fa env U=some (ds,hp1))(hs:ds.length<=100000):Zk fa env U=some (.tup ds,hp1):=by unfold Zk;rw[Qg a];have:YN ds=true:=Ef hs;rw[this];rfl
theorem VT(h:e env U=some (v,hp1))(h':e' env hp1=some (v',hp2))(a:e'' env hp2=some (v'',hp3))(h3:e3 env hp3=some (v3,cZ)):Qc e (Qc e' (Qc e'' (Qc e3 Ql))) env U=some ([v,v',v'',v3],cZ):=by have:=Z5 h' a h3;unfold Qc at this ⊢;rw[Qg h,Qg this];rfl
theorem Fq(h:e env U=some (v,hp1))(h':e' env hp1=some (v',hp2))(a:e'' env hp2=some (v'',hp3))(h3:e3 env hp3=some (v3,cZ))(h4:e4 env cZ=some (v4,lJ)):Qc e (Qc e' (Qc e'' (Qc e3 (Qc e4 Ql)))) env U=some ([v,v',v'',v3,v4],lJ):=by have:=VT h' a h3 h4;unfold Qc at this ⊢;rw[Qg h,Qg this];rfl
end
theorem KW{t:DV->M Bool}{f:DV->M DV}{p:DV->Bool}(ds:List DV)(l:∀d∈ds,t d U=some (p d,U))(hf:∀d∈ds,f d U=some (d,U))(j:ds.length<100000):Z6 (bW ds) t f 100000 0 U=some (ds.filter p,U):=by
  suffices h:∀(m i n:Nat),m+i=ds.length->m<n->Z6 (bW ds) t f n i U=some ((ds.drop i).filter p,U)by simpa using h ds.length 0 100000 rfl j
  intro m;induction m with
  |zero =>
    intro i n e c;obtain⟨n,rfl⟩:∃k,n=k+1:=⟨n-1,⋯⟩;have:i=ds.length:=⋯
    subst this;have b:=zR ds ds.length (Ae _) U;rw[show ds[ds.length]?=none by simp]at b;rw[Z6,Qg b,C5];rfl
  |succ m o =>
    intro i n e c;obtain⟨n,rfl⟩:∃k,n=k+1:=⟨n-1,⋯⟩;have a:i<ds.length:=⋯
    have b:=zR ds i ⋯ U;rw[Ab a]at b;have hi:=o (i+1) n ⋯ ⋯;rw[Z6,Qg b];simp only;rw[Qg (l ds[i] (B9 a)),Bi a];cases q:p ds[i]with
    |false=>rw[List.filter_cons_of_neg (by simp[q])];simpa using hi
    |true=>rw[List.filter_cons_of_pos q];simp only[if_true];rw[Qg (hf ds[i] (B9 a)),Qg hi];rfl
theorem Ly:∀(ks ps:List Int),qY (ks.map .int) (ps.map .int)=aO (ks.zip ps)
  | [],_=>by cases ‹List Int› <;> rfl
  |_::_,[]=>rfl
  |k::ks,p::ps=>by show .tup [.int k,.int p]::qY (ks.map .int) (ps.map .int)=_;rw[Ly ks ps];rfl
def rH(l h:Int):DV->Bool
 |.tup [.int x,_]=>decide (l<=x)&&decide (x<h)
 |_=>false
theorem Qao(l h:Int)(a:Ep):(aO a).filter (rH l h)=aO (a.filter λq=>decide (l<=q.1)&&decide (q.1<h)):=by unfold aO;rw[List.filter_map];rfl
theorem Qb8{o:aF}{fa:cu}{U:Hs}{a b:Nat}{ds es:List DV}(j:o env U=some (.ref a,U))(h:U[a]?=some (.lst ds))(e:fa env U=some ([.ref b],U))(f:U[b]?=some (.lst es))(i:ds.length+es.length<=100000):JL "list" YF o fa env U=some (.non,U.set a (.lst (ds++es))):=by
 unfold JL;rw[Qg j];have c:Xi "list" (.ref a) U=some ((),U):=by show(ZF a >>= _) U=_;rw[Qg (Zg h)];rfl
 rw[Qg c,Qg e];show(ZF a >>= _) U=_;rw[Qg (Zg h)];show(ZF b >>= _) U=_;rw[Qg (Zg f)];show(QB (decide (ds.length+es.length<=lim)) >>= λ_=>xq a (.lst (ds++es)) >>= λ_=>pure DV.non) U=_;rw[show decide (ds.length+es.length<=lim)=true from Ef i];rfl
def qO(a:Ep):(aO a).length=a.length:=Br _
theorem Rs(a ys:Ep):aO a++aO ys=aO (a++ys):=by simp[aO]
theorem yO(o:Option Int):isD (opt o) .non=pure (.bl o.isNone):=by cases o<;>rfl
theorem Qah(o:Option Int):qK (opt o) .non=pure (.bl o.isSome):=by cases o<;>rfl
theorem Ut(o:Option Nat):isD (oN o) .non=pure (.bl o.isNone):=by cases o<;>rfl
theorem IV{x:Str}(h:PyData.strOk x=true):iY (.str x)=true:=by simp[iY,Gd,toP,SeqAt.shaped,PyData.canLay0,PyData.depth,h]
theorem fX{x y:Str}(U:Hs)(h1:PyData.strOk x=true)(h2:PyData.strOk y=true){b:Bool}(h:(x==y)=b):aX (.str x) (.str y) U=some (.bl b,U):=by
 unfold aX;have e:Vy (.str x) (.str y) U=some (x==y,U):=by rw[M6 (M8 39 U x) (M8 39 U y) (IV h1) (IV h2)];rfl
 rw[Qg e,h];rfl
section
variable{c c':bO}{e e':aF}{env:En}{U hp1:Hs}{b:Bool}
theorem Fe(h:c env U=some (true,hp1)):cA c c' env U=some (true,hp1):=by unfold cA;rw[Qg h];rfl
theorem Uc(h:c env U=some (false,hp1)):cA c c' env U=c' env hp1:=by unfold cA;rw[Qg h];rfl
theorem yB(h:c env U=some (true,hp1)):J1 c c' env U=c' env hp1:=by unfold J1;rw[Qg h];rfl
theorem j6(h:c env U=some (false,hp1)):J1 c c' env U=some (false,hp1):=by unfold J1;rw[Qg h];rfl
theorem TY(h:c env U=some (true,hp1)):cL c e e' env U=e env hp1:=by unfold cL;rw[Qg h];rfl
theorem T3(h:c env U=some (false,hp1)):cL c e e' env U=e' env hp1:=by unfold cL;rw[Qg h];rfl
end
theorem Ul{w:TR.Wk}{i:Nat}{k:Int}(h:w.O0=.find k):TR.Jz S w i p=(.found i (TR.QX p w.aim),S,{ w with O1:=TR.QX p w.aim,O7:=true }):=by cases w;simp only at h;subst h;rfl
theorem Ga{w:TR.Wk}{i:Nat}{k x:Int}(h:w.O0=.put k x):TR.Jz S w i p=(.put i (TR.QX p w.aim) (TR.Qt S { w with O1:=TR.QX p w.aim } i (TR.QW p w.aim x)).1,(TR.Qt S { w with O1:=TR.QX p w.aim } i (TR.QW p w.aim x)).2.1,(TR.Qt S { w with O1:=TR.QX p w.aim } i (TR.QW p w.aim x)).2.2):=by cases w;simp only at h;subst h;rfl
theorem K9{S:TR.Sh}{w:TR.Wk}{i:Nat}{k:Int}(h:w.O0=.cut k):TR.Jz S w i p=(.cut i (TR.QX p w.aim),if (TR.QX p w.aim).isSome=true then { S with pg:=S.pg.set i (TR.without p w.aim),wr:=S.wr+1 }else S,{ w with O1:=TR.QX p w.aim,O7:=true }):=by cases w;simp only at h;subst h;rfl
theorem Qch{w:TR.Wk}{i:Nat}{p:TR.Pg}{l h:Int}(e:w.O0=.stretch l h)(h1:p.hi=none):TR.Jz S w i p=(.read i (TR.Q1 p l h) none,S,{ w with O5:=w.O5++TR.Q1 p l h,O7:=true }):=by cases w;cases p;simp only at e h1;subst e h1;rfl
theorem QdH{w:TR.Wk}{i:Nat}{p:TR.Pg}{l h x:Int}{s:Nat}(e:w.O0=.stretch l h)(h1:p.hi=some x)(h2:p.sd=some s):TR.Jz S w i p=if h<=x then (.read i (TR.Q1 p l h) none,S,{ w with O5:=w.O5++TR.Q1 p l h,O7:=true })else (.read i (TR.Q1 p l h) (some (s,x)),S,{ w with O5:=w.O5++TR.Q1 p l h,aim:=x,O6:=some s }):=by cases w;cases p;simp only at e h1 h2;subst e h1 h2;rfl
theorem MY{e o j:aF}{U:Hs}{a l v:Nat}{fs:List (Nat×Nat)}(he:e env U=some (.int (v:Int),U))(c:o env U=some (.ref a,U))(b:j env U=some (.int (l:Int),U))(h:U[a]?=some (.aB (dZ fs)))(hf:fs.length<5000):Jw e (bB o j) env U=some ((.nx,env),U.set a (.aB (dZ (TR.yP fs l v)))):=by refine jr he ?_;unfold bB;rw[Qg c,Qg b];have:=xX (d:=.int (v:Int)) h (show YV (.int (l:Int))=some (.inl (l:Int))from rfl) (by rw[D0];lia);rw[DZ]at this;rw[Qg this];rfl
section
variable{f g:aF}{fa:cu}{env:En}{U hp1 hp2:Hs}{d x y:DV}{ds:List DV}{F:Eu}
theorem jX(h:fa env U=some (ds,hp1))(a:F ds hp1=some (d,hp2)):ZO F fa env U=some (d,hp2):=by unfold ZO;rw[Qg h];exact a
def QdI(ds:List DV)(U:Hs):Yw [.lst ds] U=some (.int ds.length,U):=rfl
theorem QdJ{n:Nat}(h:U[n]?=some (.lst ds)):Yw [.ref n] U=some (.int ds.length,U):=by show(ZF n >>= _) U=_;rw[Qg (Zg h)];rfl
def QdL(ds:List DV)(U:Hs):pB [.tup ds] U=some (.lst ds,U):=rfl
theorem PB(i j:Int)(U:Hs):dI (.int i) (.int j) U=some (.bl (!(i==j)),U):=by unfold dI;rw[Qg (uE i j U)];rfl
theorem S8(i:Int)(U:Hs):dI (.int i) (.int i) U=some (.bl false,U):=by rw[PB];simp
theorem wg(i j:Int)(U:Hs):aX (.int i) (.int j) U=some (.bl (i==j),U):=by unfold aX;rw[Qg (uE i j U)];rfl
end
theorem vP{f:lA}(h:f env U=some (ds,hp1)):eG f env U=some (bW ds,hp1):=by unfold eG;rw[Qg h];rfl
section
variable{c:bO}{b:aD}{n:Nat}{env aR:En}{U hp1 hp2:Hs}
end
theorem QbS{o e:aF}{U:Hs}{a:Nat}{ds:List DV}(f:o env U=some (.ref a,U))(h:U[a]?=some (.lst ds))(he:e env U=some (d,U))(c:ds.length<100000):JL "list" Jf o (Qc e Ql) env U=some (.non,U.set a (.lst (ds++[d]))):=by
 unfold JL;rw[Qg f];have b:Xi "list" (.ref a) U=some ((),U):=by show(ZF a >>= _) U=_;rw[Qg (Zg h)];rfl
 rw[Qg b,Qg (Jd he)];show(ZF a >>= _) U=_;rw[Qg (Zg h)];show(QB (decide (ds.length<lim)) >>= λ_=>xq a (.lst (ds++[d])) >>= λ_=>pure DV.non) U=_;rw[show decide (ds.length<lim)=true from Ef c];rfl
theorem Sn{n:Nat}{a:aD}{ds:List DV}(h:a (ds.map .val++List.replicate (n-ds.length) .un) U=some ((.nx,env),hp1)):Zb n a ds U=some (.non,hp1):=by unfold Zb;rw[Qg h];rfl
theorem gh(f:Str)(d:DV):∀fs:List (Str×DV),(Xw f d fs).length<=fs.length+1
  | []=>Ae _
  | (g,x)::r=>by
    unfold Xw;split
    . simp
    . simpa using gh f d r
def J8{f:Str}{fs:List (Str×DV)}{m:Nat}(h:fs.length<=m):(Xw f d fs).length<=m+1:=Bj (gh f d fs) (Nat.succ_le_succ h)
theorem QcF(f g h:aD)(env:En)(U:Hs):Qq f (Qq g h) env U=Qq (Qq f g) h env U:=by
  cases e:f env U with
  |none=>unfold Qq;rw[ZG,ZG,ZG,e];rfl
  |some r =>
    obtain⟨⟨c,aR⟩,hp1⟩:=r;cases c with
    |nx=>have b:Qq f g env U=g aR hp1:=qQ e;rw[qQ e];show(Qq g h aR) hp1=(Qq (Qq f g) h env) U;unfold Qq at b ⊢;rw[ZG,ZG,b]
    |rt d=>rw[Q2 e,Q2 (Q2 e)]
    |bk =>
      have a:∀k:aD,Qq f k env U=some ((.bk,aR),hp1):=λk=>by unfold Qq;rw[Qg e];rfl
      rw[a];unfold Qq at a ⊢;rw[Qg (a g)];rfl
    |ct =>
      have a:∀k:aD,Qq f k env U=some ((.ct,aR),hp1):=λk=>by unfold Qq;rw[Qg e];rfl
      rw[a];unfold Qq at a ⊢;rw[Qg (a g)];rfl
section
variable{X:Cx}{e:Expr}{f:aF}{pos:Pos}
def xG(T:String)(f:aF):aF:=λenv=>do
  let x <- f env
  match x with
  |.ref n=>do
    match <- ZF n with
    |.lst _=>pure (.bl (Kz "list" T))
    |_=>failure
  |x=>match Kb x with
    |some t=>pure (.bl (Kz t T))
    |none=>failure
theorem HZ{T:String}(c:T∈["int", "bool", "tuple", "str", "list"]):CallR X (.builtin "isinstance") (λxs H Q=>(∃ρ B d x t,xs=[x,.ty T]/\au X.K ρ B H d x/\Kb d=some t/\Q (.bl (Kz t T)) H)∨∃a ys,xs=[.ref a,.ty T]/\SqL X.K H a ys/\Q (.bl (Kz "list" T)) H):=by
 intro l s σ H xs us Q I r h;rcases h with h|⟨a,ys,rfl,F,q⟩
 ·exact Fp c l s σ H xs us Q I r h
 ·obtain⟨u,w',rfl,C,j⟩:=gY r;cases j;have b:∀m,EP X l σ Q (.bool (Kz "list" T)) { s with toks:=m }:=λm=>⟨.bl _,H,I.tok _,rfl,q⟩;have i:PySem.W.kitOne X.K (.type "list") (.type T)=some (Kz "list" T):=by simp only[Bk,Cf,or_false]at c;rcases c with rfl|rfl|rfl|rfl|rfl<;>first|rfl|decide|with_unfolding_all rfl|kernel_rfl
  cases C;obtain⟨y,_,⟨o,k,n,v,_⟩,_⟩:=I.list F;exact PySem.W.kia_one PySem.W.kitx_list I.kIn ⟨o,n,v⟩ i (λz=>nomatch z) b
theorem Qe6{T:String}{p p':Pos}(z:X.mg "isinstance" = none)(l:X.mg (Str.ofString T)=none)(I:bootBuiltins (Str.ofString T)=some (.type T))(u:T∈["int", "bool", "tuple", "str", "list"])(h:DE X e f)(y:Gl X "isinstance" := by rfl)(j:Gl X (Str.ofString T):=by rfl)
    (hn:Str.ofString T ≠ "__name__" := by decide) (hdb:(Str.ofString T==("__debug__" : Str))=false:=by decide) (hs:starEach [e,.Name (Str.ofString T) p'] X.env=(false,eval e X.env)::starEach [.Name (Str.ofString T) p'] X.env:=by rfl)
    (hs2:starEach [.Name (Str.ofString T) p'] X.env=(false,eval (.Name (Str.ofString T) p') X.env)::starEach [] X.env:=by rfl) (hpl:(backTo pos (starEach [.Name (Str.ofString T) p'] X.env)).any (·.1)=false:=by rfl):DE X (.Call (.Name "isinstance" p) [e,.Name (Str.ofString T) p'] [] pos) (xG T f) :=
  L2.PE.imp (Uz (HZ u) y z boot_isinstance (Yf h (Yf (IK (v:=.ty T) j l I rfl hn hdb) pa_nil hs2) hs) (by decide) (by decide) hs hpl) λσ H Q m=>by
    obtain⟨Z,env,ρ,B,U,d,C,S,e,k⟩:=m;obtain⟨x,hp1,q,c⟩:=Qf e;refine tD.run S q λv ρ1 b H1 g1 S1 i=>?_;cases x with
    |ref n =>
      obtain⟨o,F,r,e4⟩:=Qf c;obtain⟨t,rfl⟩:=ZB r;cases o with
      |lst L=>obtain⟨rfl,rfl⟩:=Qk e4;obtain⟨a,rfl,_,ys,h1,J⟩:=au.aY S1.wo i t;exact .inr ⟨a,ys,rfl,SqL.of h1,k _ ρ1 b H1 g1 S1.wo Ja⟩
      |aB _=>cases e4
      |ins _ _=>cases e4
    |non=>obtain⟨rfl,rfl⟩:=Qk c;exact .inl ⟨ρ1,b,_,v,_,rfl,i,rfl,k _ ρ1 b H1 g1 S1.wo Ja⟩
    |bl _=>obtain⟨rfl,rfl⟩:=Qk c;exact .inl ⟨ρ1,b,_,v,_,rfl,i,rfl,k _ ρ1 b H1 g1 S1.wo Ja⟩
    |int _=>obtain⟨rfl,rfl⟩:=Qk c;exact .inl ⟨ρ1,b,_,v,_,rfl,i,rfl,k _ ρ1 b H1 g1 S1.wo Ja⟩
    |str _=>obtain⟨rfl,rfl⟩:=Qk c;exact .inl ⟨ρ1,b,_,v,_,rfl,i,rfl,k _ ρ1 b H1 g1 S1.wo Ja⟩
    |tup _=>obtain⟨rfl,rfl⟩:=Qk c;exact .inl ⟨ρ1,b,_,v,_,rfl,i,rfl,k _ ρ1 b H1 g1 S1.wo Ja⟩
    |lst _=>obtain⟨rfl,rfl⟩:=Qk c;exact .inl ⟨ρ1,b,_,v,_,rfl,i,rfl,k _ ρ1 b H1 g1 S1.wo Ja⟩
end
def Pl:Nat->DV->Prop
 |_,.non=>True
 |_,.bl _=>True
 |_,.int _=>True
 |_,.str x=>PyData.strOk x=true
 |n+1,.tup ds=>∀d∈ds,Pl n d
 |n+1,.lst ds=>∀d∈ds,Pl n d
 |_,_=>False
theorem GW:∀(n:Nat)(d:DV)(k:Nat)(U:Hs),Pl n d->cD (n+k+1) U d=some d
  |n,.non,k,U,_=>rfl
  |n,.bl _,k,U,_=>rfl
  |n,.int _,k,U,_=>rfl
  |n,.str _,k,U,_=>rfl
  |0,.tup ds,k,U,h=>h.elim
  |0,.lst ds,k,U,h=>h.elim
  |0,.ref _,k,U,h=>h.elim
  |n+1,.ref _,k,U,h=>h.elim
  |n+1,.tup ds,k,U,h=>by show(ds.mapM (cD (n+1+k) U)).map DV.tup=_;rw[jm λd hd=>(by rw[Nat.add_right_comm];exact GW n d k U (h d hd))];rfl
  |n+1,.lst ds,k,U,h=>by show(ds.mapM (cD (n+1+k) U)).map DV.lst=_;rw[jm λd hd=>(by rw[Nat.add_right_comm];exact GW n d k U (h d hd))];rfl
theorem vd:∀(ds:List DV),(∀d∈ds,(toP d).canLay0=true)->PyData.canLayAll0 (bZ ds)=true
 | [],_=>by unfold bZ PyData.canLayAll0;rfl
 |d::ds,h=>by unfold bZ PyData.canLayAll0;rw[h d (by simp),vd ds λx hx=>h x (Ax _ hx)];rfl
theorem Uk:∀(n:Nat)(d:DV),Pl n d->(toP d).canLay0=true
 |n,.non,_=>by unfold toP PyData.canLay0;rfl
 |n,.bl _,_=>by unfold toP PyData.canLay0;rfl
 |n,.int _,_=>by unfold toP PyData.canLay0;rfl
 |n,.str x,h=>by cases n<;>(unfold toP PyData.canLay0;exact h)
 |0,.tup ds,h=>h.elim
 |0,.lst ds,h=>h.elim
 |0,.ref _,h=>h.elim
 |n+1,.ref _,h=>h.elim
 |n+1,.tup ds,h=>by unfold toP PyData.canLay0;exact vd ds λd hd=>Uk n d (h d hd)
 |n+1,.lst ds,h=>by unfold toP PyData.canLay0;exact vd ds λd hd=>Uk n d (h d hd)
theorem yx(n:Nat):∀(ds:List DV),(∀d∈ds,(toP d).depth<=n)->PyData.depthAll (bZ ds)<=n
 | [],_=>by unfold bZ PyData.depthAll;exact Be _
 |d::ds,h=>by unfold bZ PyData.depthAll;exact Nat.max_le.mpr ⟨h d (by simp),yx n ds λx hx=>h x (Ax _ hx)⟩
theorem V4:∀(n:Nat)(d:DV),Pl n d->(toP d).depth<=n
 |n,.non,_=>by unfold toP PyData.depth;exact Be _
 |n,.bl _,_=>by unfold toP PyData.depth;exact Be _
 |n,.int _,_=>by unfold toP PyData.depth;exact Be _
 |n,.str x,h=>by unfold toP PyData.depth;exact Be _
 |0,.tup ds,h=>h.elim
 |0,.lst ds,h=>h.elim
 |0,.ref _,h=>h.elim
 |n+1,.ref _,h=>h.elim
 |n+1,.tup ds,h=>by unfold toP PyData.depth;exact Nat.succ_le_succ (yx n ds λd hd=>V4 n d (h d hd))
 |n+1,.lst ds,h=>by unfold toP PyData.depth;exact Nat.succ_le_succ (yx n ds λd hd=>V4 n d (h d hd))
theorem yW{n:Nat}(h:Pl n d)(a:n<=64):SeqAt.shaped (toP d)=true:=by unfold SeqAt.shaped;rw[Uk n d h,Ef (Bj (V4 n d h) a)];rfl
theorem V7{n:Nat}(h:Pl n d)(a:n<40)(U:Hs):cD 40 U d=some d:=by
 have:=GW n d (39-n) U h
 rwa [show n+(39-n)+1=40 by lia]at this
theorem wZ(n:Nat)(i:Int):Pl n (.int i):=by cases n<;>trivial
theorem MA(n:Nat):Pl n .non:=by cases n<;>trivial
theorem FN(n:Nat)(b:Bool):Pl n (.bl b):=by cases n<;>trivial
theorem Mo{n:Nat}{x:Str}(h:PyData.strOk x=true):Pl n (.str x):=by cases n<;>exact h
theorem Hl(n:Nat)(o:Option Int):Pl n (opt o):=by cases o;exact MA n;exact wZ n _
def Mn{n:Nat}(h:∀d∈ds,Pl n d):Pl (n+1) (.tup ds):=h
theorem Qb7{n m:Nat}(h:Pl n x)(h':Pl m y)(b:n<40)(a:m<40)(U:Hs):Vy x y U=some (PyData.eqv (toP x) (toP y),U):=by unfold Vy kL;show((Option.map _ (cD 40 U x)).bind _)=_;rw[V7 h b];show((Option.map _ (cD 40 U y)).bind _)=_;rw[V7 h' a];show(QB (SeqAt.shaped (toP x)&&SeqAt.shaped (toP y)) >>= λ_=>pure (PyData.eqv (toP x) (toP y)):M Bool) U=_;rw[yW h ⋯,yW h' ⋯];rfl
theorem K2{n:Nat}(h:Pl n x)(a:n<40)(U:Hs):Vy x x U=some (true,U):=by rw[Qb7 h h a a,SeqAt.eqv_refl _ (Uk n x h)]
theorem zF{n:Nat}(h:Pl n x)(a:n<40)(U:Hs):aX x x U=some (.bl true,U):=by unfold aX;rw[Qg (K2 h a U)];rfl
theorem ga{n:Nat}(h:Pl n x)(a:n<40)(U:Hs):dI x x U=some (.bl false,U):=by unfold dI;rw[Qg (K2 h a U)];rfl
theorem jh{a:Nat}{n:Nat}{U:Hs}(c:U[a]?=some (.lst ds))(h:∀d∈ds,Pl n d)(f:n<38):Vy (.ref a) (.lst ds) U=some (true,U):=by
 have b:Pl (n+1) (.lst ds):=h;have e:cD 40 U (.ref a)=some (.lst ds):=by show(match U[a]? with|some (.lst ds)=>(ds.mapM (cD 39 U)).map DV.lst|_=>none)=_;rw[c];show(ds.mapM (cD 39 U)).map DV.lst=_;rw[jm λd hd=>(by have:=GW n d (38-n) U (h d hd);rwa [show n+(38-n)+1=39 by lia]at this)];rfl
 unfold Vy kL;show((Option.map _ (cD 40 U (.ref a))).bind _)=_;rw[e];show((Option.map _ (cD 40 U (.lst ds))).bind _)=_;rw[V7 b ⋯];show(QB (SeqAt.shaped (toP (.lst ds))&&SeqAt.shaped (toP (.lst ds))) >>= λ_=>pure (PyData.eqv (toP (.lst ds)) (toP (.lst ds))):M Bool) U=_;rw[yW b ⋯,SeqAt.eqv_refl _ (Uk _ _ b)];rfl
theorem Qdl{a:Nat}{n:Nat}{U:Hs}(b:U[a]?=some (.lst ds))(h:∀d∈ds,Pl n d)(c:n<38):aX (.ref a) (.lst ds) U=some (.bl true,U):=by unfold aX;rw[Qg (jh b h c)];rfl
theorem QdS{a:Nat}{n:Nat}{U:Hs}(b:U[a]?=some (.lst ds))(h:∀d∈ds,Pl n d)(c:n<38):dI (.ref a) (.lst ds) U=some (.bl false,U):=by unfold dI;rw[Qg (jh b h c)];rfl
theorem Qb2{t:DV->M Bool}{f:DV->M DV}{g:DV->DV}(ds:List DV)(l:∀d∈ds,t d U=some (true,U))(hf:∀d∈ds,f d U=some (g d,U))(j:ds.length<100000):Z6 (bW ds) t f 100000 0 U=some (ds.map g,U):=by
  suffices h:∀(m i n:Nat),m+i=ds.length->m<n->Z6 (bW ds) t f n i U=some ((ds.drop i).map g,U)by simpa using h ds.length 0 100000 rfl j
  intro m;induction m with
  |zero =>
    intro i n e c;obtain⟨n,rfl⟩:∃k,n=k+1:=⟨n-1,⋯⟩;have:i=ds.length:=⋯
    subst this;have b:=zR ds ds.length (Ae _) U;rw[show ds[ds.length]?=none by simp]at b;rw[Z6,Qg b,C5];rfl
  |succ m o =>
    intro i n e c;obtain⟨n,rfl⟩:∃k,n=k+1:=⟨n-1,⋯⟩;have a:i<ds.length:=⋯
    have b:=zR ds i ⋯ U;rw[Ab a]at b;rw[Z6,Qg b];simp only;rw[Qg (l ds[i] (B9 a)),Bi a];simp only[if_true];rw[Qg (hf ds[i] (B9 a)),Qg (o (i+1) n ⋯ ⋯)];rfl
def Mt{α:Type}{m:M α}{x:α}(h:∀U,m U=some (x,U)):m=pure x:=funext h
section
variable{env:En}{U hp1 hp2 hp3 cZ lJ Q_ hp7:Hs}{e e' e'' e3 e4 e5 e6:aF}{v v' v'' v3 v4 v5 v6:DV}
theorem DF{f:aF}{a:Nat}(h:f env U=some (.ref a,hp1))(h':hp1[a]?=some (.lst ds)):xG "list" f env U=some (.bl true,hp1):=by unfold xG;rw[Qg h];show(ZF a >>= _) hp1=_;rw[Qg (Zg h')];rfl
end
section
variable{X:Cx}{tg e a b c:Expr}{f fa fb:aF}{pos:Pos}
def pD:DV->DV->M DV
  |.ref n,.lst ys=>do
    match <- ZF n with
    |.lst xs=>do QB (YN (xs++ys));pure (.lst (xs++ys))
    |_=>failure
  |x,y=>ZE x y
theorem MX:P2 X (binaryOp .Add) pD:=by
  intro m s σ H x y v u Q I rx ry h;obtain⟨ρ,B,U,O,P,d,j,W,t,z,e,k⟩:=h;unfold pD at e;split at e
  . rename_i n ys
    obtain⟨o,hp1,C,i⟩:=Qf e;obtain⟨F,rfl⟩:=ZB C;cases o with
    |aB _=>cases i
    |ins _ _=>cases i
    |lst xs =>
      obtain⟨_,hp1,e4,J⟩:=Qf i;obtain⟨hs,rfl⟩:=QM e4;obtain⟨rfl,rfl⟩:=Qk J;obtain⟨l,rfl,_,vs,h1,q⟩:=au.aY W t F;obtain⟨b,ws,rfl,R,L,r⟩:=z.bK;have hz:vs.length+ws.length<=sizeLine:=by have:=qu hs;rw[An]at this;rw[<- q.length,<- r.length];exact this
      exact Iv m s σ H _ _ v u Q I rx ry ⟨l,b,vs,ws,rfl,rfl,SqL.of h1,L,hz,ji W (ak.append q r) k⟩
  . exact Z8 m s σ H x y v u Q I rx ry ⟨ρ,B,U,_,_,d,j,W,t,z,e,k⟩
end
end D
namespace TR
def prs(p:Pg):List (Int×Int):=p.ks.zip p.ps
theorem cJ{xs ys:List Int}{a b:Int}:(a,b)∈xs.zip ys↔∃i:Nat,xs[i]?=some a/\ys[i]?=some b:=by
 rw[Bw];constructor
 ·rintro⟨i,h⟩;have:=List.getElem?_zip_eq_some.mp h;exact⟨i,this.1,this.2⟩
 ·rintro⟨i,h1,h2⟩;exact⟨i,List.getElem?_zip_eq_some.mpr ⟨h1,h2⟩⟩
def Ko(a b:List Int)(n:Nat):(a.zip b).take n=(a.take n).zip (b.take n):=List.take_zipWith
def Kn(a b:List Int)(n:Nat):(a.zip b).drop n=(a.drop n).zip (b.drop n):=List.drop_zipWith
theorem kY{ks:List Int}(h:ks.Pairwise (· < ·)){i:Nat}{a k:Int}(b:ks[i]?=some a):i<aQ ks k↔a<k:=by
 obtain⟨h1,h2⟩:=qT h k;constructor
 ·intro hi;have:a∈ks.take (aQ ks k):=Bw.mpr ⟨i,by rw[List.getElem?_take,Eb hi];exact b⟩;rw[h1]at this;simpa using(Bm.mp this).2
 ·intro c;refine Nat.lt_of_not_le λhi=>?_;have:a∈ks.drop (aQ ks k):=Bw.mpr ⟨i-aQ ks k,by rw[Cc,show aQ ks k+(i-aQ ks k)=i by lia];exact b⟩;rw[h2]at this;have:k<=a:=by simpa using(Bm.mp this).2
  lia
theorem kX{ks:List Int}(h:ks.Pairwise (· < ·)){i:Nat}{a k:Int}(b:ks[i]?=some a):i<aG ks k↔a<=k:=by
 obtain⟨h1,h2⟩:=YO h k;constructor
 ·intro hi;have:a∈ks.take (aG ks k):=Bw.mpr ⟨i,by rw[List.getElem?_take,Eb hi];exact b⟩;rw[h1]at this;simpa using(Bm.mp this).2
 ·intro c;refine Nat.lt_of_not_le λhi=>?_;have:a∈ks.drop (aG ks k):=Bw.mpr ⟨i-aG ks k,by rw[Cc,show aG ks k+(i-aG ks k)=i by lia];exact b⟩;rw[h2]at this;have:k<a:=by simpa using(Bm.mp this).2
  lia
theorem Io{ks:List Int}(h:ks.Pairwise (· < ·)){i:Nat}{k:Int}(hi:ks[i]?=some k):aQ ks k=i/\aG ks k=i+1:=by have a:=not_congr (kY (k:=k) h hi);have b:=(kX (k:=k) h hi).mpr (Bo _);have c:=Qc4 h k;have d:=a.mpr ⋯;lia
theorem QcR{p:Pg}(h:p.ks.Pairwise (· < ·)){k v:Int}:QX p k=some v↔(k,v)∈prs p:=by
 unfold QX prs;rw[cJ];constructor
 ·intro e;by_cases q:aQ p.ks k=aG p.ks k
  ·rw[Eb q]at e;cases e
  ·rw[Ea q]at e;have c:k∈p.ks:=Classical.byContradiction λz=>q (Im z);obtain⟨i,hi⟩:=Bw.mp c;have:=(Io h hi).1;exact⟨i,hi,by rw[<- this];exact e⟩
 ·rintro⟨i,hi,f⟩;obtain⟨a,b⟩:=Io h hi;rw[Ea ⋯,a];exact f
theorem xW{p:Pg}{k v:Int}(h:(k,v)∈prs p):k∈p.ks:=by obtain⟨i,h1,_⟩:=cJ.mp h;exact Aw h1
theorem vM{p:Pg}(h:p.ks.Pairwise (· < ·))(a:p.ps.length=p.ks.length)(k x:Int):prs (QW p k x)=(prs p).take (aQ p.ks k)++(k,x)::(prs p).drop (aG p.ks k):=by unfold QW prs;rw[List.zip_append (by rw[A9,A9,a]),List.zip_cons_cons,Ko,Kn]
theorem kc{p:Pg}(h:p.ks.Pairwise (· < ·))(a:p.ps.length=p.ks.length)(k:Int):prs (without p k)=(prs p).take (aQ p.ks k)++(prs p).drop (aG p.ks k):=by unfold without prs;rw[List.zip_append (by rw[A9,A9,a]),Ko,Kn]
theorem Gf{p:Pg}(h:p.ks.Pairwise (· < ·))(k:Int){a b:Int}:((a,b)∈(prs p).take (aQ p.ks k)∨(a,b)∈(prs p).drop (aG p.ks k))↔a≠k/\(a,b)∈prs p:=by
 have c:∀{i:Nat},(prs p)[i]?=some (a,b)->p.ks[i]?=some a:=λe=>(List.getElem?_zip_eq_some.mp e).1;constructor
 ·rintro(m|m)
  ·obtain⟨i,hi⟩:=Bw.mp m;rw[List.getElem?_take]at hi;by_cases q:i<aQ p.ks k
   ·rw[Eb q]at hi;have:=(kY h (c hi)).mp q;exact⟨⋯,Aw hi⟩
   ·rw[Ea q]at hi;cases hi
  ·obtain⟨i,hi⟩:=Bw.mp m;rw[Cc]at hi;have:=(not_congr (kX (k:=k) h (c hi))).mp ⋯;exact⟨⋯,Aw hi⟩
 ·rintro⟨ne,m⟩;obtain⟨i,hi⟩:=Bw.mp m;rcases Int.lt_or_gt_of_ne ne with l|l
  ·have:=(kY h (c hi)).mpr l;exact .inl (Bw.mpr ⟨i,by rw[List.getElem?_take,Eb this];exact hi⟩)
  ·have:=(not_congr (kX (k:=k) h (c hi))).mpr ⋯;exact .inr (Bw.mpr ⟨i-aG p.ks k,by rw[Cc,show aG p.ks k+(i-aG p.ks k)=i by lia];exact hi⟩)
theorem vL{p:Pg}(h:p.ks.Pairwise (· < ·))(c:p.ps.length=p.ks.length)(k x:Int){a b:Int}:(a,b)∈prs (QW p k x)↔(a=k/\b=x)∨(a≠k/\(a,b)∈prs p):=by
 rw[vM h c,Ai,Bk,<- Gf h k];constructor
 ·rintro(m|m|m)
  ·exact .inr (.inl m)
  ·cases m;exact .inl ⟨rfl,rfl⟩
  ·exact .inr (.inr m)
 ·rintro(⟨rfl,rfl⟩|m|m)
  ·exact .inr (.inl rfl)
  ·exact .inl m
  ·exact .inr (.inr m)
theorem g9{p:Pg}(h:p.ks.Pairwise (· < ·))(c:p.ps.length=p.ks.length)(k:Int){a b:Int}:(a,b)∈prs (without p k)↔a≠k/\(a,b)∈prs p:=by rw[kc h c,Ai,<- Gf h k]
theorem kO{P:Pg}(hz:P.lv=0)(n:Nat):prs (Q0 P n)++prs (QK P)=prs P:=by
 have a:Zn P=mid P:=by unfold Zn;rw[Eb hz]
 unfold prs Q0 QK;rw[a];show(P.ks.take (mid P)).zip (P.ps.take (mid P))++(P.ks.drop (mid P)).zip (P.ps.drop (mid P))=P.ks.zip P.ps;rw[<- Ko,<- Kn,B0]
def Lf(S:Sh)(k v:Int):Prop:=∃(n:Nat)(p:Pg),S.pg[n]?=some p/\p.lv=0/\(k,v)∈prs p
def aW(S:Sh)(F:Ev):Prop:=∀k v,F k=some v↔Lf S k v
def yZ(F:Ev)(k x:Int):Int->Option Int:=λj=>if j=k then some x else F j
def gR(F:Ev)(k:Int):Int->Option Int:=λj=>if j=k then none else F j
def Lo(S:Sh)(n:Nat)(k v:Int):Prop:=∃(m:Nat)(p:Pg),m≠n/\S.pg[m]?=some p/\p.lv=0/\(k,v)∈prs p
section
variable{S:Sh}{bg:Bg}{n:Nat}{p P:Pg}{k v:Int}{F:Ev}
theorem Tree.len0(T:Tree S bg)(a:S.pg[n]?=some p)(hz:p.lv=0):p.ps.length=p.ks.length:=by have:=(T.page n p a).parts;rw[Eb hz]at this;exact this
theorem Lf.split(a:S.pg[n]?=some p)(hz:p.lv=0):Lf S k v↔Lo S n k v∨(k,v)∈prs p:=by
 constructor
 ·rintro⟨m,q,h1,h2,h3⟩;by_cases e:m=n
  ·subst e;rw[a]at h1;cases h1;exact .inr h3
  ·exact .inl ⟨m,q,e,h1,h2,h3⟩
 ·rintro(⟨m,q,_,h1,h2,h3⟩|h)
  ·exact⟨m,q,h1,h2,h3⟩
  ·exact⟨n,p,a,hz,h⟩
theorem Tree.cT(T:Tree S bg)(j:S.pg[n]?=some p)(hz:p.lv=0)(h1:leB (bg n) k)(h2:lG k p.hi):¬ Lo S n k v:=by
 rintro⟨m,q,e,i,l,h3⟩;have ok:=T.page m q i;have f:=xW h3;rcases T.dis n m p q j i ⋯ (λx=>e x.symm)with ⟨h,u,a,b,c⟩|⟨h,u,a,b,c⟩
 ·have:=h2 h a;have:=ok.low k f u b;lia
 ·have:=h1 u b;have:=ok.high k f h a;lia
theorem Tree.fZ(T:Tree S bg)(c:aW S F)(a:S.pg[n]?=some p)(hz:p.lv=0)(h1:leB (bg n) k)(h2:lG k p.hi):QX p k=F k:=by
  have f:=(T.page n p a).sorted;have key:∀v,QX p k=some v↔F k=some v:=λv=>by rw[QcR f,c k v,Lf.split a hz];exact⟨.inr,λh=>h.elim (λh=>absurd h (T.cT a hz h1 h2)) id⟩
  cases e:F k with
  |some v=>exact(key v).mpr e
  |none =>
    cases b:QX p k with
    |none=>rfl
    |some v=>rw[(key v).mp b]at e;cases e
theorem QcH{w:Wk}(c:S.pg[n]?=some p)(hz:p.lv=0)(f:P.lv=p.lv)(k v:Int):Lf (Qt S w n P).2.1 k v↔Lo S n k v∨(k,v)∈prs P:=by
 have ln:=QJ c;unfold Qt;by_cases b:P.ks.length<=S.O2
 ·rw[Eb b];constructor
  ·rintro⟨m,q,h1,h2,h3⟩;rcases Q7 h1 with ⟨rfl,rfl,_⟩|⟨e,h⟩
   ·exact .inr h3
   ·exact .inl ⟨m,q,e,h,h2,h3⟩
  ·rintro(⟨m,q,e,h1,h2,h3⟩|h)
   ·exact⟨m,q,by show(S.pg.set n P)[m]?=_;rw[Am (λx=>e x.symm)];exact h1,h2,h3⟩
   ·exact⟨n,P,by show(S.pg.set n P)[n]?=_;rw[Au ln],⋯,h⟩
 ·rw[Ea b];have a:=kO (P:=P) ⋯ S.pg.length;constructor
  ·rintro⟨m,q,h1,h2,h3⟩;rcases Q7 (xs:=S.pg++[QK P]) h1 with ⟨rfl,rfl,_⟩|⟨e,h⟩
   ·exact .inr (by rw[<- a];exact A7 _ h3)
   ·rcases Jr h with ⟨rfl,rfl⟩|h
    ·exact .inr (by rw[<- a];exact Aj _ h3)
    ·exact .inl ⟨m,q,e,h,h2,h3⟩
  ·rintro(⟨m,q,e,h1,h2,h3⟩|h)
   ·exact⟨m,q,by show((S.pg++[QK P]).set n (Q0 P S.pg.length))[m]?=_;rw[Am (λx=>e x.symm)];exact J9 h1,h2,h3⟩
   ·rw[<- a]at h;rcases Ai.mp h with h|h
    ·exact⟨n,Q0 P S.pg.length,by show((S.pg++[QK P]).set n (Q0 P S.pg.length))[n]?=_;rw[Au (by simp;lia)],by show P.lv=0;lia,h⟩
    ·exact⟨S.pg.length,QK P,by show((S.pg++[QK P]).set n (Q0 P S.pg.length))[S.pg.length]?=_;rw[Am ⋯];simp,by show P.lv=0;lia,h⟩
theorem QcG{w:Wk}(a:S.pg[n]?=some p)(hz:0<p.lv)(c:P.lv=p.lv)(k v:Int):Lf (Qt S w n P).2.1 k v↔Lf S k v:=by
 have ln:=QJ a;unfold Qt;by_cases b:P.ks.length<=S.O2
 ·rw[Eb b];constructor
  ·rintro⟨m,q,h1,h2,h3⟩;rcases Q7 h1 with ⟨rfl,rfl,_⟩|⟨e,h⟩
   ·lia
   ·exact⟨m,q,h,h2,h3⟩
  ·rintro⟨m,q,h1,h2,h3⟩;have e:m≠n:=λe=>by subst e;rw[a]at h1;cases h1;lia
   exact⟨m,q,by show(S.pg.set n P)[m]?=_;rw[Am (λx=>e x.symm)];exact h1,h2,h3⟩
 ·rw[Ea b];constructor
  ·rintro⟨m,q,h1,h2,h3⟩;rcases Q7 (xs:=S.pg++[QK P]) h1 with ⟨rfl,rfl,_⟩|⟨e,h⟩
   ·have:P.lv=0:=h2;lia
   ·rcases Jr h with ⟨rfl,rfl⟩|h
    ·have:P.lv=0:=h2;lia
    ·exact⟨m,q,h,h2,h3⟩
  ·rintro⟨m,q,h1,h2,h3⟩;have e:m≠n:=λe=>by subst e;rw[a]at h1;cases h1;lia
   exact⟨m,q,by show((S.pg++[QK P]).set n (Q0 P S.pg.length))[m]?=_;rw[Am (λx=>e x.symm)];exact J9 h1,h2,h3⟩
theorem Tree.dU(T:Tree S bg)(f:aW S F)(c:S.pg[n]?=some p)(hz:p.lv=0)(h1:leB (bg n) k)(h2:lG k p.hi){x:Int}(hS:∀a b,Lf S' a b↔Lo S n a b∨(a,b)∈prs (QW p k x)):aW S' (yZ F k x):=λa b=>by
 have i:=(T.page n p c).sorted;rw[hS,vL i (T.len0 c hz)];unfold yZ;by_cases e:a=k
 ·subst e;rw[Eb rfl];constructor
  ·intro h;cases h;exact .inr (.inl ⟨rfl,rfl⟩)
  ·rintro(h|⟨_,rfl⟩|⟨h,_⟩)
   ·exact absurd h (T.cT c hz h1 h2)
   ·rfl
   ·exact absurd rfl h
 ·rw[Ea e,f,Lf.split c hz];constructor
  ·rintro(h|h)
   ·exact .inl h
   ·exact .inr (.inr ⟨e,h⟩)
  ·rintro(h|⟨h,_⟩|⟨_,h⟩)
   ·exact .inl h
   ·exact absurd h e
   ·exact .inr h
theorem Tree.dW(T:Tree S bg)(f:aW S F)(c:S.pg[n]?=some p)(hz:p.lv=0)(h1:leB (bg n) k)(h2:lG k p.hi)(hS:∀a b,Lf S' a b↔Lo S n a b∨(a,b)∈prs (without p k)):aW S' (gR F k):=λa b=>by
 have i:=(T.page n p c).sorted;rw[hS,g9 i (T.len0 c hz)];unfold gR;by_cases e:a=k
 ·subst e;rw[Eb rfl];constructor
  ·intro h;cases h
  ·rintro(h|⟨h,_⟩)
   ·exact absurd h (T.cT c hz h1 h2)
   ·exact absurd rfl h
 ·rw[Ea e,f,Lf.split c hz];exact⟨λh=>h.imp id λh=>⟨e,h⟩,λh=>h.imp id And.right⟩
theorem aW.same{a:Sh}(b:aW S F)(h:a.pg=S.pg):aW a F:=λk v=>by rw[b k v];unfold Lf;rw[h]
end
def iM(S:Sh)(bg:Bg)(w:Wk):Prop:=w.O4=0->match w.O0 with
 |.stretch l h=>l<h/\(w.aim=l∨∃(s:Nat)(p:Pg),w.O6=some s/\S.pg[s]?=some p/\p.lv=0/\bg s=some w.aim/\l<w.aim/\w.aim<h)
 |.find k=>w.aim=k
 |.put k _=>w.aim=k
 |.cut k=>w.aim=k
theorem iM.grow{w:Wk}(A:iM S bg w)(g:aV S bg S' aH):iM S' aH w:=λh0=>by
  have a:=A h0;cases hd:w.O0 with
  |find k=>rw[hd]at a;exact a
  |put k x=>rw[hd]at a;exact a
  |cut k=>rw[hd]at a;exact a
  |stretch l h=>rw[hd]at a;obtain⟨b,c⟩:=a;refine⟨b,c.imp id ?_⟩;rintro⟨s,p,i,j,f,m,n⟩;obtain⟨e,p',o,q⟩:=g.old s p j;exact⟨s,p',i,o,q.trans f,by rw[e];exact m,n⟩
def nR(F:Ev)(a e:Int)(ps:Ep):Prop:=ps.Pairwise (λx y=>x.1<y.1)/\∀k v,(k,v)∈ps↔F k=some v/\a<=k/\k<e
def Did(F F':Ev)(w w':Wk):Row->Prop
  |.non=>False
  |.found _ x=>∃k,w.O0=.find k/\x=F k/\F'=F/\w'.O1=F k/\w'.O5=w.O5/\w'.O7=true
  |.put _ x t=>∃k y,w.O0=.put k y/\x=F k/\F'=yZ F k y/\w'.O1=F k/\w'.O5=w.O5/\w'.O7=t.isNone/\(w'.O7=false->0<w'.O4)
  |.cut _ x=>∃k,w.O0=.cut k/\x=F k/\F'=gR F k/\w'.O1=F k/\w'.O5=w.O5/\w'.O7=true
  |.read _ ps t=>∃l h,w.O0=.stretch l h/\F'=F/\w'.O5=w.O5++ps/\w'.O1=w.O1/\match t with
    |none=>nR F w.aim h ps/\w'.O7=true
    |some (_,x)=>w.aim<x/\x<h/\nR F w.aim x ps/\w'.aim=x/\w'.O7=false/\w'.O4=0
  |.side _ _=>F'=F/\w'.O1=w.O1/\w'.O5=w.O5/\w'.O7=false/\w'.O4=w.O4/\w'.aim=w.aim
  |.down _ _=>F'=F/\w'.O1=w.O1/\w'.O5=w.O5/\w'.O7=false/\w'.O4=w.O4/\w'.aim=w.aim
  |.told _ t=>0<w.O4/\F'=F/\w'.O1=w.O1/\w'.O5=w.O5/\w'.O7=t.isNone/\(w'.O7=false->0<w'.O4)
  |.raised _ _=>0<w.O4/\F'=F/\w'.O1=w.O1/\w'.O5=w.O5/\w'.O7=true
theorem UE{p:Pg}(h:p.ks.Pairwise (· < ·)):(prs p).Pairwise (λx y=>x.1<y.1):=by
 rw[List.pairwise_iff_getElem]at h ⊢;intro i j hi e c;have a:(prs p)[i].1=p.ks[i]'(by have:=hi;simp[prs]at this;lia):=by simp[prs]
 have b:(prs p)[j].1=p.ks[j]'(by have:=e;simp[prs]at this;lia):=by simp[prs]
 rw[a,b];exact h i j _ _ c
section
variable{S S':Sh}{bg:Bg}{n:Nat}{p P:Pg}{w w':Wk}{F:Ev}{r:Row}
theorem Gu(S:Sh)(w:Wk)(n:Nat)(P:Pg):(Qt S w n P).2.2.O0=w.O0/\(Qt S w n P).2.2.O1=w.O1/\(Qt S w n P).2.2.O5=w.O5/\(w.O7=false->(Qt S w n P).2.2.O7=(Qt S w n P).1.isNone)/\((Qt S w n P).2.2.O7=false->w.O7=false->0<(Qt S w n P).2.2.O4)/\((Qt S w n P).2.2.O4=0->(Qt S w n P).2.2.aim=w.aim/\(Qt S w n P).2.2.O6=w.O6):=by
 unfold Qt;by_cases a:P.ks.length<=S.O2
 ·rw[Eb a];exact⟨rfl,rfl,rfl,λ_=>rfl,λh=>(by cases h),λ_=>⟨rfl,rfl⟩⟩
 ·rw[Ea a];exact⟨rfl,rfl,rfl,λh=>h,λ_ _=>Nat.succ_pos _,λh=>(by cases h)⟩
theorem gO(T:Tree S bg)(W:aM S bg w)(A:iM S bg w)(hw:w.O7=false)(C:aW S F)(hs:Xj S w=some (r,S',w')):∃F',aW S' F'/\Did F F' w w' r/\iM S bg w'/\w'.O0=w.O0:=by
  obtain⟨n,ab,I⟩:∃n,w.O6.getD S.top=n/\(w.O6=some n∨(w.O6=none/\n=S.top)):=by
    cases e:w.O6 with
    |none=>exact⟨S.top,rfl,.inr ⟨rfl,rfl⟩⟩
    |some m=>exact⟨m,rfl,.inl rfl⟩
  obtain⟨p,z⟩:∃p,S.pg[n]?=some p:=by
    rcases I with U|⟨_,rfl⟩
    . obtain⟨p,a,_⟩:=W.at_ n U;exact⟨p,a⟩
    . obtain⟨p,a,_⟩:=T.root;exact⟨p,a⟩
  have ok:=T.page n p z;have la:leB (bg n) w.aim:=by
    rcases I with U|⟨_,rfl⟩
    . obtain⟨p',a1,a2,a3⟩:=W.at_ n U
      exact a3
    . intro v hv;rw[T.lE]at hv;cases hv
  unfold Xj at hs;rw[Ea (by rw[hw];simp),ab]at hs;simp only[z]at hs;by_cases hr:w.O6=none/\p.lv<w.O4
  . rw[Eb hr]at hs
    obtain⟨k,q,a1,a2,a3,a4⟩:=W.tell ⋯;simp only[a1]at hs;cases hs;refine⟨F,λa b=>?_,⟨⋯,rfl,rfl,rfl,rfl⟩,λh0=>absurd (show w.O4=0 from h0) ⋯,rfl⟩;rw[C a b];constructor
    . rintro⟨m,q,h1,h2,h3⟩
      exact⟨m,q,J9 h1,h2,h3⟩
    . rintro⟨m,q,h1,h2,h3⟩
      rcases Jr h1 with ⟨rfl,rfl⟩|h
      . cases h2
      . exact⟨m,q,h,h2,h3⟩
  . rw[Ea hr]at hs
    cases J:Jo p w.aim with
    |true =>
      rw[J,Eb rfl]at hs;rcases T.link n p z with ⟨a,b⟩|⟨h,s,q,a,b,c,d,e⟩
      . unfold Jo at J;rw[a]at J;cases J
      . simp only[b]at hs
        cases hs;refine⟨F,C.same rfl,⟨rfl,rfl,rfl,hw,rfl,rfl⟩,λh0=>?_,rfl⟩;have i:=A h0;cases hd:w.O0 with
        |find k=>rw[hd]at i;exact i
        |put k x=>rw[hd]at i;exact i
        |cut k=>rw[hd]at i;exact i
        |stretch l h' =>
          rw[hd]at i;obtain⟨O,t⟩:=i;refine⟨O,?_⟩;rcases t with t|⟨s',p',o,R,b0,b3,b4,b5⟩
          . exact .inl t
          . exfalso
            have:s'=n:=by
              rcases I with U|⟨U,_⟩
              . rw[U]at o;exact(Ak o).symm
              . rw[U]at o;cases o
            subst this;have:=ok.wide h a _ b3;unfold Jo at J;rw[a]at J;have:h<=w.aim:=by simpa using J
            lia
    |false =>
      have lh:=V0 J;rw[J,Ea (by simp)]at hs;by_cases hd:w.O4<p.lv
      . rw[Eb hd]at hs
        have pl:=ok.parts;rw[Ea ⋯]at pl;have hc:aG p.ks w.aim<p.ps.length:=by have:=Xo p.ks w.aim;lia
        rw[Ab hc]at hs;simp only at hs;cases hs;refine⟨F,C.same rfl,⟨rfl,rfl,rfl,hw,rfl,rfl⟩,λh0=>?_,rfl⟩;have i:=A h0;cases L:w.O0 with
        |find k=>rw[L]at i;exact i
        |put k x=>rw[L]at i;exact i
        |cut k=>rw[L]at i;exact i
        |stretch l h' =>
          rw[L]at i;obtain⟨O,t⟩:=i;refine⟨O,?_⟩;rcases t with t|⟨s',p',o,R,b0,b3,b4,b5⟩
          . exact .inl t
          . exfalso
            have:s'=n:=by
              rcases I with U|⟨U,_⟩
              . rw[U]at o;exact(Ak o).symm
              . rw[U]at o;cases o
            subst this;rw[z]at R;cases R;lia
      . rw[Ea hd]at hs
        have hg:w.O4<=p.lv:=by
          rcases I with U|⟨U,_⟩
          . obtain⟨p',o,R,_⟩:=W.at_ n U
            rw[z]at o;cases o;exact R
          . exact C0 λh=>hr ⟨U,h⟩
        have mU:p.lv=w.O4:=⋯
        by_cases h0:0<w.O4
        . rw[Eb h0]at hs
          obtain⟨k,q,a1,a2,a3,a4⟩:=W.tell h0;simp only[a1]at hs;cases hs;obtain⟨X,Y,c3,c4,c5,c6⟩:=Gu { S with rd:=S.rd+1 } w n (Zh p w.aim k);refine⟨F,λa b=>?_,⟨h0,rfl,Y,c3,c4 hw,λh=>c5 h hw⟩,λh1=>?_,X⟩
          . rw[QcG (S:={ S with rd:=S.rd+1 }) (p:=p) (P:=Zh p w.aim k) z ⋯ rfl];exact C a b
          . exfalso
            by_cases e:(Qt { S with rd:=S.rd+1 } w n (Zh p w.aim k)).2.2.O7=false
            . exact absurd h1 (C7 (c5 e hw))
            . unfold Qt at h1
              by_cases q1:(Zh p w.aim k).ks.length<=S.O2
              . rw[Eb q1]at h1;have:w.O4=0:=h1;lia
              . rw[Ea q1]at h1;cases h1
        . rw[Ea h0]at hs
          have hz:p.lv=0:=⋯
          have g0:w.O4=0:=⋯
          have i:=A g0;have Q:=T.fZ C z hz la lh;have hs:=Ak hs;unfold Jz at hs;cases f:w.O0 with
          |find k=>rw[f]at i hs;cases hs;have i:w.aim=k:=i;subst i;exact⟨F,C.same rfl,⟨_,f,Q,rfl,Q,rfl,rfl⟩,λ_=>by simp[f],by simp[f]⟩
          |put k x =>
            rw[f]at i hs;have i:w.aim=k:=i;subst i;obtain⟨X,Y,c3,c4,c5,c6⟩:=Gu { S with rd:=S.rd+1 } { w with O1:=QX p w.aim } n (QW p w.aim x);dsimp only at hs;simp only[Bp]at hs;obtain⟨rfl,rfl,rfl⟩:=hs;rw[f]at X Y c3 c4 c5 c6;refine⟨yZ F w.aim x,?_,⟨_,_,f,Q,rfl,Y.trans Q,c3,c4 hw,λh=>c5 h hw⟩,λh1=>?_,X⟩
            . exact T.dU C z hz la lh λa b=>by rw[QcH (S:={ S with rd:=S.rd+1 }) (p:=p) (P:=QW p w.aim x) z hz rfl];exact Iff.rfl
            . have:=(c6 h1).1
              rw[X];exact this
          |cut k =>
            rw[f]at i hs;have i:w.aim=k:=i;subst i;dsimp only at hs;cases hs;refine⟨gR F w.aim,?_,⟨_,f,Q,rfl,Q,rfl,rfl⟩,λ_=>by simp[f],by simp[f]⟩;by_cases hq:(QX p w.aim).isSome=true
            . rw[Eb hq]
              refine T.dW C z hz la lh λa b=>?_;have ln:=QJ z;constructor
              . rintro⟨m,q,h1,h2,h3⟩
                rcases Q7 h1 with ⟨rfl,rfl,_⟩|⟨e,h⟩
                . exact .inr h3
                . exact .inl ⟨m,q,e,h,h2,h3⟩
              . rintro(⟨m,q,e,h1,h2,h3⟩|h)
                . exact⟨m,q,by show(S.pg.set n (without p w.aim))[m]?=_;rw[Am (λx=>e x.symm)];exact h1,h2,h3⟩
                . exact⟨n,without p w.aim,by show(S.pg.set n (without p w.aim))[n]?=_;rw[Au ln],hz,h⟩
            . rw[Ea hq]
              have fn:F w.aim=none:=by rw[<- Q];exact Option.not_isSome_iff_eq_none.mp hq
              have:gR F w.aim=F:=funext λj=>by
                unfold gR;by_cases e:j=w.aim
                . rw[Eb e,e,fn]
                . rw[Ea e]
              rw[this];exact C.same rfl
          |stretch l h =>
            rw[f]at i hs;obtain⟨O,t⟩:=i;dsimp only at hs;have so:=UE ok.sorted;have ge:∀k v,(k,v)∈prs p->l<=k->w.aim<=k:=λk v hm ae=>by
              rcases t with t|⟨s',p',o,R,b0,b3,b4,b5⟩
              . lia
              . have:s'=n:=by
                  rcases I with U|⟨U,_⟩
                  . rw[U]at o;exact(Ak o).symm
                  . rw[U]at o;cases o
                subst this;exact ok.low k (xW hm) _ b3
            have al:l<=w.aim:=by rcases t with t|⟨_,_,_,_,_,_,b4,_⟩<;>lia
            have ah:w.aim<h:=by rcases t with t|⟨_,_,_,_,_,_,_,b5⟩<;>lia
            have rd:∀e:Int,e<=h->(∀x,p.hi=some x->e<=x)->(∀k v,(k,v)∈prs p->k<h->k<e)->nR F w.aim e (Q1 p l h):=λe he hx hk=>by
              refine⟨List.Pairwise.filter _ so,λk v=>?_⟩;unfold Q1;rw[Bm,C k v,Lf.split z hz];constructor
              . rintro⟨m,c⟩
                simp only[Bc,decide_eq_true_eq]at c;exact⟨.inr m,ge k v m c.1,hk k v m c.2⟩
              . rintro⟨m,X,Y⟩
                have lb:leB (bg n) k:=λu hu=>by have:=la u hu;lia
                have lk:lG k p.hi:=λu hu=>by have:=hx u hu;lia
                rcases m with m|m
                . exact absurd m (T.cT z hz lb lk)
                . exact⟨m,by simp only[Bc,decide_eq_true_eq];lia⟩
            rcases T.link n p z with ⟨a,b⟩|⟨x,s,q,a,b,c,d,e⟩
            . simp only[a,b]at hs
              cases hs;exact⟨F,C.same rfl,⟨l,h,f,rfl,rfl,rfl,rd h (Bo _) (λx hx=>by rw[a]at hx;cases hx) (λk v _ c=>c),rfl⟩,λ_=>by simp only[f];exact⟨O,t⟩,by simp[f]⟩
            . simp only[a,b]at hs
              have ax:w.aim<x:=lh x a;by_cases hx:h<=x
              . rw[Eb hx]at hs
                cases hs;exact⟨F,C.same rfl,⟨l,h,f,rfl,rfl,rfl,rd h (Bo _) (λy hy=>by rw[a]at hy;cases hy;exact hx) (λk v _ c=>c),rfl⟩,λ_=>by simp only[f];exact⟨O,t⟩,by simp[f]⟩
              . rw[Ea hx]at hs
                cases hs;refine⟨F,C.same rfl,⟨l,h,f,rfl,rfl,rfl,ax,⋯,rd x ⋯ (λy hy=>by rw[a]at hy;cases hy;exact Bo _) (λk v m _=>ok.high k (xW m) x a),rfl,hw,g0⟩,λ_=>?_,by simp[f]⟩;simp only[f];exact⟨O,.inr ⟨s,q,rfl,c,⋯,e,⋯,⋯⟩⟩
end
def Kd(S:Sh)(c:Nat):Prop:=∃(m:Nat)(q:Pg),S.pg[m]?=some q/\0<q.lv/\(c:Int)∈q.ps
def Tells(ws:List Wk)(c:Nat):Prop:=∃(i:Nat)(w:Wk),ws[i]?=some w/\w.O7=false/\0<w.O4/\w.Oz=some c
def lu(S:Sh)(ws:List Wk):Prop:=∀n:Nat,n<S.pg.length->n≠S.top->Kd S n∨Tells ws n
section
variable{S S':Sh}{bg:Bg}{n:Nat}{p P:Pg}{w w':Wk}{r:Row}{ws:List Wk}{i:Nat}
theorem Gp{w:Wk}(b:S.pg[n]?=some p)(j:P.lv=p.lv)(a:0<p.lv->∀x∈p.ps,x∈P.ps){c:Nat}(h:Kd S c∨(0<P.lv/\(c:Int)∈P.ps)):Kd (Qt S w n P).2.1 c:=by
 have ln:=QJ b;have key:(∃(m:Nat)(q:Pg),m≠n/\S.pg[m]?=some q/\0<q.lv/\(c:Int)∈q.ps)∨(0<P.lv/\(c:Int)∈P.ps):=by
  rcases h with ⟨m,q,h1,h2,h3⟩|h
  ·by_cases e:m=n
   ·subst e;rw[b]at h1;cases h1;exact .inr ⟨⋯,a h2 _ h3⟩
   ·exact .inl ⟨m,q,e,h1,h2,h3⟩
  ·exact .inr h
 unfold Qt;by_cases f:P.ks.length<=S.O2
 ·rw[Eb f];rcases key with ⟨m,q,e,h1,h2,h3⟩|⟨h1,h2⟩
  ·exact⟨m,q,by show(S.pg.set n P)[m]?=_;rw[Am (λx=>e x.symm)];exact h1,h2,h3⟩
  ·exact⟨n,P,by show(S.pg.set n P)[n]?=_;rw[Au ln],h1,h2⟩
 ·rw[Ea f];rcases key with ⟨m,q,e,h1,h2,h3⟩|⟨h1,h2⟩
  ·exact⟨m,q,by show((S.pg++[QK P]).set n (Q0 P S.pg.length))[m]?=_;rw[Am (λx=>e x.symm)];exact J9 h1,h2,h3⟩
  ·rw[<- B0 (Zn P) P.ps]at h2;rcases Ai.mp h2 with h|h
   ·exact⟨n,Q0 P S.pg.length,by show((S.pg++[QK P]).set n (Q0 P S.pg.length))[n]?=_;rw[Au (by simp;lia)],h1,h⟩
   ·exact⟨S.pg.length,QK P,by show((S.pg++[QK P]).set n (Q0 P S.pg.length))[S.pg.length]?=_;rw[Am ⋯];simp,h1,h⟩
theorem Tells.other{c:Nat}(h:Tells ws c)(hi:ws[i]?=some w)(f:w.O7=false->0<w.O4->w.Oz≠some c):Tells (ws.set i w') c:=by
 obtain⟨j,v,a,b,d,e⟩:=h;have ne:j≠i:=λz=>by subst z;rw[hi]at a;cases a;exact f b d e
 exact⟨j,v,by rw[Am (λx=>ne x.symm)];exact a,b,d,e⟩
theorem Tells.self{c:Nat}(hi:ws[i]?=some w)(h1:w'.O7=false)(h2:0<w'.O4)(h3:w'.Oz=some c):Tells (ws.set i w') c :=
 ⟨i,w',Au (QJ hi),h1,h2,h3⟩
theorem vE{w:Wk}(S:Sh)(n:Nat)(P:Pg)(h:S.O2<P.ks.length)(hw:w.O7=false):(Qt S w n P).2.2.O7=false/\0<(Qt S w n P).2.2.O4/\(Qt S w n P).2.2.Oz=some S.pg.length:=by unfold Qt;rw[Ea ⋯];exact⟨hw,Nat.succ_pos _,rfl⟩
theorem Qaw{w:Wk}(S:Sh)(n:Nat)(P:Pg){c:Nat}(a:c<(Qt S w n P).2.1.pg.length):c<S.pg.length∨(c=S.pg.length/\S.O2<P.ks.length):=by
 unfold Qt at a;by_cases b:P.ks.length<=S.O2
 ·rw[Eb b]at a;exact .inl (by simpa using a)
 ·rw[Ea b]at a;have:c<S.pg.length+1:=by simpa using a
  rcases Bh c S.pg.length with h|h
  ·exact .inl h
  ·exact .inr ⟨⋯,⋯⟩
theorem Qax{w:Wk}(S:Sh)(n:Nat)(P:Pg):(Qt S w n P).2.1.top=S.top:=by unfold Qt;split<;>rfl
theorem lu.step(D:lu S ws)(T:Tree S bg)(W:aM S bg w)(hi:ws[i]?=some w)(hw:w.O7=false)(hs:Xj S w=some (r,S',w')):lu S' (ws.set i w'):=by
  obtain⟨n,ab,Q⟩:∃n,w.O6.getD S.top=n/\(w.O6=some n∨(w.O6=none/\n=S.top)):=by
    cases e:w.O6 with
    |none=>exact⟨S.top,rfl,.inr ⟨rfl,rfl⟩⟩
    |some m=>exact⟨m,rfl,.inl rfl⟩
  obtain⟨p,L⟩:∃p,S.pg[n]?=some p:=by
    rcases Q with U|⟨_,rfl⟩
    . obtain⟨p,a,_⟩:=W.at_ n U;exact⟨p,a⟩
    . obtain⟨p,a,_⟩:=T.root;exact⟨p,a⟩
  have still:∀{x:Wk}{Y:Sh},Y.pg=S.pg->Y.top=S.top->(w.O7=false->0<w.O4->x.O7=false/\x.O4=w.O4/\x.Oz=w.Oz)->lu Y (ws.set i x):=λ{x Y} e1 e2 e3 c f t=>by
    rw[e1]at f;rw[e2]at t;rcases D c f t with ⟨m,q,h⟩|⟨j,v,a,b,d,e⟩
    . exact .inl ⟨m,q,by rw[e1];exact h⟩
    . by_cases z:j=i
      . subst z;rw[hi]at a;cases a
        obtain⟨f1,f2,f3⟩:=e3 b d;exact .inr (Tells.self hi f1 ⋯ (f3.trans e))
      . exact .inr ⟨j,v,by rw[Am (λx=>z x.symm)];exact a,b,d,e⟩
  unfold Xj at hs;rw[Ea (by rw[hw];simp),ab]at hs;simp only[L]at hs;by_cases hr:w.O6=none/\p.lv<w.O4
  . rw[Eb hr]at hs
    obtain⟨k,q,J,a2,a3,a4⟩:=W.tell ⋯;simp only[J]at hs;cases hs;intro c f t;have f:c<S.pg.length+1:=by simpa using f
    have t:c≠S.pg.length:=t;have oO:(S.pg++[(⟨p.lv+1,[w.aim],[(S.top:Int),(k:Int)],none,none⟩:Pg)])[S.pg.length]?=some ⟨p.lv+1,[w.aim],[(S.top:Int),(k:Int)],none,none⟩:=by simp
    by_cases e:c=S.top
    . exact .inl ⟨S.pg.length,_,oO,Nat.succ_pos _,by simp[e]⟩
    by_cases e':c=k
    . exact .inl ⟨S.pg.length,_,oO,Nat.succ_pos _,by simp[e']⟩
    rcases D c ⋯ e with ⟨m,q,h1,h2,h3⟩|h
    . exact .inl ⟨m,q,J9 h1,h2,h3⟩
    . exact .inr (h.other hi λ_ _ h=>by rw[J]at h;exact e' (Ak h).symm)
  . rw[Ea hr]at hs
    cases hb:Jo p w.aim with
    |true =>
      rw[hb,Eb rfl]at hs;cases o:p.sd with
      |none=>rw[o]at hs;cases hs
      |some s=>rw[o]at hs;cases hs;exact still rfl rfl λa _=>⟨a,rfl,rfl⟩
    |false =>
      rw[hb,Ea (by simp)]at hs;by_cases hd:w.O4<p.lv
      . rw[Eb hd]at hs
        cases R:p.ps[aG p.ks w.aim]? with
        |none=>rw[R]at hs;cases hs
        |some c=>rw[R]at hs;cases hs;exact still rfl rfl λa _=>⟨a,rfl,rfl⟩
      . rw[Ea hd]at hs
        have y:∀(X:Wk)(P:Pg),X.O7=false->P.lv=p.lv->(0<p.lv->∀x∈p.ps,x∈P.ps)->(∀c,0<w.O4->w.Oz=some c->0<P.lv/\(c:Int)∈P.ps)->lu (Qt { S with rd:=S.rd+1 } X n P).2.1 (ws.set i (Qt { S with rd:=S.rd+1 } X n P).2.2):=λX P e0 hl C O c f t=>by
          rw[Qax]at t;rcases Qaw _ n P f with f|⟨f,I⟩
          . rcases D c f t with h|h
            . exact .inl (Gp (S:={ S with rd:=S.rd+1 }) L hl C (.inl h))
            . by_cases z:w.Oz=some c/\0<w.O4
              . exact .inl (Gp (S:={ S with rd:=S.rd+1 }) L hl C (.inr (O c z.2 z.1)))
              . exact .inr (h.other hi λ_ a b=>z ⟨b,a⟩)
          . obtain⟨f1,f2,f3⟩:=vE (w:=X) { S with rd:=S.rd+1 } n P I e0
            exact .inr (Tells.self hi f1 f2 (by rw[f3];exact congrArg some f.symm))
        by_cases h0:0<w.O4
        . rw[Eb h0]at hs
          obtain⟨k,q,J,a2,a3,a4⟩:=W.tell h0;simp only[J]at hs;simp only[Option.some.injEq,Bp]at hs;obtain⟨rfl,rfl,rfl⟩:=hs;have hg:w.O4<=p.lv:=by
            rcases Q with U|⟨U,_⟩
            . obtain⟨p',b1,b2,_⟩:=W.at_ n U
              rw[L]at b1;cases b1;exact b2
            . exact C0 λh=>hr ⟨U,h⟩
          refine y w (Zh p w.aim k) hw rfl (λ_ x hx=>?_) λc _ f=>⟨by show 0<p.lv;lia,?_⟩
          . show x∈p.ps.take (aG p.ks w.aim+1)++(k:Int)::p.ps.drop (aG p.ks w.aim+1)
            rw[<- B0 (aG p.ks w.aim+1) p.ps]at hx;rcases Ai.mp hx with h|h
            . exact A7 _ h
            . exact Aj _ (Ax _ h)
          . rw[J]at f;cases f
            show(k:Int)∈p.ps.take (aG p.ks w.aim+1)++(k:Int)::p.ps.drop (aG p.ks w.aim+1);simp
        . rw[Ea h0]at hs
          have hs:=Ak hs;unfold Jz at hs;have g0:∀{x:Wk},w.O7=false->0<w.O4->x.O7=false/\x.O4=w.O4/\x.Oz=w.Oz:=λ_ h=>absurd h h0;cases u:w.O0 with
          |find k=>rw[u]at hs;cases hs;exact still rfl rfl g0
          |put k x =>
            rw[u]at hs;dsimp only at hs;simp only[Bp]at hs;obtain⟨rfl,rfl,rfl⟩:=hs;exact y _ (QW p w.aim x) hw rfl (λh=>(by
              have hg:p.lv=0:=⋯
              lia)) λc h=>absurd h h0
          |cut k =>
            rw[u]at hs;dsimp only at hs;cases hs;by_cases R:(QX p w.aim).isSome=true
            . rw[Eb R]
              intro c f t;have f:c<S.pg.length:=by simpa using f
              rcases D c f t with ⟨m,q,h1,h2,h3⟩|h
              . have e:m≠n:=λe=>by subst e;rw[L]at h1;cases h1;lia
                exact .inl ⟨m,q,by show(S.pg.set n (without p w.aim))[m]?=_;rw[Am (λx=>e x.symm)];exact h1,h2,h3⟩
              . exact .inr (h.other hi λ_ a=>absurd a h0)
            . rw[Ea R];exact still rfl rfl g0
          |stretch l h =>
            rw[u]at hs;dsimp only at hs;cases F:p.hi with
            |none=>rw[F]at hs;cases hs;exact still rfl rfl g0
            |some x =>
              cases o:p.sd with
              |none=>rw[F,o]at hs;cases hs;exact still rfl rfl g0
              |some s =>
                rw[F,o]at hs;dsimp only at hs;by_cases hx:h<=x
                . rw[Eb hx]at hs;cases hs;exact still rfl rfl g0
                . rw[Ea hx]at hs;cases hs;exact still rfl rfl g0
theorem lu.put(D:lu S ws)(hi:∀v,ws[i]?=some v->v.O7=true)(w:Wk):lu S (ws.set i w):=λc h l=>(D c h l).imp id λf=>by
 obtain⟨j,v,a,b,d,e⟩:=f;have ne:j≠i:=λz=>by subst z;rw[hi v a]at b;cases b
 exact⟨j,v,by rw[Am (λx=>ne x.symm)];exact a,b,d,e⟩
end
def Fk(S:Sh):Prop:=∀(n:Nat)(p:Pg),S.pg[n]?=some p->0<p.lv->1<=p.ks.length
section
variable{S S':Sh}{bg aH:Bg}{n f:Nat}{p q P:Pg}{w w':Wk}{r:Row}{a k:Int}{F:Ev}
theorem Fk.settle(K:Fk S){w:Wk}(i:S.pg[n]?=some p)(e:P.lv=p.lv)(h1:0<P.lv->1<=P.ks.length)(h3:S.O2<P.ks.length->3<=P.ks.length):Fk (Qt S w n P).2.1:=by
 unfold Qt;by_cases c:P.ks.length<=S.O2
 ·rw[Eb c];intro m q b h0;rcases Q7 b with ⟨rfl,rfl,_⟩|⟨_,h⟩
  ·exact h1 h0
  ·exact K m q h h0
 ·rw[Ea c];have j:=h3 ⋯;intro m q b h0;rcases Q7 (xs:=S.pg++[QK P]) b with ⟨rfl,rfl,_⟩|⟨_,h⟩
  ·show 1<=(P.ks.take (mid P)).length;rw[A9];unfold mid;lia
  ·rcases Jr h with ⟨rfl,rfl⟩|h
   ·show 1<=(P.ks.drop (Zn P)).length;have h0:0<P.lv:=h0;rw[Bq];unfold Zn;rw[Ea ⋯];unfold mid;lia
   ·exact K m q h h0
theorem Fk.step(K:Fk S)(T:Tree S bg)(hs:Xj S w=some (r,S',w')):Fk S':=by
  have z:=T.cU;unfold Xj at hs;by_cases hw:w.O7=true
  . rw[Eb hw]at hs;cases hs;exact K
  rw[Ea hw]at hs;cases t:S.pg[w.O6.getD S.top]? with
  |none=>rw[t]at hs;cases hs
  |some p =>
    simp only[t]at hs;by_cases y:w.O6=none/\p.lv<w.O4
    . rw[Eb y]at hs
      cases j:w.Oz with
      |none=>rw[j]at hs;cases hs
      |some k =>
        rw[j]at hs;cases hs;intro m q u h0;rcases Jr u with ⟨rfl,rfl⟩|h
        . exact Ae _
        . exact K m q h h0
    . rw[Ea y]at hs
      by_cases v:Jo p w.aim=true
      . rw[Eb v]at hs
        cases b:p.sd with
        |none=>rw[b]at hs;cases hs
        |some s=>rw[b]at hs;cases hs;exact K
      . rw[Ea v]at hs
        by_cases hd:w.O4<p.lv
        . rw[Eb hd]at hs
          cases o:p.ps[aG p.ks w.aim]? with
          |none=>rw[o]at hs;cases hs
          |some c=>rw[o]at hs;cases hs;exact K
        . rw[Ea hd]at hs
          by_cases h0:0<w.O4
          . rw[Eb h0]at hs
            cases j:w.Oz with
            |none=>rw[j]at hs;cases hs
            |some k =>
              rw[j]at hs;simp only[Option.some.injEq,Bp]at hs;obtain⟨rfl,rfl,rfl⟩:=hs;exact Fk.settle (S:={ S with rd:=S.rd+1 }) K t rfl (λ_=>by show 1<=(_++_::_:List Int).length;rw[An,Ba];lia) (λh=>by have h:S.O2<(Zh p w.aim k).ks.length:=h;lia)
          . rw[Ea h0]at hs
            have hs:=Ak hs;unfold Jz at hs;cases e:w.O0 with
            |find k=>rw[e]at hs;cases hs;exact K
            |put k x =>
              rw[e]at hs;dsimp only at hs;simp only[Bp]at hs;obtain⟨rfl,rfl,rfl⟩:=hs;exact Fk.settle (S:={ S with rd:=S.rd+1 }) K t rfl (λ_=>by show 1<=(_++_::_:List Int).length;rw[An,Ba];lia) (λh=>by have h:S.O2<(QW p w.aim x).ks.length:=h;lia)
            |cut k =>
              rw[e]at hs;dsimp only at hs;cases hs;by_cases o:(QX p w.aim).isSome=true
              . rw[Eb o]
                intro m q u h1;rcases Q7 u with ⟨rfl,rfl,_⟩|⟨_,h⟩
                . have:0<p.lv:=h1
                  lia
                . exact K m q h h1
              . rw[Ea o];exact K
            |stretch l h =>
              rw[e]at hs;dsimp only at hs;cases i:p.hi with
              |none=>rw[i]at hs;cases hs;exact K
              |some x =>
                cases b:p.sd with
                |none=>rw[i,b]at hs;cases hs;exact K
                |some s =>
                  rw[i,b]at hs;dsimp only at hs;by_cases hx:h<=x
                  . rw[Eb hx]at hs;cases hs;exact K
                  . rw[Ea hx]at hs;cases hs;exact K
structure Al(S:Sh)(bg:Bg)(F:Ev)(w:Wk):Prop where
 tree:Tree S bg
 fk:Fk S
 tab:aW S F
 told:lu S [w]
 aim:iM S bg w
 iR:w.O7=false->aM S bg w
 fQ:w.O7=false->0<w.O4->∀k,w.Oz=some k->aU S k
theorem Al.step(A:Al S bg F w)(hw:w.O7=false):∃r S' w' aH b,Xj S w=some (r,S',w')/\Al S' aH b w'/\aV S bg S' aH/\Did F b w w' r/\w'.O0=w.O0/\S'.O2=S.O2:=by obtain⟨r,S',w',aH,hs,st⟩:=LR A.tree (A.iR hw) hw (A.fQ hw);obtain⟨b,h1,h2,h3,h4⟩:=gO A.tree (A.iR hw) A.aim hw A.tab hs;exact⟨r,S',w',aH,b,hs,⟨st.tree,A.fk.step A.tree hs,h1,A.told.step (i:=0) A.tree (A.iR hw) rfl hw hs,h3.grow st.grow,st.iR,λe g k c=>(st.new k e g c).1⟩,st.grow,h2,h4,st.O2⟩
theorem Al.lg(A:Al S bg F w)(h:w.O4=0∨w.O7=true):∀s,s<S.pg.length->s≠S.top->Kd S s:=λs h1 h2=>by
 rcases A.told s h1 h2 with h3|⟨i,v,a,b,c,_⟩
 ·exact h3
 ·cases i with
  |zero=>cases a;rcases h with h|h;lia;rw[h]at b;cases b
  |succ i=>cases a
end
section
variable{S S':Sh}{bg aH:Bg}{n f:Nat}{p q P:Pg}{w w':Wk}{r:Row}{a k:Int}{F F':Ev}{R:Nat}
def Xk(S:Sh)(l:Nat):Nat:=((List.range S.pg.length).filter (cB S λx=>decide (x=l))).length
theorem kZ{l:Nat}(h:S.pg[n]?=some p)(b:p.lv=l):n∈(List.range S.pg.length).filter (cB S λx=>decide (x=l)) :=
 Bm.mpr ⟨Ch.mpr (QJ h),by unfold cB;rw[h];simpa using b⟩
def Qe3{l:Nat}(h:S.pg[n]?=some p)(b:p.lv=l):1<=Xk S l:=List.length_pos_of_mem (kZ h b)
theorem Tree.iu(T:Tree S bg)(e:S.pg[S.top]?=some p)(c:∀j,0<j->j<=p.lv->∃(f:Nat)(q:Pg),S.pg[f]?=some q/\q.lv=j):Xk S 0+p.lv<=S.pg.length:=by
  obtain⟨z,b,l⟩:=T.root;rw[e]at b;cases b;have a:=KY (S:=S) (L:=p.lv) l;have key:∀R,R<=p.lv->Xk S 0+R<=((List.range S.pg.length).filter (cB S λx=>decide (x<R+1))).length:=by
    intro R;induction R with
    |zero=>intro _;rw[jb,V3];unfold Xk;lia
    |succ R i=>intro h;have:=i ⋯;obtain⟨f,q,m,o⟩:=c (R+1) ⋯ h;have:=Qe3 m o;rw[jb];unfold Xk at *;lia
  have:=key p.lv (Ae _);lia
def Ik:bH->Prop
 |.stretch l h=>l<h
 |_=>True
end
def VE(L:Ep):Prop:=L.Pairwise (λx y=>x.1<y.1)
theorem qR:∀{L M:Ep},VE L->VE M->(∀x,x∈L↔x∈M)->L=M
  | [],[],_,_,_=>rfl
  | [],y::M,_,_,h=>by have:=(h y).mpr (by simp);cases this
  |x::L,[],_,_,h=>by have:=(h x).mp (by simp);cases this
  |x::L,y::M,l,hM,h=>by
    obtain⟨c,i⟩:=Cp.mp l;obtain⟨f,j⟩:=Cp.mp hM;have e:x=y:=by
      have hx:=(h x).mp (by simp);have b:=(h y).mpr (by simp);rcases Bk.mp hx with hx|hx
      . exact hx
      . rcases Bk.mp b with b|b
        . exact b.symm
        . have:=c y b;have:=f x hx;lia
    subst e;congr 1;refine qR i j λz=>⟨λhz=>?_,λhz=>?_⟩
    . rcases Bk.mp ((h z).mp (Ax _ hz))with e|a
      . subst e;have:=c z hz;lia
      . exact a
    . rcases Bk.mp ((h z).mpr (Ax _ hz))with e|a
      . subst e;have:=f z hz;lia
      . exact a
def nU(S:Sh)(n:Nat):List (Int×Int):=match S.pg[n]? with
 |some p=>prs p
 |none=>[]
def ze(S:Sh)(r:List Nat):List (Int×Int):=r.flatMap (nU S)
def Zero(S:Sh)(bg:Bg):Prop:=bg 0=none/\∃p,S.pg[0]?=some p/\p.lv=0
section
variable{S S':Sh}{bg aH:Bg}{F:Ev}
theorem Zero.grow(Z:Zero S bg)(g:aV S bg S' aH):Zero S' aH:=by obtain⟨h1,p,h2,h3⟩:=Z;obtain⟨a,q,b,c⟩:=g.old 0 p h2;exact⟨a.trans h1,q,b,⋯⟩
theorem QdG(T:Tree S bg)(P:aW S F)(Z:Zero S bg):∃r,Chain S 0 r/\r.Nodup/\r.length<=S.pg.length/\(∀m∈r,∃q,S.pg[m]?=some q/\q.lv=0)/\VE (ze S r)/\∀k v,(k,v)∈ze S r↔F k=some v:=by
 obtain⟨z1,Y,z2,z3⟩:=Z;obtain⟨r,c,nd,mem⟩:=M2 T z2 z1;have O:=c.facts T Y z2;obtain⟨J,f2,L,f4,f5⟩:=O;have j:∀m∈r,∃q,S.pg[m]?=some q/\q.lv=0:=λm i=>by obtain⟨q,a,b⟩:=J m i;exact⟨q,a,⋯⟩
 have len:r.length<=S.pg.length:=by rw[So T nd mem];exact Bj (Cb _ _) (by rw[List.length_range];exact Ae _)
 refine⟨r,c,nd,len,j,?_,λk v=>?_⟩
 ·unfold VE ze;rw[List.pairwise_flatMap];refine⟨λm i=>?_,?_⟩
  ·obtain⟨q,a,b⟩:=j m i;unfold nU;rw[a];exact UE (T.page m q a).sorted
  ·refine List.Pairwise.imp_of_mem (R:=λa b=>cY (bg a) (bg b)=true) (λ{a b} Q U f x hx y z=>?_) L;obtain⟨q,n,a2⟩:=j a Q;obtain⟨u,l,b2⟩:=j b U;unfold nU at hx z;rw[n]at hx;rw[l]at z;have kx:=xW (show(x.1,x.2)∈prs q from hx);have X:=xW (show(y.1,y.2)∈prs u from z);have ne:a≠b:=λe=>by subst e;rw[jk]at f;cases f
   rcases T.dis a b q u n l ⋯ ne with ⟨h,v,o,t,I⟩|⟨h,v,o,t,I⟩
   ·have:=(T.page a q n).high _ kx h o;have:=(T.page b u l).low _ X v t;lia
   ·exfalso;have w:=Um ((T.page b u l).wide h o);have C:=qg f w;rw[t]at C;simp only[cY,decide_eq_true_eq]at C;lia
 ·unfold ze;rw[P k v,List.mem_flatMap];constructor
  ·rintro⟨m,i,h⟩;obtain⟨q,a,b⟩:=j m i;unfold nU at h;rw[a]at h;exact⟨m,q,a,b,h⟩
  ·rintro⟨m,q,a,b,h⟩;exact⟨m,(mem m).mpr ⟨q,a,⋯⟩,by unfold nU;rw[a];exact h⟩
end
section
variable{S S':Sh}{bg aH:Bg}{n f:Nat}{p q P:Pg}{w w':Wk}{r:Row}{a k:Int}{F F':Ev}{R:Nat}
theorem uU(g:aV S bg S' aH){n:Nat}(b:n<S.pg.length)(fn:Nat->Bool):cB S' fn n=cB S fn n:=by obtain⟨_,p',h1,h2⟩:=g.old n _ (Ab b);unfold cB;rw[h1,Ab b];show fn p'.lv=fn _;rw[h2]
theorem Yq{α:Type}{f h:α->Bool}:∀{l:List α},(∀x∈l,f x=h x)->l.filter f=l.filter h
  | [],_=>rfl
  |x::l,e=>by rw[As,As,e x (by simp),Yq λy b=>e y (Ax _ b)]
theorem yu(g:aV S bg S' aH)(h:S'.pg.length=S.pg.length)(l:Nat):Xk S' l=Xk S l:=by unfold Xk;rw[h,Yq λx hx=>uU g (Ch.mp hx) _]
theorem KU(g:aV S bg S' aH)(h:S'.pg.length=S.pg.length+1)(b:S'.pg[S.pg.length]?=some q)(l:Nat):Xk S' l=Xk S l+if q.lv=l then 1 else 0:=by
 unfold Xk;rw[h,List.range_succ,List.filter_append,An,Yq λx hx=>uU g (Ch.mp hx) _];have e:cB S' (λx=>decide (x=l)) S.pg.length=decide (q.lv=l):=by unfold cB;rw[b]
 congr 1;rw[As,e];by_cases c:q.lv=l<;>simp[c]
theorem jL:∀{l m:List Nat},l.Nodup->(∀x∈l,x∈m)->l.length<=m.length
  | [],m,_,_=>Be _
  |x::l,m,h,hs=>by
    obtain⟨h1,h2⟩:=Cw.mp h;have hx:=hs x (by simp);have:=jL (l:=l) (m:=m.erase x) h2 λy b=>by have ne:y≠x:=λe=>h1 (e▸b);exact(List.mem_erase_of_ne ne).mpr (hs y (Ax _ b))
    rw[List.length_erase_of_mem hx]at this;have:=List.length_pos_of_mem hx;rw[Ba];lia
def y8(S:Sh)(n j:Nat):Nat:=match S.pg[n]? with
 |some p=>(p.ps.getD j 0).toNat
 |none=>0
theorem va(T:Tree S bg)(K:Fk S)(b:S.pg[n]?=some p)(h:0<p.lv){j:Nat}(t:j<2):∃q,S.pg[y8 S n j]?=some q/\q.lv+1=p.lv/\bg (y8 S n j)=Ju (bg n) p.ks j:=by
 have pl:=(T.page n p b).parts;rw[Ea ⋯]at pl;have k1:=K n p b h;obtain⟨c,q,i,l,m,o⟩:=T.kid n p b h j _ (Ab (by lia:j<p.ps.length));have e:y8 S n j=c:=by unfold y8;rw[b];show(p.ps.getD j 0).toNat=c;rw[List.getD_eq_getElem?_getD,Ab (by lia:j<p.ps.length),i];rfl
 rw[e];exact⟨q,l,m,o⟩
theorem gM(T:Tree S bg)(K:Fk S)(b:S.pg[n]?=some p)(c:0<p.lv){j:Nat}(t:j<2):cO (bg n) (Ju (bg n) p.ks j)/\∀h v,p.hi=some h->Ju (bg n) p.ks j=some v->v<h:=by
  have ok:=T.page n p b;have k1:=K n p b c;cases j with
  |zero=>exact⟨cO.refl _,λh v h1 h2=>ok.wide h h1 v h2⟩
  |succ i =>
    have e:i=0:=⋯
    subst e;have g:Ju (bg n) p.ks (0+1)=some p.ks[0]:=Ab (l:=p.ks) (i:=0) k1;have m:p.ks[0]∈p.ks:=B9 _;rw[g];exact⟨λv o=>⟨_,rfl,ok.low _ m v o⟩,λh v h1 h2=>by cases h2;exact ok.high _ m h h1⟩
theorem Qc9(T:Tree S bg)(K:Fk S)(l:Nat):2 * Xk S (l+1)<=Xk S l:=by
 let L:=(List.range S.pg.length).filter (cB S λx=>decide (x=l+1))
 have nG:∀n∈L,∃p,S.pg[n]?=some p/\p.lv=l+1:=λn o=>by obtain⟨h1,h2⟩:=Bm.mp o;have h1:=Ch.mp h1;unfold cB at h2;rw[Ab h1]at h2;exact⟨_,Ab h1,by simpa using h2⟩
 have nd:L.Nodup:=List.nodup_range.filter _;have key:∀n m i j,n∈L->m∈L->i<2->j<2->y8 S n i=y8 S m j->n=m/\i=j:=λn m i j o hm hi hj e=>by
  obtain⟨p,c,a2⟩:=nG n o;obtain⟨q,I,b2⟩:=nG m hm;obtain⟨_,_,_,J⟩:=va T K c ⋯ hi;obtain⟨_,_,_,d3⟩:=va T K I ⋯ hj;rw[e,d3]at J;obtain⟨x1,x2⟩:=gM T K c ⋯ hi;obtain⟨y1,y2⟩:=gM T K I ⋯ hj;have nm:n=m:=by
   rcases Nat.decEq n m with h|h
   ·exfalso;rcases T.dis n m p q c I ⋯ h with ⟨u,v,X,Y,e3⟩|⟨u,v,X,Y,e3⟩
    ·obtain⟨z,z1,z2⟩:=y1 v Y;have:=x2 u z X (J.symm.trans z1);lia
    ·obtain⟨z,z1,z2⟩:=x1 v Y;have:=y2 u z X (J.trans z1);lia
   ·exact h
  subst nm;rw[c]at I;cases I;refine⟨rfl,?_⟩;have ok:=T.page n p c;have k1:=K n p c ⋯;have l0:=ok.dD ⋯ p.ks[0] (B9 ⋯);have ne:bg n≠p.ks[0]?:=λz=>by rw[Ab ⋯]at z;have:=l0 _ z;lia
  match i,j,hi,hj with
  |0,0,_,_=>rfl
  |1,1,_,_=>rfl
  |0,1,_,_=>exact absurd J.symm ne
  |1,0,_,_=>exact absurd J ne
 let M:=L.flatMap λn=>[y8 S n 0,y8 S n 1]
 have PJ:M.Nodup:=by
  show List.Pairwise (· ≠ ·) _;rw[List.pairwise_flatMap];refine⟨λn o=>?_,?_⟩
  ·refine Cp.mpr ⟨λx hx=>?_,List.pairwise_singleton _ _⟩;rw[Ar]at hx;subst hx;intro e;have:=(key n n 0 1 o o ⋯ ⋯ e).2;lia
  ·refine List.Pairwise.imp_of_mem (R:=(· ≠ ·)) (λ{a b} O Q ne x hx y C e=>?_) nd;subst e;simp only[Bk,Cf,or_false]at hx C;rcases hx with rfl|rfl<;>rcases C with C|C
   ·exact ne (key a b 0 0 O Q ⋯ ⋯ C).1
   ·exact ne (key a b 0 1 O Q ⋯ ⋯ C).1
   ·exact ne (key a b 1 0 O Q ⋯ ⋯ C).1
   ·exact ne (key a b 1 1 O Q ⋯ ⋯ C).1
 have ab:∀x∈M,x∈(List.range S.pg.length).filter (cB S λy=>decide (y=l)):=λx hx=>by
  obtain⟨n,o,hx⟩:=List.mem_flatMap.mp hx;obtain⟨p,c,a2⟩:=nG n o;simp only[Bk,Cf,or_false]at hx;rcases hx with rfl|rfl
  ·obtain⟨q,U,c2,_⟩:=va T K c ⋯ (show 0<2 by lia);exact kZ U ⋯
  ·obtain⟨q,U,c2,_⟩:=va T K c ⋯ (show 1<2 by lia);exact kZ U ⋯
 have len:=jL PJ ab;have lm:M.length=2 * L.length:=by
  show(L.flatMap _).length=_;generalize L=L';induction L' with
  |nil=>rfl
  |cons x t ih=>rw[List.flatMap_cons,An,ih,Ba];simp;lia
 unfold Xk;show 2 * L.length<=_;lia
theorem xU(T:Tree S bg)(K:Fk S):S.pg.length<=2 * Xk S 0:=by
  obtain⟨r,e,b⟩:=T.root;have a:=KY (S:=S) (L:=r.lv) b;have key:∀k,((List.range S.pg.length).filter (cB S λx=>decide (x<k))).length+2 * Xk S k<=2 * Xk S 0:=by
    intro k;induction k with
    |zero=>rw[V3];lia
    |succ k c=>have:=Qc9 T K k;rw[jb];unfold Xk at *;lia
  have:=key (r.lv+1);lia
end
section
variable{S S':Sh}{bg:Bg}{w w':Wk}{F:Ev}{r:Row}{l h:Int}
def iM.rd{w:Wk}(h:iM S bg w)(x y:Int):iM { S with rd:=x,wr:=y } bg w:=h
end
def bF(S:Sh)(n:Nat):Nat:=match S.pg[n]? with
 |some p=>p.lv
 |none=>0
def vis(S:Sh)(w:Wk)(k:Nat):Option Nat:=match w.O6 with
 |some n=>if bF S n=k then some n else if bF S n<k then J2 w.O3 k else none
 |none=>none
def ltV(bg:Bg)(v:Option Nat)(m:Nat):Bool:=match v with
 |some v=>cY (bg v) (bg m)
 |none=>true
def Ct(S:Sh)(bg:Bg)(w:Wk)(m:Nat):Bool:=decide (w.O4<=bF S m)&&ltV bg (vis S w (bF S m)) m
def phi(S:Sh)(bg:Bg)(w:Wk):Nat:=((List.range S.pg.length).filter (Ct S bg w)).length+(bF S S.top+2-w.O4)
inductive Kp(S:Sh)(bg:Bg)(w:Wk)(S':Sh)(w':Wk):Prop
 |side {n s:Nat} {p q:Pg} (U:w.O6=some n∨(w.O6=none/\n=S.top)) (hn:S.pg[n]?=some p) (hg:w.O4<=p.lv) (hs:S.pg[s]?=some q) (hl:q.lv=p.lv) (hb:cY (bg n) (bg s)=true) (e1:S'.pg=S.pg) (e2:S'.top=S.top) (e3:w'.O4=w.O4) (e4:w'.O3=w.O3) (e5:w'.O6=some s) (e6:w'.O7=false):Kp S bg w S' w'
 |down {n c:Nat} {p q:Pg} (U:w.O6=some n∨(w.O6=none/\n=S.top)) (hn:S.pg[n]?=some p) (hl:q.lv+1=p.lv) (hg:w.O4<=q.lv) (hc:S.pg[c]?=some q) (e1:S'.pg=S.pg) (e2:S'.top=S.top) (e3:w'.O4=w.O4) (e4:w'.O3=yP w.O3 p.lv n) (e5:w'.O6=some c) (e6:w'.O7=false):Kp S bg w S' w'
 |part {n:Nat} {p q:Pg} (U:w.O6=some n∨(w.O6=none/\n=S.top)) (hn:S.pg[n]?=some p) (hg:w.O4=p.lv) (el:S'.pg.length=S.pg.length+1) (eq:S'.pg[S.pg.length]?=some q) (hq:q.lv=w.O4) (e2:S'.top=S.top) (e3:w'.O4=w.O4+1) (e4:w'.O3=w.O3) (e5:w'.O6=J2 w.O3 (w.O4+1)) (e6:w'.O7=false):Kp S bg w S' w'
 |over (e6:w'.O7=true) (el:S'.pg.length=S.pg.length) (e2:S'.top=S.top):Kp S bg w S' w'
 |raised {p q:Pg} (e6:w'.O7=true) (hr:S.pg[S.top]?=some p) (el:S'.pg.length=S.pg.length+1) (e2:S'.top=S.pg.length) (eq:S'.pg[S.pg.length]?=some q) (hq:q.lv=p.lv+1):Kp S bg w S' w'
section
variable{S S':Sh}{bg aH:Bg}{n:Nat}{p q P:Pg}{w w' v:Wk}{r:Row}
theorem Z9(h:S.pg[n]?=some p):bF S n=p.lv:=by unfold bF;rw[h]
theorem Vn(i:w.O7=false)(b:w.O6=some n∨(w.O6=none/\n=S.top))(f:S.pg[n]?=some p)(l:P.lv=p.lv)(e:w.O4=p.lv){a:Wk}(g0:a.O4=w.O4)(c:a.O3=w.O3)(j:a.O7=w.O7):Kp S bg w (Qt { S with rd:=S.rd+1 } a n P).2.1 (Qt { S with rd:=S.rd+1 } a n P).2.2:=by
 have ln:=QJ f;unfold Qt;by_cases h:P.ks.length<=S.O2
 ·rw[Eb (show P.ks.length<=({ S with rd:=S.rd+1 }:Sh).O2 from h)];exact .over rfl (by simp) rfl
 ·rw[Ea (show ¬ P.ks.length<=({ S with rd:=S.rd+1 }:Sh).O2 from h)];refine .part (q:=QK P) b f e (by simp) ?_ (by show P.lv=_;lia) rfl (by show P.lv+1=_;lia) c ?_ (by show a.O7=false;rw[j,i])
  ·show((S.pg++[QK P]).set n (Q0 P S.pg.length))[S.pg.length]?=_;rw[Am ⋯];simp
  ·show J2 a.O3 (P.lv+1)=_;rw[c,l,e]
theorem yX(T:Tree S bg)(W:aM S bg w)(hw:w.O7=false)(hs:Xj S w=some (r,S',w')):Kp S bg w S' w':=by
  obtain⟨n,R,f⟩:∃n,w.O6.getD S.top=n/\(w.O6=some n∨(w.O6=none/\n=S.top)):=by
    cases e:w.O6 with
    |none=>exact⟨S.top,rfl,.inr ⟨rfl,rfl⟩⟩
    |some m=>exact⟨m,rfl,.inl rfl⟩
  obtain⟨p,i⟩:∃p,S.pg[n]?=some p:=by
    rcases f with U|⟨_,rfl⟩
    . obtain⟨p,a,_⟩:=W.at_ n U;exact⟨p,a⟩
    . obtain⟨p,a,_⟩:=T.root;exact⟨p,a⟩
  have ln:=QJ i;unfold Xj at hs;rw[Ea (by rw[hw];simp),R]at hs;simp only[i]at hs;by_cases J:w.O6=none/\p.lv<w.O4
  . rw[Eb J]at hs
    obtain⟨k,q,u,y,C,L⟩:=W.tell ⋯;simp only[u]at hs;cases hs;have F:n=S.top:=by
      rcases f with U|⟨_,e⟩
      . rw[J.1]at U;cases U
      . exact e
    subst F;exact .raised (q:=⟨p.lv+1,[w.aim],[(S.top:Int),(k:Int)],none,none⟩) rfl i (by simp) rfl (by simp) rfl
  . rw[Ea J]at hs
    have Y:w.O4<=p.lv:=by
      rcases f with U|⟨U,_⟩
      . obtain⟨p',I,Q,_⟩:=W.at_ n U
        rw[i]at I;cases I;exact Q
      . exact C0 λh=>J ⟨U,h⟩
    cases X:Jo p w.aim with
    |true =>
      rw[X,Eb rfl]at hs;cases o:p.sd with
      |none=>rw[o]at hs;cases hs
      |some s=>rw[o]at hs;cases hs;obtain⟨x,q,u,y,C,L,O⟩:=VR T i o;exact .side f i Y y C O rfl rfl rfl rfl rfl hw
    |false =>
      rw[X,Ea (by simp)]at hs;by_cases hd:w.O4<p.lv
      . rw[Eb hd]at hs
        cases t:p.ps[aG p.ks w.aim]? with
        |none=>rw[t]at hs;cases hs
        |some c=>rw[t]at hs;cases hs;obtain⟨c',z,I,Q,b3,_⟩:=T.kid _ p i ⋯ _ _ t;subst I;exact .down f i b3 ⋯ Q rfl rfl rfl rfl (by simp[B7]) hw
      . rw[Ea hd]at hs
        have nM:w.O4=p.lv:=⋯
        by_cases h0:0<w.O4
        . rw[Eb h0]at hs
          obtain⟨k,q,u,y,C,L⟩:=W.tell h0;simp only[u]at hs;simp only[Option.some.injEq,Bp]at hs;obtain⟨rfl,rfl,rfl⟩:=hs;exact Vn (P:=Zh p w.aim k) hw f i rfl nM rfl rfl rfl
        . rw[Ea h0]at hs
          have hs:=Ak hs;unfold Jz at hs;cases j:w.O0 with
          |find k=>rw[j]at hs;cases hs;exact .over rfl rfl rfl
          |put k x=>rw[j]at hs;dsimp only at hs;simp only[Bp]at hs;obtain⟨rfl,rfl,rfl⟩:=hs;exact Vn (P:=QW p w.aim x) hw f i rfl nM rfl rfl rfl
          |cut k =>
            rw[j]at hs;dsimp only at hs;cases hs;by_cases t:(QX p w.aim).isSome=true
            . rw[Eb t];exact .over rfl (by simp) rfl
            . rw[Ea t];exact .over rfl rfl rfl
          |stretch l h =>
            rw[j]at hs;dsimp only at hs;rcases T.link n p i with ⟨a,b⟩|⟨x,s,q,a,b,c,d,e⟩
            . simp only[a,b]at hs;cases hs;exact .over rfl rfl rfl
            . simp only[a,b]at hs
              by_cases hx:h<=x
              . rw[Eb hx]at hs;cases hs;exact .over rfl rfl rfl
              . rw[Ea hx]at hs;cases hs
                obtain⟨x',q',u,y,C,L,O⟩:=VR T i b;exact .side f i Y y C O rfl rfl rfl rfl rfl hw
theorem J7(g:aV S bg S' aH){n:Nat}(a:n<S.pg.length):bF S' n=bF S n:=by obtain⟨_,p',h1,h2⟩:=g.old n _ (Ab a);rw[Z9 h1,Z9 (Ab a),h2]
def XN(g:aV S bg S' aH){n:Nat}(a:n<S.pg.length):aH n=bg n:=(g.old n _ (Ab a)).1
theorem yY(T:Tree S bg):S.top<S.pg.length:=by obtain⟨r,h,_⟩:=T.root;exact QJ h
theorem vh(T:Tree S bg){m:Nat}(h:m<S.pg.length):bF S m<=bF S S.top:=by obtain⟨r,h1,h2⟩:=T.root;rw[Z9 h1,Z9 (Ab h)];exact h2 m _ (Ab h)
theorem RO(T:Tree S bg)(W:aM S bg w)(K:Kp S bg w S' w')(g:aV S bg S' aH)(he:w'.O7=false):phi S' aH w'+1<=phi S bg w:=by
  cases K with
  |over j=>rw[he]at j;cases j
  |raised j=>rw[he]at j;cases j
  |@side n s p q U a y hs I L u x e e4 l j =>
    have eL:∀m,bF S' m=bF S m:=λm=>by unfold bF;rw[u]
    have eB:∀m,m<S.pg.length->aH m=bg m:=λm i=>XN g i;have O:=QJ hs;have key:((List.range S'.pg.length).filter (Ct S' aH w')).length<((List.range S.pg.length).filter (Ct S bg w)).length:=by
      rw[u];refine xJ _ _ _ (λm i h=>?_) ⟨s,Ch.mpr O,?_,?_⟩
      . have b:=Ch.mp i
        unfold Ct at h ⊢;rw[Bc]at h ⊢;rw[eL,e]at h;refine⟨h.1,?_⟩;have h2:=h.2;unfold vis at h2 ⊢;rw[l]at h2;simp only[eL,Z9 hs,e4]at h2;rcases U with U|⟨U,rfl⟩
        . rw[U]
          simp only[Z9 a];rw[I]at h2;by_cases c:p.lv=bF S m
          . rw[Eb c]at h2 ⊢
            unfold ltV at h2 ⊢;simp only[eB s O,eB m b]at h2;exact qg L h2
          . rw[Ea c]at h2 ⊢
            by_cases t:p.lv<bF S m
            . rw[Eb t]at h2 ⊢
              unfold ltV at h2 ⊢;cases hf:J2 w.O3 (bF S m)with
              |none=>rfl
              |some f=>rw[hf]at h2;obtain⟨z,z1,_⟩:=W.kept _ f hf;simp only[eB f (QJ z1),eB m b]at h2;exact h2
            . rw[Ea t];rfl
        . rw[U];rfl
      . unfold Ct vis
        rw[Z9 hs,I,Ef y];rcases U with U|⟨U,rfl⟩
        . rw[U];simp only[Z9 a,if_true];exact L
        . rw[U];rfl
      . unfold Ct vis
        rw[l];simp[ltV,jk]
    unfold phi;rw[eL,x,e];lia
  |@down n c p q U a I y F u x e e4 l j =>
    have eL:∀m,bF S' m=bF S m:=λm=>by unfold bF;rw[u]
    have eB:∀m,m<S.pg.length->aH m=bg m:=λm i=>XN g i;have lc:=QJ F;have key:((List.range S'.pg.length).filter (Ct S' aH w')).length<((List.range S.pg.length).filter (Ct S bg w)).length:=by
      rw[u];refine xJ _ _ _ (λm i h=>?_) ⟨c,Ch.mpr lc,?_,?_⟩
      . have b:=Ch.mp i
        unfold Ct at h ⊢;rw[Bc]at h ⊢;rw[eL,e]at h;refine⟨h.1,?_⟩;have h2:=h.2;unfold vis at h2 ⊢;rw[l]at h2;simp only[eL,Z9 F,e4]at h2;rcases U with U|⟨U,rfl⟩
        . rw[U]
          simp only[Z9 a];by_cases C:p.lv=bF S m
          . rw[Eb C]
            rw[Ea ⋯,Eb ⋯,zH,Eb C.symm]at h2;unfold ltV at h2 ⊢;simp only[eB n (QJ a),eB m b]at h2;exact h2
          . rw[Ea C]
            by_cases t:p.lv<bF S m
            . rw[Eb t]
              rw[Ea ⋯,Eb ⋯,zH,Ea ⋯]at h2;unfold ltV at h2 ⊢;cases hf:J2 w.O3 (bF S m)with
              |none=>rfl
              |some f=>rw[hf]at h2;obtain⟨z,z1,_⟩:=W.kept _ f hf;simp only[eB f (QJ z1),eB m b]at h2;exact h2
            . rw[Ea t];rfl
        . rw[U];rfl
      . unfold Ct vis
        rw[Z9 F,Ef y];rcases U with U|⟨U,rfl⟩
        . rw[U];simp only[Z9 a];rw[Ea ⋯,Ea ⋯];rfl
        . rw[U];rfl
      . unfold Ct vis
        rw[l];simp[ltV,jk]
    unfold phi;rw[eL,x,e];lia
  |@part n p q U a y Q R Y x e e4 l j =>
    have ln:=QJ a;have key:((List.range S'.pg.length).filter (Ct S' aH w')).length<=((List.range S.pg.length).filter (Ct S bg w)).length:=by
      rw[Q,List.range_succ,List.filter_append,An];have z:Ct S' aH w' S.pg.length=false:=by unfold Ct;rw[Z9 R,e,Y,Eh ⋯];rfl
      rw[As,z];simp only[Az,if_false,List.filter_nil,List.length_nil,Nat.add_zero];refine GZ _ _ _ λm i h=>?_;have b:=Ch.mp i;unfold Ct at h ⊢;rw[Bc]at h ⊢;rw[J7 g b,e]at h;have h1:w.O4+1<=bF S m:=Eg h.1;refine⟨Ef ⋯,?_⟩;have h2:=h.2;rcases U with U|⟨U,rfl⟩
      . unfold vis at h2 ⊢
        rw[U];rw[l]at h2;simp only[Z9 a];rw[Ea ⋯,Eb ⋯];cases hf:J2 w.O3 (bF S m)with
        |none=>rfl
        |some f =>
          obtain⟨X,o⟩:=W.full n p U a _ f hf (w.O4+1) ⋯ ⋯;rw[o]at h2;obtain⟨z1,J,y2⟩:=W.kept _ X o;obtain⟨z2,y3,y4⟩:=W.kept _ f hf;simp only[J7 g (QJ J),Z9 J,y2,e4]at h2;by_cases c:w.O4+1=bF S m
          . rw[Eb c]at h2
            rw[<- c,o]at hf;cases hf;unfold ltV at h2 ⊢;simp only[XN g (QJ J),XN g b]at h2;exact h2
          . rw[Ea c,Eb ⋯,hf]at h2
            unfold ltV at h2 ⊢;simp only[XN g (QJ y3),XN g b]at h2;exact h2
      . have:=vh T b
        rw[Z9 a]at this;lia
    have ht:bF S' S'.top=bF S S.top:=by rw[x];exact J7 g (yY T)
    have:=vh T ln;rw[Z9 a]at this;unfold phi;rw[ht,e];lia
theorem HY(V:aM S bg v)(g:aV S bg S' aH){m:Nat}(a:m<S.pg.length):Ct S' aH v m=Ct S bg v m:=by
  unfold Ct;rw[J7 g a];congr 1;unfold vis;cases U:v.O6 with
  |none=>rfl
  |some n =>
    obtain⟨p,h1,_⟩:=V.at_ n U;simp only[J7 g (QJ h1)];by_cases c:bF S n=bF S m
    . rw[Eb c];unfold ltV;simp only[XN g (QJ h1),XN g a]
    . rw[Ea c]
      by_cases b:bF S n<bF S m
      . rw[Eb b]
        unfold ltV;cases hf:J2 v.O3 (bF S m)with
        |none=>rfl
        |some f=>obtain⟨z,z1,_⟩:=V.kept _ f hf;simp only[XN g (QJ z1),XN g a]
      . rw[Ea b];rfl
theorem UA(T:Tree S bg)(V:aM S bg v)(g:aV S bg S' aH)(b:S'.pg.length=S.pg.length)(a:S'.top=S.top):phi S' aH v=phi S bg v:=by unfold phi;rw[b,a,J7 g (yY T),Yq λm c=>HY V g (Ch.mp c)]
theorem gg(T:Tree S bg)(V:aM S bg v)(g:aV S bg S' aH)(a:S'.pg.length=S.pg.length+1):phi S' aH v<=phi S bg v+1+(bF S' S'.top-bF S S.top):=by unfold phi;rw[a,List.range_succ,List.filter_append,An,Yq (h:=Ct S bg v) λm b=>HY V g (Ch.mp b)];have:(List.filter (Ct S' aH v) [S.pg.length]).length<=1:=Cb _ _;lia
theorem VG(f:Wk->Bool):∀(ws:List Wk)(i:Nat)(w w':Wk),ws[i]?=some w->((ws.set i w').filter f).length+(if f w=true then 1 else 0)=(ws.filter f).length+(if f w'=true then 1 else 0)
  | [],i,w,w',h=>by cases h
  |x::ws,0,w,w',h=>by cases h;rw[List.set_cons_zero,As,As];by_cases a:f x=true<;>by_cases b:f w'=true<;>simp[a,b]<;>lia
  |x::ws,i+1,w,w',h=>by have:=VG f ws i w w' h;rw[List.set_cons_succ,As,As];by_cases a:f x=true<;>simp[a]<;>lia
def zf(w:Wk):Bool:=decide (w.O4=0)&&!w.O7
def lf(w:Wk):Bool:=!w.O7
def zc(ws:List Wk):Nat:=(ws.filter zf).length
def lc(ws:List Wk):Nat:=(ws.filter lf).length
def dJ(S:Sh)(bg:Bg)(ws:List Wk)(t:Nat->Nat):Prop:=∀(i:Nat)(w:Wk),ws[i]?=some w->w.O7=false->phi S bg w+2 * (Xk S 0+zc ws)+lc ws<=S.pg.length+t i
theorem RI(T:Tree S bg)(W:aM S bg w):1<=phi S bg w:=by
 unfold phi;have:w.O4<=bF S S.top+1:=by
  rcases Nat.eq_zero_or_pos w.O4 with h|h
  ·lia
  ·obtain⟨k,q,_,h2,h3,_⟩:=W.tell h;have:=vh T (QJ h2);rw[Z9 h2]at this;lia
 lia
theorem dJ.pos{ws:List Wk}{t:Nat->Nat}{i:Nat}(L:dJ S bg ws t)(T:Tree S bg)(K:Fk S)(W:aM S bg w)(hi:ws[i]?=some w)(hw:w.O7=false):1<=t i:=by have h1:=L i w hi hw;have h2:=xU T K;have h3:=RI T W;lia
theorem wH{ws:List Wk}{i:Nat}(T:Tree S bg)(W:aM S bg w)(hi:ws[i]?=some w)(hw:w.O7=false)(K:Kp S bg w S' w')(g:aV S bg S' aH):2 * (Xk S' 0+zc (ws.set i w'))+lc (ws.set i w')+(bF S' S'.top-bF S S.top)<=2 * (Xk S 0+zc ws)+lc ws/\lc ws<=lc (ws.set i w')+1:=by
  have b:=VG zf ws i w w' hi;have f:=VG lf ws i w w' hi;have I:lf w=true:=by unfold lf;rw[hw];rfl
  rw[Eb I]at f;have J:zf w=decide (w.O4=0):=by unfold zf;rw[hw];simp
  refine⟨?_,by unfold lc;lia⟩;unfold zc lc;cases K with
  |side U x u hs C L o e h e4 t a =>
    have z:zf w'=zf w:=by unfold zf;rw[h,a,hw]
    have l:lf w'=true:=by unfold lf;rw[a];rfl
    rw[z]at b;rw[Eb l]at f;rw[yu g (by rw[o]),e,J7 g (yY T)];lia
  |down U x C u O o e h e4 t a =>
    have z:zf w'=zf w:=by unfold zf;rw[h,a,hw]
    have l:lf w'=true:=by unfold lf;rw[a];rfl
    rw[z]at b;rw[Eb l]at f;rw[yu g (by rw[o]),e,J7 g (yY T)];lia
  |part U x u j m y e h e4 t a =>
    have z:zf w'=false:=by unfold zf;rw[h];simp
    have l:lf w'=true:=by unfold lf;rw[a];rfl
    rw[z,J]at b;rw[Eb l]at f;rw[KU g j m,e,J7 g (yY T),y];by_cases c:w.O4=0
    . rw[Eb c];simp[c]at b;lia
    . rw[Ea c];simp[c]at b;lia
  |over a j e =>
    have z:zf w'=false:=by unfold zf;rw[a];simp
    have l:lf w'=false:=by unfold lf;rw[a];rfl
    rw[z]at b;rw[l]at f;simp only[Az,if_false]at b f;rw[yu g j,e,J7 g (yY T)];lia
  |raised a F j e m y =>
    have z:zf w'=false:=by unfold zf;rw[a];simp
    have l:lf w'=false:=by unfold lf;rw[a];rfl
    rw[z]at b;rw[l]at f;simp only[Az,if_false]at b f;rw[KU g j m,Ea ⋯,e,Z9 m,Z9 F];lia
theorem Dv{ws:List Wk}{i:Nat}(T:Tree S bg)(W:aM S bg w)(hi:ws[i]?=some w)(hw:w.O7=false)(K:Kp S bg w S' w')(g:aV S bg S' aH):Xk S' 0+zc (ws.set i w')<=Xk S 0+zc ws:=by have:=wH T W hi hw K g;lia
theorem dJ.step{ws:List Wk}{t:Nat->Nat}{i:Nat}(L:dJ S bg ws t)(A:All S bg ws)(T:Tree S bg)(hi:ws[i]?=some w)(hw:w.O7=false)(hs:Xj S w=some (r,S',w'))(g:aV S bg S' aH):dJ S' aH (ws.set i w') (λj=>if j=i then t i-1 else t j):=by
 have W:=A.ok i w hi hw;have K:=yX T W hw hs;have wH:=(wH T W hi hw K g).1;have o:S.pg.length<=S'.pg.length:=by
  cases K with
  |side U l f hs x C a=>rw[a];exact Ae _
  |down U l x f F a=>rw[a];exact Ae _
  |part U l f b=>lia
  |over m b=>lia
  |raised m J b=>lia
 have z:∀v,aM S bg v->phi S' aH v+S.pg.length<=phi S bg v+S'.pg.length+(bF S' S'.top-bF S S.top):=λv V=>by
  cases K with
  |side U l f hs x C a c=>rw[UA T V g (by rw[a]) c,a];lia
  |down U l x f F a c=>rw[UA T V g (by rw[a]) c,a];lia
  |part U l f b=>have:=gg T V g b;lia
  |over m b c=>rw[UA T V g b c,b];lia
  |raised m J b=>have:=gg T V g b;lia
 intro j u I y;rcases Q7 I with ⟨rfl,rfl,_⟩|⟨e,h⟩
 ·have h1:=L j w hi hw;have h2:=RO T W K g y;show _<=_+(if j=j then t j-1 else t j);rw[Eb rfl];lia
 ·have h1:=L j u h y;have h2:=z u (A.ok j u h y);show _<=_+(if j=i then t i-1 else t j);rw[Ea e];lia
def Wu(ws:List Wk):lc ws<=ws.length:=Cb _ _
def RP(ws:List Wk):zc ws<=ws.length:=Cb _ _
theorem dJ.first(T:Tree S bg)(K:Fk S)(a:∀j,0<j->j<=bF S S.top->∃(f:Nat)(q:Pg),S.pg[f]?=some q/\q.lv=j)(ws:List Wk):dJ S bg ws (λ_=>2 * S.pg.length+3 * ws.length+2):=λi w hi hw=>by
 have h1:phi S bg w<=S.pg.length+(bF S S.top+2):=by unfold phi;have:=Cb (Ct S bg w) (List.range S.pg.length);rw[List.length_range]at this;lia
 obtain⟨r,b,c⟩:=T.root;rw[Z9 b]at h1 a;have h2:=T.iu b a;have h3:=Wu ws;have h4:=RP ws;show _<=_+(2 * S.pg.length+3 * ws.length+2);lia
end
section
variable{S S':Sh}{bg aH:Bg}{n m:Nat}{p q P:Pg}{w w' v:Wk}{r:Row}{k:Int}
theorem Tree.levels(T:Tree S bg):∀j,0<j->j<=bF S S.top->∃(f:Nat)(q:Pg),S.pg[f]?=some q/\q.lv=j:=λj _ e=>by
 obtain⟨r,c,i⟩:=T.root;rw[Z9 c]at e;obtain⟨L,h1,h2⟩:=uT T r.lv S.top r rfl c T.lE;obtain⟨h3,h4⟩:=h1.get T r c;have h:r.lv-j<L.length:=⋯
 obtain⟨q,a,b,_⟩:=h4 (r.lv-j) L[r.lv-j] (Ab h);exact⟨_,q,a,⋯⟩
end
def bH.far:bH->Bool
 |.stretch _ _=>true
 |_=>false
def BC(w w':Wk):Row->Prop
 |.non=>False
 |.side _ _=>w'.O7=false/\w'.O1=w.O1/\w'.O5=w.O5/\w'.O4=w.O4
 |.down _ _=>w'.O7=false/\w'.O1=w.O1/\w'.O5=w.O5/\w'.O4=w.O4
 |.found _ x=>w.O4=0/\w'.O7=true/\w'.O1=x/\w.O0.far=false
 |.put _ x k=>w.O4=0/\w'.O7=k.isNone/\w'.O1=x/\w.O0.far=false/\(k.isSome=true->0<w'.O4)
 |.cut _ x=>w.O4=0/\w'.O7=true/\w'.O1=x/\w.O0.far=false
 |.read _ ps t=>w.O4=0/\w'.O7=t.isNone/\w'.O5=w.O5++ps/\w.O0.far=true/\w'.O4=w.O4
 |.told _ k=>0<w.O4/\w'.O7=k.isNone/\w'.O1=w.O1/\(k.isSome=true->0<w'.O4)
 |.raised _ _=>0<w.O4/\w'.O7=true/\w'.O1=w.O1
theorem Vo(S:Sh)(w:Wk)(n:Nat)(p:Pg)(he:w.O7=false):(Qt S w n p).2.2.O7=(Qt S w n p).1.isNone/\(Qt S w n p).2.2.O1=w.O1/\(Qt S w n p).2.2.O0=w.O0/\((Qt S w n p).1.isSome=true->0<(Qt S w n p).2.2.O4):=by
 unfold Qt;split
 ·exact⟨rfl,rfl,rfl,λh=>by cases h⟩
 ·exact⟨he,rfl,rfl,λ_=>Nat.succ_pos _⟩
theorem U9{w w':Wk}{r:Row}(he:w.O7=false)(h:Xj S w=some (r,S',w')):BC w w' r/\w'.O0=w.O0:=by
 unfold Xj at h;rw[Ea (by rw[he];simp)]at h;split at h
 ·cases h
 ·rename_i p U;split at h
  ·rename_i b;split at h
   ·cases h
   ·cases h;exact⟨⟨⋯,rfl,rfl⟩,rfl⟩
  ·split at h
   ·split at h
    ·cases h
    ·cases h;exact⟨⟨he,rfl,rfl,rfl⟩,rfl⟩
   ·split at h
    ·split at h
     ·cases h
     ·cases h;exact⟨⟨he,rfl,rfl,rfl⟩,rfl⟩
    ·split at h
     ·rename_i a;split at h
      ·cases h
      ·rename_i k f;have q:=Vo { S with rd:=S.rd+1 } w (w.O6.getD S.top) (Zh p w.aim k) he;cases h;exact⟨⟨a,q.1,q.2.1,q.2.2.2⟩,q.2.2.1⟩
     ·rename_i a;have g0:w.O4=0:=⋯
      have e:=Ak h;unfold Jz at e;split at e
      ·rename_i k hd;cases e;exact⟨⟨g0,rfl,rfl,by rw[hd];rfl⟩,rfl⟩
      ·rename_i k x hd;have q:=Vo { S with rd:=S.rd+1 } { w with O1:=QX p w.aim } (w.O6.getD S.top) (QW p w.aim x) he;cases e;exact⟨⟨g0,q.1,q.2.1,by rw[hd];rfl,q.2.2.2⟩,q.2.2.1⟩
      ·rename_i k hd;cases e;exact⟨⟨g0,rfl,rfl,by rw[hd];rfl⟩,rfl⟩
      ·rename_i l c hd;split at e
       ·split at e
        ·cases e;exact⟨⟨g0,rfl,rfl,by rw[hd];rfl,rfl⟩,rfl⟩
        ·cases e;exact⟨⟨g0,he,rfl,by rw[hd];rfl,rfl⟩,rfl⟩
       ·cases e;exact⟨⟨g0,rfl,rfl,by rw[hd];rfl,rfl⟩,rfl⟩
end TR
namespace D
open PySem PySem.Spec PyProof.Rows L2
section
variable{prog:Program}{w:World}{A:Around}{E:Ej}{s:Shared}
end
section
variable{prog:Program}{w:World}{K:Type}[DecidableEq K]{knd:KeyKind prog w K}{A:Around}{R:Result->Shared->Prop}
end
section
variable{prog:Program}{w:World}{K:Type}[DecidableEq K]{knd:KeyKind prog w K}{A:Around}{E:Ej}{s:Shared}
end
section
variable{X:Cx}
def tH:DV->M (List DV)
  |.lst ds=>pure ds
  |.ref n=>do
    match <- ZF n with
    |.lst ds=>pure ds
    |_=>failure
  |_=>failure
theorem Dp{U b:Hs}{K:Aa}{v:V}(W:aM K ρ B U H)(r:au K ρ B H d v)(h:tH d U=some (ds,b)):U=b/\∃p xs,v=.ref p/\SqL K H p xs/\ak K ρ B H ds xs:=by
  cases d with
  |lst xs=>obtain⟨rfl,rfl⟩:=Qk h;obtain⟨a,ys,rfl,_,j,l⟩:=r.bK;exact⟨rfl,a,ys,rfl,j,l⟩
  |ref n =>
    obtain⟨o,hp1,e,c⟩:=Qf (show(ZF n >>= λo=>(match o with|.lst ds=>pure ds|_=>failure:M (List DV))) U=some (ds,b)from h);obtain⟨f,rfl⟩:=ZB e;cases o with
    |lst m=>obtain⟨rfl,rfl⟩:=Qk c;obtain⟨a,rfl,_,ys,h1,i⟩:=au.aY W r f;exact⟨rfl,a,ys,rfl,SqL.of h1,i⟩
    |aB _=>cases c
    |ins _ _=>cases c
  |non=>cases h
  |bl _=>cases h
  |int _=>cases h
  |str _=>cases h
  |tup _=>cases h
end
end D
namespace L2
open PySem PySem.Spec PyProof.Rows
theorem QaG:typeLookup (.type "zip") "__len__" = pure none:=am_miss_of_fast (by decide +kernel)
theorem ko:typeLookup (.type "zip") "__length_hint__" = pure none:=am_miss_of_fast (by decide +kernel)
section
variable{X:Cx}{O9:Ek}{σ:L2.St}
def rY(H0 H:Hp)(xs ys:List V)(b:List V):Prop:=∀(m:Nat)(t:V),b[m]?=some t->∃(a:Addr)(x y:V),t=.ref a/\xs[m]?=some x/\ys[m]?=some y/\H0 a=none/\H a=some (.tup [x,y])
theorem He{A:Around}{R:Result->Shared->Prop}{H0:Hp}{z p o i j a b S:Addr}{res:Value}(hh:A.handled=none)(D:ZA z p o i j a b)(qa:SqT X.K H0 a xs)(qb:SqT X.K H0 b ys)(ab:H0 S=none)(Di:S∉[z,p,o,i,j]):
    ∀(k n : Nat)(s : Shared)(H : Hp)(r : List V), min xs.length ys.length-n = k -> n <= min xs.length ys.length -> Inv X O9 σ H s -> (∀c ∈ [z, p, o, i, j], Vt X O9 H c) -> ZU s.heap z p o i j a b n -> (∀c q, H0 c = some q -> H c = some q) ->
      H S=some (.lst r)->r.length=n->rY H0 H xs ys r ->
      (∀(s':Shared)(Y:Hp)(J:List V),Inv X O9 σ Y s'->(∀c q,H0 c=some q->Y c=some q)->Y S=some (.lst J)->J.length=min xs.length ys.length->rY H0 Y xs ys J->R (.ok (.ret res)) s') ->
    codeAny (model X.prog X.w) A (.builtin "list.extend.loop" ⟨[.ref S,.ref z,res],[]⟩) R s:=by
  intro k;induction k with
  |zero =>
    intro n s H r hk hn I hf Z kp hS hl hP hR;have U:∀{c:Addr}{vs:List V},SqT X.K H0 c vs->SqT X.K H c vs:=λ{c vs} q=>by
      rcases q with q|q
      . exact .inl (by rcases q with q|⟨oo,q⟩;exact .inl (kp _ _ q);exact .inr ⟨oo,kp _ _ q⟩)
      . exact .inr q
    obtain⟨ia,ra,pa,_⟩:=I.tuple (U qa);obtain⟨ib,rb,pb,_⟩:=I.tuple (U qb);have l1:=ra.length;have l2:=rb.length;obtain⟨f0,nQ,fu,lK⟩:=Z.zz;have P:s.TypeIs (.ref z) "zip" := ⟨_,fu,rfl⟩;refine codeAny_builtin F.entry_extend_loop ?_;rw[Around.under_plainId F.plain_extend_loop _];show wpAny _ A.in1 (pyNext (.ref z) >>= _) _ _ s;refine C9 ?_;unfold pyNext;refine C9 (wpAny_attempt (wpAny_callSpecial?_slot (name:=Str.ofString "__next__") P F.slot_zip_next (wpAny_call_entry F.slot_zip_next P F.entry_zip_next
      (Lr (by exact hh) D Z (show s.heap.IsTuple a ia.toArray from pa) (show s.heap.IsTuple b ib.toArray from pb) (by rcases Nat.le_total xs.length ys.length with q|q;exact .inl (by simp;lia);exact .inr (by simp;lia)) λg x C hx=>?_) (F.args_zip_next_1 _))))
    obtain⟨ox,h1,h2⟩:=hx;refine C9 (wpAny_isInstance (T := "StopIteration") (b:=true) ⟨ox,h1,h2⟩ isSubtype_stop ?_);refine Ec ?_;refine Ec (hR _ H r (I.lW (t':=s.toks) hf λc q l e=>?_) kp hS ⋯ hP);simp only[Bk,Cf,or_false,not_or]at l;exact C c q l.1 l.2.2.1 l.2.2.2.1 l.2.2.2.2 e
  |succ k ih =>
    intro n s H r hk hn I hf Z kp hS hl hP hR;have U:∀{c:Addr}{vs:List V},SqT X.K H0 c vs->SqT X.K H c vs:=λ{c vs} q=>by
      rcases q with q|q
      . exact .inl (by rcases q with q|⟨oo,q⟩;exact .inl (kp _ _ q);exact .inr ⟨oo,kp _ _ q⟩)
      . exact .inr q
    obtain⟨ia,ra,pa,za⟩:=I.tuple (U qa);obtain⟨ib,rb,pb,_⟩:=I.tuple (U qb);have hx:xs[n]?=some xs[n]:=Ab ⋯;have hy:ys[n]?=some ys[n]:=Ab ⋯;obtain⟨u,hu,ru⟩:=ra.get hx;obtain⟨v,hv,rv⟩:=rb.get hy;obtain⟨f0,nQ,fu,lK⟩:=Z.zz;have P:s.TypeIs (.ref z) "zip" := ⟨_,fu,rfl⟩;refine codeAny_builtin F.entry_extend_loop ?_;rw[Around.under_plainId F.plain_extend_loop _];show wpAny _ A.in1 (pyNext (.ref z) >>= _) _ _ s;refine C9 ?_;unfold pyNext;refine C9 (wpAny_attempt (wpAny_callSpecial?_slot (name:=Str.ofString "__next__") P F.slot_zip_next (wpAny_call_entry F.slot_zip_next P F.entry_zip_next
      (Ls D Z (show s.heap.IsTuple a ia.toArray from pa) (show s.heap.IsTuple b ib.toArray from pb) (by simpa using hu) (by simpa using hv) λg' S' tp sz pY=>Ec ?_) (F.args_zip_next_1 _))))
    have C:∀c q,c∉[z,p,o,i,j]->s.heap.get? c=some q->g'.get? c=some q:=λc q l e=>by simp only[Bk,Cf,or_false,not_or]at l;exact pY c q l.1 l.2.2.1 l.2.2.2.1 l.2.2.2.2 e
    have ne:∀c∈[z,p,o,i,j],c≠s.heap.objs.size:=λc l e=>by
      obtain⟨_,pp,⟨u1,u2,oo⟩,⟨oi,ei,_⟩,⟨oj,ej,_⟩⟩:=Z;simp only[Bk,Cf,or_false]at l;rcases l with rfl|rfl|rfl|rfl|rfl
      . exact Bf (Ap fu) e
      . exact Bf (Ap pp) e
      . exact Bf (Ap oo) e
      . exact Bf (Ap ei) e
      . exact Bf (Ap ej) e
    have fr:=I.fresh;have I1:=I.fU (t':=s.toks) hf C (us:=[u,v]) (.cons ru (.cons rv .nil)) (show 2<=sizeLine by decide) ⟨_,tp,rfl,_,rfl⟩;have Dj:S≠s.heap.objs.size:=λe=>by rw[e,fr]at hS;cases hS
    have O:upd H s.heap.objs.size (.tup [xs[n],ys[n]]) S=some (.lst r):=by rw[QO Dj];exact hS
    obtain⟨zl,av,c,vl,ll,e1⟩:=I1.lstM O;have ae:(r++[V.ref s.heap.objs.size]).length<=sizeLine:=by rw[An];simp;lia
    have I2:=I1.lset (t':=s.toks) (its':=av++[.ref s.heap.objs.size]) (f:=(·.push (.ref s.heap.objs.size))) O e1 (by simp) (vl.append (.cons (show RelV (V.ref s.heap.objs.size) (Value.ref s.heap.objs.size)from rfl) .nil)) ae;show wpAny _ A.in1 (updateSeq S (·.push (.ref s.heap.objs.size)) >>= _) _ _ _;refine C9 ?_;refine wpAny_updateSeq (s:={ s with heap:=g' }) e1 rfl (Ec ⟨plainId_quiet F.plain_extend_loop _,ih (n+1) _ _ (r++[.ref s.heap.objs.size]) ⋯ ⋯ I2 (λc l=>?_) (S'.at λc l q e=>?_) (λc q e=>?_) Q3 (by rw[An];simp;lia) ?_ hR⟩) (by simp;lia) (by simp;lia)
    . have f:=hf c l
      refine⟨?_,f.2⟩;rw[QO (show c≠S from λe=>Di (e▸l)),QO (ne c l)];exact f.1
    . exact(Heap.get?_update_other _ _ (λh:S=c=>Di (h▸l))).trans e
    . rw[QO (λz=>by rw[z,ab]at e;cases e),QO (λz=>by have:=kp c q e;rw[z,fr]at this;cases this)];exact kp c q e
    . intro m t L
      by_cases hm:m<r.length
      . rw[Ah hm]at L
        obtain⟨aa,x,y,r1,r2,r3,r4,Q⟩:=hP m t L;refine⟨aa,x,y,r1,r2,r3,r4,?_⟩;rw[QO (λz=>by rw[z,hS]at Q;cases Q),QO (λz=>by rw[z,fr]at Q;cases Q)];exact Q
      . rw[Aq ⋯]at L
        have m0:m-r.length=0:=by have:=(Ac.mp L).1;simp at this;lia
        rw[m0]at L;cases L;have mn:m=n:=⋯
        subst mn;refine⟨_,_,_,rfl,hx,hy,?_,?_⟩
        . cases q:H0 s.heap.objs.size with
          |none=>rfl
          |some w=>rw[kp _ _ q]at fr;cases fr
        . rw[QO (Ne.symm Dj),Q3]
theorem Hk{s:Shared}{E:Ej}{Q:Ej}{z p o i j a b:Addr}{xs ys:List V}(I:Inv X O9 σ H s)(l:X.calm=true)(D:ZA z p o i j a b)(Z:ZU s.heap z p o i j a b 0)(hf:∀c∈[z,p,o,i,j],Vt X O9 H c)
  (qa:SqT X.K H a xs) (qb:SqT X.K H b ys) (q:∀(s':Shared)(n:Hp)(y:List V),Inv X O9 σ n s'->(∀c q,H c=some q->n c=some q)->n s.heap.objs.size=some (.lst y)->y.length=min xs.length ys.length->rY H n xs ys y->Q (.ref s.heap.objs.size) s') :
  wpAny (model X.prog X.w) X.A (call (.type "list") [.ref z]) Q E s:=by
 have hh:=I.ok.hd l;have x:∀c∈[z,p,o,i,j],c<s.heap.objs.size:=λc l=>by
  obtain⟨⟨Y,nQ,v,lK⟩,pp,⟨u1,u2,oo⟩,⟨oi,R,_⟩,⟨oj,U,_⟩⟩:=Z;simp only[Bk,Cf,or_false]at l;rcases l with rfl|rfl|rfl|rfl|rfl
  ·exact Ap v
  ·exact Ap pp
  ·exact Ap oo
  ·exact Ap R
  ·exact Ap U
 refine callType_codes (Q₁:=λobj s₁=>obj=.ref s.heap.objs.size/\s₁={ s with heap:=s.heap.push { cls:=.type "list", data:=.seq #[] } }) F.called_list (F.typeCall_list_1 _) F.entry_list_init
  (code_list_new _ ⟨rfl,rfl⟩) λobj s₁ h₁=>?_
 obtain⟨rfl,rfl⟩:=h₁;have hS:(s.heap.push { cls:=.type "list", data:=.seq #[] }).get? s.heap.objs.size=some { cls:=.type "list", data:=.seq #[] }:=Av _ rfl;refine⟨⟨_,hS,rfl⟩,F.args_list_init_2 _ _,?_⟩;show wpAny _ _ (do let old <- Builtin.List.listItems (.ref s.heap.objs.size);Builtin.List.listUpdate (.ref s.heap.objs.size) (λ_=>#[]);letGo old.toList.reverse;Builtin.List.listExtendWith (.ref s.heap.objs.size) (.ref z) .none) _ _ _;refine C9 ?_;unfold Builtin.List.listItems;refine C9 (wpAny_seqItems hS rfl (Ec ?_));show wpAny _ _ (updateSeq s.heap.objs.size (λ_=>#[]) >>= λ_=>letGo (#[]:Array Value).toList.reverse >>= λ_=>Builtin.List.listExtendWith (.ref s.heap.objs.size) (.ref z) .none) _ _ _;refine C9 (wpAny_updateSeq hS rfl ?_);have hS₁:=Heap.get?_update_self (Obj.mapSeq (λ_=>(#[]:Array Value))) hS rfl;refine C9 (wpAny_letGo ?_);have L:z≠s.heap.objs.size:=Bf (x z (by simp));obtain⟨Y,nQ,v,lK⟩:=Z.zz;have P:((s.heap.push { cls:=.type "list", data:=.seq #[] }).update s.heap.objs.size (Obj.mapSeq λ_=>(#[]:Array Value))).get? z=_:=(Heap.get?_update_other _ _ (Ne.symm L)).trans (Ad _ v);have r:∀(s':Shared),s'.heap=(s.heap.push { cls:=.type "list", data:=.seq #[] }).update s.heap.objs.size (Obj.mapSeq λ_=>(#[]:Array Value))->s'.TypeIs (.ref z) "zip" := λs' e=>⟨_,by rw[e];exact P,rfl⟩;unfold Builtin.List.listExtendWith;refine C9 (wpAny_typeOf (r _ rfl) ?_);have h1:Builtin.List.listSameRef (.ref s.heap.objs.size) (.ref z)=false:=by simp[Builtin.List.listSameRef,Ne.symm L]
 have h2:(Value.type "zip" == Value.type "list")=false:=by decide
 have h3:(Value.type "zip" == Value.type "tuple")=false:=by decide
 simp only[h1,h2,h3,Bool.or_false,Az,if_false];refine C9 (wpAny_pyIter_slot (r _ rfl) F.slot_zip_iter (wpAny_call_entry F.slot_zip_iter (r _ rfl) F.entry_zip_iter (Ec ⟨_,rfl, "zip", _,r _ rfl,(F.slot_zip_next).1,?_⟩) (F.args_zip_iter_1 _)));refine C9 (wpAny_holding ?_);unfold Builtin.List.listLengthHint;refine C9 (wpAny_specialOf (r _ rfl) QaG ?_);show wpAny _ _ (specialOf (Value.ref z) (Str.ofString "__length_hint__") >>= _) _ _ _;refine C9 (wpAny_specialOf (r _ rfl) ko ?_);refine Ec ?_;show wpAny _ _ (rule "list.extend.makes-room" >>= λ_=>Builtin.List.listTouch (.ref s.heap.objs.size) >>= λ_ =>
  again (.builtin "list.extend.loop" ⟨[.ref s.heap.objs.size,.ref z,.none],[]⟩)) _ _ _
 refine C9 (wpAny_rule ?_);refine C9 ?_;show wpAny _ _ (updateSeq s.heap.objs.size (·.push .none) >>= λ_=>updateSeq s.heap.objs.size (·.pop)) _ _ _;refine C9 (wpAny_updateSeq hS₁ rfl ?_);have hS₂:=Heap.get?_update_self (Obj.mapSeq (·.push Value.none)) hS₁ rfl;refine wpAny_updateSeq (hz:=by seq_fits) hS₂ rfl ?_;have hS₃:=Heap.get?_update_self (Obj.mapSeq (·.pop)) hS₂ rfl;have kept:∀c u,s.heap.get? c=some u->((((s.heap.push { cls:=.type "list", data:=.seq #[] }).update s.heap.objs.size (Obj.mapSeq λ_=>(#[]:Array Value))).update s.heap.objs.size (Obj.mapSeq (·.push Value.none))).update s.heap.objs.size (Obj.mapSeq (·.pop))).get? c=some u:=λc u e=>by have ne:s.heap.objs.size≠c:=Ne.symm (Bf (Ap e));exact(Heap.get?_update_other _ _ ne).trans ((Heap.get?_update_other _ _ ne).trans ((Heap.get?_update_other _ _ ne).trans (Ad _ e)))
 have O:=I.laid (a:=s.heap.objs.size) (o:=.lst []) (t':=s.toks) kept (Ae _) ⟨by simp,[],_,.nil,hS₃⟩;refine Ec ⟨plainId_quiet F.plain_extend_loop _,He (H0:=H) (by exact hh) D qa qb I.fresh (λhm=>Cy _ (x _ hm)) _ 0 _ _ [] rfl (Be _) O (λc l=>?_) (Z.at λc l u e=>kept c u e) (λc u e=>?_) Q3 rfl (λm t ht=>by simp at ht) λs' n C J k1 k2 k3 k4=>⟨rfl,q s' n C J k1 k2 k3 k4⟩⟩
 ·have f:=hf c l;refine⟨?_,f.2⟩;rw[QO (Bf (x c l))];exact f.1
 ·rw[QO (λz=>by rw[z,I.fresh]at e;cases e)];exact e
end
section
variable{X:Cx}
theorem Sa{p p' pos f:Pos}(nM:Gl X "list")(u:X.mg "list" = none)(U:Gl X "zip")(Y:X.mg "zip" = none)(R:X.calm=true)(P:PA X [x,y] ta)
    (hs:starEach [x,y] X.env=[(false,eval x X.env),(false,eval y X.env)]:=by rfl) (hs2:starEach [y] X.env=[(false,eval y X.env)]:=by rfl) (hs3:starEach [.Call (.Name "zip" p') [x,y] [] f] X.env=[(false,eval (.Call (.Name "zip" p') [x,y] [] f) X.env)]:=by rfl) :
    PE X (.Call (.Name "list" p) [.Call (.Name "zip" p') [x,y] [] f] [] pos) (λσ H Q=>ta σ H λvs m=>∃a b xs ys,vs=[.ref a,.ref b]/\SqT X.K m a xs/\SqT X.K m b ys /\
      ∀(l:Addr)(t:Hp)(n:List V),m l=none->(∀c q,m c=some q->t c=some q)->t l=some (.lst n)->n.length=min xs.length ys.length->rY m t xs ys n->Q (.ref l) t):=by
  intro O s σ H Q I h;refine wpAny_Call_Name_kw (xc I nM u boot_list ?_);refine PyProof.Rows.callWith_type1 ?_ hs3 rfl;rw[hs3];show wpAny _ _ (spliced ((false,eval (.Call (.Name "zip" p') [x,y] [] f) X.env)::[])) _ _ s;refine Calls.spliced_cons (Call_ (xc I U Y boot_zip (PyProof.Rows.callWith_type1 (thn (P f O s σ H _ I h) λus s1 ⟨vs,m,I1,r1,q1⟩=>?_) (by rw[hs,hs2]) (by rw[hs2];rfl))));obtain⟨a,b,xs,ys,e,F,J,q⟩:=q1;subst e;cases r1 with
  |cons r v =>
    cases v with
    |cons r' v=>cases v;cases r;cases r';refine Hq I1 F J λs2 z pp o i j I2 D Z hf=>Calls.spliced_nil ?_;refine Hk I2 R D Z hf F J λs3 C n L k1 k2 k3 k4=>⟨.ref s2.heap.objs.size,C,L,rfl,q _ C n I2.fresh k1 k2 k3 k4⟩
end
end L2
namespace D
open PySem PySem.Spec PyProof.Rows L2
theorem ak.of_get{K:Aa}:∀{ds:List DV}{a:List V},ds.length=a.length->(∀(m:Nat)(d:DV)(t:V),ds[m]?=some d->a[m]?=some t->au K ρ B H d t)->ak K ρ B H ds a
  | [],[],_,_=>by unfold ak;rfl
  | [],_::_,h,_=>by cases h
  |_::_,[],h,_=>by cases h
  |d::ds,t::a,h,f=>by unfold ak;exact⟨t,a,rfl,f 0 d t rfl rfl,ak.of_get (Nat.succ.inj h) λm x y h1 h2=>f (m+1) x y h1 h2⟩
theorem Gr.more{K:Aa}{H H':Hp}(kp:∀c q,H c=some q->H' c=some q):Gr K ρ B H ρ B H' :=
 ⟨Cm,λ_ h=>h,λ_ h=>.inl h,λ_ z=>.inl z,λa o _ h=>kp a o h,λa q=>by
  cases e:H a with
  |none=>rfl
  |some o=>rw[kp a o e]at q;cases q⟩
theorem aM.more{K:Aa}{H H':Hp}(W:aM K ρ B U H)(kp:∀c q,H c=some q->H' c=some q):aM K ρ B U H' where
 len:=W.len
 nd:=W.nd
 obj:=λi a u e q=>by
  refine bf.gs ((Gr.more kp).gs W.rb) ?_ (W.obj i a u e q);have:=W.bt a (W.rb a (Aw e));cases z:H a with
  |none=>exact absurd z this
  |some o=>exact kp a o z
 rb:=W.rb
 bt:=λa h z=>by
  have:=W.bt a h;cases y:H a with
  |none=>exact this y
  |some o=>rw[kp a o y]at z;cases z
 bk:=W.bk
section
variable{X:Cx}{f g:aF}
end
section
variable{X:Cx}{e:Expr}{f:aF}{pos:Pos}
def uB(f g:aF):aF:=λenv=>do
 let ds <- uP f g env
 X0 (.lst ds)
def h_(H:Hp)(l:Addr):Hp:=λa=>if a=l then none else H a
theorem SA{H:Hp}{l:Addr}(h:H l=some o):upd (h_ H l) l o=H:=by
 funext a;by_cases e:a=l
 ·subst e;rw[Q3,h]
 ·rw[QO e];unfold h_;rw[Ea e]
theorem Qe7{p p' pos h:Pos}(o:X.mg "list" = none)(hm:X.mg "zip" = none)(hc:X.calm=true)(hx:DE X x f)(hy:DE X y g)(nM:Gl X "list" := by rfl)(hg:Gl X "zip" := by rfl)
  (hs:starEach [x,y] X.env=[(false,eval x X.env),(false,eval y X.env)]:=by rfl) (hs2:starEach [y] X.env=[(false,eval y X.env)]:=by rfl) (hs3:starEach [.Call (.Name "zip" p') [x,y] [] h] X.env=[(false,eval (.Call (.Name "zip" p') [x,y] [] h) X.env)]:=by rfl) :
  DE X (.Call (.Name "list" p) [.Call (.Name "zip" p') [x,y] [] h] [] pos) (uB f g) :=
 L2.PE.imp (Sa nM o hg hm hc (Yf hx (Yf hy pa_nil (by rw[hs2];rfl)) (by rw[hs,hs2])) hs hs2 hs3).kf λσ H Q aK=>by
  obtain⟨Z,env,ρ,B,U,d,ab,S,e,k⟩:=aK;obtain⟨ds,hp0,i,e⟩:=Qf e;cases e;obtain⟨d1,hp1,e1,i⟩:=Qf i;obtain⟨xs,ae,e2,i⟩:=Qf i;obtain⟨rfl,rfl⟩:=Yk e2;obtain⟨d2,av,e3,i⟩:=Qf i;obtain⟨ys,cZ,e4,i⟩:=Qf i;obtain⟨rfl,rfl⟩:=Yk e4;obtain⟨rfl,rfl⟩:=Qk i;refine tD.run S e1 λv ρ1 B1 H1 g1 S1 r1=>tD.run S1 e3 λu ρ2 B2 C g2 S2 r2=>?_;obtain⟨a,vs,rfl,na,qa,P⟩:=(au.grow S1.wo.rb g2 _ _ r1).tupI;obtain⟨b,us,rfl,nb,qb,R⟩:=r2.tupI;refine⟨a,b,vs,us,rfl,qa,qb,λl H' j hn kp n len pr kf=>?_⟩;have lf:(h_ H' l) l=none:=by unfold h_;rw[Eb rfl]
  have O:X.K.lookup l=none:=kf l _ n;have pY:∀c q,C c=some q->(h_ H' l) c=some q:=λc q e=>by unfold h_;rw[Ea (λz=>by rw[z,hn]at e;cases e)];exact kp c q e
  have F:=S2.wo.more pY;have g3:Gr X.K ρ2 B2 C ρ2 B2 (h_ H' l):=Gr.more pY;have g4:Gr X.K ρ2 B2 (h_ H' l) (ρ2++[l]) (jW B2 l) (upd (h_ H' l) l (.lst j)):=Gr.dh lf O;have rl:ak X.K ρ2 B2 (h_ H' l) (qY xs ys) j:=ak.of_get (by rw[Km,P.length,R.length];exact len.symm) λm d t h1 h2=>by
   obtain⟨x',y',q1,q2,rfl⟩:=Kl h1;obtain⟨u',hu,ru⟩:=P.get q1;obtain⟨v',hv,rv⟩:=R.get q2;obtain⟨J,x2,y2,rfl,Y,p2,p3,r⟩:=pr m t h2;rw[hu]at Y;cases Y;rw[hv]at p2;cases p2;have p5:(h_ H' l) J=some (.tup [u',v']):=by unfold h_;rw[Ea (λz=>by rw[z,n]at r;cases r)];exact r
   exact qP (λz=>S2.wo.bt J z p3) (SqT.of p5) (ak.gs (g3.gs S2.wo.rb) _ _ (ak.cons ru (ak.one rv)))
  have oR:bf X.K (ρ2++[l]) (jW B2 l) (upd (h_ H' l) l (.lst j)) l (.lst (qY xs ys)):=⟨j,Q3,ak.gs (g4.gs F.rb) _ _ rl⟩;have I:=F.dh lf O oR;have L:=(g1.trans g2).trans (g3.trans g4);rw[SA n]at I L;refine k _ _ _ _ L I ?_;unfold au;exact⟨l,rfl,by rw[<- S2.wo.len];simp⟩
end
structure UF(K:Aa)(mg:Em)(x:Str)(st:Stmt):Prop where
 ex:∃g fd,Fun K x x st g fd/\mg x=some (.ref g)
structure UC(K:Aa)(c:Str):Prop where
 ex:∀C,bJ K c C->Cls K C
structure UM(K:Aa)(c m q:Str)(st:Stmt):Prop where
 ex:∃C g fd,Fun K m q st g fd/\bJ K c C/\Cls K C/\kr K C m g
structure UI(K:Aa)(mg:Em)(c q:Str)(st:Stmt):Prop where
 ex:∃C g fd,Fun K "__init__" q st g fd/\bJ K c C/\mg c=some (.ref C)/\Mk K C g
structure UG(mg:Em)(x:Str)(i:Int):Prop where
 ex:∃t,mg x=some (.int i t)
structure UT(K:Aa)(mg:Em)(x:Str)(d:DV):Prop where
 ex:∃a,mg x=some (.ref a)/\bA K d (.ref a)
section
variable{K:Aa}{h:Heap}{mg:Em}{f C:Addr}{x c m q:Str}{st:Stmt}{oc:Value}{od an:Option Addr}{osl:Array (Option Value)}{kV doc pm cdv ct:Value}{i:Int}{t:Tok}{d:DV}{a:Addr}
def uf(X:K.In h)(G:h.Ns mainGlobals mg)(n:PySem.W.nsIn K mainGlobals x=some (some (.ref f)))(l:K.lookup f=some ⟨oc,od,.func (PySem.W.fnOf x x (JW st) (ZK st) (Qo st) .none kV doc pm an cdv ct),osl⟩)(e:PySem.W.codeIn K cdv x=true)(k:PySem.W.keepIn K (.ref f)=true):UF K mg x st:=⟨_,_,G0 l e k,PySem.W.mg_of X G n⟩
theorem uc(X:K.In h)(n:PySem.W.nsIn K mainGlobals c=some (some (.ref C)))(p:PySem.W.plainGet K C Str.empty=true)(e:PySem.W.hasDictIn K C=true)(o:PySem.W.plainOver K C=true)(s:PySem.W.findIn K (.ref C) "__setattr__" = some (some (.builtin "object.__setattr__"))):UC K c:=⟨λj b=>by cases bJ.uniq (show bJ K c C from n) b;exact⟨p,e,o,s⟩⟩
def um(X:K.In h)(u:UC K c)(n:PySem.W.nsIn K mainGlobals c=some (some (.ref C)))(a:PySem.W.findIn K (.ref C) m=some (some (.ref f)))(b:PySem.W.isFn K (.ref f)=true)(l:K.lookup f=some ⟨oc,od,.func (PySem.W.fnOf m q (JW st) (ZK st) (Qo st) .none kV doc pm an cdv ct),osl⟩)(e:PySem.W.codeIn K cdv q=true)(k:PySem.W.keepIn K (.ref f)=true):UM K c m q st:=⟨_,_,_,G0 l e k,n,u.ex _ n,a,b,k⟩
def ui(X:K.In h)(G:h.Ns mainGlobals mg)(n:PySem.W.nsIn K mainGlobals c=some (some (.ref C)))(a:PySem.W.findIn K (.ref C) "__init__" = some (some (.ref f)))(b:PySem.W.isFn K (.ref f)=true)(l:K.lookup f=some ⟨oc,od,.func (PySem.W.fnOf "__init__" q (JW st) (ZK st) (Qo st) .none kV doc pm an cdv ct),osl⟩)(e:PySem.W.codeIn K cdv q=true)(k:PySem.W.keepIn K (.ref f)=true)(v:PySem.W.makesIn K C=true)(z:PySem.W.keepIn K (.ref C)=true):UI K mg c q st:=⟨_,_,_,G0 l e k,n,PySem.W.mg_of X G n,v,a,b,z⟩
def uk(X:K.In h)(u:UC K c)(n:PySem.W.nsIn K mainGlobals c=some (some (.ref C)))(a:PySem.W.findIn K (.ref C) x=some none):qE K c x:=⟨C,n,u.ex _ n,a⟩
def ug(X:K.In h)(G:h.Ns mainGlobals mg)(n:PySem.W.nsIn K mainGlobals x=some (some (.int i t))):UG mg x i:=⟨_,PySem.W.mg_of X G n⟩
def ut(X:K.In h)(G:h.Ns mainGlobals mg)(n:PySem.W.nsIn K mainGlobals x=some (some (.ref a)))(r:bA K d (.ref a)):UT K mg x d:=⟨_,PySem.W.mg_of X G n,r⟩
theorem Zd{N ps:List Str}{s:Scope}(h:(s.kind==.function&&!s.isCoroutine&&!s.isGenerator&&decide N.Nodup&&decide (N.take ps.length=ps)&&ps.all (λx=>decide (s.names.lookup x=some .local)||decide (s.names.lookup x=some .cell))&&s.names.all λy=>decide (y.2≠.free))=true:=by decide +kernel):Qv N ps s:=by simp only[Bc,Cq,decide_eq_true_eq,List.all_eq_true,Bool.or_eq_true]at h;obtain⟨⟨⟨⟨⟨⟨a,b⟩,c⟩,d⟩,e⟩,f⟩,g⟩:=h;refine⟨?_,b,c,d,e,f,λy j=>by have:=g y j;simpa using this⟩;revert a;cases s.kind<;>first|(intro _;rfl)|(intro z;exact absurd z (by decide))
end
section
variable{P:Program}{w:World}{K:Aa}{mg:Em}{O8:Heap}{x c m q:Str}{st:Stmt}{N ps:List Str}{k:Nat}{body:aD}
def Bn(ps:List Str)(x q:Str)(st:Stmt):Prop:=∀(kV b f:Value)(e:Option Addr)(a ct:Value)(us:List Value),us.length=ps.length->bindArgs (PySem.W.fnOf x q (JW st) (ZK st) (Qo st) .none kV b f e a ct) ⟨us,[]⟩=pure (ps.zip us)
def Bd(P:Program)(w:World)(K:Aa)(mg:Em)(O8:Heap)(N:List Str)(k:Nat)(q:Str)(st:Stmt)(body:aD):Prop:=∀(g:Addr)(a:Value)(A:Around)(outer:List Env)(s:Shared)(H:Hp)(E:XK),Room k (A.deeper (envOfC q (Qo st) s.heap.objs.size g a))->fY (Vx CX0 P w K mg O8 N q (Qo st) g a A outer s H E).nox (ZK st) body
theorem hf(u:UF K mg x st)(a:Qv N ps (Qo st))(h:N.Nodup->Bd P w K mg O8 N k x st body:=by intro s _ _ _ _ _ _ _ i;trivial)(b:Bn ps x x st:=by intro _ _ _ _ _ _ us e;rcases us with _|⟨_,_|⟨_,_|⟨_,_|⟨_,_|⟨_,_|⟨_,_⟩⟩⟩⟩⟩⟩<;>first|rfl|cases e):Has P w K mg O8 x (k+1) ps.length (Zb N.length body):=let ⟨_,_,F,f⟩:=u.ex;Hy F a f b (h a.nd _)
theorem hM(u:UM K c m q st)(a:Qv N ps (Qo st))(h:N.Nodup->Bd P w K mg O8 N k q st body:=by intro s _ _ _ _ _ _ _ l;trivial)(e:Bn ps m q st:=by intro _ _ _ _ _ _ us f;rcases us with _|⟨_,_|⟨_,_|⟨_,_|⟨_,_|⟨_,_|⟨_,_⟩⟩⟩⟩⟩⟩<;>first|rfl|cases f):XR P w K mg O8 c m (k+1) ps.length (Zb N.length body):=let ⟨_,_,_,F,j,b,i⟩:=u.ex;QdP j b i F a e (h a.nd _)
theorem hI(u:UI K mg c q st)(a:Qv N ps (Qo st))(h:N.Nodup->Bd P w K mg O8 N k q st body:=by intro s _ _ _ _ _ _ _ l;trivial)(b:Bn ps "__init__" q st:=by intro _ _ _ _ _ _ us e;rcases us with _|⟨_,_|⟨_,_|⟨_,_|⟨_,_|⟨_,_|⟨_,_⟩⟩⟩⟩⟩⟩<;>first|rfl|cases e):pH P w K mg O8 c (k+1) ps.length (Zb N.length body):=let ⟨_,_,_,F,j,f,i⟩:=u.ex;Qdy j f i F a b (h a.nd _)
end
section
variable{X:Cx}
def o7:DV->DV->M DV:=λx y=>match y with
  |.lst []=>do
    let ds <- tH x
    pure (.bl ds.isEmpty)
  |_=>failure
theorem Qdm{x y d:DV}(h:o7 x y U=some (d,hp')):∃ds,y=.lst []/\tH x U=some (ds,hp')/\d=.bl ds.isEmpty:=by
 unfold o7 at h;split at h
 ·obtain⟨ds,hp1,a,b⟩:=Qf h;obtain⟨rfl,rfl⟩:=Qk b;exact⟨ds,rfl,a,rfl⟩
 ·cases h
theorem W6(hu:X.A.units+64<cLine):P2 X (compareOp .Eq) o7:=by
  intro P s σ H x y v u Q I rx ry h;obtain⟨ρ,B,U,Y,dy,d,q,W,F,J,e,k⟩:=h;obtain⟨ds,rfl,o,rfl⟩:=Qdm e;obtain⟨rfl,p,xs,rfl,O,L⟩:=Dp W F o;obtain⟨b,ys,rfl,_,m,f⟩:=J.bK;unfold ak at f;subst f;cases rx;cases ry;obtain⟨a,z,pl,z1⟩:=I.list O;obtain⟨r,C,l,z2⟩:=I.list m;cases C;have i:=L.length;have t:=z.length;have u0:X.A.units<cLine:=⋯
  cases hd:ds with
  |nil=>subst hd;have n:a=[]:=List.eq_nil_of_length_eq_zero (by simp at i;lia);subst n;have R:=SeqAt.RcAt.lists (e:=λ_=>true) pl.isList l.isList rfl u0 (λj h1=>by simp at h1);exact R X.prog X.w _ _ ⟨.bl _,H,I,rfl,k _ ρ B H Gr.refl W Ja⟩
  |cons d c =>
    subst hd;have hz:(a.toArray.size != ([]:List Value).toArray.size)=true:=by
      have e:a.length=c.length+1:=by rw[<- t,<- i];rfl
      simp;intro h;rw[h]at e;simp at e
    have R:=SeqAt.RcAt.lists_lengths pl.isList l.isList hz u0;exact R X.prog X.w _ _ ⟨.bl _,H,I,rfl,k _ ρ B H Gr.refl W Ja⟩
end
section
variable{X:Cx}
end
section
variable{P:Program}{w:World}{K:Aa}{mg:Em}{O8:Heap}{x:Str}{st:Stmt}{N ps:List Str}{k:Nat}{body:aD}
theorem Rg(u:UF K mg x st)(a:Qv N ps (Qo st))(h:N.Nodup->Bd P w K mg O8 N k x st body:=by intro s _ _ _ _ _ _ _ f;trivial)(b:Bn ps x x st:=by intro _ _ _ _ _ _ us c;rcases us with _|⟨_,_|⟨_,_|⟨_,_|⟨_,_|⟨_,_|⟨_,_|⟨_,_⟩⟩⟩⟩⟩⟩⟩<;>first|rfl|cases c):Has P w K mg O8 x (k+1) ps.length (Zb N.length body):=let ⟨_,_,F,e⟩:=u.ex;Hy F a e b (h a.nd _)
end
section
variable{X:Cx}
theorem Z7{x:Str}{i:Int}{pos:Pos}(u:UG X.mg x i)(a:Gl X x:=by rfl)(hd:(x==("__debug__" : Str))=false:=by decide):DE X (.Name x pos) (eC (.int i)):=let ⟨_,h⟩:=u.ex;Qe4 a h hd
end
section
variable{env aR:En}{U hp1:Hs}{f g:aD}{c:bO}{r:Option ((Fl×En)×Hs)}
def Qr(h:f env U=some ((.nx,aR),hp1))(k:g aR hp1=r):Qq f g env U=r:=(qQ h).trans k
def Wz(h:c env U=some (false,hp1))(k:g env hp1=r):aL c f g env U=r:=(Hv h).trans k
def ZP(h:c env U=some (true,hp1))(k:f env hp1=r):aL c f g env U=r:=(BG h).trans k
def Za(h:c env U=some (false,hp1)):aL c f Q6 env U=some ((.nx,env),hp1):=Hv h
def Zw{α:Type}{xs:List α}{i:Nat}{x:α}(h:xs[i]?=some x):i<xs.length:=(Ac.mp h).1
def zG{α:Type}{xs ys:List α}{i:Nat}{x:α}(h:xs[i]?=some x):(xs++ys)[i]?=some x:=(Ah (Zw h)).trans h
end
end D
namespace K24
open PySem PySem.Spec PyProof.Rows L2 D
def top (i:Nat):Stmt:=PySem.Challenge.pw_sidelink_k24_whole_moments_fit.main.body.getD i (.Pass ⟨0,0,0,0⟩)
abbrev jO:Stmt:=Zv (top 27) 8
def jD:aD:=QF (ZO Yw (Qc (QN "Shelf" "kept" (Qb 0)) (Ql)))
def Jj:List DV->M DV:=Zb 1 jD
abbrev XW:Stmt:=Zv (top 27) 12
def XS:aD:=aL (Jk (eB (Xp iy eO (eC (.int 0)) (Qb 1) (ZO Yw (Qc (QN "Shelf" "kept" (Qb 0)) (Ql)))))) (Fy) (Q6)
def Zu:List DV->M DV:=Zb 2 XS
abbrev x4:Stmt:=Zv (top 27) 1
def xu:aD:=Qq (ZY (Qz "Shelf" "check_number" 2 Zu (Qb 0) (Qc (Qb 1) (Ql)))) (Qq (Yx "Shelf" "read_count" jv (Qb 0) (eC (.int 1))) (QF (Qi aA (QN "Shelf" "kept" (Qb 0)) (Qb 1))))
def Jc:List DV->M DV:=Zb 2 xu
abbrev ya:Stmt:=top 36
def Xr:aD:=Qq (QD 4 (Qz "Shelf" "read" 2 Jc (Qb 0) (Qc (Qb 2) (Ql)))) (Qq (ZY (JL "list" YF (Qb 1) (Qc (uB (Qi aA (Qb 4) (eC (.int 1))) (Qi aA (Qb 4) (eC (.int 2)))) (Ql)))) (Qq (aL (eB (Qi isD (Qi aA (Qb 4) (eC (.int 4))) (eC .non))) (QF (Qb 1)) (Q6)) (QD 2 (Qi aA (Qb 4) (eC (.int 4))))))
def zB:aD:=gq (zN (Qc (Qz "Shelf" "pages" 1 Jj (Qb 0) Ql) (Ql))) (gN 3) (Xr)
def GL:aD:=Qq (QD 1 (Xf (Ql))) (Qq (QD 2 (eC (.int 0))) (Qq (zB) (QF (eC .non))))
def JC:List DV->M DV:=Zb 5 GL
abbrev qo:Stmt:=Zv (top 27) 10
def Y9:aD:=QF (QN "Shelf" "write_count" (Qb 0))
def ZI:List DV->M DV:=Zb 1 Y9
abbrev qm:Stmt:=Zv (top 27) 9
def Y8:aD:=QF (QN "Shelf" "read_count" (Qb 0))
def ZH:List DV->M DV:=Zb 1 Y8
abbrev jQ:Stmt:=Zv (top 21) 2
def Kr:aD:=Qq (aL (Jk (eB (QN "Walk" "ended" (Qb 0)))) (QF (eC .non)) (Q6)) (Qq (aL (eB (Qi aX (Qi aA (QN "Walk" "deed" (Qb 0)) (eC (.int 0))) (eC (.str "stretch")))) (QF (ZO Eo (Qc (QN "Walk" "pairs" (Qb 0)) (Ql)))) (Q6)) (QF (QN "Walk" "worth" (Qb 0))))
def Q8:List DV->M DV:=Zb 1 Kr
abbrev Vg:Stmt:=Zv (top 21) 1
def vW:aD:=QF (QN "Walk" "ended" (Qb 0))
def Zi:List DV->M DV:=Zb 1 vW
abbrev YK:Stmt:=Zv (top 21) 9
def Jn:aF:=ZR true (eG (uP (Qi aA (Qb 2) (eC (.int 1))) (Qi aA (Qb 2) (eC (.int 2))))) [3,4] (eB (Xp iy eO (Qb 1) (Qi aA (Qb 0) (eC (.int 0))) (Qb 2))) (Qb 0)
def xA:aD:=Qq (QD 3 (Qi aA (QN "Walk" "deed" (Qb 0)) (eC (.int 1)))) (Qq (QD 4 (Qi aA (QN "Walk" "deed" (Qb 0)) (eC (.int 2)))) (Qq (QD 5 (Jn)) (Qq (ZY (JL "list" YF (QN "Walk" "pairs" (Qb 0)) (Qc (Qb 5) (Ql)))) (Qq (aL (cA (eB (Qi isD (Qi aA (Qb 2) (eC (.int 3))) (eC .non))) (eB (Qi nP (Qi aA (Qb 2) (eC (.int 3))) (Qb 4)))) (Qq (Zf "Walk" "ended" (Qb 0) (eC (.bl true))) (QF (Zk (Qc (eC (.str "read")) (Qc (Qb 1) (Qc (ZO nY (Qc (Qb 5) (Ql))) (Qc (eC .non) (Qc (eC .non) (Ql))))))))) (Q6)) (Qq (Zf "Walk" "aim" (Qb 0) (Qi aA (Qb 2) (eC (.int 3)))) (Qq (Zf "Walk" "place" (Qb 0) (Qi aA (Qb 2) (eC (.int 4)))) (QF (Zk (Qc (eC (.str "read")) (Qc (Qb 1) (Qc (ZO nY (Qc (Qb 5) (Ql))) (Qc (QN "Walk" "place" (Qb 0)) (Qc (QN "Walk" "aim" (Qb 0)) (Ql))))))))))))))
def Xn:List DV->M DV:=Zb 6 xA
abbrev jP:Stmt:=Zv (top 27) 2
def jE:aD:=Qq (ZY (Qz "Shelf" "check_number" 2 Zu (Qb 0) (Qc (Qb 1) (Ql)))) (Qq (Yx "Shelf" "write_count" jv (Qb 0) (eC (.int 1))) (Jw (Qb 2) (bB (QN "Shelf" "kept" (Qb 0)) (Qb 1))))
def JI:List DV->M DV:=Zb 3 jE
abbrev UP:Stmt:=top 14
def kB:aD:=QF (Zk (Qc (Qi bL (Qb 0) (eC (.int 0))) (Qc (Qb 1) (Qc (Qb 2) (Qc (Qi bL (Qb 0) (eC (.int 3))) (Qc (Qi bL (Qb 0) (eC (.int 4))) (Ql)))))))
def qB:List DV->M DV:=Zb 3 kB
abbrev YL:Stmt:=top 16
def ju:aF:=ZR false (eG (mR (Qb 0))) [1] (eB (Qi iy (Qb 0) (Qb 1))) (Qb 0)
def xB:aD:=QF (ZO Yw (Qc (ju) (Ql)))
def Zx:List DV->M DV:=Zb 2 xB
abbrev jS:Stmt:=top 15
def Vs:aF:=ZR false (eG (mR (Qb 0))) [1] (eB (Qi eO (Qb 0) (Qb 1))) (Qb 0)
def Kt:aD:=QF (ZO Yw (Qc (Vs) (Ql)))
def XM:List DV->M DV:=Zb 2 Kt
abbrev UR:Stmt:=top 13
def kD:aD:=Qq (QD 4 (Qi bL (Qb 0) (eC (.int 1)))) (Qq (QD 5 (Qi bL (Qb 0) (eC (.int 2)))) (Qq (QD 6 (Qs 2 XM (Qc (Qb 4) (Qc (Qb 1) (Ql))))) (Qq (QD 7 (Qs 2 Zx (Qc (Qb 4) (Qc (Qb 1) (Ql))))) (QF (Qs 3 qB (Qc (Qb 0) (Qc (Qi ZE (Qi ZE (bY (Qb 4) (ZW) (ZX (Qb 6))) (Qb 2)) (bY (Qb 4) (ZX (Qb 7)) (ZW))) (Qc (Qi ZE (Qi ZE (bY (Qb 5) (ZW) (ZX (Qb 6))) (Qb 3)) (bY (Qb 5) (ZX (Qb 7)) (ZW))) (Ql)))))))))
def qD:List DV->M DV:=Zb 8 kD
abbrev Gm:Stmt:=top 11
def QbX:aD:=QF (Qs 4 qD (Qc (Qb 0) (Qc (Qb 1) (Qc (Zk (Ql)) (Qc (Zk (Ql)) (Ql))))))
def yn:List DV->M DV:=Zb 2 QbX
abbrev US:Stmt:=top 9
def kE:aD:=Qq (QD 2 (Qi bL (Qb 0) (eC (.int 1)))) (Qq (QD 3 (Qs 2 XM (Qc (Qb 2) (Qc (Qb 1) (Ql))))) (Qq (aL (eB (Qi j_ (Qb 3) (Qs 2 Zx (Qc (Qb 2) (Qc (Qb 1) (Ql)))))) (QF (eC .non)) (Q6)) (QF (Qi bL (Qi bL (Qb 0) (eC (.int 2))) (Qb 3)))))
def Xb:List DV->M DV:=Zb 4 kE
abbrev zT:Stmt:=Zv (top 21) 8
def VX:aD:=Qq (Zf "Walk" "worth" (Qb 0) (Qs 2 Xb (Qc (Qb 2) (Qc (QN "Walk" "aim" (Qb 0)) (Ql))))) (Qq (aL (eB (Qi qK (QN "Walk" "worth" (Qb 0)) (eC .non))) (ZY (Qz "Shelf" "write" 3 JI (QN "Walk" "shelf" (Qb 0)) (Qc (Qb 1) (Qc (Qs 2 yn (Qc (Qb 2) (Qc (QN "Walk" "aim" (Qb 0)) (Ql)))) (Ql))))) (Q6)) (Qq (Zf "Walk" "ended" (Qb 0) (eC (.bl true))) (QF (Zk (Qc (eC (.str "cut")) (Qc (Qb 1) (Qc (QN "Walk" "worth" (Qb 0)) (Ql))))))))
def Ym:List DV->M DV:=Zb 3 VX
abbrev Vf:Stmt:=Zv (top 27) 3
def y0:aD:=Qq (Yx "Shelf" "write_count" jv (Qb 0) (eC (.int 1))) (Qq (ZY (JL "list" Jf (QN "Shelf" "kept" (Qb 0)) (Qc (Qb 1) (Ql)))) (QF (Qi KK (ZO Yw (Qc (QN "Shelf" "kept" (Qb 0)) (Ql))) (eC (.int 1)))))
def XQ:List DV->M DV:=Zb 2 y0
abbrev gx:Stmt:=top 19
def Qc2:aD:=Qq (QD 2 (Qi bL (Qb 0) (eC (.int 0)))) (Qq (QD 3 (Qi bL (Qb 0) (eC (.int 1)))) (Qq (QD 4 (Qi bL (Qb 0) (eC (.int 2)))) (Qq (QD 5 (Qi pq (ZO qM (Qc (Qb 3) (Ql))) (eC (.int 2)))) (Qq (QD 6 (Qi bL (Qb 3) (Qb 5))) (Qq (QD 7 (cL (eB (Qi j_ (Qb 2) (eC (.int 0)))) (Qb 5) (Qi ZE (Qb 5) (eC (.int 1))))) (Qq (QD 8 (Zk (Qc (Qb 2) (Qc (bY (Qb 3) (ZW) (ZX (Qb 5))) (Qc (bY (Qb 4) (ZW) (ZX (Qb 7))) (Qc (Qb 6) (Qc (Qb 1) (Ql)))))))) (Qq (QD 9 (Zk (Qc (Qb 2) (Qc (bY (Qb 3) (ZX (Qb 7)) (ZW)) (Qc (bY (Qb 4) (ZX (Qb 7)) (ZW)) (Qc (Qi bL (Qb 0) (eC (.int 3))) (Qc (Qi bL (Qb 0) (eC (.int 4))) (Ql)))))))) (QF (Zk (Qc (Qb 8) (Qc (Qb 9) (Qc (Qb 6) (Ql)))))))))))))
def xt:List DV->M DV:=Zb 10 Qc2
abbrev x6:Stmt:=Zv (top 27) 7
def xw:aD:=QF (QN "Shelf" "page_room" (Qb 0))
def JB:List DV->M DV:=Zb 1 xw
abbrev Gh:Stmt:=top 18
def QbT:aD:=QF (Qi lZ (ZO qM (Qc (Qi bL (Qb 0) (eC (.int 1))) (Ql))) (Qb 1))
def Yj:List DV->M DV:=Zb 2 QbT
abbrev jR:Stmt:=Zv (top 21) 12
def Ks:aD:=Qq (aL (Jk (eB (Qs 2 Yj (Qc (Qb 2) (Qc (Qz "Shelf" "room" 1 JB (QN "Walk" "shelf" (Qb 0)) Ql) (Ql)))))) (Qq (ZY (Qz "Shelf" "write" 3 JI (QN "Walk" "shelf" (Qb 0)) (Qc (Qb 1) (Qc (Qb 2) (Ql))))) (Qq (Zf "Walk" "ended" (Qb 0) (eC (.bl true))) (QF (eC .non)))) (Q6)) (Qq (QD 3 (Qs 2 xt (Qc (Qb 2) (Qc (Qz "Shelf" "pages" 1 Jj (QN "Walk" "shelf" (Qb 0)) Ql) (Ql))))) (Qq (Zf "Walk" "new_page" (Qb 0) (Qz "Shelf" "lay" 2 XQ (QN "Walk" "shelf" (Qb 0)) (Qc (Qi aA (Qb 3) (eC (.int 1))) (Ql)))) (Qq (ZY (Qz "Shelf" "write" 3 JI (QN "Walk" "shelf" (Qb 0)) (Qc (Qb 1) (Qc (Qi aA (Qb 3) (eC (.int 0))) (Ql))))) (Qq (Zf "Walk" "aim" (Qb 0) (Qi aA (Qb 3) (eC (.int 2)))) (Qq (Zf "Walk" "goal" (Qb 0) (Qi ZE (Qi aA (Qb 2) (eC (.int 0))) (eC (.int 1)))) (Qq (Zf "Walk" "place" (Qb 0) (JL "dict" Xs (QN "Walk" "forks" (Qb 0)) (Qc (QN "Walk" "goal" (Qb 0)) (Ql)))) (QF (QN "Walk" "new_page" (Qb 0)))))))))
def XL:List DV->M DV:=Zb 4 Ks
abbrev Vm:Stmt:=top 10
def v8:aD:=QF (Qs 4 qD (Qc (Qb 0) (Qc (Qb 1) (Qc (Zk (Qc (Qb 1) (Ql))) (Qc (Zk (Qc (Qb 2) (Ql))) (Ql))))))
def zy:List DV->M DV:=Zb 3 v8
abbrev zi:Stmt:=Zv (top 21) 7
def Vv:aD:=Qq (Zf "Walk" "worth" (Qb 0) (Qs 2 Xb (Qc (Qb 2) (Qc (QN "Walk" "aim" (Qb 0)) (Ql))))) (Qq (QD 3 (Qz "Walk" "settle" 3 XL (Qb 0) (Qc (Qb 1) (Qc (Qs 3 zy (Qc (Qb 2) (Qc (QN "Walk" "aim" (Qb 0)) (Qc (Qi aA (QN "Walk" "deed" (Qb 0)) (eC (.int 2))) (Ql))))) (Ql))))) (QF (Zk (Qc (eC (.str "put")) (Qc (Qb 1) (Qc (QN "Walk" "worth" (Qb 0)) (Qc (Qb 3) (Ql))))))))
def XY:List DV->M DV:=Zb 4 Vv
abbrev YJ:Stmt:=Zv (top 21) 6
def xy:aD:=Qq (Zf "Walk" "worth" (Qb 0) (Qs 2 Xb (Qc (Qb 2) (Qc (QN "Walk" "aim" (Qb 0)) (Ql))))) (Qq (Zf "Walk" "ended" (Qb 0) (eC (.bl true))) (QF (Zk (Qc (eC (.str "found")) (Qc (Qb 1) (Qc (QN "Walk" "worth" (Qb 0)) (Ql)))))))
def Xm:List DV->M DV:=Zb 3 xy
abbrev zU:Stmt:=Zv (top 21) 5
def VY:aD:=Qq (QD 3 (Qi aA (QN "Walk" "deed" (Qb 0)) (eC (.int 0)))) (Qq (aL (eB (Qi aX (Qb 3) (eC (.str "find")))) (QF (Qz "Walk" "find_worth" 3 Xm (Qb 0) (Qc (Qb 1) (Qc (Qb 2) (Ql))))) (Q6)) (Qq (aL (eB (Qi aX (Qb 3) (eC (.str "put")))) (QF (Qz "Walk" "put_pair" 3 XY (Qb 0) (Qc (Qb 1) (Qc (Qb 2) (Ql))))) (Q6)) (Qq (aL (eB (Qi aX (Qb 3) (eC (.str "cut")))) (QF (Qz "Walk" "cut_key" 3 Ym (Qb 0) (Qc (Qb 1) (Qc (Qb 2) (Ql))))) (Q6)) (QF (Qz "Walk" "read_pairs" 3 Xn (Qb 0) (Qc (Qb 1) (Qc (Qb 2) (Ql))))))))
def Yn:List DV->M DV:=Zb 4 VY
abbrev UQ:Stmt:=top 12
def kC:aD:=Qq (QD 3 (Qi bL (Qb 0) (eC (.int 1)))) (Qq (QD 4 (Qi bL (Qb 0) (eC (.int 2)))) (Qq (QD 5 (Qs 2 Zx (Qc (Qb 3) (Qc (Qb 1) (Ql))))) (Qq (QD 6 (Qi ZE (Qb 5) (eC (.int 1)))) (QF (Qs 3 qB (Qc (Qb 0) (Qc (Qi ZE (Qi ZE (bY (Qb 3) (ZW) (ZX (Qb 5))) (Zk (Qc (Qb 1) (Ql)))) (bY (Qb 3) (ZX (Qb 5)) (ZW))) (Qc (Qi ZE (Qi ZE (bY (Qb 4) (ZW) (ZX (Qb 6))) (Zk (Qc (Qb 2) (Ql)))) (bY (Qb 4) (ZX (Qb 6)) (ZW))) (Ql)))))))))
def qC:List DV->M DV:=Zb 7 kC
abbrev qp:Stmt:=Zv (top 21) 10
def yo:aD:=Qq (QD 3 (Qz "Walk" "settle" 3 XL (Qb 0) (Qc (Qb 1) (Qc (Qs 3 qC (Qc (Qb 2) (Qc (QN "Walk" "aim" (Qb 0)) (Qc (QN "Walk" "new_page" (Qb 0)) (Ql))))) (Ql))))) (QF (Zk (Qc (eC (.str "told")) (Qc (Qb 1) (Qc (Qb 3) (Ql))))))
def XF:List DV->M DV:=Zb 4 yo
abbrev x9:Stmt:=Zv (top 21) 4
def GK:aD:=Qq (Zf "Walk" "place" (Qb 0) (Qb 3)) (QF (Zk (Qc (Qb 1) (Qc (Qb 2) (Qc (Qb 3) (Ql))))))
def JU:List DV->M DV:=Zb 4 GK
abbrev Gi:Stmt:=top 8
def QbU:aD:=QF (Qi bL (Qi bL (Qb 0) (eC (.int 2))) (Qs 2 Zx (Qc (Qi bL (Qb 0) (eC (.int 1))) (Qc (Qb 1) (Ql)))))
def Y4:List DV->M DV:=Zb 2 QbU
abbrev gw:Stmt:=top 7
def Qc1:aD:=Qq (QD 2 (Qi bL (Qb 0) (eC (.int 3)))) (QF (Jm (Qi qK (Qb 2) (eC .non)) (Qi nP (Qb 1) (Qb 2))))
def Y3:List DV->M DV:=Zb 3 Qc1
abbrev Yy:Stmt:=Zv (top 27) 6
def Yp:aD:=Qq (ZY (Qz "Shelf" "check_number" 2 Zu (Qb 0) (Qc (Qb 2) (Ql)))) (Qq (QD 3 (Qi ZE (Qi aA (Qi aA (QN "Shelf" "kept" (Qb 0)) (QN "Shelf" "top" (Qb 0))) (eC (.int 0))) (eC (.int 1)))) (Qq (Zf "Shelf" "top" (Qb 0) (Qz "Shelf" "lay" 2 XQ (Qb 0) (Qc (Zk (Qc (Qb 3) (Qc (Zk (Qc (Qb 1) (Ql))) (Qc (Zk (Qc (QN "Shelf" "top" (Qb 0)) (Qc (Qb 2) (Ql)))) (Qc (eC .non) (Qc (eC .non) (Ql))))))) (Ql)))) (QF (QN "Shelf" "top" (Qb 0)))))
def Z0:List DV->M DV:=Zb 4 Yp
abbrev XB:Stmt:=Zv (top 21) 11
def qF:aD:=Qq (Zf "Walk" "ended" (Qb 0) (eC (.bl true))) (QF (Zk (Qc (eC (.str "raised")) (Qc (Qb 1) (Qc (Qz "Shelf" "raise_root" 3 Z0 (QN "Walk" "shelf" (Qb 0)) (Qc (QN "Walk" "aim" (Qb 0)) (Qc (QN "Walk" "new_page" (Qb 0)) (Ql)))) (Ql))))))
def ZQ:List DV->M DV:=Zb 2 qF
abbrev x8:Stmt:=Zv (top 27) 4
def xx:aD:=QF (QN "Shelf" "top" (Qb 0))
def JT:List DV->M DV:=Zb 1 xx
abbrev Vh:Stmt:=Zv (top 21) 3
def vX:aD:=Qq (aL (eB (QN "Walk" "ended" (Qb 0))) (QF (eC .non)) (Q6)) (Qq (QD 1 (cL (eB (Qi isD (QN "Walk" "place" (Qb 0)) (eC .non))) (Qz "Shelf" "root" 1 JT (QN "Walk" "shelf" (Qb 0)) Ql) (QN "Walk" "place" (Qb 0)))) (Qq (QD 2 (Qz "Shelf" "read" 2 Jc (QN "Walk" "shelf" (Qb 0)) (Qc (Qb 1) (Ql)))) (Qq (aL (J1 (eB (Qi isD (QN "Walk" "place" (Qb 0)) (eC .non))) (eB (Qi eO (Qi aA (Qb 2) (eC (.int 0))) (QN "Walk" "goal" (Qb 0))))) (QF (Qz "Walk" "raise_root_over" 2 ZQ (Qb 0) (Qc (Qb 1) (Ql)))) (Q6)) (Qq (aL (eB (Qs 2 Y3 (Qc (Qb 2) (Qc (QN "Walk" "aim" (Qb 0)) (Ql))))) (QF (Qz "Walk" "go_on" 4 JU (Qb 0) (Qc (eC (.str "side")) (Qc (Qb 1) (Qc (Qi aA (Qb 2) (eC (.int 4))) (Ql)))))) (Q6)) (Qq (aL (eB (Qi lZ (Qi aA (Qb 2) (eC (.int 0))) (QN "Walk" "goal" (Qb 0)))) (Qq (Jw (Qb 1) (bB (QN "Walk" "forks" (Qb 0)) (Qi aA (Qb 2) (eC (.int 0))))) (QF (Qz "Walk" "go_on" 4 JU (Qb 0) (Qc (eC (.str "down")) (Qc (Qb 1) (Qc (Qs 2 Y4 (Qc (Qb 2) (Qc (QN "Walk" "aim" (Qb 0)) (Ql)))) (Ql))))))) (Q6)) (Qq (aL (eB (Qi lZ (QN "Walk" "goal" (Qb 0)) (eC (.int 0)))) (QF (Qz "Walk" "tell_fork" 3 XF (Qb 0) (Qc (Qb 1) (Qc (Qb 2) (Ql))))) (Q6)) (QF (Qz "Walk" "do_deed" 3 Yn (Qb 0) (Qc (Qb 1) (Qc (Qb 2) (Ql)))))))))))
def Jy:List DV->M DV:=Zb 3 vX
abbrev Vk:Stmt:=top 41
def jJ:aD:=aL (cA (eB (Qi dI (Qz "Walk" "answer" 1 Q8 (Qb 3) Ql) (Qb 4))) (cA (eB (Qi qK (Qz "Walk" "over" 1 Zi (Qb 3) Ql) (eC (.bl true)))) (eB (Qi qK (Qz "Walk" "step" 1 Jy (Qb 3) Ql) (eC .non))))) (QF (eC (.bl false))) (Q6)
def Kq:aD:=Gg (fO (Qb 1)) (gT [3,4]) (jJ)
def vZ:aD:=Qq (QD 2 (Zk (Qc (Qz "Shelf" "readings" 1 ZH (Qb 0) Ql) (Qc (Qz "Shelf" "writings" 1 ZI (Qb 0) Ql) (Ql))))) (Qq (Kq) (QF (Qi aX (Zk (Qc (Qz "Shelf" "readings" 1 ZH (Qb 0) Ql) (Qc (Qz "Shelf" "writings" 1 ZI (Qb 0) Ql) (Ql)))) (Qb 2))))
def YB:List DV->M DV:=Zb 5 vZ
abbrev YM:Stmt:=top 37
def xC:aD:=Qq (aL (eB (Qi isD (Qb 1) (eC .non))) (QF (Qi isD (Qb 0) (eC .non))) (Q6)) (QF (Jm (o_ "int" (Qb 0)) (Jm (Yc (o_ "bool" (Qb 0))) (Qi aX (Qb 0) (Qb 1)))))
def JM:List DV->M DV:=Zb 2 xC
abbrev yb:Stmt:=top 38
def Xl:aF:=ZR false (fO (ZO Vp (Qc (Qb 2) (Ql)))) [4,2,1] (eB (Xp iy eO (Qi aA (Qb 3) (eC (.str "from"))) (Qb 0) (Qb 1))) (Zk (Qc (Qb 0) (Qc (Qi aA (Qb 2) (Qb 0)) (Ql))))
def GM:aD:=Qq (QD 3 (Qi aA (Qb 1) (eC (.str "deed")))) (Qq (Jw (Qi ZE (Qi aA (Qb 1) (eC (.str "moments"))) (eC (.int 1))) (bB (Qb 1) (eC (.str "moments")))) (Qq (aL (eB (Qi aX (Qi aA (Qb 0) (eC (.int 0))) (eC (.str "read")))) (Qq (QD 4 (Qi aA (Qb 3) (eC (.int 2)))) (Qq (aL (eB (Qi qK (Qi aA (Qb 0) (eC (.int 4))) (eC .non))) (QD 4 (Qi aA (Qb 0) (eC (.int 4)))) (Q6)) (Qq (QD 5 (Xl)) (Qq (Jw (Qi ZE (Qi aA (Qb 1) (eC (.str "answer"))) (Qb 5)) (bB (Qb 1) (eC (.str "answer")))) (Qq (Jw (Qb 4) (bB (Qb 1) (eC (.str "from")))) (QF (Jm (Qi aX (Qi aA (Qb 3) (eC (.int 0))) (eC (.str "stretch"))) (Jm (Qi aX (ZO pB (Qc (Qi aA (Qb 0) (eC (.int 2))) (Ql))) (Qb 5)) (Qi iy (Qb 4) (Qi aA (Qb 3) (eC (.int 2)))))))))))) (Q6)) (Qq (Jw (JL "dict" Xs (Qb 2) (Qc (Qi aA (Qb 3) (eC (.int 1))) (Ql))) (bB (Qb 1) (eC (.str "answer")))) (Qq (aL (eB (Qi aX (Qi aA (Qb 3) (eC (.int 0))) (eC (.str "put")))) (Jw (Qi aA (Qb 3) (eC (.int 2))) (bB (Qb 2) (Qi aA (Qb 3) (eC (.int 1))))) (Q6)) (Qq (aL (J1 (eB (Qi aX (Qi aA (Qb 3) (eC (.int 0))) (eC (.str "cut")))) (eB (Qi eU (Qi aA (Qb 3) (eC (.int 1))) (Qb 2)))) (ZY (JL "dict" Yd (Qb 2) (Qc (Qi aA (Qb 3) (eC (.int 1))) (Ql)))) (Q6)) (Qq (aL (eB (Qi dI (Qi aA (Xq [(eC (.str "found"),eC (.str "find")),(eC (.str "put"),eC (.str "put")),(eC (.str "cut"),eC (.str "cut"))]) (Qi aA (Qb 0) (eC (.int 0)))) (Qi aA (Qb 3) (eC (.int 0))))) (QF (eC (.bl false))) (Q6)) (QF (Qs 2 JM (Qc (Qi aA (Qb 0) (eC (.int 2))) (Qc (Qi aA (Qb 1) (eC (.str "answer"))) (Ql)))))))))))
def JD:List DV->M DV:=Zb 6 GM
abbrev jU:Stmt:=top 39
def XX:aF:=ZR false (fO (ZO Vp (Qc (Qb 3) (Ql)))) [3] (vI) (Zk (Qc (Qb 0) (Qc (Qi aA (Qb 1) (Qb 0)) (Ql))))
def Ku:aD:=Qq (QD 4 (Qz "Walk" "step" 1 Jy (Qb 1) Ql)) (Qq (aL (Jk (eB (o_ "tuple" (Qb 4)))) (QF (eC (.bl false))) (Q6)) (Qq (aL (eB (Qi eU (Qi aA (Qb 4) (eC (.int 0))) (Zk (Qc (eC (.str "found")) (Qc (eC (.str "put")) (Qc (eC (.str "cut")) (Qc (eC (.str "read")) (Ql)))))))) (Qq (aL (Jk (eB (Qs 3 JD (Qc (Qb 4) (Qc (Qb 2) (Qc (Qb 3) (Ql))))))) (QF (eC (.bl false))) (Q6)) (Qq (QD 6 (XX)) (aL (J1 (eB (Qi eU (Qi aA (Qb 4) (eC (.int 0))) (Zk (Qc (eC (.str "put")) (Qc (eC (.str "cut")) (Ql)))))) (eB (Qi dI (Qs 1 JC (Qc (Qb 0) (Ql))) (Qb 6)))) (QF (eC (.bl false))) (Q6)))) (Q6)) (Qq (aL (Jk (eB (Qz "Walk" "over" 1 Zi (Qb 1) Ql))) (QF (eC (.bl true))) (Q6)) (Qq (QD 5 (Qi aX (Qi aA (Qi aA (Qb 2) (eC (.str "deed"))) (eC (.int 0))) (eC (.str "stretch")))) (Qq (aL (cA (eB (Qi aX (Qi aA (Qb 2) (eC (.str "moments"))) (eC (.int 0)))) (J1 (Jk (eB (Qb 5))) (eB (Qi dI (Qi aA (Qb 2) (eC (.str "moments"))) (eC (.int 1)))))) (QF (eC (.bl false))) (Q6)) (QF (Jm (Qi aX (Qz "Walk" "answer" 1 Q8 (Qb 1) Ql) (Qi aA (Qb 2) (eC (.str "answer")))) (Qi aX (xG "list" (Qz "Walk" "answer" 1 Q8 (Qb 1) Ql)) (Qb 5)))))))))
def J4:List DV->M DV:=Zb 7 Ku
abbrev qq:Stmt:=top 42
def Yu:aD:=aL (Jk (eB (Qs 4 J4 (Qc (Qb 0) (Qc (Qi aA (Qb 1) (Qb 6)) (Qc (Qi aA (Qb 2) (Qb 6)) (Qc (Qb 3) (Ql)))))))) (QF (eC (.bl false))) (Q6)
def Yo:aD:=Gg (fO (Qb 5)) (gN 6) (Yu)
def JA:aF:=ZR false (eG (zN (Qc (ZO Yw (Qc (Qb 1) (Ql))) (Ql)))) [1] (J1 (eB (Qi qK (Qi aA (Qb 1) (Qb 0)) (eC .non))) (Jk (eB (Qz "Walk" "over" 1 Zi (Qi aA (Qb 1) (Qb 0)) Ql)))) (Qb 0)
def Yv:aD:=Qq (QD 5 (JA)) (Qq (aL (eB (Qi o7 (Qb 5) (Ye (Ql)))) (QF (eC (.bl true))) (Q6)) (Yo))
def jV:aD:=gq (zN (Qc (Qi ZE (Qi qh (eC (.int 4)) (Qz "Shelf" "pages" 1 Jj (Qb 0) Ql)) (eC (.int 40))) (Ql))) (gN 4) (Yv)
def yp:aD:=Qq (jV) (QF (eC (.bl false)))
def JV:List DV->M DV:=Zb 7 yp
abbrev UO:Stmt:=top 30
def VZ:aD:=Qq (QD 3 (Qi Ur (Qi ZE (Qb 0) (Qi pq (Qb 1) (eC (.int 3)))) (Qb 1))) (QF (Qi Ur (Qi Ur (Qi qh (Qi Ur (Qi qh (Qb 3) (Qb 3)) (Qb 1)) (Qb 3)) (Qb 1)) (Qb 2)))
def Qw:List DV->M DV:=Zb 4 VZ
abbrev zh:Stmt:=Zv (top 21) 0
def Vu:aD:=Qq (Zf "Walk" "shelf" (Qb 0) (Qb 1)) (Qq (Zf "Walk" "deed" (Qb 0) (Qb 2)) (Qq (Zf "Walk" "aim" (Qb 0) (Qi aA (Qb 2) (eC (.int 1)))) (Qq (Zf "Walk" "goal" (Qb 0) (eC (.int 0))) (Qq (Zf "Walk" "place" (Qb 0) (eC .non)) (Qq (Zf "Walk" "forks" (Qb 0) (J3)) (Qq (Zf "Walk" "new_page" (Qb 0) (eC .non)) (Qq (Zf "Walk" "worth" (Qb 0) (eC .non)) (Qq (Zf "Walk" "pairs" (Qb 0) (Xf (Ql))) (Zf "Walk" "ended" (Qb 0) (eC (.bl false)))))))))))
def ZL:List DV->M DV:=Zb 3 Vu
abbrev Vl:Stmt:=top 32
def v7:aD:=Qq (aL (eB (Qi j_ (Qs 3 Qw (Qc (Qb 0) (Qc (eC (.int 10037)) (Qc (eC (.int 4)) (Ql))))) (eC (.int 0)))) (QF (Qi KK (Qi Ur (Qi ZE (Qi qh (Qi Ur (Qb 0) (Qi zS (eC (.int 10)) (eC (.int 40)))) (eC (.int 1000000000039))) (eC (.int 5))) (Qi ZE (Qi qh (eC (.int 2)) (Qi zS (eC (.int 10)) (eC (.int 30)))) (eC (.int 1)))) (Qi zS (eC (.int 10)) (eC (.int 30))))) (Q6)) (QF (Qi KK (Qs 3 Qw (Qc (Qb 0) (Qc (eC (.int 10039)) (Qc (eC (.int 9)) (Ql))))) (eC (.int 4))))
def zx:List DV->M DV:=Zb 1 v7
abbrev Gj:Stmt:=top 31
def QbV:aD:=Qq (QD 1 (Qs 3 Qw (Qc (Qb 0) (Qc (eC (.int 10007)) (Qc (eC (.int 5)) (Ql)))))) (Qq (aL (eB (Qi j_ (Qb 1) (eC (.int 0)))) (QF (Qi KK (Qi Ur (Qi ZE (Qi qh (Qi Ur (Qb 0) (Qi zS (eC (.int 10)) (eC (.int 40)))) (eC (.int 1000000000039))) (eC (.int 11))) (Qi ZE (Qi qh (eC (.int 2)) (Qi zS (eC (.int 10)) (eC (.int 30)))) (eC (.int 1)))) (Qi zS (eC (.int 10)) (eC (.int 30))))) (Q6)) (QF (Qi KK (Qs 3 Qw (Qc (Qb 0) (Qc (eC (.int 10009)) (Qc (Qi bL (Ye (Qc (eC (.int 10)) (Qc (eC (.int 10)) (Qc (eC (.int 41)) (Qc (eC (.int 120)) (Qc (eC (.int 120)) (Ql))))))) (Qb 1)) (Ql))))) (eC (.int 5)))))
def Y5:List DV->M DV:=Zb 2 QbV
abbrev UL:Stmt:=top 33
def kz:aD:=Qq (QD 1 (Qs 3 Qw (Qc (Qb 0) (Qc (eC (.int 10061)) (Qc (eC (.int 10)) (Ql)))))) (Qq (QD 2 (Qs 1 Y5 (Qc (Qb 0) (Ql)))) (Qq (aL (eB (Qi eO (Qb 1) (eC (.int 5)))) (QF (Zk (Qc (eC (.str "put")) (Qc (Qb 2) (Qc (Qs 1 zx (Qc (Qb 0) (Ql))) (Ql)))))) (Q6)) (Qq (aL (eB (Qi eO (Qb 1) (eC (.int 7)))) (QF (Zk (Qc (eC (.str "cut")) (Qc (Qb 2) (Ql))))) (Q6)) (Qq (aL (eB (Qi eO (Qb 1) (eC (.int 9)))) (QF (Zk (Qc (eC (.str "find")) (Qc (Qb 2) (Ql))))) (Q6)) (Qq (QD 3 (ZO vi (Qc (Qb 2) (Qc (Qi KK (Qi zS (eC (.int 10)) (eC (.int 30))) (eC (.int 1))) (Ql))))) (Qq (QD 4 (ZO vi (Qc (Qi zS (eC (.int 10)) (eC (.int 30))) (Qc (Qi ZE (Qi ZE (Qb 3) (eC (.int 1))) (Qs 3 Qw (Qc (Qb 0) (Qc (eC (.int 10067)) (Qc (eC (.int 50)) (Ql)))))) (Ql))))) (Qq (QD 5 (ZO vi (Qc (Qi zS (eC (.int 10)) (eC (.int 30))) (Qc (Qi ZE (Qi ZE (Qb 3) (eC (.int 51))) (Qs 3 Qw (Qc (Qb 0) (Qc (eC (.int 10151)) (Qc (eC (.int 150)) (Ql)))))) (Ql))))) (QF (Zk (Qc (eC (.str "stretch")) (Qc (Qb 3) (Qc (Qi bL (Ye (Qc (Qi ZE (Qb 3) (eC (.int 1))) (Qc (Qb 4) (Qc (Qb 5) (Qc (Qi zS (eC (.int 10)) (eC (.int 30))) (Ql)))))) (Qs 3 Qw (Qc (Qb 0) (Qc (eC (.int 10069)) (Qc (eC (.int 4)) (Ql)))))) (Ql)))))))))))))
def qz:List DV->M DV:=Zb 6 kz
abbrev Gk:Stmt:=top 40
def QbW:aD:=Qq (QD 6 (Qs 1 qz (Qc (Qb 4) (Ql)))) (Qq (aL (eB (Qi qK (Qi aA (Qb 1) (Qb 3)) (eC .non))) (ZY (JL "list" Jf (Qb 5) (Qc (Zk (Qc (Qi aA (Qb 1) (Qb 3)) (Qc (Qi aA (Qi aA (Qb 2) (Qb 3)) (eC (.str "answer"))) (Ql)))) (Ql)))) (Q6)) (Qq (Jw (J6 "Walk" 3 ZL (Qc (Qb 0) (Qc (Qb 6) (Ql)))) (bB (Qb 1) (Qb 3))) (Qq (Jw (Xq [(eC (.str "deed"),Qb 6),(eC (.str "from"),Qi aA (Qb 6) (eC (.int 1))),(eC (.str "moments"),eC (.int 0)),(eC (.str "answer"),Ye (Ql))]) (bB (Qb 2) (Qb 3))) (QF (Qs 3 Qw (Qc (Qb 4) (Qc (eC (.int 10139)) (Qc (eC (.int 2)) (Ql)))))))))
def zZ:List DV->M DV:=Zb 7 QbW
abbrev UN:Stmt:=top 34
def xR:aD:=Qq (aL (eB (Qz "Walk" "over" 1 Zi (Qb 2) Ql)) (QF (Qb 2)) (Q6)) (ZY (Qz "Walk" "step" 1 Jy (Qb 2) Ql))
def GC:aD:=gq (zN (Qc (eC (.int 1000)) (Ql))) (gN 3) (xR)
def kA:aD:=Qq (QD 2 (J6 "Walk" 3 ZL (Qc (Qb 0) (Qc (Qb 1) (Ql))))) (Qq (GC) (QF (Qb 2)))
def qA:List DV->M DV:=Zb 4 kA
abbrev qk:Stmt:=Zv (top 27) 0
def Y7:aD:=Qq (Zf "Shelf" "page_room" (Qb 0) (Qb 1)) (Qq (Zf "Shelf" "kept" (Qb 0) (Xf (Qc (eC (.tup [.int 0,.tup [],.tup [],.non,.non])) (Ql)))) (Qq (Zf "Shelf" "top" (Qb 0) (eC (.int 0))) (Qq (Zf "Shelf" "read_count" (Qb 0) (eC (.int 0))) (Zf "Shelf" "write_count" (Qb 0) (eC (.int 0))))))
def ZZ:List DV->M DV:=Zb 2 Y7
abbrev Vj:Stmt:=top 35
def jI:aD:=Qq (QD 5 (Qi KK (Qs 3 Qw (Qc (Qi ZE (Qb 0) (Qi qh (eC (.int 7)) (Qb 4))) (Qc (eC (.int 10099)) (Qc (eC (.int 120)) (Ql))))) (eC (.int 5)))) (Qq (ZY (Qs 2 qA (Qc (Qb 2) (Qc (Zk (Qc (eC (.str "put")) (Qc (Qb 5) (Qc (Qb 4) (Ql))))) (Ql))))) (Jw (Qb 4) (bB (Qb 1) (Qb 5))))
def jC:aD:=gq (zN (Qc (Qb 3) (Ql))) (gN 4) (jI)
def vY:aD:=Qq (QD 2 (J6 "Shelf" 2 ZZ (Qc (Qi ZE (eC (.int 2)) (Qi qh (Qs 3 Qw (Qc (Qb 0) (Qc (eC (.int 10079)) (Qc (eC (.int 7)) (Ql))))) (Qs 3 Qw (Qc (Qb 0) (Qc (eC (.int 10091)) (Qc (eC (.int 2)) (Ql))))))) (Ql)))) (Qq (QD 3 (Qs 3 Qw (Qc (Qb 0) (Qc (eC (.int 10093)) (Qc (eC (.int 25)) (Ql)))))) (Qq (aL (eB (Qi aX (Qs 3 Qw (Qc (Qb 0) (Qc (eC (.int 10141)) (Qc (eC (.int 8)) (Ql))))) (eC (.int 3)))) (QD 3 (eC (.int 60))) (Q6)) (Qq (jC) (QF (Qb 2)))))
def YA:List DV->M DV:=Zb 6 vY
abbrev jT:Stmt:=top 29
def YS:aD:=Qq (aL (eB (Qi eO (Qb 1) (ZO qM (Qc (Qb 0) (Ql))))) (QF (Qi bL (Qb 0) (Qb 1))) (Q6)) (QF (eC (.int 0)))
def JJ:List DV->M DV:=Zb 2 YS
abbrev Vi:Stmt:=top 43
def MF:aF:=ZR false (fO (ZO Vp (Qc (Qb 2) (Ql)))) [2] (vI) (Zk (Qc (Qb 0) (Qc (Qi aA (Qb 1) (Qb 0)) (Ql))))
def VD:aF:=ZR false (eG (zN (Qc (Qb 4) (Ql)))) [5,6] (eB (Qi qK (Qi aA (Qb 1) (Qb 0)) (eC .non))) (Zk (Qc (Qi aA (Qb 1) (Qb 0)) (Qc (Qi aA (Qi aA (Qb 2) (Qb 0)) (eC (.str "answer"))) (Ql))))
def Lb:aD:=aL (J1 (Jk (eB (Qz "Walk" "over" 1 Zi (Qi aA (Qb 5) (Qb 9)) Ql))) (Jk (eB (Qs 4 J4 (Qc (Qb 3) (Qc (Qi aA (Qb 5) (Qb 9)) (Qc (Qi aA (Qb 6) (Qb 9)) (Qc (Qb 2) (Ql))))))))) (QF (eC (.bl false))) (Q6)
def Mw:aD:=gq (zN (Qc (Qb 10) (Ql))) (gN 11) (Lb)
def VJ:aD:=Qq (QD 9 (Qs 3 Qw (Qc (Qb 8) (Qc (eC (.int 10111)) (Qc (Qb 4) (Ql)))))) (Qq (QD 10 (Qi ZE (eC (.int 1)) (Qs 3 Qw (Qc (Qb 8) (Qc (eC (.int 10133)) (Qc (eC (.int 5)) (Ql))))))) (Qq (aL (cA (eB (Qi isD (Qi aA (Qb 5) (Qb 9)) (eC .non))) (eB (Qz "Walk" "over" 1 Zi (Qi aA (Qb 5) (Qb 9)) Ql))) (QD 10 (Qi qh (Qb 10) (Qs 6 zZ (Qc (Qb 3) (Qc (Qb 5) (Qc (Qb 6) (Qc (Qb 9) (Qc (Qb 8) (Qc (Qb 7) (Ql)))))))))) (Q6)) (Mw)))
def Mv:aD:=Gg (fO (bY (Qb 0) (ZW) (ZX (eC (.int 100))))) (gN 8) (VJ)
def Mz:aF:=ZR true (eG (zN (Qc (Qb 4) (Ql)))) [] (vI) (eC .non)
def Mx:aF:=ZR true (eG (zN (Qc (Qb 4) (Ql)))) [] (vI) (eC .non)
def T6:aD:=Qq (QD 1 (Qs 2 JJ (Qc (Qb 0) (Qc (eC (.int 0)) (Ql))))) (Qq (QD 2 (J3)) (Qq (QD 3 (Qs 2 YA (Qc (Qb 1) (Qc (Qb 2) (Ql))))) (Qq (QD 4 (Qi ZE (eC (.int 1)) (Qs 3 Qw (Qc (Qb 1) (Qc (eC (.int 10103)) (Qc (eC (.int 8)) (Ql))))))) (Qq (QD 5 (Mx)) (Qq (QD 6 (Mz)) (Qq (QD 7 (Xf (Ql))) (Qq (Mv) (Qq (aL (Jk (eB (Qs 4 JV (Qc (Qb 3) (Qc (Qb 5) (Qc (Qb 6) (Qc (Qb 2) (Ql)))))))) (QF (eC (.bl false))) (Q6)) (Qq (QD 7 (Qi pD (Qb 7) (VD))) (Qq (aL (Jk (eB (Qs 2 YB (Qc (Qb 3) (Qc (Qb 7) (Ql)))))) (QF (eC (.bl false))) (Q6)) (QF (Qi aX (Qs 1 JC (Qc (Qb 3) (Ql))) (MF)))))))))))))
def vT:List DV->M DV:=Zb 12 T6
structure Al(K:Aa)(mg:Em):Prop where
 z0:mg "len" = none
 z1:mg "range" = none
 z2:mg "list" = none
 z3:mg "zip" = none
 z4:mg "tuple" = none
 z5:mg "isinstance" = none
 z6:mg "int" = none
 z7:mg "bool" = none
 z8:mg "sorted" = none
 z9:mg "min" = none
 g0:UG mg "SIDE" 4
 g1:UG mg "HIGH" 3
 g2:UG mg "KEYS" 1
 g3:UG mg "PARTS" 2
 g4:UG mg "LEVEL" 0
 t0:UT K mg "EMPTY_LEAF" (.tup [.int 0,.tup [],.tup [],.non,.non])
 k0:qE K "Shelf" "kept"
 k1:qE K "Shelf" "read_count"
 k2:qE K "Shelf" "write_count"
 k3:qE K "Walk" "worth"
 k4:qE K "Walk" "deed"
 k5:qE K "Walk" "pairs"
 k6:qE K "Walk" "ended"
 k7:qE K "Walk" "aim"
 k8:qE K "Walk" "place"
 k9:qE K "Walk" "shelf"
 k10:qE K "Shelf" "page_room"
 k11:qE K "Walk" "new_page"
 k12:qE K "Walk" "forks"
 k13:qE K "Walk" "goal"
 k14:qE K "Shelf" "top"
 u0:UM K "Shelf" "pages" "Shelf.pages" jO
 u1:UM K "Shelf" "check_number" "Shelf.check_number" XW
 u2:UM K "Shelf" "read" "Shelf.read" x4
 u3:UF K mg "_law_leaves" ya
 u4:UM K "Shelf" "writings" "Shelf.writings" qo
 u5:UM K "Shelf" "readings" "Shelf.readings" qm
 u6:UM K "Walk" "answer" "Walk.answer" jQ
 u7:UM K "Walk" "over" "Walk.over" Vg
 u8:UM K "Walk" "read_pairs" "Walk.read_pairs" YK
 u9:UM K "Shelf" "write" "Shelf.write" jP
 Ot:UF K mg "refilled" UP
 Oq:UF K mg "count_not_above" YL
 Oo:UF K mg "count_below" jS
 Om:UF K mg "with_run" UR
 Ol:UF K mg "without" Gm
 Oj:UF K mg "worth_of" US
 u16:UM K "Walk" "cut_key" "Walk.cut_key" zT
 Oi:UM K "Shelf" "lay" "Shelf.lay" Vf
 Oh:UF K mg "parted" gx
 Og:UM K "Shelf" "room" "Shelf.room" x6
 Oe:UF K mg "is_full" Gh
 Od:UM K "Walk" "settle" "Walk.settle" jR
 Oc:UF K mg "with_pair" Vm
 Ob:UM K "Walk" "put_pair" "Walk.put_pair" zi
 Oa:UM K "Walk" "find_worth" "Walk.find_worth" YJ
 N_:UM K "Walk" "do_deed" "Walk.do_deed" zU
 N8:UF K mg "with_kid" UQ
 N7:UM K "Walk" "tell_fork" "Walk.tell_fork" qp
 N6:UM K "Walk" "go_on" "Walk.go_on" x9
 N5:UF K mg "kid_for" Gi
 NZ:UF K mg "beyond" gw
 NT:UM K "Shelf" "raise_root" "Shelf.raise_root" Yy
 u32:UM K "Walk" "raise_root_over" "Walk.raise_root_over" XB
 NQ:UM K "Shelf" "root" "Shelf.root" x8
 NP:UM K "Walk" "step" "Walk.step" Vh
 NK:UF K mg "_law_still" Vk
 Nz:UF K mg "_law_worth_alike" YM
 Ny:UF K mg "_law_moment" yb
 Nx:UF K mg "_law_stepped" jU
 Nv:UF K mg "_law_to_the_end" qq
 Nu:UF K mg "_law_pick" UO
 Nt:UI K mg "Walk" "Walk.__init__" zh
 Nr:UF K mg "_law_worth" Vl
 Nq:UF K mg "_law_key" Gj
 Np:UF K mg "_law_deed" UL
 Nm:UF K mg "_law_new" Gk
 Nk:UF K mg "_law_done" UN
 Nj:UI K mg "Shelf" "Shelf.__init__" qk
 Ni:UF K mg "_law_begun" Vj
 Nh:UF K mg "_law_cell_at" jT
def UU:Qv ["self"] ["self"] (Qo jO):=Zd
def zr:Qv ["self", "number"] ["self", "number"] (Qo XW):=Zd
def KD:Qv ["self", "number"] ["self", "number"] (Qo x4):=Zd
def KH:Qv ["shelf", "found", "number", "k", "page"] ["shelf"] (Qo ya):=Zd
def ye:Qv ["self"] ["self"] (Qo qo):=Zd
def yd:Qv ["self"] ["self"] (Qo qm):=Zd
def UW:Qv ["self"] ["self"] (Qo jQ):=Zd
def vt:Qv ["self"] ["self"] (Qo Vg):=Zd
def xj:Qv ["self", "number", "leaf", "low", "high", "pairs"] ["self", "number", "leaf"] (Qo YK):=Zd
def UV:Qv ["self", "number", "page"] ["self", "number", "page"] (Qo jP):=Zd
def gB:Qv ["page", "keys", "parts"] ["page", "keys", "parts"] (Qo UP):=Zd
def xk:Qv ["keys", "key"] ["keys", "key"] (Qo YL):=Zd
def UY:Qv ["keys", "key"] ["keys", "key"] (Qo jS):=Zd
def gD:Qv ["page", "key", "new_keys", "new_worths", "keys", "worths", "start", "stop"] ["page", "key", "new_keys", "new_worths"] (Qo UR):=Zd
def Qav:Qv ["page", "key"] ["page", "key"] (Qo Gm):=Zd
def gE:Qv ["page", "key", "keys", "place"] ["page", "key"] (Qo US):=Zd
def VB:Qv ["self", "number", "leaf"] ["self", "number", "leaf"] (Qo zT):=Zd
def vq:Qv ["self", "page"] ["self", "page"] (Qo Vf):=Zd
def QcC:Qv ["page", "number", "level", "keys", "parts", "middle", "key", "cut", "old", "new"] ["page", "number"] (Qo gx):=Zd
def KE:Qv ["self"] ["self"] (Qo x6):=Zd
def Qar:Qv ["page", "room"] ["page", "room"] (Qo Gh):=Zd
def UX:Qv ["self", "number", "page", "halves"] ["self", "number", "page"] (Qo jR):=Zd
def vB:Qv ["page", "key", "worth"] ["page", "key", "worth"] (Qo Vm):=Zd
def yU:Qv ["self", "number", "leaf", "new_page"] ["self", "number", "leaf"] (Qo zi):=Zd
def xi:Qv ["self", "number", "leaf"] ["self", "number", "leaf"] (Qo YJ):=Zd
def VC:Qv ["self", "number", "leaf", "word"] ["self", "number", "leaf"] (Qo zU):=Zd
def gC:Qv ["page", "key", "kid", "keys", "kids", "place", "behind"] ["page", "key", "kid"] (Qo UQ):=Zd
def yf:Qv ["self", "number", "fork", "new_page"] ["self", "number", "fork"] (Qo qp):=Zd
def KG:Qv ["self", "word", "number", "to"] ["self", "word", "number", "to"] (Qo x9):=Zd
def Qas:Qv ["page", "key"] ["page", "key"] (Qo Gi):=Zd
def QcB:Qv ["page", "key", "high"] ["page", "key"] (Qo gw):=Zd
def jB:Qv ["self", "key", "number", "level"] ["self", "key", "number"] (Qo Yy):=Zd
def qr:Qv ["self", "number"] ["self", "number"] (Qo XB):=Zd
def KF:Qv ["self"] ["self"] (Qo x8):=Zd
def vv:Qv ["self", "number", "page"] ["self"] (Qo Vh):=Zd
def vz:Qv ["shelf", "ended", "counts", "walk", "due"] ["shelf", "ended"] (Qo Vk):=Zd
def xm:Qv ["found", "due"] ["found", "due"] (Qo YM):=Zd
def KI:Qv ["row", "state", "table", "deed", "upto", "due"] ["row", "state", "table"] (Qo yb):=Zd
def U0:Qv ["shelf", "walk", "state", "table", "row", "stretch", "due"] ["shelf", "walk", "state", "table"] (Qo jU):=Zd
def yg:Qv ["shelf", "walks", "states", "table", "turn", "going", "hand"] ["shelf", "walks", "states", "table"] (Qo qq):=Zd
def gA:Qv ["cell", "prime", "many", "low"] ["cell", "prime", "many"] (Qo UO):=Zd
def yT:Qv ["self", "shelf", "deed"] ["self", "shelf", "deed"] (Qo zh):=Zd
def vA:Qv ["cell"] ["cell"] (Qo Vl):=Zd
def Qat:Qv ["cell", "way"] ["cell"] (Qo Gj):=Zd
def gy:Qv ["cell", "kind", "key", "low", "near", "far"] ["cell"] (Qo UL):=Zd
def Qau:Qv ["shelf", "walks", "states", "hand", "cell", "ended", "deed"] ["shelf", "walks", "states", "hand", "cell", "ended"] (Qo Gk):=Zd
def gz:Qv ["shelf", "deed", "walk", "k"] ["shelf", "deed"] (Qo UN):=Zd
def yc:Qv ["self", "room"] ["self", "room"] (Qo qk):=Zd
def vw:Qv ["cell", "table", "shelf", "many", "k", "key"] ["cell", "table"] (Qo Vj):=Zd
def UZ:Qv ["script", "k"] ["script", "k"] (Qo jT):=Zd
def iV:Qv ["script", "first", "table", "shelf", "hands", "walks", "states", "ended", "cell", "hand", "many", "k"] ["script"] (Qo Vi):=Zd
section
variable{P:Program}{w:World}{K:Aa}{mg:Em}{O8:Heap}(Z:Al K mg)
include Z
def X5:XR P w K mg O8 "Shelf" "pages" 1 1 Jj:=hM Z.u0 UU λs _ _ _ _ _ _ _ a=>Qp (Qu (Xc yr Z.z0 PySem.boot_len (Qd (QH Z.k0 (Qa 0)) Qm)))
def JF:XR P w K mg O8 "Shelf" "check_number" 1 2 Zu:=hM Z.u1 zr λs _ _ _ _ _ _ _ a=>Qp (Zo (XH (V9 pC vn Qn (Qa 1) (Xc yr Z.z0 PySem.boot_len (Qd (QH Z.k0 (Qa 0)) Qm)))) (Qp D4) QP)
theorem zJ:XR P w K mg O8 "Shelf" "read" 2 2 Jc:=hM Z.u2 KD λs _ _ _ _ _ _ _ a=>Qj (J0 (ZD (JF Z) a (by decide) Qy (Qa 0) (Qd (Qa 1) Qm))) (Qj (yz Z.k1 (Qa 0) Qn) (Qp (Qu (Qx (QA a) (QH Z.k0 (Qa 0)) (Qa 1)))))
theorem zM:Has P w K mg O8 "_law_leaves" 3 1 JC:=hf Z.u3 KH λs _ _ _ _ _ _ _ a=>Qj (QG 1 s (VH Qm)) (Qj (QG 2 s Qn) (Qj (V8 PassesOwn.never rfl (JX rfl Z.z1 (Qd (Zp (X5 Z) a (by decide) Qy (Qa 0)) Qm)) (qH 3 s) (Qj (QG 4 s (ZD (zJ Z) a (by decide) Qy (Qa 0) (Qd (Qa 2) Qm))) (Qj (J0 (jY uW PySem.F.plainAttrs_list PySem.F.slot_list_extend PySem.F.type_list_extend (Qa 1) (Qd (Qe7 Z.z2 Z.z3 rfl (Qx (QA a) (Qa 4) Qn) (Qx (QA a) (Qa 4) Qn)) Qm))) (Qj (Zo (Q4 m5 (Qx (QA a) (Qa 4) Qn) ZC (QU _)) (Qp (Qu (Qa 1))) QP) (Qp (QG 2 s (Qx (QA a) (Qa 4) Qn))))))) (Qp (Qu ZC))))
def Ys:XR P w K mg O8 "Shelf" "writings" 1 1 ZI:=hM Z.u4 ye λs _ _ _ _ _ _ _ a=>Qp (Qu (QH Z.k2 (Qa 0)))
def Yr:XR P w K mg O8 "Shelf" "readings" 1 1 ZH:=hM Z.u5 yd λs _ _ _ _ _ _ _ a=>Qp (Qu (QH Z.k1 (Qa 0)))
def X7:XR P w K mg O8 "Walk" "answer" 1 1 Q8:=hM Z.u6 UW λs _ _ _ _ _ _ _ a=>Qj (Zo (XH (XD (QH Z.k6 (Qa 0)))) (Qp (Qu ZC)) QP) (Qj (Zo (Q4 (XV a.units) (Qx (QA a) (QH Z.k4 (Qa 0)) Qn) QT (QU _)) (Qp (Qu (rQ Qe0 Z.z2 boot_list (Qd (QH Z.k5 (Qa 0)) Qm)))) QP) (Qp (Qu (QH Z.k3 (Qa 0)))))
def JK:XR P w K mg O8 "Walk" "over" 1 1 Zi:=hM Z.u7 vt λs _ _ _ _ _ _ _ a=>Qp (Qu (QH Z.k6 (Qa 0)))
theorem jy:XR P w K mg O8 "Walk" "read_pairs" 1 3 Xn:=hM Z.u8 xj λs _ _ _ _ _ _ _ a=>Qj (QG 3 s (Qx (QA a) (QH Z.k4 (Qa 0)) Qn)) (Qj (QG 4 s (Qx (QA a) (QH Z.k4 (Qa 0)) Qn)) (Qj (xF 5 s (caps:=["low", "high"]) (idx:=[3,4]) ⟨by with_unfolding_all rfl,by decide +kernel,rfl,by decide +kernel,rfl,(by exact⟨rfl,⟨rfl,trivial⟩⟩),by with_unfolding_all rfl,(by exact⟨rfl,.inl rfl,⟨_,rfl⟩,(λh=>NameKind.noConfusion (Ak (show some NameKind.cell=some NameKind.local from h))),⟨rfl,.inl rfl,⟨_,rfl⟩,(λh=>NameKind.noConfusion (Ak (show some NameKind.cell=some NameKind.local from h))),trivial⟩⟩),by decide⟩ rfl (Ua (Qe9 (by rfl) (by exact Z.z3) (Qx (QA a) (Qa 2) (Z7 Z.g2)) (Qx (QA a) (Qa 2) (Z7 Z.g3)))) (λ_ _ _ _=>jd (V9 pC vn (Qa 1) (Qx (QA a) (Qa 0) Qn) (Qa 2))) (λ_ _ _ _=>Qa 0)) (Qj (J0 (jY uW PySem.F.plainAttrs_list PySem.F.slot_list_extend PySem.F.type_list_extend (QH Z.k5 (Qa 0)) (Qd (Qa 5) Qm))) (Qj (Zo (DW.pt (uz (Q4 m5 (Qx (QA a) (Qa 2) (Z7 Z.g1)) ZC (QU _)) (GY (Q4 EY (Qx (QA a) (Qa 2) (Z7 Z.g1)) (Qa 4) (QU _))))) (Qj (Zr Z.k6 (Qa 0) Xe) (Qp (Qu (Zj (Qd QT (Qd (Qa 1) (Qd (rQ v9 Z.z4 boot_tuple (Qd (Qa 5) Qm)) (Qd ZC (Qd ZC Qm))))))))) QP) (Qj (Zr Z.k7 (Qa 0) (Qx (QA a) (Qa 2) (Z7 Z.g1))) (Qj (Zr Z.k8 (Qa 0) (Qx (QA a) (Qa 2) (Z7 Z.g0))) (Qp (Qu (Zj (Qd QT (Qd (Qa 1) (Qd (rQ v9 Z.z4 boot_tuple (Qd (Qa 5) Qm)) (Qd (QH Z.k8 (Qa 0)) (Qd (QH Z.k7 (Qa 0)) Qm))))))))))))))
theorem X6:XR P w K mg O8 "Shelf" "write" 2 3 JI:=hM Z.u9 UV λs _ _ _ _ _ _ _ a=>Qj (J0 (ZD (JF Z) a (by decide) Qy (Qa 0) (Qd (Qa 1) Qm))) (Qj (yz Z.k2 (Qa 0) Qn) (Qp (YW (Qa 2) (YU (QA a) (QH Z.k0 (Qa 0)) (Qa 1)))))
def xN:Has P w K mg O8 "refilled" 1 3 qB:=hf Z.Ot gB λs _ _ _ _ _ _ _ a=>Qp (Qu (Zj (Qd (JN (Qa 0) (Z7 Z.g4)) (Qd (Qa 1) (Qd (Qa 2) (Qd (JN (Qa 0) (Z7 Z.g1)) (Qd (JN (Qa 0) (Z7 Z.g0)) Qm)))))))
theorem Js:Has P w K mg O8 "count_not_above" 1 2 Zx:=hf Z.Oq xk λs _ _ _ _ _ _ _ a=>Qp (Qu (Xc yr Z.z0 PySem.boot_len (Qd (qc (caps:=["key"]) (idx:=[1]) ⟨by with_unfolding_all rfl,by decide +kernel,rfl,by decide +kernel,rfl,(by exact⟨rfl,trivial⟩),by with_unfolding_all rfl,(by exact⟨rfl,.inl rfl,⟨_,rfl⟩,(λh=>NameKind.noConfusion (Ak (show some NameKind.cell=some NameKind.local from h))),trivial⟩),by decide⟩ rfl (Ua (HX (Qa 0))) (λ_ _ _ _=>jd (Q4 pC (Qa 0) (Qa 1) (QU _))) (λ_ _ _ _=>Qa 0)) Qm)))
theorem q8:Has P w K mg O8 "count_below" 1 2 XM:=hf Z.Oo UY λs _ _ _ _ _ _ _ a=>Qp (Qu (Xc yr Z.z0 PySem.boot_len (Qd (qc (caps:=["key"]) (idx:=[1]) ⟨by with_unfolding_all rfl,by decide +kernel,rfl,by decide +kernel,rfl,(by exact⟨rfl,trivial⟩),by with_unfolding_all rfl,(by exact⟨rfl,.inl rfl,⟨_,rfl⟩,(λh=>NameKind.noConfusion (Ak (show some NameKind.cell=some NameKind.local from h))),trivial⟩),by decide⟩ rfl (Ua (HX (Qa 0))) (λ_ _ _ _=>jd (Q4 vn (Qa 0) (Qa 1) (QU _))) (λ_ _ _ _=>Qa 0)) Qm)))
theorem xO:Has P w K mg O8 "with_run" 2 4 qD:=hf Z.Om gD λs _ _ _ _ _ _ _ a=>Qj (QG 4 s (JN (Qa 0) (Z7 Z.g2))) (Qj (QG 5 s (JN (Qa 0) (Z7 Z.g3))) (Qj (QG 6 s (QE (q8 Z) a (by decide) Qy (Qd (Qa 4) (Qd (Qa 1) Qm)))) (Qj (QG 7 s (QE (Js Z) a (by decide) Qy (Qd (Qa 4) (Qd (Qa 1) Qm)))) (Qp (Qu (QE (xN Z) a (by decide) Qy (Qd (Qa 0) (Qd (QC Z8 (QC Z8 (qd (Qa 4) JY (JZ (Qa 6))) (Qa 2)) (qd (Qa 4) (JZ (Qa 7)) JY)) (Qd (QC Z8 (QC Z8 (qd (Qa 5) JY (JZ (Qa 6))) (Qa 3)) (qd (Qa 5) (JZ (Qa 7)) JY)) Qm)))))))))
theorem uO:Has P w K mg O8 "without" 3 2 yn:=hf Z.Ol Qav λs _ _ _ _ _ _ _ a=>Qp (Qu (QE (xO Z) a (by decide) Qy (Qd (Qa 0) (Qd (Qa 1) (Qd (Zj Qm) (Qd (Zj Qm) Qm))))))
theorem qJ:Has P w K mg O8 "worth_of" 2 2 Xb:=hf Z.Oj gE λs _ _ _ _ _ _ _ a=>Qj (QG 2 s (JN (Qa 0) (Z7 Z.g2))) (Qj (QG 3 s (QE (q8 Z) a (by decide) Qy (Qd (Qa 2) (Qd (Qa 1) Qm)))) (Qj (Zo (Q4 (rJ a.units) (Qa 3) (QE (Js Z) a (by decide) Qy (Qd (Qa 2) (Qd (Qa 1) Qm))) (QU _)) (Qp (Qu ZC)) QP) (Qp (Qu (JN (JN (Qa 0) (Z7 Z.g3)) (Qa 3))))))
theorem yD:XR P w K mg O8 "Walk" "cut_key" 4 3 Ym:=hM Z.u16 VB λs _ _ _ _ _ _ _ a=>Qj (Zr Z.k3 (Qa 0) (QE (qJ Z) a (by decide) Qy (Qd (Qa 2) (Qd (QH Z.k7 (Qa 0)) Qm)))) (Qj (Zo (Q4 Vc (QH Z.k3 (Qa 0)) ZC (QU _)) (Qp (J0 (ZD (X6 Z) a (by decide) Qy (QH Z.k9 (Qa 0)) (Qd (Qa 1) (Qd (QE (uO Z) a (by decide) Qy (Qd (Qa 2) (Qd (QH Z.k7 (Qa 0)) Qm))) Qm))))) QP) (Qj (Zr Z.k6 (Qa 0) Xe) (Qp (Qu (Zj (Qd QT (Qd (Qa 1) (Qd (QH Z.k3 (Qa 0)) Qm))))))))
def jG:XR P w K mg O8 "Shelf" "lay" 1 2 XQ:=hM Z.Oi vq λs _ _ _ _ _ _ _ a=>Qj (yz Z.k2 (Qa 0) Qn) (Qj (J0 (jY uV PySem.F.plainAttrs_list PySem.F.slot_list_append PySem.F.type_list_append (QH Z.k0 (Qa 0)) (Qd (Qa 1) Qm))) (Qp (Qu (QC Uw (Xc yr Z.z0 PySem.boot_len (Qd (QH Z.k0 (Qa 0)) Qm)) Qn))))
def kQ:Has P w K mg O8 "parted" 1 2 xt:=hf Z.Oh QcC λs _ _ _ _ _ _ _ a=>Qj (QG 2 s (JN (Qa 0) (Z7 Z.g4))) (Qj (QG 3 s (JN (Qa 0) (Z7 Z.g2))) (Qj (QG 4 s (JN (Qa 0) (Z7 Z.g3))) (Qj (QG 5 s (QC FW (Xc rR Z.z0 PySem.boot_len (Qd (Qa 3) Qm)) Qn)) (Qj (QG 6 s (JN (Qa 3) (Qa 5))) (Qj (QG 7 s (Fi (Q4 (rJ a.units) (Qa 2) Qn (QU _)) (Qa 5) (QC Z8 (Qa 5) Qn))) (Qj (QG 8 s (Zj (Qd (Qa 2) (Qd (qd (Qa 3) JY (JZ (Qa 5))) (Qd (qd (Qa 4) JY (JZ (Qa 7))) (Qd (Qa 6) (Qd (Qa 1) Qm))))))) (Qj (QG 9 s (Zj (Qd (Qa 2) (Qd (qd (Qa 3) (JZ (Qa 7)) JY) (Qd (qd (Qa 4) (JZ (Qa 7)) JY) (Qd (JN (Qa 0) (Z7 Z.g1)) (Qd (JN (Qa 0) (Z7 Z.g0)) Qm))))))) (Qp (Qu (Zj (Qd (Qa 8) (Qd (Qa 9) (Qd (Qa 6) Qm)))))))))))))
def Ue:XR P w K mg O8 "Shelf" "room" 1 1 JB:=hM Z.Og KE λs _ _ _ _ _ _ _ a=>Qp (Qu (QH Z.k10 (Qa 0)))
def uK:Has P w K mg O8 "is_full" 1 2 Yj:=hf Z.Oe Qar λs _ _ _ _ _ _ _ a=>Qp (Qu (XG wG (Xc rR Z.z0 PySem.boot_len (Qd (JN (Qa 0) (Z7 Z.g2)) Qm)) (Qa 1) (QU _)))
theorem qZ:XR P w K mg O8 "Walk" "settle" 3 3 XL:=hM Z.Od UX λs _ _ _ _ _ _ _ a=>Qj (Zo (XH (XD (QE (uK Z) a (by decide) Qy (Qd (Qa 2) (Qd (Zp (Ue Z) a (by decide) Qy (QH Z.k9 (Qa 0))) Qm))))) (Qj (J0 (ZD (X6 Z) a (by decide) Qy (QH Z.k9 (Qa 0)) (Qd (Qa 1) (Qd (Qa 2) Qm)))) (Qj (Zr Z.k6 (Qa 0) Xe) (Qp (Qu ZC)))) QP) (Qj (QG 3 s (QE (kQ Z) a (by decide) Qy (Qd (Qa 2) (Qd (Zp (X5 Z) a (by decide) Qy (QH Z.k9 (Qa 0))) Qm)))) (Qj (Zr Z.k11 (Qa 0) (ZD (jG Z) a (by decide) Qy (QH Z.k9 (Qa 0)) (Qd (Qx (QA a) (Qa 3) Qn) Qm))) (Qj (J0 (ZD (X6 Z) a (by decide) Qy (QH Z.k9 (Qa 0)) (Qd (Qa 1) (Qd (Qx (QA a) (Qa 3) Qn) Qm)))) (Qj (Zr Z.k7 (Qa 0) (Qx (QA a) (Qa 3) Qn)) (Qj (Zr Z.k13 (Qa 0) (QC Z8 (Qx (QA a) (Qa 2) (Z7 Z.g4)) Qn)) (Qj (Zr Z.k8 (Qa 0) (jY (Ia (QA a)) PySem.F.plainAttrs_dict PySem.F.slot_dict_get PySem.F.type_dict_get (QH Z.k12 (Qa 0)) (Qd (QH Z.k13 (Qa 0)) Qm))) (Qp (Qu (QH Z.k11 (Qa 0))))))))))
theorem Ky:Has P w K mg O8 "with_pair" 3 3 zy:=hf Z.Oc vB λs _ _ _ _ _ _ _ a=>Qp (Qu (QE (xO Z) a (by decide) Qy (Qd (Qa 0) (Qd (Qa 1) (Qd (Zj (Qd (Qa 1) Qm)) (Qd (Zj (Qd (Qa 2) Qm)) Qm))))))
theorem xM:XR P w K mg O8 "Walk" "put_pair" 4 3 XY:=hM Z.Ob yU λs _ _ _ _ _ _ _ a=>Qj (Zr Z.k3 (Qa 0) (QE (qJ Z) a (by decide) Qy (Qd (Qa 2) (Qd (QH Z.k7 (Qa 0)) Qm)))) (Qj (QG 3 s (ZD (qZ Z) a (by decide) Qy (Qa 0) (Qd (Qa 1) (Qd (QE (Ky Z) a (by decide) Qy (Qd (Qa 2) (Qd (QH Z.k7 (Qa 0)) (Qd (Qx (QA a) (QH Z.k4 (Qa 0)) Qn) Qm)))) Qm)))) (Qp (Qu (Zj (Qd QT (Qd (Qa 1) (Qd (QH Z.k3 (Qa 0)) (Qd (Qa 3) Qm))))))))
theorem jx:XR P w K mg O8 "Walk" "find_worth" 3 3 Xm:=hM Z.Oa xi λs _ _ _ _ _ _ _ a=>Qj (Zr Z.k3 (Qa 0) (QE (qJ Z) a (by decide) Qy (Qd (Qa 2) (Qd (QH Z.k7 (Qa 0)) Qm)))) (Qj (Zr Z.k6 (Qa 0) Xe) (Qp (Qu (Zj (Qd QT (Qd (Qa 1) (Qd (QH Z.k3 (Qa 0)) Qm)))))))
theorem yE:XR P w K mg O8 "Walk" "do_deed" 5 3 Yn:=hM Z.N_ VC λs _ _ _ _ _ _ _ a=>Qj (QG 3 s (Qx (QA a) (QH Z.k4 (Qa 0)) Qn)) (Qj (Zo (Q4 (XV a.units) (Qa 3) QT (QU _)) (Qp (Qu (ZD (jx Z) a (by decide) Qy (Qa 0) (Qd (Qa 1) (Qd (Qa 2) Qm))))) QP) (Qj (Zo (Q4 (XV a.units) (Qa 3) QT (QU _)) (Qp (Qu (ZD (xM Z) a (by decide) Qy (Qa 0) (Qd (Qa 1) (Qd (Qa 2) Qm))))) QP) (Qj (Zo (Q4 (XV a.units) (Qa 3) QT (QU _)) (Qp (Qu (ZD (yD Z) a (by decide) Qy (Qa 0) (Qd (Qa 1) (Qd (Qa 2) Qm))))) QP) (Qp (Qu (ZD (jy Z) a (by decide) Qy (Qa 0) (Qd (Qa 1) (Qd (Qa 2) Qm))))))))
theorem G4:Has P w K mg O8 "with_kid" 2 3 qC:=hf Z.N8 gC λs _ _ _ _ _ _ _ a=>Qj (QG 3 s (JN (Qa 0) (Z7 Z.g2))) (Qj (QG 4 s (JN (Qa 0) (Z7 Z.g3))) (Qj (QG 5 s (QE (Js Z) a (by decide) Qy (Qd (Qa 3) (Qd (Qa 1) Qm)))) (Qj (QG 6 s (QC Z8 (Qa 5) Qn)) (Qp (Qu (QE (xN Z) a (by decide) Qy (Qd (Qa 0) (Qd (QC Z8 (QC Z8 (qd (Qa 3) JY (JZ (Qa 5))) (Zj (Qd (Qa 1) Qm))) (qd (Qa 3) (JZ (Qa 5)) JY)) (Qd (QC Z8 (QC Z8 (qd (Qa 4) JY (JZ (Qa 6))) (Zj (Qd (Qa 2) Qm))) (qd (Qa 4) (JZ (Qa 6)) JY)) Qm)))))))))
theorem xa:XR P w K mg O8 "Walk" "tell_fork" 4 3 XF:=hM Z.N7 yf λs _ _ _ _ _ _ _ a=>Qj (QG 3 s (ZD (qZ Z) a (by decide) Qy (Qa 0) (Qd (Qa 1) (Qd (QE (G4 Z) a (by decide) Qy (Qd (Qa 2) (Qd (QH Z.k7 (Qa 0)) (Qd (QH Z.k11 (Qa 0)) Qm)))) Qm)))) (Qp (Qu (Zj (Qd QT (Qd (Qa 1) (Qd (Qa 3) Qm))))))
def zL:XR P w K mg O8 "Walk" "go_on" 1 4 JU:=hM Z.N6 KG λs _ _ _ _ _ _ _ a=>Qj (Zr Z.k8 (Qa 0) (Qa 3)) (Qp (Qu (Zj (Qd (Qa 1) (Qd (Qa 2) (Qd (Qa 3) Qm))))))
theorem uL:Has P w K mg O8 "kid_for" 2 2 Y4:=hf Z.N5 Qas λs _ _ _ _ _ _ _ a=>Qp (Qu (JN (JN (Qa 0) (Z7 Z.g3)) (QE (Js Z) a (by decide) Qy (Qd (JN (Qa 0) (Z7 Z.g2)) (Qd (Qa 1) Qm)))))
def kP:Has P w K mg O8 "beyond" 1 2 Y3:=hf Z.NZ QcB λs _ _ _ _ _ _ _ a=>Qj (QG 2 s (JN (Qa 0) (Z7 Z.g1))) (Qp (Qu (yw (XG Vc (Qa 2) ZC (QU _)) (GU (XG EY (Qa 1) (Qa 2) (QU _))))))
theorem zI:XR P w K mg O8 "Shelf" "raise_root" 2 3 Z0:=hM Z.NT jB λs _ _ _ _ _ _ _ a=>Qj (J0 (ZD (JF Z) a (by decide) Qy (Qa 0) (Qd (Qa 2) Qm))) (Qj (QG 3 s (QC Z8 (Qx (QA a) (Qx (QA a) (QH Z.k0 (Qa 0)) (QH Z.k14 (Qa 0))) (Z7 Z.g4)) Qn)) (Qj (Zr Z.k14 (Qa 0) (ZD (jG Z) a (by decide) Qy (Qa 0) (Qd (Zj (Qd (Qa 3) (Qd (Zj (Qd (Qa 1) Qm)) (Qd (Zj (Qd (QH Z.k14 (Qa 0)) (Qd (Qa 2) Qm))) (Qd ZC (Qd ZC Qm)))))) Qm))) (Qp (Qu (QH Z.k14 (Qa 0))))))
theorem YX:XR P w K mg O8 "Walk" "raise_root_over" 3 2 ZQ:=hM Z.u32 qr λs _ _ _ _ _ _ _ a=>Qj (Zr Z.k6 (Qa 0) Xe) (Qp (Qu (Zj (Qd QT (Qd (Qa 1) (Qd (ZD (zI Z) a (by decide) Qy (QH Z.k9 (Qa 0)) (Qd (QH Z.k7 (Qa 0)) (Qd (QH Z.k11 (Qa 0)) Qm))) Qm))))))
def Uf:XR P w K mg O8 "Shelf" "root" 1 1 JT:=hM Z.NQ KF λs _ _ _ _ _ _ _ a=>Qp (Qu (QH Z.k14 (Qa 0)))
theorem YY:XR P w K mg O8 "Walk" "step" 6 1 Jy:=hM Z.NP vv λs _ _ _ _ _ _ _ a=>Qj (Zo (XD (QH Z.k6 (Qa 0))) (Qp (Qu ZC)) QP) (Qj (QG 1 s (Fi (Q4 m5 (QH Z.k8 (Qa 0)) ZC (QU _)) (Zp (Uf Z) a (by decide) Qy (QH Z.k9 (Qa 0))) (QH Z.k8 (Qa 0)))) (Qj (QG 2 s (ZD (zJ Z) a (by decide) Qy (QH Z.k9 (Qa 0)) (Qd (Qa 1) Qm))) (Qj (Zo (DW.pt (yA (Q4 m5 (QH Z.k8 (Qa 0)) ZC (QU _)) (je (Q4 vn (Qx (QA a) (Qa 2) (Z7 Z.g4)) (QH Z.k13 (Qa 0)) (QU _))))) (Qp (Qu (ZD (YX Z) a (by decide) Qy (Qa 0) (Qd (Qa 1) Qm)))) QP) (Qj (Zo (XD (QE (kP Z) a (by decide) Qy (Qd (Qa 2) (Qd (QH Z.k7 (Qa 0)) Qm)))) (Qp (Qu (ZD (zL Z) a (by decide) Qy (Qa 0) (Qd QT (Qd (Qa 1) (Qd (Qx (QA a) (Qa 2) (Z7 Z.g0)) Qm)))))) QP) (Qj (Zo (Q4 wG (Qx (QA a) (Qa 2) (Z7 Z.g4)) (QH Z.k13 (Qa 0)) (QU _)) (Qj (YW (Qa 1) (YU (QA a) (QH Z.k12 (Qa 0)) (Qx (QA a) (Qa 2) (Z7 Z.g4)))) (Qp (Qu (ZD (zL Z) a (by decide) Qy (Qa 0) (Qd QT (Qd (Qa 1) (Qd (QE (uL Z) a (by decide) Qy (Qd (Qa 2) (Qd (QH Z.k7 (Qa 0)) Qm))) Qm))))))) QP) (Qj (Zo (Q4 wG (QH Z.k13 (Qa 0)) Qn (QU _)) (Qp (Qu (ZD (xa Z) a (by decide) Qy (Qa 0) (Qd (Qa 1) (Qd (Qa 2) Qm))))) QP) (Qp (Qu (ZD (yE Z) a (by decide) Qy (Qa 0) (Qd (Qa 1) (Qd (Qa 2) Qm)))))))))))
theorem Kw:Has P w K mg O8 "_law_still" 7 2 YB:=hf Z.NK vz λs _ _ _ _ _ _ _ a=>Qj (QG 2 s (Zj (Qd (Zp (Yr Z) a (by decide) Qy (Qa 0)) (Qd (Zp (Ys Z) a (by decide) Qy (Qa 0)) Qm)))) (Qj (GX PassesOwn.never rfl (jf (Qa 1)) (BN [3,4] s (by repeat' (first|exact trivial|refine⟨rfl,(by first|exact .inl rfl|exact .inr rfl),.inl rfl,?_⟩)) rfl (λ_ _ _=>rfl)) (Qp (Zo (DW.pt (uz (Q4 (rO a.units) (Zp (X7 Z) a (by decide) Qy (Qa 3)) (Qa 4) (QU _)) (uz (Q4 Vc (Zp (JK Z) a (by decide) Qy (Qa 3)) Xe (QU _)) (GY (Q4 Vc (Zp (YY Z) a (by decide) Qy (Qa 3)) ZC (QU _)))))) (Qp (Qu Xe)) QP))) (Qp (Qu (XG (XV a.units) (Zj (Qd (Zp (Yr Z) a (by decide) Qy (Qa 0)) (Qd (Zp (Ys Z) a (by decide) Qy (Qa 0)) Qm))) (Qa 2) (QU _)))))
theorem jA:Has P w K mg O8 "_law_worth_alike" 1 2 JM:=hf Z.Nz xm λs _ _ _ _ _ _ _ a=>Qj (Zo (Q4 m5 (Qa 1) ZC (QU _)) (Qp (Qu (XG m5 (Qa 0) ZC (QU _)))) QP) (Qp (Qu (yw (kH Z.z5 Z.z6 boot_int (by decide) (Qa 0)) (yw (BQ (kH Z.z5 Z.z7 boot_bool (by decide) (Qa 0))) (GU (XG (XV a.units) (Qa 0) (Qa 1) (QU _)))))))
theorem Ug:Has P w K mg O8 "_law_moment" 2 3 JD:=hf Z.Ny KI λs _ _ _ _ _ _ _ a=>Qj (QG 3 s (Qx (QA a) (Qa 1) QT)) (Qj (YW (QC Z8 (Qx (QA a) (Qa 1) QT) Qn) (YU (QA a) (Qa 1) QT)) (Qj (Zo (Q4 (XV a.units) (Qx (QA a) (Qa 0) Qn) QT (QU _)) (Qj (QG 4 s (Qx (QA a) (Qa 3) Qn)) (Qj (Zo (Q4 Vc (Qx (QA a) (Qa 0) Qn) ZC (QU _)) (Qp (QG 4 s (Qx (QA a) (Qa 0) Qn))) QP) (Qj (xF 5 s (caps:=["upto", "table", "state"]) (idx:=[4,2,1]) ⟨by with_unfolding_all rfl,by decide +kernel,rfl,by decide +kernel,rfl,(by exact⟨rfl,⟨rfl,⟨rfl,trivial⟩⟩⟩),by with_unfolding_all rfl,(by exact⟨rfl,.inl rfl,⟨_,rfl⟩,(λh=>NameKind.noConfusion (Ak (show some NameKind.cell=some NameKind.local from h))),⟨rfl,.inl rfl,⟨_,rfl⟩,(λh=>NameKind.noConfusion (Ak (show some NameKind.cell=some NameKind.local from h))),⟨rfl,.inl rfl,⟨_,rfl⟩,(λh=>NameKind.noConfusion (Ak (show some NameKind.cell=some NameKind.local from h))),trivial⟩⟩⟩),by decide⟩ rfl (jf (Xc (yt rfl) Z.z8 boot_sorted (Qd (Qa 2) Qm))) (λ_ _ _ _=>jd (V9 pC vn (Qx (QA a) (Qa 3) QT) (Qa 0) (Qa 1))) (λ_ _ _ _=>Zj (Qd (Qa 0) (Qd (Qx (QA a) (Qa 2) (Qa 0)) Qm)))) (Qj (YW (QC Z8 (Qx (QA a) (Qa 1) QT) (Qa 5)) (YU (QA a) (Qa 1) QT)) (Qj (YW (Qa 4) (YU (QA a) (Qa 1) QT)) (Qp (Qu (yw (XG (XV a.units) (Qx (QA a) (Qa 3) Qn) QT (QU _)) (yw (XG (XV a.units) (rQ HV Z.z2 boot_list (Qd (Qx (QA a) (Qa 0) Qn) Qm)) (Qa 5) (QU _)) (GU (XG pC (Qa 4) (Qx (QA a) (Qa 3) Qn) (QU _)))))))))))) QP) (Qj (YW (jY (Ia (QA a)) PySem.F.plainAttrs_dict PySem.F.slot_dict_get PySem.F.type_dict_get (Qa 2) (Qd (Qx (QA a) (Qa 3) Qn) Qm)) (YU (QA a) (Qa 1) QT)) (Qj (Zo (Q4 (XV a.units) (Qx (QA a) (Qa 3) Qn) QT (QU _)) (Qp (YW (Qx (QA a) (Qa 3) Qn) (YU (QA a) (Qa 2) (Qx (QA a) (Qa 3) Qn)))) QP) (Qj (Zo (DW.pt (yA (Q4 (XV a.units) (Qx (QA a) (Qa 3) Qn) QT (QU _)) (je (Q4 (wU (QA a)) (Qx (QA a) (Qa 3) Qn) (Qa 2) (by with_unfolding_all rfl))))) (Qp (J0 (jY Wp PySem.F.plainAttrs_dict PySem.F.slot_dict_pop PySem.F.type_dict_pop (Qa 2) (Qd (Qx (QA a) (Qa 3) Qn) Qm)))) QP) (Qj (Zo (Q4 (rO a.units) (Qx (QA a) (Mr (qI QT QT (qI QT QT (qI QT QT HW)))) (Qx (QA a) (Qa 0) Qn)) (Qx (QA a) (Qa 3) Qn) (QU _)) (Qp (Qu Xe)) QP) (Qp (Qu (QE (jA Z) a (by decide) Qy (Qd (Qx (QA a) (Qa 0) Qn) (Qd (Qx (QA a) (Qa 1) QT) Qm)))))))))))
theorem zd:Has P w K mg O8 "_law_stepped" 7 4 J4:=hf Z.Nx U0 λs _ _ _ _ _ _ _ a=>Qj (QG 4 s (Zp (YY Z) a (by decide) Qy (Qa 1))) (Qj (Zo (XH (XD (kH Z.z5 Z.z4 boot_tuple (by decide) (Qa 4)))) (Qp (Qu Xe)) QP) (Qj (Zo (Q4 (wU (QA a)) (Qx (QA a) (Qa 4) Qn) (Zj (Qd QT (Qd QT (Qd QT (Qd QT Qm))))) (by with_unfolding_all rfl)) (Qj (Zo (XH (XD (QE (Ug Z) a (by decide) Qy (Qd (Qa 4) (Qd (Qa 2) (Qd (Qa 3) Qm)))))) (Qp (Qu Xe)) QP) (Qj (xF 6 s (caps:=["table"]) (idx:=[3]) ⟨by with_unfolding_all rfl,by decide +kernel,rfl,by decide +kernel,rfl,(by exact⟨rfl,trivial⟩),by with_unfolding_all rfl,(by exact⟨rfl,.inl rfl,⟨_,rfl⟩,(λh=>NameKind.noConfusion (Ak (show some NameKind.cell=some NameKind.local from h))),trivial⟩),by decide⟩ rfl (jf (Xc (yt rfl) Z.z8 boot_sorted (Qd (Qa 3) Qm))) (λ_ _ _ _=>VI) (λ_ _ _ _=>Zj (Qd (Qa 0) (Qd (Qx (QA a) (Qa 1) (Qa 0)) Qm)))) (Qp (Zo (DW.pt (yA (Q4 (wU (QA a)) (Qx (QA a) (Qa 4) Qn) (Zj (Qd QT (Qd QT Qm))) (by with_unfolding_all rfl)) (je (Q4 (rO a.units) (QE (zM Z) a (by decide) Qy (Qd (Qa 0) Qm)) (Qa 6) (QU _))))) (Qp (Qu Xe)) QP)))) QP) (Qj (Zo (XH (XD (Zp (JK Z) a (by decide) Qy (Qa 1)))) (Qp (Qu Xe)) QP) (Qj (QG 5 s (XG (XV a.units) (Qx (QA a) (Qx (QA a) (Qa 2) QT) Qn) QT (QU _))) (Qj (Zo (DW.pt (uz (Q4 (XV a.units) (Qx (QA a) (Qa 2) QT) Qn (QU _)) (GY (DW.pt (yA (XH (XD (Qa 5))) (je (Q4 (rO a.units) (Qx (QA a) (Qa 2) QT) Qn (QU _)))))))) (Qp (Qu Xe)) QP) (Qp (Qu (yw (XG (XV a.units) (Zp (X7 Z) a (by decide) Qy (Qa 1)) (Qx (QA a) (Qa 2) QT) (QU _)) (GU (XG (XV a.units) (Qe6 Z.z5 Z.z2 boot_list (by decide) (Zp (X7 Z) a (by decide) Qy (Qa 1))) (Qa 5) (QU _)))))))))))
theorem xb:Has P w K mg O8 "_law_to_the_end" 8 4 JV:=hf Z.Nv yg λs _ _ _ _ _ _ _ a=>Qj (V8 PassesOwn.never rfl (JX rfl Z.z1 (Qd (QC Z8 (QC jM Qn (Zp (X5 Z) a (by decide) Qy (Qa 0))) Qn) Qm)) (qH 4 s) (Qj (xF 5 s (caps:=["walks"]) (idx:=[1]) ⟨by with_unfolding_all rfl,by decide +kernel,rfl,by decide +kernel,rfl,(by exact⟨rfl,trivial⟩),by with_unfolding_all rfl,(by exact⟨rfl,.inl rfl,⟨_,rfl⟩,(λh=>NameKind.noConfusion (Ak (show some NameKind.cell=some NameKind.local from h))),trivial⟩),by decide⟩ rfl (Ua (JX rfl Z.z1 (Qd (Xc yr Z.z0 PySem.boot_len (Qd (Qa 1) Qm)) Qm))) (λ_ _ _ _=>jd (DW.pt (yA (Q4 Vc (Qx (QA a) (Qa 1) (Qa 0)) ZC (QU _)) (je (XH (XD (Zp (JK Z) a (by decide) Qy (Qx (QA a) (Qa 1) (Qa 0))))))))) (λ_ _ _ _=>Qa 0)) (Qj (Zo (Q4 (W6 a.units) (Qa 5) (GR Qm) (QU _)) (Qp (Qu Xe)) QP) (Qp (GX PassesOwn.never rfl (jf (Qa 5)) (qH 6 s) (Qp (Zo (XH (XD (QE (zd Z) a (by decide) Qy (Qd (Qa 0) (Qd (Qx (QA a) (Qa 1) (Qa 6)) (Qd (Qx (QA a) (Qa 2) (Qa 6)) (Qd (Qa 3) Qm))))))) (Qp (Qu Xe)) QP))))))) (Qp (Qu Xe))
def Q5:Has P w K mg O8 "_law_pick" 1 3 Qw:=hf Z.Nu gA λs _ _ _ _ _ _ _ a=>Qj (QG 3 s (QC Vd (QC Z8 (Qa 0) (QC FW (Qa 1) Qn)) (Qa 1))) (Qp (Qu (QC Vd (QC Vd (QC jM (QC Vd (QC jM (Qa 3) (Qa 3)) (Qa 1)) (Qa 3)) (Qa 1)) (Qa 2))))
def YD:pH P w K mg O8 "Walk" 1 3 ZL:=hI Z.Nt yT λs _ _ _ _ _ _ _ a=>Qj (Zr Z.k9 (Qa 0) (Qa 1)) (Qj (Zr Z.k4 (Qa 0) (Qa 2)) (Qj (Zr Z.k7 (Qa 0) (Qx (QA a) (Qa 2) Qn)) (Qj (Zr Z.k13 (Qa 0) Qn) (Qj (Zr Z.k8 (Qa 0) ZC) (Qj (Zr Z.k12 (Qa 0) uu) (Qj (Zr Z.k11 (Qa 0) ZC) (Qj (Zr Z.k3 (Qa 0) ZC) (Qj (Zr Z.k5 (Qa 0) (VH Qm)) (Qp (Zr Z.k6 (Qa 0) Xe))))))))))
theorem Kx:Has P w K mg O8 "_law_worth" 2 1 zx:=hf Z.Nr vA λs _ _ _ _ _ _ _ a=>Qj (Zo (Q4 (rJ a.units) (QE (Q5 Z) a (by decide) Qy (Qd (Qa 0) (Qd Qn (Qd Qn Qm)))) Qn (QU _)) (Qp (Qu (QC Uw (QC Vd (QC Z8 (QC jM (QC Vd (Qa 0) (QC jN Qn Qn)) Qn) Qn) (QC Z8 (QC jM Qn (QC jN Qn Qn)) Qn)) (QC jN Qn Qn)))) QP) (Qp (Qu (QC Uw (QE (Q5 Z) a (by decide) Qy (Qd (Qa 0) (Qd Qn (Qd Qn Qm)))) Qn)))
theorem uM:Has P w K mg O8 "_law_key" 2 1 Y5:=hf Z.Nq Qat λs _ _ _ _ _ _ _ a=>Qj (QG 1 s (QE (Q5 Z) a (by decide) Qy (Qd (Qa 0) (Qd Qn (Qd Qn Qm))))) (Qj (Zo (Q4 (rJ a.units) (Qa 1) Qn (QU _)) (Qp (Qu (QC Uw (QC Vd (QC Z8 (QC jM (QC Vd (Qa 0) (QC jN Qn Qn)) Qn) Qn) (QC Z8 (QC jM Qn (QC jN Qn Qn)) Qn)) (QC jN Qn Qn)))) QP) (Qp (Qu (QC Uw (QE (Q5 Z) a (by decide) Qy (Qd (Qa 0) (Qd Qn (Qd (JN (GR (Qd Qn (Qd Qn (Qd Qn (Qd Qn (Qd Qn Qm)))))) (Qa 1)) Qm)))) Qn))))
theorem G2:Has P w K mg O8 "_law_deed" 3 1 qz:=hf Z.Np gy λs _ _ _ _ _ _ _ a=>Qj (QG 1 s (QE (Q5 Z) a (by decide) Qy (Qd (Qa 0) (Qd Qn (Qd Qn Qm))))) (Qj (QG 2 s (QE (uM Z) a (by decide) Qy (Qd (Qa 0) Qm))) (Qj (Zo (Q4 vn (Qa 1) Qn (QU _)) (Qp (Qu (Zj (Qd QT (Qd (Qa 2) (Qd (QE (Kx Z) a (by decide) Qy (Qd (Qa 0) Qm)) Qm)))))) QP) (Qj (Zo (Q4 vn (Qa 1) Qn (QU _)) (Qp (Qu (Zj (Qd QT (Qd (Qa 2) Qm))))) QP) (Qj (Zo (Q4 vn (Qa 1) Qn (QU _)) (Qp (Qu (Zj (Qd QT (Qd (Qa 2) Qm))))) QP) (Qj (QG 3 s (Xc (wX rfl) Z.z9 boot_min (Qd (Qa 2) (Qd (QC Uw (QC jN Qn Qn) Qn) Qm)))) (Qj (QG 4 s (Xc (wX rfl) Z.z9 boot_min (Qd (QC jN Qn Qn) (Qd (QC Z8 (QC Z8 (Qa 3) Qn) (QE (Q5 Z) a (by decide) Qy (Qd (Qa 0) (Qd Qn (Qd Qn Qm))))) Qm)))) (Qj (QG 5 s (Xc (wX rfl) Z.z9 boot_min (Qd (QC jN Qn Qn) (Qd (QC Z8 (QC Z8 (Qa 3) Qn) (QE (Q5 Z) a (by decide) Qy (Qd (Qa 0) (Qd Qn (Qd Qn Qm))))) Qm)))) (Qp (Qu (Zj (Qd QT (Qd (Qa 3) (Qd (JN (GR (Qd (QC Z8 (Qa 3) Qn) (Qd (Qa 4) (Qd (Qa 5) (Qd (QC jN Qn Qn) Qm))))) (QE (Q5 Z) a (by decide) Qy (Qd (Qa 0) (Qd Qn (Qd Qn Qm))))) Qm)))))))))))))
theorem uN:Has P w K mg O8 "_law_new" 4 6 zZ:=Rg Z.Nm Qau λs _ _ _ _ _ _ _ a=>Qj (QG 6 s (QE (G2 Z) a (by decide) Qy (Qd (Qa 4) Qm))) (Qj (Zo (Q4 Vc (Qx (QA a) (Qa 1) (Qa 3)) ZC (QU _)) (Qp (J0 (jY uV PySem.F.plainAttrs_list PySem.F.slot_list_append PySem.F.type_list_append (Qa 5) (Qd (Zj (Qd (Qx (QA a) (Qa 1) (Qa 3)) (Qd (Qx (QA a) (Qx (QA a) (Qa 2) (Qa 3)) QT) Qm))) Qm)))) QP) (Qj (YW (GT (YD Z) a (by decide) Qy (Qd (Qa 0) (Qd (Qa 6) Qm))) (YU (QA a) (Qa 1) (Qa 3))) (Qj (YW (Mr (qI QT (Qa 6) (qI QT (Qx (QA a) (Qa 6) Qn) (qI QT Qn (qI QT (GR Qm) HW))))) (YU (QA a) (Qa 2) (Qa 3))) (Qp (Qu (QE (Q5 Z) a (by decide) Qy (Qd (Qa 4) (Qd Qn (Qd Qn Qm)))))))))
theorem G3:Has P w K mg O8 "_law_done" 7 2 qA:=hf Z.Nk gz λs _ _ _ _ _ _ _ a=>Qj (QG 2 s (GT (YD Z) a (by decide) Qy (Qd (Qa 0) (Qd (Qa 1) Qm)))) (Qj (V8 PassesOwn.never rfl (JX rfl Z.z1 (Qd Qn Qm)) (qH 3 s) (Qj (Zo (XD (Zp (JK Z) a (by decide) Qy (Qa 2))) (Qp (Qu (Qa 2))) QP) (Qp (J0 (Zp (YY Z) a (by decide) Qy (Qa 2)))))) (Qp (Qu (Qa 2))))
def j9:pH P w K mg O8 "Shelf" 1 2 ZZ:=hI Z.Nj yc λs _ _ _ _ _ _ _ c=>let ⟨_,b,a⟩:=Z.t0.ex;Qj (Zr Z.k10 (Qa 0) (Qa 1)) (Qj (Zr Z.k0 (Qa 0) (VH (Qd (Qe5 rfl b a) Qm))) (Qj (Zr Z.k14 (Qa 0) Qn) (Qj (Zr Z.k1 (Qa 0) Qn) (Qp (Zr Z.k2 (Qa 0) Qn)))))
theorem Kv:Has P w K mg O8 "_law_begun" 8 2 YA:=hf Z.Ni vw λs _ _ _ _ _ _ _ a=>Qj (QG 2 s (GT (j9 Z) a (by decide) Qy (Qd (QC Z8 Qn (QC jM (QE (Q5 Z) a (by decide) Qy (Qd (Qa 0) (Qd Qn (Qd Qn Qm)))) (QE (Q5 Z) a (by decide) Qy (Qd (Qa 0) (Qd Qn (Qd Qn Qm)))))) Qm))) (Qj (QG 3 s (QE (Q5 Z) a (by decide) Qy (Qd (Qa 0) (Qd Qn (Qd Qn Qm))))) (Qj (Zo (Q4 (XV a.units) (QE (Q5 Z) a (by decide) Qy (Qd (Qa 0) (Qd Qn (Qd Qn Qm)))) Qn (QU _)) (Qp (QG 3 s Qn)) QP) (Qj (V8 PassesOwn.never rfl (JX rfl Z.z1 (Qd (Qa 3) Qm)) (qH 4 s) (Qj (QG 5 s (QC Uw (QE (Q5 Z) a (by decide) Qy (Qd (QC Z8 (Qa 0) (QC jM Qn (Qa 4))) (Qd Qn (Qd Qn Qm)))) Qn)) (Qj (J0 (QE (G3 Z) a (by decide) Qy (Qd (Qa 2) (Qd (Zj (Qd QT (Qd (Qa 5) (Qd (Qa 4) Qm)))) Qm)))) (Qp (YW (Qa 4) (YU (QA a) (Qa 1) (Qa 5))))))) (Qp (Qu (Qa 2))))))
def Vz:Has P w K mg O8 "_law_cell_at" 1 2 JJ:=hf Z.Nh UZ λs _ _ _ _ _ _ _ a=>Qj (Zo (Q4 vn (Qa 1) (Xc rR Z.z0 PySem.boot_len (Qd (Qa 0) Qm)) (QU _)) (Qp (Qu (JN (Qa 0) (Qa 1)))) QP) (Qp (Qu Qn))
theorem law_fn{g:Addr}{fd:FuncData}(F:Fun K "law" "law" Vi g fd):zA P w K mg O8 CX0 9 g fd ["script"] (iJ K 1 vT):=WM F iV λ_ _ _ _ _ _ a=>have s:=iV.nd;Qj (QG 1 s (QE (Vz Z) a (by decide) Qy (Qd (Qa 0) (Qd Qn Qm)))) (Qj (QG 2 s uu) (Qj (QG 3 s (QE (Kv Z) a (by decide) Qy (Qd (Qa 1) (Qd (Qa 2) Qm)))) (Qj (QG 4 s (QC Z8 Qn (QE (Q5 Z) a (by decide) Qy (Qd (Qa 1) (Qd Qn (Qd Qn Qm)))))) (Qj (QG 5 s (qc (caps:=[]) (idx:=[]) ⟨by with_unfolding_all rfl,by decide +kernel,rfl,by decide +kernel,rfl,(by exact trivial),by with_unfolding_all rfl,(by exact trivial),by decide⟩ rfl (Ua (JX rfl Z.z1 (Qd (Qa 4) Qm))) (λ_ _ _ _=>VI) (λ_ _ _ _=>ZC))) (Qj (QG 6 s (qc (caps:=[]) (idx:=[]) ⟨by with_unfolding_all rfl,by decide +kernel,rfl,by decide +kernel,rfl,(by exact trivial),by with_unfolding_all rfl,(by exact trivial),by decide⟩ rfl (Ua (JX rfl Z.z1 (Qd (Qa 4) Qm))) (λ_ _ _ _=>VI) (λ_ _ _ _=>ZC))) (Qj (QG 7 s (VH Qm)) (Qj (GX PassesOwn.never rfl (jf (qd (Qa 0) JY (JZ Qn))) (qH 8 s) (Qj (QG 9 s (QE (Q5 Z) a (by decide) Qy (Qd (Qa 8) (Qd Qn (Qd (Qa 4) Qm))))) (Qj (QG 10 s (QC Z8 Qn (QE (Q5 Z) a (by decide) Qy (Qd (Qa 8) (Qd Qn (Qd Qn Qm)))))) (Qj (Zo (DW.pt (uz (Q4 m5 (Qx (QA a) (Qa 5) (Qa 9)) ZC (QU _)) (GY (XD (Zp (JK Z) a (by decide) Qy (Qx (QA a) (Qa 5) (Qa 9))))))) (Qp (QG 10 s (QC jM (Qa 10) (QE (uN Z) a (by decide) Qy (Qd (Qa 3) (Qd (Qa 5) (Qd (Qa 6) (Qd (Qa 9) (Qd (Qa 8) (Qd (Qa 7) Qm)))))))))) QP) (Qp (V8 PassesOwn.never rfl (JX rfl Z.z1 (Qd (Qa 10) Qm)) (qH 11 s) (Qp (Zo (DW.pt (yA (XH (XD (Zp (JK Z) a (by decide) Qy (Qx (QA a) (Qa 5) (Qa 9))))) (je (XH (XD (QE (zd Z) a (by decide) Qy (Qd (Qa 3) (Qd (Qx (QA a) (Qa 5) (Qa 9)) (Qd (Qx (QA a) (Qa 6) (Qa 9)) (Qd (Qa 2) Qm)))))))))) (Qp (Qu Xe)) QP)))))))) (Qj (Zo (XH (XD (QE (xb Z) a (by decide) Qy (Qd (Qa 3) (Qd (Qa 5) (Qd (Qa 6) (Qd (Qa 2) Qm))))))) (Qp (Qu Xe)) QP) (Qj (QG 7 s (QC MX (Qa 7) (qc (caps:=["walks", "states"]) (idx:=[5,6]) ⟨by with_unfolding_all rfl,by decide +kernel,rfl,by decide +kernel,rfl,(by exact⟨rfl,⟨rfl,trivial⟩⟩),by with_unfolding_all rfl,(by exact⟨rfl,.inl rfl,⟨_,rfl⟩,(λh=>NameKind.noConfusion (Ak (show some NameKind.cell=some NameKind.local from h))),⟨rfl,.inl rfl,⟨_,rfl⟩,(λh=>NameKind.noConfusion (Ak (show some NameKind.cell=some NameKind.local from h))),trivial⟩⟩),by decide⟩ rfl (Ua (JX rfl Z.z1 (Qd (Qa 4) Qm))) (λ_ _ _ _=>jd (Q4 Vc (Qx (QA a) (Qa 1) (Qa 0)) ZC (QU _))) (λ_ _ _ _=>Zj (Qd (Qx (QA a) (Qa 1) (Qa 0)) (Qd (Qx (QA a) (Qx (QA a) (Qa 2) (Qa 0)) QT) Qm)))))) (Qj (Zo (XH (XD (QE (Kw Z) a (by decide) Qy (Qd (Qa 3) (Qd (Qa 7) Qm))))) (Qp (Qu Xe)) QP) (Qp (Qu (XG (XV a.units) (QE (zM Z) a (by decide) Qy (Qd (Qa 3) Qm)) (qc (caps:=["table"]) (idx:=[2]) ⟨by with_unfolding_all rfl,by decide +kernel,rfl,by decide +kernel,rfl,(by exact⟨rfl,trivial⟩),by with_unfolding_all rfl,(by exact⟨rfl,.inl rfl,⟨_,rfl⟩,(λh=>NameKind.noConfusion (Ak (show some NameKind.cell=some NameKind.local from h))),trivial⟩),by decide⟩ rfl (jf (Xc (yt rfl) Z.z8 boot_sorted (Qd (Qa 2) Qm))) (λ_ _ _ _=>VI) (λ_ _ _ _=>Zj (Qd (Qa 0) (Qd (Qx (QA a) (Qa 1) (Qa 0)) Qm)))) (QU _))))))))))))))
end
def aN(r:Int)(k:Nat)(t a b:Int):List (Str×DV):=[("page_room", .int r),("kept", .ref k),("top", .int t),("read_count", .int a),("write_count", .int b)]
theorem QeD(r:Int)(k:Nat)(t a b:Int):List.lookup ("page_room" : Str) (aN r k t a b)=some (DV.int r):=by rfl
theorem qt(r:Int)(k:Nat)(t a b:Int):List.lookup ("kept" : Str) (aN r k t a b)=some (DV.ref k):=by rfl
theorem Mf(r:Int)(k:Nat)(t a b:Int):List.lookup ("top" : Str) (aN r k t a b)=some (DV.int t):=by rfl
theorem wO(r:Int)(k:Nat)(t a b:Int):List.lookup ("write_count" : Str) (aN r k t a b)=some (DV.int b):=by rfl
theorem Fx(r:Int)(k:Nat)(t a b:Int):List.lookup ("read_count" : Str) (aN r k t a b)=some (DV.int a):=by rfl
theorem gJ(r:Int)(k:Nat)(t a b c:Int):Xw ("write_count" : Str) (.int c) (aN r k t a b)=aN r k t a c:=by rfl
theorem QeB(r:Int)(k:Nat)(t a b c:Int):Xw ("read_count" : Str) (.int c) (aN r k t a b)=aN r k t c b:=by rfl
theorem QeC(r:Int)(k:Nat)(t a b c:Int):Xw ("top" : Str) (.int c) (aN r k t a b)=aN r k c a b:=by rfl
def VQ(r:Int)(k:Nat)(t a b:Int):(aN r k t a b).length=5:=rfl
theorem yV(r:Int)(k:Nat)(t a b:Int):List.lookup ("check_number" : Str) (aN r k t a b)=none:=by rfl
theorem Gv(r:Int)(k:Nat)(t a b:Int):List.lookup ("lay" : Str) (aN r k t a b)=none:=by rfl
theorem U2(r:Int)(k:Nat)(t a b:Int):List.lookup ("read" : Str) (aN r k t a b)=none:=by rfl
theorem zW(r:Int)(k:Nat)(t a b:Int):List.lookup ("write" : Str) (aN r k t a b)=none:=by rfl
theorem Qay(r:Int)(k:Nat)(t a b:Int):List.lookup ("root" : Str) (aN r k t a b)=none:=by rfl
theorem gI(r:Int)(k:Nat)(t a b:Int):List.lookup ("raise_root" : Str) (aN r k t a b)=none:=by rfl
theorem SC(r:Int)(k:Nat)(t a b:Int):List.lookup ("room" : Str) (aN r k t a b)=none:=by rfl
theorem zV(r:Int)(k:Nat)(t a b:Int):List.lookup ("pages" : Str) (aN r k t a b)=none:=by rfl
theorem SD(r:Int)(k:Nat)(t a b:Int):List.lookup ("readings" : Str) (aN r k t a b)=none:=by rfl
theorem QeA(r:Int)(k:Nat)(t a b:Int):List.lookup ("writings" : Str) (aN r k t a b)=none:=by rfl
section
variable{r t a b:Int}{n k:Nat}{ps:List DV}{U:Hs}
theorem Ux(h1:U[n]?=some (.ins "Shelf" (aN r k t a b)))(h2:U[k]?=some (.lst ps)):Jj [.ref n] U=some (.int ps.length,U):=by simp[Jj,jD,Zb,Qq,QD,QF,YI,aL,Q6,x3,jZ,xY,xZ,Qi,Qb,eC,eB,cP,J1,cA,Jk,Jm,xI,Yc,cL,xH,Ql,Qc,Zk,Ye,Qs,ZO,QB,gN,ZN,Ji,Je,Z3,Jt,Jq,Jg,Xv,YG,xV,ZS,JO,ZY,Zf,Yx,UK,Jw,bB,xg,JL,Xi,QN,j7,xo,eN,fC,dH,Jf,Xt,Yd,Xs,aA,Yw,qM,Yz,JR,YV,cF,jv,Ka,Qz,J6,Xf,J3,Xq,d9,ZG,Xy,run_pure,JS,Jv,Xx,run_set,Xz,Zl,QV,Z1,h1,h2,qt]
theorem Sr(h1:U[n]?=some (.ins "Shelf" (aN r k t a b))):JT [.ref n] U=some (.int t,U):=by simp[JT,xx,Zb,Qq,QD,QF,YI,aL,Q6,x3,jZ,xY,xZ,Qi,Qb,eC,eB,cP,J1,cA,Jk,Jm,xI,Yc,cL,xH,Ql,Qc,Zk,Ye,Qs,ZO,QB,gN,ZN,Ji,Je,Z3,Jt,Jq,Jg,Xv,YG,xV,ZS,JO,ZY,Zf,Yx,UK,Jw,bB,xg,JL,Xi,QN,j7,xo,eN,fC,dH,Jf,Xt,Yd,Xs,aA,Yw,qM,Yz,JR,YV,cF,jv,Ka,Qz,J6,Xf,J3,Xq,d9,ZG,Xy,run_pure,JS,Jv,Xx,run_set,Xz,Zl,QV,Z1,h1,Mf]
theorem Su(h1:U[n]?=some (.ins "Shelf" (aN r k t a b))):JB [.ref n] U=some (.int r,U):=by simp[JB,xw,Zb,Qq,QD,QF,YI,aL,Q6,x3,jZ,xY,xZ,Qi,Qb,eC,eB,cP,J1,cA,Jk,Jm,xI,Yc,cL,xH,Ql,Qc,Zk,Ye,Qs,ZO,QB,gN,ZN,Ji,Je,Z3,Jt,Jq,Jg,Xv,YG,xV,ZS,JO,ZY,Zf,Yx,UK,Jw,bB,xg,JL,Xi,QN,j7,xo,eN,fC,dH,Jf,Xt,Yd,Xs,aA,Yw,qM,Yz,JR,YV,cF,jv,Ka,Qz,J6,Xf,J3,Xq,d9,ZG,Xy,run_pure,JS,Jv,Xx,run_set,Xz,Zl,QV,Z1,h1,QeD]
theorem gj(h1:U[n]?=some (.ins "Shelf" (aN r k t a b))):ZH [.ref n] U=some (.int a,U):=by simp[ZH,Y8,Zb,Qq,QD,QF,YI,aL,Q6,x3,jZ,xY,xZ,Qi,Qb,eC,eB,cP,J1,cA,Jk,Jm,xI,Yc,cL,xH,Ql,Qc,Zk,Ye,Qs,ZO,QB,gN,ZN,Ji,Je,Z3,Jt,Jq,Jg,Xv,YG,xV,ZS,JO,ZY,Zf,Yx,UK,Jw,bB,xg,JL,Xi,QN,j7,xo,eN,fC,dH,Jf,Xt,Yd,Xs,aA,Yw,qM,Yz,JR,YV,cF,jv,Ka,Qz,J6,Xf,J3,Xq,d9,ZG,Xy,run_pure,JS,Jv,Xx,run_set,Xz,Zl,QV,Z1,h1,Fx]
theorem kn(h1:U[n]?=some (.ins "Shelf" (aN r k t a b))):ZI [.ref n] U=some (.int b,U):=by simp[ZI,Y9,Zb,Qq,QD,QF,YI,aL,Q6,x3,jZ,xY,xZ,Qi,Qb,eC,eB,cP,J1,cA,Jk,Jm,xI,Yc,cL,xH,Ql,Qc,Zk,Ye,Qs,ZO,QB,gN,ZN,Ji,Je,Z3,Jt,Jq,Jg,Xv,YG,xV,ZS,JO,ZY,Zf,Yx,UK,Jw,bB,xg,JL,Xi,QN,j7,xo,eN,fC,dH,Jf,Xt,Yd,Xs,aA,Yw,qM,Yz,JR,YV,cF,jv,Ka,Qz,J6,Xf,J3,Xq,d9,ZG,Xy,run_pure,JS,Jv,Xx,run_set,Xz,Zl,QV,Z1,h1,wO]
theorem V2{i:Int}(h1:U[n]?=some (.ins "Shelf" (aN r k t a b)))(h2:U[k]?=some (.lst ps))(c:0<=i)(e:i<ps.length):
  Zu [.ref n,.int i] U=some (.non,U):=by
 have f:¬ i<0:=⋯
 have h:¬ (ps.length:Int)<=i:=⋯
 simp[Zu,XS,Zb,Qq,QD,QF,YI,aL,Q6,x3,jZ,xY,xZ,Qi,Qb,eC,eB,cP,J1,cA,Jk,Jm,xI,Yc,cL,xH,Ql,Qc,Zk,Ye,Qs,ZO,QB,gN,ZN,Ji,Je,Z3,Jt,Jq,Jg,Xv,YG,xV,ZS,JO,ZY,Zf,Yx,UK,Jw,bB,xg,JL,Xi,QN,j7,xo,eN,fC,dH,Jf,Xt,Yd,Xs,aA,Yw,qM,Yz,JR,YV,cF,jv,Ka,Qz,J6,Xf,J3,Xq,d9,ZG,Xy,run_pure,JS,Jv,Xx,run_set,Xz,Zl,QV,Z1,Xp,h1,h2,qt,c,e,f,h]
theorem Iu{i:Nat}(h1:U[n]?=some (.ins "Shelf" (aN r k t a b)))(h2:U[k]?=some (.lst ps))(e:n≠k)(hd:ps[i]?=some d):
  Jc [.ref n,.int i] U=some (d,U.set n (.ins "Shelf" (aN r k t (a+1) b))):=by
 have h:i<ps.length:=Zw hd;have c:=V2 (i:=(i:Int)) h1 h2 ⋯ ⋯;have f:=ja hd;simp[Jc,xu,Zb,Qq,QD,QF,YI,aL,Q6,x3,jZ,xY,xZ,Qi,Qb,eC,eB,cP,J1,cA,Jk,Jm,xI,Yc,cL,xH,Ql,Qc,Zk,Ye,Qs,ZO,QB,gN,ZN,Ji,Je,Z3,Jt,Jq,Jg,Xv,YG,xV,ZS,JO,ZY,Zf,Yx,UK,Jw,bB,xg,JL,Xi,QN,j7,xo,eN,fC,dH,Jf,Xt,Yd,Xs,aA,Yw,qM,Yz,JR,YV,cF,jv,Ka,Qz,J6,Xf,J3,Xq,d9,ZG,Xy,run_pure,JS,Jv,Xx,run_set,Xz,Zl,QV,Z1,h1,h2,c,qt,Fx,QeB,VQ,yV,f,e,e.symm]
theorem Kh{i:Nat}{d:DV}(h1:U[n]?=some (.ins "Shelf" (aN r k t a b)))(h2:U[k]?=some (.lst ps))(e:n≠k)(f:i<ps.length):
  JI [.ref n,.int i,d] U=some (.non,(U.set n (.ins "Shelf" (aN r k t a (b+1)))).set k (.lst (ps.set i d))):=by
 have c:=V2 (i:=(i:Int)) h1 h2 ⋯ ⋯;simp[JI,jE,Zb,Qq,QD,QF,YI,aL,Q6,x3,jZ,xY,xZ,Qi,Qb,eC,eB,cP,J1,cA,Jk,Jm,xI,Yc,cL,xH,Ql,Qc,Zk,Ye,Qs,ZO,QB,gN,ZN,Ji,Je,Z3,Jt,Jq,Jg,Xv,YG,xV,ZS,JO,ZY,Zf,Yx,UK,Jw,bB,xg,JL,Xi,QN,j7,xo,eN,fC,dH,Jf,Xt,Yd,Xs,aA,Yw,qM,Yz,JR,YV,cF,jv,Ka,Qz,J6,Xf,J3,Xq,d9,ZG,Xy,run_pure,JS,Jv,Xx,run_set,Xz,Zl,QV,Z1,h1,h2,c,qt,wO,gJ,VQ,yV,e,e.symm,Lh f]
theorem Ib{pg:DV}(h1:U[n]?=some (.ins "Shelf" (aN r k t a b)))(h2:U[k]?=some (.lst ps))(e:n≠k)(f:ps.length<99999):
  XQ [.ref n,pg] U=some (.int ps.length,(U.set n (.ins "Shelf" (aN r k t a (b+1)))).set k (.lst (ps++[pg]))):=by
 have c:ps.length<lim:=by unfold lim;lia
 simp[XQ,y0,Zb,Qq,QD,QF,YI,aL,Q6,x3,jZ,xY,xZ,Qi,Qb,eC,eB,cP,J1,cA,Jk,Jm,xI,Yc,cL,xH,Ql,Qc,Zk,Ye,Qs,ZO,QB,gN,ZN,Ji,Je,Z3,Jt,Jq,Jg,Xv,YG,xV,ZS,JO,ZY,Zf,Yx,UK,Jw,bB,xg,JL,Xi,QN,j7,xo,eN,fC,dH,Jf,Xt,Yd,Xs,aA,Yw,qM,Yz,JR,YV,cF,jv,Ka,Qz,J6,Xf,J3,Xq,d9,ZG,Xy,run_pure,JS,Jv,Xx,run_set,Xz,Zl,QV,Z1,h1,h2,qt,wO,gJ,VQ,c,e,e.symm]
end
def Zq(l:Int)(ks ps:List Int)(hi sd:Option Int):DV:=.tup [.int l,.tup (ks.map .int),.tup (ps.map .int),opt hi,opt sd]
def Dg(hi:Option Int)(k:Int):Bool:=match hi with
 |none=>false
 |some h=>decide (h<=k)
def aG(ks:List Int)(k:Int):Nat:=(ks.filter λx=>decide (x<=k)).length
def aQ(ks:List Int)(k:Int):Nat:=(ks.filter λx=>decide (x<k)).length
def Xo(ks:List Int)(k:Int):aG ks k<=ks.length:=Cb _ _
def yq(ks:List Int)(k:Int):aQ ks k<=ks.length:=Cb _ _
theorem Wf{f:aF}(hf:f env U=some (.tup ds,U)):mR f env U=some (ds,U):=by unfold mR;rw[Qg hf];rfl
theorem Il{t:bO}{p:Int->Bool}(ks:List Int)(k:Int)(b:ks.length<=100)(a:∀x U,t [.val (.int x),.val (.int k)] U=some (p x,U))(U:Hs):ZO Yw (Qc (ZR false (eG (mR (Qb 0))) [1] t (Qb 0)) Ql) [.val (.tup (ks.map .int)),.val (.int k)] U=some (.int (ks.filter p).length,U):=by
 have q:ZR false (eG (mR (Qb 0))) [1] t (Qb 0) [.val (.tup (ks.map .int)),.val (.int k)] U=some (.lst (((ks.filter p).map λx=>x).map .int),U):=by unfold ZR;rw[Qg (vP (Wf (ds:=ks.map .int) (Qe rfl)))];exact(Qg (kF (p:=p) (g:=λx=>x) ks (λi hi=>zR (ks.map .int) i (by rw[Br];exact hi) U) (λx=>a x U) (λx=>rfl) ⋯)).trans rfl
 rw[jX (Jd q) (QdI ..),Br,Br]
def GO(ks:List Int)(k:Int)(a:ks.length<=100):Zx [.tup (ks.map .int),.int k]=pure (.int (aG ks k)):=Mt λU=>QI (env:=[.val (.tup (ks.map .int)),.val (.int k)]) (QL (Il ks k a (λ_ _=>rfl) U))
def Fo(ks:List Int)(k:Int)(a:ks.length<=100):XM [.tup (ks.map .int),.int k]=pure (.int (aQ ks k)):=Mt λU=>QI (env:=[.val (.tup (ks.map .int)),.val (.int k)]) (QL (Il ks k a (λ_ _=>rfl) U))
theorem QbY(l:Int)(ks ps:List Int)(hi sd:Option Int)(k:Int):Y3 [Zq l ks ps hi sd,.int k]=pure (.bl (Dg hi k)):=by cases hi<;>rfl
theorem WH(l:Int)(ks ps:List Int)(hi sd:Option Int)(k:Int)(b:ks.length<=100)(U:ps.length=ks.length+1):Y4 [Zq l ks ps hi sd,.int k]=pure (.int (ps.getD (aG ks k) 0)):=by
 have h:=Xo ks k;have a:=GI ps (i:=(aG ks k:Int)) ⋯ ⋯;rw[B7]at a;refine YH (Yh (jg (x:=.tup (ps.map .int)) (y:=.int (aG ks k)) rfl (yC (x:=.tup (ks.map .int)) (y:=.int k) rfl rfl (GO ks k b)) ?_))<;>try exact[]
 simp[bL,a]
theorem QeQ(l:Int)(ks ps:List Int)(hi sd:Option Int)(k:Int)(c:ks.length<=100)(U:ps.length=ks.length):Xb [Zq l ks ps hi sd,.int k]=pure (if aQ ks k=aG ks k then .non else .int (ps.getD (aQ ks k) 0)):=by
 have h:=Xo ks k;have j:=yq ks k;refine YH (env:=[.val (Zq l ks ps hi sd),.val (.int k),.val (.tup (ks.map .int)),.val (.int (aQ ks k))]) ?_;refine(ZT (Z4 (d:=.tup (ks.map .int)) rfl)).trans ?_;refine(ZT (Z4 (d:=.int (aQ ks k)) (yC (x:=.tup (ks.map .int)) (y:=.int k) rfl rfl (Fo ks k c)))).trans ?_;have f:eB (Qi j_ (Qb 3) (Qs 2 Zx (Qc (Qb 2) (Qc (Qb 1) Ql)))) [.val (Zq l ks ps hi sd),.val (.int k),.val (.tup (ks.map .int)),.val (.int (aQ ks k))]=pure (decide (aQ ks k=aG ks k)):=by refine T4 (jg (x:=.int (aQ ks k)) (y:=.int (aG ks k)) rfl (yC (x:=.tup (ks.map .int)) (y:=.int k) rfl rfl (GO ks k c)) ?_);rw[ZS];congr 2;rw[Bool.eq_iff_iff];simp only[beq_iff_eq,decide_eq_true_eq];lia
 by_cases b:aQ ks k=aG ks k
 ·rw[Eb b];exact Sj ((R5 (f.trans (by simp[b]))).trans (Yh rfl))
 ·rw[Ea b];refine(ZT ((R6 (f.trans (by simp[b]))).trans rfl)).trans ?_;have e:aQ ks k<ks.length:=by
   have:aQ ks k<=aG ks k:=by unfold aQ aG;rw[<- List.countP_eq_length_filter,<- List.countP_eq_length_filter];exact List.countP_mono_left λx _ hx=>by simp at hx ⊢;lia
   lia
  have a:=GI ps (i:=(aQ ks k:Int)) ⋯ ⋯;rw[B7]at a;exact Yh (jg (x:=.tup (ps.map .int)) (y:=.int (aQ ks k)) rfl rfl (by simp[bL,a]))
theorem vU{f:aF}{g:cu}{x:DV}(h:f env U=some (x,hp1))(h':g env hp1=some (xs,hp2)):Qc f g env U=some (x::xs,hp2):=by unfold Qc;rw[Qg h,Qg h'];rfl
theorem HJ{F:Eu}{f c a e:aF}(h:f env=pure x)(h':c env=pure y)(b:a env=pure z)(h3:e env=pure u)(i:F [x,y,z,u]=pure d):Qs 4 F (Qc f (Qc c (Qc a (Qc e Ql)))) env=pure d:=by simp[Qs,Qc,Ql,h,h',b,h3,QB,i]
def Ve(l:Int)(ks ps:List Int)(hi sd:Option Int)(a b:DV):qB [Zq l ks ps hi sd,a,b]=pure (.tup [.int l,a,b,opt hi,opt sd]):=rfl
theorem runs(ks ns:List Int)(a b:Nat)(h:ks.length<=1000)(c:ns.length<=10):(do let x <- g_ (.tup (ks.map .int)) none (some (a:Int));let y <- ZE x (.tup (ns.map .int));let d <- g_ (.tup (ks.map .int)) (some (b:Int)) none;ZE y d:M DV)=pure (.tup ((ks.take a++ns++ks.drop b).map .int)):=by rw[U4,U3];simp only[Ei,ZE];rw[qv (by simp;lia)];simp only[QB,if_true,Ei];rw[qv (by simp;lia)];simp[List.map_take,List.map_drop]
theorem Fd{f g h q:aF}{ks ns:List Int}{a b:Nat}(hf:f env=pure (.tup (ks.map .int)))(i:g env=pure (.int (a:Int)))(j:h env=pure (.int (b:Int)))(n:q env=pure (.tup (ns.map .int)))(l:ks.length<=1000)(m:ns.length<=10):Qi ZE (Qi ZE (bY f ZW (ZX g)) q) (bY f (ZX h) ZW) env=pure (.tup ((ks.take a++ns++ks.drop b).map .int)):=by
 have c:bY f ZW (ZX g) env=g_ (.tup (ks.map .int)) none (some (a:Int)):=by simp only[bY,hf,i,ZW,ZX,cF,Ei]
 have e:bY f (ZX h) ZW env=g_ (.tup (ks.map .int)) (some (b:Int)) none:=by simp only[bY,hf,j,ZW,ZX,cF,Ei]
 rw[<- runs ks ns a b l m];simp only[Qi,c,e,n,Ei,bind_assoc]
theorem Vr(l:Int)(ks ps nk a:List Int)(hi sd:Option Int)(k:Int)(b:ks.length<=100)(U:ps.length<=100)(h1:nk.length<=10)(h2:a.length<=10):qD [Zq l ks ps hi sd,.int k,.tup (nk.map .int),.tup (a.map .int)]=pure (Zq l (ks.take (aQ ks k)++nk++ks.drop (aG ks k)) (ps.take (aQ ks k)++a++ps.drop (aG ks k)) hi sd):=by refine YH (env:=[.val (Zq l ks ps hi sd),.val (.int k),.val (.tup (nk.map .int)),.val (.tup (a.map .int)),.val (.tup (ks.map .int)),.val (.tup (ps.map .int)),.val (.int (aQ ks k:Int)),.val (.int (aG ks k:Int))]) ?_;refine(ZT (Z4 (d:=.tup (ks.map .int)) rfl)).trans ?_;refine(ZT (Z4 (d:=.tup (ps.map .int)) rfl)).trans ?_;refine(ZT (Z4 (d:=.int (aQ ks k:Int)) (yC (x:=.tup (ks.map .int)) (y:=.int k) rfl rfl (Fo ks k b)))).trans ?_;refine(ZT (Z4 (d:=.int (aG ks k:Int)) (yC (x:=.tup (ks.map .int)) (y:=.int k) rfl rfl (GO ks k b)))).trans ?_;exact Yh (HN (x:=Zq l ks ps hi sd) rfl (Fd rfl rfl rfl rfl ⋯ h1) (Fd rfl rfl rfl rfl ⋯ h2) (Ve l ks ps hi sd _ _))
def kR(ks:List Int)(c:Nat)(k:Int):List Int:=ks.take c++k::ks.drop c
theorem MZ(ks:List Int)(c:Nat)(k:Int)(h:ks.length<=1000):(do let a <- g_ (.tup (ks.map .int)) none (some (c:Int));let b <- ZE a (.tup [.int k]);let d <- g_ (.tup (ks.map .int)) (some (c:Int)) none;ZE b d:M DV)=pure (.tup ((kR ks c k).map .int)):=by rw[U4,U3];simp only[Ei,ZE];rw[qv (by simp;lia)];simp only[QB,if_true,Ei];rw[qv (by simp;lia)];simp[kR,List.map_take,List.map_drop]
theorem M7{f g h:aF}{ks:List Int}{c:Nat}{k:Int}(hf:f env=pure (.tup (ks.map .int)))(a:g env=pure (.int (c:Int)))(j:h env=pure (.int k))(l:ks.length<=1000):Qi ZE (Qi ZE (bY f ZW (ZX g)) (Zk (Qc h Ql))) (bY f (ZX g) ZW) env=pure (.tup ((kR ks c k).map .int)):=by
 have b:bY f ZW (ZX g) env=g_ (.tup (ks.map .int)) none (some (c:Int)):=by simp only[bY,hf,a,ZW,ZX,cF,Ei]
 have e:bY f (ZX g) ZW env=g_ (.tup (ks.map .int)) (some (c:Int)) none:=by simp only[bY,hf,a,ZW,ZX,cF,Ei]
 have i:Zk (Qc h Ql) env=pure (.tup [.int k]):=by simp only[Zk,Qc,Ql,j,Ei];rfl
 rw[<- MZ ks c k l];simp only[Qi,b,e,i,Ei,bind_assoc]
theorem Qce(l:Int)(ks ps:List Int)(hi sd:Option Int)(k kid:Int)(a:ks.length<=100)(U:ps.length<=1000):qC [Zq l ks ps hi sd,.int k,.int kid]=pure (Zq l (kR ks (aG ks k) k) (kR ps (aG ks k+1) kid) hi sd):=by
 refine YH (env:=[.val (Zq l ks ps hi sd),.val (.int k),.val (.int kid),.val (.tup (ks.map .int)),.val (.tup (ps.map .int)),.val (.int (aG ks k:Int)),.val (.int ((aG ks k:Int)+1))]) ?_;refine(ZT (Z4 (d:=.tup (ks.map .int)) rfl)).trans ?_;refine(ZT (Z4 (d:=.tup (ps.map .int)) rfl)).trans ?_;refine(ZT (Z4 (d:=.int (aG ks k:Int)) (yC (x:=.tup (ks.map .int)) (y:=.int k) rfl rfl (GO ks k a)))).trans ?_;refine(ZT (Z4 (d:=.int ((aG ks k:Int)+1)) rfl)).trans ?_;refine Yh (HN (x:=Zq l ks ps hi sd) (y:=.tup ((kR ks (aG ks k) k).map .int)) (z:=.tup ((kR ps (aG ks k+1) kid).map .int)) rfl ?_ ?_ (Ve l ks ps hi sd _ _))
 ·exact M7 rfl rfl rfl ⋯
 ·exact M7 rfl (by show(pure (DV.int ((aG ks k:Int)+1)):M DV)=_;rw[show((aG ks k:Int)+1)=((aG ks k+1:Nat):Int)by lia]) rfl U
def Zn(l:Int)(n:Nat):Nat:=if l=0 then n / 2 else n / 2+1
def wV(l:Int)(ks ps:List Int)(hi sd:Option Int)(a:Int):DV :=
 .tup [Zq l (ks.take (ks.length / 2)) (ps.take (Zn l ks.length)) (some (ks.getD (ks.length / 2) 0)) (some a),Zq l (ks.drop (Zn l ks.length)) (ps.drop (Zn l ks.length)) hi sd,.int (ks.getD (ks.length / 2) 0)]
theorem Qcn(l:Int)(ks ps:List Int)(hi sd:Option Int)(b:Int)(h3:3<=ks.length)(u:ks.length<=100):xt [Zq l ks ps hi sd,.int b]=pure (wV l ks ps hi sd b):=by
 have t:((ks.length:Int)) / 2=((ks.length / 2:Nat):Int):=⋯
 have a:=GI ks (i:=((ks.length / 2:Nat):Int)) ⋯ ⋯;rw[B7]at a;have j:(if l=0 then DV.int ((ks.length / 2:Nat):Int)else .int (((ks.length / 2:Nat):Int)+1))=.int ((Zn l ks.length:Nat):Int):=by unfold Zn;split<;>simp
 generalize o:Zn l ks.length=C at j;generalize r:ks.getD (ks.length / 2) 0=c at a;have n:cL (eB (Qi j_ (Qb 2) (eC (.int 0)))) (Qb 5) (Qi ZE (Qb 5) (eC (.int 1))) [.val (Zq l ks ps hi sd),.val (.int b),.val (.int l),.val (.tup (ks.map .int)),.val (.tup (ps.map .int)),.val (.int ((ks.length / 2:Nat):Int)),.val (.int c),.un,.un,.un]=pure (.int (C:Int)):=by
  rw[<- j];by_cases q:l=0
  ·simp[cL,eB,Qi,Qb,eC,ZS,cP,q]
  ·have:(l==0)=false:=by simpa using q
   simp[cL,eB,Qi,Qb,eC,ZS,cP,q,this,ZN]
 unfold wV;rw[o,r];refine YH (env:=[.val (Zq l ks ps hi sd),.val (.int b),.val (.int l),.val (.tup (ks.map .int)),.val (.tup (ps.map .int)),.val (.int ((ks.length / 2:Nat):Int)),.val (.int c),.val (.int (C:Int)),.val (Zq l (ks.take (ks.length / 2)) (ps.take C) (some c) (some b)),.val (Zq l (ks.drop C) (ps.drop C) hi sd)]) ?_;refine(ZT (Z4 (d:=.int l) rfl)).trans ?_;refine(ZT (Z4 (d:=.tup (ks.map .int)) rfl)).trans ?_;refine(ZT (Z4 (d:=.tup (ps.map .int)) rfl)).trans ?_;refine(ZT (Z4 (d:=.int ((ks.length / 2:Nat):Int)) ?_)).trans ?_
 ·refine jg (x:=.int (ks.length:Int)) (y:=.int 2) ?_ rfl ((uw _ 2 (by decide) (by decide)).trans (by rw[t]));show(pure (DV.int ((ks.map DV.int).length:Int)):M DV)=_;rw[Br]
 refine(ZT (Z4 (d:=.int c) (jg (x:=.tup (ks.map .int)) (y:=.int ((ks.length / 2:Nat):Int)) rfl rfl (DB a)))).trans ?_;refine(ZT (Z4 (d:=.int (C:Int)) n)).trans ?_;refine(ZT (Z4 (d:=Zq l (ks.take (ks.length / 2)) (ps.take C) (some c) (some b)) ?_)).trans ?_
 ·have e:=uD (f:=Qb 3) (g:=Qb 5) (env:=[.val (Zq l ks ps hi sd),.val (.int b),.val (.int l),.val (.tup (ks.map .int)),.val (.tup (ps.map .int)),.val (.int ((ks.length / 2:Nat):Int)),.val (.int c),.val (.int (C:Int)),.un,.un]) (ds:=ks.map .int) (m:=ks.length / 2) rfl rfl;have h:=uD (f:=Qb 4) (g:=Qb 7) (env:=[.val (Zq l ks ps hi sd),.val (.int b),.val (.int l),.val (.tup (ks.map .int)),.val (.tup (ps.map .int)),.val (.int ((ks.length / 2:Nat):Int)),.val (.int c),.val (.int (C:Int)),.un,.un]) (ds:=ps.map .int) (m:=C) rfl rfl;simp only[List.set_cons_succ,List.set_cons_zero,Bb,List.map_nil,Ba,List.length_nil,List.cons_append,List.nil_append,List.replicate,Zk,Qc,Ql,e,h,Ei];simp only[Zq,List.map_take,opt];rfl
 refine(ZT (Z4 (d:=Zq l (ks.drop C) (ps.drop C) hi sd) ?_)).trans ?_
 ·have e:=uC (f:=Qb 3) (g:=Qb 7) (env:=[.val (Zq l ks ps hi sd),.val (.int b),.val (.int l),.val (.tup (ks.map .int)),.val (.tup (ps.map .int)),.val (.int ((ks.length / 2:Nat):Int)),.val (.int c),.val (.int (C:Int)),.val (Zq l (ks.take (ks.length / 2)) (ps.take C) (some c) (some b)),.un]) (ds:=ks.map .int) (m:=C) rfl rfl;have h:=uC (f:=Qb 4) (g:=Qb 7) (env:=[.val (Zq l ks ps hi sd),.val (.int b),.val (.int l),.val (.tup (ks.map .int)),.val (.tup (ps.map .int)),.val (.int ((ks.length / 2:Nat):Int)),.val (.int c),.val (.int (C:Int)),.val (Zq l (ks.take (ks.length / 2)) (ps.take C) (some c) (some b)),.un]) (ds:=ps.map .int) (m:=C) rfl rfl;simp only[List.set_cons_succ,List.set_cons_zero,Bb,List.map_nil,Ba,List.length_nil,List.cons_append,List.nil_append,List.replicate,Zk,Qc,Ql,e,h,Ei];simp only[Zq,List.map_drop];rfl
 exact Yh rfl
theorem XI(p:TR.Pg):aJ p=Zq p.lv p.ks p.ps p.hi (p.sd.map λn=>(n:Int)):=by unfold aJ Zq;cases p.sd<;>rfl
theorem Qcr(p:TR.Pg)(k:Int):Y3 [aJ p,.int k]=pure (.bl (TR.Jo p k)):=by rw[XI,QbY];unfold Dg TR.Jo;cases p.hi<;>rfl
theorem ME(p:TR.Pg)(k c:Int)(b:p.ks.length<=100)(U:p.ps.length=p.ks.length+1)(a:p.ps[TR.aG p.ks k]?=some c):Y4 [aJ p,.int k]=pure (.int c):=by rw[XI,WH _ _ _ _ _ _ b U];rw[List.getD_eq_getElem?_getD,show p.ps[aG p.ks k]?=some c from a];rfl
theorem Qeb(p:TR.Pg)(k:Int)(a:p.ks.length<=100)(U:p.ps.length=p.ks.length):Xb [aJ p,.int k]=pure (opt (TR.QX p k)):=by
 rw[XI,QeQ _ _ _ _ _ _ a U];unfold TR.QX;by_cases h:aQ p.ks k=aG p.ks k
 ·rw[Eb h,Eb (show TR.aQ p.ks k=TR.aG p.ks k from h)];rfl
 ·rw[Ea h,Ea (show ¬ TR.aQ p.ks k=TR.aG p.ks k from h)];have h1:=TR.GN p.ks k;have h2:=TR.Xo p.ks k;have h3:¬ TR.aQ p.ks k=TR.aG p.ks k:=h;rw[List.getD_eq_getElem?_getD,show p.ps[aQ p.ks k]?=some (p.ps[TR.aQ p.ks k]'⋯)from Ab _,Ab (show TR.aQ p.ks k<p.ps.length by lia)];rfl
theorem RS(p:TR.Pg)(k x:Int)(a:p.ks.length<=100)(U:p.ps.length<=100):zy [aJ p,.int k,.int x]=pure (aJ (TR.QW p k x)):=by have e:=Vr p.lv p.ks p.ps [k] [x] p.hi (p.sd.map λn=>(n:Int)) k a U (by simp) (by simp);rw[XI,XI];refine YH (env:=[.val (Zq p.lv p.ks p.ps p.hi (p.sd.map λn=>(n:Int))),.val (.int k),.val (.int x)]) (Yh (HJ rfl rfl rfl rfl (e.trans ?_)));simp[TR.QW,TR.aQ,TR.aG,aQ,aG]
theorem Qal(p:TR.Pg)(k:Int)(a:p.ks.length<=100)(U:p.ps.length<=100):yn [aJ p,.int k]=pure (aJ (TR.without p k)):=by have e:=Vr p.lv p.ks p.ps [] [] p.hi (p.sd.map λn=>(n:Int)) k a U (by simp) (by simp);rw[XI,XI];refine YH (env:=[.val (Zq p.lv p.ks p.ps p.hi (p.sd.map λn=>(n:Int))),.val (.int k)]) (Yh (HJ rfl rfl rfl rfl (e.trans ?_)));simp[TR.without,TR.aQ,TR.aG,aQ,aG]
theorem Qak(p:TR.Pg)(k:Int)(c:Nat)(a:p.ks.length<=100)(U:p.ps.length<=1000):qC [aJ p,.int k,.int c]=pure (aJ (TR.Zh p k c)):=by rw[XI,Qce _ _ _ _ _ _ _ a U,XI];rfl
theorem RU(p:TR.Pg)(O2:Nat):Yj [aJ p,.int O2]=pure (.bl (decide (O2<p.ks.length))):=by
 have e:(decide ((O2:Int)<((p.ks.map DV.int).length:Int)))=decide (O2<p.ks.length):=by rw[Br];congr 1;rw[eq_iff_iff];lia
 refine YH (env:=[.val (aJ p),.val (.int O2)]) (Yh (jg (x:=.int ((p.ks.map DV.int).length:Int)) (y:=.int O2) rfl rfl ((Je _ _).trans ?_)));rw[<- e]
theorem Qcs(p:TR.Pg)(n:Nat)(h3:3<=p.ks.length)(b:p.ks.length<=100):xt [aJ p,.int n]=pure (.tup [aJ (TR.Q0 p n),aJ (TR.QK p),.int (TR.Xd p)]):=by
 rw[XI,Qcn _ _ _ _ _ _ h3 b];unfold wV;rw[XI,XI];have a:Zn p.lv p.ks.length=TR.Zn p:=by
  unfold Zn TR.Zn TR.mid;by_cases h:p.lv=0
  ·simp[h]
  ·rw[Ea h,Ea ⋯]
 rw[a];rfl
structure At(U:Hs)(n k a f q:Nat)(S:TR.Sh)(w:TR.Wk):Prop where
 h1:U[n]?=some (.ins "Shelf" (aN S.O2 k S.top S.rd S.wr))
 h2:U[k]?=some (.lst (S.pg.map aJ))
 h3:U[a]?=some (cN n f q w)
 h4:U[f]?=some (.aB (dZ w.O3))
 h5:U[q]?=some (.lst (aO w.O5))
structure dN(n k a f q:Nat):Prop where
 nk:n≠k
 na:n≠a
 nf:n≠f
 nq:n≠q
 ka:k≠a
 kf:k≠f
 kq:k≠q
 af:a≠f
 aq:a≠q
 fq:f≠q
def Fr(U b:Hs)(n k a f q:Nat):Prop:=U.length<=b.length/\∀i,i<U.length->i≠n->i≠k->i≠a->i≠f->i≠q->b[i]?=U[i]?
section
variable{U hp' hp2:Hs}{n k a f q:Nat}{S S':TR.Sh}{w w':TR.Wk}
def Fr.refl:Fr U U n k a f q:=⟨Ae _,λ_ _ _ _ _ _ _=>rfl⟩
def Fr.trans(x:Fr U hp' n k a f q)(y:Fr hp' hp2 n k a f q):Fr U hp2 n k a f q:=⟨Bj x.1 y.1,λi hi b c e h j=>(y.2 i (Ay hi x.1) b c e h j).trans (x.2 i hi b c e h j)⟩
def gs{n m:Nat}{Y:Option OV}(h:n≠m)(h':U[m]?=Y):(U.set n X)[m]?=Y:=(QV _ _ _ _ h).trans h'
theorem eV{n:Nat}(h':U[n]?=some Y):(U.set n X)[n]?=some X:=Zl _ _ _ (by rw[h'];rfl)
theorem At.walk(A:At U n k a f q S w)(D:dN n k a f q)(w':TR.Wk)(c:w'.O3=w.O3)(e:w'.O5=w.O5):At (U.set a (cN n f q w')) n k a f q S w'/\Fr U (U.set a (cN n f q w')) n k a f q :=
 ⟨⟨gs D.na.symm A.h1,gs D.ka.symm A.h2,eV A.h3,gs D.af (by rw[c];exact A.h4),gs D.aq (by rw[e];exact A.h5)⟩,by simp,λi hi h j b l m=>QV _ _ _ _ (Ne.symm b)⟩
theorem At.shelf(A:At U n k a f q S w)(D:dN n k a f q)(S':TR.Sh)(e:S'.O2=S.O2):At ((U.set n (.ins "Shelf" (aN S.O2 k S'.top S'.rd S'.wr))).set k (.lst (S'.pg.map aJ))) n k a f q S' w/\Fr U ((U.set n (.ins "Shelf" (aN S.O2 k S'.top S'.rd S'.wr))).set k (.lst (S'.pg.map aJ))) n k a f q :=
 ⟨⟨gs D.nk.symm (by rw[e];exact eV A.h1),eV (gs D.nk A.h2),gs D.ka (gs D.na A.h3),gs D.kf (gs D.nf A.h4),gs D.kq (gs D.nq A.h5)⟩,by simp,λi hi b c h j l=>(QV _ _ _ _ (Ne.symm c)).trans (QV _ _ _ _ (Ne.symm b))⟩
theorem At.count(A:At U n k a f q S w)(D:dN n k a f q)(S':TR.Sh)(e:S'.O2=S.O2)(c:S'.pg=S.pg):At (U.set n (.ins "Shelf" (aN S.O2 k S'.top S'.rd S'.wr))) n k a f q S' w/\Fr U (U.set n (.ins "Shelf" (aN S.O2 k S'.top S'.rd S'.wr))) n k a f q :=
 ⟨⟨by rw[e];exact eV A.h1,gs D.nk (by rw[c];exact A.h2),gs D.na A.h3,gs D.nf A.h4,gs D.nq A.h5⟩,by simp,λi hi b h j l m=>QV _ _ _ _ (Ne.symm b)⟩
theorem At.fork(A:At U n k a f q S w)(D:dN n k a f q)(w':TR.Wk)(h:cN n f q w'=cN n f q w)(e:w'.O5=w.O5):At (U.set f (.aB (dZ w'.O3))) n k a f q S w'/\Fr U (U.set f (.aB (dZ w'.O3))) n k a f q :=
 ⟨⟨gs D.nf.symm A.h1,gs D.kf.symm A.h2,gs D.af.symm (by rw[h];exact A.h3),eV A.h4,gs D.fq (by rw[e];exact A.h5)⟩,by simp,λi hi c j l b m=>QV _ _ _ _ (Ne.symm b)⟩
theorem At.pair(A:At U n k a f q S w)(D:dN n k a f q)(w':TR.Wk)(h:cN n f q w'=cN n f q w)(e:w'.O3=w.O3):At (U.set q (.lst (aO w'.O5))) n k a f q S w'/\Fr U (U.set q (.lst (aO w'.O5))) n k a f q :=
 ⟨⟨gs D.nq.symm A.h1,gs D.kq.symm A.h2,gs D.aq.symm (by rw[h];exact A.h3),gs D.fq.symm (by rw[e];exact A.h4),eV A.h5⟩,by simp,λi hi c j l m b=>QV _ _ _ _ (Ne.symm b)⟩
theorem At.more(A:At U n k a f q S w)(x:OV):At (U++[x]) n k a f q S w/\Fr U (U++[x]) n k a f q:=by
 have b:∀{i:Nat}{y:OV},U[i]?=some y->(U++[x])[i]?=some y:=λ{i y} h=>by rw[Ah (Zw h)];exact h
 exact⟨⟨b A.h1,b A.h2,b A.h3,b A.h4,b A.h5⟩,by simp,λi hi _ _ _ _ _=>Ah hi⟩
theorem La(ps:List TR.Pg)(p:TR.Pg):ps.map aJ++[aJ p]=(ps++[p]).map aJ:=by simp
theorem map_set(ps:List TR.Pg)(i:Nat)(p:TR.Pg):(ps.map aJ).set i (aJ p)=(ps.set i p).map aJ:=by rw[List.map_set]
def XC(A:At U n k a f q S w){env:En}(h:env[0]?=some (.val (.ref a))):QN "Walk" "shelf" (Qb 0) env U=some (.ref n,U):=Zc (Qe h) A.h3 (QcQ ..)
theorem Go(A:At U n k a f q S w)(D:dN n k a f q){i:Nat}(hi:i<S.pg.length)(P:TR.Pg)(h3:S.O2<P.ks.length->3<=P.ks.length)(J:P.ks.length<=100)(O:S.pg.length<90000):
  ∃hp',XL [.ref a,.int i,aJ P] U=some (oN (TR.Qt S w i P).1,hp')/\At hp' n k a f q (TR.Qt S w i P).2.1 (TR.Qt S w i P).2.2/\Fr U hp' n k a f q:=by
 have t0:Qs 2 Yj (Qc (Qb 2) (Qc (Qz "Shelf" "room" 1 JB (QN "Walk" "shelf" (Qb 0)) Ql) Ql)) [.val (.ref a),.val (.int i),.val (aJ P),.un] U=some (.bl (decide (S.O2<P.ks.length)),U) :=
  QY (ZM (Qe rfl) (QZ (XC A rfl) A.h1 (SC ..) JQ rfl (Su A.h1))) rfl (Ze (RU P S.O2) U)
 unfold TR.Qt;by_cases u:P.ks.length<=S.O2
 ·rw[Eb u];have hd:decide (S.O2<P.ks.length)=false:=Eh ⋯;rw[hd]at t0;have m:Jk (eB (Qs 2 Yj (Qc (Qb 2) (Qc (Qz "Shelf" "room" 1 JB (QN "Walk" "shelf" (Qb 0)) Ql) Ql)))) [.val (.ref a),.val (.int i),.val (aJ P),.un] U=some (true,U):=Jp (b:=false) (QR t0);have wr:=Kh (d:=aJ P) (i:=i) A.h1 A.h2 D.nk (by simpa using hi);rw[map_set]at wr;obtain⟨e,j⟩:=A.shelf D { S with pg:=S.pg.set i P,wr:=S.wr+1 } rfl;obtain⟨c,l⟩:=e.walk D { w with O7:=true } rfl rfl;refine⟨_,?_,c,j.trans l⟩;refine QI (env:=[.val (.ref a),.val (.int i),.val (aJ P),.un]) (Q2 (ZP m ?_));refine Qr (XA (QZ (XC A rfl) A.h1 (zW ..) (ZM (Qe rfl) (Qe rfl)) rfl wr)) ?_;exact Qr (JE (v:=.bl true) rfl (Qe rfl) e.h3 wl) (QL (d:=.non) rfl)
 ·rw[Ea u];have hd:decide (S.O2<P.ks.length)=true:=Ef ⋯;rw[hd]at t0;have m:Jk (eB (Qs 2 Yj (Qc (Qb 2) (Qc (Qz "Shelf" "room" 1 JB (QN "Walk" "shelf" (Qb 0)) Ql) Ql)))) [.val (.ref a),.val (.int i),.val (aJ P),.un] U=some (false,U):=Jp (b:=true) (QR t0);have pl:(S.pg.map aJ).length=S.pg.length:=by simp
  have L:=Qcs P S.pg.length (h3 ⋯) J;have x:=Ib (pg:=aJ (TR.QK P)) A.h1 A.h2 D.nk (by rw[pl];lia);rw[pl,La]at x;obtain⟨e,j⟩:=A.shelf D { S with pg:=S.pg++[TR.QK P],wr:=S.wr+1 } rfl;obtain⟨c,l⟩:=e.walk D { w with Oz:=some S.pg.length } rfl rfl;have wr:=Kh (d:=aJ (TR.Q0 P S.pg.length)) (i:=i) c.h1 c.h2 D.nk (by simp;lia);rw[map_set]at wr;obtain⟨o,y⟩:=c.shelf D { S with pg:=(S.pg++[TR.QK P]).set i (TR.Q0 P S.pg.length),wr:=S.wr+1+1 } rfl;obtain⟨r,z⟩:=o.walk D { w with Oz:=some S.pg.length,aim:=TR.Xd P } rfl rfl;obtain⟨h,C⟩:=r.walk D { w with Oz:=some S.pg.length,aim:=TR.Xd P,O4:=P.lv+1 } rfl rfl;obtain⟨t,F⟩:=h.walk D { w with Oz:=some S.pg.length,aim:=TR.Xd P,O4:=P.lv+1,O6:=TR.J2 w.O3 (P.lv+1) } rfl rfl;refine⟨_,?_,t,j.trans (l.trans (y.trans (z.trans (C.trans F))))⟩;refine QI (env:=[.val (.ref a),.val (.int i),.val (aJ P),.val (.tup [aJ (TR.Q0 P S.pg.length),aJ (TR.QK P),.int (TR.Xd P)])]) ?_;refine Qr (Za m) ?_;have pg:=Ux A.h1 A.h2;rw[pl]at pg;refine Qr (QS (QY (ZM (Qe rfl) (QZ (XC A rfl) A.h1 (zV ..) JQ rfl pg)) rfl (Ze L U))) ?_;refine Qr (JE (QZ (XC A rfl) A.h1 (Gv ..) (Jd (Qh (Qe rfl) rfl (Zm (i:=1) rfl _))) rfl x) (Qe rfl) e.h3 wl) ?_;refine Qr (XA (QZ (XC c rfl) c.h1 (zW ..) (ZM (Qe rfl) (Qh (Qe rfl) rfl (Zm (i:=0) rfl _))) rfl wr)) ?_;refine Qr (JE (Qh (Qe rfl) rfl (Zm (i:=2) rfl _)) (Qe rfl) o.h3 wl) ?_;refine Qr (JE (v:=.int ((P.lv+1:Nat):Int)) (Qh (Qh (Qe rfl) rfl (Ig P _)) rfl rfl) (Qe rfl) r.h3 wl) ?_;have I:JL "dict" Xs (QN "Walk" "forks" (Qb 0)) (Qc (QN "Walk" "goal" (Qb 0)) Ql) [.val (.ref a),.val (.int i),.val (aJ P),.val (.tup [aJ (TR.Q0 P S.pg.length),aJ (TR.QK P),.int (TR.Xd P)])] _=some (oN (TR.J2 w.O3 (P.lv+1)),_) :=
   Qe8 (Zc (Qe rfl) h.h3 (Gz ..)) h.h4 (Jd (Zc (Qe rfl) h.h3 (ki ..)))
  refine Qr (JE I (Qe rfl) h.h3 wl) ?_;exact QL (Zc (Qe rfl) t.h3 (vO ..))
end
def QcZ(x:DV)(xs:List DV):atI (x::xs) 0=some x:=ja (j:=0) rfl
theorem KB{r a b:Int}{n k:Nat}{ps:List DV}{U:Hs}{t i:Nat}{key:Int}{l:Int}{ks h:List Int}{hi sd:Option Int}(h1:U[n]?=some (.ins "Shelf" (aN r k t a b)))(h2:U[k]?=some (.lst ps))(e:n≠k)(hi1:i<ps.length)(m:ps[t]?=some (Zq l ks h hi sd))(j:ps.length<99999):
  Z0 [.ref n,.int key,.int i] U=some (.int ps.length,(U.set n (.ins "Shelf" (aN r k ps.length a (b+1)))).set k (.lst (ps++[Zq (l+1) [key] [(t:Int),(i:Int)] none none]))):=by
 have c:=V2 (i:=(i:Int)) h1 h2 ⋯ ⋯;have f:atI ps (t:Int)=some (.tup [.int l,.tup (ks.map .int),.tup (h.map .int),opt hi,opt sd]):=ja m;have y:=Ib (pg:=Zq (l+1) [key] [(t:Int),(i:Int)] none none) h1 h2 e j;have o:DV.tup [.int (l+1),.tup [.int key],.tup [.int (t:Int),.int (i:Int)],.non,.non]=Zq (l+1) [key] [(t:Int),(i:Int)] none none:=rfl;have g1:((U.set n (.ins "Shelf" (aN r k t a (b+1)))).set k (.lst (ps++[Zq (l+1) [key] [(t:Int),(i:Int)] none none])))[n]?=some (.ins "Shelf" (aN r k t a (b+1))):=by rw[QV _ _ _ _ e.symm];exact Zl _ _ _ (by rw[h1];rfl)
 have g2:∀X Y Z:OV,((U.set n X).set k Y).set n Z=(U.set n Z).set k Y:=λX Y Z=>by rw[List.set_comm _ _ e,List.set_set,List.set_comm _ _ e.symm,List.set_comm _ _ e]
 have g3:((U.set n (.ins "Shelf" (aN r k ps.length a (b+1)))).set k (.lst (ps++[Zq (l+1) [key] [(t:Int),(i:Int)] none none])))[n]?=some (.ins "Shelf" (aN r k ps.length a (b+1))):=by rw[QV _ _ _ _ e.symm];exact Zl _ _ _ (by rw[h1];rfl)
 simp[Z0,Yp,Zb,Qq,QD,QF,YI,aL,Q6,x3,jZ,xY,xZ,Qi,Qb,eC,eB,cP,J1,cA,Jk,Jm,xI,Yc,cL,xH,Ql,Qc,Zk,Ye,Qs,ZO,QB,gN,ZN,Ji,Je,Z3,Jt,Jq,Jg,Xv,YG,xV,ZS,JO,ZY,Zf,Yx,UK,Jw,bB,xg,JL,Xi,QN,j7,xo,eN,fC,dH,Jf,Xt,Yd,Xs,aA,Yw,qM,Yz,JR,YV,cF,jv,Ka,Qz,J6,Xf,J3,Xq,d9,ZG,Xy,run_pure,JS,Jv,Xx,run_set,Xz,Zl,QV,Z1,YN,lim,bL,h1,h2,c,qt,Mf,QeC,VQ,yV,Gv,f,QcZ,o,y,g1,g2,g3]
theorem SO{n k a f q:Nat}{S:TR.Sh}{w:TR.Wk}(A:At U n k a f q S w)(D:dN n k a f q){c:Nat}{key:Int}(b:c<S.pg.length)(h:S.pg[S.top]?=some r)(l:S.pg.length<90000):
  Z0 [.ref n,.int key,.int c] U=some (.int S.pg.length,(U.set n (.ins "Shelf" (aN S.O2 k S.pg.length S.rd (S.wr+1)))).set k (.lst ((S.pg++[(⟨r.lv+1,[key],[(S.top:Int),(c:Int)],none,none⟩:TR.Pg)]).map aJ))):=by
 have j:(S.pg.map aJ)[S.top]?=some (Zq r.lv r.ks r.ps r.hi (r.sd.map λn=>(n:Int))):=by rw[Bu,h,Option.map_some,XI]
 have e:=KB (key:=key) A.h1 A.h2 D.nk (i:=c) (by simpa using b) j (by simp;lia);rw[e,Br];rw[show Zq ((r.lv:Int)+1) [key] [(S.top:Int),(c:Int)] none none=aJ ⟨r.lv+1,[key],[(S.top:Int),(c:Int)],none,none⟩from rfl,La]
theorem vF(S:TR.Sh)(w:TR.Wk)(i:Nat)(P:TR.Pg):(TR.Qt S w i P).2.2.O1=w.O1:=by unfold TR.Qt;split<;>rfl
section
variable{U:Hs}{n k a f q:Nat}{S:TR.Sh}{w:TR.Wk}{i:Nat}{p:TR.Pg}
theorem uJ(A:At U n k a f q S w)(D:dN n k a f q)(b:Str)(t:Option Nat):∃c,JU [.ref a,.str b,.int i,oN t] U=some (.tup [.str b,.int i,oN t],c)/\At c n k a f q S { w with O6:=t }/\Fr U c n k a f q:=by obtain⟨e,h⟩:=A.walk D { w with O6:=t } rfl rfl;refine⟨_,?_,e,h⟩;refine QI (env:=[.val (.ref a),.val (.str b),.val (.int i),.val (oN t)]) ?_;exact Qr (JE (Qe rfl) (Qe rfl) A.h3 wl) (QL (JG (Z5 (Qe rfl) (Qe rfl) (Qe rfl)) (by simp)))
theorem KA(A:At U n k a f q S w)(D:dN n k a f q){c:Nat}(hw:w.Oz=some c)(o:c<S.pg.length)(u:S.pg[S.top]?=some r)(t:S.pg.length<90000):∃b,ZQ [.ref a,.int i] U=some (.tup [.str "raised", .int i,.int S.pg.length],b)/\At b n k a f q { S with pg:=S.pg++[⟨r.lv+1,[w.aim],[(S.top:Int),(c:Int)],none,none⟩],top:=S.pg.length,wr:=S.wr+1 } { w with O7:=true }/\Fr U b n k a f q:=by obtain⟨h,l⟩:=A.walk D { w with O7:=true } rfl rfl;have e:=SO (key:=w.aim) h D o u t;obtain⟨j,m⟩:=h.shelf D { S with pg:=S.pg++[⟨r.lv+1,[w.aim],[(S.top:Int),(c:Int)],none,none⟩],top:=S.pg.length,wr:=S.wr+1 } rfl;refine⟨_,?_,j,l.trans m⟩;refine QI (env:=[.val (.ref a),.val (.int i)]) ?_;refine Qr (JE (v:=.bl true) rfl (Qe rfl) A.h3 wl) ?_;refine QL (JG (Z5 rfl (Qe rfl) (QZ (XC h rfl) h.h1 (gI ..) (ZM (Zc (Qe rfl) h.h3 (YQ ..)) (Zc (d:=.int c) (Qe rfl) h.h3 ((vO ..).trans (by show some (oN w.Oz)=_;rw[hw];rfl)))) rfl e)) (by simp))
theorem Kg(A:At U n k a f q S w)(D:dN n k a f q){env:En}(c:env[0]?=some (.val (.ref a)))(j:env[2]?=some (.val (aJ p)))(h1:p.ks.length<=100)(h2:p.ps.length=p.ks.length):
  ∃b,Zf "Walk" "worth" (Qb 0) (Qs 2 Xb (Qc (Qb 2) (Qc (QN "Walk" "aim" (Qb 0)) Ql))) env U=some ((.nx,env),b)/\At b n k a f q S { w with O1:=TR.QX p w.aim }/\Fr U b n k a f q:=by
 obtain⟨e,h⟩:=A.walk D { w with O1:=TR.QX p w.aim } rfl rfl;exact⟨_,JE (QY (ZM (Qe j) (Zc (Qe c) A.h3 (YQ ..))) rfl (Ze (Qeb p w.aim h1 h2) U)) (Qe c) A.h3 wl,e,h⟩
theorem D1(A:At U n k a f q S w)(D:dN n k a f q)(h1:p.ks.length<=100)(h2:p.ps.length=p.ks.length):
  ∃b,Xm [.ref a,.int i,aJ p] U=some (.tup [.str "found", .int i,opt (TR.QX p w.aim)],b)/\At b n k a f q S { w with O1:=TR.QX p w.aim,O7:=true }/\Fr U b n k a f q:=by
 obtain⟨hp1,l,c,h⟩:=Kg (env:=[.val (.ref a),.val (.int i),.val (aJ p)]) A D rfl rfl h1 h2;obtain⟨e,j⟩:=c.walk D { w with O1:=TR.QX p w.aim,O7:=true } rfl rfl;refine⟨_,?_,e,h.trans j⟩;refine QI (env:=[.val (.ref a),.val (.int i),.val (aJ p)]) ?_;refine Qr l (Qr (JE (v:=.bl true) rfl (Qe rfl) c.h3 wl) ?_);exact QL (JG (Z5 rfl (Qe rfl) (Zc (Qe rfl) e.h3 (Yl ..))) (by simp))
theorem Hc(A:At U n k a f q S w)(D:dN n k a f q)(hi:i<S.pg.length){x y:Int}(hd:w.O0=.put y x)(h1:p.ks.length<=90)(h2:p.ps.length=p.ks.length)(h3:S.O2<(TR.QW p w.aim x).ks.length->3<=(TR.QW p w.aim x).ks.length)(h4:(TR.QW p w.aim x).ks.length<=100)(t:S.pg.length<90000):
  ∃b,XY [.ref a,.int i,aJ p] U=some (.tup [.str "put", .int i,opt (TR.QX p w.aim),oN (TR.Qt S { w with O1:=TR.QX p w.aim } i (TR.QW p w.aim x)).1],b)/\At b n k a f q (TR.Qt S { w with O1:=TR.QX p w.aim } i (TR.QW p w.aim x)).2.1 (TR.Qt S { w with O1:=TR.QX p w.aim } i (TR.QW p w.aim x)).2.2/\Fr U b n k a f q:=by
 obtain⟨hp1,o,c,j⟩:=Kg (env:=[.val (.ref a),.val (.int i),.val (aJ p),.un]) A D rfl rfl ⋯ h2;obtain⟨e,r,h,l⟩:=Go c D hi (TR.QW p w.aim x) h3 h4 t;refine⟨e,?_,h,j.trans l⟩;refine QI (env:=[.val (.ref a),.val (.int i),.val (aJ p),.val (oN (TR.Qt S { w with O1:=TR.QX p w.aim } i (TR.QW p w.aim x)).1)]) ?_;refine Qr o ?_;have m:aA (Q9 w.O0) (.int 2) hp1=some (.int x,hp1):=by rw[hd];exact Zm (i:=2) rfl hp1
 refine Qr (QS (QZ (Qe rfl) c.h3 (Hr ..) (ZM (Qe rfl) (QY (Z5 (Qe rfl) (Zc (Qe rfl) c.h3 (YQ ..)) (Qh (Zc (Qe rfl) c.h3 (zY ..)) rfl m)) rfl (Ze (RS p w.aim x ⋯ ⋯) hp1))) rfl r)) ?_;refine QL (JG (VT rfl (Qe rfl) (Zc (Qe rfl) h.h3 ((Yl ..).trans ?_)) (Qe rfl)) (by simp));rw[vF]
theorem GQ(A:At U n k a f q S w)(D:dN n k a f q)(hi:i<S.pg.length)(h1:p.ks.length<=100)(h2:p.ps.length=p.ks.length):
    ∃e,Ym [.ref a,.int i,aJ p] U=some (.tup [.str "cut", .int i,opt (TR.QX p w.aim)],e)/\At e n k a f q (if (TR.QX p w.aim).isSome=true then { S with pg:=S.pg.set i (TR.without p w.aim),wr:=S.wr+1 }else S) { w with O1:=TR.QX p w.aim,O7:=true }/\Fr U e n k a f q:=by
  obtain⟨hp1,o,c,m⟩:=Kg (env:=[.val (.ref a),.val (.int i),.val (aJ p)]) A D rfl rfl h1 h2;have t:∀b:Bool,(TR.QX p w.aim).isSome=b->eB (Qi qK (QN "Walk" "worth" (Qb 0)) (eC .non)) [.val (.ref a),.val (.int i),.val (aJ p)] hp1=some (b,hp1):=λb u=>QR (Qh (Zc (Qe rfl) c.h3 (Yl ..)) rfl (by rw[Qah,u];rfl));cases hs:(TR.QX p w.aim).isSome with
  |true=>rw[Eb rfl];have wr:=Kh (d:=aJ (TR.without p w.aim)) (i:=i) c.h1 c.h2 D.nk (by simpa using hi);rw[map_set]at wr;obtain⟨l,r⟩:=c.shelf D { S with pg:=S.pg.set i (TR.without p w.aim),wr:=S.wr+1 } rfl;obtain⟨h,j⟩:=l.walk D { w with O1:=TR.QX p w.aim,O7:=true } rfl rfl;refine⟨_,?_,h,m.trans (r.trans j)⟩;refine QI (env:=[.val (.ref a),.val (.int i),.val (aJ p)]) ?_;refine Qr o ?_;refine Qr (ZP (t true hs) (XA (QZ (XC c rfl) c.h1 (zW ..) (ZM (Qe rfl) (QY (ZM (Qe rfl) (Zc (Qe rfl) c.h3 (YQ ..))) rfl (Ze (Qal p w.aim ⋯ ⋯) hp1))) rfl wr))) ?_;refine Qr (JE (v:=.bl true) rfl (Qe rfl) l.h3 wl) ?_;exact QL (JG (Z5 rfl (Qe rfl) (Zc (Qe rfl) h.h3 (Yl ..))) (by simp))
  |false=>rw[Ea (by simp)];obtain⟨h,j⟩:=c.walk D { w with O1:=TR.QX p w.aim,O7:=true } rfl rfl;refine⟨_,?_,h,m.trans j⟩;refine QI (env:=[.val (.ref a),.val (.int i),.val (aJ p)]) ?_;refine Qr o ?_;refine Qr (Za (t false hs)) ?_;refine Qr (JE (v:=.bl true) rfl (Qe rfl) c.h3 wl) ?_;exact QL (JG (Z5 rfl (Qe rfl) (Zc (Qe rfl) h.h3 (Yl ..))) (by simp))
theorem HC(A:At U n k a f q S w)(D:dN n k a f q)(hi:i<S.pg.length){c:Nat}(hw:w.Oz=some c)(h1:p.ks.length<=90)(h2:p.ps.length<=100)(h3:S.O2<(TR.Zh p w.aim c).ks.length->3<=(TR.Zh p w.aim c).ks.length)(h4:(TR.Zh p w.aim c).ks.length<=100)(m:S.pg.length<90000):
  ∃b,XF [.ref a,.int i,aJ p] U=some (.tup [.str "told", .int i,oN (TR.Qt S w i (TR.Zh p w.aim c)).1],b)/\At b n k a f q (TR.Qt S w i (TR.Zh p w.aim c)).2.1 (TR.Qt S w i (TR.Zh p w.aim c)).2.2/\Fr U b n k a f q:=by
 obtain⟨e,l,h,j⟩:=Go A D hi (TR.Zh p w.aim c) h3 h4 m;refine⟨e,?_,h,j⟩;refine QI (env:=[.val (.ref a),.val (.int i),.val (aJ p),.val (oN (TR.Qt S w i (TR.Zh p w.aim c)).1)]) ?_;have o:QN "Walk" "new_page" (Qb 0) [.val (.ref a),.val (.int i),.val (aJ p),.un] U=some (.int c,U):=Zc (Qe rfl) A.h3 ((vO ..).trans (by rw[hw];rfl));refine Qr (QS (QZ (Qe rfl) A.h3 (Hr ..) (ZM (Qe rfl) (QY (Z5 (Qe rfl) (Zc (Qe rfl) A.h3 (YQ ..)) o) rfl (Ze (Qak p w.aim c ⋯ ⋯) U))) rfl l)) ?_;exact QL (JG (Z5 rfl (Qe rfl) (Qe rfl)) (by simp))
end
section
variable{U:Hs}{n k a f q:Nat}{S:TR.Sh}{w:TR.Wk}{i:Nat}{p:TR.Pg}
theorem Qd1(A:At U n k a f q S w){l h:Int}(v:p.ks.length<=100):
  Jn [.val (.ref a),.val (.int i),.val (aJ p),.val (.int l),.val (.int h),.un] U=some (.ref U.length,U++[OV.lst (aO (TR.Q1 p l h))]):=by
 have m:uP (Qi aA (Qb 2) (eC (.int 1))) (Qi aA (Qb 2) (eC (.int 2))) [.val (.ref a),.val (.int i),.val (aJ p),.val (.int l),.val (.int h),.un] U=some (aO (p.ks.zip p.ps),U):=by have b:Qi aA (Qb 2) (eC (.int 1)) [.val (.ref a),.val (.int i),.val (aJ p),.val (.int l),.val (.int h),.un] U=some (.tup (p.ks.map .int),U):=Qh (Qe rfl) rfl (Ih p U);have u:Qi aA (Qb 2) (eC (.int 2)) [.val (.ref a),.val (.int i),.val (aJ p),.val (.int l),.val (.int h),.un] U=some (.tup (p.ps.map .int),U):=Qh (Qe rfl) rfl (Ho p U);unfold uP;rw[Qg b];show(KM (.tup (p.ks.map .int)) >>= _) U=_;rw[show KM (.tup (p.ks.map .int))=pure (p.ks.map .int)from rfl,Ei,Qg u,show KM (.tup (p.ps.map .int))=pure (p.ps.map .int)from rfl,Ei,Ly];rfl
 have o:eG (uP (Qi aA (Qb 2) (eC (.int 1))) (Qi aA (Qb 2) (eC (.int 2)))) [.val (.ref a),.val (.int i),.val (aJ p),.val (.int l),.val (.int h),.un] U=some (bW (aO (p.ks.zip p.ps)),U):=by unfold eG;rw[Qg m];rfl
 have hz:(p.ks.zip p.ps).length<=100:=by rw[List.length_zip];lia
 have e:=KW (U:=U) (t:=λd=>eB (Xp iy eO (Qb 1) (Qi aA (Qb 0) (eC (.int 0))) (Qb 2)) (cE [3,4] [.val (.ref a),.val (.int i),.val (aJ p),.val (.int l),.val (.int h),.un] d)) (f:=λd=>Qb 0 (cE [3,4] [.val (.ref a),.val (.int i),.val (aJ p),.val (.int l),.val (.int h),.un] d)) (p:=rH l h) (aO (p.ks.zip p.ps)) (λd hd=>by
   obtain⟨z,_,rfl⟩:=C8.mp hd;have c:cE [3,4] [.val (.ref a),.val (.int i),.val (aJ p),.val (.int l),.val (.int h),.un] (.tup [.int z.1,.int z.2])=[.val (.tup [.int z.1,.int z.2]),.val (.int l),.val (.int h)]:=rfl;show eB (Xp iy eO (Qb 1) (Qi aA (Qb 0) (eC (.int 0))) (Qb 2)) (cE [3,4] [.val (.ref a),.val (.int i),.val (aJ p),.val (.int l),.val (.int h),.un] (.tup [.int z.1,.int z.2])) U=_;rw[c];have b:Qi aA (Qb 0) (eC (.int 0)) [.val (.tup [.int z.1,.int z.2]),.val (.int l),.val (.int h)] U=some (.int z.1,U):=Qh (Qe rfl) rfl (Zm (i:=0) rfl U);by_cases j:l<=z.1
   ·by_cases r:z.1<h<;>simp[eB,Xp,ZG,run_pure,b,Qb,Jt,Z3,cP,rH,j,r]
   ·simp[eB,Xp,ZG,run_pure,b,Qb,Jt,Z3,cP,rH,j])
  (λd hd=>rfl) (by rw[qO];lia)
 rw[Qao]at e;unfold Jn ZR;rw[Qg o,Qg (show Z6 _ _ _ lim 0 U=_ from e)];rfl
theorem KC(A:At U n k a f q S w)(D:dN n k a f q){l h:Int}(hd:w.O0=.stretch l h)(h1:p.ks.length<=100)(hw:w.O5.length<=50000)(R:(p.hi=none/\p.sd=none)∨∃x s,p.hi=some x/\p.sd=some s):
  ∃j,Xn [.ref a,.int i,aJ p] U=some (UJ (TR.Jz S w i p).1,j)/\At j n k a f q (TR.Jz S w i p).2.1 (TR.Jz S w i p).2.2/\Fr U j n k a f q:=by
 have d1:aA (Q9 w.O0) (.int 1) U=some (.int l,U):=by rw[hd];exact Zm (i:=1) rfl U
 have d2:aA (Q9 w.O0) (.int 2) U=some (.int h,U):=by rw[hd];exact Zm (i:=2) rfl U
 obtain⟨C,Y⟩:=A.more (OV.lst (aO (TR.Q1 p l h)));obtain⟨y,F2⟩:=C.pair D { w with O5:=w.O5++TR.Q1 p l h } rfl rfl;have pl:(TR.Q1 p l h).length<=100:=by unfold TR.Q1;refine Bj (Cb _ _) ?_;rw[List.length_zip];lia
 have gl:(U++[OV.lst (aO (TR.Q1 p l h))])[U.length]?=some (.lst (aO (TR.Q1 p l h))):=by simp
 have ql:q≠U.length:=λe=>by have:=Zw A.h5;lia
 have ex:=Qb8 (o:=QN "Walk" "pairs" (Qb 0)) (fa:=Qc (Qb 5) Ql) (env:=[.val (.ref a),.val (.int i),.val (aJ p),.val (.int l),.val (.int h),.val (.ref U.length)]) (Zc (Qe rfl) C.h3 (GA ..)) C.h5 (Jd (Qe rfl)) gl (by rw[qO,qO];lia);rw[Rs]at ex;have tw:∀{c:Hs}{env:En},c[U.length]?=some (.lst (aO (TR.Q1 p l h)))->env[5]?=some (.val (.ref U.length))->ZO nY (Qc (Qb 5) Ql) env c=some (.tup (aO (TR.Q1 p l h)),c):=λ{c env} hx he=>by unfold ZO;rw[Qg (Jd (Qe he))];show(ZF U.length >>= _) c=_;rw[Qg (Zg hx)];rfl
 have X:((U++[OV.lst (aO (TR.Q1 p l h))]).set q (OV.lst (aO (w.O5++TR.Q1 p l h))))[U.length]?=some (.lst (aO (TR.Q1 p l h))):=gs ql gl;have O:a≠U.length:=λe=>by have:=Zw A.h3;lia
 have start:∀(g:aD)(r:(Fl×En)×Hs),g [.val (.ref a),.val (.int i),.val (aJ p),.val (.int l),.val (.int h),.val (.ref U.length)] ((U++[OV.lst (aO (TR.Q1 p l h))]).set q (OV.lst (aO (w.O5++TR.Q1 p l h))))=some r ->
   Qq (QD 3 (Qi aA (QN "Walk" "deed" (Qb 0)) (eC (.int 1)))) (Qq (QD 4 (Qi aA (QN "Walk" "deed" (Qb 0)) (eC (.int 2)))) (Qq (QD 5 Jn) (Qq (ZY (JL "list" YF (QN "Walk" "pairs" (Qb 0)) (Qc (Qb 5) Ql))) g))) [.val (.ref a),.val (.int i),.val (aJ p),.un,.un,.un] U=some r:=λg r hg=>by
  refine Qr (QS (Qh (Zc (Qe rfl) A.h3 (zY ..)) rfl d1)) ?_;refine Qr (QS (Qh (Zc (Qe rfl) A.h3 (zY ..)) rfl d2)) ?_;refine Qr (QS (Qd1 A h1)) ?_;exact Qr (XA ex) hg
 have u:∃j,Qq (Zf "Walk" "ended" (Qb 0) (eC (.bl true))) (QF (Zk (Qc (eC (.str "read")) (Qc (Qb 1) (Qc (ZO nY (Qc (Qb 5) Ql)) (Qc (eC .non) (Qc (eC .non) Ql))))))) [.val (.ref a),.val (.int i),.val (aJ p),.val (.int l),.val (.int h),.val (.ref U.length)] ((U++[OV.lst (aO (TR.Q1 p l h))]).set q (OV.lst (aO (w.O5++TR.Q1 p l h))))=some ((.rt (UJ (.read i (TR.Q1 p l h) none)),[.val (.ref a),.val (.int i),.val (aJ p),.val (.int l),.val (.int h),.val (.ref U.length)]),j)/\At j n k a f q S { w with O5:=w.O5++TR.Q1 p l h,O7:=true }/\Fr U j n k a f q:=by obtain⟨z,J⟩:=y.walk D { w with O5:=w.O5++TR.Q1 p l h,O7:=true } rfl rfl;refine⟨_,?_,z,Y.trans (F2.trans J)⟩;refine Qr (JE (v:=.bl true) rfl (Qe rfl) y.h3 wl) ?_;exact QL (JG (Fq rfl (Qe rfl) (tw (gs O X) rfl) rfl rfl) (by simp))
 have t:∀c:Hs,Qi aA (Qb 2) (eC (.int 3)) [.val (.ref a),.val (.int i),.val (aJ p),.val (.int l),.val (.int h),.val (.ref U.length)] c=some (opt p.hi,c):=λc=>Qh (Qe rfl) rfl (MG p c);have OJ:∀c:Hs,Qi aA (Qb 2) (eC (.int 4)) [.val (.ref a),.val (.int i),.val (aJ p),.val (.int l),.val (.int h),.val (.ref U.length)] c=some (oN p.sd,c):=λc=>Qh (Qe rfl) rfl (w6 p c);rcases R with ⟨m,P⟩|⟨x,s,m,P⟩
 ·rw[Qch hd m];obtain⟨j,Q,I,L⟩:=u;refine⟨j,QI (start _ _ (Q2 (ZP (hp1:=_) ?_ Q))),I,L⟩;exact Fe (QR (Qh (t _) rfl (by rw[yO,m];rfl)))
 ·rw[QdH hd m P];by_cases hx:h<=x
  ·rw[Eb hx];obtain⟨j,Q,I,L⟩:=u;refine⟨j,QI (start _ _ (Q2 (ZP (hp1:=_) ?_ Q))),I,L⟩;exact(Uc (QR (b:=false) (Qh (t _) rfl (by rw[yO,m];rfl)))).trans (QR (Qh (t _) (Qe rfl) (by rw[m];show nP (.int x) (.int h) _=_;rw[Jq,Ef hx];rfl)))
  ·rw[Ea hx];obtain⟨z,J⟩:=y.walk D { w with O5:=w.O5++TR.Q1 p l h,aim:=x } rfl rfl;obtain⟨F,F4⟩:=z.walk D { w with O5:=w.O5++TR.Q1 p l h,aim:=x,O6:=some s } rfl rfl;refine⟨_,QI (env:=[.val (.ref a),.val (.int i),.val (aJ p),.val (.int l),.val (.int h),.val (.ref U.length)]) (start _ _ ?_),F,Y.trans (F2.trans (J.trans F4))⟩;refine Qr (Za ((Uc (QR (b:=false) (Qh (t _) rfl (by rw[yO,m];rfl)))).trans (QR (b:=false) (Qh (t _) (Qe rfl) (by rw[m];show nP (.int x) (.int h) _=_;rw[Jq,Eh hx];rfl))))) ?_;refine Qr (JE (v:=.int x) ((t _).trans (by rw[m];rfl)) (Qe rfl) y.h3 wl) ?_;refine Qr (JE (v:=.int s) ((OJ _).trans (by rw[P];rfl)) (Qe rfl) z.h3 wl) ?_;exact QL (JG (Fq rfl (Qe rfl) (tw (gs O (gs O X)) rfl) (Zc (Qe rfl) F.h3 (qy ..)) (Zc (Qe rfl) F.h3 (YQ ..))) (by simp))
end
section
variable{U:Hs}{n k a f q:Nat}{S:TR.Sh}{w:TR.Wk}{i:Nat}{p:TR.Pg}
theorem zX:PyData.strOk "find" = true:=by decide +kernel
theorem yk:PyData.strOk "put" = true:=by decide +kernel
theorem yj:PyData.strOk "cut" = true:=by decide +kernel
theorem vH:PyData.strOk "stretch" = true:=by decide +kernel
def jF:TR.bH->Str
 |.find _ => "find"
 |.put _ _ => "put"
 |.cut _ => "cut"
 |.stretch _ _ => "stretch"
theorem jc(d:TR.bH)(U:Hs):aA (Q9 d) (.int 0) U=some (.str (jF d),U):=by cases d<;>exact Zm (i:=0) rfl U
theorem kK(A:At U n k a f q S w)(D:dN n k a f q)(hi:i<S.pg.length)(h1:p.ks.length<=90)(h2:p.ps.length=p.ks.length)(h3:∀x,S.O2<(TR.QW p w.aim x).ks.length->3<=(TR.QW p w.aim x).ks.length)(h4:∀x,(TR.QW p w.aim x).ks.length<=100)(L:S.pg.length<90000)(hw:w.O5.length<=50000)(C:(p.hi=none/\p.sd=none)∨∃x s,p.hi=some x/\p.sd=some s):
    ∃c,Yn [.ref a,.int i,aJ p] U=some (UJ (TR.Jz S w i p).1,c)/\At c n k a f q (TR.Jz S w i p).2.1 (TR.Jz S w i p).2.2/\Fr U c n k a f q:=by
  have z:QD 3 (Qi aA (QN "Walk" "deed" (Qb 0)) (eC (.int 0))) [.val (.ref a),.val (.int i),.val (aJ p),.un] U=some ((.nx,[.val (.ref a),.val (.int i),.val (aJ p),.val (.str (jF w.O0))]),U):=QS (Qh (Zc (Qe rfl) A.h3 (zY ..)) rfl (jc w.O0 U));have j:∀(x:Str)(b:Bool),PyData.strOk (jF w.O0)=true->PyData.strOk x=true->(jF w.O0==x)=b->eB (Qi aX (Qb 3) (eC (.str x))) [.val (.ref a),.val (.int i),.val (aJ p),.val (.str (jF w.O0))] U=some (b,U):=λx b O P e=>QR (Qh (Qe rfl) rfl (fX U O P e));have v:∀(nm:Str) (fn:Eu) (d:DV) (c:Hs),List.lookup nm (cG n f q (Q9 w.O0) (.int w.aim) (.int w.O4) (oN w.O6) (oN w.Oz) (opt w.O1) (.bl w.O7))=none->fn [.ref a,.int i,aJ p] U=some (d,c)->QF (Qz "Walk" nm 3 fn (Qb 0) (Qc (Qb 1) (Qc (Qb 2) Ql))) [.val (.ref a),.val (.int i),.val (aJ p),.val (.str (jF w.O0))] U=some ((.rt d,[.val (.ref a),.val (.int i),.val (aJ p),.val (.str (jF w.O0))]),c):=λnm fn d c I J=>QL (QZ (Qe rfl) A.h3 I (ZM (Qe rfl) (Qe rfl)) rfl J);cases hd:w.O0 with
  |find y =>obtain⟨c,e,m,o⟩:=D1 (i:=i) A D ⋯ h2;refine⟨c,?_,by rw[Ul hd];exact m,o⟩;rw[Ul hd];have t:=j "find" true (by rw[hd];exact zX) zX (by rw[hd];show(("find" : Str)==("find" : Str))=true;decide);exact QI (Qr z (Q2 (ZP t (v _ _ _ _ (U_ ..) e))))
  |put y x =>obtain⟨c,e,m,o⟩:=Hc (i:=i) A D hi hd h1 h2 (h3 x) (h4 x) L;refine⟨c,?_,by rw[Ga hd];exact m,o⟩;rw[Ga hd];have r:=j "find" false (by rw[hd];exact yk) zX (by rw[hd];show(("put" : Str)==("find" : Str))=false;decide);have u:=j "put" true (by rw[hd];exact yk) yk (by rw[hd];show(("put" : Str)==("put" : Str))=true;decide);exact QI (Qr z (Qr (Za r) (Q2 (ZP u (v _ _ _ _ (T_ ..) e)))))
  |cut y =>obtain⟨c,e,m,o⟩:=GQ (i:=i) A D hi ⋯ h2;refine⟨c,?_,by rw[K9 hd];exact m,o⟩;rw[K9 hd];have r:=j "find" false (by rw[hd];exact yj) zX (by rw[hd];show(("cut" : Str)==("find" : Str))=false;decide);have u:=j "put" false (by rw[hd];exact yj) yk (by rw[hd];show(("cut" : Str)==("put" : Str))=false;decide);have F:=j "cut" true (by rw[hd];exact yj) yj (by rw[hd];show(("cut" : Str)==("cut" : Str))=true;decide);exact QI (Qr z (Qr (Za r) (Qr (Za u) (Q2 (ZP F (v _ _ _ _ (T9 ..) e))))))
  |stretch l h =>obtain⟨c,e,m,o⟩:=KC (i:=i) A D hd ⋯ hw C;refine⟨c,?_,m,o⟩;have r:=j "find" false (by rw[hd];exact vH) zX (by rw[hd];show(("stretch" : Str)==("find" : Str))=false;decide);have u:=j "put" false (by rw[hd];exact vH) yk (by rw[hd];show(("stretch" : Str)==("put" : Str))=false;decide);have F:=j "cut" false (by rw[hd];exact vH) yj (by rw[hd];show(("stretch" : Str)==("cut" : Str))=false;decide);exact QI (Qr z (Qr (Za r) (Qr (Za u) (Qr (Za F) (v _ _ _ _ (T8 ..) e)))))
theorem L_{r:TR.Row}(T:TR.Tree S bg)(W:TR.aM S bg w)(hr:S.O2<=50)(A:At U n k a f q S w)(D:dN n k a f q)(hl:S.pg.length<90000)(hf:w.O3.length<5000)(hw:w.O5.length<=50000)(hs:TR.Xj S w=some (r,S',w')):
    ∃j,Jy [.ref a] U=some (UJ r,j)/\At j n k a f q S' w'/\Fr U j n k a f q:=by
  have env0:([DV.ref a].map Sl.val++List.replicate (3 - [DV.ref a].length) Sl.un)=[.val (.ref a),.un,.un]:=rfl;cases he:w.O7 with
  |true=>unfold TR.Xj at hs;rw[Eb he]at hs;cases hs;refine⟨U,?_,A,Fr.refl⟩;exact QI (env:=[.val (.ref a),.un,.un]) (Q2 (ZP (QR (Zc (Qe rfl) A.h3 ((qx ..).trans (by rw[he])))) (QL (d:=.non) rfl)))
  |false =>
    obtain⟨m,av,J⟩:∃m,w.O6.getD S.top=m/\(w.O6=some m∨(w.O6=none/\m=S.top)):=by
      cases e:w.O6 with
      |none=>exact⟨S.top,rfl,.inr ⟨rfl,rfl⟩⟩
      |some m=>exact⟨m,rfl,.inl rfl⟩
    unfold TR.Xj at hs;rw[Ea (by rw[he];simp),av]at hs;cases l:S.pg[m]? with
    |none=>rw[l]at hs;cases hs
    |some p =>
      rw[l]at hs;simp only at hs;have ok:=T.page m p l;have ab:m<S.pg.length:=Zw l;have ay:p.ps.length<=100:=by have a1:=ok.parts;have a2:=ok.few;split at a1<;>lia
      have Y:p.ks.length<=90:=by have a2:=ok.few;lia
      have r2:=T.cU;have bd:aL (eB (QN "Walk" "ended" (Qb 0))) (QF (eC .non)) Q6 [.val (.ref a),.un,.un] U=some ((.nx,[.val (.ref a),.un,.un]),U):=(Za (QR (Zc (Qe rfl) A.h3 ((qx ..).trans (by rw[he])))));have ba:cL (eB (Qi isD (QN "Walk" "place" (Qb 0)) (eC .non))) (Qz "Shelf" "root" 1 JT (QN "Walk" "shelf" (Qb 0)) Ql) (QN "Walk" "place" (Qb 0)) [.val (.ref a),.un,.un] U=some (.int m,U):=by
        rcases J with e|⟨e,rfl⟩
        . exact(T3 (QR (b:=false) (Qh (Zc (Qe rfl) A.h3 (qy ..)) rfl (by rw[Ut,e];rfl)))).trans (Zc (Qe rfl) A.h3 ((qy ..).trans (by rw[e];rfl)))
        . exact(TY (QR (Qh (Zc (Qe rfl) A.h3 (qy ..)) rfl (by rw[Ut,e];rfl)))).trans (QZ (XC A rfl) A.h1 (Qay ..) JQ rfl (Sr A.h1))
      have rd:=Iu (i:=m) (d:=aJ p) A.h1 A.h2 D.nk (by rw[Bu,l];rfl);obtain⟨o,R⟩:=A.count D { S with rd:=S.rd+1 } rfl rfl;have be:=QS (i:=1) ba;have bh:QD 2 (Qz "Shelf" "read" 2 Jc (QN "Walk" "shelf" (Qb 0)) (Qc (Qb 1) Ql)) [.val (.ref a),.val (.int m),.un] U=some ((.nx,[.val (.ref a),.val (.int m),.val (aJ p)]),(U.set n (.ins "Shelf" (aN S.O2 k S.top (S.rd+1) S.wr)))):=QS (QZ (XC A rfl) A.h1 (U2 ..) (Jd (Qe rfl)) rfl rd);have P:∀I:Hs,Qi aA (Qb 2) (eC (.int 0)) [.val (.ref a),.val (.int m),.val (aJ p)] I=some (.int p.lv,I):=λI=>Qh (Qe rfl) rfl (Ig p I);have pR:eB (Qi isD (QN "Walk" "place" (Qb 0)) (eC .non)) [.val (.ref a),.val (.int m),.val (aJ p)] (U.set n (.ins "Shelf" (aN S.O2 k S.top (S.rd+1) S.wr)))=some (w.O6.isNone,(U.set n (.ins "Shelf" (aN S.O2 k S.top (S.rd+1) S.wr)))):=QR (Qh (Zc (Qe rfl) o.h3 (qy ..)) rfl (by rw[Ut];rfl));have tZ:QN "Walk" "goal" (Qb 0) [.val (.ref a),.val (.int m),.val (aJ p)] (U.set n (.ins "Shelf" (aN S.O2 k S.top (S.rd+1) S.wr)))=some (.int w.O4,(U.set n (.ins "Shelf" (aN S.O2 k S.top (S.rd+1) S.wr)))):=Zc (Qe rfl) o.h3 (ki ..);have t1:J1 (eB (Qi isD (QN "Walk" "place" (Qb 0)) (eC .non))) (eB (Qi eO (Qi aA (Qb 2) (eC (.int 0))) (QN "Walk" "goal" (Qb 0)))) [.val (.ref a),.val (.int m),.val (aJ p)] (U.set n (.ins "Shelf" (aN S.O2 k S.top (S.rd+1) S.wr)))=some (decide (w.O6=none/\p.lv<w.O4),(U.set n (.ins "Shelf" (aN S.O2 k S.top (S.rd+1) S.wr)))):=by
        cases hp0:w.O6 with
        |none =>
          rw[hp0]at pR;refine(yB pR).trans (QR (Qh (P _) tZ ?_));rw[Z3];show some (DV.bl _,_)=_;congr 3;by_cases z:p.lv<w.O4
          . rw[Ef (show(p.lv:Int)<w.O4 by lia),Ef (show(none:Option Nat)=none/\p.lv<w.O4 from⟨rfl,z⟩)]
          . rw[Eh (show ¬ (p.lv:Int)<w.O4 by lia),Eh (λh=>z h.2)]
        |some z=>rw[hp0]at pR;rw[Eh (λh=>by cases h.1)];exact j6 pR
      have go:∀(g:aD) (x:(Fl×En)×Hs),g [.val (.ref a),.val (.int m),.val (aJ p)] (U.set n (.ins "Shelf" (aN S.O2 k S.top (S.rd+1) S.wr)))=some x->Qq (aL (eB (QN "Walk" "ended" (Qb 0))) (QF (eC .non)) Q6) (Qq (QD 1 (cL (eB (Qi isD (QN "Walk" "place" (Qb 0)) (eC .non))) (Qz "Shelf" "root" 1 JT (QN "Walk" "shelf" (Qb 0)) Ql) (QN "Walk" "place" (Qb 0)))) (Qq (QD 2 (Qz "Shelf" "read" 2 Jc (QN "Walk" "shelf" (Qb 0)) (Qc (Qb 1) Ql))) g)) [.val (.ref a),.un,.un] U=some x:=λg x l=>Qr bd (Qr be (Qr bh l));by_cases t:w.O6=none/\p.lv<w.O4
      . rw[Eb t]at hs
        rw[Ef t]at t1;cases F:w.Oz with
        |none=>rw[F]at hs;cases hs
        |some c =>
          rw[F]at hs;simp only[Option.some.injEq,Bp]at hs;obtain⟨rfl,rfl,rfl⟩:=hs;have ae:m=S.top:=by
            rcases J with e|⟨_,e⟩
            . rw[t.1]at e;cases e
            . exact e
          subst ae;obtain⟨X,z,y,Q,_⟩:=W.tell ⋯;rw[F]at y;cases y;obtain⟨j,e,u,v⟩:=KA (i:=S.top) o D F (Zw Q) l hl;rw[F]at u;refine⟨j,?_,u,R.trans v⟩;exact QI (go _ _ (Q2 (ZP t1 (QL (QZ (Qe rfl) o.h3 (V_ ..) (Jd (Qe rfl)) rfl e)))))
      . rw[Ea t]at hs
        rw[Eh t]at t1;have t2:eB (Qs 2 Y3 (Qc (Qb 2) (Qc (QN "Walk" "aim" (Qb 0)) Ql))) [.val (.ref a),.val (.int m),.val (aJ p)] (U.set n (.ins "Shelf" (aN S.O2 k S.top (S.rd+1) S.wr)))=some (TR.Jo p w.aim,(U.set n (.ins "Shelf" (aN S.O2 k S.top (S.rd+1) S.wr)))):=QR (QY (ZM (Qe rfl) (Zc (Qe rfl) o.h3 (YQ ..))) rfl (Ze (Qcr p w.aim) _));have C:∀(g:aD) (x:(Fl×En)×Hs),g [.val (.ref a),.val (.int m),.val (aJ p)] (U.set n (.ins "Shelf" (aN S.O2 k S.top (S.rd+1) S.wr)))=some x->Qq (aL (J1 (eB (Qi isD (QN "Walk" "place" (Qb 0)) (eC .non))) (eB (Qi eO (Qi aA (Qb 2) (eC (.int 0))) (QN "Walk" "goal" (Qb 0))))) (QF (Qz "Walk" "raise_root_over" 2 ZQ (Qb 0) (Qc (Qb 1) Ql))) Q6) g [.val (.ref a),.val (.int m),.val (aJ p)] (U.set n (.ins "Shelf" (aN S.O2 k S.top (S.rd+1) S.wr)))=some x:=λg x l=>Qr (Za t1) l;cases hb:TR.Jo p w.aim with
        |true =>
          rw[hb,Eb rfl]at hs;rw[hb]at t2;cases O:p.sd with
          |none=>rw[O]at hs;cases hs
          |some s =>rw[O]at hs;simp only[Option.some.injEq,Bp]at hs;obtain⟨rfl,rfl,rfl⟩:=hs;obtain⟨j,e,u,v⟩:=uJ (i:=m) o D "side" (some s);refine⟨j,?_,u,R.trans v⟩;refine QI (go _ _ (C _ _ (Q2 (ZP t2 (QL (QZ (Qe rfl) o.h3 (Ht ..) (Z5 rfl (Qe rfl) (Qh (Qe rfl) rfl (w6 p _))) rfl ?_))))));rw[O];exact e
        |false =>
          rw[hb,Ea (by simp)]at hs;rw[hb]at t2;have t3:eB (Qi lZ (Qi aA (Qb 2) (eC (.int 0))) (QN "Walk" "goal" (Qb 0))) [.val (.ref a),.val (.int m),.val (aJ p)] (U.set n (.ins "Shelf" (aN S.O2 k S.top (S.rd+1) S.wr)))=some (decide (w.O4<p.lv),(U.set n (.ins "Shelf" (aN S.O2 k S.top (S.rd+1) S.wr)))):=QR (Qh (P _) tZ (by
            rw[Je];show some (DV.bl _,_)=_;congr 3;by_cases z:w.O4<p.lv
            . rw[Ef z,Ef ⋯]
            . rw[Eh z,Eh ⋯]))
          by_cases hd:w.O4<p.lv
          . rw[Eb hd]at hs
            rw[Ef hd]at t3;cases hc:p.ps[TR.aG p.ks w.aim]? with
            |none=>rw[hc]at hs;cases hs
            |some c =>rw[hc]at hs;simp only[Option.some.injEq,Bp]at hs;obtain⟨rfl,rfl,rfl⟩:=hs;have pl:=ok.parts;rw[Ea ⋯]at pl;obtain⟨X,z,y,Q,_⟩:=T.kid m p l ⋯ _ _ hc;subst y;obtain⟨A2,F2⟩:=o.fork D { w with O3:=TR.yP w.O3 p.lv m } rfl rfl;obtain⟨j,e,u,v⟩:=uJ (i:=m) A2 D "down" (some X);refine⟨j,?_,by rw[B7];exact u,R.trans (F2.trans v)⟩;have ke:=ME p w.aim X ⋯ pl hc;have pt:Jw (Qb 1) (bB (QN "Walk" "forks" (Qb 0)) (Qi aA (Qb 2) (eC (.int 0)))) [.val (.ref a),.val (.int m),.val (aJ p)] (U.set n (.ins "Shelf" (aN S.O2 k S.top (S.rd+1) S.wr)))=some ((.nx,[.val (.ref a),.val (.int m),.val (aJ p)]),(U.set n (.ins "Shelf" (aN S.O2 k S.top (S.rd+1) S.wr))).set f (.aB (dZ (TR.yP w.O3 p.lv m)))):=MY (Qe rfl) (Zc (Qe rfl) o.h3 (Gz ..)) (P _) o.h4 hf;refine QI (go _ _ (C _ _ (Qr (Za t2) (Q2 (ZP t3 (Qr pt (QL (QZ (Qe rfl) A2.h3 (Ht ..) (Z5 rfl (Qe rfl) (QY (ZM (Qe rfl) (Zc (Qe rfl) A2.h3 (YQ ..))) rfl (Ze ke _))) rfl ?_))))))));rw[show UJ (TR.Row.down m (X:Int).toNat)=.tup [.str "down", .int m,.int X]from by rw[B7];rfl];exact e
          . rw[Ea hd]at hs
            rw[Eh hd]at t3;have Dl:∀(g:aD) (x:(Fl×En)×Hs),g [.val (.ref a),.val (.int m),.val (aJ p)] (U.set n (.ins "Shelf" (aN S.O2 k S.top (S.rd+1) S.wr)))=some x->Qq (aL (eB (Qs 2 Y3 (Qc (Qb 2) (Qc (QN "Walk" "aim" (Qb 0)) Ql)))) (QF (Qz "Walk" "go_on" 4 JU (Qb 0) (Qc (eC (.str "side")) (Qc (Qb 1) (Qc (Qi aA (Qb 2) (eC (.int 4))) Ql))))) Q6) (Qq (aL (eB (Qi lZ (Qi aA (Qb 2) (eC (.int 0))) (QN "Walk" "goal" (Qb 0)))) (Qq (Jw (Qb 1) (bB (QN "Walk" "forks" (Qb 0)) (Qi aA (Qb 2) (eC (.int 0))))) (QF (Qz "Walk" "go_on" 4 JU (Qb 0) (Qc (eC (.str "down")) (Qc (Qb 1) (Qc (Qs 2 Y4 (Qc (Qb 2) (Qc (QN "Walk" "aim" (Qb 0)) Ql))) Ql)))))) Q6) g) [.val (.ref a),.val (.int m),.val (aJ p)] (U.set n (.ins "Shelf" (aN S.O2 k S.top (S.rd+1) S.wr)))=some x:=λg x l=>Qr (Za t2) (Qr (Za t3) l);have t4:eB (Qi lZ (QN "Walk" "goal" (Qb 0)) (eC (.int 0))) [.val (.ref a),.val (.int m),.val (aJ p)] (U.set n (.ins "Shelf" (aN S.O2 k S.top (S.rd+1) S.wr)))=some (decide (0<w.O4),(U.set n (.ins "Shelf" (aN S.O2 k S.top (S.rd+1) S.wr)))):=QR (Qh tZ rfl (by
              rw[Je];show some (DV.bl _,_)=_;congr 3;by_cases z:0<w.O4
              . rw[Ef z,Ef ⋯]
              . rw[Eh z,Eh ⋯]))
            have bm:w.O4<=p.lv:=by
              rcases J with e|⟨e,_⟩
              . obtain⟨p',y,Q,_⟩:=W.at_ m e
                rw[l]at y;cases y;exact Q
              . exact C0 λh=>t ⟨e,h⟩
            by_cases h0:0<w.O4
            . rw[Eb h0]at hs
              rw[Ef h0]at t4;cases F:w.Oz with
              |none=>rw[F]at hs;cases hs
              |some c=>rw[F]at hs;simp only[Option.some.injEq,Bp]at hs;obtain⟨rfl,rfl,rfl⟩:=hs;have kl:=TR.Vq ok (k:=w.aim) (c:=c);obtain⟨j,e,u,v⟩:=HC (i:=m) (p:=p) o D ab F Y ay (λz=>by have:S.O2<(TR.Zh p w.aim c).ks.length:=z;lia) ⋯ hl;refine⟨j,?_,u,R.trans v⟩;exact QI (go _ _ (C _ _ (Dl _ _ (Q2 (ZP t4 (QL (QZ (Qe rfl) o.h3 (Wa ..) (ZM (Qe rfl) (Qe rfl)) rfl e)))))))
            . rw[Ea h0]at hs
              rw[Eh h0]at t4;have hz:p.lv=0:=⋯
              have pl:=ok.parts;rw[Eb hz]at pl;have kl:∀x,(TR.QW p w.aim x).ks.length<=S.O2+1:=λx=>TR.ym ok;obtain⟨j,e,u,v⟩:=kK (i:=m) (p:=p) o D ab Y ⋯ (λx z=>by have:S.O2<(TR.QW p w.aim x).ks.length:=z;lia) (λx=>by have:=kl x;lia) hl hw ((T.link m p l).imp id λ⟨x,s,_,y,Q,_⟩=>⟨x,s,y,Q⟩);have L:=Ak hs;refine⟨j,?_,?_,R.trans v⟩
              . rw[show r=(TR.Jz { S with rd:=S.rd+1 } w m p).1 by rw[L]]
                exact QI (go _ _ (C _ _ (Dl _ _ (Qr (Za t4) (QL (QZ (Qe rfl) o.h3 (Wb ..) (ZM (Qe rfl) (Qe rfl)) rfl e))))))
              . rw[show S'=(TR.Jz { S with rd:=S.rd+1 } w m p).2.1 by rw[L],show w'=(TR.Jz { S with rd:=S.rd+1 } w m p).2.2 by rw[L]]
                exact u
end
theorem QeN(n:Nat)(d:TR.bH)(U:Hs):ZL [.ref U.length,.ref n,Q9 d] (U++[.ins "Walk" []])=some (.non,U++[cN n (U.length+1) (U.length+2) (TR.fresh d),.aB [],.lst []]):=by
 have st:∀(nm:Str) (e:aF) (v:DV) (fs:List (Str×DV)) (t t':Hs),e [.val (.ref U.length),.val (.ref n),.val (Q9 d)] (U++.ins "Walk" fs::t)=some (v,U++.ins "Walk" fs::t')->fs.length<1000->Zf "Walk" nm (Qb 0) e [.val (.ref U.length),.val (.ref n),.val (Q9 d)] (U++.ins "Walk" fs::t)=some ((.nx,[.val (.ref U.length),.val (.ref n),.val (Q9 d)]),U++.ins "Walk" (Xw nm v fs)::t'):=λnm e v fs t t' he c=>by rw[JE he (Qe rfl) (Hw U _ _) c,Hg]
 have a:∀fs,J3 [.val (.ref U.length),.val (.ref n),.val (Q9 d)] (U++.ins "Walk" fs::[])=some (.ref (U.length+1),U++.ins "Walk" fs::[.aB []]):=λfs=>by show some (DV.ref (U++[OV.ins "Walk" fs]).length,(U++[OV.ins "Walk" fs])++[OV.aB []])=_;simp
 have b:∀fs,Xf Ql [.val (.ref U.length),.val (.ref n),.val (Q9 d)] (U++.ins "Walk" fs::[.aB []])=some (.ref (U.length+2),U++.ins "Walk" fs::[.aB [],.lst []]):=λfs=>by show some (DV.ref (U++[OV.ins "Walk" fs,OV.aB []]).length,(U++[OV.ins "Walk" fs,OV.aB []])++[OV.lst []])=_;simp
 refine Sn (env:=[.val (.ref U.length),.val (.ref n),.val (Q9 d)]) ?_;refine Qr (st "shelf" _ (.ref n) [] [] [] (Qe rfl) (By (m:=20) (by repeat (first|exact Be _|refine J8 ?_)) (by decide))) ?_;refine Qr (st "deed" _ (Q9 d) _ [] [] (Qe rfl) (By (m:=20) (by repeat (first|exact Be _|refine J8 ?_)) (by decide))) ?_;refine Qr (st "aim" _ (.int d.key) _ [] [] (Qh (Qe rfl) rfl (Qdd d _)) (By (m:=20) (by repeat (first|exact Be _|refine J8 ?_)) (by decide))) ?_;refine Qr (st "goal" _ (.int 0) _ [] [] rfl (By (m:=20) (by repeat (first|exact Be _|refine J8 ?_)) (by decide))) ?_;refine Qr (st "place" _ .non _ [] [] rfl (By (m:=20) (by repeat (first|exact Be _|refine J8 ?_)) (by decide))) ?_;refine Qr (st "forks" _ (.ref (U.length+1)) _ [] [.aB []] (a _) (By (m:=20) (by repeat (first|exact Be _|refine J8 ?_)) (by decide))) ?_;refine Qr (st "new_page" _ .non _ [.aB []] [.aB []] rfl (By (m:=20) (by repeat (first|exact Be _|refine J8 ?_)) (by decide))) ?_;refine Qr (st "worth" _ .non _ [.aB []] [.aB []] rfl (By (m:=20) (by repeat (first|exact Be _|refine J8 ?_)) (by decide))) ?_;refine Qr (st "pairs" _ (.ref (U.length+2)) _ [.aB []] [.aB [],.lst []] (b _) (By (m:=20) (by repeat (first|exact Be _|refine J8 ?_)) (by decide))) ?_;exact st "ended" _ (.bl false) _ [.aB [],.lst []] [.aB [],.lst []] rfl (By (m:=20) (by repeat (first|exact Be _|refine J8 ?_)) (by decide))
theorem kj{n:Nat}{d:TR.bH}{fa:cu}{hp0 U:Hs}(c:fa env hp0=some ([.ref n,Q9 d],U)):J6 "Walk" 3 ZL fa env hp0=some (.ref U.length,U++[cN n (U.length+1) (U.length+2) (TR.fresh d),.aB [],.lst []]):=by unfold J6;rw[Qg c];have a:X0 (.ins "Walk" []) U=some (.ref U.length,U++[.ins "Walk" []]):=rfl;have b:QB (decide ([DV.ref n,Q9 d].length+1=3)) U=some ((),U):=rfl;rw[Qg b,Qg a,Qg (QeN n d U)];rfl
def jo{U:Hs}{n f q a:Nat}{w:TR.Wk}(h:U[a]?=some (cN n f q w)):Zi [.ref a] U=some (.bl w.O7,U):=QI (QL (Zc (Qe rfl) h (qx ..)))
def zo(c p m:Int):Int:=(c+p / 3) % p * ((c+p / 3) % p) % p * ((c+p / 3) % p) % p % m
theorem Jh(c p m:Int)(h0:0<p)(h1:p<1073741824)(i:0<m):Qw [.int c,.int p,.int m]=pure (.int (zo c p m)):=by have j:0<=(c+p / 3) % p:=Int.emod_nonneg _ ⋯;have l:(c+p / 3) % p<p:=Int.emod_lt_of_pos _ h0;have d:=uw p 3 (by decide) (by decide);have a:=XU (c+p / 3) p h0;have b:=xf ((c+p / 3) % p) ((c+p / 3) % p) ⋯ ⋯;have e:=XU ((c+p / 3) % p * ((c+p / 3) % p)) p h0;have f:=z_ ((c+p / 3) % p * ((c+p / 3) % p) % p) ((c+p / 3) % p) ⋯ ⋯;have g:=XU ((c+p / 3) % p * ((c+p / 3) % p) % p * ((c+p / 3) % p)) p h0;have h:=XU ((c+p / 3) % p * ((c+p / 3) % p) % p * ((c+p / 3) % p) % p) m i;simp[Qw,VZ,Zb,Qq,QD,QF,Qi,Qb,eC,ZN,d,a,b,e,f,g,h,zo]
theorem Xu(c p m:Int)(h:0<m):0<=zo c p m:=Int.emod_nonneg _ ⋯
def Yg(c p m:Int)(h:0<m):zo c p m<m:=Int.emod_lt_of_pos _ h
def FJ:zS (.int 10) (.int 40)=pure (.int 10000000000000000000000000000000000000000):=rfl
def emp:DV:=.tup [.int 0,.tup [],.tup [],.non,.non]
theorem Pz(d:DV):Xw ("page_room" : Str) d []=[(("page_room" : Str),d)]:=by rfl
theorem Py(x d:DV):Xw ("kept" : Str) d [(("page_room" : Str),x)]=[(("page_room" : Str),x),(("kept" : Str),d)]:=by rfl
theorem Px(x y d:DV):Xw ("top" : Str) d [(("page_room" : Str),x),(("kept" : Str),y)]=[(("page_room" : Str),x),(("kept" : Str),y),(("top" : Str),d)]:=by rfl
theorem Pu(x y z d:DV):Xw ("read_count" : Str) d [(("page_room" : Str),x),(("kept" : Str),y),(("top" : Str),z)]=[(("page_room" : Str),x),(("kept" : Str),y),(("top" : Str),z),(("read_count" : Str),d)]:=by rfl
theorem Pr(x y z u d:DV):Xw ("write_count" : Str) d [(("page_room" : Str),x),(("kept" : Str),y),(("top" : Str),z),(("read_count" : Str),u)]=[(("page_room" : Str),x),(("kept" : Str),y),(("top" : Str),z),(("read_count" : Str),u),(("write_count" : Str),d)]:=by rfl
theorem DH(r:Int)(U:Hs):ZZ [.ref U.length,.int r] (U++[.ins "Shelf" []])=some (.non,U++[.ins "Shelf" (aN r (U.length+1) 0 0 0),.lst [emp]]):=by simp[ZZ,Y7,Zb,Qq,QD,QF,YI,aL,Q6,x3,jZ,xY,xZ,Qi,Qb,eC,eB,cP,J1,cA,Jk,Jm,xI,Yc,cL,xH,Ql,Qc,Zk,Ye,Qs,ZO,QB,gN,ZN,Ji,Je,Z3,Jt,Jq,Jg,Xv,YG,xV,ZS,JO,ZY,Zf,Yx,UK,Jw,bB,xg,JL,Xi,QN,j7,xo,eN,fC,dH,Jf,Xt,Yd,Xs,aA,Yw,qM,Yz,JR,YV,cF,jv,Ka,Qz,J6,Xf,J3,Xq,d9,ZG,Xy,run_pure,JS,Jv,Xx,run_set,Xz,Zl,QV,Z1,Hw,Hg,Pz,Py,Px,Pu,Pr,YN,lim,aN,emp]
theorem QeM(r:Nat)(h:2<=r):TR.Tree ⟨r,[⟨0,[],[],none,none⟩],0,0,0⟩ (λ_=>none):=by
 have one:∀(n:Nat)(p:TR.Pg),([⟨0,[],[],none,none⟩]:List TR.Pg)[n]?=some p->n=0/\p=⟨0,[],[],none,none⟩:=λn p U=>by
  match n,U with
  |0,U=>cases U;exact⟨rfl,rfl⟩
  |n+1,U=>simp at U
 refine⟨h,⟨_,rfl,λn p U=>?_⟩,rfl,λn p U=>?_,λn p U=>?_,λn p U h0=>?_,λn m p q f c _ e=>?_,λn p U v i=>(by cases i)⟩
 ·rw[(one n p U).2];exact Ae _
 ·rw[(one n p U).2];exact⟨List.Pairwise.nil,Be _,rfl,λk a=>(by cases a),λ_ k a=>(by cases a),λk a=>(by cases a),λh b=>(by cases b)⟩
 ·rw[(one n p U).2];exact .inl ⟨rfl,rfl⟩
 ·rw[(one n p U).2]at h0;exact absurd h0 (by decide)
 ·exact absurd ((one n p f).1.trans (one m q c).1.symm) e
def wD(a b:Int):vi [.int a,.int b]=pure (.int (if b<a then b else a)):=rfl
theorem Wv(c:Int)(U:Hs):∃k,Y5 [.int c] U=some (.int k,U):=by
 have i:=Jh c 10007 5 (by decide) (by decide) (by decide);have g:=Xu c 10007 5 (by decide);have l:=Yg c 10007 5 (by decide);generalize zo c 10007 5=q at i g l
 let e:En:=[.val (.int c),.val (.int q)]
 have j:QD 1 (Qs 3 Qw (Qc (Qb 0) (Qc (eC (.int 10007)) (Qc (eC (.int 5)) Ql)))) [.val (.int c),.un] U=some ((.nx,e),U):=QS (QY (Z5 (Qe rfl) rfl rfl) rfl (Ze i _));have t:eB (Qi j_ (Qb 1) (eC (.int 0))) e U=some (q==0,U):=QR (Qh (Qe rfl) rfl (Ze (ZS _ _) _));by_cases h:q=0
 ·rw[h]at t;have a:=XU c 10000000000000000000000000000000000000000 (by decide);have b:=z_ (c % 10000000000000000000000000000000000000000) 1000000000039 (by decide) (by decide);have d:=xf 2 1000000000000000000000000000000 (by decide) (by decide);have m:=XU (c % 10000000000000000000000000000000000000000 * 1000000000039+11) 2000000000000000000000000000001 (by decide);exact⟨_,QI (env:=e) (Qr j (Q2 (ZP t (QL (Qh (Qh (Qh (Qh (Qh (Qe rfl) (Qh rfl rfl (Ze FJ _)) (Ze a _)) rfl (Ze b _)) rfl rfl) (Qh (Qh rfl (Qh rfl rfl (Ze Xv _)) (Ze d _)) rfl rfl) (Ze m _)) (Qh rfl rfl (Ze Xv _)) rfl)))))⟩
 ·rw[show(q==0)=false by simpa using h]at t;obtain⟨v,n,f⟩:∃v:Int,atI [DV.int 10,.int 10,.int 41,.int 120,.int 120] q=some (.int v)/\0<v:=by
   rcases(by lia:q=1∨q=2∨q=3∨q=4)with r|r|r|r<;>rw[r]
   ·exact⟨10,rfl,by decide⟩
   ·exact⟨41,rfl,by decide⟩
   ·exact⟨120,rfl,by decide⟩
   ·exact⟨120,rfl,by decide⟩
  refine⟨_,QI (env:=e) (Qr j (Qr (Za t) (QL (Qh (QY (Z5 (v'':=.int v) (Qe rfl) rfl (Qh (x:=.lst [.int 10,.int 10,.int 41,.int 120,.int 120]) rfl (Qe rfl) ?_)) rfl (Ze (Jh c 10009 v (by decide) (by decide) f) _)) rfl rfl))))⟩;show Yz (atI _ q) U=_;rw[n];rfl
theorem Hn(c:Int)(U:Hs):∃k,zx [.int c] U=some (.int k,U):=by
 have e:=Jh c 10037 4 (by decide) (by decide) (by decide);have t:eB (Qi j_ (Qs 3 Qw (Qc (Qb 0) (Qc (eC (.int 10037)) (Qc (eC (.int 4)) Ql)))) (eC (.int 0))) [.val (.int c)] U=some (zo c 10037 4==0,U):=QR (Qh (QY (Z5 (Qe rfl) rfl rfl) rfl (Ze e _)) rfl (Ze (ZS _ _) _));by_cases h:zo c 10037 4=0
 ·rw[h]at t;have a:=XU c 10000000000000000000000000000000000000000 (by decide);have b:=z_ (c % 10000000000000000000000000000000000000000) 1000000000039 (by decide) (by decide);have d:=xf 2 1000000000000000000000000000000 (by decide) (by decide);have m:=XU (c % 10000000000000000000000000000000000000000 * 1000000000039+5) 2000000000000000000000000000001 (by decide);exact⟨_,QI (env:=[.val (.int c)]) (Q2 (ZP t (QL (Qh (Qh (Qh (Qh (Qh (Qe rfl) (Qh rfl rfl (Ze FJ _)) (Ze a _)) rfl (Ze b _)) rfl rfl) (Qh (Qh rfl (Qh rfl rfl (Ze Xv _)) (Ze d _)) rfl rfl) (Ze m _)) (Qh rfl rfl (Ze Xv _)) rfl))))⟩
 ·rw[show(zo c 10037 4==0)=false by simpa using h]at t;exact⟨_,QI (env:=[.val (.int c)]) (Qr (Za t) (QL (Qh (QY (Z5 (Qe rfl) rfl rfl) rfl (Ze (Jh c 10039 9 (by decide) (by decide) (by decide)) _)) rfl rfl)))⟩
theorem BO(c:Int)(U:Hs):∃d,qz [.int c] U=some (Q9 d,U)/\TR.Ik d:=by
 have u:=Jh c 10061 10 (by decide) (by decide) (by decide);obtain⟨k,P⟩:=Wv c U;obtain⟨x,xe⟩:=Hn c U;generalize zo c 10061 10=kd at u
 let E:Sl->Sl->Sl->En:=λz3 z4 z5=>[.val (.int c),.val (.int kd),.val (.int k),z3,z4,z5]
 have X:QD 1 (Qs 3 Qw (Qc (Qb 0) (Qc (eC (.int 10061)) (Qc (eC (.int 10)) Ql)))) [.val (.int c),.un,.un,.un,.un,.un] U=some ((.nx,[.val (.int c),.val (.int kd),.un,.un,.un,.un]),U):=QS (QY (Z5 (Qe rfl) rfl rfl) rfl (Ze u _));have Y:QD 2 (Qs 1 Y5 (Qc (Qb 0) Ql)) [.val (.int c),.val (.int kd),.un,.un,.un,.un] U=some ((.nx,E .un .un .un),U):=QS (QY (Jd (Qe rfl)) rfl P);have t:∀n:Int,eB (Qi eO (Qb 1) (eC (.int n))) (E .un .un .un) U=some (decide (kd<n),U):=λn=>QR (Qh (Qe rfl) rfl (Ze (Z3 _ _) _));have go:∀(g:aD)(d:DV)(e:En),g (E .un .un .un) U=some ((.rt d,e),U)->Qq (QD 1 (Qs 3 Qw (Qc (Qb 0) (Qc (eC (.int 10061)) (Qc (eC (.int 10)) Ql))))) (Qq (QD 2 (Qs 1 Y5 (Qc (Qb 0) Ql))) g) [.val (.int c),.un,.un,.un,.un,.un] U=some ((.rt d,e),U):=λg d e h=>Qr X (Qr Y h);by_cases h1:kd<5
 ·have a:=t 5;rw[Ef h1]at a;exact⟨.put k x,QI (go _ _ _ (Q2 (ZP a (QL (JG (Z5 rfl (Qe rfl) (QY (Jd (Qe rfl)) rfl xe)) (by simp)))))),trivial⟩
 have a:=t 5;rw[Eh h1]at a;by_cases h2:kd<7
 ·have b:=t 7;rw[Ef h2]at b;exact⟨.cut k,QI (go _ _ _ (Qr (Za a) (Q2 (ZP b (QL (JG (ZM rfl (Qe rfl)) (by simp))))))),trivial⟩
 have b:=t 7;rw[Eh h2]at b;by_cases h3:kd<9
 ·have i:=t 9;rw[Ef h3]at i;exact⟨.find k,QI (go _ _ _ (Qr (Za a) (Qr (Za b) (Q2 (ZP i (QL (JG (ZM rfl (Qe rfl)) (by simp)))))))),trivial⟩
 have i:=t 9;rw[Eh h3]at i;have o:=Jh c 10067 50 (by decide) (by decide) (by decide);have y:=Jh c 10151 150 (by decide) (by decide) (by decide);have z:=Jh c 10069 4 (by decide) (by decide) (by decide);have g4:=Xu c 10069 4 (by decide);have Q:=Yg c 10069 4 (by decide);have C:=Xu c 10067 50 (by decide);have t_:=Xu c 10151 150 (by decide);generalize zo c 10069 4=f at z g4 Q;generalize zo c 10067 50=x5 at o C;generalize zo c 10151 150=Nb at y t_;obtain⟨lo,J,lo1⟩:∃lo:Int,vi [.int k,.int (1000000000000000000000000000000-1)]=pure (.int lo)/\lo<=999999999999999999999999999999:=⟨_,wD _ _,by split<;>lia⟩
 obtain⟨ne,L,j⟩:∃ne:Int,vi [.int 1000000000000000000000000000000,.int (lo+1+x5)]=pure (.int ne)/\lo<ne:=⟨_,wD _ _,by split<;>lia⟩
 obtain⟨fa,I,F⟩:∃fa:Int,vi [.int 1000000000000000000000000000000,.int (lo+51+Nb)]=pure (.int fa)/\lo<fa:=⟨_,wD _ _,by split<;>lia⟩
 obtain⟨v,O,lv⟩:∃v:Int,atI [DV.int (lo+1),.int ne,.int fa,.int 1000000000000000000000000000000] f=some (.int v)/\lo<v:=by
  rcases(by lia:f=0∨f=1∨f=2∨f=3)with q|q|q|q<;>rw[q]
  ·exact⟨_,rfl,⋯⟩
  ·exact⟨_,rfl,j⟩
  ·exact⟨_,rfl,F⟩
  ·exact⟨_,rfl,⋯⟩
 have pw:∀e:En,Qi zS (eC (.int 10)) (eC (.int 30)) e U=some (.int 1000000000000000000000000000000,U):=λe=>Qh rfl rfl (Ze Xv _);have l:∀(e:En)(p m r:Int),e[0]?=some (.val (.int c))->Qw [.int c,.int p,.int m]=pure (.int r)->Qs 3 Qw (Qc (Qb 0) (Qc (eC (.int p)) (Qc (eC (.int m)) Ql))) e U=some (.int r,U):=λe p m r h h'=>QY (Z5 (Qe h) rfl rfl) rfl (Ze h' _);refine⟨.stretch lo v,QI (go _ _ (E (.val (.int lo)) (.val (.int ne)) (.val (.int fa))) (Qr (Za a) (Qr (Za b) (Qr (Za i) ?_)))),lv⟩;refine Qr (aR:=E (.val (.int lo)) .un .un) (hp1:=U) (QS (jX (ZM (Qe rfl) (Qh (pw _) rfl rfl)) (Ze J _))) ?_;refine Qr (aR:=E (.val (.int lo)) (.val (.int ne)) .un) (hp1:=U) (QS (jX (ZM (pw _) (Qh (Qh (Qe rfl) rfl rfl) (l _ _ _ _ rfl o) rfl)) (Ze L _))) ?_;refine Qr (aR:=E (.val (.int lo)) (.val (.int ne)) (.val (.int fa))) (hp1:=U) (QS (jX (ZM (pw _) (Qh (Qh (Qe rfl) rfl rfl) (l _ _ _ _ rfl y) rfl)) (Ze I _))) (QL ?_);have R:Ye (Qc (Qi ZE (Qb 3) (eC (.int 1))) (Qc (Qb 4) (Qc (Qb 5) (Qc (Qi zS (eC (.int 10)) (eC (.int 30))) Ql)))) (E (.val (.int lo)) (.val (.int ne)) (.val (.int fa))) U=some (.lst [.int (lo+1),.int ne,.int fa,.int 1000000000000000000000000000000],U):=by unfold Ye;rw[Qg (VT (Qh (Qe rfl) rfl rfl) (Qe rfl) (Qe rfl) (pw _))];rfl
 refine JG (Z5 rfl (Qe rfl) (Qh R (l _ _ _ _ rfl z) ?_)) (by simp);show Yz (atI _ f) U=_;rw[O];rfl
abbrev Zs:=List (Int×Int)
def zK(z:Zs):List Int:=z.map (·.1)
def zE(z:Zs):List (Key×DV):=z.map λp=>(.inl p.1,.int p.2)
def cQ(z:Zs):Prop:=z.Pairwise λp q=>p.1<q.1
def nW(z:Zs)(k:Int):Zs:=z.filter λp=>decide (p.1<k)
def nZ(z:Zs)(k:Int):Zs:=z.filter λp=>decide (k<p.1)
def yR(z:Zs)(k:Int)(n:Zs):Zs:=nW z k++n++nZ z k
def cQ.keys(h:cQ z):(zK z).Pairwise (· < ·):=List.pairwise_map.mpr h
theorem K_{z:Zs}{k:Int}{p:Int×Int}(h:p∈nW z k):p∈z/\p.1<k:=by have:=Bm.mp h;exact⟨this.1,by simpa using this.2⟩
theorem Do{z:Zs}{k:Int}{p:Int×Int}(h:p∈nZ z k):p∈z/\k<p.1:=by have:=Bm.mp h;exact⟨this.1,by simpa using this.2⟩
theorem gm(h:cQ z)(k:Int)(i:cQ n)(f:∀p∈n,p.1=k):cQ (yR z k n):=by
 refine Bv.mpr ⟨Bv.mpr ⟨List.Pairwise.filter _ h,i,λa c b e=>?_⟩,List.Pairwise.filter _ h,λa c b e=>?_⟩
 ·have:=(K_ c).2;have:=f b e;lia
 ·have q:=(Do e).2;rcases Ai.mp c with w|w
  ·have:=(K_ w).2;lia
  ·have:=f a w;lia
theorem Uy(z:Zs)(k:Int):(z.filter λp=>decide (p.1≠k)).Perm (nW z k++nZ z k):=by
 have e:=List.filter_append_perm (λp:Int×Int=>decide (p.1<k)) (z.filter λp=>decide (p.1≠k));rw[List.filter_filter,List.filter_filter]at e;have a:(z.filter λp=>decide (p.1<k)&&decide (p.1≠k))=nW z k:=List.filter_congr λp _=>by rw[<- Bool.decide_and,decide_eq_decide];lia
 have b:(z.filter λp=>(!decide (p.1<k))&&decide (p.1≠k))=nZ z k:=List.filter_congr λp _=>by rw[<- decide_not,<- Bool.decide_and,decide_eq_decide];lia
 rw[a,b]at e;exact e.symm
theorem Mi(z:Zs)(k:Int)(n:Zs):(yR z k n).length<=z.length+n.length:=by have e:=(Uy z k).length_eq;have f:=Cb (λp:Int×Int=>decide (p.1≠k)) z;unfold yR;simp only[An]at e ⊢;lia
def Dz(kvs:List (Key×DV))(z:Zs):Prop:=kvs.Perm (zE z)
theorem Dz.len{kvs:List (Key×DV)}{z:Zs}(d:Dz kvs z):kvs.length=z.length:=by have:=d.length_eq;simpa [zE]using this
theorem Dz.nodup{kvs:List (Key×DV)}(d:Dz kvs z)(h:cQ z):(kvs.map (·.1)).Nodup:=by refine(d.map (·.1)).nodup_iff.mpr ?_;unfold zE;rw[List.map_map];refine List.pairwise_map.mpr (h.imp λq e=>?_);have:=Sum.inl.inj e;lia
theorem Dz.drop(d:Dz kvs z)(k:Int):Dz (J5 kvs (.inl k)) (yR z k []):=by
 have e:(zE z).filter (λa=>decide (a.1≠(Sum.inl k:Key)))=zE (z.filter λp=>decide (p.1≠k)):=by unfold zE;rw[List.filter_map];congr 1;apply List.filter_congr;intro p _;show decide ((Sum.inl p.1:Key)≠Sum.inl k)=decide (p.1≠k);rw[decide_eq_decide];exact⟨λh q=>h (by rw[q]),λh q=>h (Sum.inl.inj q)⟩
 have p:=(List.Perm.filter (λa:Key×DV=>decide (a.1≠(Sum.inl k:Key))) d);rw[e]at p;unfold Dz J5 yR;rw[Bt];exact p.trans ((Uy z k).map _)
theorem Qcw:∀{kvs:List (Key×DV)},(kvs.map (·.1)).Nodup->(Ya kvs k d).Perm ((k,d)::J5 kvs k):=by
  intro kvs h;unfold Ya;by_cases q:(kvs.any λc=>decide (c.1=k))=true
  . rw[Eb q]
    induction kvs with
    |nil=>simp at q
    |cons p r i =>
      obtain⟨h1,h2⟩:=Cw.mp h;by_cases e:p.1=k
      . have f:∀x∈r,x.1≠k:=λx hx y=>h1 (by show p.1∈_;rw[e,<- y];exact List.mem_map_of_mem hx)
        have a:r.map (λc=>if c.1=k then (c.1,d)else c)=r:=by
          conv=>rhs;rw[<- List.map_id r]
          exact List.map_congr_left λx hx=>by rw[Ea (f x hx)];rfl
        have b:J5 (p::r) k=r:=by unfold J5;rw[List.filter_cons_of_neg (by simp[e]),Cu];intro x hx;simpa using f x hx
        rw[Bb,Eb e,a,b,e]
      . have j:(r.any λc=>decide (c.1=k))=true:=by simpa [e]using q
        have b:J5 (p::r) k=p::J5 r k:=by unfold J5;rw[List.filter_cons_of_pos (by simpa using e)]
        rw[Bb,Ea e,b];exact((i h2 j).cons p).trans (List.Perm.swap _ _ _)
  . rw[Ea q]
    have b:J5 kvs k=kvs:=by unfold J5;rw[Cu];intro x hx;have:¬ x.1=k:=λe=>q (List.any_eq_true.mpr ⟨x,hx,by simpa using e⟩);simpa using this
    rw[b];exact List.perm_append_singleton _ _
theorem Dz.put(d:Dz kvs z)(h:cQ z)(k w:Int):Dz (Ya kvs (.inl k) (.int w)) (yR z k [(k,w)]):=by refine(Qcw (d.nodup h)).trans ?_;have e:=(d.drop k).cons ((Sum.inl k:Key),DV.int w);refine e.trans ?_;unfold yR zE;rw[Bt];rw[A8];exact(List.perm_middle (a:=(k,w)) (l₁:=nW z k) (l₂:=nZ z k)).symm.map (λp=>((Sum.inl p.1:Key),DV.int p.2))
theorem gW:∀{kvs:List (Key×DV)},(kvs.map (·.1)).Nodup->(k,d)∈kvs->Jx kvs k=some d
  | [],_,h=>by cases h
  |p::r,a,h=>by
    obtain⟨h1,h2⟩:=Cw.mp a;rw[Gy];rcases Bk.mp h with e|e
    . rw[<- e,Eb rfl]
    . rw[Ea,gW h2 e]
      intro q;exact h1 (by show p.1∈_;rw[q];exact List.mem_map_of_mem (f:=(·.1)) e)
theorem Dz.val(d:Dz kvs z)(h:cQ z){k w:Int}(a:(k,w)∈z):Jx kvs (.inl k)=some (.int w) :=
 gW (d.nodup h) (d.mem_iff.mpr (List.mem_map_of_mem (f:=λp:Int×Int=>((Sum.inl p.1:Key),DV.int p.2)) a))
def kI:Key->Int
 |.inl i=>i
 |.inr _=>0
theorem K8:∀{kvs:List (Key×DV)},(∀p∈kvs,∃i,p.1=.inl i)->xQ kvs=some (kvs.map λp=>kI p.1)
  | [],_=>rfl
  | (k,d)::r,h=>by obtain⟨i,e⟩:=h (k,d) (List.mem_cons_self ..);cases e;show(xQ r).map (i :: ·)=_;rw[K8 λp U=>h p (Ax _ U)];rfl
theorem Dz.keys(d:Dz kvs z)(h:cQ z):∃ns,xQ kvs=some ns/\dB ns=zK z:=by
 refine⟨_,K8 λp U=>?_,(U8 ?_ (h.keys.imp λq=>Ck q)).symm⟩
 ·obtain⟨q,_,rfl⟩:=C8.mp (d.mem_iff.mp U);exact⟨q.1,rfl⟩
 ·have e:=(d.map λp=>kI p.1).symm;have a:(zE z).map (λp=>kI p.1)=zK z:=by unfold zE zK;rw[List.map_map];rfl
  rwa [a]at e
theorem Ma(d:Dz kvs z)(h:cQ z){f:aF}{n:Nat}{U:Hs}(hf:f env U=some (.ref n,U))(i:U[n]?=some (.aB kvs)):ZO Vp (Qc f Ql) env U=some (.lst ((zK z).map .int),U):=by
 obtain⟨ns,c,e⟩:=d.keys h;have a:Qc f Ql env U=some ([.ref n],U):=vU hf rfl;unfold ZO;rw[Qg a];show(wQ (.ref n) >>= λns=>pure (DV.lst ((dB ns).map .int))) U=_;have b:wQ (.ref n) U=some (ns,U):=by show(ZF n >>= _) U=_;rw[Qg (Zg i)];show m8 (xQ kvs) U=_;rw[c];rfl
 rw[Qg b,e];rfl
theorem Li{n:Nat}{U:Hs}{k:Int}(h:U[n]?=some (.aB kvs))(hd:Jx kvs (.inl k)=some d):aA (.ref n) (.int k) U=some (d,U):=by show(ZF n >>= _) U=_;rw[Qg (Zg h)];show(JR (.int k) >>= λk=>Yz (Jx kvs k)) U=_;rw[show JR (.int k)=pure (.inl k)from rfl,Ei,hd];rfl
theorem Mm{n:Nat}{U:Hs}{k:Int}{f g:aF}(a:U[n]?=some (.aB kvs))(hf:f env U=some (.ref n,U))(b:g env U=some (.int k,U))(hd:Jx kvs (.inl k)=some d):JL "dict" Yd f (Qc g Ql) env U=some (d,U.set n (.aB (J5 kvs (.inl k)))):=by
 unfold JL;rw[Qg hf];have e:Xi "dict" (.ref n) U=some ((),U):=by show(ZF n >>= _) U=_;rw[Qg (Zg a)];rfl
 rw[Qg e,Qg (vU b rfl)];show(ZF n >>= _) U=_;rw[Qg (Zg a)];show(JR (.int k) >>= _) U=_;rw[show JR (.int k)=pure (.inl k)from rfl,Ei,hd];rfl
def R8(k w:Int):cQ [(k,w)]:=List.pairwise_singleton _ _
structure Tb(kvs:List (Key×DV))(z:Zs)(F:Ev):Prop where
 d:Dz kvs z
 rise:cQ z
 fn:∀k v,F k=some v↔(k,v)∈z
theorem Mh{k:Int}{p:Int×Int}:p∈yR z k n↔(p.1≠k/\p∈z)∨p∈n:=by
 unfold yR nW nZ;rw[Ai,Ai,Bm,Bm];simp only[decide_eq_true_eq];constructor
 ·rintro((⟨a,b⟩|a)|⟨a,b⟩)
  ·exact .inl ⟨⋯,a⟩
  ·exact .inr a
  ·exact .inl ⟨⋯,a⟩
 ·rintro(⟨a,b⟩|a)
  ·rcases(by lia:p.1<k∨k<p.1)with c|c
   ·exact .inl (.inl ⟨b,c⟩)
   ·exact .inr ⟨b,c⟩
  ·exact .inl (.inr a)
theorem Qc7{g g':DV->DV->M DV}{fa e c:aF}{b a:Bool}(f:fa env U=some (x,U))(h:e env U=some (y,U))(i:c env U=some (z,U))(h1:g x y=pure (.bl b))(h2:g' y z=pure (.bl a)):Xp g g' fa e c env U=some (.bl (b&&a),U):=by
  unfold Xp;rw[Qg f,Qg h,h1,Ei];show((if b=true then _ else _:M DV)) U=_;cases b with
  |false=>rfl
  |true=>show(c env >>= λw=>g' y w) U=_;rw[Qg i,h2];cases a<;>rfl
section
variable{kvs:List (Key×DV)}{z:Zs}{F:Ev}
theorem Tb.put(t:Tb kvs z F)(k x:Int):Tb (Ya kvs (.inl k) (.int x)) (yR z k [(k,x)]) (TR.yZ F k x):=by
 refine⟨t.d.put t.rise k x,gm t.rise k (R8 k x) (λp U=>by rw[Ar.mp U]),λj v=>?_⟩;rw[Mh];unfold TR.yZ;by_cases e:j=k
 ·rw[Eb e];subst e;simp only[Option.some.injEq,ne_eq,not_true_eq_false,false_and,false_or,Ar,Bp,true_and];exact eq_comm
 ·rw[Ea e,t.fn];simp[e]
theorem Tb.cut(t:Tb kvs z F)(k:Int):Tb (J5 kvs (.inl k)) (yR z k []) (TR.gR F k):=by
 refine⟨t.d.drop k,gm t.rise k List.Pairwise.nil (λp U=>by cases U),λj v=>?_⟩;rw[Mh];unfold TR.gR;by_cases e:j=k
 ·rw[Eb e];subst e;simp
 ·rw[Ea e,t.fn];simp[e]
theorem Tb.val(t:Tb kvs z F)(k:Int):Jx kvs (.inl k)=(F k).map .int:=by
  cases e:F k with
  |some v=>exact t.d.val t.rise ((t.fn k v).mp e)
  |none =>
    cases a:Jx kvs (.inl k)with
    |none=>rfl
    |some d =>
      exfalso;unfold Jx at a;obtain⟨b,h1,h2⟩:=Cg.mp a;have m:=List.mem_of_find?_eq_some h1;have q:b.1=(Sum.inl k:Key):=by have:=List.find?_some h1;exact Eg this
      have c:=(List.Perm.mem_iff t.d).mp m;obtain⟨p,U,rfl⟩:=C8.mp c;have q:(Sum.inl p.1:Key)=Sum.inl k:=q;injection q with q;subst q;have:=(t.fn p.1 p.2).mpr U;rw[e]at this;cases this
theorem BF{w:Hs}{k:Int}{b:Nat}(h:w[b]?=some (.aB kvs)):eU (.int k) (.ref b) w=some (.bl (Jx kvs (.inl k)).isSome,w):=by
 have e:wF (.int k) (.ref b) w=some ((Jx kvs (.inl k)).isSome,w):=by show(ZF b >>= _) w=_;rw[Qg (Zg h)];rfl
 unfold eU;rw[Qg e];rfl
end
theorem uj{t:DV->M Bool}{f:DV->M DV}(z:Zs)(p:Int×Int->Bool)(u:∀q∈z,t (.int q.1) U=some (p q,U))(hf:∀q∈z,f (.int q.1) U=some (.tup [.int q.1,.int q.2],U))(l:z.length<100000):Z6 (bW ((zK z).map .int)) t f 100000 0 U=some (aO (z.filter p),U):=by
  have zl:((zK z).map DV.int).length=z.length:=by simp[zK]
  have j:∀i,((zK z).map DV.int)[i]?=(z[i]?).map λq:Int×Int=>DV.int q.1:=λi=>by unfold zK;rw[List.map_map,Bu];rfl
  suffices h:∀(m i n:Nat),m+i=z.length->m<n->Z6 (bW ((zK z).map .int)) t f n i U=some (aO ((z.drop i).filter p),U)by simpa using h z.length 0 100000 rfl l
  intro m;induction m with
  |zero =>
    intro i n e c;obtain⟨n,rfl⟩:∃k,n=k+1:=⟨n-1,⋯⟩;have:i=z.length:=⋯
    subst this;have b:=zR ((zK z).map .int) z.length ⋯ U;rw[j,show z[z.length]?=none by simp]at b;rw[Z6,Qg b,C5];rfl
  |succ m v =>
    intro i n e c;obtain⟨n,rfl⟩:∃k,n=k+1:=⟨n-1,⋯⟩;have a:i<z.length:=⋯
    have b:=zR ((zK z).map .int) i ⋯ U;rw[j,Ab a]at b;have r:=v (i+1) n ⋯ ⋯;rw[Z6,Qg b];show(t (.int z[i].1) >>= _) U=_;rw[Qg (u _ (B9 a)),Bi a,As];cases o:p z[i]with
    |false=>rw[Ea (by simp)];exact r
    |true=>rw[Eb rfl,Eb rfl];show(f (.int z[i].1) >>= _) U=_;rw[Qg (hf _ (B9 a)),Qg r];rfl
theorem Yt{o:aF}{U:Hs}{b:Nat}{x:Str}(a:o env U=some (.ref b,U))(h:U[b]?=some (.aB kvs))(hd:Jx kvs (.inr x)=some d):Qi aA o (eC (.str x)) env U=some (d,U):=by refine Qh a (y:=.str x) rfl ?_;show(ZF b >>= _) U=_;rw[Qg (Zg h)];show(JR (.str x) >>= λk=>Yz (Jx kvs k)) U=_;rw[show JR (.str x)=pure (.inr x)from rfl,Ei,hd];rfl
theorem VN{e o:aF}{U:Hs}{b:Nat}{kvs:List (Key×DV)}{x:Str}(he:e env U=some (d,U))(c:o env U=some (.ref b,U))(h:U[b]?=some (.aB kvs))(a:kvs.length<100000):Jw e (bB o (eC (.str x))) env U=some ((.nx,env),U.set b (.aB (Ya kvs (.inr x) d))):=by refine jr he ?_;unfold bB;rw[Qg c,Qg (rfl:eC (.str x) env U=some (.str x,U)),Qg (xX (d:=d) h (show YV (.str x)=some (.inr x)from rfl) a)];rfl
theorem UD(a:Ep):∀d∈aO a,Pl 1 d:=λd hd=>by obtain⟨p,_,rfl⟩:=C8.mp hd;exact λx hx=>by simp only[Bk,Cf,or_false]at hx;rcases hx with rfl|rfl<;>exact wZ _ _
theorem BM{z:Zs}{F:Ev}(t:Tb kvs z F){a e:Int}{ps:Ep}(R:TR.nR F a e ps):z.filter (λq=>decide (a<=q.1)&&decide (q.1<e))=ps:=by refine TR.qR (List.Pairwise.filter _ t.rise) R.1 λx=>?_;rw[Bm];have:=R.2 x.1 x.2;rw[show(x.1,x.2)=x from rfl]at this;rw[this,t.fn];simp
theorem MJ{b:DV->aD}{d:DV}(h:b d env U=some ((.rt x,aR),hp1)):zk b (d::ds) env U=some ((.rt x,aR),hp1):=by show(b d env U).bind _=_;rw[h];rfl
theorem R7{a:Nat}{dv:DV}{k y:Int}{G:Ev}(D:dN 1 2 a (a+1) (a+2))(m:Nat):∀{S:TR.Sh}{bg:TR.Bg}{F:Ev}{v:TR.Wk}{w:Hs}{t:Nat->Nat}(i:Nat)(z:Sl),TR.Al S bg F v->TR.dJ S bg [v] t->t 0<=m->v.O0=.put k y->(v.O4=0->v.O7=false->G=TR.yZ F k y)->(v.O7=true∨0<v.O4->G=F)->S.O2<=50->At w 1 2 a (a+1) (a+2) S v->TR.Xk S 0+TR.zc [v]<=900->v.O3.length<=i->v.O5.length<=50 * i->i+m<1000 ->
    ∃w' z' S' Y I,zk (λd env=>do let env' <- gN 3 d env;xR env') ((Zt 0 1000).drop i) [.val (.ref 1),.val dv,.val (.ref a),z] w=some ((.rt (.ref a),[.val (.ref 1),.val dv,.val (.ref a),z']),w')/\At w' 1 2 a (a+1) (a+2) S' I/\Fr w w' 1 2 a (a+1) (a+2)/\TR.Al S' Y G I/\I.O7=true/\TR.aV S bg S' Y/\S'.O2=S.O2/\TR.Xk S' 0+TR.zc [I]<=TR.Xk S 0+TR.zc [v]:=by
  induction m using Nat.strongRecOn with
  |ind m ih =>
    intro S bg F v w t i z A L hm hd g0 g1 hr n h1 h2 h3 h4;have il:i<(Zt 0 1000).length:=by rw[Jl];lia
    have ei:(Zt 0 1000)[i]=.int (i:Int):=(jq (Ab il)).2;rw[Bi il,ei];refine Classical.byContradiction λnn=>?_;have C:=jo n.h3;cases he:v.O7 with
    |true=>rw[he]at C;exact nn ⟨w,.val (.int (i:Int)),S,bg,v,MJ (Q2 (ZP (QR (QZ (Qe rfl) n.h3 (qX ..) JQ rfl C)) (QL (Qe rfl)))),n,Fr.refl,by rw[g1 (.inl he)];exact A,he,TR.aV.refl,rfl,Ae _⟩
    |false =>
      rw[he]at C;have W:=A.iR he;have ps:=L.pos (i:=0) A.tree A.fk W rfl he;have pl:=TR.xU A.tree A.fk;obtain⟨r,S2,f,dF,l,es,A2,gr,b,de,rm⟩:=A.step he;obtain⟨w2,o,J,P⟩:=L_ A.tree W hr n D ⋯ ⋯ ⋯ es;have sz:=TR.xr (m:=50) (λm p hm=>by have:=(A.tree.page m p hm).few;lia) es;have zs:=TR.Dv (ws:=[v]) (i:=0) A.tree W rfl he (TR.yX A.tree W he es) gr;have zs:TR.Xk S2 0+TR.zc [f]<=TR.Xk S 0+TR.zc [v]:=zs;have no:∀{i:Nat}{u:TR.Wk},[v][i]?=some u->i=0/\u=v:=λ{i u} h=>by
        cases i with
        |zero=>cases h;exact⟨rfl,rfl⟩
        |succ i=>cases h
      have al:TR.All S bg [v]:=⟨λi u h=>by rw[(no h).2];exact A.iR,λi u c h=>by rw[(no h).2];exact λq1 X=>A.fQ q1 X c,λi j u x c U h hx=>absurd ((no h).1.trans (no hx).1.symm) U⟩;have L2:=L.step (i:=0) al A.tree rfl he es gr;have tl:=(TR.U9 he es).1;have key:(f.O4=0->f.O7=false->G=TR.yZ l k y)/\(f.O7=true∨0<f.O4->G=l):=by
        have on:l=F->f.O7=false->f.O4=v.O4->(f.O4=0->f.O7=false->G=TR.yZ l k y)/\(f.O7=true∨0<f.O4->G=l):=λR o e3=>by
          subst R;refine⟨λg _=>g0 ⋯ he,λh=>?_⟩;rcases h with h|h
          . rw[o]at h;cases h
          . exact g1 (.inr ⋯)
        have up:G=l->(f.O7=false->0<f.O4)->(f.O4=0->f.O7=false->G=TR.yZ l k y)/\(f.O7=true∨0<f.O4->G=l):=λR o=>⟨λg e=>by have:=o e;lia,λ_=>R⟩;cases r with
        |non=>exact b.elim
        |side _ _=>exact on b.1 b.2.2.2.1 b.2.2.2.2.1
        |down _ _=>exact on b.1 b.2.2.2.1 b.2.2.2.2.1
        |found _ _=>obtain⟨_,q,_⟩:=b;rw[hd]at q;cases q
        |cut _ _=>obtain⟨_,q,_⟩:=b;rw[hd]at q;cases q
        |read _ _ _=>obtain⟨_,_,q,_⟩:=b;rw[hd]at q;cases q
        |put _ _ _=>obtain⟨_,_,q,_,X,_,_,_,q3⟩:=b;rw[hd]at q;cases q;exact up ((g0 tl.1 he).trans X.symm) q3
        |told _ _=>exact up ((g1 (.inr b.1)).trans b.2.1.symm) b.2.2.2.2.2
        |raised _ _=>exact up ((g1 (.inr b.1)).trans b.2.1.symm) λe=>by rw[b.2.2.2.2]at e;cases e
      obtain⟨w3,z3,S3,RL,v3,e3,O,Q,A3,Rh,Rn,Pk,ab⟩:=ih (m-1) ⋯ (i+1) (.val (.int (i:Int))) A2 L2 (by show(if 0=0 then t 0-1 else t 0)<=m-1;rw[Eb rfl];lia) (de.trans hd) key.1 key.2 ⋯ J ⋯ ⋯ ⋯ ⋯;refine nn ⟨w3,z3,S3,RL,v3,(MK ?_).trans e3,O,P.trans Q,A3,Rh,gr.trans Rn,Pk.trans rm,⋯⟩;exact Qr (Za (QR (QZ (Qe rfl) n.h3 (qX ..) JQ rfl C))) (XA (QZ (Qe rfl) n.h3 (vN ..) JQ rfl o))
def stK(d:TR.bH)(fr b:Int)(a:DV):List (Key×DV):=[(.inr "deed", Q9 d),(.inr "from", .int fr),(.inr "moments", .int b),(.inr "answer", a)]
abbrev bV(d:TR.bH)(fr b:Int)(a:DV):OV:=.aB (stK d fr b a)
abbrev lC:OV:=.aB [(.inr "found", .str "find"),(.inr "put", .str "put"),(.inr "cut", .str "cut")]
section
variable{w:Hs}{kvs:List (Key×DV)}{z:Zs}{F:Ev}{d:TR.bH}{fr mo:Int}{an:DV}{c:Nat}
theorem SX{e g:aF}{env:En}{d:DV}{a v:Nat}{k:Int}{kvs:List (Key×DV)}(he:e env w=some (d,w))(i:env[v]?=some (.val (.ref a)))(f:g env w=some (.int k,w))(b:w[a]?=some (.aB kvs))(h:kvs.length<100000):Jw e (bB (Qb v) g) env w=some ((.nx,env),w.set a (.aB (Ya kvs (.inl k) d))):=by refine jr he ?_;unfold bB;rw[Qg (Qe i),Qg f,Qg (xX (d:=d) b (show YV (.int k)=some (.inl k)from rfl) h)];rfl
theorem Qde{o g:aF}{U:Hs}{a:Nat}{j:Int}(f:o env U=some (.ref a,U))(h:U[a]?=some (.aB kvs))(e:g env U=some (.int j,U)):JL "dict" Xs o (Qc g Ql) env U=some ((Jx kvs (.inl j)).getD .non,U):=by
 unfold JL;rw[Qg f];have b:Xi "dict" (.ref a) U=some ((),U):=by show(ZF a >>= _) U=_;rw[Qg (Zg h)];rfl
 rw[Qg b,Qg (Jd e)];show(ZF a >>= _) U=_;rw[Qg (Zg h)];rfl
theorem DK:Jx (stK d fr mo an) (.inr "deed")=some (Q9 d):=by rfl
theorem Sv:Jx (stK d fr mo an) (.inr "from")=some (.int fr):=by rfl
theorem DG:Jx (stK d fr mo an) (.inr "moments")=some (.int mo):=by rfl
theorem n6:Jx (stK d fr mo an) (.inr "answer")=some an:=by rfl
theorem R3(x:Int):Ya (stK d fr mo an) (.inr "moments") (.int x)=stK d fr x an:=by rfl
theorem Fw(x:DV):Ya (stK d fr mo an) (.inr "answer") x=stK d fr mo x:=by rfl
theorem R4(x:Int):Ya (stK d fr mo an) (.inr "from") (.int x)=stK d x mo an:=by rfl
theorem zt:∀x∈(["find", "found", "put", "cut", "read", "stretch"]:List Str),PyData.strOk x=true:=by decide +kernel
theorem QeX(o:Option Int)(U:Hs):JM [opt o,opt o] U=some (.bl true,U):=by
  cases o with
  |none=>exact QI (env:=[.val .non,.val .non]) (Q2 (ZP (QR rfl) (QL rfl)))
  |some i=>refine QI (env:=[.val (.int i),.val (.int i)]) (Qr (Za (QR rfl)) (QL ?_));exact(qe (b:=true) rfl).trans ((Eb rfl).trans ((qe (b:=true) rfl).trans ((Eb rfl).trans (Qh rfl rfl ((wg i i U).trans (by simp))))))
abbrev RD:aD:=aL (eB (Qi aX (Qi aA (Qb 0) (eC (.int 0))) (eC (.str "read")))) (Qq (QD 4 (Qi aA (Qb 3) (eC (.int 2)))) (Qq (aL (eB (Qi qK (Qi aA (Qb 0) (eC (.int 4))) (eC .non))) (QD 4 (Qi aA (Qb 0) (eC (.int 4)))) (Q6)) (Qq (QD 5 (Xl)) (Qq (Jw (Qi ZE (Qi aA (Qb 1) (eC (.str "answer"))) (Qb 5)) (bB (Qb 1) (eC (.str "answer")))) (Qq (Jw (Qb 4) (bB (Qb 1) (eC (.str "from")))) (QF (Jm (Qi aX (Qi aA (Qb 3) (eC (.int 0))) (eC (.str "stretch"))) (Jm (Qi aX (ZO pB (Qc (Qi aA (Qb 0) (eC (.int 2))) (Ql))) (Qb 5)) (Qi iy (Qb 4) (Qi aA (Qb 3) (eC (.int 2)))))))))))) (Q6)
abbrev PT:aD:=aL (eB (Qi aX (Qi aA (Qb 3) (eC (.int 0))) (eC (.str "put")))) (Jw (Qi aA (Qb 3) (eC (.int 2))) (bB (Qb 2) (Qi aA (Qb 3) (eC (.int 1))))) (Q6)
abbrev CT:aD:=aL (J1 (eB (Qi aX (Qi aA (Qb 3) (eC (.int 0))) (eC (.str "cut")))) (eB (Qi eU (Qi aA (Qb 3) (eC (.int 1))) (Qb 2)))) (ZY (JL "dict" Yd (Qb 2) (Qc (Qi aA (Qb 3) (eC (.int 1))) (Ql)))) (Q6)
def eM(R:DV)(c:Nat)(z3 z4 z5:Sl):En:=[.val R,.val (.ref c),.val (.ref 0),z3,z4,z5]
theorem Gb(rest:aD)(a:w[c]?=some (bV d fr mo an)):Qq (QD 3 (Qi aA (Qb 1) (eC (.str "deed")))) (Qq (Jw (Qi ZE (Qi aA (Qb 1) (eC (.str "moments"))) (eC (.int 1))) (bB (Qb 1) (eC (.str "moments")))) rest) (eM R c .un .un .un) w=rest (eM R c (.val (Q9 d)) .un .un) (w.set c (bV d fr (mo+1) an)):=by have b:QD 3 (Qi aA (Qb 1) (eC (.str "deed"))) (eM R c .un .un .un) w=some ((.nx,eM R c (.val (Q9 d)) .un .un),w):=QS (Yt (Qe rfl) a DK);have e:Jw (Qi ZE (Qi aA (Qb 1) (eC (.str "moments"))) (eC (.int 1))) (bB (Qb 1) (eC (.str "moments"))) (eM R c (.val (Q9 d)) .un .un) w=some ((.nx,eM R c (.val (Q9 d)) .un .un),w.set c (bV d fr (mo+1) an)):=(VN (d:=.int (mo+1)) (Qh (Yt (Qe rfl) a DG) rfl rfl) (Qe rfl) a (by show(4:Nat)<100000;decide)).trans (by rw[R3]);exact Qr b (qQ e)
theorem De{x y:Str}{k:Int}{xs:List DV}{e:List (Key×DV)}(f:c≠0)(l:w[c]?=some (bV d fr mo an))(h0:w[0]?=some (.aB kvs))(t:Tb kvs z F)(hx:PyData.strOk x=true)(L:(x==("read" : Str))=false)(h2:xs[1]?=some (opt (F k)))(J:∀w,aA (Q9 d) (.int 1) w=some (.int k,w))(O:Jx [(.inr "found", .str "find"),(.inr "put", .str "put"),(.inr "cut", .str "cut")] (.inr x)=some (.str y))(q:JR (.str x)=pure (.inr x))(m:jF d=y)(ok:PyData.strOk y=true)
  (ht:∀(u:Hs)(E:En),u[0]?=some (.aB kvs)->(∃z4 z5,E=eM (.tup (.str x::xs)) c (.val (Q9 d)) z4 z5)->(∀rest:aD,Qq PT (Qq CT rest) E u=rest E (u.set 0 (.aB e)))) :
  JD [.tup (.str x::xs),.ref c,.ref 0] w=some (.bl true,((w.set c (bV d fr (mo+1) (opt (F k)))).set 0 (.aB e))++[lC]):=by
 let R:DV:=.tup (.str x::xs)
 let E:En:=eM R c (.val (Q9 d)) .un .un
 let h:Hs:=w.set c (bV d fr (mo+1) an)
 have g1:h[c]?=some (bV d fr (mo+1) an):=eV l;have g0:h[0]?=some (.aB kvs):=gs f h0;have r:∀u,Qi aA (Qb 0) (eC (.int 0)) E u=some (.str x,u):=λu=>Qh (x:=R) (Qe rfl) rfl (Zm (i:=0) rfl u);have Q:RD E h=some ((.nx,E),h):=(Za (QR (Qh (r _) rfl (fX h hx (zt _ (by simp)) L))));have C:∀u,Qi aA (Qb 3) (eC (.int 1)) E u=some (.int k,u):=λu=>Qh (x:=Q9 d) (Qe rfl) rfl (J u);have g:=Qde (o:=Qb 2) (env:=E) (a:=0) (Qe rfl) g0 (C _);have I:(Jx kvs (.inl k)).getD .non=opt (F k):=by rw[t.val];cases F k<;>rfl
 rw[I]at g
 let j:Hs:=w.set c (bV d fr (mo+1) (opt (F k)))
 have U:Jw (JL "dict" Xs (Qb 2) (Qc (Qi aA (Qb 3) (eC (.int 1))) (Ql))) (bB (Qb 1) (eC (.str "answer"))) E h=some ((.nx,E),j):=(VN g (Qe rfl) g1 (by show(4:Nat)<100000;decide)).trans (by rw[Fw];show some ((Fl.nx,E),(w.set c _).set c _)=_;rw[List.set_set]);have v:j[0]?=some (.aB kvs):=gs f h0
 let b:Hs:=j.set 0 (.aB e)
 have g3:b[c]?=some (bV d fr (mo+1) (opt (F k))):=gs (Ne.symm f) (eV l);have nd:Xq [(eC (.str "found"),eC (.str "find")),(eC (.str "put"),eC (.str "put")),(eC (.str "cut"),eC (.str "cut"))] E b=some (.ref b.length,b++[lC]):=rfl;have X:aL (eB (Qi dI (Qi aA (Xq [(eC (.str "found"),eC (.str "find")),(eC (.str "put"),eC (.str "put")),(eC (.str "cut"),eC (.str "cut"))]) (Qi aA (Qb 0) (eC (.int 0)))) (Qi aA (Qb 3) (eC (.int 0))))) (QF (eC (.bl false))) (Q6) E b=some ((.nx,E),b++[lC]):=by
  have P:aA (.ref b.length) (.str x) (b++[lC])=some (.str y,b++[lC]):=by show(ZF b.length >>= _) (b++[lC])=_;rw[Qg (Zg (List.getElem?_concat_length ..))];show(JR (.str x) >>= λk=>Yz (Jx _ k)) _=_;rw[q,Ei,O];rfl
  exact(Za (QR (Qh (Qh nd (r _) P) (Qh (x:=Q9 d) (Qe rfl) rfl (jc d _)) (by rw[m];exact ga (n:=0) (Mo ok) (by decide) _))))
 have g4:(b++[lC])[c]?=some (bV d fr (mo+1) (opt (F k))):=zG g3;have Y:QF (Qs 2 JM (Qc (Qi aA (Qb 0) (eC (.int 2))) (Qc (Qi aA (Qb 1) (eC (.str "answer"))) (Ql)))) E (b++[lC])=some ((.rt (.bl true),E),b++[lC]):=QL (QY (ZM (Qh (x:=R) (Qe rfl) rfl (Zm (i:=2) h2 _)) (Yt (Qe rfl) g4 n6)) rfl (QeX (F k) _));exact QI (env:=E) ((Gb _ l).trans (Qr Q (Qr U ((ht j E v ⟨_,_,rfl⟩ _).trans (Qr X Y)))))
end
section
variable{w:Hs}{kvs:List (Key×DV)}{z:Zs}{F F':Ev}{d:TR.bH}{fr mo:Int}{an:DV}{c:Nat}
theorem QcM{k:Int}{u:Hs}(h0:u[0]?=some (.aB kvs))(rest:aD):Qq PT (Qq CT rest) (eM R c (.val (Q9 (.find k))) z4 z5) u=rest (eM R c (.val (Q9 (.find k))) z4 z5) (u.set 0 (.aB kvs)):=by
 let E:En:=eM R c (.val (Q9 (.find k))) z4 z5
 have a:∀u,Qi aA (Qb 3) (eC (.int 0)) E u=some (.str "find", u):=λu=>Qh (x:=Q9 (.find k)) (Qe rfl) rfl (Zm (i:=0) rfl u);have p:PT E u=some ((.nx,E),u):=(Za (QR (Qh (a _) rfl (fX _ (zt "find" (by simp)) (zt _ (by simp)) rfl))));have q:CT E u=some ((.nx,E),u):=(Za (j6 (QR (Qh (a _) rfl (fX _ (zt "find" (by simp)) (zt _ (by simp)) rfl)))));rw[vD h0];exact Qr p (qQ q)
theorem dU{k y:Int}{u:Hs}(h0:u[0]?=some (.aB kvs))(b:kvs.length<10000)(rest:aD):Qq PT (Qq CT rest) (eM R c (.val (Q9 (.put k y))) z4 z5) u=rest (eM R c (.val (Q9 (.put k y))) z4 z5) (u.set 0 (.aB (Ya kvs (.inl k) (.int y)))):=by
 let E:En:=eM R c (.val (Q9 (.put k y))) z4 z5
 have a:∀u,Qi aA (Qb 3) (eC (.int 0)) E u=some (.str "put", u):=λu=>Qh (x:=Q9 (.put k y)) (Qe rfl) rfl (Zm (i:=0) rfl u);have p:PT E u=some ((.nx,E),u.set 0 (.aB (Ya kvs (.inl k) (.int y)))):=ZP (QR (Qh (a _) rfl (fX _ (zt "put" (by simp)) (zt _ (by simp)) rfl))) (SX (Qh (x:=Q9 (.put k y)) (Qe rfl) rfl (Zm (i:=2) rfl _)) rfl (Qh (x:=Q9 (.put k y)) (Qe rfl) rfl (Zm (i:=1) rfl _)) h0 ⋯);have q:CT E (u.set 0 (.aB (Ya kvs (.inl k) (.int y))))=some ((.nx,E),u.set 0 (.aB (Ya kvs (.inl k) (.int y)))):=(Za (j6 (QR (Qh (a _) rfl (fX _ (zt "put" (by simp)) (zt _ (by simp)) rfl)))));exact Qr p (qQ q)
theorem dW{k:Int}{u:Hs}(h0:u[0]?=some (.aB kvs))(rest:aD):Qq PT (Qq CT rest) (eM R c (.val (Q9 (.cut k))) z4 z5) u=rest (eM R c (.val (Q9 (.cut k))) z4 z5) (u.set 0 (.aB (J5 kvs (.inl k)))):=by
  let E:En:=eM R c (.val (Q9 (.cut k))) z4 z5
  have h:∀u,Qi aA (Qb 3) (eC (.int 0)) E u=some (.str "cut", u):=λu=>Qh (x:=Q9 (.cut k)) (Qe rfl) rfl (Zm (i:=0) rfl u);have f:Qi aA (Qb 3) (eC (.int 1)) E u=some (.int k,u):=Qh (x:=Q9 (.cut k)) (Qe rfl) rfl (Zm (i:=1) rfl u);have p:PT E u=some ((.nx,E),u):=(Za (QR (Qh (h _) rfl (fX _ (zt "cut" (by simp)) (zt _ (by simp)) rfl))));have b:J1 (eB (Qi aX (Qi aA (Qb 3) (eC (.int 0))) (eC (.str "cut")))) (eB (Qi eU (Qi aA (Qb 3) (eC (.int 1))) (Qb 2))) E u=some ((Jx kvs (.inl k)).isSome,u):=(yB (QR (Qh (h _) rfl (fX _ (zt "cut" (by simp)) (zt "cut" (by simp)) rfl)))).trans (QR (Qh f (Qe rfl) (BF h0)));have q:CT E u=some ((.nx,E),u.set 0 (.aB (J5 kvs (.inl k)))):=by
    cases a:Jx kvs (.inl k)with
    |some j=>rw[a]at b;exact ZP b (XA (Mm h0 (Qe rfl) f a))
    |none =>
      rw[a]at b;have e:J5 kvs (.inl k)=kvs:=by unfold J5;rw[Cu];intro p U;refine Ef λe=>?_;unfold Jx at a;have:=Option.map_eq_none_iff.mp a;rw[List.find?_eq_none]at this;exact this p U (Ef e)
      rw[e,vD h0];exact(Za b)
  exact Qr p (qQ q)
theorem QdR{n:Nat}{l h e:Int}{ps j:Ep}{x:Option (Nat×Int)}(I:c≠0)(C:w[c]?=some (bV (.stretch l h) fr mo (.lst (aO j))))(h0:w[0]?=some (.aB kvs))(t:Tb kvs z F)(hz:z.length<90000)(hx:(x=none/\e=h)∨∃s,x=some (s,e)/\e<h)(R:TR.nR F fr e ps)(J:j.length+ps.length<=90000):
  JD [UJ (.read n ps x),.ref c,.ref 0] w=some (.bl true,w.set c (bV (.stretch l h) e (mo+1) (.lst (aO (j++ps))))):=by
 let P:DV:=match x with|none=>.non|some (s,_)=>.int s
 let u:DV:=match x with|none=>.non|some (_,y)=>.int y
 have Pj:UJ (.read n ps x)=.tup [.str "read", .int n,.tup (aO ps),P,u]:=by
  cases x with
  |none=>rfl
  |some p=>rfl
 rw[Pj]
 let r:DV:=.tup [.str "read", .int n,.tup (aO ps),P,u]
 let D:DV:=Q9 (.stretch l h)
 let a:Hs:=w.set c (bV (.stretch l h) fr (mo+1) (.lst (aO j)))
 have g1:a[c]?=some (bV (.stretch l h) fr (mo+1) (.lst (aO j))):=eV C;have g0:a[0]?=some (.aB kvs):=gs I h0
 let E:Sl->Sl->En:=λz4 z5=>eM r c (.val D) z4 z5
 have X:∀(z4 z5:Sl)(v:Hs),Qi aA (Qb 3) (eC (.int 2)) (E z4 z5) v=some (.int h,v):=λ_ _ v=>Qh (x:=D) (Qe rfl) rfl (Zm (i:=2) rfl v);have L:∀(z4 z5:Sl)(v:Hs),Qi aA (Qb 0) (eC (.int 4)) (E z4 z5) v=some (u,v):=λ_ _ v=>Qh (x:=r) (Qe rfl) rfl (Zm (i:=4) rfl v);have tr:eB (Qi aX (Qi aA (Qb 0) (eC (.int 0))) (eC (.str "read"))) (E .un .un) a=some (true,a):=QR (Qh (Qh (x:=r) (Qe rfl) rfl (Zm (i:=0) rfl a)) rfl (fX _ (zt "read" (by simp)) (zt "read" (by simp)) rfl));have s4:QD 4 (Qi aA (Qb 3) (eC (.int 2))) (E .un .un) a=some ((.nx,E (.val (.int h)) .un),a):=QS (X _ _ _);have s5:aL (eB (Qi qK (Qi aA (Qb 0) (eC (.int 4))) (eC .non))) (QD 4 (Qi aA (Qb 0) (eC (.int 4)))) (Q6) (E (.val (.int h)) .un) a=some ((.nx,E (.val (.int e)) .un),a):=by
  rcases hx with ⟨rfl,rfl⟩|⟨s,rfl,_⟩
  ·exact(Za (QR (Qh (L _ _ _) rfl rfl)))
  ·exact ZP (QR (Qh (L _ _ _) rfl rfl)) (QS (L _ _ _))
 have eh:e<=h:=by
  rcases hx with ⟨_,rfl⟩|⟨s,_,q⟩
  ·exact Bo _
  ·lia
 have s6:QD 5 (Xl) (E (.val (.int e)) .un) a=some ((.nx,E (.val (.int e)) (.val (.lst (aO ps)))),a):=by
  refine QS ?_;have so:=Ma t.d t.rise (f:=Qb 2) (env:=E (.val (.int e)) .un) (n:=0) (U:=a) (Qe rfl) g0;have O:fO (ZO Vp (Qc (Qb 2) (Ql))) (E (.val (.int e)) .un) a=some (bW ((zK z).map .int),a):=by unfold fO;rw[Qg so];rfl
  have Q:=uj (U:=a) (t:=λd=>eB (Xp iy eO (Qi aA (Qb 3) (eC (.str "from"))) (Qb 0) (Qb 1)) (cE [4,2,1] (E (.val (.int e)) .un) d)) (f:=λd=>Zk (Qc (Qb 0) (Qc (Qi aA (Qb 2) (Qb 0)) (Ql))) (cE [4,2,1] (E (.val (.int e)) .un) d)) z (λq=>decide (fr<=q.1)&&decide (q.1<e)) (λq J=>by have ch:Xp iy eO (Qi aA (Qb 3) (eC (.str "from"))) (Qb 0) (Qb 1) (cE [4,2,1] (E (.val (.int e)) .un) (.int q.1)) a=some (.bl (decide (fr<=q.1)&&decide (q.1<e)),a):=Qc7 (x:=.int fr) (y:=.int q.1) (z:=.int e) (Yt (Qe rfl) g1 Sv) (Qe rfl) (Qe rfl) rfl rfl;exact QR ch) (λq J=>JG (ZM (Qe rfl) (Qh (x:=.ref 0) (y:=.int q.1) (Qe rfl) (Qe rfl) (Li g0 (t.d.val t.rise J)))) (by simp)) ⋯
  rw[BM t R]at Q;unfold Xl ZR;rw[Qg O,Qg (show Z6 _ _ _ lim 0 a=_ from Q)];rfl
 let m:En:=E (.val (.int e)) (.val (.lst (aO ps)))
 let Y:Hs:=w.set c (bV (.stretch l h) fr (mo+1) (.lst (aO (j++ps))))
 have s7:Jw (Qi ZE (Qi aA (Qb 1) (eC (.str "answer"))) (Qb 5)) (bB (Qb 1) (eC (.str "answer"))) m a=some ((.nx,m),Y):=by
  have ad:Qi ZE (Qi aA (Qb 1) (eC (.str "answer"))) (Qb 5) m a=some (.lst (aO (j++ps)),a):=by refine Qh (Yt (Qe rfl) g1 n6) (Qe rfl) ?_;show(QB (YN (aO j++aO ps)) >>= λ_=>pure (DV.lst (aO j++aO ps))) a=_;rw[qv (by rw[An,qO,qO];lia)];show some (DV.lst (aO j++aO ps),_)=_;unfold aO;rw[List.map_append]
  exact(VN ad (Qe rfl) g1 (by show(4:Nat)<100000;decide)).trans (by rw[Fw];show some ((Fl.nx,m),(w.set c _).set c _)=_;rw[List.set_set])
 let o:Hs:=w.set c (bV (.stretch l h) e (mo+1) (.lst (aO (j++ps))))
 have s8:Jw (Qb 4) (bB (Qb 1) (eC (.str "from"))) m Y=some ((.nx,m),o):=(VN (d:=.int e) (Qe rfl) (Qe rfl) (eV C) (by show(4:Nat)<100000;decide)).trans (by rw[R4];show some ((Fl.nx,m),(w.set c _).set c _)=_;rw[List.set_set]);have s9:Jm (Qi aX (Qi aA (Qb 3) (eC (.int 0))) (eC (.str "stretch"))) (Jm (Qi aX (ZO pB (Qc (Qi aA (Qb 0) (eC (.int 2))) (Ql))) (Qb 5)) (Qi iy (Qb 4) (Qi aA (Qb 3) (eC (.int 2))))) m o=some (.bl true,o):=by refine(qe (b:=true) (Qh (Qh (x:=D) (Qe rfl) rfl (Zm (i:=0) rfl o)) rfl (fX o (zt "stretch" (by simp)) (zt "stretch" (by simp)) rfl))).trans ((Eb rfl).trans ?_);refine(qe (b:=true) (Qh (x:=.lst (aO ps)) (jX (Jd (Qh (x:=r) (Qe rfl) rfl (Zm (i:=2) rfl o))) (QdL _ o)) (Qe rfl) (zF (n:=2) (x:=.lst (aO ps)) (UD ps) (by decide) o))).trans ((Eb rfl).trans ?_);refine Qh (x:=.int e) (y:=.int h) (Qe rfl) (X _ _ _) ?_;show some (DV.bl (decide (e<=h)),o)=_;rw[Ef eh]
 exact QI (env:=m) ((Gb _ C).trans (Q2 (ZP tr (Qr s4 (Qr s5 (Qr s6 (Qr s7 (Qr s8 (QL s9)))))))))
end
theorem kN{o:aF}{fa:cu}{U hp1:Hs}{a b:Nat}{ds es:List DV}(j:o env U=some (.ref a,U))(h:U[a]?=some (.lst ds))(e:fa env U=some ([.ref b],hp1))(h1:hp1[a]?=some (.lst ds))(f:hp1[b]?=some (.lst es))(i:ds.length+es.length<=100000):JL "list" YF o fa env U=some (.non,hp1.set a (.lst (ds++es))):=by
 unfold JL;rw[Qg j];have c:Xi "list" (.ref a) U=some ((),U):=by show(ZF a >>= _) U=_;rw[Qg (Zg h)];rfl
 rw[Qg c,Qg e];show(ZF a >>= _) hp1=_;rw[Qg (Zg h1)];show(ZF b >>= _) hp1=_;rw[Qg (Zg f)];show(QB (decide (ds.length+es.length<=lim)) >>= λ_=>xq a (.lst (ds++es)) >>= λ_=>pure DV.non) hp1=_;rw[show decide (ds.length+es.length<=lim)=true from Ef i];rfl
structure Lx(S:TR.Sh)(w v:Hs):Prop where
 h1:∃x,v[1]?=some (.ins "Shelf" (aN S.O2 2 S.top x S.wr))
 h2:v[2]?=some (.lst (S.pg.map aJ))
 ln:w.length<=v.length
 ok:∀j,j<w.length->j≠1->v[j]?=w[j]?
section
variable{w:Hs}{S:TR.Sh}{bg:TR.Bg}{L n:Nat}
theorem uS(T:TR.Tree S bg)(hL:w.length<=L)(h2:2<w.length){r:List Nat}(c:TR.Chain S n r):∀(ds:List DV)(v:Hs)(acc:Ep)(z3 z4:Sl),r.length<=ds.length->(∀m∈r,∃q,S.pg[m]?=some q/\q.lv=0)->Lx S w v->v[L]?=some (.lst (aO acc))->acc.length+(TR.ze S r).length<90000 ->
    ∃l env,zk (λd env=>do let env' <- gN 3 d env;Xr env') ds [.val (.ref 1),.val (.ref L),.val (.int n),z3,z4] v=some ((.rt (.ref L),env),l)/\Lx S w l/\l[L]?=some (.lst (aO (acc++TR.ze S r))):=by
  have o:∀(n:Nat)(p:TR.Pg)(d:DV)(v:Hs)(acc:Ep)(z4:Sl),S.pg[n]?=some p->p.lv=0->Lx S w v->v[L]?=some (.lst (aO acc))->acc.length+(TR.prs p).length<90000->∃l,Lx S w l/\l[L]?=some (.lst (aO (acc++TR.prs p)))/\(p.sd=none->Xr [.val (.ref 1),.val (.ref L),.val (.int n),.val d,z4] v=some ((.rt (.ref L),[.val (.ref 1),.val (.ref L),.val (.int n),.val d,.val (aJ p)]),l))/\(∀s,p.sd=some s->Xr [.val (.ref 1),.val (.ref L),.val (.int n),.val d,z4] v=some ((.nx,[.val (.ref 1),.val (.ref L),.val (.int s),.val d,.val (aJ p)]),l)):=by
    intro n p d v acc z4 h hl X F u;obtain⟨x,h1⟩:=X.h1;have he:=T.len0 h hl;have pl:(TR.prs p).length=p.ks.length:=by unfold TR.prs;rw[List.length_zip,he,Nat.min_self]
    let E:Sl->Sl->En:=λz2 z4=>[.val (.ref 1),.val (.ref L),z2,.val d,z4]
    let f:Hs:=v.set 1 (.ins "Shelf" (aN S.O2 2 S.top (x+1) S.wr))
    have rd:=Iu (i:=n) (d:=aJ p) h1 X.h2 (by decide) (by rw[Bu,h];rfl);have s1:QD 4 (Qz "Shelf" "read" 2 Jc (Qb 0) (Qc (Qb 2) (Ql))) (E (.val (.int n)) z4) v=some ((.nx,E (.val (.int n)) (.val (aJ p))),f):=QS (QZ (Qe rfl) h1 (U2 ..) (Jd (Qe rfl)) rfl rd);have J:f[L]?=some (.lst (aO acc)):=gs ⋯ F
    let I:Hs:=f++[OV.lst (aO (TR.prs p))]
    have zz:uB (Qi aA (Qb 4) (eC (.int 1))) (Qi aA (Qb 4) (eC (.int 2))) (E (.val (.int n)) (.val (aJ p))) f=some (.ref f.length,I):=by
      unfold uB;have iz:uP (Qi aA (Qb 4) (eC (.int 1))) (Qi aA (Qb 4) (eC (.int 2))) (E (.val (.int n)) (.val (aJ p))) f=some (qY (p.ks.map .int) (p.ps.map .int),f):=by unfold uP;rw[Qg (show Qi aA (Qb 4) (eC (.int 1)) (E (.val (.int n)) (.val (aJ p))) f=some (.tup (p.ks.map .int),f)from Qh (Qe rfl) rfl (Ih p f)),Qg (show KM (.tup (p.ks.map .int)) f=some (p.ks.map .int,f)from rfl),Qg (show Qi aA (Qb 4) (eC (.int 2)) (E (.val (.int n)) (.val (aJ p))) f=some (.tup (p.ps.map .int),f)from Qh (Qe rfl) rfl (Ho p f)),Qg (show KM (.tup (p.ps.map .int)) f=some (p.ps.map .int,f)from rfl)];rfl
      rw[Qg iz];have zp:∀a b:List Int,qY (a.map .int) (b.map .int)=aO (a.zip b):=by
        intro a;induction a with
        |nil=>intro b;cases b<;>rfl
        |cons x xs Q=>intro b;cases b with
          |nil=>rfl
          |cons y ys=>show DV.tup [.int x,.int y]::qY _ _=_;rw[Q];rfl
      rw[zp];rfl
    have U:L<f.length:=Zw J
    let t:Hs:=I.set L (.lst (aO acc++aO (TR.prs p)))
    have s2:ZY (JL "list" YF (Qb 1) (Qc (uB (Qi aA (Qb 4) (eC (.int 1))) (Qi aA (Qb 4) (eC (.int 2)))) (Ql))) (E (.val (.int n)) (.val (aJ p))) f=some ((.nx,E (.val (.int n)) (.val (aJ p))),t):=XA (kN (Qe rfl) J (Jd zz) ((Ah U).trans J) (by simp[I]) (by rw[qO,qO];lia));have X3:Lx S w t:=by
      have xl:=X.ln;refine⟨⟨x+1,gs ⋯ ((Ah (by rw[List.length_set];lia)).trans (eV h1))⟩,gs ⋯ ((Ah (by rw[List.length_set];lia)).trans (gs (by decide) X.h2)),?_,λj hj R=>?_⟩
      . show w.length<=((v.set 1 _++[_]).set L _).length
        simp;lia
      . show((v.set 1 _++[_]).set L _)[j]?=_
        rw[QV _ _ _ _ ⋯,Ah (by rw[List.length_set];lia),QV _ _ _ _ (Ne.symm R)];exact X.ok j hj R
    have g3:t[L]?=some (.lst (aO (acc++TR.prs p))):=by show((v.set 1 _++[_]).set L _)[L]?=_;rw[eV ((Ah U).trans J)];unfold aO;rw[List.map_append]
    have Y:∀z2,Qi aA (Qb 4) (eC (.int 4)) (E z2 (.val (aJ p))) t=some (oN p.sd,t):=λ_=>Qh (Qe rfl) rfl (w6 p t);refine⟨t,X3,g3,λhs=>?_,λs hs=>?_⟩
    . have z:=Y (.val (.int n))
      rw[hs]at z;exact Qr s1 (Qr s2 (Q2 (ZP (QR (Qh z rfl rfl)) (QL (Qe rfl)))))
    . have z:=Y (.val (.int n))
      rw[hs]at z;exact Qr s1 (Qr s2 (Qr (Za (QR (Qh z rfl rfl))) (QS z)))
  have one:∀(n:Nat)(p:TR.Pg),S.pg[n]?=some p->TR.ze S [n]=TR.prs p:=λn p h=>by unfold TR.ze TR.nU;rw[List.flatMap_cons,List.flatMap_nil,h,Bt]
  induction c with
  |@last n p h hs =>
    intro ds v acc z3 z4 hd h0 X F u;obtain⟨q,C,P⟩:=h0 n (by simp);rw[h]at C;cases C;rw[one n p h]at u ⊢;cases ds with
    |nil=>simp at hd
    |cons d ds=>obtain⟨l,O,g',e1,_⟩:=o n p d v acc z4 h P X F u;exact⟨l,_,MJ (e1 hs),O,g'⟩
  |@next n p s' r h hs c Q =>
    intro ds v acc z3 z4 hd h0 X F u;obtain⟨q,C,P⟩:=h0 n (by simp);rw[h]at C;cases C;have lf:TR.ze S (n::r)=TR.prs p++TR.ze S r:=by rw[<- one n p h];unfold TR.ze;rw[List.flatMap_cons,List.flatMap_cons,List.flatMap_nil,Bt]
    rw[lf]at u ⊢;simp only[Ba,An]at hd u;cases ds with
    |nil=>simp at hd
    |cons d ds=>obtain⟨l,O,g',_,e2⟩:=o n p d v acc z4 h P X F ⋯;obtain⟨I,env,e,X2,g2⟩:=Q ds l (acc++TR.prs p) (.val d) (.val (aJ p)) (by simpa using hd) (λm hm=>h0 m (Ax _ hm)) O g' (by simp;lia);refine⟨I,env,(MK (e2 s' hs)).trans e,X2,by rw[g2,A8]⟩
theorem uR(T:TR.Tree S bg)(Z:TR.Zero S bg){F:Ev}(f:TR.aW S F){z:Zs}(t:Tb kvs z F)(hz:z.length<80000)(h1:w[1]?=some (.ins "Shelf" (aN S.O2 2 S.top S.rd S.wr)))(h2:w[2]?=some (.lst (S.pg.map aJ)))(C:S.pg.length<80000):∃v,JC [.ref 1] w=some (.ref w.length,v)/\Lx S w v/\v[w.length]?=some (.lst (aO z)):=by
 obtain⟨r,c,_,ln,i,y,l⟩:=TR.QdG T f Z;have le:TR.ze S r=z:=TR.qR y t.rise λx=>by have:=l x.1 x.2;rw[show(x.1,x.2)=x from rfl]at this;rw[this,t.fn]
 have wl:2<w.length:=Zw h2
 let a:Hs:=w++[OV.lst []]
 have up:∀{j:Nat}{x:OV},w[j]?=some x->a[j]?=some x:=λ{j x} e=>zG e;have b:Lx S w a:=⟨⟨_,up h1⟩,up h2,by show w.length<=(w++[_]).length;simp,λj h _=>Ah h⟩;have g1:a[w.length]?=some (.lst (aO [])):=List.getElem?_concat_length ..
 let E:Sl->Sl->En:=λz1 z2=>[.val (.ref 1),z1,z2,.un,.un]
 have o:QD 1 (Xf (Ql)) (E .un .un) w=some ((.nx,E (.val (.ref w.length)) .un),a):=QS rfl;have q:QD 2 (eC (.int 0)) (E (.val (.ref w.length)) .un) a=some ((.nx,E (.val (.ref w.length)) (.val (.int 0))),a):=QS rfl;obtain⟨v,env,e,X,g⟩:=uS T (Ae _) wl c (Zt 0 S.pg.length) a [] .un .un (by rw[Jl];exact ln) i b g1 (by rw[le];simp;lia);rw[List.nil_append,le]at g;have u:zB (E (.val (.ref w.length)) (.val (.int 0))) a=some ((.rt (.ref w.length),env),v):=qj (YE (m:=S.pg.length) (Jd ((QZ (Qe rfl) (up h1) (zV ..) JQ rfl (Ux (up h1) (up h2))).trans (by rw[Br]))) ⋯) e;exact⟨v,QI (env:=env) (Qr o (Qr q (Q2 u))),X,g⟩
end
section
variable{w:Hs}{ds:List TR.bH}
theorem uF(d:TR.bH)(U:Hs):aX (.str (jF d)) (.str "stretch") U=some (.bl d.far,U):=by
 have a:∀x∈(["find", "put", "cut", "stretch"]:List Str),PyData.strOk x=true:=by decide +kernel
 cases d with
 |find k=>exact fX (x := "find") U (a "find" (by simp)) (a "stretch" (by simp)) rfl
 |put k x=>exact fX (x := "put") U (a "put" (by simp)) (a "stretch" (by simp)) rfl
 |cut k=>exact fX (x := "cut") U (a "cut" (by simp)) (a "stretch" (by simp)) rfl
 |stretch l h=>exact fX (x := "stretch") U (a "stretch" (by simp)) (a "stretch" (by simp)) rfl
theorem VU{a:Nat}{v:TR.Wk}(h1:w[a]?=some (cN 1 (a+1) (a+2) v))(h2:w[a+2]?=some (.lst (aO v.O5)))(he:v.O7=true):Q8 [.ref a] w=some (if v.O0.far=true then (.ref w.length,w++[.lst (aO v.O5)])else (opt v.O1,w)):=by
  let E:En:=[.val (.ref a)]
  have e:Jk (eB (QN "Walk" "ended" (Qb 0))) E w=some (false,w):=Jp (b:=true) (QR (Zc (Qe rfl) h1 ((qx ..).trans (by rw[he]))));have c:eB (Qi aX (Qi aA (QN "Walk" "deed" (Qb 0)) (eC (.int 0))) (eC (.str "stretch"))) E w=some (v.O0.far,w):=QR (Qh (Qh (Zc (Qe rfl) h1 (zY ..)) rfl (jc v.O0 w)) rfl (uF v.O0 w));cases hf:v.O0.far with
  |true =>
    rw[hf]at c;rw[Eb rfl];refine QI (env:=E) (Qr (Za e) (Q2 (ZP c (QL (jX (Jd (Zc (Qe rfl) h1 (GA ..))) ?_)))));show(o9 (.ref (a+2)) >>= λds=>X0 (.lst ds)) w=_;have:o9 (.ref (a+2)) w=some (aO v.O5,w):=by show(ZF (a+2) >>= _) w=_;rw[Qg (Zg h2)];rfl
    rw[Qg this];rfl
  |false=>rw[hf]at c;rw[Ea (by simp)];exact QI (env:=E) (Qr (Za e) (Qr (Za c) (QL (Zc (Qe rfl) h1 (Yl ..)))))
end
def Rel(v:TR.Wk)(fr a:Int)(b:DV):Prop:=0<=a/\(v.O0.far=true->v.O4=0/\(v.O7=false->fr=v.aim)/\b=.lst (aO v.O5)/\(v.O7=true->a≠0))/\(v.O0.far=false->(v.O7=false->v.O4=0->a=0)/\(v.O7=true∨0<v.O4->a=1/\b=opt v.O1))
abbrev eS(a:Nat)(R:DV)(z5 z6:Sl):En:=[.val (.ref 1),.val (.ref a),.val (.ref (a+3)),.val (.ref 0),.val R,z5,z6]
section
variable{w:Hs}{a:Nat}{v:TR.Wk}{fr mo:Int}{an:DV}
theorem Wg(h1:w[a]?=some (cN 1 (a+1) (a+2) v))(h2:w[a+2]?=some (.lst (aO v.O5)))(o:w[a+3]?=some (bV v.O0 fr mo an))(m:Rel v fr mo an):∃w' env,Qq (aL (Jk (eB (Qz "Walk" "over" 1 Zi (Qb 1) Ql))) (QF (eC (.bl true))) (Q6)) (Qq (QD 5 (Qi aX (Qi aA (Qi aA (Qb 2) (eC (.str "deed"))) (eC (.int 0))) (eC (.str "stretch")))) (Qq (aL (cA (eB (Qi aX (Qi aA (Qb 2) (eC (.str "moments"))) (eC (.int 0)))) (J1 (Jk (eB (Qb 5))) (eB (Qi dI (Qi aA (Qb 2) (eC (.str "moments"))) (eC (.int 1)))))) (QF (eC (.bl false))) (Q6)) (QF (Jm (Qi aX (Qz "Walk" "answer" 1 Q8 (Qb 1) Ql) (Qi aA (Qb 2) (eC (.str "answer")))) (Qi aX (xG "list" (Qz "Walk" "answer" 1 Q8 (Qb 1) Ql)) (Qb 5)))))) (eS a R z5 z6) w=some ((.rt (.bl true),env),w')/\w.length<=w'.length/\∀j,j<w.length->w'[j]?=w[j]?:=by
  have q:eB (Qz "Walk" "over" 1 Zi (Qb 1) Ql) (eS a R z5 z6) w=some (v.O7,w):=QR (QZ (Qe rfl) h1 (qX ..) JQ rfl (jo h1));cases he:v.O7 with
  |false=>rw[he]at q;exact⟨w,eS a R z5 z6,Q2 (ZP (Jp (b:=false) q) (QL rfl)),Ae _,λ_ _=>rfl⟩
  |true =>
    rw[he]at q;have J:=Wz (f:=QF (eC (.bl true))) (g:=Q6) (Jp (b:=true) q) (v_ (env:=eS a R z5 z6) (U:=w))
    let E:En:=eS a R (.val (.bl v.O0.far)) z6
    have L:QD 5 (Qi aX (Qi aA (Qi aA (Qb 2) (eC (.str "deed"))) (eC (.int 0))) (eC (.str "stretch"))) (eS a R z5 z6) w=some ((.nx,E),w):=QS (Qh (Qh (Yt (Qe rfl) o DK) rfl (jc v.O0 w)) rfl (uF v.O0 w));have i:=VU h1 h2 he;have I:Qi aA (Qb 2) (eC (.str "moments")) E w=some (.int mo,w):=Yt (Qe rfl) o DG;have y:mo≠0:=by
      cases hf:v.O0.far with
      |true=>exact(m.2.1 hf).2.2.2 he
      |false=>have:=((m.2.2 hf).2 (.inl he)).1;lia
    have t0:eB (Qi aX (Qi aA (Qb 2) (eC (.str "moments"))) (eC (.int 0))) E w=some (false,w):=QR (Qh I rfl ((wg _ _ w).trans (by rw[beq_eq_false_iff_ne.mpr y])));cases hf:v.O0.far with
    |true =>
      rw[hf,Eb rfl]at i;obtain⟨_,_,r,_⟩:=m.2.1 hf;subst r;have l:∀u,Qb 5 E u=some (.bl true,u):=λu=>by rw[<- hf];exact Qe rfl
      have F:aL (cA (eB (Qi aX (Qi aA (Qb 2) (eC (.str "moments"))) (eC (.int 0)))) (J1 (Jk (eB (Qb 5))) (eB (Qi dI (Qi aA (Qb 2) (eC (.str "moments"))) (eC (.int 1)))))) (QF (eC (.bl false))) (Q6) E w=some ((.nx,E),w):=(Za ((Uc t0).trans (j6 (Jp (b:=true) (QR (l w))))))
      let c:Hs:=w++[OV.lst (aO v.O5)]
      have up:∀{j:Nat}{x:OV},w[j]?=some x->c[j]?=some x:=λ{j x} e=>zG e;have h:=VU (up h1) (up h2) he;rw[hf,Eb rfl]at h;have g1:c[w.length]?=some (.lst (aO v.O5)):=List.getElem?_concat_length ..;have z:Qi aX (Qz "Walk" "answer" 1 Q8 (Qb 1) Ql) (Qi aA (Qb 2) (eC (.str "answer"))) E w=some (.bl true,c):=by refine Qh (QZ (Qe rfl) h1 (js ..) JQ rfl i) (Yt (Qe rfl) (up o) n6) ?_;unfold aX;rw[Qg (jh g1 (UD v.O5) (by decide))];rfl
      have C:Qi aX (xG "list" (Qz "Walk" "answer" 1 Q8 (Qb 1) Ql)) (Qb 5) E c=some (.bl true,c++[OV.lst (aO v.O5)]):=Qh (DF (QZ (Qe rfl) (up h1) (js ..) JQ rfl h) (List.getElem?_concat_length ..)) (l _) (zF (n:=0) (FN 0 true) (by decide) _);refine⟨_,E,Qr J (Qr L (Qr F (QL ((qe (b:=true) z).trans ((Eb rfl).trans C))))),by simp[c],λj O=>?_⟩;rw[Ah (by simp[c];lia)];exact Ah O
    |false =>
      rw[hf,Ea (by simp)]at i;obtain⟨t,r⟩:=(m.2.2 hf).2 (.inl he);subst r;subst t;have l:∀u,Qb 5 E u=some (.bl false,u):=λu=>by rw[<- hf];exact Qe rfl
      have F:aL (cA (eB (Qi aX (Qi aA (Qb 2) (eC (.str "moments"))) (eC (.int 0)))) (J1 (Jk (eB (Qb 5))) (eB (Qi dI (Qi aA (Qb 2) (eC (.str "moments"))) (eC (.int 1)))))) (QF (eC (.bl false))) (Q6) E w=some ((.nx,E),w):=(Za ((Uc t0).trans ((yB (Jp (b:=false) (QR (l w)))).trans (QR (Qh I rfl (S8 1 w))))));have z:Qi aX (Qz "Walk" "answer" 1 Q8 (Qb 1) Ql) (Qi aA (Qb 2) (eC (.str "answer"))) E w=some (.bl true,w):=Qh (QZ (Qe rfl) h1 (js ..) JQ rfl i) (Yt (Qe rfl) o n6) (zF (n:=0) (Hl 0 _) (by decide) w);have C:Qi aX (xG "list" (Qz "Walk" "answer" 1 Q8 (Qb 1) Ql)) (Qb 5) E w=some (.bl true,w):=by
        have P:xG "list" (Qz "Walk" "answer" 1 Q8 (Qb 1) Ql) E w=some (.bl false,w):=by have t:Qz "Walk" "answer" 1 Q8 (Qb 1) Ql E w=some (opt v.O1,w):=QZ (Qe rfl) h1 (js ..) JQ rfl i;unfold xG;rw[Qg t];cases v.O1<;>rfl
        exact Qh P (l _) (zF (n:=0) (FN 0 false) (by decide) _)
      exact⟨w,E,Qr J (Qr L (Qr F (QL ((qe (b:=true) z).trans ((Eb rfl).trans C))))),Ae _,λ_ _=>rfl⟩
end
abbrev MM:aD:=aL (eB (Qi eU (Qi aA (Qb 4) (eC (.int 0))) (Zk (Qc (eC (.str "found")) (Qc (eC (.str "put")) (Qc (eC (.str "cut")) (Qc (eC (.str "read")) (Ql)))))))) (Qq (aL (Jk (eB (Qs 3 JD (Qc (Qb 4) (Qc (Qb 2) (Qc (Qb 3) (Ql))))))) (QF (eC (.bl false))) (Q6)) (Qq (QD 6 (XX)) (aL (J1 (eB (Qi eU (Qi aA (Qb 4) (eC (.int 0))) (Zk (Qc (eC (.str "put")) (Qc (eC (.str "cut")) (Ql)))))) (eB (Qi dI (Qs 1 JC (Qc (Qb 0) (Ql))) (Qb 6)))) (QF (eC (.bl false))) (Q6)))) (Q6)
section
variable{w w2:Hs}{a n:Nat}{v:TR.Wk}{S:TR.Sh}{bg:TR.Bg}{F:Ev}{kvs:List (Key×DV)}{z:Zs}
theorem LQ{e:Nat}{env:En}(i:env[e]?=some (.val (.ref 0)))(h0:w[0]?=some (.aB kvs))(t:Tb kvs z F)(hz:z.length<90000):ZR false (fO (ZO Vp (Qc (Qb e) (Ql)))) [e] (vI) (Zk (Qc (Qb 0) (Qc (Qi aA (Qb 1) (Qb 0)) (Ql)))) env w=some (.lst (aO z),w):=by
 have l:=Ma t.d t.rise (f:=Qb e) (env:=env) (n:=0) (U:=w) (Qe i) h0;have b:fO (ZO Vp (Qc (Qb e) (Ql))) env w=some (bW ((zK z).map .int),w):=by unfold fO;rw[Qg l];rfl
 have j:∀d:DV,cE [e] env d=[.val d,.val (.ref 0)]:=λd=>by show[Sl.val d,n_ ((env[e]?).getD .un)]=_;rw[i];rfl
 have c:=uj (U:=w) (t:=λd=>vI (cE [e] env d)) (f:=λd=>Zk (Qc (Qb 0) (Qc (Qi aA (Qb 1) (Qb 0)) (Ql))) (cE [e] env d)) z (λ_=>true) (λq h=>rfl) (λq h=>by show Zk _ (cE [e] env (.int q.1)) w=_;rw[j];exact JG (ZM (Qe rfl) (Qh (x:=.ref 0) (y:=.int q.1) (Qe rfl) (Qe rfl) (Li h0 (t.d.val t.rise h)))) (by simp)) ⋯
 rw[Cu.mpr (λ_ _=>rfl)]at c;unfold ZR;rw[Qg b,Qg (show Z6 _ _ _ lim 0 w=_ from c)];rfl
theorem uZ{x:Str}{b:Bool}(L:JD [.tup (.str x::xs),.ref (a+3),.ref 0] w=some (.bl true,w2))(hx:∀u,eU (.str x) (.tup [.str "found", .str "put", .str "cut", .str "read"]) u=some (.bl true,u))(I:∀u,eU (.str x) (.tup [.str "put", .str "cut"]) u=some (.bl b,u))(h0:w2[0]?=some (.aB kvs))(t:Tb kvs z F)(hz:z.length<80000)
    (hS:b=true->TR.Tree S bg/\TR.Zero S bg/\TR.aW S F/\S.pg.length<80000) (h1:w2[1]?=some (.ins "Shelf" (aN S.O2 2 S.top S.rd S.wr))) (h2:w2[2]?=some (.lst (S.pg.map aJ))) :
    ∃h y z6,MM (eS a (.tup (.str x::xs)) .un .un) w=some ((.nx,eS a (.tup (.str x::xs)) .un z6),h)/\h[1]?=some (.ins "Shelf" (aN S.O2 2 S.top y S.wr))/\w2.length<=h.length/\∀j,j<w2.length->j≠1->h[j]?=w2[j]?:=by
  let R:DV:=.tup (.str x::xs)
  have l:∀(z6:Sl)(u:Hs),Qi aA (Qb 4) (eC (.int 0)) (eS a R .un z6) u=some (.str x,u):=λz6 u=>Qh (x:=R) (Qe rfl) rfl (Zm (i:=0) rfl u);have r:eB (Qi eU (Qi aA (Qb 4) (eC (.int 0))) (Zk (Qc (eC (.str "found")) (Qc (eC (.str "put")) (Qc (eC (.str "cut")) (Qc (eC (.str "read")) (Ql))))))) (eS a R .un .un) w=some (true,w):=QR (Qh (l _ _) rfl (hx w));have m:aL (Jk (eB (Qs 3 JD (Qc (Qb 4) (Qc (Qb 2) (Qc (Qb 3) (Ql))))))) (QF (eC (.bl false))) (Q6) (eS a R .un .un) w=some ((.nx,eS a R .un .un),w2):=(Za (Jp (b:=true) (QR (QY (Z5 (Qe rfl) (Qe rfl) (Qe rfl)) rfl L))))
  let E:En:=eS a R .un (.val (.lst (aO z)))
  have o:QD 6 (XX) (eS a R .un .un) w2=some ((.nx,E),w2):=QS (LQ (e:=3) rfl h0 t ⋯);have f:eB (Qi eU (Qi aA (Qb 4) (eC (.int 0))) (Zk (Qc (eC (.str "put")) (Qc (eC (.str "cut")) (Ql))))) E w2=some (b,w2):=QR (Qh (l _ _) rfl (I w2));cases c:b with
  |false=>rw[c]at f;exact⟨w2,S.rd,_,ZP r (Qr m (Qr o (Za (j6 f)))),h1,Ae _,λ_ _ _=>rfl⟩
  |true =>
    rw[c]at f;obtain⟨T,Z,C,J⟩:=hS c;obtain⟨u,e,X,g⟩:=uR T Z C t hz h1 h2 J;obtain⟨y,O⟩:=X.h1;have q:Qi dI (Qs 1 JC (Qc (Qb 0) (Ql))) (Qb 6) E w2=some (.bl false,u):=by refine Qh (QY (Jd (Qe rfl)) rfl e) (Qe rfl) ?_;unfold dI;rw[Qg (jh g (UD z) (by decide))];rfl
    exact⟨u,y,_,ZP r (Qr m (Qr o (Za ((yB f).trans (QR q))))),O,X.ln,X.ok⟩
theorem M3{x:Str}(hx:eU (.str x) (.tup [.str "found", .str "put", .str "cut", .str "read"]) w=some (.bl false,w)):MM (eS a (.tup (.str x::xs)) .un .un) w=some ((.nx,eS a (.tup (.str x::xs)) .un .un),w) :=
 (Za (QR (Qh (Qh (x:=.tup (.str x::xs)) (Qe rfl) rfl (Zm (i:=0) rfl w)) rfl hx)))
end
structure Aft(w:Hs)(a:Nat)(S:TR.Sh)(bg:TR.Bg)(v:TR.Wk)(F:Ev)(n:Nat)(w':Hs):Prop where
 at_:∃y,At w' 1 2 a (a+1) (a+2) { S with rd:=y } v
 st:∃fr mo an,w'[a+3]?=some (bV v.O0 fr mo an)/\Rel v fr mo an
 tb:∃kvs z,w'[0]?=some (.aB kvs)/\Tb kvs z F/\z.length<=n
 tab:TR.aW S F
 ln:w.length<=w'.length
 ok:∀j,j<w.length->j≠0->j≠1->j≠2->j≠a->j≠a+1->j≠a+2->j≠a+3->w'[j]?=w[j]?
section
variable{w:Hs}{a n:Nat}{v v2:TR.Wk}{S S2:TR.Sh}{bg dF:TR.Bg}{F:Ev}{r:TR.Row}
def Bl(f:Hs)(a:Nat)(r:TR.Row)(S2:TR.Sh)(v2:TR.Wk)(m:Ev)(z:Zs):Prop:=∃x xs c y z6 b l e h i,UJ r=.tup (.str x::xs)/\MM (eS a (.tup (.str x::xs)) .un .un) f=some ((.nx,eS a (.tup (.str x::xs)) .un z6),c)/\c[1]?=some (.ins "Shelf" (aN S2.O2 2 S2.top y S2.wr))/\c[a+3]?=some (bV v2.O0 e h i)/\Rel v2 e h i/\c[0]?=some (.aB b)/\Tb b l m/\l.length<=z.length+1/\f.length<=c.length/\∀j,j<f.length->j≠0->j≠1->j≠a+3->c[j]?=f[j]?
theorem QcL(T:TR.Tree S bg)(W:TR.aM S bg v)(hA:TR.iM S bg v)(he:v.O7=false)(hT:TR.aW S F)(T2:TR.Tree S2 dF)(Z2:TR.Zero S2 dF)(rm:S.O2<=50)(es:TR.Xj S v=some (r,S2,v2))(A:At w 1 2 a (a+1) (a+2) S v)(ha:2<a)(hl:S.pg.length<70000)(be:S2.pg.length<80000)(hf:v.O3.length<1000)(U:v.O5.length<=45000)(bh:∃fr Q an,w[a+3]?=some (bV v.O0 fr Q an)/\Rel v fr Q an)(bm:∃kvs z,w[0]?=some (.aB kvs)/\Tb kvs z F/\z.length<=n)(hn:n<9000):
    ∃w' X,J4 [.ref 1,.ref a,.ref (a+3),.ref 0] w=some (.bl true,w')/\Aft w a S2 dF v2 X (n+1) w'/\TR.iM S bg v2:=by
  obtain⟨fr,Q,an,hc,Y⟩:=bh;obtain⟨kvs,z,h0,t,hz⟩:=bm;have D:dN 1 2 a (a+1) (a+2):=⟨by decide,⋯,⋯,⋯,⋯,⋯,⋯,⋯,⋯,⋯⟩;obtain⟨I,e1,A1,F1⟩:=L_ T W rm A D ⋯ ⋯ ⋯ es;have sz:=(TR.xr (m:=50) (λm p hm=>by have:=(T.page m p hm).few;lia) es).2;obtain⟨X,oA,f,wB,de⟩:=TR.gO T W hA he hT es;obtain⟨tl,_⟩:=TR.U9 he es;have lc:a+3<w.length:=Zw hc;have J:I[a+3]?=some (bV v.O0 fr Q an):=(F1.2 _ lc ⋯ ⋯ ⋯ ⋯ ⋯).trans hc;have P:I[0]?=some (.aB kvs):=(F1.2 0 ⋯ ⋯ ⋯ ⋯ ⋯ ⋯).trans h0;have kl:kvs.length<10000:=by rw[t.d.len];lia
  suffices ab:Bl I a r S2 v2 X z by
    obtain⟨x,xs,w3,y,z6,C,z',ay,pU,rE,rx,c1,c2,c3,L,c5,c6,c7,c8,c9⟩:=ab;have rD:∀{j:Nat}{o:OV},j≠0->j≠1->j≠a+3->I[j]?=some o->w3[j]?=some o:=λ{j o} n0 n1 n3 e=>(c9 j (Zw e) n0 n1 n3).trans e;have g3:=rD ⋯ ⋯ ⋯ A1.h3;have g5:=rD ⋯ ⋯ ⋯ A1.h5;obtain⟨w4,env,e4,l4,o4⟩:=Wg (R:=.tup (.str x::xs)) (z5:=.un) (z6:=z6) g3 g5 c3 L;have up:∀{j:Nat}{o:OV},w3[j]?=some o->w4[j]?=some o:=λ{j o} e=>(o4 j (Zw e)).trans e;have s1:QD 4 (Qz "Walk" "step" 1 Jy (Qb 1) Ql) [.val (.ref 1),.val (.ref a),.val (.ref (a+3)),.val (.ref 0),.un,.un,.un] w=some ((.nx,eS a (.tup (.str x::xs)) .un .un),I):=QS ((QZ (Qe rfl) A.h3 (vN ..) JQ rfl e1).trans (by rw[rx]));have s2:aL (Jk (eB (o_ "tuple" (Qb 4)))) (QF (eC (.bl false))) (Q6) (eS a (.tup (.str x::xs)) .un .un) I=some ((.nx,eS a (.tup (.str x::xs)) .un .un),I):=(Za (Jp (b:=true) (QR rfl)));refine⟨w4,X,QI (env:=env) (Qr s1 (Qr s2 (Qr c1 e4))),⟨⟨y,up c2,up (rD (by decide) (by decide) ⋯ A1.h2),up g3,up (rD ⋯ ⋯ ⋯ A1.h4),up g5⟩,⟨ay,pU,rE,up c3,L⟩,⟨C,z',up c5,c6,⋯⟩,oA,?_,λj hj n0 n1 n2 na nf nq nc=>?_⟩,wB⟩
    . have:=F1.1;lia
    . have:=F1.1
      rw[o4 j ⋯,c9 j ⋯ n0 n1 nc];exact F1.2 j hj n1 n2 na nf nq
  have O:∀(x:Str) (xs:List DV),UJ r=.tup (.str x::xs)->X=F->(∀u,eU (.str x) (.tup [.str "found", .str "put", .str "cut", .str "read"]) u=some (.bl false,u))->Rel v2 fr Q an->Bl I a r S2 v2 X z:=λx xs rx eF hx R2=>by subst eF;exact⟨x,xs,I,S2.rd,.un,kvs,z,fr,Q,an,rx,M3 (hx I),A1.h1,by rw[de];exact J,R2,P,t,⋯,Ae _,λ_ _ _ _ _=>rfl⟩
  have key:∀(x y:Str) (xs:List DV) (k:Int) (b:Bool) (C:List (Key×DV)) (z':Zs),UJ r=.tup (.str x::xs)->v.O0.far=false->v2.O1=F k->(v2.O7=true∨0<v2.O4)->v.O4=0->xs[1]?=some (opt (F k))->(∀w,aA (Q9 v.O0) (.int 1) w=some (.int k,w))->Jx [(.inr "found", .str "find"),(.inr "put", .str "put"),(.inr "cut", .str "cut")] (.inr x)=some (.str y)->JR (.str x)=pure (.inr x)->jF v.O0=y->PyData.strOk x=true->PyData.strOk y=true->(x==("read" : Str))=false->(∀u,eU (.str x) (.tup [.str "found", .str "put", .str "cut", .str "read"]) u=some (.bl true,u))->(∀u,eU (.str x) (.tup [.str "put", .str "cut"]) u=some (.bl b,u))->Tb C z' X->z'.length<=z.length+1 ->
      (∀(u:Hs)(E:En),u[0]?=some (.aB kvs)->(∃z4 z5,E=eM (.tup (.str x::xs)) (a+3) (.val (Q9 v.O0)) z4 z5)->(∀rest:aD,Qq PT (Qq CT rest) E u=rest E (u.set 0 (.aB C))))->Bl I a r S2 v2 X z:=by
    intro x y xs k b C z' rx fa wo en g0 h2 hk hy bd ba bn bq hr hx hb av zl ht;have m0:Q=0:=(Y.2.2 fa).1 he g0;subst m0;have mk:=De (w:=I) (z:=z) (F:=F) ⋯ J P t bn hr h2 hk hy bd ba bq ht
    let w2:Hs:=((I.set (a+3) (bV v.O0 fr (0+1) (opt (F k)))).set 0 (.aB C))++[lC]
    have up:∀{j:Nat}{o:OV},j≠0->j≠a+3->I[j]?=some o->w2[j]?=some o:=λ{j o} n0 n3 e=>by have e2:((I.set (a+3) (bV v.O0 fr (0+1) (opt (F k)))).set 0 (.aB C))[j]?=some o:=gs (Ne.symm n0) (gs (Ne.symm n3) e);exact zG e2
    have q0:((I.set (a+3) (bV v.O0 fr (0+1) (opt (F k)))).set 0 (.aB C))[0]?=some (.aB C):=eV (gs ⋯ P);have q3:((I.set (a+3) (bV v.O0 fr (0+1) (opt (F k)))).set 0 (.aB C))[a+3]?=some (bV v.O0 fr (0+1) (opt (F k))):=gs ⋯ (eV J);have p0:w2[0]?=some (.aB C):=zG q0;have p3:w2[a+3]?=some (bV v.O0 fr (0+1) (opt (F k))):=zG q3;have br:w2.length=I.length+1:=by simp[w2]
    obtain⟨w3,yy,z6,c1,c2,c3,L⟩:=uZ (a:=a) (b:=b) mk hx hb p0 av ⋯ (λ_=>⟨T2,Z2,oA,be⟩) (up (by decide) ⋯ A1.h1) (up (by decide) ⋯ A1.h2);simp only[An,List.length_set,List.length_singleton]at c3;have L:∀j,j<I.length->j≠1->w3[j]?=w2[j]?:=λj hj h1=>L j (by simp;lia) h1;refine⟨x,xs,w3,yy,z6,C,z',fr,0+1,opt (F k),rx,c1,c2,?_,⟨by decide,λh=>?_,λ_=>⟨λh1 h2=>?_,λ_=>⟨rfl,by rw[wo]⟩⟩⟩,?_,av,zl,⋯,λj hj n0 n1 n3=>?_⟩
    . rw[L _ (Zw J) ⋯,de];exact p3
    . rw[de,fa]at h;cases h
    . rcases en with q|q
      . rw[q]at h1;cases h1
      . lia
    . rw[L 0 (Zw P) (by decide)];exact p0
    . rw[L j hj n1]
      show(((I.set (a+3) _).set 0 _)++[_])[j]?=_;rw[Ah (by simp;lia),QV _ _ _ _ (Ne.symm n0),QV _ _ _ _ (Ne.symm n3)]
  have same:v2.O1=v.O1->v2.O5=v.O5->v2.O7=false->v2.O4=v.O4->v2.aim=v.aim->Rel v2 fr Q an:=λq1 q2 q3 q4 q5=>⟨Y.1,λh=>by
    rw[de]at h;obtain⟨p1,p2,p3,_⟩:=Y.2.1 h;exact⟨⋯,λ_=>by rw[q5];exact p2 he,by rw[q2];exact p3,λh=>by rw[q3]at h;cases h⟩,λh=>by
    rw[de]at h;obtain⟨p1,p2⟩:=Y.2.2 h;refine⟨λ_ g=>p1 he ⋯,λg=>?_⟩;rw[q1];refine p2 (.inr ?_);rcases g with g|g
    . rw[q3]at g;cases g
    . lia⟩
  have told:0<v.O4->v2.O1=v.O1->(v2.O7=false->0<v2.O4)->Rel v2 fr Q an:=λg0 q1 q2=>by
    have fa:v.O0.far=false:=by
      cases h:v.O0.far with
      |false=>rfl
      |true=>have:=(Y.2.1 h).1;lia
    obtain⟨p1,p2⟩:=Y.2.2 fa;exact⟨Y.1,λh=>(by rw[de,fa]at h;cases h),λ_=>⟨λh1 h2=>(by have:=q2 h1;lia),λ_=>by rw[q1];exact p2 (.inr g0)⟩⟩
  have so:=zt;cases r with
  |non=>exact f.elim
  |side c d=>exact O _ _ rfl f.1 (λ_=>rfl) (same f.2.1 f.2.2.1 f.2.2.2.1 f.2.2.2.2.1 f.2.2.2.2.2)
  |down c d=>exact O _ _ rfl f.1 (λ_=>rfl) (same f.2.1 f.2.2.1 f.2.2.2.1 f.2.2.2.2.1 f.2.2.2.2.2)
  |told c d=>exact O _ _ rfl f.2.1 (λ_=>rfl) (told f.1 f.2.2.1 f.2.2.2.2.2)
  |raised c d=>exact O _ _ rfl f.2.1 (λ_=>rfl) (told f.1 f.2.2.1 (λh=>by rw[f.2.2.2.2]at h;cases h))
  |found c x =>obtain⟨k,hd,rfl,rfl,d4,d5,d6⟩:=f;exact key "found" "find" [.int c,opt (X k)] k false kvs z rfl (by rw[hd];rfl) d4 (.inl d6) tl.1 rfl (by rw[hd];exact λw=>Zm (i:=1) rfl w) rfl rfl (by rw[hd];rfl) (so _ (by simp)) (so _ (by simp)) rfl (λ_=>rfl) (λ_=>rfl) t ⋯ (λu E h0 hE rest=>by obtain⟨z4,z5,rfl⟩:=hE;rw[hd];exact QcM h0 rest)
  |put c x q =>
    obtain⟨k,y,hd,rfl,rfl,d4,d5,d6,d7⟩:=f;refine key "put" "put" [.int c,opt (F k),oN q] k true (Ya kvs (.inl k) (.int y)) (yR z k [(k,y)]) rfl (by rw[hd];rfl) d4 ?_ tl.1 rfl (by rw[hd];exact λw=>Zm (i:=1) rfl w) rfl rfl (by rw[hd];rfl) (so _ (by simp)) (so _ (by simp)) rfl (λ_=>rfl) (λ_=>rfl) (t.put k y) (by have:=Mi z k [(k,y)];simpa using this) (λu E h0 hE rest=>by obtain⟨z4,z5,rfl⟩:=hE;rw[hd];exact dU h0 kl rest);cases h:v2.O7 with
    |true=>exact .inl rfl
    |false=>exact .inr (d7 h)
  |cut c x =>obtain⟨k,hd,rfl,rfl,d4,d5,d6⟩:=f;exact key "cut" "cut" [.int c,opt (F k)] k true (J5 kvs (.inl k)) (yR z k []) rfl (by rw[hd];rfl) d4 (.inl d6) tl.1 rfl (by rw[hd];exact λw=>Zm (i:=1) rfl w) rfl rfl (by rw[hd];rfl) (so _ (by simp)) (so _ (by simp)) rfl (λ_=>rfl) (λ_=>rfl) (t.cut k) (by have:=Mi z k [];simp at this;lia) (λu E h0 hE rest=>by obtain⟨z4,z5,rfl⟩:=hE;rw[hd];exact dW h0 rest)
  |read c ps x =>
    obtain⟨l,h,hd,rfl,dp,dw,dm⟩:=f;have fa:v.O0.far=true:=by rw[hd];rfl
    obtain⟨p1,p2,p3,p4⟩:=Y.2.1 fa;have p2:=p2 he;subst p2;subst p3;obtain⟨e,hx,Ri,ae⟩:∃e,((x=none/\e=h)∨∃s,x=some (s,e)/\e<h)/\TR.nR X v.aim e ps/\(v2.O4=0/\(v2.O7=false->e=v2.aim)):=by
      cases x with
      |none=>exact⟨h,.inl ⟨rfl,rfl⟩,dm.1,by rw[tl.2.2.2.2];exact p1,λq=>by rw[dm.2]at q;cases q⟩
      |some y=>obtain⟨s,y⟩:=y;exact⟨y,.inr ⟨s,rfl,dm.2.1⟩,dm.2.2.1,dm.2.2.2.2.2,λ_=>dm.2.2.2.1.symm⟩
    have pl:v.O5.length+ps.length<=90000:=by rw[dp,An]at sz;lia
    rw[hd]at J;have mk:=QdR (w:=I) (n:=c) ⋯ J P t ⋯ hx Ri pl;obtain⟨xs,rx⟩:∃xs,UJ (.read c ps x)=.tup (.str "read" :: xs):=by
      cases x with
      |none=>exact⟨_,rfl⟩
      |some y=>obtain⟨s,y⟩:=y;exact⟨_,rfl⟩
    rw[rx]at mk
    let w2:Hs:=I.set (a+3) (bV (.stretch l h) e (Q+1) (.lst (aO (v.O5++ps))))
    have p0:w2[0]?=some (.aB kvs):=gs ⋯ P;obtain⟨w3,yy,z6,c1,c2,c3,L⟩:=uZ (a:=a) (b:=false) (S:=S2) (bg:=dF) mk (λ_=>rfl) (λ_=>rfl) p0 t ⋯ (λh=>by cases h) (gs ⋯ A1.h1) (gs ⋯ A1.h2);rw[List.length_set]at c3;have L:∀j,j<I.length->j≠1->w3[j]?=w2[j]?:=λj hj h1=>L j (by rw[List.length_set];exact hj) h1;have P0:a+3<I.length:=Zw J;refine⟨"read", xs,w3,yy,z6,kvs,z,e,Q+1,.lst (aO (v.O5++ps)),rx,c1,c2,?_,⟨by have:=Y.1;lia,λ_=>⟨ae.1,ae.2,by rw[dp],λ_=>by have:=Y.1;lia⟩,λq=>by rw[de,fa]at q;cases q⟩,?_,t,⋯,⋯,λj hj n0 n1 n3=>?_⟩
    . rw[L _ P0 ⋯,de,hd];exact eV J
    . rw[L 0 ⋯ (by decide)];exact p0
    . rw[L j hj n1];exact QV _ _ _ _ (Ne.symm n3)
end
def hD:Option Nat->DV
 |none=>.non
 |some a=>.ref a
def hS:Option Nat->DV
 |none=>.non
 |some a=>.ref (a+3)
def eD(x:Nat×DV):DV:=.tup [.ref x.1,x.2]
def jw(v:TR.Wk):DV:=if v.O0.far=true then .lst (aO v.O5)else opt v.O1
theorem Rel.ans{v:TR.Wk}{fr b:Int}{a:DV}(h:Rel v fr b a)(he:v.O7=true):a=jw v:=by
 unfold jw;cases hf:v.O0.far with
 |true=>rw[Eb rfl];exact(h.2.1 hf).2.2.1
 |false=>rw[Ea (by simp)];exact((h.2.2 hf).2 (.inl he)).2
structure Sys(w:Hs)(wl:Nat)(S:TR.Sh)(bg:TR.Bg)(H:List (Option Nat))(ws:List TR.Wk)(b:Nat->Nat)(G:Nat)(F:Ev)(n:Nat)(Es:List (Nat×DV)):Prop where
 T:TR.Tree S bg
 A:TR.All S bg ws
 K:TR.Fk S
 D:TR.lu S ws
 Z:TR.Zero S bg
 tab:TR.aW S F
 rm:S.O2<=50
 len:H.length=ws.length
 h1:w[1]?=some (.ins "Shelf" (aN S.O2 2 S.top S.rd S.wr))
 h2:w[2]?=some (.lst (S.pg.map aJ))
 tb:∃kvs z,w[0]?=some (.aB kvs)/\Tb kvs z F/\z.length<=n
 hw:w[wl]?=some (.lst (H.map hD))
 hs:w[wl+1]?=some (.lst (H.map hS))
 he:w[wl+2]?=some (.lst (Es.map eD))
 pO:3<=wl
 ob:∀(i a:Nat),H[i]?=some (some a)->∃v,ws[i]?=some v/\w[a]?=some (cN 1 (a+1) (a+2) v)/\w[a+1]?=some (.aB (dZ v.O3))/\w[a+2]?=some (.lst (aO v.O5))/\wl+2<a/\v.O3.length<=b i/\v.O5.length<=50 * b i/\∃fr mo an,w[a+3]?=some (bV v.O0 fr mo an)/\Rel v fr mo an
 am:∀(i:Nat)(v:TR.Wk),ws[i]?=some v->v.O7=false->TR.iM S bg v
 no:∀(i:Nat)(v:TR.Wk),H[i]?=some none->ws[i]?=some v->v.O7=true
 dj:∀(i j a b:Nat),i≠j->H[i]?=some (some a)->H[j]?=some (some b)->a+3<b∨b+3<a
 es:∀x∈Es,wl+2<x.1/\(∃v,w[x.1]?=some (cN 1 (x.1+1) (x.1+2) v)/\w[x.1+2]?=some (.lst (aO v.O5))/\v.O7=true/\x.2=jw v)/\∀(i a:Nat),H[i]?=some (some a)->a+3<x.1∨x.1+3<a
 e4:∀x∈Es,x.1+3<w.length
 cn:TR.Xk S 0+TR.zc ws<=G
def up(b:Nat->Nat)(i:Nat):Nat->Nat:=λj=>if j=i then b i+1 else b j
def dn(t:Nat->Nat)(i:Nat):Nat->Nat:=λj=>if j=i then t i-1 else t j
def BB{S:TR.Sh}{ws:List TR.Wk}(A:TR.All S bg ws)(x y:Int):TR.All { S with rd:=x,wr:=y } bg ws:=⟨λi w h e=>(A.ok i w h e).rd x y,A.fQ,A.diff⟩
section
variable{w:Hs}{wl:Nat}{S:TR.Sh}{bg:TR.Bg}{H:List (Option Nat)}{ws:List TR.Wk}{b:Nat->Nat}{G n:Nat}{F:Ev}{Es:List (Nat×DV)}
theorem Sys.pages(Y:Sys w wl S bg H ws b G F n Es):S.pg.length<=2 * G:=by have h1:=TR.xU Y.T Y.K;have h2:=Y.cn;lia
theorem Sys.mono(Y:Sys w wl S bg H ws b G F n Es){l:Nat->Nat}(h:∀i,b i<=l i){m:Nat}(y:n<=m){f:Nat}(t:G<=f):Sys w wl S bg H ws l f F m Es:=⟨Y.T,Y.A,Y.K,Y.D,Y.Z,Y.tab,Y.rm,Y.len,Y.h1,Y.h2,(by obtain⟨k,z,c,e,j⟩:=Y.tb;exact⟨k,z,c,e,⋯⟩),Y.hw,Y.hs,Y.he,Y.pO,λi a hi=>by obtain⟨v,c,e,j,o,q,u,x,r⟩:=Y.ob i a hi;have:=h i;exact⟨v,c,e,j,o,q,⋯,⋯,r⟩,Y.am,Y.no,Y.dj,Y.es,Y.e4,Bj Y.cn t⟩
theorem gQ(Y:Sys w wl S bg H ws b G F n Es){i a:Nat}(hi:H[i]?=some (some a)){v:TR.Wk}(z:ws[i]?=some v)(he:v.O7=false)(hb:b i<880)(hG:G<1000)(hn:n<9000):∃w' S' U C P,J4 [.ref 1,.ref a,.ref (a+3),.ref 0] w=some (.bl true,w')/\Sys w' wl S' U H C (up b i) G P (n+1) Es/\(∀j,j≠i->C[j]?=ws[j]?)/\(∀t,TR.dJ S bg ws t->TR.dJ S' U C (dn t i))/\w.length<=w'.length:=by
 refine Classical.byContradiction λno=>?_;obtain⟨v',R,a2,a3,a4,a5,a6,a7,a8⟩:=Y.ob i a hi;rw[z]at R;cases R;have pn:=Y.pages;have w3:=Y.pO;have W:=Y.A.ok i v z he;obtain⟨r,l,O,Q,es,st⟩:=TR.LR Y.T W he (λg c hc=>Y.A.fQ i v c z he g hc);have rm:=Y.rm;have sz:=TR.xr (m:=50) (λm p hm=>by have:=(Y.T.page m p hm).few;lia) es;have kd:=TR.yX Y.T W he es;have zs:=TR.Dv Y.T W z he kd st.grow;have sl:=st.len;obtain⟨w',P,e,X,aim⟩:=QcL Y.T W (Y.am i v z he) he Y.tab st.tree (Y.Z.grow st.grow) Y.rm es ⟨Y.h1,Y.h2,a2,a3,a4⟩ ⋯ ⋯ ⋯ ⋯ ⋯ a8 Y.tb hn;obtain⟨y,I⟩:=X.at_;have li:i<ws.length:=Zw z;have zz:TR.Zero l Q:=Y.Z.grow st.grow;have kk:TR.Fk l:=Y.K.step Y.T es;have dd:TR.lu l (ws.set i O):=Y.D.step Y.T W z he es;have lim:∀t,TR.dJ S bg ws t->TR.dJ l Q (ws.set i O) (dn t i):=λt L=>L.step Y.A Y.T z he es st.grow;have old:∀{j:Nat}{o:OV},j≠0->j≠1->j≠2->(j<a∨a+3<j)->w[j]?=some o->w'[j]?=some o:=λ{j o} n0 n1 n2 na h=>(X.ok j (Zw h) n0 n1 n2 ⋯ ⋯ ⋯ ⋯).trans h;refine no ⟨w',{ l with rd:=y },Q,ws.set i O,P,e,⟨st.tree.rd y l.wr,BB (Y.A.step z he st) y l.wr,kk,dd,zz,X.tab,by show l.O2<=50;rw[st.O2];exact Y.rm,by rw[List.length_set];exact Y.len,I.h1,I.h2,X.tb,old ⋯ ⋯ ⋯ (.inl ⋯) Y.hw,old ⋯ ⋯ ⋯ (.inl ⋯) Y.hs,old ⋯ ⋯ ⋯ (.inl ⋯) Y.he,w3,λj c f=>?_,λj u f J=>?_,λj u f J=>?_,Y.dj,λx hx=>?_,λx hx=>Ay (Y.e4 x hx) X.ln,Bj zs Y.cn⟩,λj f=>Am (Ne.symm f),λt L=>lim t L,X.ln⟩
 ·by_cases q:j=i
  ·subst q;rw[hi]at f;cases f;refine⟨O,Au li,I.h3,I.h4,I.h5,a5,?_,?_,X.st⟩
   ·unfold up;rw[Eb rfl];lia
   ·unfold up;rw[Eb rfl];lia
  ·obtain⟨u,b1,b2,b3,b4,b5,b6,b7,fr,mo,an,b8,b9⟩:=Y.ob j c f;have dd:=Y.dj i j a c (Ne.symm q) hi f;exact⟨u,by rw[Am (Ne.symm q)];exact b1,old ⋯ ⋯ ⋯ ⋯ b2,old ⋯ ⋯ ⋯ ⋯ b3,old ⋯ ⋯ ⋯ ⋯ b4,b5,by unfold up;rw[Ea q];exact b6,by unfold up;rw[Ea q];exact b7,fr,mo,an,old ⋯ ⋯ ⋯ ⋯ b8,b9⟩
 ·rcases TR.Q7 f with ⟨rfl,e2,_⟩|⟨ne,f⟩
  ·rw[e2];exact(aim.grow st.grow).rd y l.wr
  ·exact((Y.am j u f J).grow st.grow).rd y l.wr
 ·have ne:j≠i:=λe=>by subst e;rw[hi]at f;cases f
  rw[Am (Ne.symm ne)]at J;exact Y.no j u f J
 ·obtain⟨q1,⟨u,q2,q3,q4⟩,q5⟩:=Y.es x hx;have:=q5 i a hi;exact⟨q1,⟨u,old ⋯ ⋯ ⋯ ⋯ q2,old ⋯ ⋯ ⋯ ⋯ q3,q4⟩,q5⟩
theorem HG(Y:Sys w wl S bg H ws b G F n Es){i:Nat}(hi:i<H.length)(hd:∀v,ws[i]?=some v->v.O7=true)(d:TR.bH)(hok:TR.Ik d){w':Hs}{cg:List (Nat×DV)}(hE:cg=match H[i]?,ws[i]? with|some (some a),some v=>Es++[(a,jw v)]|_,_=>Es)(o:∀j,j<w.length->j≠wl->j≠wl+1->j≠wl+2->w'[j]?=w[j]?)(hw:w'[wl]?=some (.lst ((H.set i (some w.length)).map hD)))(hs:w'[wl+1]?=some (.lst ((H.set i (some w.length)).map hS)))(he:w'[wl+2]?=some (.lst (cg.map eD)))
    (b0:w'[w.length]?=some (cN 1 (w.length+1) (w.length+2) (TR.fresh d))) (b1:w'[w.length+1]?=some (.aB [])) (b2:w'[w.length+2]?=some (.lst [])) (b3:w'[w.length+3]?=some (bV d d.key 0 (.lst []))):Sys w' wl S bg (H.set i (some w.length)) (ws.set i (TR.fresh d)) b (G+1) F n cg:=by
  have w3:=Y.pO;have lw:wl+2<w.length:=Zw Y.he;have li:i<ws.length:=by rw[<- Y.len];exact hi
  have old:∀{j:Nat}{x:OV},(j<wl∨wl+2<j)->w[j]?=some x->w'[j]?=some x:=λ{j x} f h=>(o j (Zw h) ⋯ ⋯ ⋯).trans h;have cz:=TR.VG TR.zf ws i _ (TR.fresh d) (Ab li);have cn:=Y.cn;have z1:∀c:Bool,(if c=true then 1 else 0)<=1:=λc=>by cases c<;>simp
  have z2:=z1 (TR.zf (TR.fresh d));have small:∀j b,H[j]?=some (some b)->b+3<w.length:=λj b f=>by obtain⟨u,_,_,_,_,_,_,_,fr,mo,R,b8,_⟩:=Y.ob j b f;exact Zw b8
  refine⟨Y.T,Y.A.put rfl rfl rfl,Y.K,Y.D.put hd _,Y.Z,Y.tab,Y.rm,by simp[Y.len],old ⋯ Y.h1,old ⋯ Y.h2,(by obtain⟨k,z,Q,I⟩:=Y.tb;exact⟨k,z,old ⋯ Q,I⟩),hw,hs,he,w3,λj c f=>?_,λj u f hu=>?_,λj u f hu=>?_,λj j' a c P ha hb=>?_,λx hx=>?_,λx hx=>?_,by unfold TR.zc at cn ⊢;lia⟩
  . rcases TR.Q7 f with ⟨rfl,e,_⟩|⟨ne,f⟩
    . cases e
      refine⟨TR.fresh d,Au li,b0,b1,b2,lw,Be _,Be _,d.key,0,.lst [],b3,by decide,λ_=>⟨rfl,λ_=>rfl,rfl,λh=>(by cases h)⟩,λ_=>⟨λ_ _=>rfl,λh=>?_⟩⟩;rcases h with h|h
      . cases h
      . exact absurd h (by show ¬ 0<0;decide)
    . obtain⟨u,J,U,c3,X,c5,c6,c7,fr,mo,R,L,c9⟩:=Y.ob j c f
      exact⟨u,by rw[Am (Ne.symm ne)];exact J,old ⋯ U,old ⋯ c3,old ⋯ X,c5,c6,c7,fr,mo,R,old ⋯ L,c9⟩
  . rcases TR.Q7 f with ⟨rfl,e,_⟩|⟨ne,f⟩
    . rw[e]
      intro _;cases d with
      |stretch l h=>exact⟨hok,.inl rfl⟩
      |_=>rfl
    . exact Y.am j u f hu
  . rcases TR.Q7 f with ⟨_,e,_⟩|⟨ne,f⟩
    . cases e
    . rw[Am (Ne.symm ne)]at hu
      exact Y.no j u f hu
  . rcases TR.Q7 ha with ⟨rfl,e,_⟩|⟨na,O⟩
    . cases e
      rcases TR.Q7 hb with ⟨rfl,e,_⟩|⟨nb,C⟩
      . exact absurd rfl P
      . exact .inr (small _ _ C)
    . rcases TR.Q7 hb with ⟨rfl,e,_⟩|⟨nb,C⟩
      . cases e;exact .inl (small _ _ O)
      . exact Y.dj j j' a c P O C
  . have keep:∀y:Nat×DV,wl+2<y.1->(∃v,w[y.1]?=some (cN 1 (y.1+1) (y.1+2) v)/\w[y.1+2]?=some (.lst (aO v.O5))/\v.O7=true/\y.2=jw v)->(∀(k a:Nat),k≠i->H[k]?=some (some a)->a+3<y.1∨y.1+3<a)->y.1+3<w.length->wl+2<y.1/\(∃v,w'[y.1]?=some (cN 1 (y.1+1) (y.1+2) v)/\w'[y.1+2]?=some (.lst (aO v.O5))/\v.O7=true/\y.2=jw v)/\∀(k a:Nat),(H.set i (some w.length))[k]?=some (some a)->a+3<y.1∨y.1+3<a:=λy Q I q5 q6=>by
      obtain⟨u,I,q3,q4⟩:=I;refine⟨Q,⟨u,old ⋯ I,old ⋯ q3,q4⟩,λk a r=>?_⟩;rcases TR.Q7 r with ⟨rfl,e,_⟩|⟨ne,r⟩
      . cases e;exact .inr q6
      . exact q5 k a ne r
    have t:x∈Es->wl+2<x.1/\(∃v,w'[x.1]?=some (cN 1 (x.1+1) (x.1+2) v)/\w'[x.1+2]?=some (.lst (aO v.O5))/\v.O7=true/\x.2=jw v)/\∀(k a:Nat),(H.set i (some w.length))[k]?=some (some a)->a+3<x.1∨x.1+3<a:=λhx=>by
      obtain⟨Q,⟨u,I,q3,q4⟩,q5⟩:=Y.es x hx;have l2:x.1+2<w.length:=Zw q3;refine⟨Q,⟨u,old ⋯ I,old ⋯ q3,q4⟩,λk a r=>?_⟩;rcases TR.Q7 r with ⟨rfl,e,_⟩|⟨ne,r⟩
      . cases e
        have:=Y.e4 x hx;exact .inr this
      . exact q5 k a r
    subst hE;cases m:H[i]? with
    |none=>rw[m]at hx;exact t hx
    |some q =>
      cases q with
      |none=>rw[m]at hx;exact t hx
      |some a =>
        obtain⟨v,J,U,c3,X,c5,_,_,fr,mo,R,L,_⟩:=Y.ob i a m;rw[m,J]at hx;rcases Ai.mp hx with hx|hx
        . exact t hx
        . rw[Ar]at hx
          subst hx;exact keep (a,jw v) c5 ⟨v,U,X,hd v J,rfl⟩ (λk c nk r=>Y.dj k i c a nk r m) (Zw L)
  . have ab:w.length+3<w'.length:=Zw b3
    have t:x∈Es->x.1+3<w'.length:=λhx=>by have:=Y.e4 x hx;lia
    subst hE;cases m:H[i]? with
    |none=>rw[m]at hx;exact t hx
    |some q =>
      cases q with
      |none=>rw[m]at hx;exact t hx
      |some a =>
        obtain⟨v,J,U,c3,X,c5,_,_,fr,mo,R,L,_⟩:=Y.ob i a m;rw[m,J]at hx;rcases Ai.mp hx with hx|hx
        . exact t hx
        . rw[Ar]at hx
          subst hx;have:=Zw L;show a+3<w'.length;lia
end
theorem gi{U:Hs}{a i:Nat}{ds:List DV}(h:U[a]?=some (.lst ds))(hi:i<ds.length):xg (.ref a) (.int (i:Int)) d U=some ((),U.set a (.lst (ds.set i d))):=by show(ZF a >>= _) U=_;rw[Qg (Zg h)];show(cF (.int (i:Int)) >>= λk=>match ixN ds.length k with|some j=>xq a (.lst (ds.set j d))|none=>failure) U=_;simp only[cF,Ei,Lh hi];rfl
section
variable{w:Hs}{wl:Nat}{S:TR.Sh}{bg:TR.Bg}{H:List (Option Nat)}{ws:List TR.Wk}{b:Nat->Nat}{G n:Nat}{F:Ev}{Es:List (Nat×DV)}
theorem Wn(Y:Sys w wl S bg H ws b G F n Es){i:Nat}(hi:i<H.length)(hd:∀v,ws[i]?=some v->v.O7=true)(hE:Es.length<900)(c:Int):∃w' H' Q r m,zZ [.ref 1,.ref wl,.ref (wl+1),.int (i:Int),.int c,.ref (wl+2)] w=some (.int m,w')/\Sys w' wl S bg H' Q b (G+1) F n r/\H'.length=H.length/\(∃a,H'[i]?=some (some a))/\r.length<=Es.length+1/\0<=m/\m<=1:=by
  have p2:=Ze (Jh c 10139 2 (by decide) (by decide) (by decide));have m0:=Xu c 10139 2 (by decide);have m1:=Yg c 10139 2 (by decide);generalize zo c 10139 2=m at p2 m0 m1;obtain⟨d,de,RJ⟩:=BO c w;have w3:=Y.pO;have lw:wl+2<w.length:=Zw Y.he
  let E:Sl->En:=λz=>[.val (.ref 1),.val (.ref wl),.val (.ref (wl+1)),.val (.int (i:Int)),.val (.int c),.val (.ref (wl+2)),z]
  let l:En:=E (.val (Q9 d))
  have s1:QD 6 (Qs 1 qz (Qc (Qb 4) (Ql))) (E .un) w=some ((.nx,l),w):=QS (QY (Jd (Qe rfl)) rfl de);have C:Qi aA (Qb 1) (Qb 3) l w=some (hD H[i],w):=Qh (Qe rfl) (Qe rfl) (XO (i:=i) Y.hw (by rw[Bu,Ab hi];rfl));have J:H[i]?=some H[i]:=Ab hi;have li:i<ws.length:=by rw[<- Y.len];exact hi
  obtain⟨r,s2,L,el⟩:∃r,aL (eB (Qi qK (Qi aA (Qb 1) (Qb 3)) (eC .non))) (ZY (JL "list" Jf (Qb 5) (Qc (Zk (Qc (Qi aA (Qb 1) (Qb 3)) (Qc (Qi aA (Qi aA (Qb 2) (Qb 3)) (eC (.str "answer"))) (Ql)))) (Ql)))) (Q6) l w=some ((.nx,l),w.set (wl+2) (.lst (r.map eD)))/\(r=match H[i]?,ws[i]? with|some (some a),some v=>Es++[(a,jw v)]|_,_=>Es)/\r.length<=Es.length+1:=by
    cases hx:H[i]with
    |none=>rw[hx]at C;refine⟨Es,?_,by rw[J,hx],⋯⟩;rw[vD Y.he];exact(Za (QR (Qh C rfl rfl)))
    |some a=>rw[hx]at C;obtain⟨v,R,c2,c3,c4,c5,_,_,fr,mo,an,c8,c9⟩:=Y.ob i a (by rw[J,hx]);have ea:=c9.ans (hd v R);subst ea;refine⟨Es++[(a,jw v)],?_,by rw[J,hx,R],by simp⟩;have sk:Qi aA (Qb 2) (Qb 3) l w=some (.ref (a+3),w):=Qh (Qe rfl) (Qe rfl) (XO (i:=i) Y.hs (by rw[Bu,J,hx];rfl));refine ZP (QR (Qh C rfl rfl)) ((XA (QbS (Qe rfl) Y.he (JG (ZM C (Yt sk c8 n6)) (by simp)) (by rw[Br];lia))).trans ?_);rw[List.map_append];rfl
  let q:Hs:=w.set (wl+2) (.lst (r.map eD))
  have X:q.length=w.length:=List.length_set
  let t:Hs:=(q++[cN 1 (q.length+1) (q.length+2) (TR.fresh d),.aB [],.lst []])
  have mk:=kj (n:=1) (d:=d) (fa:=Qc (Qb 0) (Qc (Qb 6) Ql)) (env:=l) (hp0:=q) (U:=q) (ZM (Qe rfl) (Qe rfl));have g1:q[wl]?=some (.lst (H.map hD)):=gs ⋯ Y.hw;have g2:t[wl]?=some (.lst (H.map hD)):=zG g1
  let f:Hs:=t.set wl (.lst ((H.map hD).set i (.ref q.length)))
  have s3:Jw (J6 "Walk" 3 ZL (Qc (Qb 0) (Qc (Qb 6) (Ql)))) (bB (Qb 1) (Qb 3)) l q=some ((.nx,l),f):=by refine jr mk ?_;unfold bB;rw[Qg (show Qb 1 l t=some (.ref wl,t)from Qe rfl),Qg (show Qb 3 l t=some (.int (i:Int),t)from Qe rfl),Qg (gi (i:=i) g2 (by simpa using hi))];rfl
  have l3:f.length=w.length+3:=by show((q++[_,_,_]).set wl _).length=_;simp;lia
  have q1:q[wl+1]?=some (.lst (H.map hS)):=gs ⋯ Y.hs;have q2:f[wl+1]?=some (.lst (H.map hS)):=gs ⋯ (zG q1)
  let u:Hs:=f++[bV d d.key 0 (.lst [])]
  have nd:Xq [(eC (.str "deed"),Qb 6),(eC (.str "from"),Qi aA (Qb 6) (eC (.int 1))),(eC (.str "moments"),eC (.int 0)),(eC (.str "answer"),Ye (Ql))] l f=some (.ref f.length,u):=by
    have k1:Qi aA (Qb 6) (eC (.int 1)) l f=some (.int d.key,f):=Qh (x:=Q9 d) (Qe rfl) rfl (by cases d<;>exact Zm (i:=1) rfl f)
    unfold Xq d9 d9 d9 d9 d9;simp only[bind_assoc];rw[Qg (show eC (.str "deed") l f=some (.str "deed", f)from rfl),Qg (show JR (.str "deed") f=some (.inr "deed", f)from rfl),Qg (show Qb 6 l f=some (Q9 d,f)from Qe rfl),Qg (show eC (.str "from") l f=some (.str "from", f)from rfl),Qg (show JR (.str "from") f=some (.inr "from", f)from rfl),Qg k1];rfl
  have q4:u[wl+1]?=some (.lst (H.map hS)):=zG q2
  let y:Hs:=u.set (wl+1) (.lst ((H.map hS).set i (.ref f.length)))
  have s4:Jw (Xq [(eC (.str "deed"),Qb 6),(eC (.str "from"),Qi aA (Qb 6) (eC (.int 1))),(eC (.str "moments"),eC (.int 0)),(eC (.str "answer"),Ye (Ql))]) (bB (Qb 2) (Qb 3)) l f=some ((.nx,l),y):=by refine jr nd ?_;unfold bB;rw[Qg (show Qb 2 l u=some (.ref (wl+1),u)from Qe rfl),Qg (show Qb 3 l u=some (.int (i:Int),u)from Qe rfl),Qg (gi (i:=i) q4 (by simpa using hi))];rfl
  have s5:QF (Qs 3 Qw (Qc (Qb 4) (Qc (eC (.int 10139)) (Qc (eC (.int 2)) (Ql))))) l y=some ((.rt (.int m),l),y):=QL (QY (Z5 (Qe rfl) rfl rfl) rfl (p2 _));have up:∀{j:Nat}{o:OV},j≠wl->j≠wl+1->t[j]?=some o->y[j]?=some o:=λ{j o} n0 O e=>by have I:f[j]?=some o:=gs (Ne.symm n0) e;exact gs (Ne.symm O) (zG I)
  have P:∀(k:Nat)(o:OV),[cN 1 (w.length+1) (w.length+2) (TR.fresh d),OV.aB [],OV.lst []][k]?=some o->t[w.length+k]?=some o:=λk o h=>by show(q++_)[w.length+k]?=_;rw[Aq ⋯,X,Nat.add_sub_cancel_left];exact h
  have b3:y[w.length+3]?=some (bV d d.key 0 (.lst [])):=by refine gs ⋯ ?_;show(f++[_])[w.length+3]?=_;rw[<- l3];exact List.getElem?_concat_length ..
  have Y':=HG Y hi hd d RJ (w':=y) L (λj hj n0 O n2=>by
    show((((q++_).set wl _)++[_]).set (wl+1) _)[j]?=_;rw[QV _ _ _ _ (Ne.symm O),Ah (by simp;lia),QV _ _ _ _ (Ne.symm n0),Ah ⋯];exact QV _ _ _ _ (Ne.symm n2)) (by
    refine gs ⋯ ?_;have I:f[wl]?=some (.lst ((H.map hD).set i (.ref q.length))):=eV g2;rw[Ah (Zw I),I,X,List.map_set];rfl) (by
    show(u.set (wl+1) _)[wl+1]?=_;rw[eV q4,l3,List.map_set];rfl) (up ⋯ ⋯ ((Ah (by show wl+2<q.length;lia)).trans (eV Y.he))) (up ⋯ ⋯ (P 0 _ rfl)) (up ⋯ ⋯ (P 1 _ rfl)) (up ⋯ ⋯ (P 2 _ rfl)) b3
  exact⟨y,_,_,r,m,QI (env:=l) (Qr s1 (Qr s2 (Qr s3 (Qr s4 s5)))),Y',by simp,⟨w.length,Au hi⟩,el,m0,⋯⟩
end
theorem T7{f a b e4 c e:aF}(h1:f env U=some (v1,U))(h2:a env U=some (v2,U))(h3:b env U=some (v3,U))(h4:e4 env U=some (v4,U))(h5:c env U=some (v5,U))(h:e env U=some (v6,U)):Qc f (Qc a (Qc b (Qc e4 (Qc c (Qc e Ql))))) env U=some ([v1,v2,v3,v4,v5,v6],U):=by
 have r:=VT h3 h4 h5 h;show(do let x <- f env;let xs <- Qc a (Qc b (Qc e4 (Qc c (Qc e Ql)))) env;pure (x::xs)) U=_;rw[Qg h1];show((do let x <- a env;let xs <- Qc b (Qc e4 (Qc c (Qc e Ql))) env;pure (x::xs)) >>= λxs=>pure (v1::xs)) U=_;have:(do let x <- a env;let xs <- Qc b (Qc e4 (Qc c (Qc e Ql))) env;pure (x::xs)) U=some ([v2,v3,v4,v5,v6],U):=by rw[Qg h2,Qg r];rfl
 rw[Qg this];rfl
section
variable{w:Hs}{wl:Nat}{S:TR.Sh}{bg:TR.Bg}{H:List (Option Nat)}{ws:List TR.Wk}{b:Nat->Nat}{G n:Nat}{F:Ev}{Es:List (Nat×DV)}
def eL(wl:Nat)(c e e4 f h a i:Sl):En:=[c,e,.val (.ref 0),.val (.ref 1),e4,.val (.ref wl),.val (.ref (wl+1)),.val (.ref (wl+2)),f,h,a,i]
theorem Ln{N:Nat}(Y:Sys w wl S bg H ws (λ_=>N) G F n Es){i a m:Nat}(hi:H[i]?=some (some a))(hm:m<=5)(hN:N+5<880)(hG:G<1000)(hn:n+5<9000)(u x e4 y C:Sl):∃w' h l c f z,Mw (eL wl u x e4 y (.val (.int (i:Int))) (.val (.int (m:Int))) C) w=some ((.nx,eL wl u x e4 y (.val (.int (i:Int))) (.val (.int (m:Int))) z),w')/\Sys w' wl h l H c (λ_=>N+5) G f (n+5) Es:=by
  let E:Sl->En:=λz=>eL wl u x e4 y (.val (.int (i:Int))) (.val (.int (m:Int))) z
  have M:WP (zk (λd env=>do let env' <- gN 11 d env;Lb env') (Zt 0 m) (E C)) w λq w'=>∃h l c f z,q=(.nx,E z)/\Sys w' wl h l H c (λ_=>N+m) G f (n+m) Es:=by
    refine GF (λj env w'=>∃h l c f z,env=E z/\Sys w' wl h l H c (λ_=>N+j) G f (n+j) Es) _ ⟨S,bg,ws,F,C,rfl,Y⟩ (λj d0 J env w' zz=>?_) (λenv w' zz=>by obtain⟨h,l,c,f,z,e,o⟩:=zz;exact⟨h,l,c,f,z,by rw[e],by rw[Jl]at o;exact o⟩);obtain⟨h,l,c,f,z,rfl,o⟩:=zz;obtain⟨hj,I⟩:=jq J;subst I;obtain⟨v,U,L,_⟩:=o.ob i a hi
    let t:En:=E (.val (.int (j:Int)))
    have O:Qi aA (Qb 5) (Qb 9) t w'=some (.ref a,w'):=Qh (Qe rfl) (Qe rfl) (XO (i:=i) o.hw (by rw[Bu,hi];rfl));have sk:Qi aA (Qb 6) (Qb 9) t w'=some (.ref (a+3),w'):=Qh (Qe rfl) (Qe rfl) (XO (i:=i) o.hs (by rw[Bu,hi];rfl));have r:eB (Qz "Walk" "over" 1 Zi (Qi aA (Qb 5) (Qb 9)) Ql) t w'=some (v.O7,w'):=QR (QZ O L (qX ..) JQ rfl (jo L));cases he:v.O7 with
    |true=>rw[he]at r;exact WP.of (Za (j6 (Jp (b:=true) r))) ⟨h,l,c,f,_,rfl,o.mono (λ_=>by show N+j<=N+(j+1);lia) ⋯ (Ae _)⟩
    |false=>rw[he]at r;obtain⟨w2,Q,X,iQ,P,es,R,_⟩:=gQ o hi U he (by show N+j<880;lia) hG ⋯;refine WP.of (Za ((yB (Jp (b:=false) r)).trans (Jp (b:=true) (QR (QY (VT (Qe rfl) O sk (Qe rfl)) rfl es))))) ⟨Q,X,iQ,P,_,rfl,R.mono (λk=>?_) ⋯ (Ae _)⟩;show(if k=i then N+j+1 else N+j)<=N+(j+1);split<;>lia
  obtain⟨q,w',eM,h,l,c,f,z,rfl,o⟩:=M;exact⟨w',h,l,c,f,z,qj (YE (m:=m) (Jd (Qe rfl)) ⋯) eM,o.mono (λ_=>⋯) ⋯ (Ae _)⟩
theorem BT{N:Nat}(Y:Sys w wl S bg H ws (λ_=>N) G F n Es)(hH:0<H.length)(av:H.length<=8)(hN:N+5<880)(hG:G+1<1000)(hn:n+5<9000)(hE:Es.length<900)(c:Int)(l o e9 f I:Sl):∃w' S' U H' j F' x z9 r dG,VJ (eL wl l o (.val (.int (H.length:Nat))) (.val (.int c)) e9 f I) w=some ((.nx,eL wl l o (.val (.int (H.length:Nat))) (.val (.int c)) z9 r dG),w')/\Sys w' wl S' U H' j (λ_=>N+5) (G+1) F' (n+5) x/\H'.length=H.length/\x.length<=Es.length+1:=by
  have pk:=Ze (Jh c 10111 H.length (by decide) (by decide) ⋯);obtain⟨i,hi⟩:=Us (Xu c 10111 H.length ⋯);have ab:=Yg c 10111 H.length ⋯;rw[hi]at pk ab;have mV:i<H.length:=⋯
  have p5:=Ze (Jh c 10133 5 (by decide) (by decide) (by decide));obtain⟨m,hm⟩:=Us (Xu c 10133 5 (by decide));have ml:=Yg c 10133 5 (by decide);rw[hm]at p5 ml
  let E:Sl->Sl->En:=λz9 r=>eL wl l o (.val (.int (H.length:Nat))) (.val (.int c)) z9 r I
  have s1:QD 9 (Qs 3 Qw (Qc (Qb 8) (Qc (eC (.int 10111)) (Qc (Qb 4) (Ql))))) (E e9 f) w=some ((.nx,E (.val (.int (i:Int))) f),w):=QS (QY (Z5 (Qe rfl) rfl (Qe rfl)) rfl (pk _));have s2:QD 10 (Qi ZE (eC (.int 1)) (Qs 3 Qw (Qc (Qb 8) (Qc (eC (.int 10133)) (Qc (eC (.int 5)) (Ql)))))) (E (.val (.int (i:Int))) f) w=some ((.nx,E (.val (.int (i:Int))) (.val (.int ((1+m:Nat):Int)))),w):=QS (Qh rfl (QY (Z5 (Qe rfl) rfl rfl) rfl (p5 _)) (by show some (DV.int (1+(m:Int)),w)=_;rw[show(1+(m:Int))=((1+m:Nat):Int)by lia]))
  let C:En:=E (.val (.int (i:Int))) (.val (.int ((1+m:Nat):Int)))
  have y:Qi aA (Qb 5) (Qb 9) C w=some (hD H[i],w):=Qh (Qe rfl) (Qe rfl) (XO (i:=i) Y.hw (by rw[Bu,Ab mV];rfl));have gH:H[i]?=some H[i]:=Ab mV;have made:(∀v,ws[i]?=some v->v.O7=true)->cA (eB (Qi isD (Qi aA (Qb 5) (Qb 9)) (eC .non))) (eB (Qz "Walk" "over" 1 Zi (Qi aA (Qb 5) (Qb 9)) Ql)) C w=some (true,w)->∃w' S' U H' j F' x z9 r dG,VJ (E e9 f) w=some ((.nx,eL wl l o (.val (.int (H.length:Nat))) (.val (.int c)) z9 r dG),w')/\Sys w' wl S' U H' j (λ_=>N+5) (G+1) F' (n+5) x/\H'.length=H.length/\x.length<=Es.length+1:=λhd t=>by
    obtain⟨w1,H1,Nf,O,q,e,Y1,ae,⟨a,J⟩,el,q0,q1⟩:=Wn Y mV hd hE c;have mm:=Ze (xf ((1+m:Nat):Int) q ⋯ ⋯);obtain⟨L,Rb,lq⟩:∃L:Nat,((1+m:Nat):Int) * q=(L:Int)/\L<=5:=by
      rcases(by lia:q=0∨q=1)with h|h
      . exact⟨0,by rw[h];simp,⋯⟩
      . exact⟨1+m,by rw[h];simp,⋯⟩
    have s3:QD 10 (Qi qh (Qb 10) (Qs 6 zZ (Qc (Qb 3) (Qc (Qb 5) (Qc (Qb 6) (Qc (Qb 9) (Qc (Qb 8) (Qc (Qb 7) (Ql))))))))) C w=some ((.nx,E (.val (.int (i:Int))) (.val (.int (L:Int)))),w1):=QS (Qh (Qe rfl) (QY (T7 (Qe rfl) (Qe rfl) (Qe rfl) (Qe rfl) (Qe rfl) (Qe rfl)) rfl e) ((mm w1).trans (by rw[Rb])));obtain⟨w2,Q,X,iQ,P,z,wu,R⟩:=Ln Y1 J lq hN ⋯ hn l o (.val (.int (H.length:Nat))) (.val (.int c)) I;exact⟨w2,Q,X,H1,iQ,P,O,_,_,_,Qr s1 (Qr s2 (Qr (ZP t s3) wu)),R,ae,el⟩
  cases hx:H[i]with
  |none=>rw[hx]at y;exact made (λv hv=>Y.no i v (by rw[gH,hx]) hv) (Fe (QR (b:=true) (Qh y rfl rfl)))
  |some a =>
    rw[hx]at y;have J:H[i]?=some (some a):=by rw[gH,hx]
    obtain⟨v,v1,v2,_⟩:=Y.ob i a J;have t:cA (eB (Qi isD (Qi aA (Qb 5) (Qb 9)) (eC .non))) (eB (Qz "Walk" "over" 1 Zi (Qi aA (Qb 5) (Qb 9)) Ql)) C w=some (v.O7,w):=(Uc (QR (b:=false) (Qh y rfl rfl))).trans (QR (QZ y v2 (qX ..) JQ rfl (jo v2)));cases he:v.O7 with
    |true=>rw[he]at t;exact made (λu hu=>by rw[v1]at hu;cases hu;exact he) t
    |false=>rw[he]at t;obtain⟨w2,Q,X,iQ,P,z,wu,R⟩:=Ln Y J (m:=1+m) ⋯ hN ⋯ hn l o (.val (.int (H.length:Nat))) (.val (.int c)) I;exact⟨w2,Q,X,H,iQ,P,Es,_,_,_,Qr s1 (Qr s2 (Qr (Za t) wu)),R.mono (λ_=>Ae _) (Ae _) ⋯,rfl,⋯⟩
end
section
variable{w:Hs}{wl:Nat}{S:TR.Sh}{bg:TR.Bg}{H:List (Option Nat)}{ws:List TR.Wk}{b:Nat->Nat}{G n:Nat}{F:Ev}{Es:List (Nat×DV)}
def iK(ws:List TR.Wk)(i:Nat):Bool:=match ws[i]? with
 |some v=>!v.O7
 |none=>false
def dH(ws:List TR.Wk):DV->Bool
 |.int k=>iK ws k.toNat
 |_=>false
abbrev eE(wl:Nat)(z4 z5 z6:Sl):En:=[.val (.ref 1),.val (.ref wl),.val (.ref (wl+1)),.val (.ref 0),z4,z5,z6]
theorem Sys.some_at(Y:Sys w wl S bg H ws b G F n Es){i:Nat}{v:TR.Wk}(c:ws[i]?=some v)(he:v.O7=false):∃a,H[i]?=some (some a):=by
 have hi:i<H.length:=by rw[Y.len];exact Zw c
 cases hx:H[i]with
 |none=>rw[Y.no i v (by rw[Ab hi,hx]) c]at he;cases he
 |some a=>exact⟨a,by rw[Ab hi,hx]⟩
abbrev nD(i:Nat):DV:=.int (i:Int)
def eZ(H:List (Option Nat))(ws:List TR.Wk):List Nat:=(List.range H.length).filter (iK ws)
theorem DJ(Y:Sys w wl S bg H ws b G F n Es)(C:H.length<=8)(z4 z5 z6:Sl):JA (eE wl z4 z5 z6) w=some (.lst ((eZ H ws).map nD),w):=by
  have l:=KW (U:=w) (t:=λd=>J1 (eB (Qi qK (Qi aA (Qb 1) (Qb 0)) (eC .non))) (Jk (eB (Qz "Walk" "over" 1 Zi (Qi aA (Qb 1) (Qb 0)) Ql))) (cE [1] (eE wl z4 z5 z6) d)) (f:=λd=>Qb 0 (cE [1] (eE wl z4 z5 z6) d)) (p:=dH ws) (Zt 0 H.length) (λd hd=>by
    obtain⟨i,hi⟩:=Bw.mp hd;obtain⟨h,rfl⟩:=jq hi;have c:Qi aA (Qb 1) (Qb 0) (cE [1] (eE wl z4 z5 z6) (.int (i:Int))) w=some (hD H[i],w):=Qh (x:=.ref wl) (y:=.int (i:Int)) (Qe rfl) (Qe rfl) (XO (i:=i) Y.hw (by rw[Bu,Ab h];rfl));have o:H[i]?=some H[i]:=Ab h;have u:dH ws (.int (i:Int))=iK ws i:=by show iK ws ((i:Int).toNat)=_;rw[B7]
    rw[u];cases hx:H[i]with
    |none =>
      rw[hx]at c;have q:i<ws.length:=by rw[<- Y.len];exact h
      have e:iK ws i=false:=by unfold iK;rw[Ab q];simp[Y.no i _ (by rw[o,hx]) (Ab q)]
      rw[e];exact j6 (QR (b:=false) (Qh c rfl rfl))
    |some a =>
      rw[hx]at c;obtain⟨v,z,r,_⟩:=Y.ob i a (by rw[o,hx]);have e:iK ws i=!v.O7:=by unfold iK;rw[z]
      rw[e];exact(yB (QR (b:=true) (Qh c rfl rfl))).trans (Jp (QR (QZ c r (qX ..) JQ rfl (jo r))))) (λd _=>rfl) (by rw[Jl];lia)
  have e:(Zt 0 H.length).filter (dH ws)=(eZ H ws).map nD:=by unfold Zt eZ;rw[List.filter_map];refine congr (congrArg List.map (funext λi=>by rw[Int.zero_add])) (List.filter_congr λi _=>?_);show iK ws ((0+(i:Int)).toNat)=_;rw[Int.zero_add,B7]
  rw[e]at l;have j:eG (zN (Qc (ZO Yw (Qc (Qb 1) (Ql))) (Ql))) (eE wl z4 z5 z6) w=some (bW (Zt 0 H.length),w):=vP (YE (m:=H.length) (Jd ((jX (Jd (Qe rfl)) (QdJ Y.hw)).trans (by rw[Br]))) ⋯);unfold JA ZR;rw[Qg j,Qg (show Z6 _ _ _ lim 0 w=_ from l)];rfl
theorem G1{i:Nat}(Y:Sys w wl S bg H ws b G F n Es):i∈eZ H ws↔∃v,ws[i]?=some v/\v.O7=false:=by
 unfold eZ;rw[Bm,Ch];constructor
 ·intro h;have h2:=h.2;unfold iK at h2;cases a:ws[i]? with
  |none=>rw[a]at h2;cases h2
  |some v=>rw[a]at h2;exact⟨v,rfl,by simpa using h2⟩
 ·intro h;obtain⟨v,a,he⟩:=h;refine⟨by rw[Y.len];exact Zw a,?_⟩;unfold iK;rw[a];simp[he]
theorem Ng{b:Nat->Nat}(L:List Nat)(i:Nat)(j:Nat)(h:j∉L):(λk=>if k∈L++[j]then b k+1 else b k) i=up (λk=>if k∈L then b k+1 else b k) j i:=by
 unfold up;by_cases e:i=j
 ·subst e;simp[h]
 ·simp[e]
theorem RK{t:Nat->Nat}(L:List Nat)(i:Nat)(j:Nat)(h:j∉L):(λk=>if k∈L++[j]then t k-1 else t k) i=dn (λk=>if k∈L then t k-1 else t k) j i:=by
 unfold dn;by_cases e:i=j
 ·subst e;simp[h]
 ·simp[e]
theorem Wd(Y:Sys w wl S bg H ws b G F n Es){t:Nat->Nat}(R:TR.dJ S bg ws t)(hb:∀i,b i<880)(hG:G<1000)(hH:H.length<=8)(hn:n+8<9000)(z4 z6:Sl):
  ∃w' l m c o BK,Yo (eE wl z4 (.val (.lst ((eZ H ws).map nD))) z6) w=some ((.nx,eE wl z4 (.val (.lst ((eZ H ws).map nD))) BK),w')/\Sys w' wl l m H c (λi=>b i+1) G o (n+8) Es/\TR.dJ l m c (λi=>t i-1):=by
 have mem:=λi=>G1 (i:=i) Y;have nd:(eZ H ws).Nodup:=List.Pairwise.filter _ List.nodup_range;have hl:(eZ H ws).length<=8:=by have:=Cb (iK ws) (List.range H.length);rw[List.length_range]at this;unfold eZ;lia
 generalize eZ H ws=L at mem nd hl
 let E:Sl->En:=λz=>eE wl z4 (.val (.lst (L.map nD))) z
 have M:WP (xL (bW (L.map nD)) (λd env=>do let env' <- gN 6 d env;Yu env') 100000 0 (E z6)) w λq w'=>∃l m c o z,q=(.nx,E z)/\Sys w' wl l m H c (λk=>if k∈L then b k+1 else b k) G o (n+L.length) Es/\TR.dJ l m c (λk=>if k∈L then t k-1 else t k)/\(∀i,i∉L->c[i]?=ws[i]?):=by
  refine VS _ (λj env w'=>∃l m c o z,env=E z/\Sys w' wl l m H c (λk=>if k∈L.take j then b k+1 else b k) G o (n+j) Es/\TR.dJ l m c (λk=>if k∈L.take j then t k-1 else t k)/\(∀i,i∉L.take j->c[i]?=ws[i]?)) (by simp;lia) ⟨S,bg,ws,F,z6,rfl,by simpa using Y,by simpa using R,λ_ _=>rfl⟩ (λj d hd env w' zz=>?_) (λenv w' zz=>by obtain⟨l,m,c,o,z,e,r,u,o'⟩:=zz;rw[Br,List.take_length]at r u o';exact⟨l,m,c,o,z,by rw[e],r,u,o'⟩)
  obtain⟨l,m,c,o,z,rfl,r,u,o'⟩:=zz;rw[Bu]at hd;obtain⟨p,C,rfl⟩:=Cg.mp hd;have jl:j<L.length:=Zw C;have I:p∉L.take j:=λhm=>by
   obtain⟨i,hi⟩:=Bw.mp hm;have il:i<j:=by have:=Zw hi;rw[A9]at this;lia
   rw[Ca il]at hi;have:=(List.getElem?_inj (Zw hi) nd).mp (hi.trans C.symm);lia
  have O:L.take (j+1)=L.take j++[p]:=by rw[List.take_add_one,C];rfl
  obtain⟨v,x,he⟩:=(mem p).mp (Aw C);have y:c[p]?=some v:=by rw[o' p I];exact x
  obtain⟨a,J⟩:=r.some_at y he;obtain⟨w2,U,dF,iQ,Q,es,X,o2,L2,_⟩:=gQ r J y he (by show(if p∈L.take j then b p+1 else b p)<880;rw[Ea I];exact hb _) hG ⋯
  let P:En:=E (.val (.int (p:Int)))
  have wk:Qi aA (Qb 1) (Qb 6) P w'=some (.ref a,w'):=Qh (Qe rfl) (Qe rfl) (XO (i:=p) r.hw (by rw[Bu,J];rfl));have sk:Qi aA (Qb 2) (Qb 6) P w'=some (.ref (a+3),w'):=Qh (Qe rfl) (Qe rfl) (XO (i:=p) r.hs (by rw[Bu,J];rfl));refine WP.of (Za (Jp (b:=true) (QR (QY (VT (Qe rfl) wk sk (Qe rfl)) rfl es)))) ⟨U,dF,iQ,Q,_,rfl,?_,?_,λi hi=>?_⟩
  ·refine X.mono (λi=>Nat.le_of_eq ?_) (Ae _) (Ae _);rw[O];exact(Ng _ i _ I).symm
  ·have e:=L2 _ u;have f:dn (λk=>if k∈L.take j then t k-1 else t k) p=(λk=>if k∈L.take (j+1)then t k-1 else t k):=funext λi=>by rw[O];exact(RK _ i _ I).symm
   rw[f]at e;exact e
  ·rw[O]at hi;have h1:i∉L.take j:=λh=>hi (A7 _ h);have h2:i≠p:=λh=>hi (Aj _ (by simp[h]));rw[o2 i h2,o' i h1]
 obtain⟨q,w',eM,l,m,c,o,z,rfl,r,u,o'⟩:=M;refine⟨w',l,m,c,o,z,xh (Kk (hp1:=w) (Qe rfl)) eM,r.mono (λi=>?_) ⋯ (Ae _),λi v x he=>?_⟩
 ·show(if i∈L then b i+1 else b i)<=b i+1;split<;>lia
 ·have hi:i∈L:=by
   rcases Classical.em (i∈L)with h|h
   ·exact h
   ·rw[o' i h]at x;exact(mem i).mpr ⟨v,x,he⟩
  have:=u i v x he;simp only[Eb hi]at this;exact this
theorem WR{N:Nat}(Y:Sys w wl S bg H ws (λ_=>N) G F n Es)(hN:N+2 * S.pg.length+3 * H.length+2<879)(hG:G<1000)(O:H.length<=8)(hn:n+8 * (2 * S.pg.length+3 * H.length+3)<9000):
    ∃w' c f a r h o,JV [.ref 1,.ref wl,.ref (wl+1),.ref 0] w=some (.bl true,w')/\Sys w' wl c f H a r G h o Es/\o<9000/\∀(i:Nat)(v:TR.Wk),a[i]?=some v->v.O7=true:=by
  have pg:=Y.pages;obtain⟨l,Rx⟩:∃l,l=2 * S.pg.length+3 * H.length+2:=⟨_,rfl⟩;have X:TR.dJ S bg ws (λ_=>l):=by have:=TR.dJ.first Y.T Y.K (TR.Tree.levels Y.T) ws;rw[<- Y.len,<- Rx]at this;exact this
  have m4:=Ze (xf 4 (S.pg.length:Int) (by decide) (by decide));have rg:zN (Qc (Qi ZE (Qi qh (eC (.int 4)) (Qz "Shelf" "pages" 1 Jj (Qb 0) Ql)) (eC (.int 40))) Ql) (eE wl .un .un .un) w=some (Zt 0 (4 * S.pg.length+40),w):=YE (m:=4 * S.pg.length+40) (Jd (Qh (Qh rfl ((QZ (Qe rfl) Y.h1 (zV ..) JQ rfl (Ux Y.h1 Y.h2)).trans (by rw[Br])) (m4 _)) rfl (by show some (DV.int _,w)=_;congr 3))) ⋯;have M:WP (zk (λd env=>do let env' <- gN 4 d env;Yv env') (Zt 0 (4 * S.pg.length+40)) (eE wl .un .un .un)) w λq w'=>∃c f a r h o,q.1=.rt (.bl true)/\Sys w' wl c f H a r G h o Es/\o<9000/\∀(i:Nat)(v:TR.Wk),a[i]?=some v->v.O7=true:=by
    refine GF (λk env w'=>∃c f a h z4 z5 z6,env=eE wl z4 z5 z6/\k<=l/\Sys w' wl c f H a (λ_=>N+k) G h (n+8 * k) Es/\TR.dJ c f a (λ_=>l-k)) _ ⟨S,bg,ws,F,_,_,_,rfl,Be _,Y,X⟩ (λk d0 C env w' zz=>?_) (λenv w' zz=>by obtain⟨c,f,a,h,z4,z5,z6,e,P,_⟩:=zz;rw[Jl]at P;lia)
    obtain⟨c,f,a,h,z4,z5,z6,rfl,P,j,L⟩:=zz;obtain⟨hj,z⟩:=jq C;subst z;have J:QD 5 JA (eE wl (.val (.int (k:Int))) z5 z6) w'=some ((.nx,eE wl (.val (.int (k:Int))) (.val (.lst ((eZ H a).map nD))) z6),w'):=QS (DJ j O _ _ _);have u:eB (Qi o7 (Qb 5) (Ye Ql)) (eE wl (.val (.int (k:Int))) (.val (.lst ((eZ H a).map nD))) z6) w'=some (((eZ H a).map nD).isEmpty,w'):=QR (Qh (x:=.lst ((eZ H a).map nD)) (y:=.lst []) (Qe rfl) rfl rfl);cases t:eZ H a with
    |nil =>
      rw[t]at u J;refine WP.of (Qr J (Q2 (ZP u (QL (d:=.bl true) rfl)))) ⟨c,f,a,_,h,_,rfl,j,⋯,λi v hv=>?_⟩;cases he:v.O7 with
      |true=>rfl
      |false=>have:=(G1 (i:=i) j).mpr ⟨v,hv,he⟩;rw[t]at this;cases this
    |cons p0 L1 =>
      obtain⟨v0,Q,R⟩:=(G1 (i:=p0) j).mp (by rw[t];simp);have ps:=L.pos j.T j.K (j.A.ok _ _ Q R) Q R;obtain⟨w2,S2,dF,iQ,U,BK,eT,Y2,L2⟩:=Wd j L (λi=>by show N+k<880;lia) hG O ⋯ (.val (.int (k:Int))) z6;have tf:((eZ H a).map nD).isEmpty=false:=by rw[t];rfl
      rw[tf]at u;refine WP.of (Qr J (Qr (Za u) eT)) ⟨S2,dF,iQ,U,_,_,_,rfl,⋯,?_,?_⟩
      . rw[show N+(k+1)=N+k+1 by lia,show n+8 * (k+1)=n+8 * k+8 by lia];exact Y2
      . rw[show l-(k+1)=l-k-1 by lia];exact L2
  obtain⟨⟨fl,env⟩,w',eM,c,f,a,r,h,o,hf,j,I,al⟩:=M;simp only at hf;subst hf;exact⟨w',c,f,a,r,h,o,QI (env:=env) (Q2 (qj rg eM)),j,I,al⟩
end
structure Inv(w:Hs)(S:TR.Sh)(bg:TR.Bg)(F:Ev)(kvs:List (Key×DV))(z:Zs)(N:Nat):Prop where
 T:TR.Tree S bg
 D:∀s,s<S.pg.length->s≠S.top->TR.Kd S s
 K:TR.Fk S
 Z:TR.Zero S bg
 tab:TR.aW S F
 rm:S.O2<=50
 cnt:TR.Xk S 0<=N+1
 h0:w[0]?=some (.aB kvs)
 h1:w[1]?=some (.ins "Shelf" (aN S.O2 2 S.top S.rd S.wr))
 h2:w[2]?=some (.lst (S.pg.map aJ))
 tb:Tb kvs z F
 zl:kvs.length<=N
section
variable{w:Hs}{S:TR.Sh}{bg:TR.Bg}{F:Ev}{kvs:List (Key×DV)}{z:Zs}{N:Nat}
theorem Inv.done(I:Inv w S bg F kvs z N)(U:N<200)(k y:Int):∃x w' f l,qA [.ref 1,Q9 (.put k y)] w=some (x,w')/\w.length<=w'.length/\(∀i,i<w.length->i≠1->i≠2->w'[i]?=w[i]?)/\∀a e,Tb a e (TR.yZ F k y)->a.length<=N+1->Inv (w'.set 0 (.aB a)) f l (TR.yZ F k y) a e (N+1):=by
 have pg:=TR.xU I.T I.K;have rm:=I.rm;have cn:=I.cnt;have P:2<w.length:=Zw I.h2
 let d:TR.bH:=.put k y
 have D:dN 1 2 w.length (w.length+1) (w.length+2):=⟨by decide,⋯,⋯,⋯,⋯,⋯,⋯,⋯,⋯,⋯⟩
 let b:=w++[cN 1 (w.length+1) (w.length+2) (TR.fresh d),.aB [],.lst []]
 have q:∀(j:Nat)(o:OV),[cN 1 (w.length+1) (w.length+2) (TR.fresh d),OV.aB [],OV.lst []][j]?=some o->b[w.length+j]?=some o:=λj o h=>by show(w++_)[w.length+j]?=_;rw[Aq ⋯,Nat.add_sub_cancel_left];exact h
 have v:At b 1 2 w.length (w.length+1) (w.length+2) S (TR.fresh d):=⟨(Ah ⋯).trans I.h1,(Ah P).trans I.h2,q 0 _ rfl,q 1 _ rfl,q 2 _ rfl⟩;have C:TR.Al S bg F (TR.fresh d):=⟨I.T,I.K,I.tab,λn h1 h2=>.inl (I.D n h1 h2),λ_=>rfl,λ_=>TR.aM.fresh rfl rfl rfl,λ_ h=>absurd h (by show ¬ 0<0;lia)⟩;have z1:TR.zc [TR.fresh d]=1:=rfl;obtain⟨w',e,f,l,X,eM,u,r,c,he,g,Q,R⟩:=R7 (dv:=Q9 d) (G:=TR.yZ F k y) D (2 * S.pg.length+5) 0 .un C (TR.dJ.first I.T I.K (TR.Tree.levels I.T) [TR.fresh d]) (Ae _) rfl (λ_ _=>rfl) (λh=>h.elim (λh=>by cases h) λh=>absurd h (by show ¬ 0<0;lia)) rm v ⋯ (Ae _) (Ae _) ⋯;have wl:=r.1;have wl:w.length+3<=w'.length:=by rw[show b.length=w.length+3 by simp[b]]at wl;exact wl
 have mk:QD 2 (J6 "Walk" 3 ZL (Qc (Qb 0) (Qc (Qb 1) Ql))) [.val (.ref 1),.val (Q9 d),.un,.un] w=some ((.nx,[.val (.ref 1),.val (Q9 d),.val (.ref w.length),.un]),b):=QS (kj (ZM (Qe rfl) (Qe rfl)));rw[List.drop_zero]at eM;refine⟨.ref w.length,w',f,l,QI (Qr mk (Q2 (qj (YE (m:=1000) (Jd rfl) ⋯) eM))),⋯,λi hi J L=>?_,λa e t O=>⟨c.tree,c.lg (.inr he),c.fk,I.Z.grow g,c.tab,⋯,⋯,Zl _ _ _ (by rw[Ab ⋯];rfl),(QV _ _ _ _ (by decide)).trans u.h1,(QV _ _ _ _ (by decide)).trans u.h2,t,O⟩⟩;rw[r.2 i (by simp[b];lia) J L ⋯ ⋯ ⋯];exact Ah hi
end
theorem S_(r:Nat)(h:2<=r)(h':r<=50):Inv [.aB [],.ins "Shelf" (aN r 2 0 0 0),.lst [emp]] ⟨r,[⟨0,[],[],none,none⟩],0,0,0⟩ (λ_=>none) (λ_=>none) [] [] 0:=by
 have one:∀(n:Nat)(p:TR.Pg),([⟨0,[],[],none,none⟩]:List TR.Pg)[n]?=some p->n=0/\p=⟨0,[],[],none,none⟩:=λn p U=>by
  match n,U with
  |0,U=>cases U;exact⟨rfl,rfl⟩
  |n+1,U=>simp at U
 refine⟨QeM r h,λs h1 h2=>?_,λn p U h0=>?_,⟨rfl,_,rfl,rfl⟩,λk v=>⟨λq=>(by cases q),λ⟨n,p,U,_,m⟩=>?_⟩,h',?_,rfl,rfl,rfl,⟨List.Perm.refl _,List.Pairwise.nil,λk v=>⟨λq=>(by cases q),λq=>(by cases q)⟩⟩,Ae _⟩
 ·have h1:s<1:=h1;have h2:s≠0:=h2;lia
 ·rw[(one n p U).2]at h0;exact absurd h0 (by decide)
 ·rw[(one n p U).2]at m;cases m
 ·exact Bj (Cb _ _) (by simp)
theorem QeZ(c:Int):∃S bg F kvs z b,YA [.int c,.ref 0] [.aB []]=some (.ref 1,b)/\Inv b S bg F kvs z 60:=by
 have R:=Ze (Jh c 10079 7 (by decide) (by decide) (by decide));have Q:=Ze (Jh c 10091 2 (by decide) (by decide) (by decide));have J:=Ze (Jh c 10093 25 (by decide) (by decide) (by decide));have X:=Ze (Jh c 10141 8 (by decide) (by decide) (by decide));have O:=Xu c 10079 7 (by decide);have a2:=Yg c 10079 7 (by decide);have j:=Xu c 10091 2 (by decide);have b2:=Yg c 10091 2 (by decide);have P:=Xu c 10093 25 (by decide);have c2:=Yg c 10093 25 (by decide);generalize zo c 10079 7=x at R O a2;generalize zo c 10091 2=y at Q j b2;generalize zo c 10093 25=z at J P c2;generalize zo c 10141 8=u at X;have ae:0<=x * y:=Int.mul_nonneg O j;have av:x * y<=6 * 1:=Int.mul_le_mul ⋯ ⋯ j (by decide);obtain⟨r,hr⟩:=Us (show 0<=2+x * y by lia);have mm:=Ze (xf x y ⋯ ⋯);have i0:ZZ [.ref 1,.int r] [.aB [],.ins "Shelf" []]=some (.non,[.aB [],.ins "Shelf" (aN r 2 0 0 0),.lst [emp]]):=DH r [.aB []];have s1:QD 2 (J6 "Shelf" 2 ZZ (Qc (Qi ZE (eC (.int 2)) (Qi qh (Qs 3 Qw (Qc (Qb 0) (Qc (eC (.int 10079)) (Qc (eC (.int 7)) Ql)))) (Qs 3 Qw (Qc (Qb 0) (Qc (eC (.int 10091)) (Qc (eC (.int 2)) Ql)))))) Ql)) [.val (.int c),.val (.ref 0),.un,.un,.un,.un] [.aB []]=some ((.nx,[.val (.int c),.val (.ref 0),.val (.ref 1),.un,.un,.un]),[.aB [],.ins "Shelf" (aN r 2 0 0 0),.lst [emp]]):=by refine QS ?_;have ar:Qc (Qi ZE (eC (.int 2)) (Qi qh (Qs 3 Qw (Qc (Qb 0) (Qc (eC (.int 10079)) (Qc (eC (.int 7)) Ql)))) (Qs 3 Qw (Qc (Qb 0) (Qc (eC (.int 10091)) (Qc (eC (.int 2)) Ql)))))) Ql [.val (.int c),.val (.ref 0),.un,.un,.un,.un] [.aB []]=some ([.int r],[.aB []]):=Jd (Qh rfl (Qh (QY (Z5 (Qe rfl) rfl rfl) rfl (R _)) (QY (Z5 (Qe rfl) rfl rfl) rfl (Q _)) (mm _)) (by rw[<- hr];rfl));unfold J6;have al:X0 (.ins "Shelf" []) [.aB []]=some (.ref 1,[.aB [],.ins "Shelf" []]):=rfl;have gd:QB (decide ([DV.int r].length+1=2)) [.aB []]=some ((),[.aB []]):=rfl;rw[Qg ar,Qg gd,Qg al,Qg i0];rfl
 obtain⟨m,o,ab⟩:∃m:Nat,(Qq (QD 3 (Qs 3 Qw (Qc (Qb 0) (Qc (eC (.int 10093)) (Qc (eC (.int 25)) Ql))))) (aL (eB (Qi aX (Qs 3 Qw (Qc (Qb 0) (Qc (eC (.int 10141)) (Qc (eC (.int 8)) Ql)))) (eC (.int 3)))) (QD 3 (eC (.int 60))) Q6) [.val (.int c),.val (.ref 0),.val (.ref 1),.un,.un,.un] [.aB [],.ins "Shelf" (aN r 2 0 0 0),.lst [emp]]=some ((.nx,[.val (.int c),.val (.ref 0),.val (.ref 1),.val (.int m),.un,.un]),[.aB [],.ins "Shelf" (aN r 2 0 0 0),.lst [emp]]))/\m<=60:=by
  obtain⟨C,hz⟩:=Us P;have s3:QD 3 (Qs 3 Qw (Qc (Qb 0) (Qc (eC (.int 10093)) (Qc (eC (.int 25)) Ql)))) [.val (.int c),.val (.ref 0),.val (.ref 1),.un,.un,.un] [.aB [],.ins "Shelf" (aN r 2 0 0 0),.lst [emp]]=some ((.nx,[.val (.int c),.val (.ref 0),.val (.ref 1),.val (.int C),.un,.un]),[.aB [],.ins "Shelf" (aN r 2 0 0 0),.lst [emp]]):=QS (QY (Z5 (Qe rfl) rfl rfl) rfl ((J _).trans (by rw[hz])));have t:eB (Qi aX (Qs 3 Qw (Qc (Qb 0) (Qc (eC (.int 10141)) (Qc (eC (.int 8)) Ql)))) (eC (.int 3))) [.val (.int c),.val (.ref 0),.val (.ref 1),.val (.int C),.un,.un] [.aB [],.ins "Shelf" (aN r 2 0 0 0),.lst [emp]]=some (u==3,[.aB [],.ins "Shelf" (aN r 2 0 0 0),.lst [emp]]):=QR (Qh (QY (Z5 (Qe rfl) rfl rfl) rfl (X _)) rfl (wg _ _ _));cases h:(u==3)with
  |true=>rw[h]at t;exact⟨60,Qr s3 (ZP t (QS (d:=.int 60) rfl)),⋯⟩
  |false=>rw[h]at t;exact⟨C,Qr s3 (Za t),⋯⟩
 have M:WP (zk (λd env=>do let env' <- gN 4 d env;jI env') (Zt 0 m) [.val (.int c),.val (.ref 0),.val (.ref 1),.val (.int m),.un,.un]) [.aB [],.ins "Shelf" (aN r 2 0 0 0),.lst [emp]] λq w=>∃z4 z5 S bg F kvs z,q=(.nx,[.val (.int c),.val (.ref 0),.val (.ref 1),.val (.int m),z4,z5])/\Inv w S bg F kvs z m:=by
  refine GF (λi env w=>∃z4 z5 S bg F kvs z,env=[.val (.int c),.val (.ref 0),.val (.ref 1),.val (.int m),z4,z5]/\Inv w S bg F kvs z i) _ ⟨_,_,⟨r,[⟨0,[],[],none,none⟩],0,0,0⟩,_,λ_=>none,[],[],rfl,S_ r ⋯ ⋯⟩ (λi d0 n env w zz=>?_) (λenv w zz=>by obtain⟨z4,z5,S,bg,F,kvs,z,e,I⟩:=zz;exact⟨z4,z5,S,bg,F,kvs,z,by rw[e],by rw[Jl]at I;exact I⟩);obtain⟨z4,z5,S,bg,F,kvs,z,e,I⟩:=zz;subst e;obtain⟨hi,l⟩:=jq n;subst l;have Y:=Ze (Jh (c+7 * (i:Int)) 10099 120 (by decide) (by decide) (by decide));generalize zo (c+7 * (i:Int)) 10099 120=v at Y;have m7:=Ze (xf 7 (i:Int) (by decide) (by decide));obtain⟨x0,w',S',aH,f1,f3,f4,f5⟩:=I.done ⋯ (v-5) i;have l0:0<w.length:=Zw I.h0;have g0:w'[0]?=some (.aB kvs):=(f4 0 l0 (by decide) (by decide)).trans I.h0
  let a:En:=[.val (.int c),.val (.ref 0),.val (.ref 1),.val (.int m),.val (.int (i:Int)),.val (.int (v-5))]
  have t1:QD 5 (Qi KK (Qs 3 Qw (Qc (Qi ZE (Qb 0) (Qi qh (eC (.int 7)) (Qb 4))) (Qc (eC (.int 10099)) (Qc (eC (.int 120)) Ql)))) (eC (.int 5))) [.val (.int c),.val (.ref 0),.val (.ref 1),.val (.int m),.val (.int (i:Int)),z5] w=some ((.nx,a),w):=QS (Qh (QY (Z5 (Qh (Qe rfl) (Qh rfl (Qe rfl) (m7 _)) rfl) rfl rfl) rfl (Y _)) rfl rfl);have t2:ZY (Qs 2 qA (Qc (Qb 2) (Qc (Zk (Qc (eC (.str "put")) (Qc (Qb 5) (Qc (Qb 4) Ql)))) Ql))) a w=some ((.nx,a),w'):=XA (QY (ZM (Qe rfl) (JG (Z5 rfl (Qe rfl) (Qe rfl)) (by simp))) rfl f1);have zl:=I.zl;have t3:Jw (Qb 4) (bB (Qb 1) (Qb 5)) a w'=some ((.nx,a),w'.set 0 (.aB (Ya kvs (.inl (v-5)) (.int (i:Int))))):=by refine jr (Qe rfl) ?_;unfold bB;rw[Qg (Qe rfl),Qg (Qe rfl),Qg (xX (d:=.int (i:Int)) g0 (show YV (.int (v-5))=some (.inl (v-5))from rfl) ⋯)];rfl
  have pl:=ST kvs (.inl (v-5)) (.int (i:Int));exact⟨_,_,Qr t1 (Qr t2 t3),⟨_,_,S',aH,_,_,_,rfl,f5 _ _ (I.tb.put (v-5) i) ⋯⟩⟩
 obtain⟨q,w,eM,z4,z5,S,bg,F,kvs,z,rfl,I⟩:=M;have L:jC [.val (.int c),.val (.ref 0),.val (.ref 1),.val (.int m),.un,.un] [.aB [],.ins "Shelf" (aN r 2 0 0 0),.lst [emp]]=some ((.nx,[.val (.int c),.val (.ref 0),.val (.ref 1),.val (.int m),z4,z5]),w):=qj (YE (m:=m) (Jd (Qe rfl)) ⋯) eM;refine⟨S,bg,F,kvs,z,w,?_,I.T,I.D,I.K,I.Z,I.tab,I.rm,by have:=I.cnt;lia,I.h0,I.h1,I.h2,I.tb,by have:=I.zl;lia⟩;refine QI (env:=[.val (.int c),.val (.ref 0),.val (.ref 1),.val (.int m),z4,z5]) (Qr s1 ?_);have as:∀(f g h:aD)(env:En)(U:Hs),Qq f (Qq g h) env U=Qq (Qq f g) h env U:=λf g h env U=>QcF f g h env U;rw[as];exact Qr o (Qr L (QL (Qe rfl)))
theorem QeH{U:Hs}{n f q a:Nat}{w:TR.Wk}(h:U[a]?=some (cN n f q w))(he:w.O7=true):Jy [.ref a] U=some (.non,U) :=
 QI (env:=[.val (.ref a),.un,.un]) (Q2 (ZP (QR (Zc (Qe rfl) h ((qx ..).trans (by rw[he])))) (QL (d:=.non) rfl)))
def sE(w:Hs)(d:DV):Prop:=∃a v,d=.tup [.ref a,jw v]/\w[a]?=some (cN 1 (a+1) (a+2) v)/\w[a+2]?=some (.lst (aO v.O5))/\v.O7=true
theorem HH{w:Hs}{r t x y:Int}{ds:List DV}(h1:w[1]?=some (.ins "Shelf" (aN r 2 t x y)))(J:ds.length<100000)(h:∀d∈ds,sE w d):∃w',YB [.ref 1,.lst ds] w=some (.bl true,w')/\w.length<=w'.length/\∀j,j<w.length->w'[j]?=w[j]?:=by
  let C:DV:=.tup [.int x,.int y]
  let E:Sl->Sl->En:=λz3 z4=>[.val (.ref 1),.val (.lst ds),.val C,z3,z4]
  have F:∀(env:En) (u:Hs),env[0]?=some (.val (.ref 1))->u[1]?=some (.ins "Shelf" (aN r 2 t x y))->Zk (Qc (Qz "Shelf" "readings" 1 ZH (Qb 0) Ql) (Qc (Qz "Shelf" "writings" 1 ZI (Qb 0) Ql) (Ql))) env u=some (C,u):=λenv u he f=>JG (ZM (QZ (Qe he) f (SD ..) JQ rfl (gj f)) (QZ (Qe he) f (QeA ..) JQ rfl (kn f))) (by simp);have M:WP (xL (bW ds) (λd env=>do let env' <- gT [3,4] d env;jJ env') 100000 0 (E .un .un)) w λq w'=>∃z3 z4,q=(.nx,E z3 z4)/\w.length<=w'.length/\∀j,j<w.length->w'[j]?=w[j]?:=by
    refine VS _ (λ_ env w'=>∃z3 z4,env=E z3 z4/\w.length<=w'.length/\∀j,j<w.length->w'[j]?=w[j]?) J ⟨_,_,rfl,Ae _,λ_ _=>rfl⟩ (λi d hd env w' zz=>?_) (λenv w' zz=>by obtain⟨z3,z4,e,l,oo⟩:=zz;exact⟨z3,z4,by rw[e],l,oo⟩)
    obtain⟨z3,z4,rfl,l,oo⟩:=zz;obtain⟨a,v,rfl,b,Q,he⟩:=h d (Aw hd);have up:∀{j:Nat}{o:OV},w[j]?=some o->w'[j]?=some o:=λ{j o} e=>(oo j (Zw e)).trans e
    let m:En:=E (.val (.ref a)) (.val (jw v))
    have c:=VU (up b) (up Q) he;have key:∃u,Qi dI (Qz "Walk" "answer" 1 Q8 (Qb 3) Ql) (Qb 4) m w'=some (.bl false,u)/\w'.length<=u.length/\∀j,j<w'.length->u[j]?=w'[j]?:=by
      cases hf:v.O0.far with
      |true=>rw[hf,Eb rfl]at c;refine⟨_,Qh (y:=.lst (aO v.O5)) (QZ (Qe rfl) (up b) (js ..) JQ rfl c) (Qe (by show some (Sl.val (jw v))=_;unfold jw;rw[hf,Eb rfl])) (QdS (List.getElem?_concat_length ..) (UD v.O5) (by decide)),by simp,λj z=>Ah z⟩
      |false=>rw[hf,Ea (by simp)]at c;exact⟨w',Qh (y:=opt v.O1) (QZ (Qe rfl) (up b) (js ..) JQ rfl c) (Qe (by show some (Sl.val (jw v))=_;unfold jw;rw[hf,Ea (by simp)])) (ga (n:=0) (Hl 0 _) (by decide) w'),Ae _,λ_ _=>rfl⟩
    obtain⟨u,O,R,I⟩:=key;have u1:u[a]?=some (cN 1 (a+1) (a+2) v):=(I a (Zw (up b))).trans (up b);have L:Qi qK (Qz "Walk" "over" 1 Zi (Qb 3) Ql) (eC (.bl true)) m u=some (.bl false,u):=Qh ((QZ (Qe rfl) u1 (qX ..) JQ rfl (jo u1)).trans (by rw[he])) rfl rfl;have st:Qi qK (Qz "Walk" "step" 1 Jy (Qb 3) Ql) (eC .non) m u=some (.bl false,u):=Qh (x:=.non) (QZ (Qe rfl) u1 (vN ..) JQ rfl (QeH u1 he)) rfl rfl;refine WP.of (Za ((Uc (QR O)).trans ((Uc (QR L)).trans (QR st)))) ⟨_,_,rfl,⋯,λj z=>(I j ⋯).trans (oo j z)⟩
  obtain⟨q,w',eM,z3,z4,rfl,l,oo⟩:=M;have g1:w'[1]?=some (.ins "Shelf" (aN r 2 t x y)):=(oo 1 (Zw h1)).trans h1;have P:QD 2 (Zk (Qc (Qz "Shelf" "readings" 1 ZH (Qb 0) Ql) (Qc (Qz "Shelf" "writings" 1 ZI (Qb 0) Ql) (Ql)))) [.val (.ref 1),.val (.lst ds),.un,.un,.un] w=some ((.nx,E .un .un),w):=QS (F _ w rfl h1);refine⟨w',QI (env:=E z3 z4) (Qr P (Qr (xh (Kk (hp1:=w) (Qe rfl)) eM) (QL (Qh (F _ w' rfl g1) (Qe rfl) (zF (n:=1) (Mn λd hd=>?_) (by decide) w'))))),l,oo⟩;simp only[Bk,Cf,or_false]at hd;rcases hd with rfl|rfl<;>exact wZ 0 _
theorem Qda{t:DV->M Bool}{f:DV->M DV}{Q:DV->Prop}(ds:List DV)(h:∀d∈ds,t d U=some (false,U)∨(t d U=some (true,U)/\∃g,f d U=some (g,U)/\Q g))(o:ds.length<100000):∃out,Z6 (bW ds) t f 100000 0 U=some (out,U)/\out.length<=ds.length/\∀g∈out,Q g:=by
  suffices k:∀(m i n:Nat),m+i=ds.length->m<n->∃out,Z6 (bW ds) t f n i U=some (out,U)/\out.length<=m/\∀g∈out,Q g from k ds.length 0 100000 rfl o;intro m;induction m with
  |zero =>
    intro i n e r;obtain⟨n,rfl⟩:∃k,n=k+1:=⟨n-1,⋯⟩;have:i=ds.length:=⋯
    subst this;have b:bW ds ds.length U=some (none,U):=by unfold bW;rw[Eb (Ae _),show ds[ds.length]?=none by simp];rfl
    refine⟨[],?_,Ae _,λg l=>by cases l⟩;rw[Z6,Qg b];rfl
  |succ m u =>
    intro i n e r;obtain⟨n,rfl⟩:∃k,n=k+1:=⟨n-1,⋯⟩;have a:i<ds.length:=⋯
    have b:bW ds i U=some (some ds[i],U):=by unfold bW;rw[Eb ⋯,Ab a];rfl
    obtain⟨out,c,z,j⟩:=u (i+1) n ⋯ ⋯;rw[Z6,Qg b];simp only;rcases h ds[i] (B9 a)with q|⟨q,g,v,y⟩
    . exact⟨out,by rw[Qg q];simpa using c,⋯,j⟩
    . refine⟨g::out,?_,by simp;lia,λx hx=>?_⟩
      . rw[Qg q]
        simp only[if_true];rw[Qg v,Qg c];rfl
      . rcases Bk.mp hx with rfl|hx
        . exact y
        . exact j x hx
theorem Qe2(ns:List Int)(k:Nat)(b:ns.length<=63):∃x,JJ [.lst (ns.map .int),.int k]=pure (.int x):=by
 by_cases h:k<ns.length
 ·have a:=ja (xs:=ns.map DV.int) (j:=k) (v:=.int ns[k]) (by simp[h]);refine⟨ns[k],?_⟩;have h':(k:Int)<(ns.length:Int):=⋯
  simp[JJ,YS,Zb,Qq,QD,QF,YI,aL,Q6,x3,jZ,xY,xZ,Qi,Qb,eC,eB,cP,J1,cA,Jk,Jm,xI,Yc,cL,xH,Ql,Qc,Zk,Ye,Qs,ZO,QB,gN,ZN,Ji,Je,Z3,Jt,Jq,Jg,Xv,YG,xV,ZS,JO,qM,bL,cF,a,h']
 ·have h':¬ (k:Int)<(ns.length:Int):=⋯
  exact⟨0,by simp[JJ,YS,Zb,Qq,QD,QF,YI,aL,Q6,x3,jZ,xY,xZ,Qi,Qb,eC,eB,cP,J1,cA,Jk,Jm,xI,Yc,cL,xH,Ql,Qc,Zk,Ye,Qs,ZO,QB,gN,ZN,Ji,Je,Z3,Jt,Jq,Jg,Xv,YG,xV,ZS,JO,qM,h']⟩
section
variable{w:Hs}{wl:Nat}{S:TR.Sh}{bg:TR.Bg}{H:List (Option Nat)}{ws:List TR.Wk}{b:Nat->Nat}{G n:Nat}{F:Ev}{Es:List (Nat×DV)}
theorem IW{f:aF}{m:Nat}{U:Hs}(e:m<=8)(h:f env U=some (.int (m:Int),U)):ZR true (eG (zN (Qc f (Ql)))) [] (vI) (eC .non) env U=some (.ref U.length,U++[.lst (List.replicate m .non)]):=by have a:eG (zN (Qc f Ql)) env U=some (bW (Zt 0 m),U):=vP (YE (m:=m) (Jd h) ⋯);have c:=Qb2 (U:=U) (t:=λd=>vI (cE [] env d)) (f:=λd=>eC .non (cE [] env d)) (g:=λ_=>.non) (Zt 0 m) (λ_ _=>rfl) (λ_ _=>rfl) (by rw[Jl];lia);rw[List.map_const',Jl]at c;unfold ZR;rw[Qg a,Qg (show Z6 _ _ _ lim 0 U=_ from c)];rfl
theorem D3(Y:Sys w wl S bg H ws b G F n Es)(hH:H.length<=8)(q:∀(i:Nat)(v:TR.Wk),ws[i]?=some v->v.O7=true)(r u z C c I:Sl):∃out,VD (eL wl r u (.val (.int (H.length:Nat))) z C c I) w=some (.lst out,w)/\out.length<=8/\∀d∈out,sE w d:=by
  let E:En:=eL wl r u (.val (.int (H.length:Nat))) z C c I
  obtain⟨out,X,c2,c3⟩:=Qda (U:=w) (Q:=sE w) (t:=λd=>eB (Qi qK (Qi aA (Qb 1) (Qb 0)) (eC .non)) (cE [5,6] E d)) (f:=λd=>Zk (Qc (Qi aA (Qb 1) (Qb 0)) (Qc (Qi aA (Qi aA (Qb 2) (Qb 0)) (eC (.str "answer"))) (Ql))) (cE [5,6] E d)) (Zt 0 H.length) (λd hd=>by
    obtain⟨i,hi⟩:=Bw.mp hd;obtain⟨il,rfl⟩:=jq hi
    let l:En:=[.val (.int (i:Int)),.val (.ref wl),.val (.ref (wl+1))]
    have h:H[i]?=some H[i]:=Ab il;have e:Qi aA (Qb 1) (Qb 0) l w=some (hD H[i],w):=Qh (x:=.ref wl) (y:=.int (i:Int)) (Qe rfl) (Qe rfl) (XO (i:=i) Y.hw (by rw[Bu,h];rfl));have J:Qi aA (Qb 2) (Qb 0) l w=some (hS H[i],w):=Qh (x:=.ref (wl+1)) (y:=.int (i:Int)) (Qe rfl) (Qe rfl) (XO (i:=i) Y.hs (by rw[Bu,h];rfl));cases hx:H[i]with
    |none=>rw[hx]at e;exact .inl (QR (b:=false) (Qh e rfl rfl))
    |some a=>rw[hx]at e J;obtain⟨v,o,L,_,O,_,_,_,fr,mo,an,P,R⟩:=Y.ob i a (by rw[h,hx]);have ea:=R.ans (q i v o);subst ea;exact .inr ⟨QR (b:=true) (Qh e rfl rfl),_,JG (ZM e (Yt J P n6)) (by simp),a,v,rfl,L,O,q i v o⟩) (by rw[Jl];lia)
  refine⟨out,?_,by rw[Jl]at c2;lia,c3⟩;have j:eG (zN (Qc (Qb 4) (Ql))) E w=some (bW (Zt 0 H.length),w):=vP (YE (m:=H.length) (Jd (Qe rfl)) ⋯);unfold VD ZR;rw[Qg j,Qg (show Z6 _ _ _ lim 0 w=_ from X)];rfl
end
theorem QdE(ns:List Int)(h:ns.length<=63):∃U,vT [.lst (ns.map .int)] []=some (.bl true,U):=by
 obtain⟨C,c0⟩:=Qe2 ns 0 h;have Dt:=Ze c0;simp only[Int.natCast_zero]at Dt;obtain⟨S,bg,F,kvs,z,hp1,b1,I⟩:=QeZ C;have be:=I.cnt;have l2:2<hp1.length:=Zw I.h2;have p8:=Ze (Jh C 10103 8 (by decide) (by decide) (by decide));obtain⟨m,hm⟩:=Us (Xu C 10103 8 (by decide));have ml:=Yg C 10103 8 (by decide);rw[hm]at p8 ml
 let H0:List (Option Nat):=List.replicate (1+m) none
 have M_:H0.length=1+m:=List.length_replicate ..;have hh:(1+(m:Int))=((1+m:Nat):Int):=⋯
 let X:DV:=.lst (ns.map .int)
 let e3:Sl->Sl->Sl->En:=λz5 z6 z7=>[.val X,.val (.int C),.val (.ref 0),.val (.ref 1),.val (.int ((1+m:Nat):Int)),z5,z6,z7,.un,.un,.un,.un]
 let l:OV:=.lst (List.replicate (1+m) .non)
 have n1:H0.map hD=List.replicate (1+m) .non:=by show(List.replicate (1+m) none).map hD=_;rw[List.map_replicate];rfl
 have n2:H0.map hS=List.replicate (1+m) .non:=by show(List.replicate (1+m) none).map hS=_;rw[List.map_replicate];rfl
 let w3:Hs:=hp1++[l,l,.lst []]
 let E:Sl->Sl->Sl->Sl->En:=λz8 z9 r t=>eL hp1.length (.val X) (.val (.int C)) (.val (.int ((1+m:Nat):Int))) z8 z9 r t
 have u1:QD 1 (Qs 2 JJ (Qc (Qb 0) (Qc (eC (.int 0)) Ql))) [.val X,.un,.un,.un,.un,.un,.un,.un,.un,.un,.un,.un] []=some ((.nx,[.val X,.val (.int C),.un,.un,.un,.un,.un,.un,.un,.un,.un,.un]),[]):=QS (QY (ZM (Qe rfl) rfl) rfl (Dt _));have u2:QD 2 J3 [.val X,.val (.int C),.un,.un,.un,.un,.un,.un,.un,.un,.un,.un] []=some ((.nx,[.val X,.val (.int C),.val (.ref 0),.un,.un,.un,.un,.un,.un,.un,.un,.un]),[.aB []]):=rfl;have u3:QD 3 (Qs 2 YA (Qc (Qb 1) (Qc (Qb 2) Ql))) [.val X,.val (.int C),.val (.ref 0),.un,.un,.un,.un,.un,.un,.un,.un,.un] [.aB []]=some ((.nx,[.val X,.val (.int C),.val (.ref 0),.val (.ref 1),.un,.un,.un,.un,.un,.un,.un,.un]),hp1):=QS (QY (ZM (Qe rfl) (Qe rfl)) rfl b1);have u4:QD 4 (Qi ZE (eC (.int 1)) (Qs 3 Qw (Qc (Qb 1) (Qc (eC (.int 10103)) (Qc (eC (.int 8)) (Ql)))))) [.val X,.val (.int C),.val (.ref 0),.val (.ref 1),.un,.un,.un,.un,.un,.un,.un,.un] hp1=some ((.nx,e3 .un .un .un),hp1):=QS (Qh rfl (QY (Z5 (Qe rfl) rfl rfl) rfl (p8 _)) (by show some (DV.int (1+(m:Int)),hp1)=_;rw[hh]));have u5:QD 5 Mx (e3 .un .un .un) hp1=some ((.nx,e3 (.val (.ref hp1.length)) .un .un),hp1++[l]):=QS (IW (f:=Qb 4) ⋯ (Qe rfl));have u6:QD 6 Mz (e3 (.val (.ref hp1.length)) .un .un) (hp1++[l])=some ((.nx,e3 (.val (.ref hp1.length)) (.val (.ref (hp1.length+1))) .un),hp1++[l,l]):=(QS (IW (f:=Qb 4) ⋯ (Qe rfl))).trans (by simp[l,e3]);have u7:QD 7 (Xf Ql) (e3 (.val (.ref hp1.length)) (.val (.ref (hp1.length+1))) .un) (hp1++[l,l])=some ((.nx,E .un .un .un .un),w3):=by have q:Xf Ql (e3 (.val (.ref hp1.length)) (.val (.ref (hp1.length+1))) .un) (hp1++[l,l])=some (.ref (hp1++[l,l]).length,(hp1++[l,l])++[.lst []]):=rfl;refine(QS q).trans ?_;simp[E,e3,eL,w3]
 have ap:∀{j:Nat}{x:OV},hp1[j]?=some x->w3[j]?=some x:=λ{j x} hx=>zG hx;have nw:∀(k:Nat)(o:OV),[l,l,OV.lst []][k]?=some o->w3[hp1.length+k]?=some o:=λk o hk=>by show(hp1++_)[hp1.length+k]?=_;rw[Aq ⋯,Nat.add_sub_cancel_left];exact hk
 have nn:∀(i a:Nat),H0[i]?=some (some a)->False:=λi a hx=>by have:=List.eq_of_mem_replicate (Aw hx);cases this
 let d0:TR.Wk:=⟨.find 0,0,0,none,[],none,none,[],true⟩
 have n:∀(i:Nat)(v:TR.Wk),(List.replicate (1+m) d0)[i]?=some v->v.O7=true:=λi v J=>by rw[List.eq_of_mem_replicate (Aw J)]
 have z0:TR.zc (List.replicate (1+m) d0)=0:=by
  unfold TR.zc;rw[List.filter_eq_nil_iff.mpr λv J=>?_]
  ·rfl
  ·rw[List.eq_of_mem_replicate J];decide
 have zl:z.length<=60:=by have:=I.tb.d.len;have:=I.zl;lia
 have Y0:Sys w3 hp1.length S bg H0 (List.replicate (1+m) d0) (λ_=>0) 61 F 60 []:=by
  refine⟨I.T,⟨λi v J he=>?_,λi v c J he=>?_,λi j v u c _ J _ he=>?_⟩,I.K,λs a c=>.inl (I.D s a c),I.Z,I.tab,I.rm,by rw[M_,List.length_replicate],ap I.h1,ap I.h2,⟨kvs,z,ap I.h0,I.tb,zl⟩,by rw[n1];exact nw 0 _ rfl,by rw[n2];exact nw 1 _ rfl,nw 2 _ rfl,⋯,λi a hx=>(nn i a hx).elim,λi v J he=>?_,λi v _ J=>n i v J,λi j a c _ hx=>(nn i a hx).elim,λx hx=>(by cases hx),λx hx=>(by cases hx),?_⟩
  ·rw[n i v J]at he;cases he
  ·rw[n i v J]at he;cases he
  ·rw[n i v J]at he;cases he
  ·rw[n i v J]at he;cases he
  ·rw[z0];lia
 have hc:D.Vw (ns.map DV.int) none (some 100)=ns.map .int:=by have q:D.Vw (ns.map DV.int) none (some 100)=(ns.map DV.int).take 100:=ur (ns.map DV.int) 100;rw[q,Ci (by simp;lia)]
 have M:WP (xL (bW (ns.map .int)) (λd env=>gN 8 d env >>= λab=>VJ ab) 100000 0 (E .un .un .un .un)) w3 λq w=>∃S' aH R y F' P z8 z9 r t,q=(.nx,E z8 z9 r t)/\Sys w hp1.length S' aH R y (λ_=>315) 124 F' 375 P/\R.length=1+m/\P.length<=63:=by
  refine VS _ (λi env w=>∃S' aH R y F' P z8 z9 r t,env=E z8 z9 r t/\Sys w hp1.length S' aH R y (λ_=>5 * i) (61+i) F' (60+5 * i) P/\R.length=1+m/\P.length<=i) (by simp;lia) ⟨_,_,_,_,_,_,_,_,_,_,rfl,Y0,M_,Ae _⟩ (λi d hd env w zz=>?_) (λenv w zz=>?_)
  ·obtain⟨S',aH,R,y,F',P,z8,z9,r,t,rfl,Y,hl,el⟩:=zz;have hi:i<63:=by have:=Zw hd;simp at this;lia
   obtain⟨c,_,rfl⟩:=C8.mp (Aw hd);have:=BT Y ⋯ ⋯ ⋯ ⋯ ⋯ ⋯ c (.val X) (.val (.int C)) z9 r t;rw[hl]at this;obtain⟨w',S2,dF,H2,iQ,F2,ae,y9,av,ay,e,Y2,l3,l4⟩:=this;exact⟨_,_,e,S2,dF,H2,iQ,F2,ae,_,y9,av,ay,rfl,Y2.mono (λ_=>by show 5 * i+5<=5 * (i+1);lia) ⋯ ⋯,l3,⋯⟩
  ·obtain⟨S',aH,R,y,F',P,z8,z9,r,t,rfl,Y,hl,el⟩:=zz;rw[Br]at Y el;exact⟨S',aH,R,y,F',P,z8,z9,r,t,rfl,Y.mono (λ_=>by show 5 * ns.length<=315;lia) ⋯ ⋯,hl,⋯⟩
 obtain⟨q,w,eM,S',aH,R,y,F',P,z8,z9,r,t,rfl,Y,hl,el⟩:=M;have L:Mv (E .un .un .un .un) w3=some ((.nx,E z8 z9 r t),w):=by
  refine xh (ds:=ns.map .int) (hp1:=w3) ?_ eM;have e1:bY (Qb 0) ZW (ZX (eC (.int 100))) (E .un .un .un .un)=pure (.lst (ns.map .int)):=by simp[E,eL,X,bY,ZW,ZX,g_,hc,Zb,Qq,QD,QF,YI,aL,Q6,x3,jZ,xY,xZ,Qi,Qb,eC,eB,cP,J1,cA,Jk,Jm,xI,Yc,cL,xH,Ql,Qc,Zk,Ye,Qs,ZO,QB,gN,ZN,Ji,Je,Z3,Jt,Jq,Jg,Xv,YG,xV,ZS,JO,cF]
  exact Kk (Ze e1 _)
 have pg:=Y.pages;obtain⟨Q,S1,bd,Nf,ba,F1,bm,f1,O,bh,al⟩:=WR Y ⋯ ⋯ ⋯ ⋯;have bn:=O.pages;have u9:aL (Jk (eB (Qs 4 JV (Qc (Qb 3) (Qc (Qb 5) (Qc (Qb 6) (Qc (Qb 2) (Ql)))))))) (QF (eC (.bl false))) (Q6) (E z8 z9 r t) w=some ((.nx,E z8 z9 r t),Q):=(Za (Jp (b:=true) (QR (QY (VT (Qe rfl) (Qe rfl) (Qe rfl) (Qe rfl)) rfl f1))));obtain⟨out,o1,o2,o3⟩:=D3 O ⋯ al (.val X) (.val (.int C)) z8 z9 r t;rw[hl]at o1
 let ds:List DV:=P.map eD++out
 let E7:En:=[.val X,.val (.int C),.val (.ref 0),.val (.ref 1),.val (.int ((1+m:Nat):Int)),.val (.ref hp1.length),.val (.ref (hp1.length+1)),.val (.lst ds),z8,z9,r,t]
 have dl:ds.length<=71:=by show(P.map eD++out).length<=71;rw[An,Br];lia
 have ua:QD 7 (Qi pD (Qb 7) VD) (E z8 z9 r t) Q=some ((.nx,E7),Q):=by
  have ad:pD (.ref (hp1.length+2)) (.lst out) Q=some (.lst ds,Q):=by show(ZF (hp1.length+2) >>= _) Q=_;rw[Qg (Zg O.he)];show(QB (D.YN ds) >>= λ_=>pure (DV.lst ds)) Q=_;have:D.YN ds=true:=Ef (by show ds.length<=100000;lia);rw[this];rfl
  exact QS (Qh (Qe rfl) o1 ad)
 have ov:∀d∈ds,sE Q d:=λd hd=>by
  rcases Ai.mp hd with hd|hd
  ·obtain⟨x,hx,rfl⟩:=C8.mp hd;obtain⟨_,⟨v,v1,v2,v3,v4⟩,_⟩:=O.es x hx;exact⟨x.1,v,by unfold eD;rw[v4],v1,v2,v3⟩
  ·exact o3 d hd
 obtain⟨w2,g1,g2,g3⟩:=HH O.h1 ⋯ ov;have ub:aL (Jk (eB (Qs 2 YB (Qc (Qb 3) (Qc (Qb 7) (Ql)))))) (QF (eC (.bl false))) (Q6) E7 Q=some ((.nx,E7),w2):=(Za (Jp (b:=true) (QR (QY (ZM (Qe rfl) (Qe rfl)) rfl g1))));have pP:∀{j:Nat}{o:OV},Q[j]?=some o->w2[j]?=some o:=λ{j o} e=>(g3 j (Zw e)).trans e;obtain⟨kv,zz,t1,t2,t3⟩:=O.tb;obtain⟨v,k1,k2,k3⟩:=uR O.T O.Z O.tab t2 ⋯ (pP O.h1) (pP O.h2) ⋯;have Ou:v[0]?=some (.aB kv):=(k2.ok 0 (Zw (pP t1)) (by decide)).trans (pP t1);have uc:QF (Qi aX (Qs 1 JC (Qc (Qb 3) (Ql))) MF) E7 w2=some ((.rt (.bl true),E7),v):=QL (Qh (QY (Jd (Qe rfl)) rfl k1) (LQ (e:=2) rfl Ou t2 ⋯) (Qdl k3 (UD zz) (by decide)));exact⟨v,QI (Qr u1 (Qr u2 (Qr u3 (Qr u4 (Qr u5 (Qr u6 (Qr u7 (Qr L (Qr u9 (Qr ua (Qr ub uc)))))))))))⟩
def KL{K:Aa}{c a b:Addr}{e f h:Option Addr}{n0 m n:Nat}{o q r:Array (Option Value)}{t:Tok}(i:K.lookup c=some ⟨.type "tuple", e,.seq #[.int 0 t,.ref a,.ref b,.none,.none] n0,o⟩)(l:K.lookup b=some ⟨.type "tuple", h,.seq #[] n,r⟩)(j:K.lookup a=some ⟨.type "tuple", f,.seq #[] m,q⟩):bA K (.tup [.int 0,.tup [],.tup [],.non,.non]) (.ref c):=(kU (xs:=[.int 0,.ref a,.ref b,.non,.non]) i (Nat.le_of_ble_eq_true rfl) (.cons ⟨_,rfl⟩ (.cons rfl (.cons rfl (.cons rfl (.cons rfl .nil))))) (zO WG (zO (kU (xs:=[]) j (Nat.le_of_ble_eq_true rfl) .nil vb) (zO (kU (xs:=[]) l (Nat.le_of_ble_eq_true rfl) .nil vb) (zO Ie (zO Ie vb))))))
theorem WF{P:Program}{w:World}{K:Aa}{h:Heap}{mg:Em}{fa f:Addr}{m kV i j a ct:Value}{o e:Option Addr}{q:Array (Option Value)}(X:K.In h)(G:h.Ns mainGlobals mg)(b:mg "law" = some (.ref fa))(Z:Al K mg)(n:PySem.W.nsIn K mainGlobals "law" = some (some (.ref f)))(l:K.lookup f=some ⟨m,o,.func (PySem.W.fnOf "law" "law" (JW Vi) (ZK Vi) (Qo Vi) .none kV i j e a ct),q⟩)(c:PySem.W.codeIn K a "law" = true)(k:PySem.W.keepIn K (.ref f)=true):∃fd:FuncData,(∀(s:Shared) (v:Value),BindsTo s fd ⟨[v],[]⟩ [("script", v)])/\∀O8:Heap,K.In O8->O8.Ns mainGlobals mg->zA P w K mg O8 CX0 9 fa fd ["script"] (iJ K 1 vT):=by cases b.symm.trans (PySem.W.mg_of X G n);exact⟨PySem.W.fnOf "law" "law" (JW Vi) (ZK Vi) (Qo Vi) .none kV i j e a ct,λs v=>.of_eq rfl,λO8 _ _=>law_fn Z (G0 l c k)⟩
theorem walk{l:PySem.W.OpenLaw}{q:Program}{b:List Str}{i:(Em)->Heap->Prop}{e:World->Heap->Prop}{d:DefRec}{K:Params->Aa}(m:l.most=some 63)(c:d.params.defaults=[])
  (hY:∀(w:World)(h:Heap),e w h->(K w.params).In h)
  (F:∀(w:World)(mg:Em)(fa:Addr)(h:Heap),(K w.params).In h->h.Ns mainGlobals mg->mg d.name=some (.ref fa) ->
   ∃fd:FuncData,(∀(s:Shared) (u:Value),BindsTo s fd ⟨[u],[]⟩ [("script", u)])/\∀O8:Heap,(K w.params).In O8->O8.Ns mainGlobals mg->zA l.prog w (K w.params) mg O8 CX0 9 fa fd ["script"] (iJ (K w.params) 1 vT)) :
  PySem.W.WalkO q b i e l.row.toRowW d [] (λf vs=>PySem.call f vs) :=
 L2.QbM (n:=63) (k:=9) (x := "script") (CX:=λ_=>CX0) (sp:=λw=>iJ (K w.params) 1 vT) m (by decide) c ⟨rfl,by decide,by decide⟩ hY F (λw _ a ns j _ hS=>WE (QdE ns j) hS) λ_ _ _ _ _ z=>z
end K24
namespace PySem.W.Fast
def tw8732931948568018975:=0
def tw9761193661475706197:=0
def tw2775639632631662217:=0
def tw1280657869615399266:=0
def tw18396581254070289072:=0
def tw16475690048211335514:=0
def tw15755788660639225371:=0
def tw14633562863405037131:=0
def tw12937388233751016473:=0
def tw11004533564759481535:=0
def tw11343071806901701169:=0
def tw12802322618450219197:=0
def tw5522980938795452174:=0
def tw8932533971446528648:=0
def tw129686560907867060:=0
def tw858842037015472916:=0
def tw5557931925013010766:=0
def tw3885809198052695789:=0
def tw8085234900312428923:=0
def tw16556994520911673117:=0
def tw13638629739825285860:=0
def tw3023093603318731684:=0
def tw1803895582185394369:=0
def tw6000557993113508813:=0
def tw9602191256001616611:=0
def tw3235592134783300687:=0
def tw17620272988526203173:=0
def tw13809122068375563977:=0
def tw2673233331733096127:=0
def tw12876851090272599332:=0
def tw11715953349653620945:=0
def tw14090916096425349597:=0
def tw17015194737481630074:=0
def tw7849365383943864650:=0
def tw12615933146329493619:=0
def tw5433495740966885534:=0
def tw7535701995228959673:=0
def tw18281566885729560532:=0
def tw2136447961377378687:=0
def tw2784239991956356424:=0
def tw1414948316166386020:=0
def tw9421821367623541944:=0
def tw7653595419972321927:=0
def tw9726941046237009759:=0
def tw2294402620987832858:=0
def tw16495868617533832736:=0
def tw13002489236631264659:=0
def tw3775151782921699087:=0
def tw13368588502811679609:=0
def tw1772858914376630028:=0
def tw14446161610490347296:=0
def tw5810109578703668517:=0
def tw14541229299106637586:=0
def tw15776812717930769492:=0
def tw17598120868673416215:=0
def tw16333106760438020300:=0
def tw186617188645013765:=0
def tw18404126793579726570:=0
def tw7956254414425466656:=0
def tw6579540912686994014:=0
def tw7792025588700825208:=0
def tw7440616562974027958:=0
def tw3855685440536774897:=0
def tw17137898358417114101:=0
def tw9827349091982203916:=0
def tw3327338891067498679:=0
def tw10914311424529898024:=0
def tw15892672754775167890:=0
def tw10772565127478231328:=0
def tw5093202970259795998:=0
def tw15774354374432532743:=0
def tw94949172811424083:=0
def tw6111274469617361590:=0
def tw16043177988367631481:=0
def tw11809908380089862841:=0
def tw16853809295385285996:=0
def tw5199629242550317888:=0
def tw956931042621857997:=0
def tw6322153285674359540:=0
def tw13255079338706814018:=0
def tw12144694520423177907:=0
def tw1832076713122553964:=0
def tw1095480370343179188:=0
def tw4498185285669936040:=0
def tw14405056255733122361:=0
def tw10323007327518791537:=0
def tw11850584115629098197:=0
def tw11435057481489139663:=0
def tw16493460133413971991:=0
def tw3645357214272153008:=0
def tw6840372659840737028:=0
def tw14288542140609230285:=0
def tw4065648738144651674:=0
def tw12369028136183979717:=0
def tw9705986794613378400:=0
def tw12857197749696998689:=0
def tw17052528415367693924:=0
def tw3923701254034977984:=0
def tw18073896980163070474:=0
def tw10748434349575836911:=0
def tw10977504909177284680:=0
def tw4466740356533122394:=0
def tw15842119952627631897:=0
def tw6241145351919140731:=0
def tw4024469305788934961:=0
def tw10650488517916856418:=0
def tw6928398083000463522:=0
def tw3327756738831565136:=0
def tw16017132862695830341:=0
def tw11196405545504892098:=0
def tw13927421672897687680:=0
def tw5468682944132233045:=0
def tw10113176491962034709:=0
def tw891558242837375401:=0
def tw6829185188456777118:=0
def tw468098826116471653:=0
def tw1456872322051321007:=0
def tw568264965974973:=0
def tw14234133312464369013:=0
def tw6529435175732399014:=0
def tw17959370817798079094:=0
def tw13744487593681808388:=0
def tw3532842170701263636:=0
def tw6124029657799672724:=0
def tw4772033426822177458:=0
def tw16886135473830589666:=0
def tw16609084325974338116:=0
def tw6673973854780645337:=0
def tw6482181142515084480:=0
def tw8335432844369627232:=0
def tw16030485418163749186:=0
def tw17618367935063624386:=0
def tw8720106985458496323:=0
def tw15937596347769578940:=0
def tw15216084298992660589:=0
def tw9466756827132259089:=0
def tw9061377281603152115:=0
def tw268044975801615854:=0
def tw18142253758552273723:=0
def tw16918915037513734500:=0
def tw462769460905442477:=0
def tw17479994233752541458:=0
def tw3026805217781992398:=0
def tw2832945752854615461:=0
def tw199059150040072331:=0
def tw2722357741118645386:=0
def tw3990862760317630322:=0
def tw7182139234566028011:=0
def tw2602639917464959491:=0
def tw16511643634348028083:=0
def tw271086990616079544:=0
def tw16710968184304669096:=0
def tw2940118081836941959:=0
def tw1200909953835734336:=0
def tw7681142344784291397:=0
def tw3989762353238630078:=0
def tw7626926301196110478:=0
def tw1601095485253931680:=0
def tw3686326648549185985:=0
def tw16168162725924383221:=0
def tw15939421532247593854:=0
def tw11940614158491047243:=0
def tw4223545816639644469:=0
def tw7379999188283437256:=0
def tw13467794747196815085:=0
def tw8037898089018436893:=0
def tw7165114712333270849:=0
def tw8048320399192257489:=0
def tw15720402878584676021:=0
def tw16855267558377337557:=0
def tw11797464140606403028:=0
def tw13285874003453830520:=0
def tw8986600156722232538:=0
def tw16877841598914593998:=0
def tw1790555998665548603:=0
def tw16804958752093231838:=0
def tw5268137199869216248:=0
def tw6224090483670052977:=0
def tw16543569831886082590:=0
def tw14539228955951227111:=0
def tw7582082926034381841:=0
def tw9243899970324795022:=0
def tw13062384735396630837:=0
def tw4883165542254001154:=0
def tw14076345939928090396:=0
def tw2966806718542504139:=0
def tw10174709769283344121:=0
def tw14545550513926054306:=0
def tw17120232198024412595:=0
def tw15617457643314270688:=0
def tw4308160628735486146:=0
def tw6439159434244815275:=0
def tw17003884703719222126:=0
def tw7572574470050869277:=0
def tw11478662898238018191:=0
def tw7967998754307207139:=0
def tw11046415130043173118:=0
def tw13728277699190976163:=0
def tw5048563548447401333:=0
def tw18333253857880803832:=0
def tw11449407819508446643:=0
def tw3227155487681492685:=0
def tw13518888913120794469:=0
def tw4082258511979214165:=0
def tw15342910075209607:=0
def tw8628323606223430274:=0
def tw7493525018180792164:=0
def tw10278446828644103646:=0
def tw10324128206721912989:=0
def tw9613639719963609223:=0
def tw5731579052108973487:=0
def tw18278624231211662313:=0
def tw12267437842851284233:=0
def tw7803312484189109309:=0
def tw1342499591266500239:=0
def tw12173965435911370934:=0
def tw8145818078911067695:=0
def tw3826060261520852207:=0
def tw4741401928837111871:=0
def tw16202265087459961868:=0
def tw6169399712183498073:=0
def tw17341304161277016648:=0
def tw3032312723141317076:=0
def tw3971585807803111911:=0
def tw9724814346208573127:=0
def tw3968274986758067632:=0
def tw2656536273571402124:=0
def tw390032998906952564:=0
def tw11366956694290645248:=0
def tw13331864851351341768:=0
def tw15837716681409755445:=0
def tw827559284323598135:=0
def tw3737988695649260690:=0
def tw10127805245505864030:=0
def tw210391670276757073:=0
def tw3732788502648721809:=0
def tw10114060281501198656:=0
def tw8982987017042139895:=0
def tw4816805904172105025:=0
def tw3662356169554507082:=0
def tw17357346651636382657:=0
def tw7438150706084673646:=0
def tw10975628571896876782:=0
def tw14451758889620024039:=0
def tw5121155806498100444:=0
def tw9396256681212536496:=0
def tw14717073962925272512:=0
def tw9432339478402374105:=0
def tw11576292649692561175:=0
def tw1864554070619959507:=0
def tw2906380840300800456:=0
def tw12546650364939352864:=0
def tw7684055232185338117:=0
def tw14262653090771833809:=0
def tw6684750058515660092:=0
def tw4411949387412397464:=0
def tw1212675728534928054:=0
def tw14781015608793556874:=0
def tw16148746605846908176:=0
def tw16772686671109121283:=0
def tw2324217045075135521:=0
def tw7982618687390756121:=0
def tw15676382670874415550:=0
def tw10696182556111701774:=0
def tw9098447107658731740:=0
def tw3813826130559837479:=0
end PySem.W.Fast
open PySem PySem.W PyProof.Rows
open D in
set_option maxRecDepth 100000 in
set_option maxHeartbeats 0 in
theorem PySem.Challenge.cw_sidelink_k24_whole_moments_fit_holds : PySem.Challenge.rw_sidelink_k24_whole_moments_fit.Holds := by
 w_on;o_law;k_head;(case hw=>w_witness2)
 k_fill
 refine K24.walk (l:=PySem.Challenge.rw_sidelink_k24_whole_moments_fit) rfl rfl (fun w h Y=>PySem.W.kIn_of Y) ?F
 case F =>
  intro w mg fa h KX G hmg;have c0:UC _ "Shelf" := uc KX (by k_is) (by k_is) (by k_is) (by k_is) (by k_is);have c1:UC _ "Walk" := uc KX (by k_is) (by k_is) (by k_is) (by k_is) (by k_is);exact K24.WF KX G hmg (by constructor;all_goals first|exact PySem.W.mg_none_of KX G (by k_is)|exact uf KX G (by k_is) (by k_is) (by k_is) (by k_is)|exact ug KX G (by k_is)|exact ut KX G (by k_is) (K24.KL (by k_is) (by k_is) (by k_is))|exact uk KX c0 (by k_is) (by k_is)|exact um KX c0 (by k_is) (by k_is) (by k_is) (by k_is) (by k_is) (by k_is)|exact uk KX c1 (by k_is) (by k_is)|exact um KX c1 (by k_is) (by k_is) (by k_is) (by k_is) (by k_is) (by k_is)|exact ui KX G (by k_is) (by k_is) (by k_is) (by k_is) (by k_is) (by k_is) (by k_is) (by k_is)) (by k_is) (by k_is) (by k_is) (by k_is)

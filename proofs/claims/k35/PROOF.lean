import PyProof.Rows.All
import Wide.All
import OpenK.AllK
import Wide.FinOn
import Lean
import PyProof.EqAt
import PyProof.EqKinds
import PyProof.TupleCall
import PySem.Challenge.RW_sidelink_k35_whole_sound_at_each_moment
section
open PySem PySem.Spec PyProof.Rows
abbrev Aa:=PySem.W.Frag
def Ac:=@List.getElem?_eq_getElem
def Ad:=@List.getElem?_eq_some_iff
def Ae:=@Heap.get?_push_of_some
def Ag:=@Nat.le_refl
def Ah:=@Array.toList_append
def Ai:=@List.getElem?_append_left
def Aj:=@List.mem_append
def Ak:=@List.mem_append_right
def Am:=@Option.some.inj
def An:=@List.getElem?_set_ne
def Ao:=@List.length_append
def Ap:=@List.size_toArray
def Aq:=@Heap.lt_size
def Ar:=@List.getElem?_append_right
def As:=@List.mem_singleton
def Au:=@List.filter_cons
def Av:=@List.getElem?_set_self
def Aw:=@Heap.get?_push_size
def Ax:=@List.mem_of_getElem?
def Ay:=@List.mem_cons_of_mem
def Az:=@Nat.lt_of_lt_of_le
def A7:=@Bool.false_eq_true
def A8:=@List.mem_append_left
def A9:=@List.append_assoc
def Ba:=@List.length_take
def Bb:=@List.length_cons
def Bc:=@List.map_cons
def Be:=@Bool.and_eq_true
def Bf:=@Nat.zero_le
def Bh:=@Nat.ne_of_lt
def Bi:=@Nat.lt_or_ge
def Bj:=@List.drop_eq_getElem_cons
def Bk:=@Nat.le_trans
def Bm:=@List.mem_cons
def Bo:=@List.mem_filter
def Bp:=@Int.le_refl
def Bq:=@Prod.mk.injEq
def Br:=@List.length_drop
def Bt:=@List.length_map
def Bu:=@List.append_nil
def Bv:=@List.getElem?_map
def Bw:=@List.pairwise_append
def Bx:=@List.mem_of_mem_take
def By:=@Nat.lt_of_le_of_lt
def Bz:=@Bool.false_ne_true
def B0:=@List.take_append_drop
def B7:=@Int.toNat_natCast
def B8:=@List.find?_cons
def B9:=@List.getElem_mem
def Ca:=@List.getElem?_take_of_lt
def Cb:=@List.length_filter_le
def Cc:=@List.getElem?_drop
def Cd:=@List.mem_of_mem_drop
def Ce:=@Array.toList_reverse
def Cf:=@List.not_mem_nil
def Cg:=@Option.map_eq_some_iff
def Ch:=@List.mem_range
def Ci:=@List.take_of_length_le
def Cj:=@Array.length_toList
def Ck:=@Int.le_of_lt
def Cm:=@List.prefix_rfl
def Cn:=@List.drop_of_length_le
def Co:=@Heap.size_push
def Cp:=@List.pairwise_cons
def Cq:=@List.getD_eq_getElem?_getD
def Cr:=@List.pairwise_iff_getElem
def Cs:=@Bool.not_eq_true'
def Cu:=@List.mem_iff_getElem
def Cv:=@List.any_cons
def Cw:=@List.drop_drop
def Cy:=@Nat.lt_irrefl
def Cz:=@List.getElem?_eq_none
def C0:=@List.getElem_take
def C1:=@Int.le_trans
def C4:=@List.filter_eq_nil_iff
def C5:=@Nat.lt_succ_self
def C6:=@List.all_cons
def C7:=@Nat.zero_add
def C8:=@Nat.ne_of_gt
def C9:=@List.mem_map
def Ea:=@wpAny_bind
def Eb:=@if_neg
def Ec:=@if_pos
def Ed:=@wpAny_pure
def Ee:=@wpS_bind
def Ef:=@wpS_pure
def Eg:=@decide_eq_true
def Eh:=@of_decide_eq_true
def Ei:=@decide_eq_false
def Ej:=@pure_bind
abbrev Ek:=Value->Shared->Prop
abbrev Em:=List (Addr×Obj)
abbrev Eo:=Str->Option Value
abbrev Er:=Addr->Prop
abbrev Es:=List Addr
end
-- CHANGE: your row's module here,as the last of these rows
set_option Elab.async false
set_option linter.all false
set_option maxRecDepth 100000
namespace L2
open PySem PySem.Spec PyProof.Rows
abbrev Key:=Sum Int Str
def VL:Key->Value->Bool
 | .inl k,v=>Value.isInt k v
 | .inr x,v=>Value.isStrOf x v
def QiB(w:World):Key->Int
 | .inl k=>hashInt k
 | .inr x=>hashStr w x
theorem ZT:∀{k:Key}{v:Value},VL k v=true->(∃i t,k=Sum.inl i/\v=Value.int i t)∨(∃x t,k=Sum.inr x/\v=Value.str x t)
  | .inl i,v,h=>by
    obtain⟨t,e⟩:=Value.isInt_shape (k:=i) (v:=v) h;exact .inl ⟨i,t,rfl,e⟩
  | .inr x,v,h=>by
    obtain⟨t,e⟩:=Value.isStrOf_shape (x:=x) (v:=v) h;exact .inr ⟨x,t,rfl,e⟩
theorem QaO(i:Int)(t:Tok):VL (.inl i) (.int i t)=true:=by simp[VL,Value.isInt]
theorem QaP(x:Str)(t:Tok):VL (.inr x) (.str x t)=true:=by simp[VL,Value.isStrOf]
theorem QfZ(a b:Int):decide ((Sum.inl a:Key)=Sum.inl b)=(a==b):=by
 by_cases e:a=b
 ·subst e;simp
 ·have h:¬ (Sum.inl a:Key)=Sum.inl b:=λq=>e (Sum.inl.inj q)
  rw[Ei h];exact(beq_eq_false_iff_ne.mpr e).symm
theorem Qf2(a b:Str):decide ((Sum.inr a:Key)=Sum.inr b)=decide (a=b):=by
 by_cases e:a=b
 ·subst e;simp
 ·have h:¬ (Sum.inr a:Key)=Sum.inr b:=λq=>e (Sum.inr.inj q)
  rw[Ei h,Ei e]
def Qf0(a:Int)(b:Str):decide ((Sum.inl a:Key)=Sum.inr b)=false:=Ei (λq=>nomatch q)
def Qf1(a:Str)(b:Int):decide ((Sum.inr a:Key)=Sum.inl b)=false:=Ei (λq=>nomatch q)
def Z2(prog:Program)(w:World):PySem.KeyKind prog w Key where
 is:=VL
 hash:=QiB w
 inj:=λv a b ha hb=>by
  rcases ZT ha with ⟨i,t,rfl,rfl⟩ | ⟨x,t,rfl,rfl⟩
  ·rcases ZT hb with ⟨j,u,rfl,e⟩ | ⟨y,u,rfl,e⟩
   ·injection e with e1 _;rw[e1]
   ·exact nomatch e
  ·rcases ZT hb with ⟨j,u,rfl,e⟩ | ⟨y,u,rfl,e⟩
   ·exact nomatch e
   ·injection e with e1 _;rw[e1]
 byValue:=λk v h=>by
  rcases ZT h with ⟨i,t,rfl,rfl⟩ | ⟨x,t,rfl,rfl⟩<;>rfl
 pyHash:=λhv h=>by
  rcases ZT hv with ⟨i,t,rfl,rfl⟩ | ⟨x,t,rfl,rfl⟩
  ·exact wpAny_pyHash_int h
  ·exact wpAny_pyHash_str h
 eqBool:=λhu hv h=>by
  rcases ZT hu with ⟨i,t,rfl,rfl⟩ | ⟨x,t,rfl,rfl⟩
  ·rcases ZT hv with ⟨j,u,rfl,rfl⟩ | ⟨y,u,rfl,rfl⟩
   ·rw[QfZ] at h;exact wpAny_eqBool_int h
   ·rw[Qf0] at h;exact SeqAt.EqAt.int_str i t y u _ _ _ _ h
  ·rcases ZT hv with ⟨j,u,rfl,rfl⟩ | ⟨y,u,rfl,rfl⟩
   ·rw[Qf1] at h;exact SeqAt.EqAt.str_int x t j u _ _ _ _ h
   ·rw[Qf2] at h;exact wpAny_eqBool_str h
 «strs»:=λk x t v h=>by
  rcases ZT h with ⟨i,u,rfl,e⟩ | ⟨y,u,rfl,e⟩
  ·exact nomatch e
  ·injection e with e1 _
   subst e1;cases v<;>rfl
def vC(prog:Program)(w:World)(i:Int)(t:Tok):(Z2 prog w).is (.inl i) (.int i t)=true:=QaO i t
def vD(prog:Program)(w:World)(x:Str)(t:Tok):(Z2 prog w).is (.inr x) (.str x t)=true:=QaP x t
inductive V where
 | non | bl (b:Bool) | int (i:Int) | str (x:Str) | byt (b:Array UInt8) | flt (b:UInt64) | ref (a:Addr) | ty (n:String)
 deriving DecidableEq
def RelV:V->Value->Prop
 | .non,u=>u=Value.none
 | .bl b,u=>u=Value.bool b
 | .int i,u=>∃t,u=Value.int i t
 | .str x,u=>∃t,u=Value.str x t
 | .byt b,u=>∃t,u=Value.bytes b t
 | .flt b,u=>∃t,u=Value.float b t
 | .ref a,u=>u=Value.ref a
 | .ty n,u=>u=Value.type n
abbrev Vals:List V->List Value->Prop:=Paired RelV
def Vals.length{xs:List V}{us:List Value}(r:Vals xs us):xs.length=us.length:=Paired.length r
theorem Vals.get:∀{xs:List V}{us:List Value}{i:Nat}{x:V},Vals xs us->xs[i]?=some x->∃u,us[i]?=some u/\RelV x u
  | _,_,_,_,.nil,e=>by simp at e
  | _,_,0,_,.cons r _,e=>by simp at e;subst e;exact⟨_,rfl,r⟩
  | _,_,i+1,x,.cons _ t,e=>by
    obtain⟨u,h1,h2⟩:=Vals.get (i:=i) (x:=x) t (by simpa using e)
    exact⟨u,by simpa using h1,h2⟩
theorem Vals.set(r:RelV x u):∀{xs:List V}{us:List Value}(i:Nat),Vals xs us->Vals (xs.set i x) (us.set i u)
 | _,_,_,.nil=>.nil
 | _,_,0,.cons _ t=>.cons r t
 | _,_,i+1,.cons q t=>.cons q (Vals.set r i t)
theorem Vals.append:∀{xs ys:List V}{us ws:List Value},Vals xs us->Vals ys ws->Vals (xs++ys) (us++ws)
 | _,_,_,_,.nil,s=>s
 | _,_,_,_,.cons r t,s=>.cons r (Vals.append t s)
theorem Vals.take:∀{xs:List V}{us:List Value}(n:Nat),Vals xs us->Vals (xs.take n) (us.take n)
 | _,_,0,_=>.nil
 | _,_,_+1,.nil=>.nil
 | _,_,n+1,.cons r t=>.cons r (Vals.take n t)
theorem Vals.drop:∀{xs:List V}{us:List Value}(n:Nat),Vals xs us->Vals (xs.drop n) (us.drop n)
 | _,_,0,r=>r
 | _,_,_+1,.nil=>.nil
 | _,_,n+1,.cons _ t=>Vals.drop n t
def RelO:Option V->Option Value->Prop
 | some v,some u=>RelV v u
 | none,none=>True
 | _,_=>False
def KV{κ:Type}:List (κ×V)->List (κ×Value)->Prop:=Paired λ(p:κ×V)(q:κ×Value)=>p.1=q.1/\RelV p.2 q.2
def kV:Key->V
 | .inl i=>.int i
 | .inr x=>.str x
inductive HO where
  | lst (xs:List V)
  | tup (xs:List V)
  | dK (kvs:List (Key×V)) | dT (kvs:List (List Key×V))
  | set (S:Int->Bool) (n:Nat)
  | ins (C dx:Addr) (fs:List (Str×V))
  | own (x:Addr)
  | xd (fs:List (Str×V))
  | met (f x:Addr)
  | rng (lo hi:Int)
  | frz (o:Obj) (u:HO)
  | tbl (ps:Array Value)
  | ext (φ:Heap->Prop)
abbrev Hp:=Addr->Option HO
def upd(H:Hp)(a:Addr)(o:HO):Hp:=λb=>if b=a then some o else H b
theorem Zg{a:Addr}:upd H a o a=some o:=by unfold upd;rw[Ec rfl]
theorem Q4{H:Hp}{a b:Addr}(h:b≠a):upd H a o b=H b:=by unfold upd;rw[Eb h]
theorem QhL{H:Hp}{a b:Addr}{o u:HO}(h:H a=some o)(h':H b=some u)(d:o≠u):a≠b:=by
 intro e;subst e;rw[h] at h';exact d (Am h')
theorem ZB{H:Hp}{a b:Addr}(h:H a=some o)(h':H b=none):a≠b:=by
 intro e;subst e;rw[h] at h';cases h'
section
variable(P:Program)(w:World)
def ObjOk(H:Hp)(h:Heap)(a:Addr):HO->Prop
 | .lst xs=>xs.length<=sizeLine/\∃(its:List Value) (n:Nat),Vals xs its/\h.get? a=some { cls:=.type "list", data:=.seq its.toArray n }
 | .tup xs=>xs.length<=sizeLine/\∃its:List Value,Vals xs its/\IsTup h a its.toArray
 | .dK kvs=>kvs.length<=sizeLine/\(a==sysModules)=false/\∃vs,KV kvs vs/\h.DictOf (Z2 P w) a vs
 | .dT kvs=>kvs.length<=sizeLine/\(a==sysModules)=false/\∃xs:List (List Key×Addr×Value),
   Paired (λ(p:List Key×V)(q:List Key×Addr×Value)=>p.1=q.1/\H q.2.1=some (.tup (p.1.map kV))/\RelV p.2 q.2.2) kvs xs /\
   ∃o es ep,h.get? a=some o/\o.ExactDict/\o.data=.dict es ep/\es.toList=xs.map (entryOfKey (tupleKind (Z2 P w)))/\(xs.map (·.1)).Nodup
 | .set S n=>h.SetOf (intKind P w) a S n
 | .ins C dx fs=>H dx=some (.own a)/\fs.length<=1000/\dx≠a/\h.get? a=some (PySem.W.instObj C dx) /\
   ∃mA,h.Ns1 dx mA/\(∀f,RelO (fs.lookup f) (mA f))/\PySem.Within mA (fs.map (·.1))
 | .own _=>∃o,h.get? a=some o
 | .xd fs=>∃mA,h.Ns1 a mA/\∀f,RelO (fs.lookup f) (mA f)
 | .rng lo hi=>∃t u v,h.get? a=some { cls:=.type "range", data:=.fields #[.int lo t,.int hi u,.int 1 v] }
 | .frz o u=>h.get? a=some o/\ObjOk H h a u
 | .tbl ps=>h.get? a=some { cls:=.none,data:=.fields ps }
 | .met f x=>h.get? a=some (PySem.W.methodObj (.ref f) (.ref x))
 | .ext φ=>φ h/\(∃o,h.get? a=some o)/\∀h1 h2:Heap,φ h1->(∀o,h1.get? a=some o->h2.get? a=some o)->φ h2
def HOk(H:Hp)(h:Heap):Prop:=∀a o,H a=some o->ObjOk P w H h a o
end
section
variable{P:Program}{w:World}{H H':Hp}{h h':Heap}{a:Addr}{o:HO}
theorem ObjOk.lt(x:ObjOk P w H h a o):a < h.objs.size:=by
 cases o with
 | lst xs=>obtain⟨_,_,_,_,e⟩:=x;exact Aq e
 | tup xs=>obtain⟨_,_,_,p⟩:=x;exact p.lt
 | dK kvs=>obtain⟨_,_,_,_,o,_,_,e,_⟩:=x;exact Aq e
 | dT kvs=>obtain⟨_,_,_,_,o,_,_,e,_⟩:=x;exact Aq e
 | set S n=>obtain⟨o,_,_,_,e,_⟩:=x;exact Aq e
 | ins C dx fs=>obtain⟨_,_,_,e,_⟩:=x;exact Aq e
 | own y=>obtain⟨_,e⟩:=x;exact Aq e
 | xd fs=>obtain⟨_,⟨_,_,_,e,_⟩,_⟩:=x;exact Aq e
 | rng lo hi=>obtain⟨_,_,_,e⟩:=x;exact Aq e
 | frz ob u=>obtain⟨e,_⟩:=x;exact Aq e
 | tbl ps=>exact Aq (show h.get? a=some _ from x)
 | met f y=>exact Aq (show h.get? a=some _ from x)
 | ext φ=>obtain⟨_,⟨_,e⟩,_⟩:=x;exact Aq e
theorem Paired.mapP{α β:Type}{F G:α->β->Prop}:∀{l₁:List α}{l₂:List β},Paired F l₁ l₂->(∀a b,F a b->G a b)->Paired G l₁ l₂
 | _,_,.nil,_=>.nil
 | _,_,.cons r t,f=>.cons (f _ _ r) (Paired.mapP t f)
theorem ObjOk.stay(x:ObjOk P w H h a o)(k:∀b u,(b=a∨H b=some (.own a))->h.get? b=some u->h'.get? b=some u)
    (ho:∀b,H b=some (.own a)->H' b=some (.own a)) (ht:∀b xs,H b=some (.tup xs)->H' b=some (.tup xs)):ObjOk P w H' h' a o:=by
  induction o with
  | lst xs=>obtain⟨z,its,n,r,e⟩:=x;exact⟨z,its,n,r,k _ _ (.inl rfl) e⟩
  | tup xs=>obtain⟨z,its,r,ob,e,c⟩:=x;exact⟨z,its,r,ob,k _ _ (.inl rfl) e,c⟩
  | dK kvs=>obtain⟨z,y,vs,r,ob,es,ep,e,c⟩:=x;exact⟨z,y,vs,r,ob,es,ep,k _ _ (.inl rfl) e,c⟩
  | dT kvs =>
    obtain⟨z,y,xs,r,ob,es,ep,e,c⟩:=x;exact⟨z,y,xs,Paired.mapP r λp q z=>⟨z.1,ht _ _ z.2.1,z.2.2⟩,ob,es,ep,k _ _ (.inl rfl) e,c⟩
  | set S n=>obtain⟨ob,es,ep,t,e,c⟩:=x;exact⟨ob,es,ep,t,k _ _ (.inl rfl) e,c⟩
  | ins C dx fs =>
    obtain⟨d,z,ne,e,mA,⟨od,es,ep,e2,c⟩,r⟩:=x;exact⟨ho _ d,z,ne,k _ _ (.inl rfl) e,mA,⟨od,es,ep,k _ _ (.inr d) e2,c⟩,r⟩
  | own y=>obtain⟨ob,e⟩:=x;exact⟨ob,k _ _ (.inl rfl) e⟩
  | xd fs=>obtain⟨mA,⟨od,es,ep,e,c⟩,r⟩:=x;exact⟨mA,⟨od,es,ep,k _ _ (.inl rfl) e,c⟩,r⟩
  | rng lo hi=>obtain⟨t,u,v,e⟩:=x;exact⟨t,u,v,k _ _ (.inl rfl) e⟩
  | frz ob u ih=>obtain⟨e,q⟩:=x;exact⟨k _ _ (.inl rfl) e,ih q⟩
  | tbl ps =>
    have e:h.get? a=some { cls:=.none,data:=.fields ps }:=x;show h'.get? a=some { cls:=.none,data:=.fields ps };exact k a _ (.inl rfl) e
  | met f y =>
    have e:h.get? a=some (PySem.W.methodObj (.ref f) (.ref y)):=x;show h'.get? a=some (PySem.W.methodObj (.ref f) (.ref y));exact k a _ (.inl rfl) e
  | ext φ=>obtain⟨p,⟨o,e⟩,st⟩:=x;exact⟨st _ _ p λo q=>k _ _ (.inl rfl) q,⟨o,k _ _ (.inl rfl) e⟩,st⟩
def HOk.lt(x:HOk P w H h)(e:H a=some o):a < h.objs.size:=(x a o e).lt
theorem HOk.fresh(x:HOk P w H h)(e:h.objs.size<=a):H a=none:=by
 cases q:H a with
 | none=>rfl
 | some u=>exact absurd (Az (x.lt q) e) (Cy _)
theorem HOk.kept(x:HOk P w H h)(k:∀b u,h.get? b=some u->h'.get? b=some u):HOk P w H h':=λa o e =>
 (x a o e).stay (λb u _ q=>k b u q) (λ_ q=>q) λ_ _ q=>q
theorem HOk.laid(x:HOk P w H h)(k:∀b u,h.get? b=some u->h'.get? b=some u)(hp:h.objs.size<=a)(new:ObjOk P w (upd H a o) h' a o):HOk P w (upd H a o) h':=λb u e=>by
 have hn:=x.fresh hp;by_cases hb:b=a
 ·subst hb;rw[Zg] at e;cases e;exact new
 ·rw[Q4 hb] at e
  exact(x b u e).stay (λc v _ q=>k c v q) (λc q=>by rw[Q4 (ZB q hn)];exact q) λc xs q=>by rw[Q4 (ZB q hn)];exact q
end
def Rd(H:Hp)(a:Addr)(u:HO):Prop:=H a=some u∨∃o,H a=some (.frz o u)
theorem Rd.ok{w:World}{a:Addr}(r:Rd H a u)(x:HOk P w H h):ObjOk P w H h a u:=by
 rcases r with r | ⟨o,r⟩
 ·exact x a u r
 ·obtain⟨_,q⟩:=x a _ r
  exact q
def Mut:Option HO->Prop
 | some (.lst _)=>True
 | some (.dK _)=>True
 | some (.dT _)=>True
 | some (.set _ _)=>True
 | some (.ins _ _ _)=>True
 | some (.ext _)=>True
 | _=>False
section
variable{P:Program}{w:World}{H:Hp}{h h':Heap}{x e:Addr}{o':HO}
theorem HOk.write(ok:HOk P w H h)(mu:Mut (H x))(he:e=x∨H e=some (.own x))(k:∀b u,b≠e->h.get? b=some u->h'.get? b=some u)(heo:∃u,h'.get? e=some u)
  (new:ObjOk P w (upd H x o') h' x o'):HOk P w (upd H x o') h':=λb u q=>by
 have nown:∀c y,H c=some (.own y)->c≠x:=λc y r z=>by subst z;rw[r] at mu;exact mu
 have ntup:∀c xs,H c=some (.tup xs)->c≠x:=λc xs r z=>by subst z;rw[r] at mu;exact mu
 by_cases hb:b=x
 ·subst hb;rw[Zg] at q;cases q;exact new
 ·rw[Q4 hb] at q
  by_cases hbe:b=e
  ·have q':H b=some (.own x):=by
    rcases he with z | z
    ·exact absurd (hbe.trans z) hb
    ·rw[hbe];exact z
   rw[q] at q';cases q';obtain⟨v,hv⟩:=heo;exact⟨v,by rw[hbe];exact hv⟩
  ·refine(ok b u q).stay (λc v hc r=>k c v ?_ r) (λc r=>by rw[Q4 (nown c b r)];exact r) λc xs r=>by rw[Q4 (ntup c xs r)];exact r
   rcases hc with rfl | hc
   ·exact hbe
   ·rintro rfl
    rcases he with z | z
    ·exact nown c b hc z
    ·rw[hc] at z;cases z;exact hb rfl
end
structure Un(fs ex:Es)(H H':Hp)(h h':Heap):Prop where
 keep:∀b o,h.get? b=some o->H b=none->b∉fs->b∉ex->h'.get? b=some o
 slot:∀b o,h.get? b=some o->H b=none->b∈fs->b∉ex->∃sl,h'.get? b=some { o with slots:=sl }
 free:∀b o,h.get? b=some o->H b=none->b∉ex->H' b=none
 there:∀b o,h.get? b=some o->b∉ex->∃o',h'.get? b=some o'
 tups:∀b xs,H b=some (.tup xs)->H' b=some (.tup xs)
 frzs:∀b o u,H b=some (.frz o u)->H' b=some (.frz o u)
 tbls:∀b ps,H b=some (.tbl ps)->∃more,H' b=some (.tbl (ps++more))
section
variable{fs fs' ex ex':Es}{H H1 H2:Hp}{h h1 h2 h':Heap}{a x e:Addr}{o:HO}
theorem Un.any(u:Un fs ex H H1 h h1){b:Addr}{ob:Obj}(q:h.get? b=some ob)(n:H b=none)(hx:b∉ex):∃sl,h1.get? b=some { ob with slots:=sl }:=by
 by_cases hb:b∈fs
 ·exact u.slot b ob q n hb hx
 ·exact⟨ob.slots,u.keep b ob q n hb hx⟩
theorem Un.kept(k:∀b u,h.get? b=some u->h'.get? b=some u):Un fs ex H H h h' :=
 ⟨λb ob q _ _ _=>k b ob q,λb ob q _ _ _=>⟨ob.slots,k b ob q⟩,λ_ _ _ n _=>n,λb ob q _=>⟨ob,k b ob q⟩,λ_ _ q=>q,λ_ _ _ q=>q,λ_ ps q=>⟨#[],by rw[q];simp⟩⟩
def Un.refl:Un fs ex H H h h:=Un.kept λ_ _ q=>q
theorem Un.laid(k:∀b u,h.get? b=some u->h'.get? b=some u)(hp:h.objs.size<=a)(hn:H a=none):Un fs ex H (upd H a o) h h' where
 keep:=λb u q _ _ _=>k b u q
 slot:=λb u q _ _ _=>⟨u.slots,k b u q⟩
 free:=λb u q n _=>by rw[Q4 (Bh (Az (Aq q) hp))];exact n
 there:=λb u q _=>⟨u,k b u q⟩
 tups:=λb xs q=>by rw[Q4 (ZB q hn)];exact q
 frzs:=λb u xs q=>by rw[Q4 (ZB q hn)];exact q
 tbls:=λb ps q=>⟨#[],by rw[Q4 (ZB q hn),q];simp⟩
theorem Un.write(mu:Mut (H x))(he:e=x∨H e=some (.own x))(k:∀b u,b≠e->h.get? b=some u->h'.get? b=some u)(heo:∃u,h'.get? e=some u):Un fs ex H (upd H x o) h h':=by
 have hx:∀b,H b=none->b≠x:=λb n z=>by subst z;rw[n] at mu;exact mu
 have hb:∀b,H b=none->b≠e:=λb n z=>by
  subst z;rcases he with r | r
  ·exact hx b n r
  ·rw[n] at r;cases r
 have hm:∀b u,H b=some u->¬ Mut (some u)->b≠x:=λb u q nm z=>by subst z;rw[q] at mu;exact nm mu
 refine⟨λb u q n _ _=>k b u (hb b n) q,λb u q n _ _=>⟨u.slots,k b u (hb b n) q⟩,λb u q n _=>by rw[Q4 (hx b n)];exact n,λb u q _=>?_,
  λb xs q=>by rw[Q4 (hm b _ q λz=>z)];exact q,λb u xs q=>by rw[Q4 (hm b _ q λz=>z)];exact q,λb ps q=>⟨#[],by rw[Q4 (hm b _ q λz=>z),q];simp⟩⟩
 by_cases hbe:b=e
 ·subst hbe;exact heo
 ·exact⟨u,k b u hbe q⟩
end
def trk(h:Heap)(H:Hp):List Addr:=(List.range h.objs.size).filter λa=>(H a).isSome
def K3(h:Heap)(H:Hp):Heap:=PySem.W.hideAll h (trk h H)
def QaL(h:Heap)(H:Hp):(K3 h H).objs.size=h.objs.size:=PySem.W.hideAll_size _ _
theorem Qb3{h:Heap}{H:Hp}{b:Addr}(e:h.get? b=some o)(n:H b=none):(K3 h H).get? b=some o :=
 PySem.W.hideAll_get _ e λhm=>by
  have q:(H b).isSome=true:=(Bo.mp hm).2;rw[n] at q;simp at q
theorem Qeb{h:Heap}{H:Hp}{b:Addr}(e:(K3 h H).get? b=some o):h.get? b=some o/\H b=none:=by
  have e':h.get? b=some o:=PySem.W.of_hideAll (trk h H) e;refine⟨e',?_⟩;cases q:H b with
  | none=>rfl
  | some x =>
    have hm:b∈trk h H:=Bo.mpr ⟨Ch.mpr (Aq e'),by simp[q]⟩
    have z:(K3 h H).get? b=none:=PySem.W.hideAll_none (trk h H) hm;rw[z] at e;cases e
def KG(g h:Heap)(L:Addr):List (Addr×Obj):=(List.range h.objs.size).filterMap λa=>if a=L∨(g.get? a).isSome=true then none else (h.get? a).map λo=>(a,o)
theorem VR{g h:Heap}{L:Addr}{p:Addr×Obj}(hp:p∈KG g h L):p.1≠L/\g.get? p.1=none/\h.get? p.1=some p.2:=by
  obtain⟨b,_,e⟩:=List.mem_filterMap.mp hp;split at e
  . cases e
  . rename_i hn
    cases q:h.get? b with
    | none=>rw[q] at e;simp at e
    | some u =>
      rw[q] at e;simp only[Option.map_some,Option.some.injEq] at e;subst e;refine⟨λz=>hn (.inl z),?_,q⟩;show g.get? b=none;cases r:g.get? b with
      | none=>rfl
      | some v=>exact(hn (.inr (by simp[r]))).elim
def rest(g h:Heap)(L d:Addr):List (Addr×Obj):=(KG g h L).filter λp=>decide (p.1≠d)
def Qcz{L:Addr}:News g L h (KG g h L):=λp hp=>let ⟨a,b,c⟩:=VR hp;⟨c,a,b⟩
structure Mod(K:Aa)(mg:Eo)(O8:Heap):Prop where
 kin:K.In O8
 glob:O8.Ns mainGlobals mg
 blt:∃mb,O8.Ns builtinsNs mb/\∀x:Str,x ≠ "__name__" -> mb x=bootBuiltins x
 nolimit:O8.NoLimit
structure Cx where
 prog:Program
 w:World
 K:Aa
 mg:Str->Option Value
 O8:Heap
 A:Around
 N:List Str
 s₀:Shared
 H₀:Hp
 env:Env
 outer:List Env
 stack:List Env
 ex:List Addr
 fn:Str->Bool
 calm:Bool
 pn:List (Addr×Obj)
 xe:Value->Shared->Prop
def frs(l:List Env):List Addr:=l.filterMap (·.frame)
abbrev Cx.fs(X:Cx):List Addr:=frs X.outer
def Vis(sc:Scope)(x:Str):Prop:=sc.names.lookup x=some .local∨sc.names.lookup x=some .cell∨sc.names.lookup x=some .free
def Loc(sc:Scope)(x:Str):Prop:=sc.names.lookup x=some .local∨sc.names.lookup x=some .cell
def Qiv(env:Env)(h:Heap)(m:Eo)(x:Str)(u:Value):Prop :=
 (env.kindOf x=some .local/\m x=some u)∨((env.kindOf x=some .cell∨env.kindOf x=some .free)/\∃c,env.cells.lookup x=some c/\h.IsCell c (some u))
structure Cx.Ok(X:Cx):Prop where
 mod:Mod X.K X.mg X.O8
 kind:X.env.scope.kind=.function
 glob:X.env.globals=mainGlobals
 blt:X.env.builtins=builtinsNs
 above:X.s₀.heap.objs.size<=X.env.locals
 inj:∀x y c,X.env.cells.lookup x=some c->X.env.cells.lookup y=some c->x=y
 has:∀x,(X.env.kindOf x=some .cell∨X.env.kindOf x=some .free)->∃c,X.env.cells.lookup x=some c
 cab:∀x c,X.fn x=true->X.env.cells.lookup x=some c->X.s₀.heap.objs.size<=c
 hd:X.calm=true->X.A.handled=none
 frames:X.A.frames=some X.stack
 stk:X.stack=X.outer∨(X.stack=X.env::X.outer/\X.env.frame=some X.env.locals)
 exf:∀b∈X.ex,b≠X.env.locals/\∀x c,X.env.cells.lookup x=some c->c≠b
 bs:∀b o,X.O8.get? b=some o->X.s₀.heap.get? b=some o/\X.H₀ b=none
 bsz:X.O8.objs.size<=X.s₀.heap.objs.size
 noex:∀b o,X.O8.get? b=some o->b∉X.ex
 exfs:∀b∈X.ex,b∉X.fs
 funs:X.s₀.heap.FunFrames X.O8 X.outer
 frf:∀b∈X.fs,X.H₀ b=none
structure Inv(X:Cx)(O9:Em)(σ:List (Option V))(H:Hp)(s:Shared):Prop where
 ok:X.Ok
 os:s.os=X.s₀.os
 bare:AllBare s.gens
 O8:Un X.fs X.ex X.H₀ H X.s₀.heap s.heap
 loc:∃m,s.heap.Ns X.env.locals m/\∀(i:Nat)(x:Str)(v:V),X.N[i]?=some x->σ[i]?=some (some v)->Vis X.env.scope x->∃u,RelV v u/\Qiv X.env s.heap m x u
 cell:∀x c,X.env.cells.lookup x=some c->∃v,s.heap.IsCell c v
 free:H X.env.locals=none
 freeC:∀x c,X.env.cells.lookup x=some c->H c=none
 pin:∀p∈X.pn++O9,s.heap.get? p.1=some p.2/\H p.1=none/\p.1≠X.env.locals/\p.1∉X.fs/\∀v,p.2.data≠.cell v
 hok:HOk X.prog X.w H s.heap
 len:σ.length=X.N.length
section
variable{X:Cx}{O9:Em}{σ:List (Option V)}{H H':Hp}{s:Shared}{h':Heap}
theorem Cx.Ok.nofr(ok:X.Ok){b:Addr}(e:X.O8.get? b=some o):b∉X.fs:=λhb=>by
 have:=(ok.funs.mem hb).1;rw[e] at this;cases this
theorem Inv.bs(I:Inv X O9 σ H s):∀b o,X.O8.get? b=some o->s.heap.get? b=some o/\H b=none:=λb o e =>
 ⟨I.O8.keep b o (I.ok.bs b o e).1 (I.ok.bs b o e).2 (I.ok.nofr e) (I.ok.noex b o e),I.O8.free b o (I.ok.bs b o e).1 (I.ok.bs b o e).2 (I.ok.noex b o e)⟩
def Inv.bk(I:Inv X O9 σ H s):∀b o,X.O8.get? b=some o->s.heap.get? b=some o:=λb o e=>(I.bs b o e).1
def Inv.mod(I:Inv X O9 σ H s):Mod X.K X.mg X.O8:=I.ok.mod
def Inv.kIn(I:Inv X O9 σ H s):X.K.In s.heap:=I.ok.mod.kin.keeps I.bk
theorem Inv.fr(I:Inv X O9 σ H s):∃m,Fr X.O8 X.env.locals s.heap m :=
 let ⟨m,hn,_⟩:=I.loc
 ⟨m,hn,I.bk,Bk I.ok.bsz I.ok.above⟩
def Inv.lt(I:Inv X O9 σ H s):X.env.locals < s.heap.objs.size:=let ⟨_,hn,_⟩:=I.loc;hn.lt
def Inv.sz(I:Inv X O9 σ H s):X.s₀.heap.objs.size<=s.heap.objs.size:=Bk I.ok.above (Nat.le_of_lt I.lt)
theorem Inv.nofs(I:Inv X O9 σ H s){a:Addr}(h:s.heap.objs.size<=a):a∉X.fs:=λhb=>by
 obtain⟨_,o,ho,_⟩:=I.ok.funs.mem hb;exact absurd (Az (Aq ho) (Bk I.sz h)) (Cy _)
theorem Inv.cne(I:Inv X O9 σ H s):∀x c,X.env.cells.lookup x=some c->c≠X.env.locals:=λx c e z=>by
 obtain⟨v,o,ho,hd⟩:=I.cell x c e;obtain⟨m,⟨o',es,ep,ho',hd',_⟩,_⟩:=I.loc;rw[z,ho'] at ho;cases ho;rw[hd'] at hd;cases hd
theorem Inv.funs(I:Inv X O9 σ H s):s.heap.FunFrames X.O8 X.outer:=by
  have all:∀(l:List Env),(∀b∈frs l,b∈X.fs)->X.s₀.heap.FunFrames X.O8 l->s.heap.FunFrames X.O8 l:=by
    intro l;induction l with
    | nil=>intro _ _;trivial
    | cons env r ih =>
      intro hs hl;obtain⟨hk,⟨L,o,hf,hn,ho,hd⟩,hr⟩:=hl;have hL:L∈X.fs:=hs L (by unfold frs;rw[List.filterMap_cons,hf];exact List.mem_cons_self)
      obtain⟨sl,e⟩:=I.O8.slot L o ho (I.ok.frf L hL) hL λz=>I.ok.exfs L z hL;exact⟨hk,⟨L,_,hf,hn,e,hd⟩,ih (λb hb=>hs b (by unfold frs;rw[List.filterMap_cons,hf];exact Ay _ hb)) hr⟩
  exact all X.outer (λ_ hb=>hb) I.ok.funs
theorem Inv.stack(I:Inv X O9 σ H s):s.heap.FunFrames X.O8 X.stack:=by
 rcases I.ok.stk with e | ⟨e,hf⟩
 ·rw[e];exact I.funs
 ·rw[e]
  obtain⟨m,hn,_⟩:=I.loc;refine .cons (by rw[I.ok.kind];decide) hf hn ?_ I.funs
  exact Heap.get?_none_of_le (Bk I.ok.bsz I.ok.above)
theorem Inv.stkSub(I:Inv X O9 σ H s):∀b∈frs X.stack,b∈X.env.locals::X.fs:=λb hb=>by
 rcases I.ok.stk with e | ⟨e,hf⟩
 ·rw[e] at hb;exact Ay _ hb
 ·rw[e] at hb
  unfold frs at hb;rw[List.filterMap_cons,hf] at hb;exact hb
theorem Inv.stkFree(I:Inv X O9 σ H s):∀b∈frs X.stack,H b=none:=λb hb=>by
 rcases Bm.mp (I.stkSub b hb) with e | hb
 ·rw[e];exact I.free
 ·obtain⟨_,o,ho,_⟩:=I.ok.funs.mem hb
  exact I.O8.free b o ho (I.ok.frf b hb) λz=>I.ok.exfs b z hb
theorem Inv.step{g':Array GenState}{t':Nat}{d':Drawn}{ch:Es}(I:Inv X O9 σ H s)
  (hch:∀b∈ch,(b∈X.ex∨X.s₀.heap.objs.size<=b)/\b≠X.env.locals/\(∀x c,X.env.cells.lookup x=some c->c≠b)/\∀p∈X.pn++O9,p.1≠b)
  (keep:∀b o,b≠X.env.locals->b∉X.fs->b∉ch->s.heap.get? b=some o->H b=none->h'.get? b=some o)
  (slot:∀b o,b≠X.env.locals->b∈X.fs->b∉ch->s.heap.get? b=some o->H b=none->∃sl,h'.get? b=some { o with slots:=sl }) (free:∀b o,b∉ch->s.heap.get? b=some o->H b=none->H' b=none)
  (there:∀b o,b∉ch->s.heap.get? b=some o->∃o',h'.get? b=some o')
  (tups:∀b xs,H b=some (.tup xs)->H' b=some (.tup xs)) (frzs:∀b o u,H b=some (.frz o u)->H' b=some (.frz o u)) (tbls:∀b ps,H b=some (.tbl ps)->∃more,H' b=some (.tbl (ps++more)))
  (ns:∀m,s.heap.Ns X.env.locals m->h'.Ns X.env.locals m) (hok:HOk X.prog X.w H' h') (hg:AllBare g') :
  Inv X O9 σ H' { s with heap:=h',gens:=g',drawn:=d',toks:=t' }:=by
 have neL:∀b o,X.s₀.heap.get? b=some o->b≠X.env.locals:=λb o e=>Bh (Az (Aq e) I.ok.above);have neC:∀b o,X.s₀.heap.get? b=some o->b∉X.ex->b∉ch:=λb o e hx hb=>by
  rcases(hch b hb).1 with z | z
  ·exact hx z
  ·exact absurd (Az (Aq e) z) (Cy _)
 have cellK:∀x c,X.env.cells.lookup x=some c->∀v,s.heap.IsCell c v->h'.IsCell c v:=λx c e v ⟨o,ho,hd⟩=>by
  have nch:c∉ch:=λz=>(hch c z).2.2.1 x c e rfl;by_cases hc:c∈X.fs
  ·obtain⟨sl,q⟩:=slot c o (I.cne x c e) hc nch ho (I.freeC x c e)
   exact⟨_,q,hd⟩
  ·exact⟨o,keep c o (I.cne x c e) hc nch ho (I.freeC x c e),hd⟩
 refine⟨I.ok,I.os,hg,⟨λb o e n hb hx=>?_,λb o e n hb hx=>?_,λb o e n hx=>?_,λb o e hx=>?_,λb xs e=>tups b xs (I.O8.tups b xs e),λb o xs e=>frzs b o xs (I.O8.frzs b o xs e),λb ps e=>?_⟩,?_,λx c e=>?_,?_,λx c e=>?_,λp hp=>?_,hok,I.len⟩
 ·exact keep b o (neL b o e) hb (neC b o e hx) (I.O8.keep b o e n hb hx) (I.O8.free b o e n hx)
 ·obtain⟨sl,e1⟩:=I.O8.slot b o e n hb hx
  obtain⟨sl',e2⟩:=slot b _ (neL b o e) hb (neC b o e hx) e1 (I.O8.free b o e n hx);exact⟨sl',e2⟩
 ·obtain⟨o',e1⟩:=I.O8.there b o e hx
  exact free b o' (neC b o e hx) e1 (I.O8.free b o e n hx)
 ·obtain⟨o',e1⟩:=I.O8.there b o e hx
  exact there b o' (neC b o e hx) e1
 ·obtain⟨m1,e1⟩:=I.O8.tbls b ps e
  obtain⟨m2,e2⟩:=tbls b _ e1;exact⟨m1++m2,by rw[e2,Array.append_assoc]⟩
 ·obtain⟨m,hn,hl⟩:=I.loc
  refine⟨m,ns m hn,λi x v e1 e2 e3=>?_⟩;obtain⟨u,r,l⟩:=hl i x v e1 e2 e3;refine⟨u,r,?_⟩;rcases l with l | ⟨k,c,e,z⟩
  ·exact .inl l
  ·exact .inr ⟨k,c,e,cellK x c e _ z⟩
 ·obtain⟨v,z⟩:=I.cell x c e
  exact⟨v,cellK x c e v z⟩
 ·obtain⟨m,⟨o,_,_,ho,_⟩,_⟩:=I.loc
  exact free _ o (λz=>(hch _ z).2.1 rfl) ho I.free
 ·obtain⟨v,o,ho,hd⟩:=I.cell x c e
  exact free c o (λz=>(hch c z).2.2.1 x c e rfl) ho (I.freeC x c e)
 ·obtain⟨e,n,ne,nf,d⟩:=I.pin p hp
  have nch:p.1∉ch:=λz=>(hch p.1 z).2.2.2 p hp rfl;exact⟨keep p.1 p.2 ne nf nch e n,free p.1 p.2 nch e n,ne,nf,d⟩
theorem Inv.un{t':Nat}(I:Inv X O9 σ H s)(u:Un X.fs [] H H' s.heap h')(hok:HOk X.prog X.w H' h'):Inv X O9 σ H' { s with heap:=h',toks:=t' }:=by
 obtain⟨m,⟨o,es,ep,ho,r⟩,_⟩:=id I.loc;obtain⟨sl,hL⟩:=u.any ho I.free (by simp)
 exact I.step (g':=s.gens) (d':=s.drawn) (ch:=[]) (λ_ z=>nomatch z) (λb o _ hb _ e n=>u.keep b o e n hb (by simp)) (λb o _ hb _ e n=>u.slot b o e n hb (by simp)) (λb o _ e n=>u.free b o e n (by simp)) (λb o _ e=>u.there b o e (by simp)) u.tups u.frzs u.tbls (λm' hm=>by
  obtain⟨o',es',ep',ho',r'⟩:=hm;rw[ho] at ho';cases ho';exact⟨_,es',ep',hL,r'⟩) hok I.bare
theorem Inv.call{g':Array GenState}{t':Nat}{d':Drawn}(I:Inv X O9 σ H s)(u:Un (frs X.stack) ch H H' s.heap h')(hok:HOk X.prog X.w H' h')(hg:AllBare g')
  (hch:∀b∈ch,(b∈X.ex∨X.s₀.heap.objs.size<=b)/\b≠X.env.locals/\(∀x c,X.env.cells.lookup x=some c->c≠b)/\∀p∈X.pn++O9,p.1≠b) :
  Inv X O9 σ H' { s with heap:=h',gens:=g',drawn:=d',toks:=t' }:=by
 obtain⟨m,⟨o,es,ep,ho,r⟩,_⟩:=id I.loc;obtain⟨sl,hL⟩:=u.any ho I.free λz=>(hch _ z).2.1 rfl;exact I.step (ch:=ch) hch (λb o hL hb hc e n=>u.keep b o e n (λz=>(Bm.mp (I.stkSub b z)).elim hL hb) hc) (λb o _ _ hc e n=>u.any e n hc) (λb o hc e n=>u.free b o e n hc) (λb o hc e=>u.there b o e hc) u.tups u.frzs u.tbls (λm' hm=>by
  obtain⟨o',es',ep',ho',r'⟩:=hm;rw[ho] at ho';cases ho';exact⟨_,es',ep',hL,r'⟩) hok hg
theorem Inv.turned{t':Nat}{it:Addr}(I:Inv X O9 σ H s)(k:∀b o,b≠it->s.heap.get? b=some o->h'.get? b=some o)(hn:H it=none)(hL:it≠X.env.locals)
  (h1:it∈X.ex∨X.s₀.heap.objs.size<=it) (h2:∀x c,X.env.cells.lookup x=some c->c≠it) (h3:∀p∈X.pn++O9,p.1≠it):Inv X O9 σ H { s with heap:=h',toks:=t' }:=by
 have nit:∀b u,H b=some u->b≠it:=λb u e z=>by rw[z,hn] at e;cases e
 refine I.step (g':=s.gens) (d':=s.drawn) (ch:=[it]) (λb hb=>?_) (λb o _ _ hc e _=>k b o (λz=>hc (by simp[z])) e) (λb o _ _ hc e _=>⟨o.slots,k b o (λz=>hc (by simp[z])) e⟩) (λ_ _ _ _ n=>n)
  (λb o hc e=>⟨o,k b o (λz=>hc (by simp[z])) e⟩) (λ_ _ e=>e) (λ_ _ _ e=>e) (λb ps e=>⟨#[],by rw[e];simp⟩) (λm hm=>?_) (λb u e=>?_) I.bare
 ·have e:b=it:=by simpa using hb
  subst e;exact⟨h1,hL,h2,h3⟩
 ·obtain⟨o,es,ep,ho,r⟩:=hm
  exact⟨o,es,ep,k _ o (Ne.symm hL) ho,r⟩
 ·refine(I.hok b u e).stay (λc v hc q=>k c v ?_ q) (λ_ q=>q) λ_ _ q=>q
  rcases hc with z | z
  ·rw[z];exact nit b u e
  ·exact nit c _ z
def Inv.tok(I:Inv X O9 σ H s)(t:Nat):Inv X O9 σ H { s with toks:=t }:=I.un (h':=s.heap) (t':=t) Un.refl I.hok
def Inv.kept{t':Nat}(I:Inv X O9 σ H s)(k:∀b u,s.heap.get? b=some u->h'.get? b=some u):Inv X O9 σ H { s with heap:=h',toks:=t' }:=I.un (Un.kept k) (I.hok.kept k)
theorem Inv.laid{a:Addr}{t':Nat}(I:Inv X O9 σ H s)(k:∀b u,s.heap.get? b=some u->h'.get? b=some u)(hp:s.heap.objs.size<=a)(new:ObjOk X.prog X.w (upd H a o) h' a o):
  Inv X O9 σ (upd H a o) { s with heap:=h',toks:=t' }:=I.un (Un.laid k hp (I.hok.fresh hp)) (I.hok.laid k hp new)
theorem Inv.write{x e:Addr}{o:HO}{t':Nat}(I:Inv X O9 σ H s)(mu:Mut (H x))(he:e=x∨H e=some (.own x))(k:∀b u,b≠e->s.heap.get? b=some u->h'.get? b=some u)(heo:∃u,h'.get? e=some u)
  (new:ObjOk X.prog X.w (upd H x o) h' x o):Inv X O9 σ (upd H x o) { s with heap:=h',toks:=t' }:=I.un (Un.write mu he k heo) (I.hok.write mu he k heo new)
theorem Inv.pins_of(I:Inv X O9 σ H s)(h:∀p∈pins',s.heap.get? p.1=some p.2/\H p.1=none/\p.1≠X.env.locals/\p.1∉X.fs/\∀v,p.2.data≠.cell v):Inv X pins' σ H s :=
 ⟨I.ok,I.os,I.bare,I.O8,I.loc,I.cell,I.free,I.freeC,λp hp=>(Aj.mp hp).elim (λz=>I.pin p (A8 _ z)) (h p),I.hok,I.len⟩
theorem vE{N:List Str}(hN:N.Nodup){i j:Nat}{x:Str}(a:N[i]?=some x)(b:N[j]?=some x):i=j:=by
 obtain⟨h1,e1⟩:=Ad.mp a;obtain⟨h2,e2⟩:=Ad.mp b;exact(List.getElem_inj hN).mp (e1.trans e2.symm)
theorem Ky{M:Model}{A:Around}{E:Ek}{i:Nat}{x:Str}{Q:Unit->Shared->Prop}(I:Inv X O9 σ H s)(hN:X.N.Nodup)(hi:X.N[i]?=some x)(hx:Loc X.env.scope x)(r:RelV v u)
  (h:∀s',Inv X O9 (σ.set i (some v)) H s'->(∃a,Heap.SameBut a s.heap s'.heap/\(a=X.env.locals∨X.env.cells.lookup x=some a))->Q () s') (hf:X.fn x=true∨X.env.scope.names.lookup x=some .local:=by first | exact .inl rfl | exact .inr rfl | assumption):wpAny M A (storeName X.env x u) Q E s:=by
 obtain⟨m,hn,hl⟩:=id I.loc;have hcls:(X.env.scope.kind==.class||(X.env.scope.kind==.module&&X.env.locals != X.env.globals))=false:=by rw[I.ok.kind];rfl
 have hiσ:i < σ.length:=by rw[I.len];exact(Ad.mp hi).1
 have cne:=I.cne;have tracked:∀{a:Addr}{h':Heap},(∃o,s.heap.get? a=some o/\H a=none)->Heap.SameBut a s.heap h'->HOk X.prog X.w H h':=λ{a h'} ha hs b ob e=>by
  obtain⟨_,_,hfree⟩:=ha;refine(I.hok b ob e).stay (λc w' hc q=>(hs.2 c ?_).trans q) (λ_ q=>q) λ_ _ q=>q;rintro rfl;rcases hc with rfl | hc
  ·rw[hfree] at e;cases e
  ·rw[hfree] at hc;cases hc
 rcases hx with hk | hk
 ·refine wpAny_storeName_local hk hn (λh' hn' hs=>?_) hcls
  obtain⟨oL,_,_,hoL,_⟩:=id hn;refine h _ ⟨I.ok,I.os,I.bare,⟨λb o e n hb hx=>?_,λb o e n hb hx=>?_,I.O8.free,λb o e hx=>?_,I.O8.tups,I.O8.frzs,I.O8.tbls⟩,⟨_,hn',λj y v' e1 e2 e3=>?_⟩,λy c e=>?_,I.free,I.freeC,λp hp=>?_,tracked ⟨oL,hoL,I.free⟩ hs,by simpa using I.len⟩ ⟨_,hs,.inl rfl⟩
  ·exact(hs.2 b (Bh (Az (Aq e) I.ok.above))).trans (I.O8.keep b o e n hb hx)
  ·obtain⟨sl,e1⟩:=I.O8.slot b o e n hb hx
   exact⟨sl,(hs.2 b (Bh (Az (Aq e) I.ok.above))).trans e1⟩
  ·obtain⟨o',e1⟩:=I.O8.there b o e hx
   exact⟨o',(hs.2 b (Bh (Az (Aq e) I.ok.above))).trans e1⟩
  ·by_cases hj:j=i
   ·subst hj
    rw[hi] at e1;cases e1;rw[Av hiσ] at e2;cases e2;exact⟨u,r,.inl ⟨hk,by simp⟩⟩
   ·rw[An (Ne.symm hj)] at e2
    obtain⟨u',r',q⟩:=hl j y v' e1 e2 e3;refine⟨u',r',?_⟩;rcases q with ⟨k,e⟩ | ⟨k,c,e,z⟩
    ·refine .inl ⟨k,?_⟩
     have:y≠x:=λe=>hj (vE hN e1 (e▸hi));simp[this,e]
    ·exact .inr ⟨k,c,e,z.sameBut hs (cne y c e)⟩
  ·obtain⟨w',z⟩:=I.cell y c e
   exact⟨w',z.sameBut hs (cne y c e)⟩
  ·obtain⟨e,n,ne,nf,d⟩:=I.pin p hp
   exact⟨(hs.2 p.1 ne).trans e,n,ne,nf,d⟩
 ·have hfn:X.fn x=true:=by
   rcases hf with z | z
   ·exact z
   ·rw[z] at hk;cases hk
  obtain⟨c,hc⟩:=I.ok.has x (.inl hk);obtain⟨w',z⟩:=I.cell x c hc;refine wpAny_storeName_cell I.ok.kind hk hc z (λh' hc' hs=>?_);obtain⟨oc,hoc,hocd⟩:=id z;refine h { s with heap:=h' } ⟨I.ok,I.os,I.bare,⟨λb o e n hb hx=>?_,λb o e n hb hx=>?_,I.O8.free,λb o e hx=>?_,I.O8.tups,I.O8.frzs,I.O8.tbls⟩,⟨m,hn.sameBut hs (Ne.symm (cne x c hc)),λj y v' e1 e2 e3=>?_⟩,λy c' e=>?_,I.free,I.freeC,λp hp=>?_,tracked ⟨oc,hoc,I.freeC x c hc⟩ hs,by simpa using I.len⟩ ⟨c,hs,.inr hc⟩
  ·exact(hs.2 b (Bh (Az (Aq e) (I.ok.cab x c hfn hc)))).trans (I.O8.keep b o e n hb hx)
  ·obtain⟨sl,e1⟩:=I.O8.slot b o e n hb hx
   exact⟨sl,(hs.2 b (Bh (Az (Aq e) (I.ok.cab x c hfn hc)))).trans e1⟩
  ·obtain⟨o',e1⟩:=I.O8.there b o e hx
   exact⟨o',(hs.2 b (Bh (Az (Aq e) (I.ok.cab x c hfn hc)))).trans e1⟩
  ·by_cases hj:j=i
   ·subst hj
    rw[hi] at e1;cases e1;rw[Av hiσ] at e2;cases e2;exact⟨u,r,.inr ⟨.inl hk,c,hc,hc'⟩⟩
   ·rw[An (Ne.symm hj)] at e2
    obtain⟨u',r',q⟩:=hl j y v' e1 e2 e3;refine⟨u',r',?_⟩;rcases q with q | ⟨k,c',e,z'⟩
    ·exact .inl q
    ·refine .inr ⟨k,c',e,z'.sameBut hs ?_⟩
     rintro rfl;exact hj (vE hN e1 (I.ok.inj _ _ _ e hc▸hi))
  ·by_cases hcc:c'=c
   ·subst hcc;exact⟨_,hc'⟩
   ·obtain⟨w2,z2⟩:=I.cell y c' e
    exact⟨w2,z2.sameBut hs hcc⟩
  ·obtain⟨e,n,ne,nf,d⟩:=I.pin p hp
   refine⟨(hs.2 p.1 ?_).trans e,n,ne,nf,d⟩;intro q;rw[q,hoc] at e;have q':oc=p.2:=Am e;exact d w' (by rw[<- q'];exact hocd)
theorem v8{M:Model}{A:Around}{E:Ek}{i:Nat}{x:Str}{Q:Unit->Shared->Prop}(I:Inv X O9 σ H s)(hN:X.N.Nodup)(hi:X.N[i]?=some x)(hx:Loc X.env.scope x)(r:RelV v u)
  (h:∀s',Inv X O9 (σ.set i (some v)) H s'->Q () s') (hf:X.fn x=true∨X.env.scope.names.lookup x=some .local:=by first | exact .inl rfl | exact .inr rfl | assumption):wpAny M A (storeName X.env x u) Q E s :=
 Ky I hN hi hx r (λs' I' _=>h s' I') hf
theorem Inv.call'{s':Shared}(I:Inv X O9 σ H s)(ho:s'.os=s.os)(u:Un (frs X.stack) ch H H' s.heap s'.heap)(hok:HOk X.prog X.w H' s'.heap)(hg:AllBare s'.gens)
  (hch:∀b∈ch,(b∈X.ex∨X.s₀.heap.objs.size<=b)/\b≠X.env.locals/\(∀x c,X.env.cells.lookup x=some c->c≠b)/\∀p∈X.pn++O9,p.1≠b):Inv X O9 σ H' s':=by
 obtain⟨h',g',d',t',o'⟩:=s';have e:o'=s.os:=ho;subst e;exact I.call (g':=g') (t':=t') (d':=d') u hok hg hch
end
abbrev XK:=Value->Option Addr->Hp->Prop
abbrev St:=List (Option V)
abbrev VK:=V->Hp->Prop
abbrev TE:=St->Hp->VK->Prop
abbrev TT:=St->Hp->(Bool->Hp->Prop)->Prop
abbrev TA:=St->Hp->(List V->Hp->Prop)->Prop
structure KD where
 nx:St->Hp->Prop
 rt:VK
 bk:St->Hp->Prop:=λ_ _=>False
 ct:St->Hp->Prop:=λ_ _=>False
abbrev TS:=KD->St->Hp->Prop
def EP(X:Cx)(O9:Em)(σ:St)(Q:VK)(u:Value)(s':Shared):Prop:=∃v H',Inv X O9 σ H' s'/\RelV v u/\Q v H'
def TP(X:Cx)(O9:Em)(σ:St)(Q:Bool->Hp->Prop)(b:Bool)(s':Shared):Prop:=∃H',Inv X O9 σ H' s'/\Q b H'
def AP(X:Cx)(O9:Em)(σ:St)(Q:List V->Hp->Prop)(us:List Value)(s':Shared):Prop:=∃vs H',Inv X O9 σ H' s'/\Vals vs us/\Q vs H'
def SP(X:Cx)(O9:Em)(D:KD)(f:Flow)(s':Shared):Prop :=
 match f with
 | .next=>∃σ' H',Inv X O9 σ' H' s'/\D.nx σ' H'
 | .brk=>∃σ' H',Inv X O9 σ' H' s'/\D.bk σ' H'
 | .cont=>∃σ' H',Inv X O9 σ' H' s'/\D.ct σ' H'
 | .ret u=>∃v σ' H',Inv X O9 σ' H' s'/\RelV v u/\D.rt v H'
def PE(X:Cx)(e:Expr)(t:TE):Prop :=
 ∀(O9:Em)(s:Shared)(σ:St)(H:Hp)(Q:VK),Inv X O9 σ H s->t σ H Q->wpAny (model X.prog X.w) X.A (eval e X.env) (EP X O9 σ Q) X.xe s
def PT(X:Cx)(e:Expr)(t:TT):Prop :=
 ∀(O9:Em)(s:Shared)(σ:St)(H:Hp)(Q:Bool->Hp->Prop),Inv X O9 σ H s->t σ H Q->wpAny (model X.prog X.w) X.A (isTrue e X.env (eval e X.env)) (TP X O9 σ Q) X.xe s
def PW(X:Cx)(e:Expr)(t:TT):Prop :=
 ∀(whole:Sem Value)(O9:Em)(s:Shared)(σ:St)(H:Hp)(Q:Bool->Hp->Prop),Inv X O9 σ H s->t σ H Q->wpAny (model X.prog X.w) X.A (isTrue e X.env whole) (TP X O9 σ Q) X.xe s
def PA(X:Cx)(es:List Expr)(t:TA):Prop :=
 ∀(pos:Pos)(O9:Em)(s:Shared)(σ:St)(H:Hp)(Q:List V->Hp->Prop),Inv X O9 σ H s->t σ H Q->wpAny (model X.prog X.w) X.A (spliced (backTo pos (starEach es X.env))) (AP X O9 σ Q) X.xe s
def PS(X:Cx)(st:Stmt)(t:TS):Prop :=
 ∀(O9:Em)(s:Shared)(σ:St)(H:Hp)(D:KD),Inv X O9 σ H s->t D σ H->wpAny (model X.prog X.w) X.A (exec st X.env) (SP X O9 D) X.xe s
def PSs(X:Cx)(st:List Stmt)(t:TS):Prop :=
 ∀(O9:Em)(s:Shared)(σ:St)(H:Hp)(D:KD),Inv X O9 σ H s->t D σ H->wpAny (model X.prog X.w) X.A (execs st X.env) (SP X O9 D) X.xe s
def thn{α:Type}{t:Sem α}{Q Q':α->Shared->Prop}(h:wpAny M A t Q E s)(hQ:∀a s,Q a s->Q' a s):wpAny M A t Q' E s:=wpAny_mono h hQ λ_ _ x=>x
section
variable{X:Cx}
theorem bin{ta tb:TE}(ha:PE X a ta)(hb:PE X b tb){R:V->V->Hp->Prop}(I:Inv X O9 σ H s)(h:ta σ H λx H1=>tb σ H1 λy H2=>R x y H2)
  {α:Type} {Q:α->Shared->Prop} {f:Value->Value->Sem α}
  (hf:∀v u s2 x y H2,Inv X O9 σ H2 s2->RelV x v->RelV y u->R x y H2->wpAny (model X.prog X.w) X.A (f v u) Q X.xe s2) :
  wpAny (model X.prog X.w) X.A (eval a X.env) (λv s₁=>wpAny (model X.prog X.w) X.A (eval b X.env) (λu s₂=>wpAny (model X.prog X.w) X.A (f v u) Q X.xe s₂) X.xe s₁) X.xe s:=by
 refine thn (ha O9 s σ H _ I h) λv s1 ⟨x,H1,I1,r1,q1⟩=>?_;refine thn (hb O9 s1 σ H1 _ I1 q1) λu s2 ⟨y,H2,I2,r2,q2⟩=>?_;exact hf v u s2 x y H2 I2 r1 r2 q2
def QiX(i:Nat):TE:=λσ H Q=>∃v,σ[i]?=some (some v)/\Q v H
def tC(v:V):TE:=λ_ H Q=>Q v H
theorem Qgx{i:Nat}{x:Str}{pos:Pos}(hN:X.N[i]?=some x)(hv:Vis X.env.scope x)(hd:(x==("__debug__" : Str))=false:=by decide)(hcd:(x==("__classdict__" : Str))=false:=by decide):PE X (.Name x pos) (QiX i):=by
 intro O9 s σ H Q I h;obtain⟨v,e,h⟩:=h;obtain⟨m,hn,hl⟩:=I.loc;obtain⟨u,r,l⟩:=hl i x v hN e hv;have fin:EP X O9 σ Q u s:=⟨v,H,I,r,h⟩;rcases l with ⟨hk,hm⟩ | ⟨hk,c,hc,hcell⟩
 ·exact wpAny_Name (wpAny_loadName_local I.ok.kind hk hn hm fin) hd
 ·rcases hk with hk | hk
  ·exact wpAny_Name (wpAny_loadName_cell I.ok.kind hk hc hcell fin) hd
  ·exact wpAny_Name (wpAny_loadName_free I.ok.kind hk hc hcell fin hcd) hd
def Qgr{i j pos}:PE X (.Constant (.int i) j pos) (tC (.int i)):=λ_ _ _ H _ I h=>wpAny_Constant_int ⟨.int i,H,I.tok _,⟨_,rfl⟩,h⟩
def QhX{b j pos}:PE X (.Constant (.bool b) j pos) (tC (.bl b)):=λ_ _ _ H _ I h=>Constant_bool ⟨.bl b,H,I,rfl,h⟩
def Qgs{j pos}:PE X (.Constant .none j pos) (tC .non):=λ_ _ _ H _ I h=>Constant_none ⟨.non,H,I,rfl,h⟩
def Qgv{x j pos}:PE X (.Constant (.str x) j pos) (tC (.str x)):=λ_ _ _ H _ I h=>Calls.Constant_str ⟨.str x,H,I.tok _,⟨_,rfl⟩,h⟩
def Gl(X:Cx)(x:Str):Prop:=X.env.kindOf x=some .globalImplicit
theorem Gf{E:Ek}{x:Str}{pos:Pos}{Q:Ek}(I:Inv X O9 σ H s)(hg:Gl X x)(hm:X.mg x=some u)(h:Q u s)
  (hd:(x==("__debug__" : Str))=false:=by decide):wpAny (model X.prog X.w) X.A (eval (.Name x pos) X.env) Q E s :=
 Calls.Name_function_global I.ok.kind hg (Calls.loadGlobal_global (by rw[I.ok.glob];exact I.mod.glob.keeps I.bk) hm h) hd
theorem Ge{E:Ek}{x:Str}{pos:Pos}{Q:Ek}(I:Inv X O9 σ H s)(hg:Gl X x)(hm:X.mg x=none)(hv:bootBuiltins x=some u)(h:Q u s)
  (hn:x ≠ "__name__" := by decide) (hd:(x==("__debug__" : Str))=false:=by decide):wpAny (model X.prog X.w) X.A (eval (.Name x pos) X.env) Q E s:=by
 obtain⟨mb,h1,h2⟩:=I.mod.blt;exact Calls.Name_function_global I.ok.kind hg (Calls.loadGlobal_builtin (by rw[I.ok.glob];exact I.mod.glob.keeps I.bk) hm (by rw[I.ok.blt];exact h1.keeps I.bk) ((h2 x hn).trans hv) h) hd
theorem kW{x:Str}{pos:Pos}(hg:Gl X x)(hm:X.mg x=some u)(r:RelV v u)(hd:(x==("__debug__" : Str))=false:=by decide):PE X (.Name x pos) (tC v) :=
 λ_ _ _ H _ I h=>Gf I hg hm ⟨v,H,I,r,h⟩ hd
variable{a b:Expr}{ta tb:TE}{pos:Pos}
def PC(X:Cx)(op:CmpOp)(a b:Expr)(t:TE):Prop :=
  ∀(O9 : List (Addr × Obj))(s : Shared)(σ : St)(H : Hp)(Q : VK), Inv X O9 σ H s -> t σ H Q ->
    wpAny (model X.prog X.w) X.A (eval a X.env) (λv s₁=>wpAny (model X.prog X.w) X.A (eval b X.env) (λu s₂=>wpAny (model X.prog X.w) X.A (compareOp op v u) (EP X O9 σ Q) X.xe s₂) X.xe s₁) X.xe s
theorem QcA(b:Expr){op:CmpOp}(h:op≠.In)(h2:op≠.NotIn):behindInMarks op b=false:=by
 have e1:(op==CmpOp.In)=false:=by cases op<;>first | rfl | exact absurd rfl h
 have e2:(op==CmpOp.NotIn)=false:=by cases op<;>first | rfl | exact absurd rfl h2
 cases b<;>simp[behindInMarks,e1,e2]
def tB(t:TE):TT:=λσ H Q=>t σ H λx H1=>∃c,x=.bl c/\Q c H1
theorem QiG{op:CmpOp}(h:PC X op a b t)(h1:behindInMarks op b=false:=by first | exact QcA _ (by decide) (by decide) | rfl):PT X (.Compare a [op] [b] pos) (tB t):=by
 intro O9 s σ H Q I hw;refine wpAny_isTrue_Compare1 (thn (h O9 s σ H _ I hw) λv s1 h1=>thn h1 λu s2 h2=>thn h2 λc s3 ⟨x,H1,I1,r1,q1⟩=>?_) h1;obtain⟨d,rfl,q⟩:=q1;cases r1;exact wpAny_truthy_bool ⟨H1,I1,q⟩
theorem QgI{e:Expr}(h:PE X e t)(he:∀whole,isTrue e X.env whole=(do let v <- whole;standAt e.pos;holding [v] (truthy v)):=by intro _;rfl):PT X e (tB t):=by
 intro O9 s σ H Q I hw;refine isTrue_plain (thn (h O9 s σ H _ I hw) λv s1 ⟨x,H1,I1,r1,q1⟩=>?_) (he _);obtain⟨d,rfl,q⟩:=q1;cases r1;exact wpAny_truthy_bool ⟨H1,I1,q⟩
variable{tA tB':TT}{rest:List Expr}
def QiO(t u:TT):TT:=λσ H Q=>t σ H λc H1=>if c=true then u σ H1 Q else Q false H1
def tOr(t u:TT):TT:=λσ H Q=>t σ H λc H1=>if c=true then Q true H1 else u σ H1 Q
def QiT(t:TT):TT:=λσ H Q=>t σ H λc H1=>Q (!c) H1
theorem QeG(ha:PT X a tA):PW X (.BoolOp .And [a] pos) tA:=by
 intro wh O9 s σ H Q I h;refine isTrue_and (thn (ha O9 s σ H Q I h) λc s1 e=>?_);cases c with
 | true=>exact isTrue_and_nil e
 | false=>exact e
theorem QgL(ha:PT X a tA):PW X (.BoolOp .Or [a] pos) tA:=by
 intro wh O9 s σ H Q I h;refine isTrue_or (thn (ha O9 s σ H Q I h) λc s1 e=>?_);cases c with
 | false=>exact isTrue_or_nil e
 | true=>exact e
theorem QgK(ha:PT X a tA)(hb:PW X (.BoolOp .And (b::rest) pos) tB'):PW X (.BoolOp .And (a::b::rest) pos) (QiO tA tB'):=by
 intro wh O9 s σ H Q I h;refine isTrue_and (thn (ha O9 s σ H _ I h) λc s1 ⟨H1,I1,q1⟩=>?_);cases c with
 | true=>exact hb wh O9 s1 σ H1 Q I1 q1
 | false=>exact⟨H1,I1,q1⟩
theorem Qh3(ha:PT X a tA)(hb:PW X (.BoolOp .Or (b::rest) pos) tB'):PW X (.BoolOp .Or (a::b::rest) pos) (tOr tA tB'):=by
 intro wh O9 s σ H Q I h;refine isTrue_or (thn (ha O9 s σ H _ I h) λc s1 ⟨H1,I1,q1⟩=>?_);cases c with
 | true=>exact⟨H1,I1,q1⟩
 | false=>exact hb wh O9 s1 σ H1 Q I1 q1
theorem QgH(ha:PT X a tA):PT X (.UnaryOp .Not a pos) (QiT tA):=by
 intro O9 s σ H Q I h;exact isTrue_not (ha O9 s σ H (λc H1=>Q (!c) H1) I h)
def Qid(ta tb:TE):TE:=λσ H Q=>ta σ H λx H1=>∃c,x=.bl c/\if c=true then tb σ H1 Q else Q (.bl false) H1
def QiU(ta tb:TE):TE:=λσ H Q=>ta σ H λx H1=>∃c,x=.bl c/\if c=true then Q (.bl true) H1 else tb σ H1 Q
def Qij(ta:TE):TE:=λσ H Q=>ta σ H λx H1=>∃c,x=.bl c/\Q (.bl (!c)) H1
def Qgu{op}(h:PE X a t):PE X (.BoolOp op [a] pos) t:=λO9 s σ H Q I hw=>BoolOp_one (h O9 s σ H Q I hw)
theorem Qgp(ha:PE X a ta)(hb:PE X (.BoolOp .And (b::rest) pos) tb):PE X (.BoolOp .And (a::b::rest) pos) (Qid ta tb):=by
 intro O9 s σ H Q I h;refine BoolOp_and (thn (ha O9 s σ H _ I h) λv s1 ⟨x,H1,I1,r1,q1⟩=>?_);obtain⟨c,rfl,q1⟩:=q1;cases r1;refine wpAny_truthy_bool ?_;cases c with
 | true=>exact hb O9 s1 σ H1 Q I1 q1
 | false=>exact⟨.bl false,H1,I1,rfl,q1⟩
theorem Qh0(ha:PE X a ta)(hb:PE X (.BoolOp .Or (b::rest) pos) tb):PE X (.BoolOp .Or (a::b::rest) pos) (QiU ta tb):=by
 intro O9 s σ H Q I h;refine BoolOp_or (thn (ha O9 s σ H _ I h) λv s1 ⟨x,H1,I1,r1,q1⟩=>?_);obtain⟨c,rfl,q1⟩:=q1;cases r1;refine wpAny_truthy_bool ?_;cases c with
 | false=>exact hb O9 s1 σ H1 Q I1 q1
 | true=>exact⟨.bl true,H1,I1,rfl,q1⟩
theorem Qgt(ha:PE X a ta):PE X (.UnaryOp .Not a pos) (Qij ta):=by
 intro O9 s σ H Q I h;refine UnaryOp_ (thn (ha O9 s σ H _ I h) λv s1 ⟨x,H1,I1,r1,q1⟩=>?_);obtain⟨c,rfl,q1⟩:=q1;cases r1;exact not_of (wpAny_truthy_bool ⟨.bl (!c),H1,I1,rfl,q1⟩)
def tIf(t:TT)(ta tb:TE):TE:=λσ H Q=>t σ H λc H1=>if c=true then ta σ H1 Q else tb σ H1 Q
theorem QcK(hc:PT X c tA)(ha:PE X a ta)(hb:PE X b tb):PE X (.IfExp c a b pos) (tIf tA ta tb):=by
 intro O9 s σ H Q I h;refine wpAny_IfExp (thn (hc O9 s σ H _ I h) λd s1 ⟨H1,I1,q1⟩=>?_);cases d with
 | true=>exact ha O9 s1 σ H1 Q I1 q1
 | false=>exact hb O9 s1 σ H1 Q I1 q1
end
def SqL(K:Aa)(H:Hp)(a:Addr)(xs:List V):Prop :=
 Rd H a (.lst xs) ∨
  ∃(o:Obj) (its:Array Value) (n:Nat),K.lookup a=some o/\o.cls=.type "list" /\ o.dict=none/\o.data=.seq its n/\its.size<=sizeLine/\Vals xs its.toList
def SqT(K:Aa)(H:Hp)(a:Addr)(xs:List V):Prop :=
 Rd H a (.tup xs) ∨
  ∃(o:Obj) (its:Array Value) (n:Nat),K.lookup a=some o/\o.cls=.type "tuple" /\ o.data=.seq its n/\its.size<=sizeLine/\Vals xs its.toList
def Qiw:Value->Option V
 | .none=>some .non
 | .bool b=>some (.bl b)
 | .int i _=>some (.int i)
 | .str x _=>some (.str x)
 | .bytes b _=>some (.byt b)
 | .float b _=>some (.flt b)
 | .ref a=>some (.ref a)
 | .type n=>some (.ty n)
 | _=>none
theorem RelV.abs(r:RelV x u):Qiw u=some x:=by
 cases x with
 | non=>cases r;rfl
 | bl _=>cases r;rfl
 | int _=>obtain⟨t,rfl⟩:=r;rfl
 | str _=>obtain⟨t,rfl⟩:=r;rfl
 | byt _=>obtain⟨t,rfl⟩:=r;rfl
 | flt _=>obtain⟨t,rfl⟩:=r;rfl
 | ref _=>cases r;rfl
 | ty _=>cases r;rfl
def RelV.inj{x y:V}(r:RelV x u)(q:RelV y u):x=y:=Am (r.abs.symm.trans q.abs)
theorem Vals.inj:∀{xs ys:List V}{us:List Value},Vals xs us->Vals ys us->xs=ys
 | _,_,_,.nil,.nil=>rfl
 | _,_,_,.cons r t,.cons r' t'=>by rw[r.inj r',Vals.inj t t']
section
variable{X:Cx}{O9:Em}{σ:St}{H:Hp}{s:Shared}{a:Addr}{xs ys:List V}
def SqL.of{K:Aa}(h:H a=some (.lst xs)):SqL K H a xs:=.inl (.inl h)
def SqT.of{K:Aa}(h:H a=some (.tup xs)):SqT K H a xs:=.inl (.inl h)
theorem Inv.list(I:Inv X O9 σ H s)(h:SqL X.K H a xs):∃its:List Value,Vals xs its/\PlainL s.heap a its.toArray/\xs.length<=sizeLine:=by
 rcases h with h | ⟨o,its,n,hk,hc,hd,hs,hz,r⟩
 ·obtain⟨z,its,n,r,e⟩:=h.ok I.hok
  exact⟨its,r,⟨_,n,e,rfl,rfl,rfl⟩,z⟩
 ·refine⟨its.toList,r,⟨o,n,I.kIn a o hk,hc,hd,by simpa using hs⟩,?_⟩
  have e:=r.length;simp only[Cj] at e;lia
theorem Inv.tuple(I:Inv X O9 σ H s)(h:SqT X.K H a xs):∃its:List Value,Vals xs its/\IsTup s.heap a its.toArray/\xs.length<=sizeLine:=by
 rcases h with h | ⟨o,its,n,hk,hc,hs,hz,r⟩
 ·obtain⟨z,its,r,p⟩:=h.ok I.hok
  exact⟨its,r,p,z⟩
 ·refine⟨its.toList,r,⟨o,I.kIn a o hk,hc,n,by simpa using hs⟩,?_⟩
  have e:=r.length;simp only[Cj] at e;lia
theorem Inv.list_inj(I:Inv X O9 σ H s)(h:SqL X.K H a xs)(h':SqL X.K H a ys):xs=ys:=by
 obtain⟨its,r,⟨o,n,e,_,_,d⟩,_⟩:=I.list h;obtain⟨its',r',⟨o',n',e',_,_,d'⟩,_⟩:=I.list h';rw[e] at e';cases e';rw[d] at d';injection d' with d1 _;have:its=its':=by simpa using congrArg Array.toList d1
 subst this;exact r.inj r'
theorem Inv.tuple_inj(I:Inv X O9 σ H s)(h:SqT X.K H a xs)(h':SqT X.K H a ys):xs=ys:=by
 obtain⟨its,r,⟨o,e,_,n,d⟩,_⟩:=I.tuple h;obtain⟨its',r',⟨o',e',_,n',d'⟩,_⟩:=I.tuple h';rw[e] at e';cases e';rw[d] at d';injection d' with d1 _;have:its=its':=by simpa using congrArg Array.toList d1
 subst this;exact r.inj r'
end
abbrev Cx.wish(X:Cx)(E:Ek):Cx:={ X with xe:=E }
abbrev Cx.nox(X:Cx):Cx:=X.wish λ_ _=>False
theorem Cx.Ok.wish{X:Cx}(ok:X.Ok)(E:Ek):(X.wish E).Ok :=
 ⟨ok.mod,ok.kind,ok.glob,ok.blt,ok.above,ok.inj,ok.has,ok.cab,ok.hd,ok.frames,ok.stk,ok.exf,ok.bs,ok.bsz,ok.noex,ok.exfs,ok.funs,ok.frf⟩
theorem Cx.Ok.unwish{X:Cx}(ok:(X.wish E).Ok):X.Ok :=
 ⟨ok.mod,ok.kind,ok.glob,ok.blt,ok.above,ok.inj,ok.has,ok.cab,ok.hd,ok.frames,ok.stk,ok.exf,ok.bs,ok.bsz,ok.noex,ok.exfs,ok.funs,ok.frf⟩
section
variable{X:Cx}{O9:Em}{σ:St}{H:Hp}{s:Shared}{E:Ek}
def Inv.wish(I:Inv X O9 σ H s)(E:Ek):Inv (X.wish E) O9 σ H s:=⟨I.ok.wish E,I.os,I.bare,I.O8,I.loc,I.cell,I.free,I.freeC,I.pin,I.hok,I.len⟩
def Inv.unwish(I:Inv (X.wish E) O9 σ H s):Inv X O9 σ H s:=⟨I.ok.unwish,I.os,I.bare,I.O8,I.loc,I.cell,I.free,I.freeC,I.pin,I.hok,I.len⟩
theorem SP.unwish{D:KD}{f:Flow}(h:SP (X.wish E) O9 D f s'):SP X O9 D f s':=by
 cases f with
 | next=>obtain⟨σ',H',I,q⟩:=h;exact⟨σ',H',I.unwish,q⟩
 | brk=>obtain⟨σ',H',I,q⟩:=h;exact⟨σ',H',I.unwish,q⟩
 | cont=>obtain⟨σ',H',I,q⟩:=h;exact⟨σ',H',I.unwish,q⟩
 | ret u=>obtain⟨v,σ',H',I,r,q⟩:=h;exact⟨v,σ',H',I.unwish,r,q⟩
theorem PSs.nox{st:List Stmt}(h:PSs X.nox st t):PSs X st t:=λO9 s σ H D I hw =>
 wpAny_mono (h O9 s σ H D (I.wish _) hw) (λ_ _ q=>q.unwish) λ_ _ z=>False.elim z
end
section
variable{X:Cx}{st:Stmt}{rest:List Stmt}{t u:TS}{e:Expr}{te:TE}{pos:Pos}
def Qih:TS:=λD σ H=>D.nx σ H
def Qil(t u:TS):TS:=λD σ H=>t { D with nx:=u D } σ H
def pss_nil:PSs X [] Qih:=λ_ _ σ H _ I h=>wpAny_execs_nil ⟨σ,H,I,h⟩
theorem QcS(h1:PS X st t)(h2:PSs X rest u):PSs X (st::rest) (Qil t u):=by
  intro O9 s σ H D I h;refine wpAny_execs_cons (thn (h1 O9 s σ H { D with nx:=u D } I h) λf s1 q=>?_);cases f with
  | next =>
    obtain⟨σ',H',I',q⟩:=q;exact h2 O9 s1 σ' H' D I' q
  | ret v=>exact q
  | brk=>exact q
  | cont=>exact q
theorem QeA(h1:PS X st t):PSs X [st] t:=by
 intro O9 s σ H D I h;refine wpAny_execs_cons (thn (h1 O9 s σ H D I h) λf s1 q=>?_);cases f with
 | next=>exact wpAny_execs_nil q
 | ret v=>exact q
 | brk=>exact q
 | cont=>exact q
def QgR:TS:=λD σ H=>D.bk σ H
def ps_break:PS X (.Break pos) QgR:=λ_ _ σ H _ I h=>wpAny_Break ⟨σ,H,I,h⟩
theorem Inv.quiet(I:Inv X O9 σ H s):interactive X.env=false:=by simp[interactive,I.ok.kind]
def Qig(te:TE):TS:=λD σ H=>te σ H λ_ H1=>D.nx σ H1
theorem Qez(he:PE X e te)(hs:swapsWith e none pos.line X.env=pure false:=by rfl):PS X (.Expr e pos) (Qig te):=by
 intro O9 s σ H D I h;exact wpAny_Expr_any (thn (he O9 s σ H _ I h) λv s1 ⟨x,H1,I1,r1,q1⟩=>⟨σ,H1,I1,q1⟩) I.quiet hs
def QiV(te:TE):TS:=λD σ H=>te σ H D.rt
theorem QgF(he:PE X e te):PS X (.Return (some e) pos) (QiV te):=by
 intro O9 s σ H D I h;exact wpAny_Return_some (thn (he O9 s σ H _ I h) λv s1 ⟨x,H1,I1,r1,q1⟩=>⟨x,σ,H1,I1,r1,q1⟩)
def QiR(c:TT)(t u:TS):TS:=λD σ H=>c σ H λb H1=>if b=true then t D σ H1 else u D σ H1
theorem Qh2{a b:List Stmt}{tc:TT}(hc:PT X c tc)(ha:PSs X a t)(hb:PSs X b u):PS X (.If c a b pos) (QiR tc t u):=by
 intro O9 s σ H D I h;refine wpAny_If (thn (hc O9 s σ H _ I h) λd s1 ⟨H1,I1,q1⟩=>?_);cases d with
 | true=>exact ha O9 s1 σ H1 D I1 q1
 | false=>exact hb O9 s1 σ H1 D I1 q1
def QgS:TS:=λ_ _ _=>False
def QcQ:PS X st QgS:=λ_ _ _ _ _ _ h=>h.elim
end
abbrev TG:=V->St->Hp->(St->Hp->Prop)->Prop
def PG(X:Cx)(target:Expr)(t:TG):Prop :=
  ∀(O9 : List (Addr × Obj))(s : Shared)(σ : St)(H : Hp)(v : V)(u : Value)(Q : St -> Hp -> Prop), Inv X O9 σ H s -> RelV v u -> t v σ H Q ->
    wpAny (model X.prog X.w) X.A (assign target X.env u) (λ_ s'=>∃σ' H',Inv X O9 σ' H' s'/\Q σ' H') X.xe s
abbrev QdA:=V->V->V->Hp->(Hp->Prop)->Prop
def Qdz(X:Cx)(t:QdA):Prop :=
  ∀(O9 : List (Addr × Obj))(s : Shared)(σ : St)(H : Hp)(o i v : V)(ov iv u : Value)(Q : Hp -> Prop), Inv X O9 σ H s -> RelV o ov -> RelV i iv -> RelV v u -> t o i v H Q ->
    wpAny (model X.prog X.w) X.A (setItem ov iv u) (λ_ s'=>∃H',Inv X O9 σ H' s'/\Q H') X.xe s
section
variable{X:Cx}{pos:Pos}
def kD(i:Nat):TG:=λv σ H Q=>Q (σ.set i (some v)) H
theorem kX{i:Nat}{x:Str}(hN:X.N.Nodup)(hi:X.N[i]?=some x)(hx:Loc X.env.scope x)(hf:X.fn x=true∨X.env.scope.names.lookup x=some .local:=by first | exact .inl rfl | exact .inr rfl | assumption):PG X (.Name x pos) (kD i):=by
 intro O9 s σ H v u Q I r h;exact wpAny_assign_Name (v8 I hN hi hx r (λs' I'=>⟨_,H,I',h⟩) hf)
def Qiz(to ti:TE)(t:QdA):TG:=λv σ H Q=>to σ H λo H1=>ti σ H1 λi H2=>t o i v H2 λH3=>Q σ H3
theorem Qgz{t:QdA}(ho:PE X o to)(hi:PE X i ti)(hs:Qdz X t)
  (ha:∀v,assign (.Subscript o i pos) X.env v=(do
   let ov <- holding [v] (eval o X.env)
   let iv <- holding [v,ov] (eval i X.env)
   standAt pos
   holding [v,ov,iv] (setItem ov iv v)
   release [v,ov,iv] []):=by intro _;rfl):PG X (.Subscript o i pos) (Qiz to ti t):=by
 intro O9 s σ H v u Q I r h;rw[ha];refine Ea (wpAny_holding (thn (ho O9 s σ H _ I h) λov s1 ⟨x,H1,I1,r1,q1⟩=>?_));refine Ea (wpAny_holding (thn (hi O9 s1 σ H1 _ I1 q1) λiv s2 ⟨y,H2,I2,r2,q2⟩=>?_));refine Ea (wpAny_standAt (Ea (wpAny_holding (thn (hs O9 s2 σ H2 x y v ov iv u _ I2 r1 r2 r q2) λ_ s3 ⟨H3,I3,q3⟩=>?_))));exact wpAny_release ⟨σ,H3,I3,q3⟩
def QeZ(te:TE)(g:TG):TS:=λD σ H=>te σ H λx H1=>g x σ H1 D.nx
theorem QgC(he:PE X e te)(hg:PG X tg g)(hs:swapsWithSole [tg] e pos.line X.env=pure false:=by rfl)(hw:swappedStores [tg] e X.env=pure none:=by rfl)
  (h1:(assignEach [tg] X.env).map (·.2)=[assign tg X.env]:=by rfl):PS X (.Assign [tg] e pos) (QeZ te g):=by
 intro O9 s σ H D I h;refine wpAny_Assign_stores (thn (he O9 s σ H _ I h) λv s1 ⟨x,H1,I1,r1,q1⟩=>?_) hs hw;rw[h1];exact thn (hg O9 s1 σ H1 x v _ I1 r1 q1) λ_ s2 q=>q
theorem QgG{i:Nat}{x:Str}(hN:X.N.Nodup)(hi:X.N[i]?=some x)(hx:Loc X.env.scope x)(he:PE X e te)(hs:swapsWith e (some (.Name x pos')) pos.line X.env=pure false:=by rfl)(hf:X.fn x=true∨X.env.scope.names.lookup x=some .local:=by first | exact .inl rfl | exact .inr rfl | assumption):
  PS X (.Assign [.Name x pos'] e pos) (QeZ te (kD i)):=by
 intro O9 s σ H D I h;refine wpAny_Assign_Name (thn (he O9 s σ H _ I h) λv s1 ⟨y,H1,I1,r1,q1⟩=>?_) hs;exact v8 I1 hN hi hx r1 (λs2 I2=>⟨_,H1,I2,q1⟩) hf
end
section
variable{X:Cx}{pos:Pos}
def QgT(c:TT)(tb:TS):TS:=λD σ H=>∃W:Nat->St->Hp->Prop,(∃m,W m σ H)/\∀m σ H,W m σ H ->
 c σ H λb H1=>if b=true then ∃N:St->Hp->Prop,(∀σ' H',N σ' H'->∃m',m' < m/\W m' σ' H')/\tb { D with nx:=N,ct:=N,bk:=D.nx } σ H1 else D.nx σ H1
theorem QcR{body:List Stmt}{tc:TT}(hp:PassesOwn (model X.prog X.w) X.A X.env X.xe)(hc:PT X c tc)(hb:PSs X body tb):PS X (.While c body [] pos) (QgT tc tb):=by
  intro O9 s σ H D I h;obtain⟨W,⟨m0,w0⟩,turn⟩:=h;refine wpAny_While (codeAny_whileLoop (λn s'=>∃σ' H',Inv X O9 σ' H' s'/\W n σ' H') ?_ m0 ⟨σ,H,I,w0⟩);rintro n s1 ⟨σ1,H1,I1,w1⟩;refine wpAny_passesOwn hp (thn (hc O9 s1 σ1 H1 _ I1 (turn n σ1 H1 w1)) λb s2 ⟨H2,I2,q2⟩=>?_);cases b with
  | true =>
    obtain⟨N,hN,q2⟩:=q2;rw[Ec rfl];refine wpAny_passesOwn hp (thn (hb O9 s2 σ1 H2 _ I2 q2) λf s3 q3=>?_);cases f with
    | next =>
      obtain⟨σ3,H3,I3,n3⟩:=q3;obtain⟨m',hm,w3⟩:=hN σ3 H3 n3;exact⟨m',hm,σ3,H3,I3,w3⟩
    | cont =>
      obtain⟨σ3,H3,I3,n3⟩:=q3;obtain⟨m',hm,w3⟩:=hN σ3 H3 n3;exact⟨m',hm,σ3,H3,I3,w3⟩
    | brk=>exact q3
    | ret v=>exact q3
  | false =>
    rw[Eb Bz];exact wpAny_execs_nil ⟨σ1,H2,I2,q2⟩
end
structure It where
 go:Nat->Hp->Prop
 yld:Nat->Hp->V->Hp->Prop
 stop:Nat->Hp->Prop
def Uu(X:Cx)(O9:Em)(H:Hp)(b:Addr):Prop :=
 H b=none/\b≠X.env.locals/\b∉X.fs/\(b∈X.ex∨X.s₀.heap.objs.size<=b)/\(∀x c,X.env.cells.lookup x=some c->c≠b)/\∀p∈X.pn++O9,p.1≠b
theorem Inv.fpOk{H H':Hp}{s:Shared}{b:Addr}(I:Inv X O9 σ H s)(hb:s.heap.objs.size<=b)(hn:H' b=none):Uu X O9 H' b:=by
 refine⟨hn,C8 (Az I.lt hb),I.nofs hb,.inr (Bk I.sz hb),λx c e z=>?_,λp hp z=>?_⟩
 ·obtain⟨v,q⟩:=I.cell x c e
  exact absurd (Az q.lt (by rw[z];exact hb)) (Cy _)
 ·exact absurd (Az (Aq (I.pin p hp).1) (by rw[z];exact hb)) (Cy _)
structure Qbs(P:Program)(w:World)(K:Aa)(tg:Expr)(J:It)(fp:Es)(it:Addr)(tn:Nat->Heap->Prop):Prop where
 mem:it∈fp
 obj:∀i h,tn i h->∀b∈fp,∃o,h.get? b=some o/\∀v,o.data≠.cell v
 keep:∀i h h',tn i h->(∀b∈fp,∀o,h.get? b=some o->h'.get? b=some o)->tn i h'
 item:∀(X:Cx),X.prog=P->X.w=w->X.K=K->X.calm=true->∀(i:Nat)(O9:Em)(s:Shared)(σ:St)(H:Hp)(E:Ek),Inv X O9 σ H s->(∀b∈fp,Uu X O9 H b)->tn i s.heap->J.go i H ->
  wpAny (model P w) X.A (pyNext (.ref it)) (λr s1=>∃u,r=some u /\
   wpAny (model P w) X.A (letOwnedTupleGo tg (.ref it) u) (λ_ s2=>∃x H',Inv X O9 σ H' s2/\RelV x u/\J.yld i H x H'/\tn (i+1) s2.heap/\∀b∈fp,H' b=none) E s1) E s
 done:∀(X:Cx),X.prog=P->X.w=w->X.K=K->X.calm=true->∀(i:Nat)(O9:Em)(s:Shared)(σ:St)(H:Hp)(E:Ek),Inv X O9 σ H s->(∀b∈fp,Uu X O9 H b)->tn i s.heap->J.stop i H ->
  wpAny (model P w) X.A (pyNext (.ref it)) (λr s1=>r=none/\Inv X O9 σ H s1) E s
 self:∀(A:Around)(i:Nat)(s:Shared)(Q:Ek)(E:Ek),tn i s.heap->Q (.ref it) s->wpAny (model P w) A (pyIter (.ref it)) Q E s
abbrev TI:=St->Hp->(It->Hp->Prop)->Prop
def PIE(X:Cx)(O9:Em)(σ:St)(tg:Expr)(R:It->Hp->Prop)(itv:Value)(s2:Shared):Prop :=
 ∃(it:Addr)(fp:Es)(tn:Nat->Heap->Prop)(J:It)(H':Hp),itv=.ref it/\Inv X O9 σ H' s2/\Qbs X.prog X.w X.K tg J fp it tn/\tn 0 s2.heap/\(∀b∈fp,Uu X O9 H' b)/\R J H'
def PI(X:Cx)(tg iter:Expr)(wi:TI):Prop :=
  ∀(O9 : List (Addr × Obj))(s : Shared)(σ : St)(H : Hp)(R : It -> Hp -> Prop), Inv X O9 σ H s -> wi σ H R ->
    wpAny (model X.prog X.w) X.A (eval iter X.env) (λv s1=>wpAny (model X.prog X.w) X.A (pyIter v) (PIE X O9 σ tg R) X.xe s1) X.xe s
theorem Qb1{M:Model}{A:Around}{E:Ek}{s:Shared}{tg:Expr}{it:Addr}{u:Value}{o:Obj}{n:String}{vs:Array Value}{Q:Unit->Shared->Prop}(ho:s.heap.get? it=some o)(hc:o.cls=.type n)(hd:o.data=.fields vs)
    (hn:["enumerate", "zip", "dict_itemiterator", "dict_reverseitemiterator", "odict_iterator", "itertools.zip_longest", "itertools.pairwise"].contains n=false) (hQ:Q () s):wpAny M A (letOwnedTupleGo tg (.ref it) u) Q E s:=by
  unfold letOwnedTupleGo;cases tg<;>first
    | exact Ed hQ
    | (cases u<;>first
        | exact Ed hQ
        | (refine Ea (wpAny_load ho ?_)
           rw[hc,hd];show wpAny M A (if (["enumerate", "zip", "dict_itemiterator", "dict_reverseitemiterator", "odict_iterator", "itertools.zip_longest", "itertools.pairwise"].contains n&&vs[0]?==some (rawInt _))=true then _ else _) Q E s
           rw[Eb (by intro h;rw[hn,Bool.false_and] at h;cases h)]
           exact Ed hQ))
def Itl(K:Aa)(a:Addr):It :=
 ⟨λi H=>∃xs x,SqL K H a xs/\xs[i]?=some x,λi H x H'=>H'=H/\∀xs,SqL K H a xs->xs[i]?=some x,λi H=>∃xs,SqL K H a xs/\xs.length<=i⟩
def Itt(K:Aa)(a:Addr):It :=
 ⟨λi H=>∃xs x,SqT K H a xs/\xs[i]?=some x,λi H x H'=>H'=H/\∀xs,SqT K H a xs->xs[i]?=some x,λi H=>∃xs,SqT K H a xs/\xs.length<=i⟩
def Itr(lo:Int)(n:Nat):It:=⟨λi _=>i < n,λi H x H'=>H'=H/\x=.int (lo+i),λi _=>n<=i⟩
theorem Qbm{w:World}{K:Aa}(a it:Addr):Qbs P w K tg (Itl K a) [it] it (λi h=>h.IsListIter it a i) where
 mem:=by simp
 obj:=λi h st b hb=>by
  have e:b=it:=by simpa using hb
  subst e;obtain⟨o,e,c,d⟩:=st;exact⟨o,e,λv z=>by rw[d] at z;cases z⟩
 keep:=λi h h' st k=>st.at λo e=>k it (by simp) o e
 item:=by
  intro X hP hw hK hc i O9 s σ H E I hf st hg;subst hP hw hK;obtain⟨xs,x,hq,hx⟩:=hg;obtain⟨its,rv,p,hz⟩:=I.list hq;obtain⟨u,hu,ru⟩:=rv.get hx;obtain⟨f0,f1,f2,f3,f4,f5⟩:=hf it (by simp)
  refine wpAny_pyNext_list_item st p.isList (x:=u) (by simpa using hu) λh' st' sb=>?_
  have I1:Inv X O9 σ H { s with heap:=h' }:=I.turned (t':=s.toks) (λb o hb e=>(sb.2 b hb).trans e) f0 f1 f3 f4 f5;obtain⟨o,e,c,d⟩:=id st';exact⟨u,rfl,Qb1 (s:={ s with heap:=h' }) e c d (by decide) ⟨x,H,I1,ru,⟨rfl,λys hy=>by rw[I.list_inj hy hq];exact hx⟩,st',λb hb=>(hf b hb).1⟩⟩
 done:=by
  intro X hP hw hK hc i O9 s σ H E I hf st hg;subst hP hw hK;obtain⟨xs,hq,hx⟩:=hg;obtain⟨its,rv,p,hz⟩:=I.list hq;obtain⟨f0,f1,f2,f3,f4,f5⟩:=hf it (by simp)
  have hl:=rv.length;exact wpAny_pyNext_list_end (I.ok.hd hc) st p.isList (by simp;lia) λh' eb=>⟨rfl,I.turned (t':=s.toks) (λb o hb e=>eb b o hb e) f0 f1 f3 f4 f5⟩
 self:=λ_ _ _ _ _ st h=>wpAny_pyIter_listiter st h
theorem gK{w:World}{K:Aa}(a it:Addr):Qbs P w K tg (Itt K a) [it] it (λi h=>h.IsTupleIter it a i) where
 mem:=by simp
 obj:=λi h st b hb=>by
  have e:b=it:=by simpa using hb
  subst e;obtain⟨o,e,c,d⟩:=st;exact⟨o,e,λv z=>by rw[d] at z;cases z⟩
 keep:=λi h h' st k=>st.at λo e=>k it (by simp) o e
 item:=by
  intro X hP hw hK hc i O9 s σ H E I hf st hg;subst hP hw hK;obtain⟨xs,x,hq,hx⟩:=hg;obtain⟨its,rv,p,hz⟩:=I.tuple hq;obtain⟨u,hu,ru⟩:=rv.get hx;obtain⟨f0,f1,f2,f3,f4,f5⟩:=hf it (by simp)
  refine wpAny_pyNext_tuple_item st (show s.heap.IsTuple a its.toArray from p) (x:=u) (by simpa using hu) λh' st' sb=>?_
  have I1:Inv X O9 σ H { s with heap:=h' }:=I.turned (t':=s.toks) (λb o hb e=>(sb.2 b hb).trans e) f0 f1 f3 f4 f5;obtain⟨o,e,c,d⟩:=id st';exact⟨u,rfl,Qb1 (s:={ s with heap:=h' }) e c d (by decide) ⟨x,H,I1,ru,⟨rfl,λys hy=>by rw[I.tuple_inj hy hq];exact hx⟩,st',λb hb=>(hf b hb).1⟩⟩
 done:=by
  intro X hP hw hK hc i O9 s σ H E I hf st hg;subst hP hw hK;obtain⟨xs,hq,hx⟩:=hg;obtain⟨its,rv,p,hz⟩:=I.tuple hq;obtain⟨f0,f1,f2,f3,f4,f5⟩:=hf it (by simp)
  have hl:=rv.length;exact wpAny_pyNext_tuple_end (I.ok.hd hc) st (show s.heap.IsTuple a its.toArray from p) (by simp;lia) λh' eb=>⟨rfl,I.turned (t':=s.toks) (λb o hb e=>eb b o hb e) f0 f1 f3 f4 f5⟩
 self:=λ_ _ _ _ _ st h=>wpAny_pyIter_tupleiter st h
theorem gJ{w:World}{K:Aa}(it:Addr)(lo:Int)(n:Nat):Qbs P w K tg (Itr lo n) [it] it (λi h=>IsRangeIter h it (lo+(i:Nat) * 1) ((n:Int) - (i:Nat)) 1) where
 mem:=by simp
 obj:=λi h st b hb=>by
  have e:b=it:=by simpa using hb
  subst e;exact⟨_,st,λv z=>by
   have z':Data.fields _=Data.cell v:=z;cases z'⟩
 keep:=λi h h' st k=>k it (by simp) _ st
 item:=by
  intro X hP hw hK hc i O9 s σ H E I hf st hg;subst hP hw hK;obtain⟨f0,f1,f2,f3,f4,f5⟩:=hf it (by simp)
  have W:=Walks.range (prog:=X.prog) (w:=X.w) (I.ok.hd hc) it lo 1 n;refine W.item i s _ _ hg st λv h' tk hv st' kk=>?_;obtain⟨t,rfl⟩:=hv;have I1:Inv X O9 σ H { s with heap:=h',toks:=tk }:=I.turned (λb o hb e=>kk b o (by simpa using hb) e) f0 f1 f3 f4 f5
  refine⟨_,rfl,Qb1 (s:={ s with heap:=h',toks:=tk }) (n := "range_iterator") st' rfl rfl (by decide) ⟨.int (lo+i),H,I1,⟨t,?_⟩,⟨rfl,rfl⟩,st',λb hb=>(hf b hb).1⟩⟩
  rw[Int.mul_one]
 done:=by
  intro X hP hw hK hc i O9 s σ H E I hf st hg;subst hP hw hK;obtain⟨f0,f1,f2,f3,f4,f5⟩:=hf it (by simp)
  exact wpAny_pyNext_range_end (I.ok.hd hc) st (by have:n<=i:=hg;lia) λh' eb=>⟨rfl,I.turned (t':=s.toks) (λb o hb e=>eb b o hb e) f0 f1 f3 f4 f5⟩
 self:=λ_ _ _ _ _ st h=>wpAny_pyIter_rangeiter st h
section
variable{X:Cx}{tg:Expr}
def Qhx(K:Aa)(tl:TE):TI:=λσ H R=>tl σ H λx H1=>∃a,x=.ref a/\(∃xs,SqL K H1 a xs)/\R (Itl K a) H1
def QiA(K:Aa)(tl:TE):TI:=λσ H R=>tl σ H λx H1=>∃a,x=.ref a/\(∃xs,SqT K H1 a xs)/\R (Itt K a) H1
theorem Qes(hl:PE X l tl):PI X tg l (Qhx X.K tl):=by
 intro O9 s σ H R I h;refine thn (hl O9 s σ H _ I h) λv s1 ⟨x,H1,I1,r1,q1⟩=>?_;obtain⟨a,e,⟨xs,hq⟩,q⟩:=q1;subst e;cases r1;obtain⟨its,rv,p,hz⟩:=I1.list hq;refine wpAny_pyIter_list p.isList ?_;refine⟨s1.heap.objs.size,[s1.heap.objs.size],_,_,H1,rfl,I1.kept (t':=s1.toks) λb o e=>Ae _ e,Qbm a _,⟨_,Aw _ rfl,rfl,rfl⟩,λb hb=>?_,q⟩;have e:b=s1.heap.objs.size:=by simpa using hb
 subst e;exact I1.fpOk (Ag _) (I1.hok.fresh (Ag _))
theorem QgA(hl:PE X l tl):PI X tg l (QiA X.K tl):=by
 intro O9 s σ H R I h;refine thn (hl O9 s σ H _ I h) λv s1 ⟨x,H1,I1,r1,q1⟩=>?_;obtain⟨a,e,⟨xs,hq⟩,q⟩:=q1;subst e;cases r1;obtain⟨its,rv,p,hz⟩:=I1.tuple hq;refine wpAny_pyIter_tuple (show s1.heap.IsTuple a its.toArray from p) ?_;refine⟨s1.heap.objs.size,[s1.heap.objs.size],_,_,H1,rfl,I1.kept (t':=s1.toks) λb o e=>Ae _ e,gK a _,⟨_,Aw _ rfl,rfl,rfl⟩,λb hb=>?_,q⟩;have e:b=s1.heap.objs.size:=by simpa using hb
 subst e;exact I1.fpOk (Ag _) (I1.hok.fresh (Ag _))
theorem QcW{R:It->Hp->Prop}{E:Ek}{lo hi:Int}{t u v:Tok}{tk:Nat}(I:Inv X O9 σ H s)(h1:-(2 ^ 62)<=lo)(h2:lo < 2 ^ 62)(h3:-(2 ^ 62)<=hi)(h4:hi < 2 ^ 62)
  (q:R (Itr lo (hi - lo).toNat) H):wpAny (model X.prog X.w) X.A (pyIter (.ref s.heap.objs.size)) (PIE X O9 σ tg R) E { s with heap:=s.heap.push { cls:=.type "range", data:=.fields #[.int lo t,.int hi u,.int 1 v] },toks:=tk }:=by
 refine wpAny_pyIter_range (IsRange.new ..) (small_one h1 h2 h3 h4) ?_;have I1:Inv X O9 σ H { s with heap:=s.heap.push { cls:=.type "range", data:=.fields #[.int lo t,.int hi u,.int 1 v] },toks:=tk }:=I.kept λb o e=>Ae _ e;refine⟨(s.heap.push { cls:=.type "range", data:=.fields #[.int lo t,.int hi u,.int 1 v] }).objs.size,[(s.heap.push { cls:=.type "range", data:=.fields #[.int lo t,.int hi u,.int 1 v] }).objs.size],_,_,H,rfl,
  I1.kept (t':=tk) λb o e=>Ae _ e,gJ _ lo (hi - lo).toNat,?_,λb hb=>?_,q⟩
 ·have e1:lo+((0:Nat):Int) * 1=lo:=by simp
  have e2:(((hi - lo).toNat:Nat):Int) - ((0:Nat):Int)=Builtin.Range.rangeSize lo hi 1:=by rw[rangeSize_one];split<;>lia
  show IsRangeIter _ _ (lo+((0:Nat):Int) * 1) ((((hi - lo).toNat:Nat):Int) - ((0:Nat):Int)) 1;rw[e1,e2];exact Aw _ rfl
 ·have e:b=(s.heap.push { cls:=.type "range", data:=.fields #[.int lo t,.int hi u,.int 1 v] }).objs.size:=by simpa using hb
  subst e;exact I1.fpOk (Ag _) (I1.hok.fresh (Ag _))
def Qhy(ta:TA):TI:=λσ H R=>ta σ H λvs H1=>∃j:Int,vs=[.int j] /\ -(2 ^ 62)<=j/\j < 2 ^ 62/\R (Itr 0 j.toNat) H1
theorem Qbb{p pos:Pos}(hg:Gl X "range")(hm:X.mg "range" = none)(ha:PA X [a] ta)(hs:starEach [a] X.env=[(false,eval a X.env)]:=by rfl):PI X tg (.Call (.Name "range" p) [a] [] pos) (Qhy ta):=by
  intro O9 s σ H R I h;refine Call_ (Ge I hg hm boot_range (PyProof.Rows.callWith_type1 (thn (ha pos O9 s σ H _ I h) λus s1 ⟨vs,H1,I1,r1,q1⟩=>?_) hs rfl));obtain⟨j,e,q1,q2,q⟩:=q1;subst e;cases r1 with
  | cons r rr =>
    cases rr;obtain⟨t,rfl⟩:=r;exact call_range_1 (QcW I1 (by lia) (by lia) q1 q2 (by simpa using q))
def QiQ(wi:TI)(g:TG)(tb:TS):TS:=λD σ H=>wi σ H λJ H1=>∃W:Nat->Nat->St->Hp->Prop,(∃m,W 0 m σ H1)/\∀i m σ H,W i m σ H ->
 (J.stop i H/\D.nx σ H)∨(J.go i H/\∃N:St->Hp->Prop,(∀σ' H',N σ' H'->∃m',m' < m/\W (i+1) m' σ' H')/\∀x H',J.yld i H x H'->g x σ H' λσ2 H2=>tb { D with nx:=N,ct:=N,bk:=D.nx } σ2 H2)
def VV(fp:Es)(h:Heap):List (Addr×Obj):=fp.filterMap λb=>(h.get? b).map λo=>(b,o)
theorem qE{h:Heap}{b:Addr}(hb:b∈fp)(e:h.get? b=some o):(b,o)∈VV fp h:=List.mem_filterMap.mpr ⟨b,hb,by rw[e];rfl⟩
theorem Qa2{fp:Es}{h:Heap}{p:Addr×Obj}(hp:p∈VV fp h):p.1∈fp/\h.get? p.1=some p.2:=by
  obtain⟨b,hb,e⟩:=List.mem_filterMap.mp hp;cases q:h.get? b with
  | none=>rw[q] at e;cases e
  | some o =>
    rw[q] at e;have e':(b,o)=p:=Am e;subst e';exact⟨hb,q⟩
theorem Inv.pinned{O9:Em}{s:Shared}(I:Inv X O9 σ H s)(hf:∀b∈fp,Uu X O9 H b)(ho:∀b∈fp,∃o,s.heap.get? b=some o/\∀v,o.data≠.cell v):Inv X (O9++VV fp s.heap) σ H s :=
 I.pins_of λp hp=>(Aj.mp hp).elim (λz=>I.pin p (Ak _ z)) λz=>by
  obtain⟨hb,e⟩:=Qa2 z;obtain⟨f0,f1,f2,_⟩:=hf p.1 hb;obtain⟨o,e',d⟩:=ho p.1 hb;rw[e] at e';cases e';exact⟨e,f0,f1,f2,d⟩
def Inv.unpinned{O9 pl:Em}(I:Inv X (O9++pl) σ H s):Inv X O9 σ H s:=I.pins_of λp hp=>I.pin p (Ak _ (A8 _ hp))
theorem QgE{body:List Stmt}{pos:Pos}(hp:PassesOwn (model X.prog X.w) X.A X.env X.xe)(hc:X.calm=true)(hi:PI X tg iter wi)(hg:PG X tg g)(hb:PSs X body tb)
  (hs:∀x,foldedSetIterable iter X.env x=pure x:=by intro _;rfl):PS X (.For tg iter body [] pos) (QiQ wi g tb):=by
 intro O9 s σ H D I h;refine wpAny_For (thn (hi O9 s σ H _ I h) λv s1 h1=>thn h1 λitv s2 h2=>?_) hs;obtain⟨it,fp,tn,J,H2,e,I2,T,st2,f2,W,⟨m0,w0⟩,turn⟩:=h2;subst e;have stat:∀{H':Hp},(∀b∈fp,H' b=none)->∀b∈fp,Uu X O9 H' b:=λhn b hb=>⟨hn b hb,(f2 b hb).2⟩;refine codeAny_forLoop_any (λn s'=>∃i σ' H',Inv X O9 σ' H' s'/\tn i s'.heap/\(∀b∈fp,H' b=none)/\W i n σ' H') ?_ m0 ⟨0,σ,H2,I2,st2,λb hb=>(f2 b hb).1,w0⟩;rintro n s3 ⟨i,σ3,H3,I3,st3,fr3,w3⟩;rcases turn i n σ3 H3 w3 with ⟨stop,qn⟩ | ⟨go,N,hN,step⟩
 ·refine wpAny_passesOwn hp (thn (T.done X rfl rfl rfl hc i O9 s3 σ3 H3 X.xe I3 (stat fr3) st3 stop) λr s4 ⟨hr,I4⟩=>?_)
  subst hr;exact wpAny_execs_nil ⟨σ3,H3,I4,qn⟩
 ·refine wpAny_passesOwn hp (thn (T.item X rfl rfl rfl hc i O9 s3 σ3 H3 X.xe I3 (stat fr3) st3 go) λr s4 ⟨u,hr,h4⟩=>?_)
  subst hr;refine wpAny_passesOwn hp (thn h4 λ_ s5 ⟨x,H5,I5,r5,y5,st5,fr5⟩=>?_);have I5':=I5.pinned (stat fr5) (T.obj _ _ st5);refine wpAny_passesOwn hp (thn (hg _ s5 σ3 H5 x u _ I5' r5 (step x H5 y5)) λ_ s6 ⟨σ6,H6,I6,q6⟩=>?_);refine wpAny_passesOwn hp (thn (hb _ s6 σ6 H6 _ I6 q6) λf s7 q7=>?_);have again:∀{σ7:St}{H7:Hp},Inv X (O9++VV fp s5.heap) σ7 H7 s7->N σ7 H7->∃m,m < n/\∃i σ' H',Inv X O9 σ' H' s7/\tn i s7.heap/\(∀b∈fp,H' b=none)/\W i m σ' H':=λ{σ7 H7} I7 n7=>by
   obtain⟨m',hm,w7⟩:=hN σ7 H7 n7;refine⟨m',hm,i+1,σ7,H7,I7.unpinned,T.keep _ _ _ st5 λb hb o e=>(I7.pin (b,o) (Ak _ (Ak _ (qE hb e)))).1,λb hb=>?_,w7⟩;obtain⟨o,e,d⟩:=T.obj _ _ st5 b hb;exact(I7.pin (b,o) (Ak _ (Ak _ (qE hb e)))).2.1
  cases f with
  | next=>obtain⟨σ7,H7,I7,n7⟩:=q7;exact again I7 n7
  | cont=>obtain⟨σ7,H7,I7,n7⟩:=q7;exact again I7 n7
  | brk=>obtain⟨σ7,H7,I7,q7⟩:=q7;exact⟨σ7,H7,I7.unpinned,q7⟩
  | ret v=>obtain⟨x7,σ7,H7,I7,r7,q7⟩:=q7;exact⟨x7,σ7,H7,I7.unpinned,r7,q7⟩
end
abbrev R2:=V->V->Hp->VK->Prop
def OpR(X:Cx)(f:Value->Value->Sem Value)(r:R2):Prop :=
  ∀(O9 : List (Addr × Obj))(s : Shared)(σ : St)(H : Hp)(x y : V)(v u : Value)(Q : VK), Inv X O9 σ H s -> RelV x v -> RelV y u -> r x y H Q ->
    wpAny (model X.prog X.w) X.A (f v u) (EP X O9 σ Q) X.xe s
def UnR(X:Cx)(f:Value->Sem Value)(r:V->Hp->VK->Prop):Prop :=
  ∀(O9 : List (Addr × Obj))(s : Shared)(σ : St)(H : Hp)(x : V)(v : Value)(Q : VK), Inv X O9 σ H s -> RelV x v -> r x H Q ->
    wpAny (model X.prog X.w) X.A (f v) (EP X O9 σ Q) X.xe s
def JY(X:Cx)(f:Value)(r:List V->Hp->VK->Prop):Prop :=
  ∀(O9 : List (Addr × Obj))(s : Shared)(σ : St)(H : Hp)(xs : List V)(us : List Value)(Q : VK), Inv X O9 σ H s -> Vals xs us -> r xs H Q ->
    wpAny (model X.prog X.w) X.A (call f us) (EP X O9 σ Q) X.xe s
def tOp(r:R2)(ta tb:TE):TE:=λσ H Q=>ta σ H λx H1=>tb σ H1 λy H2=>r x y H2 Q
def tUn(r:V->Hp->VK->Prop)(ta:TE):TE:=λσ H Q=>ta σ H λx H1=>r x H1 Q
def rI(C:Int->Int->Prop)(g:Int->Int->V):R2:=λx y H Q=>∃i j,x=.int i/\y=.int j/\C i j/\Q (g i j) H
def rI0(g:Int->Int->V):R2:=λx y H Q=>∃i j,x=.int i/\y=.int j/\Q (g i j) H
def rU(g:Int->V):V->Hp->VK->Prop:=λx H Q=>∃i,x=.int i/\Q (g i) H
section
variable{X:Cx}{a b c:Expr}{ta tb tc:TE}{pos:Pos}
theorem QfH(ha:PE X a ta)(hb:PE X b tb){R:V->V->Hp->Prop}(I:Inv X O9 σ H s)
  (h:ta σ H λx H1=>tb σ H1 λy H2=>R x y H2) {Q:Ek} {f:Value->Value->Sem Value}
  (hf:∀v u s2 x y H2,Inv X O9 σ H2 s2->RelV x v->RelV y u->R x y H2->wpAny (model X.prog X.w) X.A (f v u) Q X.xe s2) :
  wpAny (model X.prog X.w) X.A (eval a X.env) (λv s₁=>wpAny (model X.prog X.w) X.A (eval b X.env) (λu s₂=>wpAny (model X.prog X.w) X.A (f v u) Q X.xe s₂) X.xe s₁) X.xe s:=by
 refine thn (ha O9 s σ H _ I h) λv s1 ⟨x,H1,I1,r1,q1⟩=>?_;refine thn (hb O9 s1 σ H1 _ I1 q1) λu s2 ⟨y,H2,I2,r2,q2⟩=>?_;exact hf v u s2 x y H2 I2 r1 r2 q2
theorem QhZ{op:Operator}{r:R2}(ho:OpR X (binaryOp op) r)(ha:PE X a ta)(hb:PE X b tb):PE X (.BinOp a op b pos) (tOp r ta tb):=by
 intro O9 s σ H Q I h;exact wpAny_BinOp (QfH ha hb I h λv u s2 x y H2 I2 rx ry q=>ho O9 s2 σ H2 x y v u Q I2 rx ry q)
theorem Qh1{op:UnaryOp}{r:V->Hp->VK->Prop}(ho:UnR X (unaryOp op) r)(ha:PE X a ta):PE X (.UnaryOp op a pos) (tUn r ta):=by
 intro O9 s σ H Q I h;exact UnaryOp_ (thn (ha O9 s σ H _ I h) λv s1 ⟨x,H1,I1,r1,q1⟩=>ho O9 s1 σ H1 x v Q I1 r1 q1)
theorem opI{f:Value->Value->Sem Value}{C:Int->Int->Prop}{g:Int->Int->Int}
  (rule:∀(i j:Int)(t u:Tok)(s:Shared)(Q:Ek)(E:Ek),C i j->Q (.int (g i j) s.toks) { s with toks:=s.toks+1 }->wpAny (model X.prog X.w) X.A (f (.int i t) (.int j u)) Q E s) :
  OpR X f (rI C λi j=>.int (g i j)):=by
 intro O9 s σ H x y v u Q I rx ry h;obtain⟨i,j,rfl,rfl,hc,q⟩:=h;obtain⟨t,rfl⟩:=rx;obtain⟨t',rfl⟩:=ry;exact rule i j t t' s _ _ hc ⟨.int (g i j),H,I.tok _,⟨_,rfl⟩,q⟩
theorem QhN{f:Value->Value->Sem Value}{g:Int->Int->Int}
  (rule:∀(i j:Int)(t u:Tok)(s:Shared)(Q:Ek)(E:Ek),Q (.int (g i j) s.toks) { s with toks:=s.toks+1 }->wpAny (model X.prog X.w) X.A (f (.int i t) (.int j u)) Q E s) :
  OpR X f (rI0 λi j=>.int (g i j)):=by
 intro O9 s σ H x y v u Q I rx ry h;obtain⟨i,j,rfl,rfl,q⟩:=h;obtain⟨t,rfl⟩:=rx;obtain⟨t',rfl⟩:=ry;exact rule i j t t' s _ _ ⟨.int (g i j),H,I.tok _,⟨_,rfl⟩,q⟩
theorem Qec{f:Value->Value->Sem Value}{g:Int->Int->Bool}
  (rule:∀(i j:Int)(t u:Tok)(s:Shared)(Q:Ek)(E:Ek),Q (.bool (g i j)) s->wpAny (model X.prog X.w) X.A (f (.int i t) (.int j u)) Q E s) :
  OpR X f (rI0 λi j=>.bl (g i j)):=by
 intro O9 s σ H x y v u Q I rx ry h;obtain⟨i,j,rfl,rfl,q⟩:=h;obtain⟨t,rfl⟩:=rx;obtain⟨t',rfl⟩:=ry;exact rule i j t t' s _ _ ⟨.bl (g i j),H,I,rfl,q⟩
def Qis(i j:Int):Prop:=0 < j/\j < 1073741824
def Qit(i j:Int):Prop:=0<=j/\j<=1000000/\i.natAbs < 2 ^ 64
def CMul(i j:Int):Prop:=(-(2 ^ 64) < i/\i < 2 ^ 64)∨(-(2 ^ 64) < j/\j < 2 ^ 64)
theorem CMul.ok{i j:Int}(h:CMul i j):IntMulOk i j:=by
 rcases h with ⟨h1,h2⟩ | ⟨h1,h2⟩
 ·exact .of_left (intBits_le_64 h1 h2)
 ·exact .of_right (intBits_le_64 h1 h2)
def Qgf:OpR X (binaryOp .Add) (rI0 λi j=>.int (i+j)):=QhN λ_ _ _ _ _ _ _ q=>add_int q
def Qgk:OpR X (binaryOp .Sub) (rI0 λi j=>.int (i - j)):=QhN λ_ _ _ _ _ _ _ q=>sub_int q
def Qgi:OpR X (binaryOp .Mult) (rI CMul λi j=>.int (i * j)):=opI λ_ _ _ _ _ _ _ hc q=>mul_int q hc.ok
theorem Qee:OpR X (binaryOp .FloorDiv) (rI Qis λi j=>.int (i / j)):=opI λi j _ _ _ _ _ hc q=>by
 have h1:(0:Int) < j:=hc.1;have h2:j < 1073741824:=hc.2;exact floordiv_int (by lia) (by rw[Int.fdiv_eq_ediv_of_nonneg i (by lia)];exact q) (.inl (PyProof.noPylong_small (by lia)))
theorem Qgh:OpR X (binaryOp .Mod) (rI (λ_ j=>0 < j) λi j=>.int (i % j)):=opI λi j _ _ _ _ _ hc q=>by
 have h1:(0:Int) < j:=hc;exact mod_int' (by lia) (by rw[Int.fmod_eq_emod_of_nonneg i (by lia)];exact q)
def Qgj:OpR X (binaryOp .Pow) (rI Qit λi j=>.int (i ^ j.toNat)):=opI λ_ _ _ _ _ _ _ hc q=>pow_int_small hc.1 hc.2.1 hc.2.2 q
theorem unI{f:Value->Sem Value}{g:Int->Int}
  (rule:∀(i:Int)(t:Tok)(s:Shared)(Q:Ek)(E:Ek),Q (.int (g i) s.toks) { s with toks:=s.toks+1 }->wpAny (model X.prog X.w) X.A (f (.int i t)) Q E s) :
  UnR X f (rU λi=>.int (g i)):=by
 intro O9 s σ H x v Q I rx h;obtain⟨i,rfl,q⟩:=h;obtain⟨t,rfl⟩:=rx;exact rule i t s _ _ ⟨.int (g i),H,I.tok _,⟨_,rfl⟩,q⟩
def Qg0:UnR X (unaryOp .USub) (rU λi=>.int (-i)):=unI λ_ _ _ _ _ q=>neg_int q
end
section
variable{X:Cx}{a b c:Expr}{ta tb tc:TE}{pos:Pos}
theorem QbU{Q:VK}{k k':Bool}(I:Inv X O9 σ H s)(q:Q (.bl k) H)(e:k=k'):EP X O9 σ Q (.bool k') s:=by
 subst e;exact⟨.bl k,H,I,rfl,q⟩
def QhR:OpR X (compareOp .Lt) (rI0 λi j=>.bl (decide (i < j))):=Qec λ_ _ _ _ _ _ _ q=>lt_int q
def QhQ:OpR X (compareOp .LtE) (rI0 λi j=>.bl (decide (i<=j))):=Qec λ_ _ _ _ _ _ _ q=>le_int q
def QhP:OpR X (compareOp .Gt) (rI0 λi j=>.bl (decide (j < i))):=Qec λ_ _ _ _ _ _ _ q=>gt_int q
def QhO:OpR X (compareOp .GtE) (rI0 λi j=>.bl (decide (j<=i))):=Qec λ_ _ _ _ _ _ _ q=>ge_int q
theorem Qgg:OpR X (compareOp .Is) (λx y H Q=>y=.non/\Q (.bl (decide (x=.non))) H):=by
 intro O9 s σ H x y v u Q I rx ry h;obtain⟨rfl,q⟩:=h;cases ry;refine is_none_gen (QbU I q ?_);cases x<;>first
  | (cases rx;rfl)
  | (obtain⟨t,rfl⟩:=rx;rfl)
theorem Qeg:OpR X (compareOp .IsNot) (λx y H Q=>y=.non/\Q (.bl (!decide (x=.non))) H):=by
 intro O9 s σ H x y v u Q I rx ry h;obtain⟨rfl,q⟩:=h;cases ry;refine isnot_none_gen (QbU I q ?_);cases x<;>first
  | (cases rx;rfl)
  | (obtain⟨t,rfl⟩:=rx;rfl)
theorem QJ(b:Expr){op:CmpOp}(h:op≠.In:=by decide)(h2:op≠.NotIn:=by decide):behindInMarks op b=false:=by
 have e1:(op==CmpOp.In)=false:=by cases op<;>first | rfl | exact absurd rfl h
 have e2:(op==CmpOp.NotIn)=false:=by cases op<;>first | rfl | exact absurd rfl h2
 cases b<;>simp[behindInMarks,e1,e2]
theorem Qel{op:CmpOp}{r:R2}(ho:OpR X (compareOp op) r)(ha:PE X a ta)(hb:PE X b tb)(hm:behindInMarks op b=false):PE X (.Compare a [op] [b] pos) (tOp r ta tb):=by
 intro O9 s σ H Q I h;exact wpAny_Compare1 (QfH ha hb I h λv u s2 x y H2 I2 rx ry q=>ho O9 s2 σ H2 x y v u Q I2 rx ry q) hm
def QfA(t:TE):TT:=λσ H Q=>t σ H λx H'=>∃k,x=.bl k/\Q k H'
theorem QeB{op:CmpOp}{r:R2}(ho:OpR X (compareOp op) r)(ha:PE X a ta)(hb:PE X b tb)(hm:behindInMarks op b=false):PT X (.Compare a [op] [b] pos) (QfA (tOp r ta tb)):=by
 intro O9 s σ H Q I h;refine wpAny_isTrue_Compare1 (thn (ha O9 s σ H _ I h) λv s1 ⟨x,H1,I1,r1,q1⟩=>thn (hb O9 s1 σ H1 _ I1 q1) λu s2 ⟨y,H2,I2,r2,q2⟩ =>
  thn (ho O9 s2 σ H2 x y v u _ I2 r1 r2 q2) λc s3 ⟨z,H3,I3,r3,k,e,q3⟩=>?_) hm
 subst e;cases r3;exact wpAny_truthy_bool ⟨H3,I3,q3⟩
def Qdh(r r':R2)(ta tb tc:TE):TE:=λσ H Q=>ta σ H λx H1=>tb σ H1 λy H2=>r x y H2 λz H3=>∃k,z=.bl k /\
 (if k=true then tc σ H3 λw' H4=>r' y w' H4 Q else Q (.bl false) H3)
theorem QcT{op op':CmpOp}{r r':R2}(ho:OpR X (compareOp op) r)(ho':OpR X (compareOp op') r')(ha:PE X a ta)(hb:PE X b tb)(hc:PE X c tc)
    (hm:lastMarks [op,op'] [b,c]=false:=by with_unfolding_all rfl):PT X (.Compare a [op,op'] [b,c] pos) (QfA (Qdh r r' ta tb tc)):=by
  intro O9 s σ H Q I h;refine isTrue_chain (thn (ha O9 s σ H _ I h) λv s1 ⟨x,H1,I1,r1,q1⟩=>test_link (thn (hb O9 s1 σ H1 _ I1 q1) λu s2 ⟨y,H2,I2,r2,q2⟩ =>
    thn (ho O9 s2 σ H2 x y v u _ I2 r1 r2 q2) λd s3 ⟨z,H3,I3,r3,k,e,q3⟩=>?_)) hm
  subst e;cases r3;refine wpAny_truthy_bool ?_;cases k with
  | false =>
    obtain⟨k',e',q'⟩:=q3;cases e';exact ite_ff ⟨H3,I3,q'⟩
  | true =>
    refine ite_tt (test_last (thn (hc O9 s3 σ H3 _ I3 q3) λw' s4 ⟨z',H4,I4,r4,q4⟩=>thn (ho' O9 s4 σ H4 y z' u w' _ I4 r2 r4 q4) λd' s5 ⟨z2,H5,I5,r5,k2,e2,q5⟩=>?_));subst e2;cases r5;exact wpAny_truthy_bool ⟨H5,I5,q5⟩
theorem Gh:(sizeLine:Nat) < 2 ^ 63:=by rw[sizeLine_eq];decide
theorem xL{us:List Value}(r:Vals [x] us):∃u,us=[u]/\RelV x u:=by
 cases r with
 | cons r1 r2=>cases r2;exact⟨_,rfl,r1⟩
theorem Qdo{us:List Value}(r:Vals [x,y] us):∃u w',us=[u,w']/\RelV x u/\RelV y w':=by
  cases r with
  | cons r1 r2 =>
    cases r2 with
    | cons r3 r4=>cases r4;exact⟨_,_,rfl,r1,r3⟩
theorem Qaz(hc:X.calm=true):JY X (.builtin "max") (λxs H Q=>∃i j,xs=[.int i,.int j]/\Q (.int (if j > i then j else i)) H):=by
 intro O9 s σ H xs us Q I r h;obtain⟨i,j,rfl,q⟩:=h;obtain⟨u,w',rfl,⟨t,rfl⟩,⟨t',rfl⟩⟩:=Qdo r;refine max_two_ints (I.ok.hd hc) λh' tk k=>⟨_,H,I.kept k,?_,q⟩;by_cases hj:j > i
 ·rw[Ec hj,Ec hj];exact⟨_,rfl⟩
 ·rw[Eb hj,Eb hj];exact⟨_,rfl⟩
theorem QaA(hc:X.calm=true):JY X (.builtin "min") (λxs H Q=>∃i j,xs=[.int i,.int j]/\Q (.int (if j < i then j else i)) H):=by
 intro O9 s σ H xs us Q I r h;obtain⟨i,j,rfl,q⟩:=h;obtain⟨u,w',rfl,⟨t,rfl⟩,⟨t',rfl⟩⟩:=Qdo r;refine min_two_ints (I.ok.hd hc) λh' tk k=>⟨_,H,I.kept k,?_,q⟩;by_cases hj:j < i
 ·rw[Ec hj,Ec hj];exact⟨_,rfl⟩
 ·rw[Eb hj,Eb hj];exact⟨_,rfl⟩
theorem U3:JY X (.type "int") (λxs H Q=>(∃i,xs=[.int i]/\Q (.int i) H)∨∃k,xs=[.bl k]/\Q (.int (if k then 1 else 0)) H):=by
 intro O9 s σ H xs us Q I r h;rcases h with ⟨i,rfl,q⟩ | ⟨k,rfl,q⟩
 ·obtain⟨u,rfl,t,rfl⟩:=xL r
  exact call_int_int ⟨.int i,H,I,⟨_,rfl⟩,q⟩
 ·obtain⟨u,rfl,r1⟩:=xL r
  cases r1;exact call_int_bool ⟨.int (if k then 1 else 0),H,I.tok _,⟨_,rfl⟩,q⟩
end
structure ObjM(h:Heap)(x dx C:Addr)(mA:Eo):Prop where
 obj:h.get? x=some (PySem.W.instObj C dx)
 ns:h.Ns1 dx mA
 ne:dx≠x
theorem QaX{h:Heap}{dx:Addr}{mA:Eo}(n:h.Ns1 dx mA):∃od,h.get? dx=some od/\∀name,PySem.W.lookIn name od=some (mA name):=by
 obtain⟨o,es,ep,ho,hd,hk,_,hm⟩:=n;refine⟨o,ho,λname=>?_⟩;have e:=hm name;unfold nsFind findBy at e;rw[<- Array.find?_toList] at e;unfold PySem.W.lookIn;rw[hd];dsimp only;split
 ·rename_i y q
  rw[q] at e;exact congrArg some e
 ·rename_i q
  rw[q] at e;have a:es.toList.any (·.refKey)=false:=by
   rw[List.any_eq_false];intro y hy;obtain⟨z,t,hkey⟩:=hk y (Array.mem_toList_iff.mp hy);simp[DictEntry.refKey,hkey]
  have a':¬ es.toList.any (·.refKey)=true:=by rw[a];exact Bz
  rw[Eb a'];exact congrArg some e
theorem ObjM.look{x dx C:Addr}{mA:Eo}(I:ObjM h x dx C mA):∃od,PySem.W.InstAt h x (PySem.W.instObj C dx) C (some od)/\∀name,PySem.W.lookIn name od=some (mA name) :=
 let ⟨od,ho,hl⟩:=QaX I.ns
 ⟨od,⟨I.obj,rfl,rfl,ho⟩,hl⟩
section
variable{prog:Program}{w:World}{A:Around}{E:Ek}{s:Shared}{K:Aa}{x dx C f:Addr}{mA:Eo}{name:Str}{v:Value}
theorem QdX{expr:Bool}{Q:Ek}(X:K.In s.heap)(I:ObjM s.heap x dx C mA)(hg:PySem.W.plainGet K C name=true)(hh:PySem.W.hasDictIn K C=true)
  (ha:PySem.W.findIn K (.ref C) name=some none) (hv:mA name=some v) (hv':PySem.W.handedIn v=true) (h:Q v { s with toks:=s.toks+1 }) :
  wpAny (model prog w) A (getAttr (.ref x) name expr) Q E s:=by
 obtain⟨od,J,hl⟩:=I.look;exact PySem.W.get_value X J (PySem.W.plainGet_of hg).1 (PySem.W.findObj_own hh ha rfl (by rw[hl,hv])) hv' h
theorem Qb0{pl:Sem Bool}{Q:Value×List Value->Shared->Prop}(X:K.In s.heap)(I:ObjM s.heap x dx C mA)(hg:PySem.W.plainGet K C name=true)
  (hf:PySem.W.findIn K (.ref C) name=some (some (.ref f))) (ht:PySem.W.isFn K (.ref f)=true) (hv:mA name=none) (h:Q (.ref f,[.ref x]) s) :
  wpAny (model prog w) A (getMethod (.ref x) name pl) Q E s:=by
 obtain⟨od,J,hl⟩:=I.look;exact PySem.W.method_fn X J (PySem.W.plainGet_of hg).1 (PySem.W.plainGet_of hg).2 hf (beq_iff_eq.mp ht) (by show(PySem.W.lookIn name od).map (·.isSome)=some false;rw[hl,hv];rfl) h
theorem QeR{ns:List Str}{Q:Unit->Shared->Prop}(X:K.In s.heap)(I:ObjM s.heap x dx C mA)
  (hs:PySem.W.findIn K (.ref C) "__setattr__" = some (some (.builtin "object.__setattr__"))) (hp:PySem.W.plainOver K C=true) (ht:PySem.W.takerIn K C name=some none) (hh:PySem.W.hasDictIn K C=true)
  (hw:PySem.Within mA ns) (hsz:ns.length<=sizeLine)
  (h:∀h',ObjM h' x dx C (λy=>if y=name then some v else mA y)->Heap.SameBut dx s.heap h'->Q () { s with heap:=h',toks:=s.toks+2 }) :
  wpAny (model prog w) A (setAttr (.ref x) name v) Q E s:=by
 obtain⟨od,J,hl⟩:=I.look;refine PySem.W.set_plain X J hs (PySem.W.osa_open (s:={ s with toks:=s.toks+1 }) (r:=none) X J hp ht λb=>?_);obtain⟨cd,hc,hd'⟩:=PySem.W.any_some hh;have hx:s.heap.get? x=some ⟨.ref C,some dx,.plain,#[]⟩:=I.obj;refine Ea (Ed (Ea (Ea (wpAny_loadPart hx (Ea (PySem.W.Looks.here (s:={ s with toks:=s.toks+1 }) (PySem.W.looks_clsIn X hc) ?_))))));rw[hd'];refine Ed (a:=some dx) (Ea (Ed (Ea ?_)));refine wpAny_nsSet1 (s:={ s with toks:=s.toks+1 }) I.ns λh' hn2 hs2=>?_;obtain⟨oD,esD,epD,hoD,hdD,hcD⟩:=hn2.count (PySem.Within.cons name v hw);refine Ea (wpAny_lookBehind hoD (by rw[hdD];exact pastItsLine_dict (Bk hcD (by rw[Bb];lia))) ?_)
 exact Ed (h _ ⟨(hs2.2 _ (Ne.symm I.ne)).trans I.obj,hn2,I.ne⟩ hs2)
theorem Qcq{R:Result->Shared->Prop}{vs:List Value}{kw:List (Str×Value)}(X:K.In s.heap)(hm:PySem.W.makesIn K C=true)
  (hi:PySem.W.findIn K (.ref C) "__init__" = some (some (.ref f))) (hf:PySem.W.typeIn K (.ref f)=some (.type "function"))
  (h:codeAny (model prog w) (A.under (.builtin "type.__call__" ⟨.ref C::vs,kw⟩)) (.call (.ref f) ⟨.ref (s.heap.objs.size+1)::vs,kw⟩) (PySem.W.InitBack (s.heap.objs.size+1) R)
   { s with heap:=(s.heap.push PySem.W.emptyDict).push (PySem.W.instObj C s.heap.objs.size) }) :
  codeAny (model prog w) A (.call (.ref C) ⟨vs,kw⟩) R s:=by
 obtain⟨hh,g,d,t,os⟩:=s;exact PySem.W.make_core (PySem.W.makes_of X hm) (PySem.W.looks_findIn X hi) (λself=>PySem.W.bind_fn X self hf) (.inl rfl) h
end
def YX(f:Str)(v:V):List (Str×V)->List (Str×V)
 | []=>[(f,v)]
 | (g,x)::r=>if g=f then (g,v)::r else (g,x)::YX f v r
theorem yG(f g:Str)(v:V):∀fs:List (Str×V),(YX f v fs).lookup g=if g=f then some v else fs.lookup g
  | []=>by
    show List.lookup g [(f,v)]=_;by_cases h:g=f
    . have hb:(g==f)=true:=beq_iff_eq.mpr h
      simp only[List.lookup,hb,Ec h]
    . have hb:(g==f)=false:=beq_eq_false_iff_ne.mpr h
      simp only[List.lookup,hb,Eb h]
  | (k,x)::r=>by
    have ih:=yG f g v r;rw[show YX f v ((k,x)::r)=(if k=f then (k,v)::r else (k,x)::YX f v r) from rfl]
    by_cases hk:k=f
    . rw[Ec hk]
      by_cases h:g=k
      . have hb:(g==k)=true:=beq_iff_eq.mpr h
        simp only[List.lookup,hb,Ec (h.trans hk)]
      . have hb:(g==k)=false:=beq_eq_false_iff_ne.mpr h
        simp only[List.lookup,hb,Eb (λe:g=f=>h (e.trans hk.symm))]
    . rw[Eb hk]
      by_cases h:g=k
      . have hb:(g==k)=true:=beq_iff_eq.mpr h
        simp only[List.lookup,hb,Eb (λe:g=f=>hk (h.symm.trans e))]
      . have hb:(g==k)=false:=beq_eq_false_iff_ne.mpr h
        simp only[List.lookup,hb];exact ih
theorem yc(f:Str)(v:V):∀fs:List (Str×V),f∈(YX f v fs).map (·.1)/\∀g,g∈fs.map (·.1)->g∈(YX f v fs).map (·.1)
  | []=>⟨by simp[YX],λg h=>by simp at h⟩
  | (k,x)::r=>by
    obtain⟨i1,i2⟩:=yc f v r;rw[show YX f v ((k,x)::r)=(if k=f then (k,v)::r else (k,x)::YX f v r) from rfl]
    by_cases hk:k=f
    . rw[Ec hk]
      subst hk;exact⟨by simp,λg h=>by simpa using h⟩
    . rw[Eb hk]
      refine⟨?_,λg h=>?_⟩
      . rw[Bc]
        exact Ay _ i1
      . rw[Bc] at h ⊢
        rcases Bm.mp h with e | e
        . exact Bm.mpr (.inl e)
        . exact Ay _ (i2 g e)
theorem yE(f:Str)(v:V):∀fs:List (Str×V),(YX f v fs).length<=fs.length+1
  | []=>by simp[YX]
  | (k,x)::r=>by
    have ih:=yE f v r;rw[show YX f v ((k,x)::r)=(if k=f then (k,v)::r else (k,x)::YX f v r) from rfl]
    by_cases hk:k=f
    . rw[Ec hk,Bb,Bb];lia
    . rw[Eb hk,Bb,Bb];lia
theorem RelO.some_of{o:Option Value}(r:RelO (some v) o):∃u,o=some u/\RelV v u:=by
 cases o with
 | none=>exact(show False from r).elim
 | some u=>exact⟨u,rfl,r⟩
theorem RelO.none_of{o:Option Value}(r:RelO none o):o=none:=by
 cases o with
 | none=>rfl
 | some u=>exact(show False from r).elim
theorem QaK(r:RelV v u):PySem.W.handedIn u=true:=by
 cases v with
 | non=>cases (show u=Value.none from r);rfl
 | bl b=>cases (show u=Value.bool b from r);rfl
 | int i=>obtain⟨t,e⟩:=(show ∃t,u=Value.int i t from r);cases e;rfl
 | str x=>obtain⟨t,e⟩:=(show ∃t,u=Value.str x t from r);cases e;rfl
 | byt b=>obtain⟨t,e⟩:=(show ∃t,u=Value.bytes b t from r);cases e;rfl
 | flt b=>obtain⟨t,e⟩:=(show ∃t,u=Value.float b t from r);cases e;rfl
 | ref a=>cases (show u=Value.ref a from r);rfl
 | ty n=>cases (show u=Value.type n from r);rfl
section
variable{P:Program}{w:World}{H H':Hp}{h h':Heap}{a C dx:Addr}{fs fs':List (Str×V)}
theorem K4(hok:HOk P w H h)(e:H a=some (.ins C dx fs)):∃mA,ObjM h a dx C mA/\(∀f,RelO (fs.lookup f) (mA f))/\PySem.Within mA (fs.map (·.1))/\fs.length<=1000/\H dx=some (.own a):=by
 obtain⟨d,z,ne,ob,mA,n,r,q⟩:=(show ObjOk P w H h a (.ins C dx fs) from hok a _ e);exact⟨mA,⟨ob,n,ne⟩,r,q,z,d⟩
end
structure Cls(K:Aa)(C:Addr):Prop where
 pg:PySem.W.plainGet K C Str.empty=true
 hd:PySem.W.hasDictIn K C=true
 po:PySem.W.plainOver K C=true
 sa:PySem.W.findIn K (.ref C) "__setattr__" = some (some (.builtin "object.__setattr__"))
def Cls.get{K:Aa}{C:Addr}(c:Cls K C)(f:Str):PySem.W.plainGet K C f=true:=c.pg
def NoAttr(K:Aa)(C:Addr)(f:Str):Prop:=PySem.W.findIn K (.ref C) f=some none
theorem NoAttr.taker{K:Aa}{C:Addr}{f:Str}(n:NoAttr K C f):PySem.W.takerIn K C f=some none:=by
 unfold PySem.W.takerIn;rw[show PySem.W.findIn K (.ref C) f=some none from n];rfl
structure uo(K:Aa)(C:Addr)(m:Str)(f:Addr):Prop where
 at_:PySem.W.findIn K (.ref C) m=some (some (.ref f))
 fn:PySem.W.isFn K (.ref f)=true
 kp:PySem.W.keepIn K (.ref f)=true
section
variable{X:Cx}{O9:Em}{σ:St}{H:Hp}{s:Shared}{a C dx:Addr}{fs:List (Str×V)}{f:Str}{v:V}{A:Around}{E:Ek}
theorem VF{b:Bool}{Q:Ek}(I:Inv X O9 σ H s)(e:H a=some (.ins C dx fs))(c:Cls X.K C)(n:NoAttr X.K C f)(l:fs.lookup f=some v)
  (h:∀u s',Inv X O9 σ H s'->RelV v u->Q u s'):wpAny (model X.prog X.w) A (getAttr (.ref a) f b) Q E s:=by
 obtain⟨mA,O,r,_,_,_⟩:=K4 I.hok e;obtain⟨u,hu,ru⟩:=RelO.some_of (v:=v) (o:=mA f) (by rw[<- l];exact r f)
 exact QdX I.kIn O (c.get f) c.hd n hu (QaK ru) (h u _ (I.tok _) ru)
theorem jv{m:Str}{g:Addr}{pl:Sem Bool}{Q:Value×List Value->Shared->Prop}(I:Inv X O9 σ H s)(e:H a=some (.ins C dx fs))(c:Cls X.K C)(k:uo X.K C m g)(l:fs.lookup m=none)
  (h:Q (.ref g,[.ref a]) s):wpAny (model X.prog X.w) A (getMethod (.ref a) m pl) Q E s:=by
 obtain⟨mA,O,r,_,_,_⟩:=K4 I.hok e;have hn:mA m=none:=RelO.none_of (by rw[<- l];exact r m)
 exact Qb0 I.kIn O (c.get m) k.at_ k.fn hn h
theorem Uf{Q:Unit->Shared->Prop}(I:Inv X O9 σ H s)(e:H a=some (.ins C dx fs))(c:Cls X.K C)(n:NoAttr X.K C f)(hl:fs.length < 1000)(ry:RelV y u)
  (h:∀s',Inv X O9 σ (upd H a (.ins C dx (YX f y fs))) s'->Q () s'):wpAny (model X.prog X.w) A (setAttr (.ref a) f u) Q E s:=by
 obtain⟨mA,O,r,wi,_,ho⟩:=K4 I.hok e;have hz:(fs.map (·.1)).length<=sizeLine:=by rw[Bt,sizeLine_eq];lia
 refine QeR I.kIn O c.sa c.po n.taker c.hd wi hz λh' O' sb=>h _ ?_;have hd:∃o,h'.get? dx=some o:=let ⟨o,_,_,e',_⟩:=O'.ns;⟨o,e'⟩;refine I.write (x:=a) (e:=dx) (by rw[e];exact True.intro) (.inr ho) (λb q hb z=>(sb.2 b hb).trans z) hd ?_
 refine⟨by rw[Q4 O.ne];exact ho,?_,O.ne,O'.obj,_,O'.ns,λg=>?_,λg hg=>?_⟩
 ·have:=yE f y fs;lia
 ·show RelO ((YX f y fs).lookup g) (if g=f then some u else mA g)
  rw[yG];by_cases q:g=f
  ·rw[Ec q,Ec q];exact ry
  ·rw[Eb q,Eb q];exact r g
 ·by_cases q:g=f
  ·rw[q];exact(yc f y fs).1
  ·refine(yc f y fs).2 g (wi g λz=>hg ?_)
   show(if g=f then some u else mA g)=none
   rw[Eb q];exact z
theorem Inv.made(I:Inv X O9 σ H s):Inv X O9 σ (upd (upd H s.heap.objs.size (.own (s.heap.objs.size+1))) (s.heap.objs.size+1) (.ins C s.heap.objs.size []))
  { s with heap:=(s.heap.push PySem.W.emptyDict).push (PySem.W.instObj C s.heap.objs.size) }:=by
 have e1:(s.heap.push PySem.W.emptyDict).get? s.heap.objs.size=some PySem.W.emptyDict:=Aw s.heap rfl;have e2:((s.heap.push PySem.W.emptyDict).push (PySem.W.instObj C s.heap.objs.size)).get? (s.heap.objs.size+1)=some (PySem.W.instObj C s.heap.objs.size):=by
  have:=Aw (s.heap.push PySem.W.emptyDict) (o:=PySem.W.instObj C s.heap.objs.size) rfl
  rwa [Co] at this
 have e3:(s.heap.push PySem.W.emptyDict).Ns s.heap.objs.size (λ_=>none):=⟨PySem.W.emptyDict,#[],_,e1,rfl,(λe he=>absurd he (by simp)),λ_=>rfl⟩
 have I1:=I.laid (a:=s.heap.objs.size) (o:=.own (s.heap.objs.size+1)) (h':=s.heap.push PySem.W.emptyDict) (t':=s.toks) (λb u q=>Ae _ q) (Ag _) ⟨_,e1⟩;refine I1.laid (a:=s.heap.objs.size+1) (o:=.ins C s.heap.objs.size []) (t':=s.toks) (λb u q=>Ae _ q) (Nat.le_of_eq (Co _ _)) ?_;have ne:s.heap.objs.size≠s.heap.objs.size+1:=Bh (C5 _);refine⟨by rw[Q4 ne,Zg],Bf _,ne,e2,λ_=>none,(Heap.Ns1.of_empty e3).at λo q=>Ae _ q,λ_=>True.intro,λy hy=>absurd rfl hy⟩
theorem QdF{prog:Program}{w:World}{f:Str}{pos:Pos}{s:Shared}{Q:Ek}(hb:attributeBase e f env (eval e env)=eval e env)
  (h:wpAny (model prog w) A (eval e env) (λo s₁=>wpAny (model prog w) A (getAttr o f true) Q E s₁) E s):wpAny (model prog w) A (eval (.Attribute e f pos) env) Q E s :=
 Attribute_any_ h (by rw[arm_eval_Attribute,hb])
end
def QiP(K:Aa)(ta:TE)(f:Str):TE:=λσ H Q=>ta σ H λx H1=>∃a C dx fs v,x=.ref a/\H1 a=some (.ins C dx fs)/\Cls K C/\NoAttr K C f/\fs.lookup f=some v/\Q v H1
def QiN(K:Aa)(ta tv:TE)(f:Str):TS:=λD σ H=>tv σ H λy H1=>ta σ H1 λx H2=>∃a C dx fs,x=.ref a/\H2 a=some (.ins C dx fs)/\Cls K C/\NoAttr K C f/\fs.length < 1000 /\
 D.nx σ (upd H2 a (.ins C dx (YX f y fs)))
def Qhb(X:Cx)(op:Operator)(rd:V->V->Hp->VK->Prop):Prop :=
 ∀(O9:Em)(s:Shared)(σ:St)(H:Hp)(x y:V)(u v:Value)(Q:VK),Inv X O9 σ H s->RelV x u->RelV y v->rd x y H Q->wpAny (model X.prog X.w) X.A (inplaceOp op u v) (EP X O9 σ Q) X.xe s
def QeM(K:Aa)(ta tv:TE)(rd:V->V->Hp->VK->Prop)(f:Str):TS:=λD σ H=>ta σ H λx H1=>∃a C dx fs v,x=.ref a/\H1 a=some (.ins C dx fs)/\Cls K C/\NoAttr K C f/\fs.lookup f=some v /\
 tv σ H1 λy H2=>rd v y H2 λz H3=>∃dx' fs',H3 a=some (.ins C dx' fs')/\fs'.length < 1000/\D.nx σ (upd H3 a (.ins C dx' (YX f z fs')))
section
variable{X:Cx}{o e value:Expr}{f:Str}{pos pos' tpos:Pos}{ta tv:TE}
theorem Qgq(he:PE X e ta)(hb:attributeBase e f X.env (eval e X.env)=eval e X.env):PE X (.Attribute e f pos) (QiP X.K ta f):=by
 intro O9 s σ H Q I h;refine QdF hb (thn (he O9 s σ H _ I h) λu s1 zz1=>?_);obtain⟨x,H1,I1,rx,a,C,dx,fs,v,ex,ea,c,n,l,q⟩:=zz1;subst ex;obtain rfl:u=Value.ref a:=rx;exact VF I1 ea c n l λu' s2 I2 ru=>⟨v,H1,I2,ru,q⟩
theorem QgD(ha:PE X o ta)(hv:PE X value tv)(hs:swapsWith value (some (.Attribute o f pos')) pos.line X.env=pure false):PS X (.Assign [.Attribute o f pos'] value pos) (QiN X.K ta tv f):=by
 intro O9 s σ H D I h;refine plainObj_wpAny_Assign_Attribute (thn (hv O9 s σ H _ I h) λu s1 ⟨y,H1,I1,ry,q⟩=>thn (ha O9 s1 σ H1 _ I1 q) λov s2 zz1=>?_) hs;obtain⟨x,H2,I2,rx,a,C,dx,fs,ex,ea,c,n,l,q2⟩:=zz1;subst ex;obtain rfl:ov=Value.ref a:=rx;exact Uf I2 ea c n l ry λs3 I3=>⟨σ,_,I3,q2⟩
theorem Qbc{op:Operator}{rd:V->V->Hp->VK->Prop}(ha:PE X o ta)(hv:PE X value tv)(hop:Qhb X op rd):PS X (.AugAssign (.Attribute o f tpos) op value pos) (QeM X.K ta tv rd f):=by
 intro O9 s σ H D I h;refine wpAny_AugAssign_AttributeAny (thn (ha O9 s σ H _ I h) λov s1 zz1=>?_);obtain⟨x,H1,I1,rx,a,C,dx,fs,v,ex,ea,c,n,l,q⟩:=zz1;subst ex;obtain rfl:ov=Value.ref a:=rx;refine VF I1 ea c n l λu s2 I2 ru=>thn (hv O9 s2 σ H1 _ I2 q) λw3 s3 ⟨y,H2,I3,ry,q3⟩=>thn (hop O9 s3 σ H2 v y u w3 _ I3 ru ry q3) λw4 s4 zz1=>?_;obtain⟨z,H3,I4,rz,dx',fs',ea',l',q4⟩:=zz1;exact Uf I4 ea' c n l' rz λs5 I5=>⟨σ,_,I5,q4⟩
def QiH:V->V->Hp->VK->Prop:=λx y H Q=>∃i j,x=.int i/\y=.int j/\Q (.int (i+j)) H
theorem QfU:Qhb X .Add QiH:=by
 rintro O9 s σ H x y u v Q I rx ry ⟨i,j,rfl,rfl,q⟩;obtain⟨t,rfl⟩:=(show ∃t,u=Value.int i t from rx);obtain⟨t',rfl⟩:=(show ∃t',v=Value.int j t' from ry);exact PyProof.Rows.iadd_int ⟨.int (i+j),H,I.tok _,⟨_,rfl⟩,q⟩
theorem Qfs{pl:Sem Bool}{m:Str}{apos:Pos}{args:List Expr}{Q:Ek}(he:PE X e te)(I:Inv X O9 σ H s)
  (h:te σ H λx H1=>∃a C dx fs g,x=.ref a/\H1 a=some (.ins C dx fs)/\Cls X.K C/\uo X.K C m g/\fs.lookup m=none /\
   ∀s1,Inv X O9 σ H1 s1->wpAny (model X.prog X.w) X.A (callWith pos (.ref g) [.ref a] (backTo pos (starEach args X.env)) (backToKw pos (keywordEach [] X.env))) Q X.xe s1)
  (ht:eval (.Call (.Attribute e m apos) args [] pos) X.env=(do
   let ov <- eval e X.env
   standAt apos.atName
   let (f,first) <- holding [ov] (getMethod ov m pl)
   callWith pos f first (backTo pos (starEach args X.env)) (backToKw pos (keywordEach [] X.env)))) :
  wpAny (model X.prog X.w) X.A (eval (.Call (.Attribute e m apos) args [] pos) X.env) Q X.xe s:=by
 refine PySem.W.methodCall_KW (pl:=pl) (thn (he O9 s σ H _ I h) λu s1 zz1=>?_) ht;obtain⟨x,H1,I1,rx,a,C,dx,fs,g,ex,ea,c,k,l,q⟩:=zz1;subst ex;obtain rfl:u=Value.ref a:=rx;exact jv I1 ea c k l (q s1 I1)
end
section
variable{X:Cx}{O9:Em}{σ:St}{H:Hp}{s:Shared}{A:Around}{E:Ek}{Q:Ek}{c:Value}{b:Bool}
end
structure Room(k:Nat)(A:Around):Prop where
 hd:A.handled=none
 dp:A.depth+3 * k+5 < recursionLimit
 un:A.units+16 * k+200 < cLine
theorem Room.mono{j k:Nat}(r:Room k A)(h:j<=k):Room j A:=⟨r.hd,by have:=r.dp;lia,by have:=r.un;lia⟩
theorem Room.deeper{k:Nat}{A:Around}(r:Room (k+1) A)(env:Env):Room k (A.deeper env) :=
 ⟨r.hd,by have:=r.dp;show A.depth+1+3 * k+5 < _;lia,by have:=r.un;show A.units+3+16 * k+200 < _;lia⟩
theorem uP{A:Around}{C:Addr}{kw:List (Str×Value)}:(A.under (.builtin "type.__call__" ⟨.ref C::us,kw⟩)).depth=A.depth+1:=by
 first | rfl | simp[Around.under,Code.weight,Code.isCreation,Code.isGuard,Code.isCaller,Code.frames,Code.isFrame,guardIds]
theorem uQ{A:Around}{C:Addr}{kw:List (Str×Value)}:(A.under (.builtin "type.__call__" ⟨.ref C::us,kw⟩)).units=A.units+1:=by
 first | rfl | simp[Around.under,Code.cUnits,Code.frames,Code.isFrame]
theorem Room.make{k:Nat}{A:Around}(r:Room (k+1) A)(C:Addr)(us:List Value)(kw:List (Str×Value)):Room k (A.under (.builtin "type.__call__" ⟨.ref C::us,kw⟩)) :=
 ⟨r.hd,by have:=r.dp;rw[uP];lia,by have:=r.un;rw[uQ];lia⟩
theorem Room.depth{k:Nat}{A:Around}(r:Room k A):A.depth < recursionLimit:=by have:=r.dp;lia
theorem Room.units{k:Nat}{A:Around}(r:Room k A):A.units+64 < cLine:=by have:=r.un;lia
def Qii:TA:=λ_ H Q=>Q [] H
def Qif(ta:TE)(tr:TA):TA:=λσ H Q=>ta σ H λx H1=>tr σ H1 λxs H2=>Q (x::xs) H2
section
variable{X:Cx}{e:Expr}{es:List Expr}{te:TE}{t:TA}{pos:Pos}
def pa_nil:PA X [] Qii:=λ_ _ _ _ H Q I h=>Calls.spliced_nil ⟨[],H,I,.nil,h⟩
theorem Gm(ha:PE X e te)(hr:PA X es t)(hs:starEach (e::es) X.env=(false,eval e X.env)::starEach es X.env:=by rfl):PA X (e::es) (Qif te t):=by
 intro pos O9 s σ H Q I h;rw[hs];show wpAny _ _ (spliced ((false,eval e X.env)::backTo pos (starEach es X.env))) _ _ s;refine Calls.spliced_cons (thn (ha O9 s σ H _ I h) λu s1 ⟨x,H1,I1,r1,q1⟩=>?_);exact thn (hr pos O9 s1 σ H1 _ I1 q1) λus s2 ⟨xs,H2,I2,r2,q2⟩=>⟨x::xs,H2,I2,.cons r1 r2,q2⟩
def QiW(t:TA):TE:=λσ H Q=>t σ H λxs H1=>xs.length<=sizeLine/\∀p,H1 p=none->Q (.ref p) (upd H1 p (.tup xs))
def QiS(t:TA):TE:=λσ H Q=>t σ H λxs H1=>xs.length<=sizeLine/\∀p,H1 p=none->Q (.ref p) (upd H1 p (.lst xs))
theorem Qgw{x1}(h:PA X es t):PE X (.Tuple es x1 pos) (QiW t):=by
 intro O9 s σ H Q I hq;refine wpAny_Tuple_spliced (thn (h pos O9 s σ H _ I hq) λus s1 ⟨xs,H1,I1,r,z,q⟩=>⟨by rw[<- r.length];exact z,?_⟩)
 have hf:H1 s1.heap.objs.size=none:=I1.hok.fresh (Ag _);refine⟨.ref s1.heap.objs.size,upd H1 s1.heap.objs.size (.tup xs),I1.laid (t':=s1.toks) (λb u e=>Ae _ e) (Ag _) ?_,rfl,q _ hf⟩;exact⟨z,us,r,⟨_,Aw _ rfl,rfl,_,rfl⟩⟩
theorem QcL(h:PA X es t):PE X (.List es pos) (QiS t):=by
 intro O9 s σ H Q I hq;refine wpAny_List_spliced (thn (h pos O9 s σ H _ I hq) λus s1 ⟨xs,H1,I1,r,z,q⟩=>⟨by rw[<- r.length];exact z,?_⟩)
 have hf:H1 s1.heap.objs.size=none:=I1.hok.fresh (Ag _);refine⟨.ref s1.heap.objs.size,upd H1 s1.heap.objs.size (.lst xs),I1.laid (t':=s1.toks) (λb u e=>Ae _ e) (Ag _) ?_,rfl,q _ hf⟩;exact⟨z,us,0,r,Aw _ rfl⟩
end
abbrev Sp:=List V->Hp->VK->XK->Prop
abbrev CXT:=List Env->Hp->Shared->XK->Value->Shared->Prop
structure Env0(P:Program)(w:World)(K:Aa)(mg:Eo)(O8:Heap)(A:Around)(outer:List Env)(s:Shared)(H:Hp):Prop where
 frames:A.frames=some outer
 mod:Mod K mg O8
 bs:∀b o,O8.get? b=some o->s.heap.get? b=some o/\H b=none
 bsz:O8.objs.size<=s.heap.objs.size
 funs:s.heap.FunFrames O8 outer
 frf:∀b∈frs outer,H b=none
 hok:HOk P w H s.heap
 bare:AllBare s.gens
def CE(outer:List Env)(P:Program)(w:World)(H:Hp)(s:Shared)(Q:VK)(u:Value)(s':Shared):Prop :=
 ∃v H',s'.os=s.os/\AllBare s'.gens/\Un (frs outer) [] H H' s.heap s'.heap/\HOk P w H' s'.heap/\RelV v u/\Q v H'
def CR(CX:CXT)(outer:List Env)(P:Program)(w:World)(H:Hp)(s:Shared)(Q:VK)(E:XK)(r:Result)(s':Shared):Prop :=
 match r with
 | .ok (.ret u)=>CE outer P w H s Q u s'
 | .ok _=>False
 | .error e=>CX outer H s E e s'
structure qW(P:Program)(w:World)(K:Aa)(mg:Eo)(O8:Heap)(CX:CXT)(k:Nat)(f:Addr)(fd:FuncData)(ps:List Str)(sp:Sp):Prop where
 len:∀vs H Q E,sp vs H Q E->vs.length=ps.length
 run:∀(A:Around)(outer:List Env)(s:Shared)(H:Hp)(args:Args)(us:List Value)(vs:List V)(Q:VK)(E:XK),Room k A->Env0 P w K mg O8 A outer s H->BindsTo s fd args (ps.zip us)->Vals vs us->sp vs H Q E ->
  codeAny (model P w) A (.call (.ref f) args) (CR CX outer P w H s Q E) s
theorem Env0.make{w:World}{K:Aa}(e:Env0 P w K mg O8 A outer s H)(C:Addr)(us:List Value)(kw:List (Str×Value)):
  Env0 P w K mg O8 (A.under (.builtin "type.__call__" ⟨.ref C::us,kw⟩)) outer s H:=⟨by first | exact e.frames | (simpa [Around.under,Code.envs,Code.isFrame,pushEnvs] using e.frames),e.mod,e.bs,e.bsz,e.funs,e.frf,e.hok,e.bare⟩
section
variable{X:Cx}{O9:Em}{σ:St}{H:Hp}{s s':Shared}
theorem Inv.env0(I:Inv X O9 σ H s):Env0 X.prog X.w X.K X.mg X.O8 X.A X.stack s H :=
 ⟨I.ok.frames,I.ok.mod,I.bs,Bk I.ok.bsz I.sz,I.stack,I.stkFree,I.hok,I.bare⟩
theorem Inv.after(I:Inv X O9 σ H s)(h:CE X.stack X.prog X.w H s Q u s'):EP X O9 σ Q u s':=by
 obtain⟨v,H',os,bare,un,hok,r,q⟩:=h;obtain⟨hh,g,d,t,os'⟩:=s';obtain rfl:os'=s.os:=os;exact⟨v,H',I.call (h':=hh) (g':=g) (d':=d) (t':=t) (ch:=[]) un hok bare (λb z=>absurd z (by simp)),r,q⟩
end
def Qie(sp:Sp)(dvs:List V)(E:XK)(t:TA):TE:=λσ H Q=>t σ H λvs H1=>sp (vs++dvs) H1 Q E
def Qdi(C:Addr)(m:Str)(sp:Sp)(dvs:List V)(E:XK)(ta:TE)(t:TA):TE:=λσ H Q=>ta σ H λx H1=>∃a dx fs,x=.ref a/\H1 a=some (.ins C dx fs)/\fs.lookup m=none /\
 t σ H1 λvs H2=>sp (x::(vs++dvs)) H2 Q E
def Binds(K:Aa)(fd:FuncData)(ps:List Str)(ds:List Value):Prop :=
 ∀(s:Shared)(us:List Value),K.In s.heap->(us++ds).length=ps.length->BindsTo s fd ⟨us,[]⟩ (ps.zip (us++ds))
theorem Binds.all{K:Aa}{ps:List Str}(h:∀us:List Value,us.length=ps.length->bindArgs fd ⟨us,[]⟩=pure (ps.zip us)):Binds K fd ps []:=λs us _ hl=>by
 rw[Bu] at hl ⊢;exact .of_eq (h us hl)
def YQ(CX:CXT)(X:Cx)(E:XK):Prop:=∀(O9:Em)(σ:St)(H:Hp)(s:Shared)(e:Value)(s':Shared),Inv X O9 σ H s->CX X.stack H s E e s'->X.xe e s'
section
variable{X:Cx}{CX:CXT}{k:Nat}{f C:Addr}{fd:FuncData}{ps:List Str}{sp:Sp}{dvs:List V}{ds:List Value}{E:XK}{x m:Str}{p pos apos:Pos}{e o:Expr}{es:List Expr}{ta:TE}{t:TA}
theorem gm{O9:Em}{σ:St}{H:Hp}{s:Shared}{Q:VK}{us:List Value}{vs:List V}(F:qW X.prog X.w X.K X.mg X.O8 CX k f fd ps sp)(hr:Room k X.A)(hb:Binds X.K fd ps ds)(hd:Vals dvs ds)(hx:YQ CX X E)
    (I:Inv X O9 σ H s) (r:Vals vs us) (h:sp (vs++dvs) H Q E):wpAny (model X.prog X.w) X.A (call (.ref f) us) (EP X O9 σ Q) X.xe s:=by
  have r2:Vals (vs++dvs) (us++ds):=r.append hd;have hl:(us++ds).length=ps.length:=by rw[<- r2.length];exact F.len _ _ _ _ h
  refine wpAny_call (codeAny_mono (F.run X.A X.stack s H ⟨us,[]⟩ (us++ds) (vs++dvs) Q E hr I.env0 (hb s us I.kIn hl) r2 h) λr s' hq=>?_);cases r with
  | error e=>exact hx O9 σ H s e s' I hq
  | ok fl =>
    cases fl with
    | ret u=>exact I.after hq
    | next=>exact False.elim hq
    | brk=>exact False.elim hq
    | cont=>exact False.elim hq
theorem Qek(F:qW X.prog X.w X.K X.mg X.O8 CX k f fd ps sp)(hr:Room k X.A)(hg:Gl X x)(hm:X.mg x=some (.ref f))(hk:PySem.W.keepIn X.K (.ref f)=true)(hb:Binds X.K fd ps ds)(hd:Vals dvs ds)(hx:YQ CX X E)
  (ha:PA X (e::es) t) (hdb:(x==("__debug__" : Str))=false:=by decide) (he:starEach (e::es) X.env=(false,eval e X.env)::starEach es X.env:=by rfl) (hpl:(backTo pos (starEach es X.env)).any (·.1)=false:=by rfl) :
  PE X (.Call (.Name x p) (e::es) [] pos) (Qie sp dvs E t):=by
 intro O9 s σ H Q I h;refine wpAny_Call_Name_kw (Gf I hg hm ?_ hdb);refine PySem.W.callWith_K (h₀:=X.O8) I.ok.mod.kin hk (thn (ha pos O9 s σ H _ I h) λus s1 ⟨vs,H1,I1,r,q⟩=>⟨I1.kIn,?_⟩) he hpl;exact gm F hr hb hd hx I1 r q
theorem Qen{pl:Sem Bool}(he:PE X o ta)(c:Cls X.K C)(hm:uo X.K C m f)(F:qW X.prog X.w X.K X.mg X.O8 CX k f fd ps sp)(hr:Room k X.A)(hb:Binds X.K fd ps ds)(hd:Vals dvs ds)(hx:YQ CX X E)(ha:PA X (e::es) t)
  (hst:starEach (e::es) X.env=(false,eval e X.env)::starEach es X.env:=by rfl) (hpl:(backTo pos (starEach es X.env)).any (·.1)=false:=by rfl)
  (ht:eval (.Call (.Attribute o m apos) (e::es) [] pos) X.env=(do
   let ov <- eval o X.env
   standAt apos.atName
   let (f,first) <- holding [ov] (getMethod ov m pl)
   callWith pos f first (backTo pos (starEach (e::es) X.env)) (backToKw pos (keywordEach [] X.env))):=by rfl) :
  PE X (.Call (.Attribute o m apos) (e::es) [] pos) (Qdi C m sp dvs E ta t):=by
 intro O9 s σ H Q I h;refine PySem.W.methodCall_KW (pl:=pl) (thn (he O9 s σ H _ I h) λu s1 zz1=>?_) ht;obtain⟨x,H1,I1,rx,a,dx,fs,ex,ea,l,q⟩:=zz1;subst ex;obtain rfl:u=Value.ref a:=rx;refine jv I1 ea c hm l ?_;refine PySem.W.callWith_K (first:=[.ref a]) (h₀:=X.O8) I.ok.mod.kin hm.kp (thn (ha pos O9 s1 σ H1 _ I1 q) λus s2 ⟨vs,H2,I2,r,q2⟩=>⟨I2.kIn,?_⟩) hst hpl
 exact gm (us:=.ref a::us) (vs:=.ref a::vs) F hr hb hd hx I2 (.cons rfl r) q2
theorem QcM{pl:Sem Bool}(he:PE X o ta)(c:Cls X.K C)(hm:uo X.K C m f)(F:qW X.prog X.w X.K X.mg X.O8 CX k f fd ps sp)(hr:Room k X.A)(hb:Binds X.K fd ps ds)(hd:Vals dvs ds)(hx:YQ CX X E)
  (ht:eval (.Call (.Attribute o m apos) [] [] pos) X.env=(do
   let ov <- eval o X.env
   standAt apos.atName
   let (f,first) <- holding [ov] (getMethod ov m pl)
   callWith pos f first (backTo pos (starEach [] X.env)) (backToKw pos (keywordEach [] X.env))):=by rfl) :
  PE X (.Call (.Attribute o m apos) [] [] pos) (Qdi C m sp dvs E ta Qii):=by
 intro O9 s σ H Q I h;refine PySem.W.methodCall_KW (pl:=pl) (thn (he O9 s σ H _ I h) λu s1 zz1=>?_) ht;obtain⟨x,H1,I1,rx,a,dx,fs,ex,ea,l,q⟩:=zz1;subst ex;obtain rfl:u=Value.ref a:=rx;refine jv I1 ea c hm l ?_;exact PySem.W.callWith_K0 (first:=[.ref a]) I1.kIn hm.kp (gm (us:=[.ref a]) (vs:=[.ref a]) F hr hb hd hx I1 (.cons rfl .nil) q)
structure Mk(K:Aa)(C f:Addr):Prop where
 makes:PySem.W.makesIn K C=true
 init:PySem.W.findIn K (.ref C) "__init__" = some (some (.ref f))
 fn:PySem.W.isFn K (.ref f)=true
 kp:PySem.W.keepIn K (.ref C)=true
end
section
variable{X:Cx}{CX:CXT}{k:Nat}{f C:Addr}{fd:FuncData}{ps ks:List Str}{sp:Sp}{E:XK}{x m:Str}{p pos apos kpos:Pos}{e o:Expr}{es:List Expr}{kws:List Keyword}{te ta:TE}{t tk:TA}{nm:Option Str}
variable{g:List Value->List Value->List Value}{gV:List V->List V->List V}
end
structure Qs(N P:List Str)(sc:Scope):Prop where
 kind:sc.kind=.function
 co:sc.isCoroutine=false
 gen:sc.isGenerator=false
 nd:N.Nodup
 pre:N.take P.length=P
 par:∀x∈P,sc.names.lookup x=some .local∨sc.names.lookup x=some .cell
 nofree:∀y∈sc.names,y.2≠.free
theorem U2{kindOf:Str->Option NameKind}{x:Str}:∀{binds:List (Str×Value)}{m:Eo},(∀v,(x,v)∉binds)->bindL kindOf binds m x=m x
  | [],_,_=>rfl
  | (n,v)::r,m,h=>by
    unfold bindL;rw[U2 λw hw=>h w (Ay _ hw)];split
    . have:x≠n:=by rintro rfl;exact h v List.mem_cons_self
      simp[this]
    . rfl
theorem U0{kindOf:Str->Option NameKind}{x:Str}:∀{binds:List (Str×Value)}{m:Eo},(∀v,(x,v)∉binds)->bindC kindOf binds m x=m x
  | [],_,_=>rfl
  | (n,v)::r,m,h=>by
    unfold bindC;rw[U0 λw hw=>h w (Ay _ hw)];split
    . rfl
    . have:x≠n:=by rintro rfl;exact h v List.mem_cons_self
      simp[this]
theorem U1{kindOf:Str->Option NameKind}{x:Str}:∀{P:List Str}{vs:List Value}{i:Nat}{m:Eo},P.Nodup->P[i]?=some x->vs[i]?=some v->kindOf x=some .local ->
    bindL kindOf (P.zip vs) m x=some v
  | [],_,_,_,_,h,_,_=>by simp at h
  | _::_,[],_,_,_,_,h,_=>by simp at h
  | p::P,w::vs,0,m,nd,h1,h2,hk=>by
    simp at h1 h2;subst h1;subst h2;show bindL kindOf ((p,w)::P.zip vs) m p=_;unfold bindL;rw[U2 λv hv=>(List.nodup_cons.mp nd).1 (List.of_mem_zip hv).1,Ec hk];simp
  | p::P,w::vs,i+1,m,nd,h1,h2,hk=>by
    show bindL kindOf ((p,w)::P.zip vs) m x=_;unfold bindL;exact U1 (i:=i) (List.nodup_cons.mp nd).2 (by simpa using h1) (by simpa using h2) hk
theorem UZ{kindOf:Str->Option NameKind}{x:Str}:∀{P:List Str}{vs:List Value}{i:Nat}{m:Eo},P.Nodup->P[i]?=some x->vs[i]?=some v->kindOf x≠some .local ->
    bindC kindOf (P.zip vs) m x=some v
  | [],_,_,_,_,h,_,_=>by simp at h
  | _::_,[],_,_,_,_,h,_=>by simp at h
  | p::P,w::vs,0,m,nd,h1,h2,hk=>by
    simp at h1 h2;subst h1;subst h2;show bindC kindOf ((p,w)::P.zip vs) m p=_;unfold bindC;rw[U0 λv hv=>(List.nodup_cons.mp nd).1 (List.of_mem_zip hv).1,Eb hk];simp
  | p::P,w::vs,i+1,m,nd,h1,h2,hk=>by
    show bindC kindOf ((p,w)::P.zip vs) m x=_;unfold bindC;exact UZ (i:=i) (List.nodup_cons.mp nd).2 (by simpa using h1) (by simpa using h2) hk
def start(N:List Str)(vs:List V):St:=vs.map some++List.replicate (N.length - vs.length) none
def y0(CX:CXT)(P:Program)(w:World)(K:Aa)(mg:Eo)(O8:Heap)(N:List Str)(qual:Str)(scope:Scope)(f:Addr)(cd:Value)(A:Around)(outer:List Env)(s:Shared)(H:Hp)(E:XK):Cx where
 prog:=P
 w:=w
 K:=K
 mg:=mg
 O8:=O8
 A:=A.deeper (envOfC qual scope s.heap.objs.size f cd)
 N:=N
 s₀:=s
 H₀:=H
 env:=envOfC qual scope s.heap.objs.size f cd
 outer:=outer
 stack:=envOfC qual scope s.heap.objs.size f cd::outer
 ex:=[]
 calm:=true
 fn:=λ_=>true
 pn:=[]
 xe:=λe s'=>wpAny (model P w) (A.deeper (envOfC qual scope s.heap.objs.size f cd)) (leaving (envOfC qual scope s.heap.objs.size f cd) e) (λ_ s''=>CX outer H s E e s'') (λe' s''=>CX outer H s E e' s'') s'
theorem GW{sc:Scope}{n:Nat}{x:Str}(h:sc.names.lookup x=some .cell):∃c,(cellsFrom n sc.names []).lookup x=some c:=by
 have q:=PySem.W.cellsFrom_some sc.names n [] (.inl h);exact Option.isSome_iff_exists.mp q
theorem QaN{CX:CXT}{P:Program}{w:World}{K:Aa}{mg:Eo}{O8:Heap}{N ps:List Str}{qual:Str}{scope:Scope}{f:Addr}{cd:Value}{A:Around}{outer:List Env}{s s1:Shared}{H:Hp}{E:XK}{us:List Value}{vs:List V}
  (S:Qs N ps scope) (hd:A.handled=none) (e0:Env0 P w K mg O8 A outer s H) (hl:vs.length=ps.length) (r:Vals vs us)
  (x:InCallC s s.heap.objs.size (bindL (envOfC qual scope s.heap.objs.size f cd).kindOf (ps.zip us) λ_=>none) (cellsFrom (s.heap.objs.size+1) scope.names []) (bindC (envOfC qual scope s.heap.objs.size f cd).kindOf (ps.zip us) λ_=>none) s1) :
  Inv (y0 CX P w K mg O8 N qual scope f cd A outer s H E) [] (start N vs) H s1:=by
 have hpl:ps.length<=N.length:=by have:=congrArg List.length S.pre;rw[Ba] at this;lia
 obtain⟨h1,tk,rfl,hk⟩:=x.done;have noA:∀b:Addr,b∉(y0 CX P w K mg O8 N qual scope f cd A outer s H E).ex:=λb z=>absurd (show b∈([]:Es) from z) (by simp)
 refine⟨⟨e0.mod,S.kind,rfl,rfl,Ag _,λy z c h1 h2=>?_,λy hy=>?_,λy c _ h=>?_,λ_=>hd,Around.frames_deeper e0.frames,.inr ⟨rfl,rfl⟩,λb z=>absurd z (noA b),e0.bs,e0.bsz,λb _ _=>noA b,λb z=>absurd z (noA b),e0.funs,e0.frf⟩,
  rfl,e0.bare,Un.kept hk,⟨_,x.toInCall.ns,λi y v h1 h2 h3=>?_⟩,λy c h=>⟨_,x.cell y c h⟩,e0.hok.fresh (Ag _),λy c h=>?_,λp hp=>absurd (show p∈([]:Em) from hp) (by simp),e0.hok.kept hk,?_⟩
 ·exact name_of_addr x.apart (PySem.mem_of_lookup h1) (PySem.mem_of_lookup h2)
 ·have hy:scope.names.lookup y=some .cell∨scope.names.lookup y=some .free:=hy
  rcases hy with hy | hy
  ·exact GW hy
  ·exact absurd rfl (S.nofree _ (PySem.mem_of_lookup hy))
 ·exact Nat.le_of_lt (x.above y c (PySem.mem_of_lookup h))
 ·have hi:i < vs.length:=by
   unfold start at h2;by_cases hi:i < vs.length
   ·exact hi
   ·rw[Ar (by simpa using hi)] at h2
    rw[List.getElem?_replicate] at h2;split at h2<;>cases h2
  have ha:vs[i]?=some v:=by
   unfold start at h2;rw[Ai (by simpa using hi),Bv] at h2
   cases e:vs[i]? with
   | none=>rw[e] at h2;cases h2
   | some a=>rw[e] at h2;cases h2;rfl
  obtain⟨u,hu,rv⟩:=r.get ha;have hp:ps[i]?=some y:=by
   rw[<- S.pre,Ca (by lia)];exact h1
  have ndP:ps.Nodup:=by rw[<- S.pre];exact S.nd.sublist (List.take_sublist _ _)
  refine⟨u,rv,?_⟩;rcases S.par y (Ax hp) with k | k
  ·exact .inl ⟨k,U1 ndP hp hu k⟩
  ·obtain⟨c,e⟩:=GW (n:=s.heap.objs.size+1) k
   refine .inr ⟨.inl k,c,e,?_⟩;have q:=x.cell y c e;rw[UZ ndP hp hu (by show scope.names.lookup y≠_;rw[k];decide)] at q
   exact q
 ·exact e0.hok.fresh (Nat.le_of_lt (x.above y c (PySem.mem_of_lookup h)))
 ·unfold start
  show _=N.length;rw[Ao,Bt,List.length_replicate];lia
theorem Qht{CX:CXT}{P:Program}{w:World}{K:Aa}{mg:Eo}{O8:Heap}{k:Nat}{f:Addr}{name qual:Str}{params:Arguments}{body:List Stmt}{scope:Scope}{dV kV doc pm cdv ct oc:Value}{an od:Option Addr}
    {osl:Array (Option Value)} {N ps:List Str} {sp:Sp} (lk:K.lookup f=some ⟨oc,od,.func (PySem.W.fnOf name qual params body scope dV kV doc pm an cdv ct),osl⟩) (hcd:PySem.W.codeIn K cdv qual=true) (S:Qs N ps scope)
    (len:∀vs H Q E,sp vs H Q E->vs.length=ps.length)
    (hbody:∀(A:Around)(outer:List Env)(s:Shared)(H:Hp)(vs:List V)(Q:VK)(E:XK),Room k (A.deeper (envOfC qual scope s.heap.objs.size f cdv))->sp vs H Q E ->
      ∃t,PSs (y0 CX P w K mg O8 N qual scope f cdv A outer s H E) body t/\t { nx:=λ_ H'=>Q .non H',rt:=Q } (start N vs) H) :
    qW P w K mg O8 CX (k+1) f (PySem.W.fnOf name qual params body scope dV kV doc pm an cdv ct) ps sp:=by
  refine⟨len,λA outer s H args us vs Q E hr e0 hb r hsp=>?_⟩;have hl:=len _ _ _ _ hsp;have KX:K.In s.heap:=e0.mod.kin.keeps λb o e=>(e0.bs b o e).1;have lim:s.heap.NoLimit:=e0.mod.nolimit.keeps λb o e=>(e0.bs b o e).1;have hkind:∀y∈ps.zip us,scope.names.lookup y.1=some .local∨(scope.names.lookup y.1=some .cell/\((cellsFrom (s.heap.objs.size+1) scope.names []).lookup y.1).isSome=true):=λ⟨n,v⟩ hy=>by
    rcases S.par n (List.of_mem_zip hy).1 with q | q
    . exact .inl q
    . exact .inr ⟨q,PySem.W.cellsFrom_some _ _ _ (.inl q)⟩
  refine codeAny_call_function hr.depth (KX _ _ lk) rfl S.co S.gen rfl (PySem.W.codeRec_of KX hcd) (hb _ _ _ _ ?_);refine wpAny_newFunctionEnv_cells S.kind hkind λenv he s1 x=>?_;subst he;refine⟨lim.keeps x.toInCall.keep,codeAny_func ?_⟩;obtain⟨t,ht,hq⟩:=hbody A outer s H vs Q E (hr.deeper _) hsp;have I:Inv (y0 CX P w K mg O8 N qual scope f cdv A outer s H E) [] (start N vs) H s1:=QaN S hr.hd e0 hl r x;refine wpAny_mono (ht [] s1 (start N vs) H _ I hq) (λfl s' hs=>?_) λe s' hs=>hs;have fin:∀{σ':St}{H':Hp}{v:V}{u:Value},Inv (y0 CX P w K mg O8 N qual scope f cdv A outer s H E) [] σ' H' s'->RelV v u->Q v H'->CE outer P w H s Q u s' :=
    λ{σ' H' v u} J rv q=>⟨v,H',J.os,J.bare,J.O8,J.hok,rv,q⟩
  cases fl with
  | ret u =>
    obtain⟨v,σ',H',J,rv,q⟩:=hs;exact fin J rv q
  | next =>
    obtain⟨σ',H',J,q⟩:=hs;exact fin (v:=V.non) (u:=Value.none) J rfl q
  | brk =>
    obtain⟨_,_,_,q⟩:=hs;exact False.elim q
  | cont =>
    obtain⟨_,_,_,q⟩:=hs;exact False.elim q
section
variable{X:Cx}{x:Str}{p pos:Pos}{e:Expr}{es:List Expr}{t:TA}{id T:String}{r:List V->Hp->VK->Prop}
def tCB(r:List V->Hp->VK->Prop)(t:TA):TE:=λσ H Q=>t σ H λvs H1=>r vs H1 Q
theorem QcJ(hc:JY X (.builtin id) r)(hg:Gl X x)(hm:X.mg x=none)(hv:bootBuiltins x=some (.builtin id))(ha:PA X (e::es) t)(hn:x ≠ "__name__" := by decide)(hdb:(x==("__debug__" : Str))=false:=by decide)
  (he:starEach (e::es) X.env=(false,eval e X.env)::starEach es X.env:=by rfl) (hpl:(backTo pos (starEach es X.env)).any (·.1)=false:=by rfl):PE X (.Call (.Name x p) (e::es) [] pos) (tCB r t):=by
 intro O9 s σ H Q I h;refine wpAny_Call_Name_kw (Ge I hg hm hv ?_ hn hdb);exact PyProof.Rows.callWith_builtin1 (thn (ha pos O9 s σ H _ I h) λus s1 ⟨vs,H1,I1,r1,q1⟩=>hc O9 s1 σ H1 vs us Q I1 r1 q1) he hpl
theorem Qa7(hc:JY X (.type T) r)(hg:Gl X x)(hm:X.mg x=none)(hv:bootBuiltins x=some (.type T))(ha:PA X (e::es) t)(hn:x ≠ "__name__" := by decide)(hdb:(x==("__debug__" : Str))=false:=by decide)
  (he:starEach (e::es) X.env=(false,eval e X.env)::starEach es X.env:=by rfl) (hpl:(backTo pos (starEach es X.env)).any (·.1)=false:=by rfl):PE X (.Call (.Name x p) (e::es) [] pos) (tCB r t):=by
 intro O9 s σ H Q I h;refine wpAny_Call_Name_kw (Ge I hg hm hv ?_ hn hdb);exact PyProof.Rows.callWith_type1 (thn (ha pos O9 s σ H _ I h) λus s1 ⟨vs,H1,I1,r1,q1⟩=>hc O9 s1 σ H1 vs us Q I1 r1 q1) he hpl
end
end L2
namespace HT
open PySem PyProof.Rows
section
open PySem.SeqAt
open PySem.AutoSeq1 (wpAny_loadPart')
open PySem.MeetsSeq PySem.MeetsSeq2 PySem.MeetsSeq3
end
section
variable{prog:Program}{w:World}{A:Around}{E:Ek}{s:Shared}
theorem cat_tup{t b:Addr}{vs ws:List Value}{Q:Ek}(ht:IsTup s.heap t vs.toArray)(hb:IsTup s.heap b ws.toArray)(hv:vs≠[])
  (h1:ws=[]->Q (.ref t) s) (h2:ws≠[]->Q (.ref s.heap.objs.size) { s with heap:=s.heap.push { cls:=.type "tuple", data:=.seq (vs++ws).toArray } })
  (hsz:vs.length+ws.length<=sizeLine):wpAny (model prog w) A (binaryOp .Add (.ref t) (.ref b)) Q E s:=by
 obtain⟨⟨cls,dd,data,sl⟩,ho,hc,n,hd⟩:=id ht;obtain⟨⟨cls2,dd2,data2,sl2⟩,ho2,hc2,n2,hd2⟩:=id hb;simp only at hc hd hc2 hd2;subst hc hd hc2 hd2;have e:vs.toArray++ws.toArray=(vs++ws).toArray:=by simp
 by_cases hw:ws=[]
 ·exact concat_meets ⟨_,ho,rfl⟩ ⟨_,ho2,rfl⟩ noFill_tuple_add seq_tuple_add PySem.F.slot_tuple_add PySem.F.entry_tuple_add (PySem.F.args_tuple_add_2 _ _)
   (tuple_addW1 t b vs.toArray ws.toArray n n2 dd dd2 sl sl2 (by simpa using hv) (by simp[hw])) ⟨ho,ho2,h1 hw⟩
 ·refine concat_meets ⟨_,ho,rfl⟩ ⟨_,ho2,rfl⟩ noFill_tuple_add seq_tuple_add PySem.F.slot_tuple_add PySem.F.entry_tuple_add (PySem.F.args_tuple_add_2 _ _)
   (tuple_addW2 t b vs.toArray ws.toArray n n2 dd dd2 sl sl2 (by simpa using hv) (by simpa using hw) (by rw[Ap,Ap];exact hsz)) ⟨ho,ho2,?_⟩
  rw[e];exact h2 hw
def sIx(n d:Nat):Option Int->Nat
 | none=>d
 | some v=>if v < 0 then (v+(n:Int)).toNat else min v.toNat n
theorem sIx_nat(n d k:Nat):sIx n d (some (k:Int))=min k n:=by
 show(if (k:Int) < 0 then ((k:Int)+(n:Int)).toNat else min (k:Int).toNat n)=min k n
 rw[Eb (by lia),B7]
theorem QgM(n d:Nat)(hd:d<=n)(o:Option Int):sIx n d o<=n:=by
  cases o with
  | none=>exact hd
  | some v =>
    show(if v < 0 then (v+(n:Int)).toNat else min v.toNat n)<=n
    by_cases hv:v < 0
    . rw[Ec hv];lia
    . rw[Eb hv];exact Nat.min_le_right _ _
theorem gZ(v:Int)(n d:Nat):(if v < 0 then max (v+(n:Int)) 0 else min v (n:Int))=((sIx n d (some v):Nat):Int):=by
 show(if v < 0 then max (v+(n:Int)) 0 else min v (n:Int))=(((if v < 0 then (v+(n:Int)).toNat else min v.toNat n):Nat):Int)
 by_cases hv:v < 0
 ·simp only[Ec hv];lia
 ·simp only[Eb hv];lia
theorem uq(lo hi:Option Int)(n:Nat):Builtin.Slice.sliceAdjust lo hi 1 (n:Int)=(((sIx n 0 lo:Nat):Int),((sIx n n hi:Nat):Int)):=by
 have h1:¬ ((1:Int) < 0):=by lia
 unfold Builtin.Slice.sliceAdjust;simp only[h1,if_false];refine Prod.ext ?_ ?_
 ·cases lo with
  | none=>rfl
  | some v=>exact gZ v n 0
 ·cases hi with
  | none=>rfl
  | some v=>exact gZ v n n
theorem gc(i j:Nat):Builtin.Slice.slicePlaces (i:Int) (j:Int) 1=j - i:=by
 unfold Builtin.Slice.slicePlaces;have h1:(1:Int) > 0:=by lia
 simp only[h1,if_true,Int.ediv_one];split<;>lia
theorem Uj{o:Option Int}{Q:Option Int->Shared->Prop}(p:IsPart v o)(h:Q o s):wpAny (model prog w) A (Builtin.Slice.slicePartIndex v) Q E s:=by
 cases p with
 | none=>exact slicePart_none h
 | int i t=>exact slicePart_int h
theorem sliceApplied_gen{sl:Addr}{lo hi:Option Int}{n:Nat}{Q:Int×Int×Nat->Shared->Prop}(hs:s.heap.IsSliceOf sl vl vu .none)(pl:IsPart vl lo)(pu:IsPart vu hi)
  (h:Q (((sIx n 0 lo:Nat):Int),1,sIx n n hi - sIx n 0 lo) s):wpAny (model prog w) A (Builtin.Slice.sliceApplied (.ref sl) (pure (n:Int))) Q E s:=by
 obtain⟨os,hos,hcs,hds⟩:=id hs;unfold Builtin.Slice.sliceApplied Builtin.Slice.sliceFields;refine Ea (Ea (wpAny_field hos hds (x:=vl) rfl (Ea (wpAny_field hos hds (x:=vu) rfl (Ea (wpAny_field hos hds (x:=.none) rfl (Ed ?_)))))));refine Ea (slicePart_none ?_);show wpAny _ _ (if ((1:Int)==0)=true then _ else _) _ _ s
 rw[Eb (by decide)]
 refine Ea (Uj pl (Ea (Uj pu (Ea (Ed ?_)))));show wpAny _ _ (match Builtin.Slice.sliceAdjust lo hi 1 (n:Int) with | (lo,hi)=>pure (lo,(1:Int),Builtin.Slice.slicePlaces lo hi 1)) _ _ s
 rw[uq lo hi n];show wpAny _ _ (pure (((sIx n 0 lo:Nat):Int),(1:Int),Builtin.Slice.slicePlaces ((sIx n 0 lo:Nat):Int) ((sIx n n hi:Nat):Int) 1)) _ _ s;rw[gc];exact Ed h
theorem QcP(xs:Array Value)(i k:Nat):((List.range k).filterMap λ(m:Nat)=>xs[((i:Int)+(m:Int) * 1).toNat]?).toArray=((xs.toList.drop i).take k).toArray:=by
 have e:(λ(m:Nat)=>xs[((i:Int)+(m:Int) * 1).toNat]?)=λm=>xs[i+m]?:=by
  funext m;have:((i:Int)+(m:Int) * 1).toNat=i+m:=by lia
  rw[this]
 rw[e];have:=pick_run xs i k;rw[List.filterMap_map] at this;have e2:((λx=>xs[x]?)∘λx=>i+x)=λm=>xs[i+m]?:=rfl;rw[e2] at this;rw[this]
theorem getItem_tuple_cut{t sl:Addr}{items:Array Value}{lo hi:Option Int}{Q:Ek}(ht:IsTup s.heap t items)(hs:s.heap.IsSliceOf sl vl vu .none)(pl:IsPart vl lo)(pu:IsPart vu hi)
  (hw:¬ (sIx items.size 0 lo=0/\sIx items.size items.size hi=items.size))
  (h:Q (.ref s.heap.objs.size) { s with heap:=s.heap.push { cls:=.type "tuple", data:=.seq ((items.toList.drop (sIx items.size 0 lo)).take (sIx items.size items.size hi - sIx items.size 0 lo)).toArray } })
  (hsz:items.size<=sizeLine):wpAny (model prog w) A (getItem (.ref t) (.ref sl)) Q E s:=by
 have htake:sizeOk (.seq ((items.toList.drop (sIx items.size 0 lo)).take (sIx items.size items.size hi - sIx items.size 0 lo)).toArray):=by
  show((items.toList.drop (sIx items.size 0 lo)).take (sIx items.size items.size hi - sIx items.size 0 lo)).toArray.size<=sizeLine;rw[Ap,Ba,Br,Cj];lia
 have hj:sIx items.size items.size hi<=items.size:=QgM _ _ (Ag _) hi;obtain⟨os,hos,hcs,hds⟩:=id hs;have hTs:s.TypeIs (.ref sl) "slice" := ⟨os,hos,hcs⟩;unfold getItem
 try with_reducible refine wpAny_holding ?_
 first | refine Ea (Ed ?_) | skip
 refine Ea (wpAny_sequenceKey ht.typeIs (by decide) ?_)
 refine Ea (wpAny_callSpecial?_slot (name:=Str.ofString "__getitem__") ht.typeIs PyProof.Rows.slot_tuple_getitem
  (wpAny_call_entry PyProof.Rows.slot_tuple_getitem ht.typeIs entry_tuple_getitem ?_ (args_tuple_getitem _ _)))
 show wpAny _ _ (Builtin.Tuple.tupleItemsOf (.ref t) >>= _) _ _ s;refine Ea (tupleItemsOf_ ht ?_);refine Ea (wpAny_typeOf hTs ?_);rw[Ec (by decide)]
 refine Ea (sliceApplied_gen hs pl pu ?_);have hno:¬ ((((sIx items.size 0 lo:Nat):Int)==0&&(1:Int)==1&&(sIx items.size items.size hi - sIx items.size 0 lo)==items.size)=true):=by
  intro q;rw[Be,Be] at q;have q1:((sIx items.size 0 lo:Nat):Int)=0:=eq_of_beq q.1.1;have q2:sIx items.size items.size hi - sIx items.size 0 lo=items.size:=eq_of_beq q.2;exact hw ⟨by lia,by lia⟩
 show wpAny _ _ (if (((sIx items.size 0 lo:Nat):Int)==0&&(1:Int)==1&&(sIx items.size items.size hi - sIx items.size 0 lo)==items.size)=true then _ else _) _ _ s
 rw[Eb hno,QcP]
 first
  | exact Ea (m:=Builtin.Tuple.tupleExact _) (wpAny_newObj_type (Ed ⟨_,rfl,Ed h⟩) htake)
  | exact Ea (m:=Builtin.Tuple.tupleExact _) (wpAny_newObj_type (Ea (Ed (Ed ⟨_,rfl,Ed h⟩))) htake)
  | exact Ea (Ea (m:=Builtin.Tuple.tupleExact _) (wpAny_newObj_type (Ed (Ed ⟨_,rfl,Ed h⟩)) htake))
  | exact Ea (Ea (m:=Builtin.Tuple.tupleExact _) (wpAny_newObj_type (Ed ⟨_,rfl,Ed h⟩) htake))
end
end HT
namespace L2
open PySem PySem.Spec PyProof.Rows
abbrev TO:=St->Hp->(Option Int->Hp->Prop)->Prop
def PO(X:Cx)(e:Option Expr)(t:TO):Prop :=
  ∀(O9 : List (Addr × Obj))(s : Shared)(σ : St)(H : Hp)(Q : Option Int -> Hp -> Prop), Inv X O9 σ H s -> t σ H Q ->
    wpAny (model X.prog X.w) X.A (evalPart e X.env) (λu s'=>∃o H',Inv X O9 σ H' s'/\IsPart u o/\Q o H') X.xe s
def Qe0:TO:=λ_ H Q=>Q none H
def Qik(t:TE):TO:=λσ H Q=>t σ H λx H1=>∃i,x=.int i/\Q (some i) H1
section
variable{X:Cx}{e:Expr}{te:TE}{lo hi:Option Expr}{tl th:TO}{pos p2:Pos}
theorem Qeu:PO X none Qe0:=by
 intro O9 s σ H Q I h;rw[evalPart_none];exact Ed ⟨none,H,I,.none,h⟩
theorem Qev(h:PE X e te):PO X (some e) (Qik te):=by
 intro O9 s σ H Q I hw;rw[evalPart_some];refine thn (h O9 s σ H _ I hw) λu s1 ⟨x,H1,I1,r1,q1⟩=>?_;obtain⟨i,rfl,q⟩:=q1;obtain⟨t,rfl⟩:=r1;exact⟨some i,H1,I1,.int i t,q⟩
def SlR(X:Cx)(r:V->Option Int->Option Int->Hp->VK->Prop):Prop :=
  ∀(O9 : List (Addr × Obj))(s : Shared)(σ : St)(H : Hp)(x : V)(v vl vu : Value)(lo hi : Option Int)(sl : Addr)(Q : VK), Inv X O9 σ H s -> RelV x v -> s.heap.IsSliceOf sl vl vu .none -> IsPart vl lo -> IsPart vu hi -> r x lo hi H Q ->
    ∃T id,typeLookup (.type T) "__getitem__" = pure (some (.builtin id))/\s.TypeIs v T/\wpAny (model X.prog X.w) X.A (getItem v (.ref sl)) (EP X O9 σ Q) X.xe s
def tSl(r:V->Option Int->Option Int->Hp->VK->Prop)(te:TE)(tl th:TO):TE:=λσ H Q=>te σ H λx H1=>tl σ H1 λl H2=>th σ H2 λu H3=>r x l u H3 Q
theorem QcN{r:V->Option Int->Option Int->Hp->VK->Prop}(hr:SlR X r)(he:PE X e te)(hl:PO X lo tl)(hu:PO X hi th):PE X (.Subscript e (.Slice lo hi none p2) pos) (tSl r te tl th):=by
 intro O9 s σ H Q I h;refine Subscript_ (thn (he O9 s σ H _ I h) λv s1 ⟨x,H1,I1,r1,q1⟩=>?_);refine wpAny_Slice (thn (hl O9 s1 σ H1 _ I1 q1) λvl s2 ⟨l,H2,I2,pl,q2⟩=>thn (hu O9 s2 σ H2 _ I2 q2) λvu s3 ⟨u,H3,I3,pu,q3⟩=>?_);rw[evalPart_none];refine Ed ?_;have I4:Inv X O9 σ H3 { s3 with heap:=s3.heap.push { cls:=.type "slice", data:=.fields #[vl,vu,.none] } }:=I3.kept (t':=s3.toks) λb ob q=>Ae _ q;obtain⟨T,id,hT,ht,hg⟩:=hr O9 { s3 with heap:=s3.heap.push { cls:=.type "slice", data:=.fields #[vl,vu,.none] } } σ H3 x v vl vu l u s3.heap.objs.size Q I4 r1 (Heap.IsSliceOf.new ..) pl pu q3;show wpAny (model X.prog X.w) X.A (subscriptTail e (.Slice lo hi none p2) v (.ref s3.heap.objs.size)) (EP X O9 σ Q) X.xe { s3 with heap:=s3.heap.push { cls:=.type "slice", data:=.fields #[vl,vu,.none] } };exact tail_any (ops:=[.ref s3.heap.objs.size,v]) ht hT hg (by with_unfolding_all rfl)
def G1(xs:List V)(lo hi:Option Int):List V:=(xs.drop (HT.sIx xs.length 0 lo)).take (HT.sIx xs.length xs.length hi - HT.sIx xs.length 0 lo)
theorem yA(xs:List V)(lo hi:Option Int):(G1 xs lo hi).length<=xs.length:=by
 unfold G1;rw[Ba,Br];lia
def QiM(K:Aa):V->Option Int->Option Int->Hp->VK->Prop:=λx lo hi H Q=>∃a xs,x=.ref a/\SqT K H a xs /\
 ¬ (HT.sIx xs.length 0 lo=0/\HT.sIx xs.length xs.length hi=xs.length)/\∀p,H p=none->Q (.ref p) (upd H p (.tup (G1 xs lo hi)))
theorem QgN:SlR X (QiM X.K):=by
 intro O9 s σ H x v vl vu lo hi sl Q I rx hs pl pu h;obtain⟨a,xs,rfl,hx,hw,q⟩:=h;cases rx;obtain⟨its,r,ht,hz⟩:=I.tuple hx;have hlen:its.toArray.size=xs.length:=by rw[Ap];exact r.length.symm
 refine⟨"tuple", _,PyProof.Rows.slot_tuple_getitem.lookup,ht.typeIs,?_⟩;refine HT.getItem_tuple_cut ht hs pl pu (by rw[hlen];exact hw) ?_ (by rw[hlen];exact hz)
 rw[hlen];refine⟨.ref s.heap.objs.size,_,I.laid (t':=s.toks) (o:=.tup (G1 xs lo hi)) (λb ob q=>Ae _ q) (Ag _) ?_,rfl,q _ (I.hok.fresh (Ag _))⟩;exact⟨Bk (yA xs lo hi) hz,_,(r.drop (HT.sIx xs.length 0 lo)).take (HT.sIx xs.length xs.length hi - HT.sIx xs.length 0 lo),IsTup.new _ _⟩
def Qh4(K:Aa):R2:=λx y H Q=>∃a b xs ys,x=.ref a/\y=.ref b/\SqT K H a xs/\SqT K H b ys/\xs≠[]/\xs.length+ys.length<=sizeLine /\
 (ys=[]->Q (.ref a) H)/\(ys≠[]->∀p,H p=none->Q (.ref p) (upd H p (.tup (xs++ys))))
theorem Vals.nil_iff{xs:List V}{us:List Value}(r:Vals xs us):us=[]↔xs=[]:=by
 cases r with
 | nil=>simp
 | cons _ _=>simp
theorem Qed:OpR X (binaryOp .Add) (Qh4 X.K):=by
 intro O9 s σ H x y v u Q I rx ry h;obtain⟨a,b,xs,ys,rfl,rfl,ha,hb,hx,hz,q1,q2⟩:=h;cases rx;cases ry;obtain⟨its,r1,p1,_⟩:=I.tuple ha;obtain⟨its2,r2,p2,_⟩:=I.tuple hb;refine HT.cat_tup p1 p2 (λz=>hx (r1.nil_iff.mp z)) (λz=>⟨.ref a,H,I,rfl,q1 (r2.nil_iff.mp z)⟩) (λz=>?_) (by rw[<- r1.length,<- r2.length];exact hz)
 refine⟨.ref s.heap.objs.size,_,I.laid (t':=s.toks) (o:=.tup (xs++ys)) (λb ob q=>Ae _ q) (Ag _) ?_,rfl,q2 (λw=>z (r2.nil_iff.mpr w)) _ (I.hok.fresh (Ag _))⟩;exact⟨by rw[Ao];exact hz,_,r1.append r2,IsTup.new _ _⟩
end
def ixN(n:Nat)(i:Int):Option Nat:=if 0<=i then (if i < n then some i.toNat else none) else if -(n:Int)<=i then some (i+n).toNat else none
def atI{α:Type}(xs:List α)(i:Int):Option α:=(ixN xs.length i).bind λj=>xs[j]?
theorem kL{n:Nat}{i:Int}{j:Nat}(h:ixN n i=some j):seqIndex? i n=some j/\j < n /\ -(n:Int)<=i/\i < n:=by
 unfold ixN at h;by_cases h0:0<=i
 ·rw[Ec h0] at h
  by_cases h1:i < n
  ·rw[Ec h1] at h
   have e:i.toNat=j:=Am h;exact⟨by rw[seqIndex_of h0 h1,e],by lia,by lia,h1⟩
  ·rw[Eb h1] at h;cases h
 ·rw[Eb h0] at h
  by_cases h1:-(n:Int)<=i
  ·rw[Ec h1] at h
   have e:(i+n).toNat=j:=Am h;exact⟨by rw[seqIndex_neg (by lia) h1,e],by lia,h1,by lia⟩
  ·rw[Eb h1] at h;cases h
theorem gT{α:Type}{xs:List α}{i:Int}{v:α}(h:atI xs i=some v):∃j,seqIndex? i xs.length=some j/\xs[j]?=some v/\j < xs.length /\ -(xs.length:Int)<=i/\i < xs.length:=by
  unfold atI at h;cases e:ixN xs.length i with
  | none=>rw[e] at h;cases h
  | some j =>
    rw[e] at h;obtain⟨h1,h2,h3,h4⟩:=kL e;exact⟨j,h1,h,h2,h3,h4⟩
theorem Yz{α:Type}{xs:List α}{j:Nat}{v:α}(h:xs[j]?=some v):atI xs (j:Int)=some v:=by
 have hj:j < xs.length:=(Ad.mp h).1;have e:ixN xs.length (j:Int)=some j:=by
  unfold ixN;rw[Ec (by lia),Ec (by lia)];simp
 unfold atI;rw[e];exact h
def KF(b:Expr):Prop:=∀o i,subscripted b false o i=operate [o,i] (getItem o i)
def IxR(X:Cx)(r:R2):Prop :=
  ∀(value slice : Expr)(O9 : List (Addr × Obj))(s : Shared)(σ : St)(H : Hp)(x y : V)(v u : Value)(Q : VK), Inv X O9 σ H s -> RelV x v -> RelV y u -> r x y H Q ->
    subscripted slice false v u=operate [v,u] (getItem v u)->wpAny (model X.prog X.w) X.A (subscriptTail value slice v u) (EP X O9 σ Q) X.xe s
def MtR(X:Cx)(id:String)(r:V->List V->Hp->VK->Prop):Prop :=
  ∀(O9 : List (Addr × Obj))(s : Shared)(σ : St)(H : Hp)(x : V)(xs : List V)(v : Value)(us : List Value)(Q : VK), Inv X O9 σ H s -> RelV x v -> Vals xs us -> r x xs H Q ->
    wpAny (model X.prog X.w) X.A (call (.builtin id) (v::us)) (EP X O9 σ Q) X.xe s
section
variable{X:Cx}{a b:Expr}{ta tb:TE}{pos:Pos}
theorem Qfw{r:R2}(hr:IxR X r)(ha:PE X a ta)(hb:PE X b tb)(hs:KF b):PE X (.Subscript a b pos) (tOp r ta tb):=by
 intro O9 s σ H Q I h;exact Subscript_ (QfH ha hb I h λv u s2 x y H2 I2 rx ry q=>hr a b O9 s2 σ H2 x y v u Q I2 rx ry q (hs _ _))
def QiJ(K:Aa):R2:=λx y H Q=>∃p xs i v,x=.ref p/\y=.int i/\SqL K H p xs/\atI xs i=some v/\Q v H
def QiK(K:Aa):R2:=λx y H Q=>∃p xs i v,x=.ref p/\y=.int i/\SqT K H p xs/\atI xs i=some v/\Q v H
theorem kM:IxR X (QiJ X.K):=by
 intro value slice O9 s σ H x y v u Q I rx ry h hs;obtain⟨p,xs,i,z,rfl,rfl,hq,he,q⟩:=h;cases rx;obtain⟨t,rfl⟩:=ry;obtain⟨its,r,pl,hz⟩:=I.list hq;obtain⟨j,h1,h2,h3,h4,h5⟩:=gT he;obtain⟨w,ew,rw'⟩:=r.get h2;have hl:=r.length;have hn:=Gh;have fin:EP X O9 σ Q w s:=⟨z,H,I,rw',q⟩;by_cases h0:0<=i
 ·have hj:i.toNat=j:=by
   rw[seqIndex_of h0 h5] at h1;exact Am h1
  exact item_listR pl.isList h0 (by lia) (by rw[hj];simpa using ew) fin hs
 ·have hj:(i+(its.toArray.size:Int)).toNat=j:=by
   rw[seqIndex_neg (by lia) h4] at h1
   rw[Ap,<- hl];exact Am h1
  exact subscriptTail_builtinR (x:=w) pl.isList.typeIs slot_list_getitem.lookup
   (wpAny_getItem_list_neg (Q:=λr s'=>r=w/\EP X O9 σ Q r s') pl.isList (by lia) (by rw[Ap]<;>lia) (by lia) (by rw[hj];simpa using ew) ⟨rfl,fin⟩) hs
theorem QfY:IxR X (QiK X.K):=by
 intro value slice O9 s σ H x y v u Q I rx ry h hs;obtain⟨p,xs,i,z,rfl,rfl,hq,he,q⟩:=h;cases rx;obtain⟨t,rfl⟩:=ry;obtain⟨its,r,pl,hz⟩:=I.tuple hq;obtain⟨j,h1,h2,h3,h4,h5⟩:=gT he;obtain⟨w,ew,rw'⟩:=r.get h2;have hl:=r.length;have hn:=Gh;have fin:EP X O9 σ Q w s:=⟨z,H,I,rw',q⟩;exact subscriptTail_builtinR (x:=w) pl.typeIs slot_tuple_getitem.lookup
  (getItem_tuple (j:=j) (Q:=λr s'=>r=w/\EP X O9 σ Q r s') pl (by lia) (by lia) (by rw[Ap,<- hl];exact h1) (by simpa using ew) ⟨rfl,fin⟩) hs
theorem uR(its:List Value)(n j:Nat)(u:Value):Obj.mapSeq (·.setIfInBounds j u) { cls:=.type "list", data:=.seq its.toArray n }={ cls:=.type "list", data:=.seq (its.set j u).toArray n }:=by
 simp[Obj.mapSeq]
theorem Inv.lst{H:Hp}{p:Addr}(I:Inv X O9 σ H s)(h:H p=some (.lst xs)):
  ∃(its:List Value) (n:Nat),Vals xs its/\s.heap.get? p=some { cls:=.type "list", data:=.seq its.toArray n }/\xs.length<=sizeLine:=by
 obtain⟨z,its,n,r,e⟩:=I.hok p _ h;exact⟨its,n,r,e,z⟩
theorem Inv.lstUpd{H:Hp}{p:Addr}{xs ys:List V}{its its':List Value}{n n':Nat}{f:Obj->Obj}(I:Inv X O9 σ H s)(h:H p=some (.lst xs))
  (ho:s.heap.get? p=some { cls:=.type "list", data:=.seq its.toArray n }) (hf:f { cls:=.type "list", data:=.seq its.toArray n }={ cls:=.type "list", data:=.seq its'.toArray n' }) (r:Vals ys its') (hz:ys.length<=sizeLine) (t:Nat) :
  Inv X O9 σ (upd H p (.lst ys)) { s with heap:=s.heap.update p f,toks:=t }:=by
 have e:(s.heap.update p f).get? p=some { cls:=.type "list", data:=.seq its'.toArray n' }:=by
  rw[Heap.get?_update_self f ho (by rw[hf]<;>rfl),hf]
 refine I.write (x:=p) (e:=p) (by rw[h];trivial) (.inl rfl) (λb u hb q=>(Heap.get?_update_other _ _ (Ne.symm hb)).trans q) ⟨_,e⟩ ?_
 exact⟨hz,its',n',r,e⟩
def Qh7:V->V->V->Hp->(Hp->Prop)->Prop:=λo i v H Q=>∃p xs k j,o=.ref p/\i=.int k/\H p=some (.lst xs)/\ixN xs.length k=some j/\Q (upd H p (.lst (xs.set j v)))
theorem Qc9:Qdz X Qh7:=by
 intro O9 s σ H o i v ov iv u Q I ro ri rv h;obtain⟨p,xs,k,j,rfl,rfl,hp,hj,q⟩:=h;cases ro;obtain⟨t,rfl⟩:=ri;obtain⟨its,n,r,ho,hz⟩:=I.lst hp;obtain⟨h1,h2,h3,h4⟩:=kL hj;have hl:=r.length;have hn:=Gh;have I':Inv X O9 σ (upd H p (.lst (xs.set j v))) { s with heap:=s.heap.update p (Obj.mapSeq (·.setIfInBounds j u)) } :=
  I.lstUpd hp ho (uR its n j u) (r.set rv j) (by rw[List.length_set];exact hz) s.toks
 by_cases h0:0<=k
 ·have hk:k.toNat=j:=by
   rw[seqIndex_of h0 h4] at h1;exact Am h1
  exact PySem.W.ki_setAt ho h0 (by lia) (by rw[Ap,<- hl];exact h4) (by rw[hk];exact⟨_,I',q⟩)
 ·have hk:(k+(its.toArray.size:Int)).toNat=j:=by
   rw[seqIndex_neg (by lia) h3] at h1
   rw[Ap,<- hl];exact Am h1
  exact PySem.W.ki_setBack ho (by lia) (by rw[Ap,<- hl];exact h3) (by lia) (by rw[hk];exact⟨_,I',q⟩)
theorem GE(lo hi:Option Int)(n:Nat):(sliceBounds lo hi none n).1=((HT.sIx n 0 lo:Nat):Int)/\(sliceBounds lo hi none n).2.1=((HT.sIx n n hi:Nat):Int)/\(sliceBounds lo hi none n).2.2=1:=by
  refine⟨?_,?_,rfl⟩
  . cases lo with
    | none=>simp[sliceBounds,HT.sIx]
    | some i =>
      simp only[sliceBounds,HT.sIx,Option.getD_none,show(1:Int) > 0 by decide,if_true]
      by_cases h:i < 0
      . simp only[h,if_true]<;>lia
      . simp only[h,if_false]<;>lia
  . cases hi with
    | none=>simp[sliceBounds,HT.sIx]
    | some i =>
      simp only[sliceBounds,HT.sIx,Option.getD_none,show(1:Int) > 0 by decide,if_true]
      by_cases h:i < 0
      . simp only[h,if_true]<;>lia
      . simp only[h,if_false]<;>lia
theorem UW(its:List Value)(lo hi:Option Int):slicePick its.toArray lo hi none=((its.drop (HT.sIx its.length 0 lo)).take (HT.sIx its.length its.length hi - HT.sIx its.length 0 lo)).toArray:=by
 obtain⟨h1,h2,h3⟩:=GE lo hi its.toArray.size;unfold slicePick;rw[h1,h2,h3];simp only[sliceRange_one,pick_run,Ap]<;>rfl
def QiL(K:Aa):V->Option Int->Option Int->Hp->VK->Prop:=λx lo hi H Q=>∃a xs,x=.ref a/\SqL K H a xs/\∀p,H p=none->Q (.ref p) (upd H p (.lst (G1 xs lo hi)))
theorem QeS:SlR X (QiL X.K):=by
 intro O9 s σ H x v vl vu lo hi sl Q I rx hs pl pu h;obtain⟨a,xs,rfl,hx,q⟩:=h;cases rx;obtain⟨its,r,ht,hz⟩:=I.list hx;have hlen:=r.length;refine⟨"list", _,slot_list_getitem.lookup,ht.isList.typeIs,?_⟩;refine wpAny_getItem_list_slice ht.isList hs pl pu .none (by simp) ?_ (by rw[Ap]<;>lia)
 rw[UW,<- hlen];refine⟨.ref s.heap.objs.size,_,I.laid (t':=s.toks) (o:=.lst (G1 xs lo hi)) (λb ob q=>Ae _ q) (Ag _) ?_,rfl,q _ (I.hok.fresh (Ag _))⟩;exact⟨Bk (yA xs lo hi) hz,_,0,(r.drop (HT.sIx xs.length 0 lo)).take (HT.sIx xs.length xs.length hi - HT.sIx xs.length 0 lo),Aw _ rfl⟩
def YC:V->Bool
 | .non=>true
 | .bl _=>true
 | .int _=>true
 | .str _=>true
 | _=>false
def eqV:V->V->Bool
 | .non,.non=>true
 | .bl a,.bl b=>a==b
 | .bl a,.int b=>(if a then 1 else 0)==b
 | .int a,.bl b=>a==(if b then 1 else 0)
 | .int a,.int b=>a==b
 | .str a,.str b=>a==b
 | _,_=>false
theorem QfQ(ry:RelV y u)(rx:RelV x v)(fy:YC y=true)(fx:YC x=true):SeqAt.EqAt A s u v (eqV y x):=by
  cases y with
  | non =>
    cases ry;cases x with
    | non=>cases rx;exact SeqAt.EqAt.same _
    | bl b=>cases rx;exact SeqAt.EqAt.none_bool b
    | int b=>obtain⟨t,rfl⟩:=rx;exact SeqAt.EqAt.none_int b t
    | str b=>obtain⟨t,rfl⟩:=rx;exact SeqAt.EqAt.none_str b t
    | _=>exact absurd (show false=true from fx) Bz
  | bl a =>
    cases ry;cases x with
    | non=>cases rx;exact SeqAt.EqAt.bool_none a
    | bl b=>cases rx;exact SeqAt.EqAt.bool_bool a b
    | int b=>obtain⟨t,rfl⟩:=rx;exact SeqAt.EqAt.bool_int a b t
    | str b=>obtain⟨t,rfl⟩:=rx;exact SeqAt.EqAt.bool_str a b t
    | _=>exact absurd (show false=true from fx) Bz
  | int a =>
    obtain⟨t',rfl⟩:=ry;cases x with
    | non=>cases rx;exact SeqAt.EqAt.int_none a t'
    | bl b=>cases rx;exact SeqAt.EqAt.int_bool a t' b
    | int b=>obtain⟨t,rfl⟩:=rx;exact SeqAt.EqAt.int_int a t' b t
    | str b=>obtain⟨t,rfl⟩:=rx;exact SeqAt.EqAt.int_str a t' b t
    | _=>exact absurd (show false=true from fx) Bz
  | str a =>
    obtain⟨t',rfl⟩:=ry;cases x with
    | non=>cases rx;exact SeqAt.EqAt.str_none a t'
    | bl b=>cases rx;exact SeqAt.EqAt.str_bool a t' b
    | int b=>obtain⟨t,rfl⟩:=rx;exact SeqAt.EqAt.str_int a t' b t
    | str b=>obtain⟨t,rfl⟩:=rx;exact SeqAt.EqAt.str_str a t' b t
    | _=>exact absurd (show false=true from fx) Bz
  | _=>exact absurd (show false=true from fy) Bz
def eqU(x:V)(u:Value):Bool:=match u with
 | .none=>eqV .non x
 | .bool b=>eqV (.bl b) x
 | .int i _=>eqV (.int i) x
 | .str z _=>eqV (.str z) x
 | _=>false
theorem QbQ(r:RelV y u)(f:YC y=true):eqU x u=eqV y x:=by
 cases y with
 | non=>cases r;rfl
 | bl b=>cases r;rfl
 | int i=>obtain⟨t,rfl⟩:=r;rfl
 | str z=>obtain⟨t,rfl⟩:=r;rfl
 | _=>exact absurd (show false=true from f) Bz
theorem jM:∀{xs:List V}{us:List Value},Vals xs us->xs.all YC=true->us.any (eqU x)=xs.any λy=>eqV y x
  | _,_,.nil,_=>rfl
  | y::xs,u::us,.cons r t,f=>by
    rw[C6,Be] at f;rw[Cv,Cv,QbQ r f.1,jM t f.2]
theorem zy(rx:RelV x v)(fx:YC x=true):∀{xs:List V}{us:List Value},Vals xs us->xs.all YC=true->∀u∈us,SeqAt.EqAt A s u v (eqU x u)
  | _,_,.nil,_=>λu hu=>by cases hu
  | y::xs,u::us,.cons r t,f=>λu' hu=>by
    rw[C6,Be] at f;rcases Bm.mp hu with rfl | hu
    . rw[QbQ r f.1];exact QfQ r rx f.1 fx
    . exact zy rx fx t f.2 u' hu
def inV(x:V)(xs:List V):Bool:=xs.any λy=>eqV y x
def rIn(K:Aa)(neg:Bool):R2:=λx y H Q=>∃p xs,y=.ref p/\(SqL K H p xs∨SqT K H p xs)/\YC x=true/\xs.all YC=true/\Q (.bl (if neg then !inV x xs else inV x xs)) H
theorem Qa3:OpR X (compareOp .In) (rIn X.K false):=by
 intro O9 s σ H x y v u Q I rx ry h;obtain⟨p,xs,rfl,hq,fx,fs,q⟩:=h;cases ry;rcases hq with hq | hq
 ·obtain⟨its,r,pl,hz⟩:=I.list hq
  refine SeqAt.in_listAt (eqU x) pl.isList (λw hw=>zy rx fx r fs w (by simpa using hw)) ⟨.bl _,H,I,rfl,?_⟩
  rw[show its.toArray.any (eqU x)=its.any (eqU x) by simp,jM r fs]
  exact q
 ·obtain⟨its,r,pl,hz⟩:=I.tuple hq
  refine SeqAt.in_tupleAt (eqU x) pl (λw hw=>zy rx fx r fs w (by simpa using hw)) ⟨.bl _,H,I,rfl,?_⟩
  rw[show its.toArray.any (eqU x)=its.any (eqU x) by simp,jM r fs]
  exact q
theorem Gj:OpR X (compareOp .NotIn) (rIn X.K true):=by
 intro O9 s σ H x y v u Q I rx ry h;obtain⟨p,xs,rfl,hq,fx,fs,q⟩:=h;cases ry;rcases hq with hq | hq
 ·obtain⟨its,r,pl,hz⟩:=I.list hq
  refine SeqAt.notIn_listAt (eqU x) pl.isList (λw hw=>zy rx fx r fs w (by simpa using hw)) ⟨.bl _,H,I,rfl,?_⟩
  rw[show its.toArray.any (eqU x)=its.any (eqU x) by simp,jM r fs]
  exact q
 ·obtain⟨its,r,pl,hz⟩:=I.tuple hq
  refine SeqAt.notIn_tupleAt (eqU x) pl (λw hw=>zy rx fx r fs w (by simpa using hw)) ⟨.bl _,H,I,rfl,?_⟩
  rw[show its.toArray.any (eqU x)=its.any (eqU x) by simp,jM r fs]
  exact q
theorem qy:JY X (.builtin "len") (λxs H Q=>∃p ys,xs=[.ref p]/\(SqL X.K H p ys∨SqT X.K H p ys)/\Q (.int ys.length) H):=by
 intro O9 s σ H xs us Q I r h;obtain⟨p,ys,rfl,hq,q⟩:=h;obtain⟨u,rfl,rx⟩:=xL r;cases rx;have hn:=Gh;rcases hq with hq | hq
 ·obtain⟨its,r',pl,hz⟩:=I.list hq
  have hlen:=r'.length;exact Calls.call_len_list pl.isList (by simp only[Ap]<;>lia) ⟨.int ys.length,H,I.tok _,⟨s.toks+1,by rw[Ap,hlen]⟩,q⟩
 ·obtain⟨its,r',pl,hz⟩:=I.tuple hq
  have hlen:=r'.length;exact len_tuple pl (by simp only[Ap]<;>lia) ⟨.int ys.length,H,I.tok _,⟨s.toks+1,by rw[Ap,hlen]⟩,q⟩
theorem KL:JY X (.type "list") (λxs H Q=>∃p ys,xs=[.ref p]/\(SqL X.K H p ys∨SqT X.K H p ys)/\∀l,H l=none->Q (.ref l) (upd H l (.lst ys))):=by
 intro O9 s σ H xs us Q I r h;obtain⟨p,ys,rfl,hq,q⟩:=h;obtain⟨u,rfl,rx⟩:=xL r;cases rx;have fin:∀(its:List Value),Vals ys its->ys.length<=sizeLine->∀(h':Heap)(c':Nat),(∀b o',s.heap.get? b=some o'->h'.get? b=some o') ->
   h'.get? s.heap.objs.size=some { cls:=.type "list", dict:=none,data:=.seq its.toArray c',slots:=#[] }->EP X O9 σ Q (.ref s.heap.objs.size) { s with heap:=h' }:=λits r' hz h' c' kp e =>
  ⟨.ref s.heap.objs.size,_,I.laid (t':=s.toks) kp (Ag _) (show ObjOk X.prog X.w _ h' _ (.lst ys) from⟨hz,its,c',r',e⟩),rfl,q _ (I.hok.fresh (Ag _))⟩
 rcases hq with hq | hq
 ·obtain⟨its,r',pl,hz⟩:=I.list hq
  have hlen:=r'.length;obtain⟨o,ho,hc,n,hd⟩:=pl.isList;exact call_list_seq p (.inl rfl) ho hc hd (λh' c' kp e=>fin its r' hz h' c' kp e) (by simp only[Ap]<;>lia)
 ·obtain⟨its,r',pl,hz⟩:=I.tuple hq
  have hlen:=r'.length;obtain⟨o,ho,hc,n,hd⟩:=pl;exact call_list_seq p (.inr rfl) ho hc hd (λh' c' kp e=>fin its r' hz h' c' kp e) (by simp only[Ap]<;>lia)
theorem YS:JY X (.type "tuple") (λxs H Q=>∃p ys,xs=[.ref p]/\((SqL X.K H p ys/\∀l,H l=none->Q (.ref l) (upd H l (.tup ys)))∨(SqT X.K H p ys/\Q (.ref p) H))):=by
 intro O9 s σ H xs us Q I r h;obtain⟨p,ys,rfl,h⟩:=h;obtain⟨u,rfl,rx⟩:=xL r;cases rx;rcases h with ⟨hq,q⟩ | ⟨hq,q⟩
 ·obtain⟨its,r',pl,hz⟩:=I.list hq
  have hlen:=r'.length;refine call_tuple_list pl.isList (λh' kp=>?_) (by simp only[Ap]<;>lia)
  have I1:Inv X O9 σ H { s with heap:=h' }:=I.kept (t':=s.toks) kp;have I2:Inv X O9 σ (upd H h'.objs.size (.tup ys)) { s with heap:=h'.push { cls:=.type "tuple", data:=.seq its.toArray } } :=
   I1.laid (t':=s.toks) (λb o e=>Ae _ e) (Ag _) (show ObjOk X.prog X.w _ _ _ (.tup ys) from⟨hz,its,r',IsTup.new _ _⟩)
  exact⟨.ref h'.objs.size,_,I2,rfl,q _ (I1.hok.fresh (Ag _))⟩
 ·obtain⟨its,r',pl,hz⟩:=I.tuple hq
  exact call_tuple_same pl ⟨.ref p,H,I,rfl,q⟩
def tyV(K:Aa)(T:String)(x:V)(H:Hp):Prop:=match x with
 | .str _=>T = "str"
 | .int _=>T = "int"
 | .ref p=>(T = "list" /\ ∃xs,SqL K H p xs)∨(T = "tuple" /\ ∃o,K.lookup p=some o/\o.cls=.type "tuple" /\ o.dict=none) ∨
   (T = "dict" /\ ((∃kvs,H p=some (.dK kvs))∨∃kvs,H p=some (.dT kvs)))∨(T = "set" /\ ∃S n,H p=some (.set S n))
 | _=>False
theorem QgZ{T:String}(I:Inv X O9 σ H s)(r:RelV x v)(ty:tyV X.K T x H):
    s.TypeIs v T/\∀a,v=.ref a->∃ob,s.heap.get? a=some ob/\ob.dict=none:=by
  cases x with
  | str z =>
    obtain⟨t,rfl⟩:=r;cases (show T = "str" from ty);exact⟨typeIs_str s z t,λ_ e=>nomatch e⟩
  | int i =>
    obtain⟨t,rfl⟩:=r;cases (show T = "int" from ty);exact⟨typeIs_int s i t,λ_ e=>nomatch e⟩
  | ref p =>
    cases r;rcases ty with ⟨rfl,xs,hq⟩ | ⟨rfl,o,hk,hc,hd⟩ | ⟨rfl,hk⟩ | ⟨rfl,S,n,hk⟩
    . obtain⟨its,_,pl,_⟩:=I.list hq
      refine⟨pl.isList.typeIs,λa e=>?_⟩;cases e;obtain⟨o,n,e,c,hd,_⟩:=pl;exact⟨o,e,hd⟩
    . refine⟨⟨o,I.kIn p o hk,hc⟩,λa e=>?_⟩
      cases e;exact⟨o,I.kIn _ o hk,hd⟩
    . have z:∃o,s.heap.get? p=some o/\o.ExactDict:=by
        rcases hk with ⟨kvs,hk⟩ | ⟨kvs,hk⟩
        . obtain⟨_,_,_,_,o,_,_,e,ex,_⟩:=I.hok p _ hk
          exact⟨o,e,ex⟩
        . obtain⟨_,_,_,_,o,_,_,e,ex,_⟩:=I.hok p _ hk
          exact⟨o,e,ex⟩
      obtain⟨o,e,ex⟩:=z;refine⟨⟨o,e,ex.1⟩,λa e2=>?_⟩;cases e2;exact⟨o,e,ex.2.1⟩
    . obtain⟨o,_,_,_,e,ex,_⟩:=I.hok p _ hk
      refine⟨⟨o,e,ex.1⟩,λa e2=>?_⟩;cases e2;exact⟨o,e,ex.2.1⟩
  | _=>exact False.elim ty
def tBM(K:Aa)(T:String)(r:V->List V->Hp->VK->Prop)(to:TE)(t:TA):TE:=λσ H Q=>to σ H λx H1=>tyV K T x H1/\t σ H1 λxs H2=>r x xs H2 Q
variable{o e:Expr}{es:List Expr}{to:TE}{t:TA}{name:Str}{apos cpos:Pos}{T id:String}{r:V->List V->Hp->VK->Prop}
theorem QhY(pa:PlainAttrs T)(slot:Slot T name id)(hty:typeOf (.builtin id)=pure (.type "method_descriptor"))(hm:MtR X id r)(ho:PE X o to)(ha:PA X (e::es) t)
  (hbase:attributeBase o name X.env (eval o X.env)=eval o X.env:=by rfl)
  (hfew:((backTo cpos (starEach (e::es) X.env)).all (λx=>!x.1)&&(backToKw cpos (keywordEach [] X.env)).all (λx=>x.1.isSome)
   && decide ((e::es).length+([]:List Keyword).length+(if ([]:List Keyword).isEmpty then 0 else 1) < 30))=true:=by rfl)
  (hline:(apos.endLine==cpos.line)=true:=by rfl) (hs:starEach (e::es) X.env=(false,eval e X.env)::starEach es X.env:=by rfl) (hplain:(backTo cpos (starEach es X.env)).any (·.1)=false:=by rfl) :
  PE X (.Call (.Attribute o name apos) (e::es) [] cpos) (tBM X.K T r to t):=by
 intro O9 s σ H Q I h;refine wpAny_Call_method_late hbase hfew hline rfl (thn (ho O9 s σ H _ I h) λv s1 ⟨x,H1,I1,r1,ty,q1⟩=>?_);obtain⟨h1,h2⟩:=QgZ I1 r1 ty;refine⟨T,id,pa,slot,hty,h1,h2,?_⟩;have hA:=ha cpos O9 s1 σ H1 _ I1 q1;rw[hs] at hA ⊢;refine Calls.callWith_builtin (by show(false||(backTo cpos (starEach es X.env)).any (·.1))=false;rw[hplain]<;>rfl) (Calls.evalArgs_plain ?_)
 exact thn hA λus s2 ⟨vs,H2,I2,r2,q2⟩=>hm O9 s2 σ H2 x vs v us Q I2 r1 r2 q2
/- xs.append(e),list.index on a module's tuple .. are MtR facts of 06m -/
end
def MtM(X:Cx)(id:String)(r:V->List V->Hp->VK->Prop):Prop :=
  ∀(O9 : List (Addr × Obj))(s : Shared)(σ : St)(H : Hp)(x : V)(xs : List V)(v : Value)(us : List Value)(Q : VK), Inv X O9 σ H s -> RelV x v -> Vals xs us -> r x xs H Q ->
    wpAny (model X.prog X.w) X.A (call (.builtin id) (v::us)) (EP X O9 σ Q) X.xe s
theorem Vals.one:∀{x:V}{us:List Value},Vals [x] us->∃u,us=[u]/\RelV x u
 | _,_,.cons r .nil=>⟨_,rfl,r⟩
theorem Vals.dropLast{xs:List V}{us:List Value}(h:Vals xs us):Vals xs.dropLast us.dropLast:=by
  induction h with
  | nil=>exact .nil
  | cons r t ih =>
    cases t with
    | nil=>exact .nil
    | cons q t'=>exact .cons r ih
section
variable{X:Cx}{O9:Em}{σ:St}{H:Hp}{s:Shared}{l b:Addr}{xs ys zs:List V}
theorem Inv.lset{its its':List Value}{n:Nat}{f:Array Value->Array Value}{t':Nat}(I:Inv X O9 σ H s)(hH:H l=some (.lst xs))
  (e:s.heap.get? l=some { cls:=.type "list", data:=.seq its.toArray n }) (hf:f its.toArray=its'.toArray) (hv:Vals ys its') (hz:ys.length<=sizeLine) :
  Inv X O9 σ (upd H l (.lst ys)) { s with heap:=s.heap.update l (Obj.mapSeq f),toks:=t' }:=by
 have q:=PySem.IsL.update e f;rw[hf] at q;refine I.write (x:=l) (e:=l) (by rw[hH];exact trivial) (.inl rfl) (λb' u hb hu=>(Heap.get?_update_other s.heap (Obj.mapSeq f) (Ne.symm hb)).trans hu) ⟨_,q⟩ ?_
 exact⟨hz,its',_,hv,q⟩
theorem Inv.lnew{t':Nat}(I:Inv X O9 σ H s)(hv:Vals ys its)(hz:ys.length<=sizeLine):
  Inv X O9 σ (upd H s.heap.objs.size (.lst ys)) { s with heap:=s.heap.push { cls:=.type "list", data:=.seq its.toArray },toks:=t' } :=
 I.laid (λ_ _ q=>Ae _ q) (Ag _) ⟨hz,its,0,hv,Aw _ rfl⟩
def Inv.fresh(I:Inv X O9 σ H s):H s.heap.objs.size=none:=I.hok.fresh (Ag _)
theorem Inv.lstM(I:Inv X O9 σ H s)(hH:H l=some (.lst xs)):xs.length<=sizeLine/\∃(its:List Value) (n:Nat),Vals xs its/\xs.length=its.length/\s.heap.get? l=some { cls:=.type "list", data:=.seq its.toArray n }:=by
 obtain⟨z,its,n,r,e⟩:=I.hok l _ hH;exact⟨z,its,n,r,r.length,e⟩
theorem QcB{n:Nat}(h:n<=sizeLine):Builtin.List.listTooLong n=false:=by
 unfold Builtin.List.listTooLong;exact Ei (by lia)
end
section
variable{X:Cx}
def QeH:V->List V->Hp->VK->Prop:=λx vs H Q=>∃l xs y,x=.ref l/\vs=[y]/\H l=some (.lst xs)/\xs.length < sizeLine/\Q .non (upd H l (.lst (xs++[y])))
theorem Kj:MtM X "list.append" QeH:=by
 intro O9 s σ H x vs v us Q I rx rv h;obtain⟨l,xs,y,rfl,rfl,hH,hz,q⟩:=h;cases rx;obtain⟨u,rfl,ru⟩:=rv.one;obtain⟨z,its,n,r,hl,e⟩:=I.lstM hH;refine call_meets F.slot_list_append ⟨_,e,rfl⟩ F.entry_list_append (F.args_list_append_2 _ _) (PySem.list_append l its.toArray n u (by rw[Ap];lia)) ⟨e,?_⟩
 refine⟨.non,_,I.lset (its':=its++[u]) hH e (by simp) (r.append (.cons ru .nil)) ?_,rfl,q⟩
 rw[Ao,List.length_singleton];lia
def QeI:V->List V->Hp->VK->Prop:=λx vs H Q=>∃l b xs zs,x=.ref l/\vs=[.ref b]/\H l=some (.lst xs)/\H b=some (.lst zs)/\xs.length+zs.length<=sizeLine/\Q .non (upd H l (.lst (xs++zs)))
theorem Qa0:MtM X "list.extend" QeI:=by
 intro O9 s σ H x vs v us Q I rx rv h;obtain⟨l,b,xs,zs,rfl,rfl,hH,hB,hz,q⟩:=h;cases rx;obtain⟨u,rfl,ru⟩:=rv.one;cases ru;obtain⟨z,its,n,r,hl,e⟩:=I.lstM hH;obtain⟨z2,its2,n2,r2,hl2,e2⟩:=I.lstM hB;have hsz:its.toArray.size+its2.toArray.size<=sizeLine:=by rw[Ap,Ap];lia
 have hlong:¬ (!its.toArray.isEmpty&&Builtin.List.listTooLong (its.toArray.size+its2.toArray.size))=true:=by
  rw[QcB hsz,Bool.and_false];exact Bz
 refine call_meets F.slot_list_extend ⟨_,e,rfl⟩ F.entry_list_extend (F.args_list_extend_2 _ _)
  (AutoSeq1.list_extend_list_list_0 l its.toArray n b its2.toArray n2 hlong (by rw[Ap];lia) (by lia)) ⟨e,e2,?_⟩
 refine⟨.non,_,I.lset (its':=its++its2) hH e (by simp) (r.append r2) ?_,rfl,q⟩
 rw[Ao];lia
end
section
variable{prog:Program}{w:World}{A:Around}{E:Ek}{s:Shared}
end
section
variable{X:Cx}
end
end L2
namespace Att
open PySem PySem.W PySem.Calls PyProof.Rows
theorem Vb:∀(ns:List Int)(vs:List Value),WellAll P h vs (ns.map WData.int)->IntsAre vs ns:=by
  intro ns;induction ns with
  | nil =>
    intro vs w;rw[List.map_nil] at w;cases w;exact .nil
  | cons n ns ih =>
    intro vs w;rw[Bc] at w;cases w with
    | cons a b =>
      cases a;exact .cons _ _ (ih _ b)
theorem script_of{l:OpenLaw}{n:Nat}(hn:l.most=some n){P:Params}{h:Heap}{args:List WData}{vals:List Value}
    (hpre:l.row.toRowW.claim.pre args=true) (hwl:WellAll P h vals args) :
    ∃a vs ns,vals=[Value.ref a]/\args=[WData.list (ns.map WData.int)]/\h.get? a=some { cls:=.type "list", data:=.seq vs.toArray }/\IntsAre vs ns/\ns.length<=n:=by
  have hsh:WShape.hasAll [] args [.list .int]=true:=(pre_splitW hpre).1;have hc:l.pre.holds [] { args:=args }=true:=(pre_splitW hpre).2;obtain⟨d,r,rfl,h1,h2⟩:=hasAllW_cons hsh;obtain rfl:=hasAllW_nil h2;obtain⟨xs,rfl,h3⟩:=hasW_list h1;obtain⟨ns,rfl⟩:=items_int h3;have hlen:ns.length<=n:=by
    unfold OpenLaw.pre at hc;have h4:(WTm.not (.lt (.lit (.int (n:Int))) (.len (.arg 0)))).holds [] { args:=[.list (ns.map .int)] }=true:=by
      have h4:=(holds_andW hc).1;rw[hn] at h4;exact h4
    have h5:=condW_of h4 (w_not (w_lt w_lit (w_len_list (w_arg rfl))));rw[Bt] at h5;refine Nat.le_of_not_lt λq=>?_;have q':(n:Int) < ((ns.length:Nat):Int):=by lia
    first
      | (rw[Eg q'] at h5;exact absurd h5 (by decide))
      | (simp at h5;lia)
  cases hwl with
  | cons w1 w2 =>
    cases w2;cases w1 with
    | list ho hall=>exact⟨_,_,ns,rfl,rfl,ho,Vb ns _ hall,hlen⟩
theorem post_true(l:OpenLaw)(args:List WData):l.row.toRowW.claim.post args (.bool true) args=true :=
 postW_of (r:=l.row.toRowW) (X:=(true==true))
  (show WShape.has [] (.bool true) .bool=true by first | rfl | decide | simp[WShape.has,WShape.arms,WShape.armsAll])
  (show(WTm.eq .res (.lit (.bool true))).value [] { args:=args,res:=some (.bool true),after:=args }=some (.bool (true==true)) from w_eq_bool (w_res rfl) w_lit) rfl
section
variable{prog:Program}{w:World}{A:Around}{E:Ek}{s:Shared}{K:Frag}
def QiC(h:Heap)(L d:Addr):List (Addr×Obj):=(List.range h.objs.size).filterMap λa=>if a=L∨a=d then none else (h.get? a).map λo=>(a,o)
end
end Att
namespace L2
open PySem PySem.Spec PyProof.Rows
theorem qm:∀{vs:List Value}{ns:List Int},IntsAre vs ns->Vals (ns.map V.int) vs
 | _,_,.nil=>.nil
 | _,_,.cons n t h=>.cons ⟨t,rfl⟩ (qm h)
def QfE(H:Hp):Prop:=∀b,H b=none∨∃o xs,H b=some (.frz o (.lst xs))
theorem Qcd{P:Program}{w:World}{K:Aa}{mg mb:Eo}{CX:CXT}{k:Nat}{fa a:Addr}{fd:FuncData}{x:Str}{sp:Sp}{s₁:Shared}{vs:List Value}{ns:List Int}
    (KX:K.In s₁.heap) (hns:s₁.heap.Ns mainGlobals mg) (hb:s₁.heap.Ns builtinsNs mb) (hbb:∀x:Str,x ≠ "__name__" -> mb x=bootBuiltins x) (hlim:s₁.heap.NoLimit) (hg:s₁.gens = #[])
    (ha:s₁.heap.get? a=some { cls:=.type "list", data:=.seq vs.toArray }) (hi:IntsAre vs ns) (hl:ns.length<=sizeLine) (hr:Room k callerA)
    (F:∀O8:Heap,K.In O8->O8.Ns mainGlobals mg->qW P w K mg O8 CX k fa fd [x] sp) (hbind:∀(s:Shared)(u:Value),BindsTo s fd ⟨[u],[]⟩ [(x,u)])
    (hsp:∀H:Hp,QfE H->SqL K H a (ns.map V.int)->sp [.ref a] H (λv _=>v=.bl true) λ_ _ _=>False)
    (hCX:∀H e s',CX [] H s₁ (λ_ _ _=>False) e s'->False) :
    codeAny (model P w) callerA (.call (.ref fa) ⟨[.ref a],[]⟩) (λr s'=>r=.ok (.ret (.bool true))/\OldK s₁.heap s'.heap/\s'.os=s₁.os/\AllBare s'.gens) s₁:=by
  have rv:=qm hi;have lenV:=hi.length;have core:∀H:Hp,QfE H->SqL K H a (ns.map V.int)->HOk P w H s₁.heap->(∀b,H b≠none->b=a)->(H a≠none->K.lookup a=none) ->
      codeAny (model P w) callerA (.call (.ref fa) ⟨[.ref a],[]⟩) (λr s'=>r=.ok (.ret (.bool true))/\OldK s₁.heap s'.heap/\s'.os=s₁.os/\AllBare s'.gens) s₁:=by
    intro H hO hS hok hA hK;have base_of:∀{b:Addr}{o:Obj},s₁.heap.get? b=some o->H b=none->(K3 s₁.heap H).get? b=some o:=λe n=>Qb3 e n;have noA:∀{b:Addr}{o:Obj}{es:Array DictEntry}{ep:Nat},s₁.heap.get? b=some o->o.data=.dict es ep->H b=none:=λ{b o es ep} e d=>by
      cases q:H b with
      | none=>rfl
      | some u =>
        have e':b=a:=hA b (by rw[q];simp)
        subst e';rw[ha] at e;cases e;have d':Data.seq vs.toArray _=Data.dict es ep:=d;cases d'
    have nsK:∀{b:Addr}{m:Eo},s₁.heap.Ns b m->(K3 s₁.heap H).Ns b m:=λ{b m} ⟨o,es,ep,e,d,r⟩=>⟨o,es,ep,base_of e (noA e d),d,r⟩;have hKb:K.In (K3 s₁.heap H):=λb o e=>base_of (KX b o e) (by
      cases q:H b with
      | none=>rfl
      | some u =>
        have e':b=a:=hA b (by rw[q];simp)
        subst e';rw[hK (by rw[q];simp)] at e;cases e)
    have hM:Mod K mg (K3 s₁.heap H):=⟨hKb,nsK hns,⟨mb,nsK hb,hbb⟩,let ⟨mc,h1,h2⟩:=hlim;⟨mc,nsK h1,h2⟩⟩;have e0:Env0 P w K mg (K3 s₁.heap H) callerA [] s₁ H:=⟨rfl,hM,λb o e=>Qeb e,Nat.le_of_eq (QaL _ _),trivial,λb hb=>absurd (show b∈([]:Es) from hb) (by simp),hok,.of_eq hg⟩
    refine codeAny_mono ((F _ hKb (nsK hns)).run callerA [] s₁ H ⟨[.ref a],[]⟩ [.ref a] [.ref a] _ _ hr e0 (hbind s₁ (.ref a)) (.cons rfl .nil) (hsp H hO hS)) λr s' h=>?_;cases r with
    | error e=>exact(hCX H e s' h).elim
    | ok fl =>
      cases fl with
      | next=>exact False.elim h
      | brk=>exact False.elim h
      | cont=>exact False.elim h
      | ret u =>
        obtain⟨v,H',os,bare,un,hok',r',q⟩:=h;have q':v=.bl true:=q;subst q';obtain rfl:u=Value.bool true:=r';refine⟨rfl,OldK.of_keep λb o e=>?_,os,bare⟩;cases q:H b with
        | none=>exact un.keep b o e q (by intro z;exact absurd (show b∈([]:Es) from z) (by simp)) (by simp)
        | some u =>
          rcases hO b with z | ⟨ob,xs,z⟩
          . rw[q] at z;cases z
          . have z2:=un.frzs b ob _ z
            obtain⟨e1,_⟩:=hok b _ z;obtain⟨e2,_⟩:=hok' b _ z2;rw[e] at e1;cases e1;exact e2
  cases hk:K.lookup a with
  | some o =>
    have e:=KX a o hk;rw[ha] at e;cases e;refine core (λ_=>none) (λ_=>.inl rfl) (.inr ⟨_,vs.toArray,_,hk,rfl,rfl,rfl,by rw[Ap,lenV];exact hl,by simpa using rv⟩) (λb u z=>by have z':(none:Option HO)=some u:=z;cases z') (λb z=>absurd rfl z) λz=>absurd rfl z
  | none =>
    refine core (λb=>if b=a then some (.frz { cls:=.type "list", data:=.seq vs.toArray } (.lst (ns.map V.int))) else none) (λb=>?_) (.inl (.inr ⟨{ cls:=.type "list", data:=.seq vs.toArray },Ec rfl⟩)) (λb u z=>?_) (λb z=>?_) λ_=>hk
    . by_cases hb:b=a
      . exact .inr ⟨_,_,Ec hb⟩
      . exact .inl (Eb hb)
    . by_cases hb:b=a
      . have z':=(Ec hb).symm.trans z
        cases z';subst hb;exact⟨ha,by rw[Bt];exact hl,vs,_,rv,ha⟩
      . have z':=(Eb hb).symm.trans z
        cases z'
    . by_cases hb:b=a
      . exact hb
      . exact absurd (Eb hb) z
end L2
/- THE LAST THEOREM (shape; LID, My.* are yours):
   My.Adr: a structure of the addresses that your layer names (classes,functions);My.Txt K t: a structure (Prop) of the equations over K;
   My.txt_mk:{K} {implicit addresses ..} (e1:nsIn K mainGlobals "law" = some (some (.ref f))) (e2:K.lookup f=some ⟨oc,od,.func (fnOf "law" "law" params body scope dV kV doc pm an cdv ct),sl⟩) (e3:codeIn K cdv "law" = true) ..:∃t,My.Txt K t
set_option maxRecDepth 100000 in
set_option maxHeartbeats 0 in
theorem PySem.Challenge.cw_LID_holds : PySem.Challenge.rw_LID.Holds := by
 w_on;o_law;k_head;(case hw=>w_witness2)
 k_fill
 refine L2.walk_of (l:=PySem.Challenge.rw_LID) (n:=63) (k:=40) (x := "script") (CX:=fun w=>..) (sp:=fun _=>My.sp_law) rfl (by decide) rfl ⟨rfl,by decide,by decide⟩ (fun w h Y=>PySem.W.kIn_of Y) ?F ?S ?C
 case F =>
  intro w mg fa h KX G hmg;have T:∃t,My.Txt (L2.KOf KX) t:=by
   dsimp only[L2.KOf]                          -- K must stand as «<heap const> w.params» for k_is
   refine' My.txt_mk ?e1 ?e2 ?e3 ..
   (case e1=>PySem.W.k_is)                    -- in the order: a name->its address->its object->its parts
   (case e2=>PySem.W.k_is)
   ..
  obtain⟨t,T⟩:=T;have e0:=hmg.symm.trans (PySem.W.mg_of KX G T.law);cases e0                                       -- fa is the law's own address;exact⟨_,λs u=>.of_eq rfl,λO8 kb nb=>My.law_fn T kb nb⟩     -- if «.of_eq rfl» comes too early: refine' ⟨_,?b,λO8 kb nb=>My.law_fn T kb nb⟩;exact λs u=>.of_eq rfl
 case S=>exact λw H a ns hl hO hS=>..
 case C=>exact ..
(the tactic k_is has no namespace: write k_is) -/
namespace L2
open PySem PySem.Spec PyProof.Rows
def Zb(s:Stmt)(j:Nat):Stmt:=match s with
 | .ClassDef _ _ _ body _ _ _ _ _ _ _=>body.getD j (.Pass ⟨0,0,0,0⟩)
 | _=>.Pass ⟨0,0,0,0⟩
def JQ(s:Stmt):Arguments:=match s with
 | .FunctionDef _ a _ _ _ _ _ _ _ _=>a
 | _=>{ posonlyargs:=[],args:=[],vararg:=none,kwonlyargs:=[],kw_defaults:=[],kwarg:=none,defaults:=[] }
def ZH(s:Stmt):List Stmt:=match s with
 | .FunctionDef _ _ b _ _ _ _ _ _ _=>b
 | _=>[]
def Qo(s:Stmt):Scope:=match s with
 | .FunctionDef _ _ _ _ _ _ sc _ _ _=>sc
 | _=>{ kind:=.function,names:=[],isGenerator:=false,isCoroutine:=false }
abbrev CX0:CXT:=λ_ _ _ _ _ _=>False
abbrev E0:XK:=λ_ _ _=>False
def QD:YQ CX0 X E0:=λ_ _ _ _ _ _ _ h=>h.elim
structure Fun(K:Aa)(x qual:Str)(st:Stmt)(f:Addr)(fd:FuncData):Prop where
 ex:∃(oc:Value)(od:Option Addr)(kV doc pm:Value)(an:Option Addr)(cdv ct:Value)(osl:Array (Option Value)),
  fd=PySem.W.fnOf x qual (JQ st) (ZH st) (Qo st) .none kV doc pm an cdv ct/\K.lookup f=some ⟨oc,od,.func fd,osl⟩/\PySem.W.codeIn K cdv qual=true
 kp:PySem.W.keepIn K (.ref f)=true
section
variable{P:Program}{w:World}{K:Aa}{mg:Eo}{O8:Heap}
theorem Fun.ok{x qual:Str}{st:Stmt}{f:Addr}{fd:FuncData}{N ps:List Str}{k:Nat}{sp:Sp}(F:Fun K x qual st f fd)(S:Qs N ps (Qo st))(len:∀vs H Q E,sp vs H Q E->vs.length=ps.length)
  (hbody:∀(cdv:Value)(A:Around)(outer:List Env)(s:Shared)(H:Hp)(vs:List V)(Q:VK)(E:XK),Room k (A.deeper (envOfC qual (Qo st) s.heap.objs.size f cdv))->sp vs H Q E ->
   ∃t,PSs (y0 CX0 P w K mg O8 N qual (Qo st) f cdv A outer s H E).nox (ZH st) t/\t { nx:=λ_ H'=>Q .non H',rt:=Q } (start N vs) H):qW P w K mg O8 CX0 (k+1) f fd ps sp:=by
 obtain⟨oc,od,kV,doc,pm,an,cdv,ct,osl,rfl,lk,hcd⟩:=F.ex;refine Qht lk hcd S len λA outer s H vs Q E hr hsp=>?_;obtain⟨t,h,q⟩:=hbody cdv A outer s H vs Q E hr hsp;exact⟨t,h.nox,q⟩
theorem Fun.binds{x qual:Str}{st:Stmt}{f:Addr}{fd:FuncData}{ps:List Str}(F:Fun K x qual st f fd)
  (h:∀(kV doc pm:Value)(an:Option Addr)(cdv ct:Value)(us:List Value),us.length=ps.length->bindArgs (PySem.W.fnOf x qual (JQ st) (ZH st) (Qo st) .none kV doc pm an cdv ct) ⟨us,[]⟩=pure (ps.zip us)):Binds K fd ps []:=by
 obtain⟨oc,od,kV,doc,pm,an,cdv,ct,osl,rfl,lk,hcd⟩:=F.ex;exact .all (h kV doc pm an cdv ct)
theorem KZ{x qual:Str}{st:Stmt}{f:Addr}{oc:Value}{od an:Option Addr}{osl:Array (Option Value)}{kV doc pm cdv ct:Value}(l:K.lookup f=some ⟨oc,od,.func (PySem.W.fnOf x qual (JQ st) (ZH st) (Qo st) .none kV doc pm an cdv ct),osl⟩)
  (c:PySem.W.codeIn K cdv qual=true) (k:PySem.W.keepIn K (.ref f)=true):Fun K x qual st f (PySem.W.fnOf x qual (JQ st) (ZH st) (Qo st) .none kV doc pm an cdv ct):=⟨⟨oc,od,kV,doc,pm,an,cdv,ct,osl,rfl,l,c⟩,k⟩
end
theorem QO{A:Around}{k:Nat}(hr:Room k A):A.units+1 < cLine:=By (Nat.add_le_add_left (by decide:1<=64) _) hr.units
section
variable{X:Cx}
end
theorem K5{A B:Prop}(h:B):if false=true then A else B:=by
 rw[Eb Bz];exact h
theorem K6{A B:Prop}(h:A):if true=true then A else B:=by
 rw[Ec rfl];exact h
end L2
set_option maxHeartbeats 4000000
namespace L2
open PySem PySem.Spec PyProof.Rows
section
variable{κ:Type}[DecidableEq κ]
def YY(kvs:List (κ×V))(k:κ):Option V:=(kvs.find? λkv=>decide (kv.1=k)).map (·.2)
def xr(kvs:List (κ×V))(k:κ)(v:V):List (κ×V) :=
 if (kvs.any λkv=>decide (kv.1=k))=true then kvs.map (λkv=>if kv.1=k then (kv.1,v) else kv) else kvs++[(k,v)]
theorem Up{p:κ×V}{r:List (κ×V)}{k:κ}(e:p.1=k):YY (p::r) k=some p.2:=by simp[YY,B8,e]
theorem Uo{p:κ×V}{r:List (κ×V)}{k:κ}(e:¬ p.1=k):YY (p::r) k=YY r k:=by simp[YY,B8,e]
theorem ub(k:κ):∀kvs:List (κ×V),(kvs.any λkv=>decide (kv.1=k))=(YY kvs k).isSome
  | []=>rfl
  | p::r=>by
    rw[Cv];by_cases e:p.1=k
    . simp only[Up e,Eg e,Bool.true_or,Option.isSome_some]
    . rw[Uo e,Ei e,Bool.false_or];exact ub k r
theorem yF(kvs:List (κ×V))(k:κ)(v:V):(xr kvs k v).length<=kvs.length+1:=by
 unfold xr;split
 ·rw[Bt];lia
 ·rw[Ao,Bb,List.length_nil];lia
theorem RelO.isSome_eq{o:Option V}{u:Option Value}(r:RelO o u):o.isSome=u.isSome:=by
  cases o with
  | none=>cases u with
    | none=>rfl
    | some _=>exact(show False from r).elim
  | some _=>cases u with
    | none=>exact(show False from r).elim
    | some _=>rfl
theorem RelO.getD{o:Option V}{u:Option Value}(r:RelO o u)(rd:RelV d d'):RelV (o.getD d) (u.getD d'):=by
  cases o with
  | none=>cases u with
    | none=>exact rd
    | some _=>exact(show False from r).elim
  | some _=>cases u with
    | none=>exact(show False from r).elim
    | some _=>exact r
theorem KV.val{kvs:List (κ×V)}{vs:List (κ×Value)}(r:KV kvs vs)(k:κ):RelO (YY kvs k) (valueAt vs k):=by
  unfold KV at r;induction r with
  | nil=>exact True.intro
  | @cons p q ps qs h t ih =>
    obtain⟨h1,h2⟩:=h;by_cases e:p.1=k
    . have e':q.1=k:=h1.symm.trans e
      have b:valueAt (q::qs) k=some q.2:=by simp[valueAt,B8,e']
      rw[Up e,b];exact h2
    . have e':¬ q.1=k:=λz=>e (h1.trans z)
      have b:valueAt (q::qs) k=valueAt qs k:=by simp[valueAt,B8,e']
      rw[Uo e,b];exact ih
theorem KV.any{kvs:List (κ×V)}{vs:List (κ×Value)}(r:KV kvs vs)(k:κ):(kvs.any λkv=>decide (kv.1=k))=vs.any λkv=>decide (kv.1=k):=by
 unfold KV at r;induction r with
 | nil=>rfl
 | cons h t ih=>rw[Cv,Cv,ih,h.1]
theorem KV.repl{kvs:List (κ×V)}{vs:List (κ×Value)}(r:KV kvs vs)(k:κ)(ry:RelV y u):
    KV (kvs.map λkv=>if kv.1=k then (kv.1,y) else kv) (vs.map λkv=>if kv.1=k then (kv.1,u) else kv):=by
  unfold KV at r ⊢;induction r with
  | nil=>exact .nil
  | @cons p q ps qs h t ih =>
    rw[Bc,Bc];refine .cons ?_ ih;obtain⟨h1,h2⟩:=h;by_cases e:p.1=k
    . rw[Ec e,Ec (h1.symm.trans e)];exact⟨h1,ry⟩
    . rw[Eb e,Eb (λz=>e (h1.trans z))];exact⟨h1,h2⟩
theorem KV.put{kvs:List (κ×V)}{vs:List (κ×Value)}(r:KV kvs vs)(k:κ)(ry:RelV y u):KV (xr kvs k y) (stored vs k u):=by
 unfold xr stored;rw[r.any k];by_cases e:(vs.any λkv=>decide (kv.1=k))=true
 ·rw[Ec e,Ec e];exact r.repl k ry
 ·rw[Eb e,Eb e];exact Paired.snoc r ⟨rfl,ry⟩
def KV.length{kvs:List (κ×V)}{vs:List (κ×Value)}(r:KV kvs vs):kvs.length=vs.length:=Paired.length r
end
theorem VJ{w:World}(r:RelV (kV k) u):(Z2 P w).is k u=true:=by
 cases k with
 | inl i=>obtain⟨t,e⟩:=(show ∃t,u=Value.int i t from r);subst e;exact vC P w i t
 | inr x=>obtain⟨t,e⟩:=(show ∃t,u=Value.str x t from r);subst e;exact vD P w x t
theorem Kf{w:World}:∀{ks:List Key}{us:List Value},Vals (ks.map kV) us->ItemsAre (Z2 P w) ks us
  | [],_,r=>by rw[List.map_nil] at r;cases r;exact .nil
  | k::ks,_,r=>by
    rw[Bc] at r;cases r with
    | cons h t=>exact .cons (VJ h) (Kf t)
abbrev KT(H:Hp):List (List Key×V)->List (List Key×Addr×Value)->Prop:=Paired λp q=>p.1=q.1/\H q.2.1=some (.tup (p.1.map kV))/\RelV p.2 q.2.2
theorem KT.val{kvs:List (List Key×V)}{xs:List (List Key×Addr×Value)}(r:KT H kvs xs)(k:List Key):RelO (YY kvs k) ((atKey xs k).map (·.2)):=by
  induction r with
  | nil=>exact True.intro
  | @cons p q ps qs h t ih =>
    obtain⟨h1,_,h2⟩:=h;by_cases e:p.1=k
    . have e':q.1=k:=h1.symm.trans e
      have b:atKey (q::qs) k=some q.2:=by simp[atKey,B8,e']
      rw[Up e,b];exact h2
    . have e':¬ q.1=k:=λz=>e (h1.trans z)
      have b:atKey (q::qs) k=atKey qs k:=by simp[atKey,B8,e']
      rw[Uo e,b];exact ih
theorem KT.repl{kvs:List (List Key×V)}{xs:List (List Key×Addr×Value)}(r:KT H kvs xs)(k:List Key)(ry:RelV y u):
    KT H (kvs.map λkv=>if kv.1=k then (kv.1,y) else kv) (xs.map (putAt k u)):=by
  induction r with
  | nil=>exact .nil
  | @cons p q ps qs h t ih =>
    rw[Bc,Bc];refine .cons ?_ ih;obtain⟨h1,h2,h3⟩:=h;unfold putAt;by_cases e:p.1=k
    . rw[Ec e,Ec (h1.symm.trans e)];exact⟨h1,h2,ry⟩
    . rw[Eb e,Eb (λz=>e (h1.trans z))];exact⟨h1,h2,h3⟩
theorem KT.put{H:Hp}{kvs:List (List Key×V)}{xs:List (List Key×Addr×Value)}(r:KT H kvs xs)(k:List Key){b:Addr}(hb:H b=some (.tup (k.map kV)))(ry:RelV y u):
  KT H (xr kvs k y) (storedH xs k b u):=by
 have e:(kvs.any λkv=>decide (kv.1=k))=(atKey xs k).isSome:=by
  rw[ub,(r.val k).isSome_eq,Option.isSome_map]
 unfold xr storedH;rw[e];by_cases q:(atKey xs k).isSome=true
 ·rw[Ec q,Ec q];exact r.repl k ry
 ·rw[Eb q,Eb q];exact Paired.snoc r ⟨rfl,hb,ry⟩
theorem KT.keeps{H H':Hp}{kvs:List (List Key×V)}{xs:List (List Key×Addr×Value)}(r:KT H kvs xs)(ht:∀b ys,H b=some (.tup ys)->H' b=some (.tup ys)):KT H' kvs xs :=
 Paired.mapP r λ_ _ z=>⟨z.1,ht _ _ z.2.1,z.2.2⟩
section
variable{P:Program}{w:World}{H:Hp}{h:Heap}{a:Addr}
def Qfx(ok:HOk P w H h)(e:Rd H a u):ObjOk P w H h a u:=e.ok ok
theorem yB{kvs:List (Key×V)}(ok:HOk P w H h)(e:Rd H a (.dK kvs)):kvs.length<=sizeLine/\(a==sysModules)=false/\∃vs,KV kvs vs/\h.DictOf (Z2 P w) a vs :=
 show ObjOk P w H h a (.dK kvs) from Qfx ok e
def QbK{kvs:List (Key×V)}(ok:HOk P w H h)(e:H a=some (.dK kvs)):kvs.length<=sizeLine/\(a==sysModules)=false/\∃vs,KV kvs vs/\h.DictOf (Z2 P w) a vs:=yB ok (.inl e)
theorem jA{ks:List Key}(ok:HOk P w H h)(e:H a=some (.tup (ks.map kV))):(tupleKind (Z2 P w)).is h ks a:=by
 obtain⟨_,its,r,o,h1,h2,n,h3⟩:=(show ObjOk P w H h a (.tup (ks.map kV)) from ok a _ e);exact⟨o,its.toArray,n,h1,h2,h3,by simpa using Kf r⟩
theorem VB{kvs:List (List Key×V)}(ok:HOk P w H h)(e:Rd H a (.dT kvs)):kvs.length<=sizeLine/\(a==sysModules)=false /\
    ∃xs,KT H kvs xs/\h.DictOfH (tupleKind (Z2 P w)) a xs:=by
  obtain⟨z,y,xs,r,o,es,ep,h1,h2,h3,h4,h5⟩:=(show ObjOk P w H h a (.dT kvs) from Qfx ok e);refine⟨z,y,xs,r,o,es,ep,h1,h2,h3,h4,λx hx=>?_,h5⟩;have all:∀{l:List (List Key×V)}{m:List (List Key×Addr×Value)},KT H l m->∀x∈m,(tupleKind (Z2 P w)).is h x.1 x.2.1:=by
    intro l m q;induction q with
    | nil=>intro x hx;exact nomatch hx
    | @cons p q ps qs hq t ih =>
      intro x hx;rcases Bm.mp hx with e | hx
      . subst e
        exact jA ok (by rw[<- hq.1];exact hq.2.1)
      . exact ih x hx
  exact all r x hx
theorem zg{kvs:List (List Key×V)}(ok:HOk P w H h)(e:H a=some (.dT kvs)):kvs.length<=sizeLine/\(a==sysModules)=false /\
  ∃xs,KT H kvs xs/\h.DictOfH (tupleKind (Z2 P w)) a xs:=VB ok (.inl e)
end
def DGet(H:Hp)(a:Addr)(y:V)(r:Option V):Prop :=
 (∃kvs k,Rd H a (.dK kvs)/\y=kV k/\r=YY kvs k)∨∃kvs k b,Rd H a (.dT kvs)/\y=.ref b/\H b=some (.tup (k.map kV))/\r=YY kvs k
def DPut(H:Hp)(a:Addr)(y v:V)(H':Hp):Prop :=
 (∃kvs k,H a=some (.dK kvs)/\y=kV k/\kvs.length < sizeLine/\H'=upd H a (.dK (xr kvs k v))) ∨
 ∃kvs k b,H a=some (.dT kvs)/\y=.ref b/\H b=some (.tup (k.map kV))/\kvs.length < sizeLine/\H'=upd H a (.dT (xr kvs k v))
def DGet.k{H:Hp}{a:Addr}{kvs:List (Key×V)}{k:Key}(e:H a=some (.dK kvs)):DGet H a (kV k) (YY kvs k):=.inl ⟨kvs,k,.inl e,rfl,rfl⟩
def DPut.k{H:Hp}{a:Addr}{kvs:List (Key×V)}{k:Key}{v:V}(e:H a=some (.dK kvs))(hl:kvs.length < sizeLine):DPut H a (kV k) v (upd H a (.dK (xr kvs k v))):=.inl ⟨kvs,k,e,rfl,hl,rfl⟩
section
variable{X:Cx}{O9:Em}{σ:St}{H:Hp}{s:Shared}{a:Addr}{y v:V}{u r:Value}{o:Option V}{A:Around}{E:Ek}
theorem Inv.big(I:Inv X O9 σ H s):sysModules < s.heap.objs.size:=by
 have h:mainGlobals < s.heap.objs.size:=(I.mod.glob.keeps I.bk).lt;exact Nat.lt_trans (by decide) h
theorem QaD{Q:Ek}(hu:A.units+1 < cLine)(I:Inv X O9 σ H s)(g:DGet H a y (some v))(ry:RelV y u)(h:∀w' s',Inv X O9 σ H s'->RelV v w'->Q w' s'):
  wpAny (model X.prog X.w) A (getItem (.ref a) u) Q E s:=by
 rcases g with ⟨kvs,k,e,ey,l⟩ | ⟨kvs,k,b,e,ey,eb,l⟩
 ·subst ey
  obtain⟨z,hd,vs,rel,dd⟩:=yB I.hok e;obtain⟨w',hw,rw'⟩:=RelO.some_of (v:=v) (o:=valueAt vs k) (by rw[l];exact rel.val k)
  exact wpAny_getItem_of (VJ ry) dd.mapOf hw (h w' _ (I.tok _) rw')
 ·subst ey
  cases (show u=Value.ref b from ry);obtain⟨z,hd,xs,rel,dd⟩:=VB I.hok e;obtain⟨w',hw,rw'⟩:=RelO.some_of (v:=v) (o:=(atKey xs k).map (·.2)) (by rw[l];exact rel.val k)
  obtain⟨p,hp,hp2⟩:=Cg.mp hw;refine wpAny_getItem_heap (tupleKind_room_in1 hu) (jA I.hok eb) dd hp ?_;rw[hp2];exact h w' _ (I.tok _) rw'
theorem Qiy{Q:Ek}(hu:A.units+1 < cLine)(I:Inv X O9 σ H s)(g:DGet H a y o)(ry:RelV y u)(h:∀s',Inv X O9 σ H s'->Q (.bool o.isSome) s'):
  wpAny (model X.prog X.w) A (compareOp .In u (.ref a)) Q E s:=by
 rcases g with ⟨kvs,k,e,ey,l⟩ | ⟨kvs,k,b,e,ey,eb,l⟩
 ·subst ey
  obtain⟨z,hd,vs,rel,dd⟩:=yB I.hok e;refine wpAny_in_of (VJ ry) hd dd.mapOf ?_;rw[<- (rel.val k).isSome_eq,<- l];exact h _ (I.tok _)
 ·subst ey
  cases (show u=Value.ref b from ry);obtain⟨z,hd,xs,rel,dd⟩:=VB I.hok e;refine wpAny_in_heap (tupleKind_room_in1 hu) (jA I.hok eb) hd dd ?_;have q:=(rel.val k).isSome_eq;rw[Option.isSome_map] at q;rw[<- q,<- l];exact h _ (I.tok _)
theorem QdN{Q:Ek}(hu:A.units+1 < cLine)(I:Inv X O9 σ H s)(g:DGet H a y o)(ry:RelV y u)(h:∀s',Inv X O9 σ H s'->Q (.bool (!o.isSome)) s'):
  wpAny (model X.prog X.w) A (compareOp .NotIn u (.ref a)) Q E s:=by
 rcases g with ⟨kvs,k,e,ey,l⟩ | ⟨kvs,k,b,e,ey,eb,l⟩
 ·subst ey
  obtain⟨z,hd,vs,rel,dd⟩:=yB I.hok e;refine wpAny_notIn_of (VJ ry) hd dd.mapOf ?_;rw[<- (rel.val k).isSome_eq,<- l];exact h _ (I.tok _)
 ·subst ey
  cases (show u=Value.ref b from ry);obtain⟨z,hd,xs,rel,dd⟩:=VB I.hok e;refine wpAny_notIn_heap (tupleKind_room_in1 hu) (jA I.hok eb) hd dd ?_;have q:=(rel.val k).isSome_eq;rw[Option.isSome_map] at q;rw[<- q,<- l];exact h _ (I.tok _)
theorem kc{h':Heap}{t':Nat}(I:Inv X O9 σ H s)(mu:Mut (H a))(hs:Heap.SameBut a s.heap h')(he:∃q,h'.get? a=some q)(new:ObjOk X.prog X.w (upd H a ob) h' a ob):
  Inv X O9 σ (upd H a ob) { s with heap:=h',toks:=t' } :=
 I.write (x:=a) (e:=a) mu (.inl rfl) (λb q hb z=>(hs.2 b hb).trans z) he new
theorem QfO{w:World}{H':Hp}{h':Heap}{kvs:List (Key×V)}{vs:List (Key×Value)}(z:kvs.length<=sizeLine)(hd:(a==sysModules)=false)(rel:KV kvs vs)(dd:h'.DictOf (Z2 P w) a vs):
  ObjOk P w H' h' a (.dK kvs):=⟨z,hd,vs,rel,dd⟩
theorem QaE{Q:Unit->Shared->Prop}(hu:A.units+1 < cLine)(I:Inv X O9 σ H s)(g:DPut H a y v H')(ry:RelV y u)(rv:RelV v r)(h:∀s',Inv X O9 σ H' s'->Q () s'):
  wpAny (model X.prog X.w) A (setItem (.ref a) u r) Q E s:=by
 rcases g with ⟨kvs,k,e,ey,l,eH⟩ | ⟨kvs,k,b,e,ey,eb,l,eH⟩
 ·subst ey eH
  obtain⟨z,hd,vs,rel,dd⟩:=QbK I.hok e;have hz:vs.length<=sizeLine:=by rw[<- rel.length];exact z
  have hl:(xr kvs k v).length<=sizeLine:=by have:=yF kvs k v;lia
  refine wpAny_setItem_pairs (hsz:=hz) (VJ ry) dd λh' dd' hs=>h _ ?_;have he:∃q,h'.get? a=some q:=let ⟨q,_,_,hq,_⟩:=dd';⟨q,hq⟩;exact kc I (by rw[e];exact True.intro) hs he (QfO hl hd (rel.put k rv) dd')
 ·subst ey eH
  cases (show u=Value.ref b from ry);obtain⟨z,hd,xs,rel,dd⟩:=zg I.hok e;have hz:xs.length<=sizeLine:=by rw[<- Paired.length rel];exact z
  have hl:(xr kvs k v).length<=sizeLine:=by have:=yF kvs k v;lia
  refine wpAny_setItem_heap (hsz:=hz) (tupleKind_room_in1 hu) (jA I.hok eb) dd λh' dd' hs=>h _ ?_;obtain⟨q,es,ep,hq,h2,h3,h4,_,h5⟩:=dd';refine kc I (by rw[e];exact True.intro) hs ⟨q,hq⟩ ⟨hl,hd,_,(rel.put k eb rv).keeps λc ys ec=>?_,q,es,ep,hq,h2,h3,h4,h5⟩
  rw[Q4 (QhL ec e (λz=>nomatch z))];exact ec
end
section
variable{X:Cx}{O9:Em}{σ:St}{H:Hp}{s:Shared}{a:Addr}{kvs:List (Key×V)}{k:Key}{u:Value}{A:Around}{E:Ek}
theorem Qho{Q:Ek}(I:Inv X O9 σ H s)(e:Rd H a (.dK kvs))(h:∀t s',Inv X O9 σ H s'->Q (.int kvs.length t) s'):wpAny (model X.prog X.w) A (call (.builtin "len") [.ref a]) Q E s:=by
 obtain⟨z,hd,vs,rel,dd⟩:=yB I.hok e;refine call_len_dict hd dd (by rw[<- rel.length];rw[sizeLine_eq] at z;lia) ?_
 rw[<- rel.length];exact h _ _ (I.tok _)
end
theorem G8{s:Shared}{a:Addr}{o:Option V}(I:Inv X O9 σ H s)(g:DGet H a y o):s.TypeIs (.ref a) "dict" := by
 rcases g with ⟨kvs,k,e,_,_⟩ | ⟨kvs,k,b,e,_,_,_⟩
 ·obtain⟨_,_,vs,_,dd⟩:=yB I.hok e
  exact dd.typeIs
 ·obtain⟨_,_,xs,_,dd⟩:=VB I.hok e
  exact dd.typeIs
section
variable{X:Cx}{o i e value:Expr}{pos pos' tpos:Pos}{td ty tv:TE}
end
theorem QbJ{w:World}(h:Heap)(hb:sysModules < h.objs.size):ObjOk P w H (h.push { cls:=.type "dict", data:=.dict #[] }) h.objs.size (.dK []) :=
 ⟨Bf _,beq_eq_false_iff_ne.mpr (Ne.symm (Bh hb)),[],.nil,Heap.DictOf.new h⟩
section
variable{X:Cx}{pos:Pos}
end
structure M1(X:Cx)(o:Expr)(m:Str)(apos:Pos)(e:Expr)(cpos:Pos):Prop where
 O8:attributeBase o m X.env (eval o X.env)=eval o X.env
 few:((backTo cpos (starEach [e] X.env)).all (λx=>!x.1)&&(backToKw cpos (keywordEach [] X.env)).all (λx=>x.1.isSome)
  && decide (([e]:List Expr).length+([]:List Keyword).length+(if ([]:List Keyword).isEmpty then 0 else 1) < 30))=true
 line:(apos.endLine==cpos.line)=true
 trees:backTo cpos (starEach [e] X.env)=[(false,eval e X.env)]
section
variable{X:Cx}{O9:Em}{σ:St}{H:Hp}{s:Shared}{a:Addr}{y d:V}{u r:Value}{o:Option V}{A:Around}{E:Ek}
theorem QfK{Q:Ek}(hu:A.units+1 < cLine)(I:Inv X O9 σ H s)(g:DGet H a y o)(ry:RelV y u)(h:∀w' s',Inv X O9 σ H s'->RelV (o.getD .non) w'->Q w' s'):
  wpAny (model X.prog X.w) A (call (.builtin "dict.get") [.ref a,u]) Q E s:=by
 rcases g with ⟨kvs,k,e,ey,l⟩ | ⟨kvs,k,b,e,ey,eb,l⟩
 ·subst ey
  obtain⟨z,hd,vs,rel,dd⟩:=yB I.hok e;refine call_meetsIn PySem.F.slot_dict_get dd.typeIs PySem.F.entry_dict_get (PySem.F.args_dict_get_2 _ _) (meets_dict_get (Z2 X.prog X.w) a (VJ ry) hd) ⟨_,dd.mapOf,h _ _ (I.tok _) ?_⟩;rw[l];exact(rel.val k).getD rfl
 ·subst ey
  cases (show u=Value.ref b from ry);obtain⟨z,hd,xs,rel,dd⟩:=VB I.hok e;refine call_meetsIn PySem.F.slot_dict_get dd.typeIs PySem.F.entry_dict_get (PySem.F.args_dict_get_2 _ _) (meetsH_dict_get (tupleKind (Z2 X.prog X.w)) a b hd) ⟨tupleKind_room_in1 hu,k,xs,jA I.hok eb,dd,h _ _ (I.tok _) ?_⟩;rw[l];exact(rel.val k).getD rfl
theorem QfL{Q:Ek}(hu:A.units+1 < cLine)(I:Inv X O9 σ H s)(g:DGet H a y o)(ry:RelV y u)(rd:RelV d r)(h:∀w' s',Inv X O9 σ H s'->RelV (o.getD d) w'->Q w' s'):
  wpAny (model X.prog X.w) A (call (.builtin "dict.get") [.ref a,u,r]) Q E s:=by
 rcases g with ⟨kvs,k,e,ey,l⟩ | ⟨kvs,k,b,e,ey,eb,l⟩
 ·subst ey
  obtain⟨z,hd,vs,rel,dd⟩:=yB I.hok e;refine call_meetsIn PySem.F.slot_dict_get dd.typeIs PySem.F.entry_dict_get (PySem.F.args_dict_get_3 _ _ _) (meets_dict_get_default (Z2 X.prog X.w) a (VJ ry) hd r) ⟨_,dd.mapOf,h _ _ (I.tok _) ?_⟩;rw[l];exact(rel.val k).getD rd
 ·subst ey
  cases (show u=Value.ref b from ry);obtain⟨z,hd,xs,rel,dd⟩:=VB I.hok e;refine call_meetsIn PySem.F.slot_dict_get dd.typeIs PySem.F.entry_dict_get (PySem.F.args_dict_get_3 _ _ _) (meetsH_dict_get_default (tupleKind (Z2 X.prog X.w)) a b hd r) ⟨tupleKind_room_in1 hu,k,xs,jA I.hok eb,dd,h _ _ (I.tok _) ?_⟩;rw[l];exact(rel.val k).getD rd
end
section
variable{X:Cx}{o e f:Expr}{apos cpos:Pos}{td ty tx:TE}
end
section
variable{X:Cx}{O9:Em}{σ:St}{H:Hp}{s:Shared}{a:Addr}{kvs:List (Key×V)}{A:Around}{E:Ek}
end
section
variable{X:Cx}{O9:Em}{σ:St}{H:Hp}{s:Shared}{a:Addr}{y:V}{u:Value}{A:Around}{E:Ek}
end
section
variable{X:Cx}
theorem Qay:JY X (.builtin "len") (λxs H Q=>∃a kvs,xs=[V.ref a]/\H a=some (.dK kvs)/\Q (.int kvs.length) H):=by
 intro O9 s σ H xs us Q I r h;obtain⟨a,kvs,rfl,ha,q⟩:=h;obtain⟨u,rfl,ru⟩:=xL r;cases ru;exact Qho I (.inl ha) λt s' I'=>⟨.int kvs.length,H,I',⟨t,rfl⟩,q⟩
end
section
variable{κ:Type}[DecidableEq κ]
end
end L2
namespace D
open PySem PySem.Spec PyProof.Rows L2
abbrev St:=L2.St
inductive DV where
 | non | bl (b:Bool) | int (i:Int) | str (x:Str) | tup (xs:List DV) | lst (xs:List DV) | ref (i:Nat)
inductive OV where
 | lst (xs:List DV)
 | dic (kvs:List (Key×DV))
 | ins (c:Str) (fs:List (Str×DV))
abbrev Hs:=List OV
abbrev M:=StateT Hs Option
abbrev Et:=List DV->M DV
mutual
def RepV(K:Aa)(ρ:Es)(B:Er)(H:Hp):DV->V->Prop
 | .non,v=>v=.non
 | .bl b,v=>v=.bl b
 | .int i,v=>v=.int i
 | .str x,v=>v=.str x
 | .tup ds,v=>∃a xs,v=.ref a/\¬ B a/\SqT K H a xs/\RepL K ρ B H ds xs
 | .lst ds,v=>∃a xs,v=.ref a/\¬ B a/\SqL K H a xs/\RepL K ρ B H ds xs
 | .ref i,v=>∃a,v=.ref a/\ρ[i]?=some a
def RepL(K:Aa)(ρ:Es)(B:Er)(H:Hp):List DV->List V->Prop
 | [],xs=>xs=[]
 | d::ds,xs=>∃x r,xs=x::r/\RepV K ρ B H d x/\RepL K ρ B H ds r
end
def ORep(K:Aa)(ρ:Es)(B:Er)(H:Hp)(a:Addr):OV->Prop
 | .lst ds=>∃xs,H a=some (.lst xs)/\RepL K ρ B H ds xs
 | .dic kvs=>∃xs:List (Key×V),H a=some (.dK xs)/\xs.map (·.1)=kvs.map (·.1)/\RepL K ρ B H (kvs.map (·.2)) (xs.map (·.2))
 | .ins c fs=>∃(C dx:Addr)(xs:List (Str×V)),PySem.W.nsIn K mainGlobals c=some (some (.ref C))/\H a=some (.ins C dx xs)/\xs.map (·.1)=fs.map (·.1)/\RepL K ρ B H (fs.map (·.2)) (xs.map (·.2))
structure Gr(K:Aa)(ρ:Es)(B:Er)(H:Hp)(ρ':Es)(B':Er)(H':Hp):Prop where
 pre:ρ <+: ρ'
 ban:∀a,B a->B' a
 new:∀a,B' a->B a∨(H a=none/\K.lookup a=none)
 rnew:∀a∈ρ',a∈ρ∨H a=none
 keep:∀a o,a∉ρ->H a=some o->H' a=some o
 trk:∀a,H' a=none->H a=none
structure WOk(K:Aa)(ρ:Es)(B:Er)(hp:Hs)(H:Hp):Prop where
 len:ρ.length=hp.length
 nd:ρ.Nodup
 obj:∀(i:Nat)(a:Addr)(o:OV),ρ[i]?=some a->hp[i]?=some o->ORep K ρ B H a o
 rb:∀a∈ρ,B a
 bt:∀a,B a->H a≠none
 bk:∀a,B a->K.lookup a=none
section
variable{K:Aa}{ρ ρ' ρ'':Es}{B B' B'':Er}{H H' H'':Hp}
def Gr.refl:Gr K ρ B H ρ B H:=⟨Cm,λ_ h=>h,λ_ h=>.inl h,λ_ h=>.inl h,λ_ _ _ h=>h,λ_ h=>h⟩
theorem Gr.trans(a:Gr K ρ B H ρ' B' H')(b:Gr K ρ' B' H' ρ'' B'' H''):Gr K ρ B H ρ'' B'' H'' where
 pre:=a.pre.trans b.pre
 ban:=λx h=>b.ban x (a.ban x h)
 new:=λx h=>(b.new x h).elim (a.new x) λz=>.inr ⟨a.trk x z.1,z.2⟩
 rnew:=λx h=>(b.rnew x h).elim (a.rnew x) λz=>.inr (a.trk x z)
 keep:=λx o hn h=>b.keep x o (λz=>(a.rnew x z).elim hn (λz=>by rw[h] at z;cases z)) (a.keep x o hn h)
 trk:=λx h=>a.trk x (b.trk x h)
structure Gs(K:Aa)(ρ:Es)(B:Er)(H:Hp)(ρ':Es)(B':Er)(H':Hp):Prop where
 pre:ρ <+: ρ'
 new:∀a,B' a->B a∨(H a=none/\K.lookup a=none)
 keep:∀a o,¬ B a->H a=some o->H' a=some o
 trk:∀a,H' a=none->H a=none
def Gr.gs(rb:∀a∈ρ,B a)(g:Gr K ρ B H ρ' B' H'):Gs K ρ B H ρ' B' H':=⟨g.pre,g.new,λa o nb h=>g.keep a o (λz=>nb (rb a z)) h,g.trk⟩
def Gs.refl:Gs K ρ B H ρ B H:=⟨Cm,λ_ h=>.inl h,λ_ _ _ h=>h,λ_ h=>h⟩
theorem Gs.trans(a:Gs K ρ B H ρ' B' H')(b:Gs K ρ' B' H' ρ'' B'' H''):Gs K ρ B H ρ'' B'' H'' where
 pre:=a.pre.trans b.pre
 new:=λx h=>(b.new x h).elim (a.new x) λz=>.inr ⟨a.trk x z.1,z.2⟩
 keep:=λx o nb h=>b.keep x o (λz=>(a.new x z).elim nb λq=>by rw[h] at q;cases q.1) (a.keep x o nb h)
 trk:=λx h=>a.trk x (b.trk x h)
theorem SqT.trk{a:Addr}(h:SqT K H a xs):H a≠none∨∃o,K.lookup a=some o:=by
 rcases h with (h | ⟨o,h⟩) | ⟨o,_,_,h,_⟩
 ·exact .inl (by rw[h];simp)
 ·exact .inl (by rw[h];simp)
 ·exact .inr ⟨o,h⟩
theorem SqL.trk{a:Addr}(h:SqL K H a xs):H a≠none∨∃o,K.lookup a=some o:=by
 rcases h with (h | ⟨o,h⟩) | ⟨o,_,_,h,_⟩
 ·exact .inl (by rw[h];simp)
 ·exact .inl (by rw[h];simp)
 ·exact .inr ⟨o,h⟩
theorem Gs.ok{a:Addr}(g:Gs K ρ B H ρ' B' H')(hb:¬ B a)(t:H a≠none∨∃o,K.lookup a=some o):¬ B' a:=λz =>
 (g.new a z).elim hb λ⟨n,k⟩=>t.elim (λq=>q n) λ⟨o,q⟩=>by rw[k] at q;cases q
theorem Gs.sqT{a:Addr}(g:Gs K ρ B H ρ' B' H')(hr:¬ B a)(h:SqT K H a xs):SqT K H' a xs:=by
 rcases h with (h | ⟨o,h⟩) | h
 ·exact .inl (.inl (g.keep _ _ hr h))
 ·exact .inl (.inr ⟨o,g.keep _ _ hr h⟩)
 ·exact .inr h
theorem Gs.sqL{a:Addr}(g:Gs K ρ B H ρ' B' H')(hr:¬ B a)(h:SqL K H a xs):SqL K H' a xs:=by
 rcases h with (h | ⟨o,h⟩) | h
 ·exact .inl (.inl (g.keep _ _ hr h))
 ·exact .inl (.inr ⟨o,g.keep _ _ hr h⟩)
 ·exact .inr h
theorem kY{i:Nat}{a:Addr}(p:ρ <+: ρ')(h:ρ[i]?=some a):ρ'[i]?=some a:=by
 obtain⟨t,rfl⟩:=p;rw[Ai (Ad.mp h).1];exact h
mutual
theorem RepV.gs(g:Gs K ρ B H ρ' B' H'):∀(d:DV)(v:V),RepV K ρ B H d v->RepV K ρ' B' H' d v
  | .non,_,h=>by unfold RepV at h ⊢;exact h
  | .bl _,_,h=>by unfold RepV at h ⊢;exact h
  | .int _,_,h=>by unfold RepV at h ⊢;exact h
  | .str _,_,h=>by unfold RepV at h ⊢;exact h
  | .ref _,_,h=>by
    unfold RepV at h ⊢;obtain⟨a,e,h⟩:=h;exact⟨a,e,kY g.pre h⟩
  | .tup ds,_,h=>by
    unfold RepV at h ⊢;obtain⟨a,xs,e,nb,sq,rl⟩:=h;exact⟨a,xs,e,g.ok nb (SqT.trk sq),g.sqT nb sq,RepL.gs g ds xs rl⟩
  | .lst ds,_,h=>by
    unfold RepV at h ⊢;obtain⟨a,xs,e,nb,sq,rl⟩:=h;exact⟨a,xs,e,g.ok nb (SqL.trk sq),g.sqL nb sq,RepL.gs g ds xs rl⟩
theorem RepL.gs(g:Gs K ρ B H ρ' B' H'):∀(ds:List DV)(xs:List V),RepL K ρ B H ds xs->RepL K ρ' B' H' ds xs
  | [],_,h=>by unfold RepL at h ⊢;exact h
  | d::ds,_,h=>by
    unfold RepL at h ⊢;obtain⟨x,r,e,h1,h2⟩:=h;exact⟨x,r,e,RepV.gs g d x h1,RepL.gs g ds r h2⟩
end
def RepV.grow(rb:∀a∈ρ,B a)(g:Gr K ρ B H ρ' B' H')(d:DV)(v:V)(h:RepV K ρ B H d v):RepV K ρ' B' H' d v:=RepV.gs (g.gs rb) d v h
def RepL.grow(rb:∀a∈ρ,B a)(g:Gr K ρ B H ρ' B' H')(ds:List DV)(xs:List V)(h:RepL K ρ B H ds xs):RepL K ρ' B' H' ds xs:=RepL.gs (g.gs rb) ds xs h
theorem RepL.length:∀{ds:List DV}{xs:List V},RepL K ρ B H ds xs->ds.length=xs.length
  | [],_,h=>by unfold RepL at h;subst h;rfl
  | d::ds,_,h=>by
    unfold RepL at h;obtain⟨x,r,rfl,_,h2⟩:=h;simp[RepL.length h2]
theorem RepL.get:∀{ds:List DV}{xs:List V}{i:Nat}{d:DV},RepL K ρ B H ds xs->ds[i]?=some d->∃x,xs[i]?=some x/\RepV K ρ B H d x
  | [],_,_,_,_,e=>by simp at e
  | d::ds,_,0,_,h,e=>by
    unfold RepL at h;obtain⟨x,r,rfl,h1,_⟩:=h;simp at e;subst e;exact⟨x,rfl,h1⟩
  | d::ds,_,i+1,_,h,e=>by
    unfold RepL at h;obtain⟨x,r,rfl,_,h2⟩:=h;obtain⟨y,h3,h4⟩:=RepL.get h2 (by simpa using e)
    exact⟨y,by simpa using h3,h4⟩
theorem RepL.nil:RepL K ρ B H [] []:=by unfold RepL;rfl
theorem RepL.cons{d:DV}{x:V}(h:RepV K ρ B H d x)(t:RepL K ρ B H ds xs):RepL K ρ B H (d::ds) (x::xs):=by
 unfold RepL;exact⟨x,xs,rfl,h,t⟩
theorem RepL.append:∀{ds es:List DV}{xs ys:List V},RepL K ρ B H ds xs->RepL K ρ B H es ys->RepL K ρ B H (ds++es) (xs++ys)
  | [],_,_,_,h,t=>by unfold RepL at h;subst h;exact t
  | d::ds,_,_,_,h,t=>by
    unfold RepL at h;obtain⟨x,r,rfl,h1,h2⟩:=h;exact RepL.cons h1 (RepL.append h2 t)
def RepL.one(h:RepV K ρ B H d x):RepL K ρ B H [d] [x]:=RepL.cons h RepL.nil
theorem RepL.take:∀(n:Nat){ds:List DV}{xs:List V},RepL K ρ B H ds xs->RepL K ρ B H (ds.take n) (xs.take n)
  | 0,_,_,_=>by simp;exact RepL.nil
  | _+1,[],_,h=>by unfold RepL at h;subst h;simp;exact RepL.nil
  | n+1,d::ds,_,h=>by
    unfold RepL at h;obtain⟨x,r,rfl,h1,h2⟩:=h;exact RepL.cons h1 (RepL.take n h2)
theorem RepL.drop:∀(n:Nat){ds:List DV}{xs:List V},RepL K ρ B H ds xs->RepL K ρ B H (ds.drop n) (xs.drop n)
  | 0,_,_,h=>h
  | _+1,[],_,h=>by unfold RepL at h;subst h;simp;exact RepL.nil
  | n+1,d::ds,_,h=>by
    unfold RepL at h;obtain⟨x,r,rfl,h1,h2⟩:=h;exact RepL.drop n h2
theorem Gr.laid{p:Addr}(h:H p=none):Gr K ρ B H ρ B (upd H p o) where
 pre:=Cm
 ban:=λ_ h=>h
 new:=λ_ h=>.inl h
 rnew:=λ_ h=>.inl h
 keep:=λa u _ q=>by rw[Q4 (ZB q h)];exact q
 trk:=λa q=>by
  by_cases e:a=p
  ·subst e;rw[Zg] at q;cases q
  ·rw[Q4 e] at q;exact q
theorem ORep.gs{a:Addr}(g:Gs K ρ B H ρ' B' H')(hk:H' a=H a)(h:ORep K ρ B H a o):ORep K ρ' B' H' a o:=by
  cases o with
  | lst ds =>
    obtain⟨xs,e,rl⟩:=h;exact⟨xs,hk.trans e,RepL.gs g _ _ rl⟩
  | dic kvs =>
    obtain⟨xs,e,ek,rl⟩:=h;exact⟨xs,hk.trans e,ek,RepL.gs g _ _ rl⟩
  | ins c fs =>
    obtain⟨C,dx,xs,nc,e,ek,rl⟩:=h;exact⟨C,dx,xs,nc,hk.trans e,ek,RepL.gs g _ _ rl⟩
theorem WOk.laid{p:Addr}(W:WOk K ρ B hp H)(h:H p=none):WOk K ρ B hp (upd H p o) where
 len:=W.len
 nd:=W.nd
 obj:=λi a u e q=>ORep.gs ((Gr.laid h).gs W.rb) (by
  have hb:=W.bt a (W.rb a (Ax e));exact Q4 (λz=>hb (z▸h))) (W.obj i a u e q)
 rb:=W.rb
 bt:=λa z q=>W.bt a z ((Gr.laid (K:=K) (ρ:=ρ) (B:=B) h).trk a q)
 bk:=W.bk
end
inductive Sl where
 | un | val (d:DV) | acc (ds:List DV)
abbrev En:=List Sl
structure Ent where
 ρ:List Addr
 B:Addr->Prop
 H:Hp
structure SOk(K:Aa)(Z:Ent)(env:En)(σ:St)(ρ:Es)(B:Er)(hp:Hs)(H:Hp):Prop where
 gr:Gr K Z.ρ Z.B Z.H ρ B H
 zb:∀a,Z.B a->Z.H a≠none
 wo:WOk K ρ B hp H
 slot:∀(i:Nat)(d:DV),env[i]?=some (.val d)->∃v,σ[i]?=some (some v)/\RepV K ρ B H d v
 accs:∀(i:Nat)(ds:List DV),env[i]?=some (.acc ds)->∃a xs,σ[i]?=some (some (.ref a))/\H a=some (.lst xs)/\Z.H a=none/\B a/\a∉ρ/\RepL K ρ B H ds xs
 adis:∀(i j:Nat)(ds es:List DV)(a:Addr),env[i]?=some (.acc ds)->env[j]?=some (.acc es)->σ[i]?=some (some (.ref a))->σ[j]?=some (some (.ref a))->i=j
 len:σ.length=env.length
theorem SOk.grow{K:Aa}{Z:Ent}(S:SOk K Z env σ ρ B hp H)(g:Gr K ρ B H ρ' B' H')(W:WOk K ρ' B' hp' H'):SOk K Z env σ ρ' B' hp' H' where
 gr:=S.gr.trans g
 zb:=S.zb
 wo:=W
 slot:=λi d e=>let ⟨v,h1,h2⟩:=S.slot i d e;⟨v,h1,RepV.grow S.wo.rb g d v h2⟩
 accs:=λi ds e=>by
  obtain⟨a,xs,h1,h2,h3,h4,h5,h6⟩:=S.accs i ds e;refine⟨a,xs,h1,g.keep a _ h5 h2,h3,g.ban a h4,λz=>?_,RepL.grow S.wo.rb g ds xs h6⟩;rcases g.rnew a z with q | q
  ·exact h5 q
  ·rw[h2] at q;cases q
 adis:=S.adis
 len:=S.len
abbrev DEx:=En->M DV
abbrev DTx:=En->M Bool
abbrev DAx:=En->M (List DV)
inductive Fl where
 | nx | rt (d:DV) | bk | ct
abbrev DSx:=En->M (Fl×En)
def Fol(K:Aa)(ρ:Es)(B:Er)(H:Hp)(d:DV)(hp':Hs)(Q:VK):Prop :=
 ∀v ρ' B' H',Gr K ρ B H ρ' B' H'->WOk K ρ' B' hp' H'->RepV K ρ' B' H' d v->Q v H'
def Qha(K:Aa)(ρ:Es)(B:Er)(H:Hp)(hp':Hs)(Q:Hp->Prop):Prop :=
 ∀ρ' B' H',Gr K ρ B H ρ' B' H'->WOk K ρ' B' hp' H'->Q H'
def Qiu(K:Aa)(ρ:Es)(B:Er)(H:Hp)(ds:List DV)(hp':Hs)(Q:List V->Hp->Prop):Prop :=
 ∀vs ρ' B' H',Gr K ρ B H ρ' B' H'->WOk K ρ' B' hp' H'->RepL K ρ' B' H' ds vs->Q vs H'
def tD(K:Aa)(f:DEx):TE:=λσ H Q=>∃Z env ρ B hp d hp',SOk K Z env σ ρ B hp H/\f env hp=some (d,hp')/\Fol K ρ B H d hp' Q
def tDT(K:Aa)(f:DTx):TT:=λσ H Q=>∃Z env ρ B hp d hp',SOk K Z env σ ρ B hp H/\f env hp=some (d,hp')/\Qha K ρ B H hp' (Q d)
def tDA(K:Aa)(f:DAx):TA:=λσ H Q=>∃Z env ρ B hp ds hp',SOk K Z env σ ρ B hp H/\f env hp=some (ds,hp')/\Qiu K ρ B H ds hp' Q
def DE(X:Cx)(e:Expr)(f:DEx):Prop:=PE X e (tD X.K f)
def DT(X:Cx)(e:Expr)(f:DTx):Prop:=PT X e (tDT X.K f)
def DW(X:Cx)(e:Expr)(f:DTx):Prop:=PW X e (tDT X.K f)
def DA(X:Cx)(es:List Expr)(f:DAx):Prop:=PA X es (tDA X.K f)
def FolS(K:Aa)(Z:Ent)(ρ:Es)(B:Er)(H:Hp)(fl:Fl)(env':En)(hp':Hs)(D:KD):Prop :=
  ∀σ' ρ' B' H', Gs K ρ B H ρ' B' H' -> SOk K Z env' σ' ρ' B' hp' H' -> match fl with
    | .nx=>D.nx σ' H'
    | .bk=>D.bk σ' H'
    | .ct=>D.ct σ' H'
    | .rt d=>∀v,RepV K ρ' B' H' d v->D.rt v H'
def tDS(K:Aa)(f:DSx):TS:=λD σ H=>∃Z env ρ B hp fl env' hp',SOk K Z env σ ρ B hp H/\f env hp=some ((fl,env'),hp')/\FolS K Z ρ B H fl env' hp' D
def DS(X:Cx)(st:Stmt)(f:DSx):Prop:=PS X st (tDS X.K f)
def DSs(X:Cx)(st:List Stmt)(f:DSx):Prop:=PSs X st (tDS X.K f)
section
variable{X:Cx}
def _root_.L2.PE.imp{t t':TE}(h:PE X e t)(i:∀σ H Q,t' σ H Q->t σ H Q):PE X e t':=λO9 s σ H Q I q=>h O9 s σ H Q I (i σ H Q q)
def _root_.L2.PT.imp{t t':TT}(h:PT X e t)(i:∀σ H Q,t' σ H Q->t σ H Q):PT X e t':=λO9 s σ H Q I q=>h O9 s σ H Q I (i σ H Q q)
def _root_.L2.PW.imp{t t':TT}(h:PW X e t)(i:∀σ H Q,t' σ H Q->t σ H Q):PW X e t':=λwh O9 s σ H Q I q=>h wh O9 s σ H Q I (i σ H Q q)
def _root_.L2.PA.imp{es:List Expr}{t t':TA}(h:PA X es t)(i:∀σ H Q,t' σ H Q->t σ H Q):PA X es t':=λpos O9 s σ H Q I q=>h pos O9 s σ H Q I (i σ H Q q)
def _root_.L2.PS.imp{st:Stmt}{t t':TS}(h:PS X st t)(i:∀Dn σ H,t' Dn σ H->t Dn σ H):PS X st t':=λO9 s σ H Dn I q=>h O9 s σ H Dn I (i Dn σ H q)
def _root_.L2.PSs.imp{st:List Stmt}{t t':TS}(h:PSs X st t)(i:∀Dn σ H,t' Dn σ H->t Dn σ H):PSs X st t':=λO9 s σ H Dn I q=>h O9 s σ H Dn I (i Dn σ H q)
def gO(K:Aa)(H:Hp):Prop:=∀a o,H a=some o->K.lookup a=none
theorem Inv.kfree(I:Inv X O9 σ H s):gO X.K H:=λa o e=>by
  cases q:X.K.lookup a with
  | none=>rfl
  | some ob =>
    have:=(I.bs a ob (I.ok.mod.kin a ob q)).2;rw[e] at this;cases this
theorem _root_.L2.PE.kf{t:TE}(h:PE X e t):PE X e (λσ H Q=>t σ H λv H'=>gO X.K H'->Q v H'):=λO9 s σ H Q I q =>
 thn (h O9 s σ H _ I q) λu s' ⟨v,H',I',r,z⟩=>⟨v,H',I',r,z (Inv.kfree I')⟩
theorem Qg{α β:Type}{f:M α}{g:α->M β}{y:β}(h:(f >>= g) hp=some (y,hp')):∃x hp1,f hp=some (x,hp1)/\g x hp1=some (y,hp'):=by
 change (f hp).bind (λp=>g p.1 p.2)=some (y,hp') at h;cases q:f hp with
 | none=>rw[q] at h;cases h
 | some p=>rw[q] at h;exact⟨p.1,p.2,rfl,h⟩
theorem Ql{α:Type}{x y:α}{hp hp':Hs}(h:(pure x:M α) hp=some (y,hp')):x=y/\hp=hp':=by
 change some (x,hp)=some (y,hp') at h;cases h;exact⟨rfl,rfl⟩
theorem tD.run{K:Aa}{f:DEx}{Z:Ent}{Q:VK}(S:SOk K Z env σ ρ B hp H)(e:f env hp=some (d,hp1))
  (k:∀v ρ' B' H',Gr K ρ B H ρ' B' H'->SOk K Z env σ ρ' B' hp1 H'->RepV K ρ' B' H' d v->Q v H'):tD K f σ H Q :=
 ⟨Z,env,ρ,B,hp,d,hp1,S,e,λv ρ' B' H' g W r=>k v ρ' B' H' g (S.grow g W) r⟩
def Qb(i:Nat):DEx:=λenv=>match env[i]? with
 | some (.val d)=>pure d
 | _=>failure
def eC(d:DV):DEx:=λ_=>pure d
theorem QaH{i:Nat}{env:En}{hp hp':Hs}(h:Qb i env hp=some (d,hp')):env[i]?=some (.val d)/\hp=hp':=by
  unfold Qb at h;cases q:env[i]? with
  | none=>rw[q] at h;cases h
  | some z =>
    rw[q] at h;cases z with
    | val x=>obtain⟨rfl,rfl⟩:=Ql h;exact⟨rfl,rfl⟩
    | un=>cases h
    | acc _=>cases h
theorem Qa(i:Nat){x:Str}{pos:Pos}(hN:X.N[i]?=some x:=by rfl)(hv:Vis X.env.scope x:=by first | exact Or.inl rfl | exact Or.inr (Or.inl rfl) | exact Or.inr (Or.inr rfl))(hd:(x==("__debug__" : Str))=false:=by decide)
  (hcd:(x==("__classdict__" : Str))=false:=by decide):DE X (.Name x pos) (Qb i) :=
 (Qgx hN hv hd hcd).imp λσ H Q zz1=>by
  obtain⟨Z,env,ρ,B,hp,d,hp',S,e,k⟩:=zz1;obtain⟨e1,rfl⟩:=QaH e;obtain⟨v,h1,h2⟩:=S.slot i d e1;exact⟨v,h1,k v ρ B H Gr.refl S.wo h2⟩
theorem q8(h:PE X e (tC v))(r:∀K ρ B H,RepV K ρ B H d v):DE X e (eC d) :=
 h.imp λσ H Q zz1=>by
  obtain⟨Z,env,ρ,B,hp,d',hp',S,e,k⟩:=zz1;obtain⟨rfl,rfl⟩:=Ql e;exact k v ρ B H Gr.refl S.wo (r _ _ _ _)
theorem Qp{i:Int}{j pos}:DE X (.Constant (.int i) j pos) (eC (.int i)):=q8 Qgr λ_ _ _ _=>by unfold RepV;rfl
theorem Xi{b:Bool}{j pos}:DE X (.Constant (.bool b) j pos) (eC (.bl b)):=q8 QhX λ_ _ _ _=>by unfold RepV;rfl
theorem Zl{j pos}:DE X (.Constant .none j pos) (eC .non):=q8 Qgs λ_ _ _ _=>by unfold RepV;rfl
theorem ZZ{x:Str}{j pos}:DE X (.Constant (.str x) j pos) (eC (.str x)):=q8 Qgv λ_ _ _ _=>by unfold RepV;rfl
theorem Q7{x:Str}{i:Int}{t:Tok}{pos:Pos}(hg:Gl X x)(hm:X.mg x=some (.int i t))(hd:(x==("__debug__" : Str))=false:=by decide):DE X (.Name x pos) (eC (.int i)) :=
 q8 (kW (v:=.int i) hg hm ⟨t,rfl⟩ hd) λ_ _ _ _=>by unfold RepV;rfl
def tP2(K:Aa)(g:DV->DV->M DV):R2:=λx y H Q=>∃ρ B hp dx dy d hp',WOk K ρ B hp H/\RepV K ρ B H dx x/\RepV K ρ B H dy y/\g dx dy hp=some (d,hp')/\Fol K ρ B H d hp' Q
def P2(X:Cx)(f:Value->Value->Sem Value)(g:DV->DV->M DV):Prop:=OpR X f (tP2 X.K g)
def Qk(g:DV->DV->M DV)(a b:DEx):DEx:=λenv=>do let x <- a env;let y <- b env;g x y
variable{a b c:Expr}{fa fb fc:DEx}{pos:Pos}
theorem zh{K:Aa}{g:DV->DV->M DV}(h:tD K (Qk g fa fb) σ H Q):tOp (tP2 K g) (tD K fa) (tD K fb) σ H Q:=by
 obtain⟨Z,env,ρ,B,hp,d,hp',S,e,k⟩:=h;obtain⟨x,hp1,e1,e2⟩:=Qg e;obtain⟨y,hp2,e3,e4⟩:=Qg e2;refine tD.run S e1 λv ρ1 B1 H1 g1 S1 r1=>tD.run S1 e3 λu ρ2 B2 H2 g2 S2 r2=>?_;exact⟨ρ2,B2,hp2,x,y,d,hp',S2.wo,RepV.grow S1.wo.rb g2 _ _ r1,r2,e4,λw ρ' B' H' g W r=>k w ρ' B' H' (g1.trans (g2.trans g)) W r⟩
theorem Qz{op:Operator}{g:DV->DV->M DV}(ho:P2 X (binaryOp op) g)(ha:DE X a fa)(hb:DE X b fb):DE X (.BinOp a op b pos) (Qk g fa fb) :=
 (QhZ ho ha hb).imp λ_ _ _ h=>zh h
theorem XC{op:CmpOp}{g:DV->DV->M DV}(ho:P2 X (compareOp op) g)(ha:DE X a fa)(hb:DE X b fb)(hm:behindInMarks op b=false):DE X (.Compare a [op] [b] pos) (Qk g fa fb) :=
 (Qel ho ha hb hm).imp λ_ _ _ h=>zh h
def asB:DV->M Bool
 | .bl b=>pure b
 | _=>failure
def eB(f:DEx):DTx:=λenv=>do asB (<- f env)
theorem Yk{d:DV}{c:Bool}{hp hp':Hs}(h:asB d hp=some (c,hp')):d=.bl c/\hp=hp':=by
 cases d with
 | bl b=>obtain⟨rfl,rfl⟩:=Ql h;exact⟨rfl,rfl⟩
 | _=>cases h
theorem RepV.blI{K:Aa}{b:Bool}{v:V}(h:RepV K ρ B H (.bl b) v):v=.bl b:=by unfold RepV at h;exact h
theorem RepV.intI{K:Aa}{b:Int}{v:V}(h:RepV K ρ B H (.int b) v):v=.int b:=by unfold RepV at h;exact h
theorem RepV.strI{K:Aa}{b:Str}{v:V}(h:RepV K ρ B H (.str b) v):v=.str b:=by unfold RepV at h;exact h
theorem RepV.nonI{K:Aa}{v:V}(h:RepV K ρ B H .non v):v=.non:=by unfold RepV at h;exact h
theorem RepV.tupI{K:Aa}{B:Er}{v:V}(h:RepV K ρ B H (.tup ds) v):∃a xs,v=.ref a/\¬ B a/\SqT K H a xs/\RepL K ρ B H ds xs:=by unfold RepV at h;exact h
theorem RepV.lstI{K:Aa}{B:Er}{v:V}(h:RepV K ρ B H (.lst ds) v):∃a xs,v=.ref a/\¬ B a/\SqL K H a xs/\RepL K ρ B H ds xs:=by unfold RepV at h;exact h
theorem RepV.refI{K:Aa}{ρ:Es}{i:Nat}{v:V}(h:RepV K ρ B H (.ref i) v):∃a,v=.ref a/\ρ[i]?=some a:=by unfold RepV at h;exact h
section
variable{K:Aa}{ρ:Es}{B:Er}{H:Hp}
theorem Xq{b:Bool}:RepV K ρ B H (.bl b) (.bl b):=by unfold RepV;rfl
theorem Jh{b:Int}:RepV K ρ B H (.int b) (.int b):=by unfold RepV;rfl
theorem zT:RepV K ρ B H .non .non:=by unfold RepV;rfl
theorem zU{a:Addr}(h1:¬ B a)(h2:SqT K H a xs)(h3:RepL K ρ B H ds xs):RepV K ρ B H (.tup ds) (.ref a):=by unfold RepV;exact⟨a,xs,rfl,h1,h2,h3⟩
theorem Gq{a:Addr}(h1:¬ B a)(h2:SqL K H a xs)(h3:RepL K ρ B H ds xs):RepV K ρ B H (.lst ds) (.ref a):=by unfold RepV;exact⟨a,xs,rfl,h1,h2,h3⟩
end
theorem zg{e:Expr}(h:DE X e f)(he:∀whole,isTrue e X.env whole=(do let v <- whole;standAt e.pos;holding [v] (truthy v)):=by intro _;rfl):DT X e (eB f) :=
 (QgI h he).imp λσ H Q zz1=>by
  obtain⟨Z,env,ρ,B,hp,d,hp',S,e,k⟩:=zz1;obtain⟨x,hp1,e1,e2⟩:=Qg e;obtain⟨rfl,rfl⟩:=Yk e2;exact tD.run S e1 λv ρ1 B1 H1 g1 S1 r1=>⟨d,r1.blI,k ρ1 B1 H1 g1 S1.wo⟩
theorem QV{op:CmpOp}{g:DV->DV->M DV}(ho:P2 X (compareOp op) g)(ha:DE X a fa)(hb:DE X b fb)(hm:behindInMarks op b=false):DT X (.Compare a [op] [b] pos) (eB (Qk g fa fb)) :=
 (QeB ho ha hb hm).imp λσ H Q zz1=>by
  obtain⟨Z,env,ρ,B,hp,d,hp',S,e,k⟩:=zz1;obtain⟨x,hp1,e1,e2⟩:=Qg e;obtain⟨rfl,rfl⟩:=Yk e2;exact zh (tD.run S e1 λv ρ1 B1 H1 g1 S1 r1=>⟨d,r1.blI,k ρ1 B1 H1 g1 S1.wo⟩)
def X5(f g:DTx):DTx:=λenv=>do if <- f env then g env else pure false
def eOr(f g:DTx):DTx:=λenv=>do if <- f env then pure true else g env
def Xe(f:DTx):DTx:=λenv=>do let b <- f env;pure (!b)
def Xv(f g:DEx):DEx:=λenv=>do if <- asB (<- f env) then g env else pure (.bl false)
def Y8(f g:DEx):DEx:=λenv=>do if <- asB (<- f env) then pure (.bl true) else g env
def Ym(f:DEx):DEx:=λenv=>do let b <- asB (<- f env);pure (.bl (!b))
def eIf(c:DTx)(f g:DEx):DEx:=λenv=>do if <- c env then f env else g env
theorem tDT.run{K:Aa}{f:DTx}{Z:Ent}{d:Bool}{Q:Bool->Hp->Prop}(S:SOk K Z env σ ρ B hp H)(e:f env hp=some (d,hp1))
  (k:∀ρ' B' H',Gr K ρ B H ρ' B' H'->SOk K Z env σ ρ' B' hp1 H'->Q d H'):tDT K f σ H Q :=
 ⟨Z,env,ρ,B,hp,d,hp1,S,e,λρ' B' H' g W=>k ρ' B' H' g (S.grow g W)⟩
variable{ca cb:DTx}{rest:List Expr}
def Vf(h:DT X a ca):DW X (.BoolOp .And [a] pos) ca:=QeG h
def xZ(h:DT X a ca):DW X (.BoolOp .Or [a] pos) ca:=QgL h
theorem KS(ha:DT X a ca)(hb:DW X (.BoolOp .And (b::rest) pos) cb):DW X (.BoolOp .And (a::b::rest) pos) (X5 ca cb) :=
  (QgK ha hb).imp λσ H Q zz1=>by
    obtain⟨Z,env,ρ,B,hp,d,hp',S,e,k⟩:=zz1;obtain⟨x,hp1,e1,e2⟩:=Qg e;refine tDT.run S e1 λρ1 B1 H1 g1 S1=>?_;cases x with
    | true=>exact K6 (tDT.run S1 e2 λρ2 B2 H2 g2 S2=>k ρ2 B2 H2 (g1.trans g2) S2.wo)
    | false =>
      obtain⟨rfl,rfl⟩:=Ql e2;exact K5 (k ρ1 B1 H1 g1 S1.wo)
theorem VC(ha:DT X a ca)(hb:DW X (.BoolOp .Or (b::rest) pos) cb):DW X (.BoolOp .Or (a::b::rest) pos) (eOr ca cb) :=
  (Qh3 ha hb).imp λσ H Q zz1=>by
    obtain⟨Z,env,ρ,B,hp,d,hp',S,e,k⟩:=zz1;obtain⟨x,hp1,e1,e2⟩:=Qg e;refine tDT.run S e1 λρ1 B1 H1 g1 S1=>?_;cases x with
    | false=>exact K5 (tDT.run S1 e2 λρ2 B2 H2 g2 S2=>k ρ2 B2 H2 (g1.trans g2) S2.wo)
    | true =>
      obtain⟨rfl,rfl⟩:=Ql e2;exact K6 (k ρ1 B1 H1 g1 S1.wo)
def DW.pt(h:DW X e f):DT X e f:=h _
theorem ze(h:DT X a ca):DT X (.UnaryOp .Not a pos) (Xe ca) :=
 (QgH h).imp λσ H Q zz1=>by
  obtain⟨Z,env,ρ,B,hp,d,hp',S,e,k⟩:=zz1;obtain⟨x,hp1,e1,e2⟩:=Qg e;obtain⟨rfl,rfl⟩:=Ql e2;exact tDT.run S e1 λρ1 B1 H1 g1 S1=>k ρ1 B1 H1 g1 S1.wo
def Vv{op:BoolOp}(h:DE X a fa):DE X (.BoolOp op [a] pos) fa:=Qgu h
theorem uE(ha:DE X a fa)(hb:DE X (.BoolOp .And (b::rest) pos) fb):DE X (.BoolOp .And (a::b::rest) pos) (Xv fa fb) :=
  (Qgp ha hb).imp λσ H Q zz1=>by
    obtain⟨Z,env,ρ,B,hp,d,hp',S,e,k⟩:=zz1;obtain⟨x,hp1,e1,e2⟩:=Qg e;obtain⟨c,hp2,e3,e4⟩:=Qg e2;obtain⟨rfl,rfl⟩:=Yk e3;refine tD.run S e1 λv ρ1 B1 H1 g1 S1 r1=>⟨c,r1.blI,?_⟩;cases c with
    | true=>exact K6 (tD.run S1 e4 λv ρ2 B2 H2 g2 S2 r2=>k v ρ2 B2 H2 (g1.trans g2) S2.wo r2)
    | false =>
      obtain⟨rfl,rfl⟩:=Ql e4;exact K5 (k _ ρ1 B1 H1 g1 S1.wo Xq)
theorem QbG(ha:DE X a fa)(hb:DE X (.BoolOp .Or (b::rest) pos) fb):DE X (.BoolOp .Or (a::b::rest) pos) (Y8 fa fb) :=
  (Qh0 ha hb).imp λσ H Q zz1=>by
    obtain⟨Z,env,ρ,B,hp,d,hp',S,e,k⟩:=zz1;obtain⟨x,hp1,e1,e2⟩:=Qg e;obtain⟨c,hp2,e3,e4⟩:=Qg e2;obtain⟨rfl,rfl⟩:=Yk e3;refine tD.run S e1 λv ρ1 B1 H1 g1 S1 r1=>⟨c,r1.blI,?_⟩;cases c with
    | false=>exact K5 (tD.run S1 e4 λv ρ2 B2 H2 g2 S2 r2=>k v ρ2 B2 H2 (g1.trans g2) S2.wo r2)
    | true =>
      obtain⟨rfl,rfl⟩:=Ql e4;exact K6 (k _ ρ1 B1 H1 g1 S1.wo Xq)
theorem QfM(ha:DE X a fa):DE X (.UnaryOp .Not a pos) (Ym fa) :=
 (Qgt ha).imp λσ H Q zz1=>by
  obtain⟨Z,env,ρ,B,hp,d,hp',S,e,k⟩:=zz1;obtain⟨x,hp1,e1,e2⟩:=Qg e;obtain⟨c,hp2,e3,e4⟩:=Qg e2;obtain⟨rfl,rfl⟩:=Yk e3;obtain⟨rfl,rfl⟩:=Ql e4;exact tD.run S e1 λv ρ1 B1 H1 g1 S1 r1=>⟨c,r1.blI,k _ ρ1 B1 H1 g1 S1.wo Xq⟩
theorem Qfg(hc:DT X c ca)(ha:DE X a fa)(hb:DE X b fb):DE X (.IfExp c a b pos) (eIf ca fa fb) :=
 (QcK hc ha hb).imp λσ H Q zz1=>by
  obtain⟨Z,env,ρ,B,hp,d,hp',S,e,k⟩:=zz1;obtain⟨x,hp1,e1,e2⟩:=Qg e;refine tDT.run S e1 λρ1 B1 H1 g1 S1=>?_;cases x with
  | true=>exact K6 (tD.run S1 e2 λv ρ2 B2 H2 g2 S2 r2=>k v ρ2 B2 H2 (g1.trans g2) S2.wo r2)
  | false=>exact K5 (tD.run S1 e2 λv ρ2 B2 H2 g2 S2 r2=>k v ρ2 B2 H2 (g1.trans g2) S2.wo r2)
def Qn:DAx:=λ_=>pure []
def Qc(f:DEx)(g:DAx):DAx:=λenv=>do let x <- f env;let xs <- g env;pure (x::xs)
theorem tDA.run{K:Aa}{f:DAx}{Z:Ent}{Q:List V->Hp->Prop}(S:SOk K Z env σ ρ B hp H)(e:f env hp=some (ds,hp1))
  (k:∀vs ρ' B' H',Gr K ρ B H ρ' B' H'->SOk K Z env σ ρ' B' hp1 H'->RepL K ρ' B' H' ds vs->Q vs H'):tDA K f σ H Q :=
 ⟨Z,env,ρ,B,hp,ds,hp1,S,e,λvs ρ' B' H' g W r=>k vs ρ' B' H' g (S.grow g W) r⟩
theorem Qm:DA X [] Qn:=pa_nil.imp λσ H Q zz1=>by
 obtain⟨Z,env,ρ,B,hp,ds,hp',S,e,k⟩:=zz1;obtain⟨rfl,rfl⟩:=Ql e;exact k [] ρ B H Gr.refl S.wo RepL.nil
theorem Qd{e:Expr}{es:List Expr}(ha:DE X e f)(hr:DA X es g)(hs:starEach (e::es) X.env=(false,eval e X.env)::starEach es X.env:=by rfl):DA X (e::es) (Qc f g) :=
 (Gm ha hr hs).imp λσ H Q zz1=>by
  obtain⟨Z,env,ρ,B,hp,ds,hp',S,e,k⟩:=zz1;obtain⟨x,hp1,e1,e2⟩:=Qg e;obtain⟨xs,hp2,e3,e4⟩:=Qg e2;obtain⟨rfl,rfl⟩:=Ql e4;exact tD.run S e1 λv ρ1 B1 H1 g1 S1 r1=>tDA.run S1 e3 λvs ρ2 B2 H2 g2 S2 r2=>k _ ρ2 B2 H2 (g1.trans g2) S2.wo (RepL.cons (RepV.grow S1.wo.rb g2 _ _ r1) r2)
def lim:Nat:=100000
theorem Gg:lim<=sizeLine:=by decide
def Qy(c:Bool):M Unit:=if c then pure () else failure
theorem QL{c:Bool}{hp hp':Hs}{u:Unit}(h:Qy c hp=some (u,hp')):c=true/\hp=hp':=by
 cases c with
 | true=>obtain⟨_,rfl⟩:=Ql (show(pure ():M Unit) hp=some (u,hp') from h);exact⟨rfl,rfl⟩
 | false=>cases h
def YM(ds:List DV):Bool:=decide (ds.length<=lim)
def zH{ds:List DV}(h:YM ds=true):ds.length<=sizeLine:=Bk (Eh h) Gg
def ZE(f:DAx):DEx:=λenv=>do let xs <- f env;Qy (YM xs);pure (.tup xs)
def Xl(f:DAx):DEx:=λenv=>do let xs <- f env;Qy (YM xs);pure (.lst xs)
theorem j7{K:Aa}{H:Hp}{Q:VK}(W:WOk K ρ B hp H)(r:RepL K ρ B H ds xs)(k:Fol K ρ B H (.tup ds) hp Q):∀p,H p=none->Q (.ref p) (upd H p (.tup xs)):=λp hp' =>
 k _ ρ B _ (Gr.laid hp') (W.laid hp') (zU (λz=>W.bt p z hp') (SqT.of Zg) (RepL.grow W.rb (Gr.laid hp') _ _ r))
theorem j6{K:Aa}{H:Hp}{Q:VK}(W:WOk K ρ B hp H)(r:RepL K ρ B H ds xs)(k:Fol K ρ B H (.lst ds) hp Q):∀p,H p=none->Q (.ref p) (upd H p (.lst xs)):=λp hp' =>
 k _ ρ B _ (Gr.laid hp') (W.laid hp') (Gq (λz=>W.bt p z hp') (SqL.of Zg) (RepL.grow W.rb (Gr.laid hp') _ _ r))
def Fol.after{K:Aa}(g:Gr K ρ B H ρ1 B1 H1)(k:Fol K ρ B H d hp' Q):Fol K ρ1 B1 H1 d hp' Q:=λv ρ' B' H' g' W r=>k v ρ' B' H' (g.trans g') W r
theorem Zm{es:List Expr}{x1}(h:DA X es f):DE X (.Tuple es x1 pos) (ZE f) :=
 (Qgw h).imp λσ H Q zz1=>by
  obtain⟨Z,env,ρ,B,hp,d,hp',S,e,k⟩:=zz1;obtain⟨xs,hp1,e1,e2⟩:=Qg e;obtain⟨_,hp2,e3,e4⟩:=Qg e2;obtain⟨hs,rfl⟩:=QL e3;obtain⟨rfl,rfl⟩:=Ql e4;exact tDA.run S e1 λvs ρ1 B1 H1 g1 S1 r1=>⟨by rw[<- r1.length];exact zH hs,j7 S1.wo r1 (k.after g1)⟩
theorem js{es:List Expr}(h:DA X es f):DE X (.List es pos) (Xl f) :=
 (QcL h).imp λσ H Q zz1=>by
  obtain⟨Z,env,ρ,B,hp,d,hp',S,e,k⟩:=zz1;obtain⟨xs,hp1,e1,e2⟩:=Qg e;obtain⟨_,hp2,e3,e4⟩:=Qg e2;obtain⟨hs,rfl⟩:=QL e3;obtain⟨rfl,rfl⟩:=Ql e4;exact tDA.run S e1 λvs ρ1 B1 H1 g1 S1 r1=>⟨by rw[<- r1.length];exact zH hs,j6 S1.wo r1 (k.after g1)⟩
end
end D
namespace L2
open PySem PySem.Spec PyProof.Rows
def XU(X:Cx)(scope:Scope)(cl:List (Str×Addr))(C:Addr)(N:List Str)(s₀:Shared)(H₀:Hp)(ex:Es):Cx where
 prog:=X.prog
 w:=X.w
 K:=X.K
 mg:=X.mg
 O8:=X.O8
 A:=X.A
 N:=N
 s₀:=s₀
 H₀:=H₀
 env:=compEnvC scope cl C X.env
 outer:=X.stack
 stack:=X.stack
 ex:=ex
 fn:=λ_=>false
 calm:=X.calm
 pn:=[]
 xe:=λ_ _=>False
def AllP{α:Type}(P:α->Prop):List α->Prop
 | []=>True
 | x::r=>P x/\AllP P r
theorem AllP.mem{α:Type}{P:α->Prop}:∀{l:List α}{x:α},AllP P l->x∈l->P x
 | [],_,_,h=>nomatch h
 | y::r,x,⟨h1,h2⟩,h=>(Bm.mp h).elim (λe=>e▸h1) λe=>AllP.mem h2 e
def Caps(X:Cx)(scope:Scope)(cl:List (Str×Addr)):List Str->List Nat->Prop
  | [],[]=>True
  | y :: ys, i :: is => X.N[i]? = some y /\ (X.env.kindOf y = some .cell ∨ X.env.kindOf y = some .free) /\ (∃c, cl.lookup y = some c) /\
      (relabel scope X.env).names.lookup y≠some .local/\Caps X scope cl ys is
  | _,_=>False
theorem Caps.get{cl:List (Str×Addr)}:∀{ys:List Str}{is:List Nat}{j:Nat}{y:Str},Caps X scope cl ys is->ys[j]?=some y ->
    ∃i,is[j]?=some i/\X.N[i]?=some y/\(X.env.kindOf y=some .cell∨X.env.kindOf y=some .free)/\(∃c,cl.lookup y=some c)/\(relabel scope X.env).names.lookup y≠some .local
  | [],_,_,_,_,h=>by simp at h
  | y::ys,[],_,_,h,_=>by simp[Caps] at h
  | y::ys,i::is,0,z,⟨h1,h2,h3,h4,_⟩,h=>by simp at h;subst h;exact⟨i,rfl,h1,h2,h3,h4⟩
  | y::ys,i::is,j+1,z,⟨_,_,_,_,h5⟩,h=>by
    obtain⟨k,a,b⟩:=Caps.get h5 (by simpa using h)
    exact⟨k,by simpa using a,b⟩
theorem Caps.length{cl:List (Str×Addr)}:∀{ys:List Str}{is:List Nat},Caps X scope cl ys is->ys.length=is.length
 | [],[],_=>rfl
 | [],_::_,h=>by simp[Caps] at h
 | _::_,[],h=>by simp[Caps] at h
 | _::ys,_::is,⟨_,_,_,_,h⟩=>by simp[Caps.length h]
structure GK(X:Cx)(x:Str)(scope:Scope)(cl:List (Str×Addr))(caps:List Str)(idx:List Nat):Prop where
 clos:closureFor scope X.env=pure cl
 cell:∀y∈scope.names,y.2≠.cell
 kind:scope.kind=.function
 names:∀y∈scope.names,y.2=.local->scope.names.lookup y.1=some .local
 hx:scope.names.lookup x=some .local
 cls:AllP (λp:Str×Addr=>X.env.cells.lookup p.1=some p.2) cl
 has:((relabel scope X.env).names.all λp=>!(p.2==.cell||p.2==.free)||(cl.lookup p.1).isSome)=true
 cps:Caps X scope cl caps idx
 nd:(x::caps).Nodup
def cσ(idx:List Nat)(σ:St)(o:Option V):St:=o::idx.map λi=>(σ[i]?).join
def PTs(X:Cx)(ifs:List Expr)(t:TT):Prop :=
  ∀(O9 : List (Addr × Obj))(s : Shared)(σ : St)(H : Hp)(Q : Bool -> Hp -> Prop), Inv X O9 σ H s -> t σ H Q ->
    wpAny (model X.prog X.w) X.A (forIn ifs true λc r=>if r=true then do let ok <- isTrue c X.env (eval c X.env);pure (ForInStep.yield ok) else pure (ForInStep.yield r)) (TP X O9 σ Q) X.xe s
def QeC:PTs X [] (λ_ H Q=>Q true H):=λO9 s σ H Q I h=>wpAny_tests_nil ⟨H,I,h⟩
def QeD{t:TT}(h:PT X c t):PTs X [c] t:=λO9 s σ H Q I q=>wpAny_tests_one (h O9 s σ H Q I q)
section
variable{prog:Program}{w:World}{A:Around}{R:Result->Shared->Prop}{s:Shared}
theorem KN{elt target iter:Expr}{ifs:List Expr}{scope:Scope}{pos:Pos}{it acc:Value}{env:Env}(I:Nat->Shared->Prop)
    (turn:∀n s,I n s->wpAny (model prog w) A (pyNext it) (λr s₁=>match r with
      | none=>R (.ok .next) s₁
      | some v=>wpAny (model prog w) A (letOwnedTupleGo target it v) (λ_ s₁'=>wpAny (model prog w) A (assign target env v) (λ_ s₂ =>
          wpAny (model prog w) A (forIn ifs true λc r=>if r=true then do let ok <- isTrue c env (eval c env);pure (ForInStep.yield ok) else pure (ForInStep.yield r)) (λok s₃ =>
            if ok=true then wpAny (model prog w) A (eval elt env) (λx s₄ =>
              wpAny (model prog w) A (call (.builtin "list.append") [acc,x]) (λ_ s₅=>∃m,m < n/\I m s₅) (λ_ _=>False) s₄) (λ_ _=>False) s₃
            else ∃m,m < n/\I m s₃) (λ_ _=>False) s₂) (λ_ _=>False) s₁') (λ_ _=>False) s₁) (λ_ _=>False) s)
    (n:Nat) (h:I n s) :
    codeAny (model prog w) A (.compLoop (.ListComp elt [⟨target,iter,ifs,0⟩] scope pos) 0 it acc env) R s:=by
  refine codeAny_loop rfl I (λn s hI=>?_) n h;show wpAny _ A ((compTurn (.ListComp elt [⟨target,iter,ifs,0⟩] scope pos) 0 it acc env).onRaise (λx=>do noteFrame x env;theTreesLotGoes x)) _ _ s
  refine wpAny_noted ?_;rw[compTurn_list];refine Ea (wpAny_standAt (Ea (wpAny_mono (turn n s hI) (λr s₁ h₁=>?_) λ_ _ h'=>h'.elim)));cases r with
  | none=>exact Ed h₁
  | some v =>
    refine Ea (wpAny_mono h₁ (λ_ s₁' h₁'=>?_) λ_ _ h'=>h'.elim);refine Ea (wpAny_mono h₁' (λ_ s₂ h₂=>Ea (wpAny_mono h₂ (λok s₃ h₃=>?_) λ_ _ h'=>h'.elim)) λ_ _ h'=>h'.elim);cases ok with
    | false=>exact Ed ⟨rfl,h₃⟩
    | true =>
      exact Ea (Ea (wpAny_mono h₃ (λx s₄ h₄=>Ea (wpAny_mono h₄ (λ_ s₅ h₅=>Ed (Ed ⟨rfl,h₅⟩)) λ_ _ h'=>h'.elim)) λ_ _ h'=>h'.elim))
end
def Qai(K:Aa)(wi:TI)(tt:TT)(te:TE)(idx:List Nat):TE:=λσ H Q=>wi σ H λJ H1=>∀D,H1 D=none->K.lookup D=none->∃W:Nat->Nat->List V->Hp->Prop,(∃m,W 0 m [] (upd H1 D (.lst []))) /\
  ∀i m ys H, W i m ys H -> H D = some (.lst ys) /\ ((J.stop i H /\ Q (.ref D) H) ∨ (J.go i H /\ ∀x H', J.yld i H x H' -> tt (cσ idx σ (some x)) H' λb H2 =>
    if b=true then te (cσ idx σ (some x)) H2 λy H3=>H3 D=some (.lst ys)/\ys.length < sizeLine/\∃m',m' < m/\W (i+1) m' (ys++[y]) (upd H3 D (.lst (ys++[y])))
    else ∃m',m' < m/\W (i+1) m' ys H2))
section
variable{X:Cx}{elt iter:Expr}{x:Str}{px:Pos}{ifs:List Expr}{scope:Scope}{cl:List (Str×Addr)}{pos:Pos}{caps:List Str}{idx:List Nat}{wi:TI}{tt:TT}{te:TE}
theorem GZ{E:Ek}{use:Option (Value->Sem Unit)}{QQ:Ek}{newpos:Pos}(S:GK X x scope cl caps idx)(hc:X.calm=true)(hi:PI X (.Name x px) iter wi)
    (ht:∀C s₀ H₀ ex,PTs (XU X scope cl C (x::caps) s₀ H₀ ex) ifs tt) (he:∀C s₀ H₀ ex,PE (XU X scope cl C (x::caps) s₀ H₀ ex) elt te)
    {O9:Em} {s:Shared} {σ:St} {H:Hp} {Q:VK} (I:Inv X O9 σ H s) (h:Qai X.K wi tt te idx σ H Q)
    (hE:X.xe=E)
    (hend:∀(D C:Addr)(H':Hp)(s':Shared)(m:Eo),Inv X O9 σ H' s'->Q (.ref D) H'->s'.heap.Ns C m->H' C=none->C≠X.env.locals->X.s₀.heap.objs.size<=C->(∀x c,X.env.cells.lookup x=some c->c≠C)->(∀p∈X.pn++O9,p.1≠C) ->
      compPost (model X.prog X.w) X.A E use QQ (.ref D) C (.ok .next) s')
    (hs:∀x,foldedSetIterable iter X.env x=pure x:=by intro _;rfl) :
    wpAny (model X.prog X.w) X.A (comprehension (.ListComp elt [⟨.Name x px,iter,ifs,0⟩] scope pos) scope X.env newpos (newList []) false (eval iter X.env) use) QQ E s:=by
  subst hE;refine wpAny_comprehension_free (use:=use) rfl hs S.clos S.kind S.names (thn (hi O9 s σ H _ I h) λxv s1 h1=>thn h1 λitv s2 h2=>?_);obtain⟨it,fp,tn,J,H2,rfl,I2,T,st2,f2,hQ⟩:=h2;refine wpAny_newObj_type (wpAny_newFunctionEnv S.cell (by intro y hy;simp at hy) (λh₁ hns₁ hsb₁=>?_) S.kind)
  dsimp only at hns₁ hsb₁ ⊢;generalize hH2:s2.heap.push { cls:=.type "list", dict:=none,data:=.seq ([]:List Value).toArray }=hp3 at hns₁ hsb₁ ⊢;have hC:hp3.objs.size=s2.heap.objs.size+1:=by rw[<- hH2,Co]
  have keep3:∀b o,s2.heap.get? b=some o->hp3.get? b=some o:=λb o e=>hH2▸Ae _ e;have hDf:H2 s2.heap.objs.size=none:=I2.hok.fresh (Ag _);have I3:Inv X O9 σ (upd H2 s2.heap.objs.size (.lst [])) { s2 with heap:=hp3 } :=
    I2.laid (t':=s2.toks) keep3 (Ag _) ⟨Bf _,[],_,.nil,hH2▸Aw _ rfl⟩
  have hDk:X.K.lookup s2.heap.objs.size=none:=by
    cases q:X.K.lookup s2.heap.objs.size with
    | none=>rfl
    | some o=>exact absurd (Aq (I2.kIn _ o q)) (Cy _)
  obtain⟨W,⟨m0,w0⟩,turn⟩:=hQ _ hDf hDk;generalize hDd:s2.heap.objs.size=D at *;generalize hCc:hp3.objs.size=C at *;have ltC:∀b o,hp3.get? b=some o->b≠C:=λb o e=>by rw[<- hCc];exact Bh (Aq e)
  have keep4:∀b o,hp3.get? b=some o->h₁.get? b=some o:=λb o e=>hsb₁.extBut b o (ltC b o e) (Ae _ e);have s3sz:({ s2 with heap:=hp3 }:Shared).heap.objs.size=C:=hCc;have clE:∀y c,cl.lookup y=some c->X.env.cells.lookup y=some c:=λy c e=>S.cls.mem (PySem.mem_of_lookup e);have fpLt:∀b∈fp,∃o,s2.heap.get? b=some o:=λb hb=>let ⟨o,e,_⟩:=T.obj _ _ st2 b hb;⟨o,e⟩;have fpC:∀b∈fp,b≠C:=λb hb=>let ⟨o,e⟩:=fpLt b hb;ltC b o (keep3 b o e);have fpD:∀b∈fp,b≠D:=λb hb=>let ⟨o,e⟩:=fpLt b hb;by rw[<- hDd];exact Bh (Aq e)
  have fr3:∀b∈fp,(upd H2 D (.lst [])) b=none:=λb hb=>by rw[Q4 (fpD b hb)];exact(f2 b hb).1
  have cellLt:∀y c,X.env.cells.lookup y=some c->c≠C:=λy c e=>let ⟨v,o,ho,_⟩:=I3.cell y c e;ltC c o ho;have fpStk:∀b∈fp,b∉frs X.stack:=λb hb z=>(Bm.mp (I2.stkSub b z)).elim (f2 b hb).2.1 (f2 b hb).2.2.1
  let X':=XU X scope cl C (x::caps) { s2 with heap:=hp3 } (upd H2 D (.lst [])) fp
  have ok':X'.Ok:=by
    refine⟨I3.ok.mod,by show(relabel scope X.env).kind=_;exact S.kind,I3.ok.glob,I3.ok.blt,by show hp3.objs.size<=C;rw[hCc];exact Ag _,λy z c h1 h2=>I3.ok.inj y z c (clE y c h1) (clE z c h2),λy hy=>?_,
      λy c z=>(by cases z),I3.ok.hd,I3.ok.frames,.inl rfl,λb hb=>⟨fpC b hb,λy c e=>(f2 b hb).2.2.2.2.1 y c (clE y c e)⟩,I3.bs,Bk I3.ok.bsz I3.sz,
      λb o e hb=>?_,λb hb=>fpStk b hb,I3.stack,I3.stkFree⟩
    . have hy':(relabel scope X.env).names.lookup y=some .cell∨(relabel scope X.env).names.lookup y=some .free:=hy
      have q:=S.has;rw[List.all_eq_true] at q;have:(cl.lookup y).isSome=true:=by
        rcases hy' with z | z
        . have q:=q _ (PySem.mem_of_lookup z);simpa using q
        . have q:=q _ (PySem.mem_of_lookup z);simpa using q
      exact Option.isSome_iff_exists.mp this
    . have:=(f2 b hb).2.2.2.1
      have e3:=(I2.ok.bs b o e).1;rcases this with z | z
      . exact I2.ok.noex b o e z
      . exact absurd (Az (Aq e3) z) (Cy _)
  have capsLen:=S.cps.length;have I4:Inv X' [] (cσ idx σ none) (upd H2 D (.lst [])) { s2 with heap:=h₁,toks:=s2.toks+([]:List (Str×Value)).length }:=by
    refine⟨ok',rfl,I3.bare,Un.kept keep4,⟨_,hns₁,λi y v e1 e2 e3=>?_⟩,λy c e=>?_,?_,λy c e=>I3.freeC y c (clE y c e),λp hp=>absurd (show p∈([]:Em) from hp) (by simp),I3.hok.kept keep4,?_⟩
    . cases i with
      | zero=>exact absurd e2 (by simp[cσ])
      | succ j =>
        obtain⟨k,h1,h2,h3,⟨c,h4⟩,h5⟩:=S.cps.get (show caps[j]?=some y by have e1':(x::caps)[j+1]?=some y:=e1;simpa using e1')
        have e2':(σ[k]?).join=some v:=by simpa [cσ,h1] using e2
        have e2'':σ[k]?=some (some v):=by
          cases q:σ[k]? with
          | none=>rw[q] at e2';cases e2'
          | some z=>rw[q] at e2';exact congrArg some e2'
        obtain⟨mL,hnL,hl⟩:=I3.loc;have vis:Vis X.env.scope y:=by rcases h3 with z | z;exact .inr (.inl z);exact .inr (.inr z)
        obtain⟨u,r,l⟩:=hl k y v h2 e2'' vis;refine⟨u,r,.inr ⟨?_,c,h4,?_⟩⟩
        . have e3':(relabel scope X.env).names.lookup y=some .local∨(relabel scope X.env).names.lookup y=some .cell∨(relabel scope X.env).names.lookup y=some .free:=e3
          rcases e3' with z | z | z
          . exact absurd z h5
          . exact .inl z
          . exact .inr z
        . rcases l with ⟨z,_⟩ | ⟨_,c',e,z⟩
          . rcases h3 with q | q <;> · rw[q] at z;cases z
          . rw[clE y c h4] at e;cases e
            obtain⟨o,ho,hd⟩:=z;exact⟨o,keep4 _ _ ho,hd⟩
    . obtain⟨v,o,ho,hd⟩:=I3.cell y c (clE y c e)
      exact⟨v,o,keep4 _ _ ho,hd⟩
    . exact I3.hok.fresh (by show hp3.objs.size<=C;rw[hCc];exact Ag _)
    . simp[cσ,X',XU,capsLen]
  have st4:tn 0 h₁:=T.keep _ _ _ st2 λb _ o e=>keep4 b o (keep3 b o e);have fpX:∀{H':Hp}{pins':Em},(∀b∈fp,H' b=none)->(pins'=[])->∀b∈fp,Uu X' pins' H' b:=λhn e b hb=>by
    subst e;exact⟨hn b hb,fpC b hb,fpStk b hb,.inl hb,λy c e=>(f2 b hb).2.2.2.2.1 y c (clE y c e),λp hp=>absurd (show p∈([]:Em) from hp) (by simp)⟩
  have loop:∀s₃:Shared,s₃={ s2 with heap:=h₁,toks:=s2.toks+([]:List (Str×Value)).length } ->
      codeAny (model X.prog X.w) X.A (.compLoop (.ListComp elt [⟨.Name x px,iter,ifs,0⟩] scope pos) 0 (.ref it) (.ref D) (compEnvC scope cl C X.env)) (compPost (model X.prog X.w) X.A X.xe use QQ (.ref D) C) s₃:=by
    rintro s₃ rfl;refine KN (λn s'=>∃i o H' ys,Inv X' [] (cσ idx σ o) H' s'/\tn i s'.heap/\(∀b∈fp,H' b=none)/\W i n ys H') ?_ m0 ⟨0,none,_,[],I4,st4,fr3,w0⟩;rintro n s5 ⟨i,o,H5,ys,I5,st5,fr5,w5⟩;obtain⟨hD,tw⟩:=turn i n ys H5 w5;rcases tw with ⟨stop,q⟩ | ⟨go,step⟩
    . refine thn (T.done X' rfl rfl rfl hc i [] s5 _ H5 _ I5 (fpX fr5 rfl) st5 stop) λr s6 ⟨hr,I6⟩=>?_
      subst hr;obtain⟨m6,hn6,_⟩:=I6.loc;have I7:Inv X O9 σ H5 s6:=I3.call' (s':=s6) (ch:=fp) I6.os I6.O8 I6.hok I6.bare λb hb=>⟨(f2 b hb).2.2.2.1,(f2 b hb).2.1,(f2 b hb).2.2.2.2.1,(f2 b hb).2.2.2.2.2⟩;refine hend D C H5 s6 m6 I7 q hn6 I6.free ?_ ?_ cellLt λp hp=>?_
      . rw[<- hCc];exact C8 I3.lt
      . rw[<- hCc];exact I3.sz
      . exact ltC p.1 p.2 (I3.pin p hp).1
    . refine thn (T.item X' rfl rfl rfl hc i [] s5 _ H5 _ I5 (fpX fr5 rfl) st5 go) λr s6 ⟨u,hr,h6⟩=>?_
      subst hr;refine thn h6 λ_ s7 ⟨y,H7,I7,r7,y7,st7,fr7⟩=>?_;have I7':=I7.pinned (fpX fr7 rfl) (T.obj _ _ st7);refine thn (kX (X:=X') (i:=0) S.nd rfl (.inl (lookup_relabel_local S.hx)) (.inr (lookup_relabel_local S.hx)) _ s7 _ H7 y u (λσ' H'=>σ'=cσ idx σ (some y)/\H'=H7) I7' r7 ⟨rfl,rfl⟩) λ_ s8 ⟨σ8,H8,I8,e8,e8'⟩=>?_;subst e8;subst e8';have again:∀{H9:Hp}{s9:Shared}{ys':List V},Inv X' ([]++VV fp s7.heap) (cσ idx σ (some y)) H9 s9->(∃m',m' < n/\W (i+1) m' ys' H9) ->
          ∃m,m < n/\∃i o H' ys,Inv X' [] (cσ idx σ o) H' s9/\tn i s9.heap/\(∀b∈fp,H' b=none)/\W i m ys H':=λ{H9 s9 ys'} I9 ⟨m',hm,w9⟩=>by
        refine⟨m',hm,i+1,some y,H9,ys',I9.unpinned,T.keep _ _ _ st7 λb hb o e=>(I9.pin (b,o) (Ak _ (Ak _ (qE hb e)))).1,λb hb=>?_,w9⟩;obtain⟨o,e,d⟩:=T.obj _ _ st7 b hb;exact(I9.pin (b,o) (Ak _ (Ak _ (qE hb e)))).2.1
      refine thn (ht _ _ _ _ _ s8 _ H8 _ I8 (step y H8 y7)) λok s9 ⟨H9,I9,q9⟩=>?_;cases ok with
      | false=>exact again I9 (by rw[Eb Bz] at q9;exact q9)
      | true =>
        rw[Ec rfl] at q9 ⊢;refine thn (he _ _ _ _ _ s9 _ H9 _ I9 q9) λv s10 zz1=>?_;obtain⟨z,H10,I10,r10,hD10,hlen,m',hm,w10⟩:=zz1;refine thn (Kj (X:=X') _ s10 _ H10 (.ref D) [z] (.ref D) [v] (λ_ H'=>H'=upd H10 D (.lst (ys++[z]))) I10 rfl (.cons r10 .nil) ⟨D,ys,z,rfl,rfl,hD10,hlen,rfl⟩) λ_ s11 ⟨_,H11,I11,_,e11⟩=>?_;subst e11;exact again I11 ⟨m',hm,w10⟩
  exact codeAny_compStart_list (loop _ rfl) (T.self X.A 0 _ _ _ st4 (loop _ rfl))
end
section
variable{X:Cx}{elt iter:Expr}{x:Str}{px:Pos}{ifs:List Expr}{scope:Scope}{cl:List (Str×Addr)}{pos:Pos}{caps:List Str}{idx:List Nat}{wi:TI}{tt:TT}{te:TE}
theorem Qem(S:GK X x scope cl caps idx)(hc:X.calm=true)(hi:PI X (.Name x px) iter wi)
  (ht:∀C s₀ H₀ ex,PTs (XU X scope cl C (x::caps) s₀ H₀ ex) ifs tt) (he:∀C s₀ H₀ ex,PE (XU X scope cl C (x::caps) s₀ H₀ ex) elt te)
  (hs:∀x,foldedSetIterable iter X.env x=pure x:=by intro _;rfl):PE X (.ListComp elt [⟨.Name x px,iter,ifs,0⟩] scope pos) (Qai X.K wi tt te idx):=by
 intro O9 s σ H Q I h;rw[eval_ListComp];refine GZ (use:=none) S hc hi ht he I h rfl (λD C H' s' m I' q hn hC h1 h2 h3 h4=>?_) hs;show ∃m,s'.heap.Ns C m/\∀h',Heap.SameBut C s'.heap h'->EP X O9 σ Q (.ref D) { s' with heap:=h' };exact⟨m,hn,λh' hs=>⟨.ref D,H',I'.turned (t':=s'.toks) (λb o hb e=>hs.extBut b o hb e) hC (Ne.symm (Ne.symm h1)) (.inr h2) h3 h4,rfl,q⟩⟩
theorem Qey{i:Nat}{y:Str}{py spos:Pos}(S:GK X x scope cl caps idx)(hc:X.calm=true)(hi:PI X (.Name x px) iter wi)
  (ht:∀C s₀ H₀ ex,PTs (XU X scope cl C (x::caps) s₀ H₀ ex) ifs tt) (he:∀C s₀ H₀ ex,PE (XU X scope cl C (x::caps) s₀ H₀ ex) elt te)
  (hN:X.N.Nodup) (hy:X.N[i]?=some y) (hx:Loc X.env.scope y) (hsw:swapsWith (.ListComp elt [⟨.Name x px,iter,ifs,0⟩] scope pos) (some (.Name y py)) spos.line X.env=pure true)
  (hf:X.fn y=true∨X.env.scope.names.lookup y=some .local:=by first | exact .inl rfl | exact .inr rfl | assumption)
  (hs:∀x,foldedSetIterable iter X.env x=pure x:=by intro _;rfl):PS X (.Assign [.Name y py] (.ListComp elt [⟨.Name x px,iter,ifs,0⟩] scope pos) spos) (QeZ (Qai X.K wi tt te idx) (kD i)):=by
 intro O9 s σ H D I h;rw[exec_Assign_Name_used _ _ _ _ hsw];refine Ea (wpAny_standAt (Ea ?_));show wpAny _ X.A (do let _ <- comprehension (.ListComp elt [⟨.Name x px,iter,ifs,0⟩] scope pos) scope X.env _ (newList []) false (eval iter X.env) (some (assign (.Name y py) X.env))) _ _ s
 refine Ea (wpAny_mono (GZ (use:=some (assign (.Name y py) X.env)) (QQ:=λ_ s'=>SP X O9 D .next s') S hc hi ht he I h rfl (λDa C H' s' m I' q hn hC h1 h2 h3 h4=>?_) hs) (λ_ s' hq=>Ed (Ed hq)) λ_ _ e=>e);show wpAny _ X.A (assign (.Name y py) X.env (.ref Da)) (λ_ s''=>∃m,s''.heap.Ns C m/\∀h',Heap.SameBut C s''.heap h'->SP X O9 D .next { s'' with heap:=h' }) _ s';refine wpAny_assign_Name (Ky I' hN hy hx (v:=.ref Da) rfl (λs'' I'' ⟨a,hs,ha⟩=>?_) hf);refine⟨m,hn.sameBut hs ?_,λh' hs'=>⟨_,H',I''.turned (t':=s''.toks) (λb o hb e=>hs'.extBut b o hb e) hC h1 (.inr h2) h3 h4,q⟩⟩;rcases ha with rfl | ha
 ·exact h1
 ·exact Ne.symm (h3 _ _ ha)
end
end L2
namespace D
open PySem PySem.Spec PyProof.Rows L2
section
variable{K:Aa}{Z:Ent}{env:En}{σ:St}{ρ ρ':Es}{B B':Er}{hp hp':Hs}{H H':Hp}
theorem SOk.set{i:Nat}(S:SOk K Z env σ ρ B hp H)(r:RepV K ρ B H d v):SOk K Z (env.set i (.val d)) (σ.set i (some v)) ρ B hp H where
 gr:=S.gr
 zb:=S.zb
 wo:=S.wo
 slot:=λj e h=>by
  by_cases hj:j=i
  ·subst hj
   have hl:j < env.length:=by have:=(Ad.mp h).1;simpa using this
   rw[Av hl] at h;cases h;exact⟨v,Av (by rw[S.len];exact hl),r⟩
  ·rw[An (Ne.symm hj)] at h ⊢
   exact S.slot j e h
 accs:=λj ds h=>by
  by_cases hj:j=i
  ·subst hj
   have hl:j < env.length:=by have:=(Ad.mp h).1;simpa using this
   rw[Av hl] at h;cases h
  ·rw[An (Ne.symm hj)] at h ⊢
   exact S.accs j ds h
 adis:=λj k ds es a h1 h2 h3 h4=>by
  have nj:∀{j:Nat}{ds:List DV},(env.set i (.val d))[j]?=some (.acc ds)->j≠i:=λ{j ds} h e=>by
   subst e;have hl:j < env.length:=by have:=(Ad.mp h).1;simpa using this
   rw[Av hl] at h;cases h
  have hj:=nj h1;have hk:=nj h2;rw[An (Ne.symm hj)] at h1 h3;rw[An (Ne.symm hk)] at h2 h4;exact S.adis j k ds es a h1 h2 h3 h4
 len:=by simp[S.len]
end
section
variable{X:Cx}{e a b c:Expr}{f fa fb:DEx}{ca cb:DTx}{pos:Pos}{st:Stmt}{sts rest:List Stmt}{s s':DSx}
theorem FolS.after{K:Aa}{Z:Ent}{fl:Fl}{D:KD}(g:Gs K ρ B H ρ1 B1 H1)(k:FolS K Z ρ B H fl env' hp' D):FolS K Z ρ1 B1 H1 fl env' hp' D :=
 λσ' ρ' B' H' g' S=>k σ' ρ' B' H' (g.trans g') S
def Zi:DSx:=λenv=>pure (.nx,env)
def Qr(f g:DSx):DSx:=λenv=>do
 let r <- f env
 match r.1 with
 | .nx=>g r.2
 | _=>pure r
def sIf(c:DTx)(f g:DSx):DSx:=λenv=>do if <- c env then f env else g env
def QP(f:DEx):DSx:=λenv=>do let d <- f env;pure (.rt d,env)
def zD:DSx:=λenv=>pure (.rt .non,env)
def ZK(f:DEx):DSx:=λenv=>do let _ <- f env;pure (.nx,env)
def QA(i:Nat)(f:DEx):DSx:=λenv=>do let d <- f env;pure (.nx,env.set i (.val d))
def Qh8:DSx:=λenv=>pure (.bk,env)
theorem QR:DSs X [] Zi:=pss_nil.imp λD σ H zz1=>by
 obtain⟨Z,env,ρ,B,hp,fl,env',hp',S,e,k⟩:=zz1;obtain⟨e1,rfl⟩:=Ql e;cases e1;exact k σ ρ B H Gs.refl S
theorem QfP:DS X (.Break pos) Qh8:=ps_break.imp λD σ H zz1=>by
 obtain⟨Z,env,ρ,B,hp,fl,env',hp',S,e,k⟩:=zz1;obtain⟨e1,rfl⟩:=Ql e;cases e1;exact k σ ρ B H Gs.refl S
theorem Qc3{K:Aa}{D:KD}(h:tDS K (Qr s s') D σ H):Qil (tDS K s) (tDS K s') D σ H:=by
 obtain⟨Z,env,ρ,B,hp,fl,env',hp',S,e,k⟩:=h;obtain⟨⟨f1,env1⟩,hp1,e1,e2⟩:=Qg e;refine⟨Z,env,ρ,B,hp,f1,env1,hp1,S,e1,λσ' ρ' B' H' g S'=>?_⟩;cases f1 with
 | nx=>exact⟨Z,env1,ρ',B',hp1,fl,env',hp',S',e2,k.after g⟩
 | rt d=>obtain⟨z,rfl⟩:=Ql e2;cases z;exact k σ' ρ' B' H' g S'
 | bk=>obtain⟨z,rfl⟩:=Ql e2;cases z;exact k σ' ρ' B' H' g S'
 | ct=>obtain⟨z,rfl⟩:=Ql e2;cases z;exact k σ' ρ' B' H' g S'
def Qh(h1:DS X st s)(h2:DSs X rest s'):DSs X (st::rest) (Qr s s'):=(QcS h1 h2).imp λ_ _ _ h=>Qc3 h
def Qq(h1:DS X st s):DSs X [st] s:=QeA h1
theorem Zu{x y:List Stmt}(hc:DT X c ca)(h1:DSs X x s)(h2:DSs X y s'):DS X (.If c x y pos) (sIf ca s s') :=
 (Qh2 hc h1 h2).imp λD σ H zz1=>by
  obtain⟨Z,env,ρ,B,hp,fl,env',hp',S,e,k⟩:=zz1;obtain⟨x,hp1,e1,e2⟩:=Qg e;refine tDT.run S e1 λρ1 B1 H1 g1 S1=>?_;cases x with
  | true=>exact K6 ⟨Z,env,ρ1,B1,hp1,fl,env',hp',S1,e2,k.after (g1.gs S.wo.rb)⟩
  | false=>exact K5 ⟨Z,env,ρ1,B1,hp1,fl,env',hp',S1,e2,k.after (g1.gs S.wo.rb)⟩
theorem Qt(h:DE X e f):DS X (.Return (some e) pos) (QP f) :=
 (QgF h).imp λD σ H zz1=>by
  obtain⟨Z,env,ρ,B,hp,fl,env',hp',S,e,k⟩:=zz1;obtain⟨d,hp1,e1,e2⟩:=Qg e;obtain⟨z,rfl⟩:=Ql e2;cases z;exact tD.run S e1 λv ρ1 B1 H1 g1 S1 r1=>k σ ρ1 B1 H1 (g1.gs S.wo.rb) S1 v r1
theorem Je(h:DE X e f)(hs:swapsWith e none pos.line X.env=pure false:=by rfl):DS X (.Expr e pos) (ZK f) :=
 (Qez h hs).imp λD σ H zz1=>by
  obtain⟨Z,env,ρ,B,hp,fl,env',hp',S,e,k⟩:=zz1;obtain⟨d,hp1,e1,e2⟩:=Qg e;obtain⟨z,rfl⟩:=Ql e2;cases z;exact tD.run S e1 λv ρ1 B1 H1 g1 S1 r1=>k σ ρ1 B1 H1 (g1.gs S.wo.rb) S1
theorem vR{K:Aa}{D:KD}{σ:St}{i:Nat}{t:TE}(ht:∀σ H Q,tD K f σ H Q->t σ H Q)(h:tDS K (QA i f) D σ H):QeZ t (kD i) D σ H:=by
 obtain⟨Z,env,ρ,B,hp,fl,env',hp',S,e,k⟩:=h;obtain⟨d,hp1,e1,e2⟩:=Qg e;obtain⟨z,rfl⟩:=Ql e2;cases z;exact ht _ _ _ (tD.run S e1 λv ρ1 B1 H1 g1 S1 r1=>k _ ρ1 B1 H1 (g1.gs S.wo.rb) (S1.set r1))
theorem Qw(i:Nat){x:Str}{pos':Pos}(hN:X.N.Nodup)(he:DE X e f)(hi:X.N[i]?=some x:=by rfl)(hx:Loc X.env.scope x:=by first | exact Or.inl rfl | exact Or.inr rfl)(hs:swapsWith e (some (.Name x pos')) pos.line X.env=pure false:=by rfl)
  (hf:X.fn x=true∨X.env.scope.names.lookup x=some .local:=by first | exact .inl rfl | exact .inr rfl | assumption):DS X (.Assign [.Name x pos'] e pos) (QA i f) :=
 (QgG hN hi hx he hs hf).imp λ_ _ _ h=>vR (λ_ _ _ q=>q) h
abbrev DGx:=DV->En->M En
def tDG(K:Aa)(g:DGx):TG:=λv σ H Q=>∃Z env ρ B hp d env' hp',SOk K Z env σ ρ B hp H/\RepV K ρ B H d v/\g d env hp=some (env',hp')/\∀σ' ρ' B' H',Gs K ρ B H ρ' B' H'->SOk K Z env' σ' ρ' B' hp' H'->Q σ' H'
def gN(i:Nat):DGx:=λd env=>pure (env.set i (.val d))
theorem YA(i:Nat){x:Str}(hN:X.N.Nodup)(hi:X.N[i]?=some x:=by rfl)(hx:Loc X.env.scope x:=by first | exact Or.inl rfl | exact Or.inr rfl)(hf:X.fn x=true∨X.env.scope.names.lookup x=some .local:=by first | exact .inl rfl | exact .inr rfl | assumption):PG X (.Name x pos) (tDG X.K (gN i)):=by
 intro O9 s σ H v u Q I r h;refine kX hN hi hx hf O9 s σ H v u Q I r ?_;obtain⟨Z,env,ρ,B,hp,d,env',hp',S,rd,e,k⟩:=h;obtain⟨rfl,rfl⟩:=Ql e;exact k _ ρ B H Gs.refl (S.set rd)
def Qaq(K:Aa)(ρ:Es)(B:Er)(H:Hp)(ds:List DV)(J:It):Prop :=
 ∀ρ1 B1 H1,Gs K ρ B H ρ1 B1 H1->(∀b∈ρ1,B1 b)->(∀a,B1 a->H1 a≠none)->(∀(i:Nat)(d:DV),ds[i]?=some d->J.go i H1/\∀x H',J.yld i H1 x H'->RepV K ρ1 B1 H' d x/\(H'=H1∨∃p o,H1 p=none/\H'=upd H1 p o))/\J.stop ds.length H1
abbrev DIx:=En->M (List DV)
def tDI(K:Aa)(f:DIx):TI:=λσ H R=>∃Z env ρ B hp ds hp',SOk K Z env σ ρ B hp H/\f env hp=some (ds,hp')/\∀J ρ' B' H',Gr K ρ B H ρ' B' H'->WOk K ρ' B' hp' H'->Qaq K ρ' B' H' ds J->R J H'
def DI(X:Cx)(tg iter:Expr)(f:DIx):Prop:=PI X tg iter (tDI X.K f)
def gI:DV->M (List DV)
 | .tup ds=>pure ds
 | _=>failure
def iTp(f:DEx):DIx:=λenv=>do gI (<- f env)
theorem yw{d:DV}{hp hp':Hs}(h:gI d hp=some (ds,hp')):d=.tup ds/\hp=hp':=by
 cases d with
 | tup xs=>obtain⟨rfl,rfl⟩:=Ql h;exact⟨rfl,rfl⟩
 | _=>cases h
theorem Qd0{K:Aa}{B:Er}{a:Addr}(nb:¬ B a)(sq:SqL K H a xs)(rl:RepL K ρ B H ds xs):Qaq K ρ B H ds (Itl K a):=λρ1 B1 H1 g _ _=>by
 have sq1:=g.sqL nb sq;have rl1:=RepL.gs g _ _ rl;refine⟨λi d e=>?_,xs,sq1,by rw[rl1.length];exact Ag _⟩
 obtain⟨x,hx,r⟩:=rl1.get e;refine⟨⟨xs,x,sq1,hx⟩,λy H' ⟨e',q⟩=>?_⟩;subst e';have:=q xs sq1;rw[hx] at this;cases this;exact⟨r,.inl rfl⟩
theorem QfV{K:Aa}{B:Er}{a:Addr}(nb:¬ B a)(sq:SqT K H a xs)(rl:RepL K ρ B H ds xs):Qaq K ρ B H ds (Itt K a):=λρ1 B1 H1 g _ _=>by
 have sq1:=g.sqT nb sq;have rl1:=RepL.gs g _ _ rl;refine⟨λi d e=>?_,xs,sq1,by rw[rl1.length];exact Ag _⟩
 obtain⟨x,hx,r⟩:=rl1.get e;refine⟨⟨xs,x,sq1,hx⟩,λy H' ⟨e',q⟩=>?_⟩;subst e';have:=q xs sq1;rw[hx] at this;cases this;exact⟨r,.inl rfl⟩
def Zc(lo:Int)(n:Nat):List DV:=(List.range n).map λ(i:Nat)=>.int (lo+(i:Int))
theorem Qb9{K:Aa}{lo:Int}{n:Nat}:Qaq K ρ B H (Zc lo n) (Itr lo n):=λρ1 B1 H1 g _ _=>by
 refine⟨λi d e=>?_,by show n<=_;simp[Zc]⟩
 have hi:i < n:=by have:=(Ad.mp e).1;simpa [Zc] using this
 refine⟨hi,λy H' ⟨e',q⟩=>?_⟩;subst e' q;have:d=.int (lo+i):=by simp[Zc,hi] at e;exact e.symm
 subst this;exact⟨Jh,.inl rfl⟩
variable{tg iter:Expr}
def _root_.L2.PI.imp{wi wi':TI}(h:PI X tg iter wi)(i:∀σ H R,wi' σ H R->wi σ H R):PI X tg iter wi':=λO9 s σ H R I q=>h O9 s σ H R I (i σ H R q)
theorem QbI(h:DE X iter f):DI X tg iter (iTp f):=(QgA h).imp λσ H R zz1=>by
 obtain⟨Z,env,ρ,B,hp,ds,hp',S,e,k⟩:=zz1;obtain⟨d,hp1,e1,e2⟩:=Qg e;obtain⟨rfl,rfl⟩:=yw e2;refine tD.run S e1 λv ρ1 B1 H1 g1 S1 r1=>?_;obtain⟨a,xs,rfl,nb,sq,rl⟩:=r1.tupI;exact⟨a,rfl,⟨xs,sq⟩,k _ ρ1 B1 H1 g1 S1.wo (QfV nb sq rl)⟩
def Uk(j:Int):Bool:=decide (-(2 ^ 62)<=j/\j < 2 ^ 62)
def Qbe:List DV->M (List DV)
 | [.int j]=>do Qy (Uk j);pure (Zc 0 j.toNat)
 | _=>failure
def VG(f:DAx):DIx:=λenv=>do Qbe (<- f env)
theorem Qbf{ds out:List DV}{hp hp':Hs}(h:Qbe ds hp=some (out,hp')):∃j:Int,ds=[.int j]/\Uk j=true/\out=Zc 0 j.toNat/\hp=hp':=by
 unfold Qbe at h;split at h
 ·obtain⟨u,hp1,e1,e2⟩:=Qg h
  obtain⟨h1,rfl⟩:=QL e1;obtain⟨rfl,rfl⟩:=Ql e2;exact⟨_,rfl,h1,rfl,rfl⟩
 ·cases h
theorem RepL.ints1{K:Aa}{j:Int}{vs:List V}(h:RepL K ρ B H [.int j] vs):vs=[.int j]:=by
 unfold RepL at h;obtain⟨x,r,rfl,h1,h2⟩:=h;unfold RepL at h2;rw[h1.intI,h2]
theorem RepL.ints2{K:Aa}{i j:Int}{vs:List V}(h:RepL K ρ B H [.int i,.int j] vs):vs=[.int i,.int j]:=by
 unfold RepL at h;obtain⟨x,r,rfl,h1,h2⟩:=h;rw[h1.intI,h2.ints1]
theorem Yg{x:Expr}{p:Pos}{f:DAx}(hg:Gl X "range")(hm:X.mg "range" = none)(ha:DA X [x] f)(hs:starEach [x] X.env=[(false,eval x X.env)]:=by rfl):DI X tg (.Call (.Name "range" p) [x] [] pos) (VG f) :=
 (Qbb hg hm ha hs).imp λσ H R zz1=>by
  obtain⟨Z,env,ρ,B,hp,ds,hp',S,e,k⟩:=zz1;obtain⟨d,hp1,e1,e2⟩:=Qg e;obtain⟨j,rfl,h1,rfl,rfl⟩:=Qbf e2;refine tDA.run S e1 λvs ρ1 B1 H1 g1 S1 r1=>?_;have h1':=Eh h1;exact⟨j,r1.ints1,h1'.1,h1'.2,k _ ρ1 B1 H1 g1 S1.wo Qb9⟩
def QbY(b:DV->DSx):List DV->DSx
  | [],env=>pure (.nx,env)
  | d::ds,env=>do
    let r <- b d env
    match r.1 with
    | .nx=>QbY b ds r.2
    | .ct=>QbY b ds r.2
    | .bk=>pure (.nx,r.2)
    | .rt x=>pure (.rt x,r.2)
def Qdn{K:Aa}{B:Er}{H:Hp}{p:Addr}(rb:∀a∈ρ,B a)(h:H p=none):Gs K ρ B H ρ B (upd H p o):=(Gr.laid h).gs rb
def J2(c:DTx)(b:DSx):Nat->DSx
  | 0,_=>failure
  | n+1,env=>do
    if <- c env then
      let r <- b env
      match r.1 with
      | .nx=>J2 c b n r.2
      | .ct=>J2 c b n r.2
      | .bk=>pure (.nx,r.2)
      | .rt x=>pure (.rt x,r.2)
    else pure (.nx,env)
theorem va(n:Nat){body:List Stmt}(hp:PassesOwn (model X.prog X.w) X.A X.env X.xe)(hc:DT X c ca)(hb:DSs X body sb):DS X (.While c body [] pos) (J2 ca sb n) :=
  (QcR hp hc hb).imp λD σ H zz1=>by
    obtain⟨Z,env,ρ,B,hp,fl,env',hp',S,e,k⟩:=zz1;refine⟨λm σ H1=>∃env1 ρ1 B1 hp1,SOk X.K Z env1 σ ρ1 B1 hp1 H1/\Gs X.K ρ B H ρ1 B1 H1/\J2 ca sb m env1 hp1=some ((fl,env'),hp'),⟨n,env,ρ,B,hp,S,Gs.refl,e⟩,?_⟩;rintro m σ H1 ⟨env1,ρ1,B1,hp1,S1,g1,e1⟩;cases m with
    | zero=>cases e1
    | succ m =>
      obtain⟨x,hp2,e2,e3⟩:=Qg e1;refine tDT.run S1 e2 λρ2 B2 H2 g2 S2=>?_;have G2:=g1.trans (g2.gs S1.wo.rb);cases x with
      | false =>
        obtain⟨z,rfl⟩:=Ql e3;cases z;exact K5 (k σ ρ2 B2 H2 G2 S2)
      | true =>
        obtain⟨⟨f1,env4⟩,hp4,e4,e5⟩:=Qg e3;refine K6 ⟨λσ' H'=>∃env1 ρ1 B1 hp1,SOk X.K Z env1 σ' ρ1 B1 hp1 H'/\Gs X.K ρ B H ρ1 B1 H'/\J2 ca sb m env1 hp1=some ((fl,env'),hp'),λσ' H' q=>⟨m,C5 m,q⟩,?_⟩;refine⟨Z,env1,ρ2,B2,hp2,f1,env4,hp4,S2,e4,λσ6 ρ6 B6 H6 g6 S6=>?_⟩;have G6:=G2.trans g6;cases f1 with
        | nx=>exact⟨env4,ρ6,B6,hp4,S6,G6,e5⟩
        | ct=>exact⟨env4,ρ6,B6,hp4,S6,G6,e5⟩
        | bk=>obtain⟨z,rfl⟩:=Ql e5;cases z;exact k σ6 ρ6 B6 H6 G6 S6
        | rt d=>obtain⟨z,rfl⟩:=Ql e5;cases z;exact k σ6 ρ6 B6 H6 G6 S6
end
section
variable{K:Aa}{Z:Ent}{env:En}{σ:St}{ρ ρ':Es}{B B':Er}{hp hp':Hs}{H H':Hp}
def yZ(B:Er)(p:Addr):Addr->Prop:=λa=>B a∨a=p
theorem Gr.banned{p:Addr}(h:H p=none)(kf:K.lookup p=none):Gr K ρ B H ρ (yZ B p) (upd H p o) where
 pre:=Cm
 ban:=λ_ h=>.inl h
 new:=λa z=>z.elim .inl λe=>.inr (e▸⟨h,kf⟩)
 rnew:=λ_ h=>.inl h
 keep:=λa u _ q=>by rw[Q4 (ZB q h)];exact q
 trk:=(Gr.laid (K:=K) (ρ:=ρ) (B:=B) h).trk
theorem WOk.banned{p:Addr}(W:WOk K ρ B hp H)(h:H p=none)(kf:K.lookup p=none):WOk K ρ (yZ B p) hp (upd H p o) where
 len:=W.len
 nd:=W.nd
 obj:=λi a u e q=>ORep.gs ((Gr.banned h kf).gs W.rb) (Q4 (λz=>W.bt a (W.rb a (Ax e)) (z▸h))) (W.obj i a u e q)
 rb:=λa h=>.inl (W.rb a h)
 bt:=λa z q=>by
  have q':=(Gr.laid (K:=K) (ρ:=ρ) (B:=B) h).trk a q;rcases z with z | rfl
  ·exact W.bt a z q'
  ·rw[Zg] at q;cases q
 bk:=λa z=>z.elim (W.bk a) λe=>e▸kf
end
section
variable{X:Cx}{e a b c:Expr}{f fa fb:DEx}{ca cb:DTx}{pos:Pos}{st:Stmt}{sts rest:List Stmt}{s s':DSx}
def V0(i:Nat):DSx:=λenv=>pure (.nx,env.set i (.acc []))
def y6(i:Nat)(env:En):En:=match env[i]? with
 | some (.acc ds)=>env.set i (.val (.lst ds))
 | _=>env
def V2(i:Nat)(f:DSx):DSx:=λenv=>f (y6 i env)
def V1(i:Nat)(f:DEx):DSx:=λenv=>do
 let d <- f env
 match env[i]? with
 | some (.acc ds)=>if ds.length < lim then pure (.nx,env.set i (.acc (ds++[d]))) else failure
 | _=>failure
def Qbz:Sl->Sl
 | .val d=>.val d
 | _=>.un
def cE(idx:List Nat)(env:En)(d:DV):En:=.val d::idx.map λi=>Qbz ((env[i]?).getD .un)
def gH:DTx:=λ_=>pure true
variable{elt iter:Expr}{x:Str}{px:Pos}{ifs:List Expr}{scope:Scope}{cl:List (Str×Addr)}{caps:List Str}{idx:List Nat}{src:DIx}{te:DTx}
theorem cσ_ok{K:Aa}{Z:Ent}(S:SOk K Z env σ ρ B hp H)(g:Gs K ρ B H ρ1 B1 H1)(W:WOk K ρ1 B1 hp1 H1)(r:RepV K ρ1 B1 H1 d v):
    SOk K ⟨ρ1,B1,H1⟩ (cE idx env d) (cσ idx σ (some v)) ρ1 B1 hp1 H1:=by
  refine⟨Gr.refl,W.bt,W,λi e h=>?_,λi es h=>?_,λi j es es' a h=>?_,by simp[cE,cσ]⟩
  . cases i with
    | zero =>
      have:d=e:=by simpa [cE] using h
      subst this;exact⟨v,by simp[cσ],r⟩
    | succ i =>
      cases q:idx[i]? with
      | none=>simp[cE,q] at h
      | some k =>
        have h':Qbz ((env[k]?).getD .un)=.val e:=by simpa [cE,q] using h
        cases z:env[k]? with
        | none=>rw[z] at h';cases h'
        | some sl =>
          rw[z] at h';cases sl with
          | un=>cases h'
          | acc _=>cases h'
          | val e' =>
            have:e'=e:=by simpa [Qbz] using h'
            subst this;obtain⟨u,h1,h2⟩:=S.slot k e' z;exact⟨u,by simp[cσ,q,h1],RepV.gs g _ _ h2⟩
  . exfalso
    cases i with
    | zero=>simp[cE] at h
    | succ i =>
      cases q:idx[i]? with
      | none=>simp[cE,q] at h
      | some k =>
        have h':Qbz ((env[k]?).getD .un)=.acc es:=by simpa [cE,q] using h
        cases z:(env[k]?).getD .un with
        | un=>rw[z] at h';cases h'
        | acc _=>rw[z] at h';cases h'
        | val _=>rw[z] at h';cases h'
  . exfalso
    cases i with
    | zero=>simp[cE] at h
    | succ i =>
      cases q:idx[i]? with
      | none=>simp[cE,q] at h
      | some k =>
        have h':Qbz ((env[k]?).getD .un)=.acc es:=by simpa [cE,q] using h
        cases z:(env[k]?).getD .un with
        | un=>rw[z] at h';cases h'
        | acc _=>rw[z] at h';cases h'
        | val _=>rw[z] at h';cases h'
def DTs(X:Cx)(ifs:List Expr)(t:DTx):Prop:=PTs X ifs (tDT X.K t)
theorem KQ:DTs X [] gH:=λO9 s σ H Q I zz1=>by
 obtain⟨Z,env,ρ,B,hp,d,hp',S,e,k⟩:=zz1;obtain⟨rfl,rfl⟩:=Ql e;exact QeC O9 s σ H Q I (k ρ B H Gr.refl S.wo)
def KR(h:DT X c te):DTs X [c] te:=QeD h
def Q8(n:Nat)(body:DSx):List DV->M DV:=λds=>do
 let r <- body (ds.map .val++List.replicate (n - ds.length) .un)
 match r.1 with
 | .nx=>pure .non
 | .rt d=>pure d
 | _=>failure
def spD(K:Aa)(n:Nat)(F:Et):Sp:=λvs H Q _=>vs.length=n/\∃ρ B hp ds d hp',WOk K ρ B hp H/\RepL K ρ B H ds vs/\F ds hp=some (d,hp')/\Fol K ρ B H d hp' Q
structure Has(P:Program)(w:World)(K:Aa)(mg:Eo)(O8:Heap)(x:Str)(k n:Nat)(F:Et):Prop where
 ex:∃(g:Addr)(fd:FuncData)(ps:List Str),qW P w K mg O8 CX0 k g fd ps (spD K n F)/\Binds K fd ps []/\PySem.W.keepIn K (.ref g)=true/\mg x=some (.ref g)
theorem yr{K:Aa}{N:List Str}(W:WOk K ρ B hp H)(r:RepL K ρ B H ds vs):
  SOk K ⟨ρ,B,H⟩ (ds.map .val++List.replicate (N.length - ds.length) .un) (L2.start N vs) ρ B hp H:=by
 have hl:=r.length;have at_:∀{i:Nat}{z:Sl},(ds.map Sl.val++List.replicate (N.length - ds.length) Sl.un)[i]?=some z->z=.un∨∃d,ds[i]?=some d/\z=.val d:=λ{i z} h=>by
  by_cases hi:i < ds.length
  ·rw[Ai (by simpa using hi),Bv,Ac hi] at h
   cases h;exact .inr ⟨_,Ac hi,rfl⟩
  ·rw[Ar (by simpa using hi),List.getElem?_replicate] at h
   split at h
   ·cases h;exact .inl rfl
   ·cases h
 refine⟨Gr.refl,W.bt,W,λi d h=>?_,λi es h=>?_,λi j es es' a h=>?_,by unfold L2.start;simp;lia⟩
 ·rcases at_ h with z | ⟨d',q,z⟩
  ·cases z
  ·cases z
   obtain⟨v,h1,h2⟩:=r.get q;refine⟨v,?_,h2⟩;unfold L2.start;have hi:i < vs.length:=(Ad.mp h1).1;rw[Ai (by simpa using hi),Bv,h1]
   rfl
 ·rcases at_ h with z | ⟨d',q,z⟩<;>cases z
 ·rcases at_ h with z | ⟨d',q,z⟩<;>cases z
theorem QfR{P:Program}{w:World}{K:Aa}{mg:Eo}{O8:Heap}{x:Str}{g:Addr}{k:Nat}{body:DSx}(F:Fun K x x stm g fd)(Sc:Qs N ps (Qo stm))(hm:mg x=some (.ref g))
  (hb:∀(kV doc pm:Value)(an:Option Addr)(cdv ct:Value)(us:List Value),us.length=ps.length->bindArgs (PySem.W.fnOf x x (JQ stm) (ZH stm) (Qo stm) .none kV doc pm an cdv ct) ⟨us,[]⟩=pure (ps.zip us))
  (h:∀(cdv:Value)(A:Around)(outer:List Env)(s:Shared)(H:Hp)(E:XK),Room k (A.deeper (envOfC x (Qo stm) s.heap.objs.size g cdv))->DSs (y0 CX0 P w K mg O8 N x (Qo stm) g cdv A outer s H E).nox (ZH stm) body) :
  Has P w K mg O8 x (k+1) ps.length (Q8 N.length body):=by
 refine⟨g,fd,ps,F.ok Sc (λvs H Q E h=>h.1) (λcdv A outer s H vs Q E hr sp=>?_),F.binds hb,F.kp,hm⟩;obtain⟨hn,ρ,B,hp,ds,d,hp',W,r,e,k⟩:=sp;obtain⟨⟨fl,env'⟩,hp1,e1,e2⟩:=Qg e;refine⟨_,h cdv A outer s H E hr,⟨ρ,B,H⟩,_,ρ,B,hp,fl,env',hp1,yr W r,e1,λσ' ρ' B' H' g' S'=>?_⟩;cases fl with
 | nx=>obtain⟨rfl,rfl⟩:=Ql e2;exact k .non ρ' B' H' S'.gr S'.wo zT
 | rt x=>obtain⟨rfl,rfl⟩:=Ql e2;exact λv rv=>k v ρ' B' H' S'.gr S'.wo rv
 | bk=>cases e2
 | ct=>cases e2
def QH(n:Nat)(F:Et)(a:DAx):DEx:=λenv=>do
 let ds <- a env
 Qy (decide (ds.length=n))
 F ds
theorem Q0{y:Str}{k j n:Nat}{F:Et}{e:Expr}{es:List Expr}{fa:DAx}{p:Pos}(h:Has X.prog X.w X.K X.mg X.O8 y j n F)(hr:Room k X.A)(hj:j<=k)(hx:YQ CX0 X E0)(ha:DA X (e::es) fa)(hg:Gl X y:=by rfl)
  (hdb:(y==("__debug__" : Str))=false:=by decide) (he:starEach (e::es) X.env=(false,eval e X.env)::starEach es X.env:=by rfl) (hpl:(backTo pos (starEach es X.env)).any (·.1)=false:=by rfl):DE X (.Call (.Name y p) (e::es) [] pos) (QH n F fa):=by
 obtain⟨g,fd,ps,F',hb,hk,hm⟩:=h.ex;refine L2.PE.imp (Qek F' (hr.mono hj) hg hm hk hb .nil hx ha hdb he hpl) λσ H Q zz1=>?_;obtain⟨Z,env,ρ,B,hp,d,hp',S,e,k⟩:=zz1;obtain⟨ds,hp1,e1,e2⟩:=Qg e;obtain⟨_,hp2,e3,e4⟩:=Qg e2;obtain⟨hl,rfl⟩:=QL e3;refine tDA.run S e1 λvs ρ1 B1 H1 g1 S1 r1=>?_;refine⟨by rw[Bu,<- r1.length];exact Eh hl,ρ1,B1,hp1,ds,d,hp',S1.wo,by rw[Bu];exact r1,e4,k.after g1⟩
end
section
variable{X:Cx}{e a b c:Expr}{f fa fb fc:DEx}{ca cb:DTx}{pos:Pos}
def qA(C:Int->Int->Bool)(g:Int->Int->DV):DV->DV->M DV
 | .int i,.int j=>if C i j then pure (g i j) else failure
 | _,_=>failure
theorem ya{C:Int->Int->Bool}{g:Int->Int->DV}{x y d:DV}{hp hp':Hs}(h:qA C g x y hp=some (d,hp')):∃i j,x=.int i/\y=.int j/\C i j=true/\d=g i j/\hp=hp':=by
 unfold qA at h;split at h
 ·rename_i i j
  by_cases hc:C i j=true
  ·rw[Ec hc] at h
   obtain⟨rfl,rfl⟩:=Ql h;exact⟨i,j,rfl,rfl,hc,rfl,rfl⟩
  ·rw[Eb hc] at h;cases h
 ·cases h
theorem VT{g:Value->Value->Sem Value}{C:Int->Int->Bool}{P:Int->Int->Prop}{q:Int->Int->Int}(ho:OpR X g (rI P λi j=>.int (q i j)))(hC:∀i j,C i j=true->P i j):P2 X g (qA C λi j=>.int (q i j)):=by
 intro O9 s σ H x y v u Q I rx ry h;refine ho O9 s σ H x y v u Q I rx ry ?_;obtain⟨ρ,B,hp,dx,dy,d,hp',W,r1,r2,e,k⟩:=h;obtain⟨i,j,rfl,rfl,hc,rfl,rfl⟩:=ya e;exact⟨i,j,r1.intI,r2.intI,hC i j hc,k _ ρ B H Gr.refl W Jh⟩
theorem Qei{g:Value->Value->Sem Value}{q:Int->Int->Int}(ho:OpR X g (rI0 λi j=>.int (q i j))):P2 X g (qA (λ_ _=>true) λi j=>.int (q i j)):=by
 intro O9 s σ H x y v u Q I rx ry h;refine ho O9 s σ H x y v u Q I rx ry ?_;obtain⟨ρ,B,hp,dx,dy,d,hp',W,r1,r2,e,k⟩:=h;obtain⟨i,j,rfl,rfl,hc,rfl,rfl⟩:=ya e;exact⟨i,j,r1.intI,r2.intI,k _ ρ B H Gr.refl W Jh⟩
theorem Vj{g:Value->Value->Sem Value}{q:Int->Int->Bool}(ho:OpR X g (rI0 λi j=>.bl (q i j))):P2 X g (qA (λ_ _=>true) λi j=>.bl (q i j)):=by
 intro O9 s σ H x y v u Q I rx ry h;refine ho O9 s σ H x y v u Q I rx ry ?_;obtain⟨ρ,B,hp,dx,dy,d,hp',W,r1,r2,e,k⟩:=h;obtain⟨i,j,rfl,rfl,hc,rfl,rfl⟩:=ya e;exact⟨i,j,r1.intI,r2.intI,k _ ρ B H Gr.refl W Xq⟩
def Qhi(i j:Int):Bool:=decide ((-(2 ^ 64) < i/\i < 2 ^ 64)∨(-(2 ^ 64) < j/\j < 2 ^ 64))
def Qhf(_ j:Int):Bool:=decide (0 < j/\j < 1073741824)
def Qhh(_ j:Int):Bool:=decide (0 < j)
def Qix(i j:Int):Bool:=decide (0<=j/\j<=1000000/\i.natAbs < 2 ^ 64)
def qU:DV->DV->M DV:=qA (λ_ _=>true) λi j=>.int (i - j)
def Qa1:DV->DV->M DV:=qA Qhi λi j=>.int (i * j)
def Yv:DV->DV->M DV:=qA Qhf λi j=>.int (i / j)
def XN:DV->DV->M DV:=qA Qhh λi j=>.int (i % j)
def YW:DV->DV->M DV:=qA Qix λi j=>.int (i ^ j.toNat)
def ltD:DV->DV->M DV:=qA (λ_ _=>true) λi j=>.bl (decide (i < j))
def leD:DV->DV->M DV:=qA (λ_ _=>true) λi j=>.bl (decide (i<=j))
def gtD:DV->DV->M DV:=qA (λ_ _=>true) λi j=>.bl (decide (j < i))
def geD:DV->DV->M DV:=qA (λ_ _=>true) λi j=>.bl (decide (j<=i))
def jh:P2 X (binaryOp .Sub) qU:=Qei Qgk
def Qfv:P2 X (binaryOp .Mult) Qa1:=VT Qgi λi j h=>Eh (p:=(-(2 ^ 64) < i/\i < 2 ^ 64)∨(-(2 ^ 64) < j/\j < 2 ^ 64)) h
def xq:P2 X (binaryOp .FloorDiv) Yv:=VT Qee λi j h=>Eh (p:=0 < j/\j < 1073741824) h
def qd:P2 X (binaryOp .Mod) XN:=VT Qgh λ_ _ h=>Eh h
def yI:P2 X (binaryOp .Pow) YW:=VT Qgj λi j h=>Eh (p:=0<=j/\j<=1000000/\i.natAbs < 2 ^ 64) h
def Vc:P2 X (compareOp .Lt) ltD:=Vj QhR
def Qej:P2 X (compareOp .LtE) leD:=Vj QhQ
def Gk:P2 X (compareOp .Gt) gtD:=Vj QhP
def QhT:P2 X (compareOp .GtE) geD:=Vj QhO
def QhM:DV->M DV
 | .int i=>pure (.int (-i))
 | _=>failure
def qR(f:DEx):DEx:=λenv=>do QhM (<- f env)
theorem QbF(h:DE X a f):DE X (.UnaryOp .USub a pos) (qR f):=L2.PE.imp (Qh1 Qg0 h) λσ H Q zz1=>by
 obtain⟨Z,env,ρ,B,hp,d,hp',S,e,k⟩:=zz1;obtain⟨x,hp1,e1,e2⟩:=Qg e;refine tD.run S e1 λv ρ1 B1 H1 g1 S1 r1=>?_;cases x with
 | int i=>obtain⟨rfl,rfl⟩:=Ql e2;exact⟨i,r1.intI,k _ ρ1 B1 H1 g1 S1.wo Jh⟩
 | _=>cases e2
theorem QcG:OpR X (binaryOp .Add) (λx y H Q=>∃a b ys,x=.ref a/\y=.ref b/\SqT X.K H a []/\SqT X.K H b ys/\ys.length<=sizeLine/\Q (.ref b) H):=by
 intro O9 s σ H x y v u Q I rx ry h;obtain⟨a,b,ys,rfl,rfl,ha,hb,hz,q⟩:=h;cases rx;cases ry;obtain⟨its,r1,p1,_⟩:=I.tuple ha;obtain⟨its2,r2,p2,_⟩:=I.tuple hb;obtain⟨m,F⟩:=I.fr;have z:its=[]:=by cases r1;rfl
 subst z;exact add_tuples F (Qcz (g:=X.O8) (L:=X.env.locals)) p1 p2 (λ_=>⟨.ref b,H,I,rfl,q⟩) (λn=>absurd rfl n) (λn=>absurd rfl n) (by have:=r2.length;simp;lia)
def ZL:DV->DV->M DV
 | .int i,.int j=>pure (.int (i+j))
 | .tup xs,.tup ys=>do Qy (YM (xs++ys));pure (.tup (xs++ys))
 | .lst xs,.lst ys=>do Qy (YM (xs++ys));pure (.lst (xs++ys))
 | _,_=>failure
theorem QeJ:OpR X (binaryOp .Add) (λx y H Q=>∃l b xs zs,x=.ref l/\y=.ref b/\SqL X.K H l xs/\SqL X.K H b zs/\xs.length+zs.length<=sizeLine/\∀p,H p=none->Q (.ref p) (upd H p (.lst (xs++zs)))):=by
 intro O9 s σ H x y v u Q I rx ry h;obtain⟨l,b,xs,zs,rfl,rfl,hl,hb,hz,q⟩:=h;cases rx;cases ry;obtain⟨its,r1,⟨⟨k1,dd1,da1,sl1⟩,n1,e1,c1,d1,s1⟩,_⟩:=I.list hl;obtain⟨its2,r2,⟨⟨k2,dd2,da2,sl2⟩,n2,e2,c2,d2,s2⟩,_⟩:=I.list hb;simp only at c1 d1 s1 c2 d2 s2;subst c1 d1 s1 c2 d2 s2;have ea:its.toArray++its2.toArray=(its++its2).toArray:=by simp
 have hz':its.length+its2.length<=sizeLine:=by rw[<- r1.length,<- r2.length];exact hz
 refine concat_meets (T := "list") ⟨_,e1,rfl⟩ ⟨_,e2,rfl⟩ noFill_list_add seq_list_add PySem.F.slot_list_add PySem.F.entry_list_add (PySem.F.args_list_add_2 _ _) (list_addW l b its.toArray its2.toArray n1 n2 none none sl1 sl2 (by simpa using hz')) ⟨e1,e2,?_⟩
 rw[ea];exact⟨.ref _,_,I.lnew (t':=s.toks) (r1.append r2) (by rw[Ao];exact hz),rfl,q _ I.fresh⟩
theorem JD:P2 X (binaryOp .Add) ZL:=by
 intro O9 s σ H x y v u Q I rx ry h;obtain⟨ρ,B,hp,dx,dy,d,hp',W,r1,r2,e,k⟩:=h;unfold ZL at e;split at e
 ·obtain⟨rfl,rfl⟩:=Ql e
  exact Qgf O9 s σ H x y v u Q I rx ry ⟨_,_,r1.intI,r2.intI,k _ ρ B H Gr.refl W Jh⟩
 ·rename_i xs ys
  obtain⟨_,hp1,e1,e2⟩:=Qg e;obtain⟨hs,rfl⟩:=QL e1;obtain⟨rfl,rfl⟩:=Ql e2;obtain⟨a,vs,rfl,n1,q1,l1⟩:=r1.tupI;obtain⟨b,ws,rfl,n2,q2,l2⟩:=r2.tupI;have hz:vs.length+ws.length<=sizeLine:=by
   have:=zH hs;rw[Ao] at this;rw[<- l1.length,<- l2.length];exact this
  by_cases hv:vs=[]
  ·subst hv
   have:xs=[]:=by have:=l1.length;cases xs with | nil=>rfl | cons _ _=>simp at this
   subst this;exact QcG O9 s σ H _ _ v u Q I rx ry ⟨a,b,ws,rfl,rfl,q1,q2,by simp at hz;exact hz,k _ ρ B H Gr.refl W (zU n2 q2 l2)⟩
  ·refine Qed O9 s σ H _ _ v u Q I rx ry ⟨a,b,vs,ws,rfl,rfl,q1,q2,hv,hz,λhw=>?_,λhw=>j7 W (RepL.append l1 l2) k⟩
   subst hw;have:ys=[]:=by have:=l2.length;cases ys with | nil=>rfl | cons _ _=>simp at this
   subst this;rw[Bu] at k;exact k _ ρ B H Gr.refl W (zU n1 q1 l1)
 ·rename_i xs ys
  obtain⟨_,hp1,e1,e2⟩:=Qg e;obtain⟨hs,rfl⟩:=QL e1;obtain⟨rfl,rfl⟩:=Ql e2;obtain⟨a,vs,rfl,n1,q1,l1⟩:=r1.lstI;obtain⟨b,ws,rfl,n2,q2,l2⟩:=r2.lstI;have hz:vs.length+ws.length<=sizeLine:=by
   have:=zH hs;rw[Ao] at this;rw[<- l1.length,<- l2.length];exact this
  exact QeJ O9 s σ H _ _ v u Q I rx ry ⟨a,b,vs,ws,rfl,rfl,q1,q2,hz,j6 W (RepL.append l1 l2) k⟩
 ·cases e
def isN:DV->Bool
 | .non=>true
 | _=>false
theorem kJ{K:Aa}{v:V}(r:RepV K ρ B H d v):decide (v=.non)=isN d:=by
 cases d with
 | non=>rw[r.nonI];rfl
 | bl b=>rw[r.blI];rfl
 | int b=>rw[r.intI];rfl
 | str b=>rw[r.strI];rfl
 | tup b=>obtain⟨a,xs,rfl,_⟩:=r.tupI;rfl
 | lst b=>obtain⟨a,xs,rfl,_⟩:=r.lstI;rfl
 | ref b=>obtain⟨a,rfl,_⟩:=r.refI;rfl
def isD:DV->DV->M DV
 | x,.non=>pure (.bl (isN x))
 | .bl p,.bl q=>pure (.bl (p==q))
 | _,_=>failure
def yb:DV->DV->M DV
 | x,.non=>pure (.bl (!isN x))
 | .bl p,.bl q=>pure (.bl (p != q))
 | _,_=>failure
theorem UN:P2 X (compareOp .Is) isD:=by
 intro O9 s σ H x y v u Q I rx ry h;obtain⟨ρ,B,hp,dx,dy,d,hp',W,r1,r2,e,k⟩:=h;unfold isD at e;split at e
 ·obtain⟨rfl,rfl⟩:=Ql e
  refine Qgg O9 s σ H x y v u Q I rx ry ⟨r2.nonI,?_⟩;rw[kJ r1];exact k _ ρ B H Gr.refl W Xq
 ·obtain⟨rfl,rfl⟩:=Ql e
  obtain rfl:=r1.blI;obtain rfl:=r2.blI;cases rx;cases ry;exact is_bool ⟨.bl _,H,I,rfl,k _ ρ B H Gr.refl W Xq⟩
 ·cases e
theorem Kl:P2 X (compareOp .IsNot) yb:=by
 intro O9 s σ H x y v u Q I rx ry h;obtain⟨ρ,B,hp,dx,dy,d,hp',W,r1,r2,e,k⟩:=h;unfold yb at e;split at e
 ·obtain⟨rfl,rfl⟩:=Ql e
  refine Qeg O9 s σ H x y v u Q I rx ry ⟨r2.nonI,?_⟩;rw[kJ r1];exact k _ ρ B H Gr.refl W Xq
 ·obtain⟨rfl,rfl⟩:=Ql e
  obtain rfl:=r1.blI;obtain rfl:=r2.blI;cases rx;cases ry;exact isnot_bool ⟨.bl _,H,I,rfl,k _ ρ B H Gr.refl W Xq⟩
 ·cases e
theorem KI{K:Aa}{i:Int}(r:RepL K ρ B H ds xs)(h:atI ds i=some d):∃x,atI xs i=some x/\RepV K ρ B H d x:=by
  unfold atI at h ⊢;rw[<- r.length];cases q:ixN ds.length i with
  | none=>rw[q] at h;cases h
  | some j =>
    rw[q] at h;exact r.get h
def ixD:DV->DV->M DV
  | .tup ds,.int i=>match atI ds i with
    | some d=>pure d
    | none=>failure
  | .lst ds,.int i=>match atI ds i with
    | some d=>pure d
    | none=>failure
  | _,_=>failure
theorem QhU:IxR X (tP2 X.K ixD):=by
  intro value slice O9 s σ H x y v u Q I rx ry h hsub;obtain⟨ρ,B,hp,dx,dy,d,hp',W,r1,r2,e,k⟩:=h;unfold ixD at e;split at e
  . rename_i ds i
    cases q:atI ds i with
    | none=>rw[q] at e;cases e
    | some d' =>
      rw[q] at e;obtain⟨rfl,rfl⟩:=Ql e;obtain⟨a,xs,rfl,n1,q1,l1⟩:=r1.tupI;obtain⟨z,hz,rz⟩:=KI l1 q;exact QfY value slice O9 s σ H _ _ v u Q I rx ry ⟨a,xs,i,z,rfl,r2.intI,q1,hz,k _ ρ B H Gr.refl W rz⟩ hsub
  . rename_i ds i
    cases q:atI ds i with
    | none=>rw[q] at e;cases e
    | some d' =>
      rw[q] at e;obtain⟨rfl,rfl⟩:=Ql e;obtain⟨a,xs,rfl,n1,q1,l1⟩:=r1.lstI;obtain⟨z,hz,rz⟩:=KI l1 q;exact kM value slice O9 s σ H _ _ v u Q I rx ry ⟨a,xs,i,z,rfl,r2.intI,q1,hz,k _ ρ B H Gr.refl W rz⟩ hsub
  . cases e
theorem JG(ha:DE X a fa)(hb:DE X b fb)(hs:KF b:=by intro _ _;rfl):DE X (.Subscript a b pos) (Qk ixD fa fb):=L2.PE.imp (Qfw QhU ha hb hs) λ_ _ _ h=>zh h
end
mutual
def toP:DV->PyData
 | .non=>.none
 | .bl b=>.bool b
 | .int i=>.int i
 | .str x=>.str x
 | .tup xs=>.tuple (toPs xs)
 | .lst xs=>.list (toPs xs)
 | .ref _=>.none
def toPs:List DV->List PyData
 | []=>[]
 | d::ds=>toP d::toPs ds
end
mutual
def Kk:DV->Bool
 | .ref _=>false
 | .tup xs=>noRefs xs
 | .lst xs=>noRefs xs
 | _=>true
def noRefs:List DV->Bool
 | []=>true
 | d::ds=>Kk d&&noRefs ds
end
section
variable{X:Cx}{O9:Em}{σ:St}{H:Hp}{s:Shared}{ρ:Es}{B:Er}
mutual
theorem VZ(I:Inv X O9 σ H s):∀(d:DV)(v:V)(u:Value),RepV X.K ρ B H d v->RelV v u->Kk d=true->∃as,Reads s.heap u (toP d) as
  | .non,_,_,r,ru,_=>by obtain rfl:=r.nonI;cases ru;exact⟨[],by unfold toP;exact .none⟩
  | .bl b,_,_,r,ru,_=>by obtain rfl:=r.blI;cases ru;exact⟨[],by unfold toP;exact .bool b⟩
  | .int i,_,_,r,ru,_=>by obtain rfl:=r.intI;obtain⟨t,rfl⟩:=ru;exact⟨[],by unfold toP;exact .int i t⟩
  | .str x,_,_,r,ru,_=>by obtain rfl:=r.strI;obtain⟨t,rfl⟩:=ru;exact⟨[],by unfold toP;exact .str x t⟩
  | .ref _,_,_,_,_,n=>by cases n
  | .tup ds,_,_,r,ru,n=>by
    obtain⟨a,xs,rfl,_,sq,rl⟩:=r.tupI;cases ru;obtain⟨its,rv,⟨o,e,hc,k,hd⟩,_⟩:=I.tuple sq;obtain⟨as,q⟩:=reads_all I ds xs its rl rv (by unfold Kk at n;exact n)
    exact⟨_,by unfold toP;exact reads_tuple_at e hc hd (by simpa using q)⟩
  | .lst ds,_,_,r,ru,n=>by
    obtain⟨a,xs,rfl,_,sq,rl⟩:=r.lstI;cases ru;obtain⟨its,rv,⟨o,k,e,hc,_,hd⟩,_⟩:=I.list sq;obtain⟨as,q⟩:=reads_all I ds xs its rl rv (by unfold Kk at n;exact n)
    exact⟨_,by unfold toP;exact reads_list_at e hc hd (by simpa using q)⟩
theorem reads_all(I:Inv X O9 σ H s):∀(ds:List DV)(xs:List V)(us:List Value),RepL X.K ρ B H ds xs->Vals xs us->noRefs ds=true->∃as,ReadsAll s.heap us (toPs ds) as
  | [],_,_,r,ru,_=>by unfold RepL at r;subst r;cases ru;exact⟨[],by unfold toPs;exact .nil⟩
  | d::ds,_,_,r,ru,n=>by
    unfold RepL at r;obtain⟨x,xs,rfl,r1,r2⟩:=r;cases ru with
    | cons q1 q2 =>
      unfold noRefs at n;rw[Be] at n;obtain⟨as,h1⟩:=VZ I d x _ r1 q1 n.1;obtain⟨bs,h2⟩:=reads_all I ds xs _ r2 q2 n.2;exact⟨_,by unfold toPs;exact .cons h1 h2⟩
end
end
def okP(d:DV):Bool:=Kk d&&SeqAt.shaped (toP d)
def eqD:DV->DV->M DV:=λx y=>do Qy (okP x&&okP y);pure (.bl (PyData.eqv (toP x) (toP y)))
def neD:DV->DV->M DV:=λx y=>do Qy (okP x&&okP y);pure (.bl (!PyData.eqv (toP x) (toP y)))
section
variable{X:Cx}{e a b c:Expr}{f fa fb fc:DEx}{ca cb:DTx}{pos:Pos}
theorem Qa4(hu:X.A.units+64 < cLine):P2 X (compareOp .Eq) eqD:=by
 intro O9 s σ H x y v u Q I rx ry h;obtain⟨ρ,B,hp,dx,dy,d,hp',W,r1,r2,e,k⟩:=h;obtain⟨_,hp1,e1,e2⟩:=Qg e;obtain⟨hs,rfl⟩:=QL e1;obtain⟨rfl,rfl⟩:=Ql e2;simp only[okP,Be] at hs;obtain⟨as,q1⟩:=VZ I dx x v r1 rx hs.1.1;obtain⟨bs,q2⟩:=VZ I dy y u r2 ry hs.2.1;exact eq_dataH q1 q2 hs.1.2 hs.2.2 hu ⟨.bl _,H,I,rfl,k _ ρ B H Gr.refl W Xq⟩
def tPn(K:Aa)(g:Et):List V->Hp->VK->Prop:=λxs H Q=>∃ρ B hp ds d hp',WOk K ρ B hp H/\RepL K ρ B H ds xs/\g ds hp=some (d,hp')/\Fol K ρ B H d hp' Q
def Zd(g:Et)(a:DAx):DEx:=λenv=>do g (<- a env)
theorem vc{K:Aa}{g:Et}{fa:DAx}{σ:St}{H:Hp}{Q:VK}(h:tD K (Zd g fa) σ H Q):tCB (tPn K g) (tDA K fa) σ H Q:=by
 obtain⟨Z,env,ρ,B,hp,d,hp',S,e,k⟩:=h;obtain⟨ds,hp1,e1,e2⟩:=Qg e;exact tDA.run S e1 λvs ρ1 B1 H1 g1 S1 r1=>⟨ρ1,B1,hp1,ds,d,hp',S1.wo,r1,e2,k.after g1⟩
theorem ZR{x:Str}{id:String}{g:Et}{e:Expr}{es:List Expr}{fa:DAx}{p:Pos}(hc:JY X (.builtin id) (tPn X.K g))(hm:X.mg x=none)(hv:bootBuiltins x=some (.builtin id))(ha:DA X (e::es) fa)(hg:Gl X x:=by rfl)(hn:x ≠ "__name__" := by decide)(hdb:(x==("__debug__" : Str))=false:=by decide)
  (he:starEach (e::es) X.env=(false,eval e X.env)::starEach es X.env:=by rfl) (hpl:(backTo pos (starEach es X.env)).any (·.1)=false:=by rfl):DE X (.Call (.Name x p) (e::es) [] pos) (Zd g fa) :=
 L2.PE.imp (QcJ hc hg hm hv ha hn hdb he hpl) λ_ _ _ h=>vc h
theorem G7{x:Str}{T:String}{g:Et}{e:Expr}{es:List Expr}{fa:DAx}{p:Pos}(hc:JY X (.type T) (tPn X.K g))(hm:X.mg x=none)(hv:bootBuiltins x=some (.type T))(ha:DA X (e::es) fa)(hg:Gl X x:=by rfl)(hn:x ≠ "__name__" := by decide)(hdb:(x==("__debug__" : Str))=false:=by decide)
  (he:starEach (e::es) X.env=(false,eval e X.env)::starEach es X.env:=by rfl) (hpl:(backTo pos (starEach es X.env)).any (·.1)=false:=by rfl):DE X (.Call (.Name x p) (e::es) [] pos) (Zd g fa) :=
 L2.PE.imp (Qa7 hc hg hm hv ha hn hdb he hpl) λ_ _ _ h=>vc h
theorem RepL.oneI{K:Aa}{vs:List V}(h:RepL K ρ B H [d] vs):∃v,vs=[v]/\RepV K ρ B H d v:=by
 unfold RepL at h;obtain⟨x,r,rfl,h1,h2⟩:=h;unfold RepL at h2;subst h2;exact⟨x,rfl,h1⟩
def qC:List DV->M DV
 | [.tup ds]=>pure (.int ds.length)
 | [.lst ds]=>pure (.int ds.length)
 | _=>failure
theorem gY:JY X (.builtin "len") (tPn X.K qC):=by
 intro O9 s σ H xs us Q I r h;obtain⟨ρ,B,hp,ds,d,hp',W,rl,e,k⟩:=h;unfold qC at e;split at e
 ·obtain⟨rfl,rfl⟩:=Ql e
  obtain⟨v,rfl,rv⟩:=rl.oneI;obtain⟨a,ys,rfl,_,sq,l⟩:=rv.tupI;exact qy O9 s σ H _ us Q I r ⟨a,ys,rfl,.inr sq,by rw[<- l.length];exact k _ ρ B H Gr.refl W Jh⟩
 ·obtain⟨rfl,rfl⟩:=Ql e
  obtain⟨v,rfl,rv⟩:=rl.oneI;obtain⟨a,ys,rfl,_,sq,l⟩:=rv.lstI;exact qy O9 s σ H _ us Q I r ⟨a,ys,rfl,.inl sq,by rw[<- l.length];exact k _ ρ B H Gr.refl W Jh⟩
 ·cases e
def Qd6:List DV->M DV
 | [.int i,.int j]=>pure (.int (if j < i then j else i))
 | _=>failure
def Qd5:List DV->M DV
 | [.int i,.int j]=>pure (.int (if j > i then j else i))
 | _=>failure
theorem Qhm(hc:X.calm=true):JY X (.builtin "min") (tPn X.K Qd6):=by
 intro O9 s σ H xs us Q I r h;obtain⟨ρ,B,hp,ds,d,hp',W,rl,e,k⟩:=h;unfold Qd6 at e;split at e
 ·obtain⟨rfl,rfl⟩:=Ql e
  exact QaA hc O9 s σ H xs us Q I r ⟨_,_,rl.ints2,k _ ρ B H Gr.refl W Jh⟩
 ·cases e
theorem Qhl(hc:X.calm=true):JY X (.builtin "max") (tPn X.K Qd5):=by
 intro O9 s σ H xs us Q I r h;obtain⟨ρ,B,hp,ds,d,hp',W,rl,e,k⟩:=h;unfold Qd5 at e;split at e
 ·obtain⟨rfl,rfl⟩:=Ql e
  exact Qaz hc O9 s σ H xs us Q I r ⟨_,_,rl.ints2,k _ ρ B H Gr.refl W Jh⟩
 ·cases e
def Qb6:List DV->M DV
 | [.int i]=>pure (.int i)
 | [.bl k]=>pure (.int (if k then 1 else 0))
 | _=>failure
theorem Qhk:JY X (.type "int") (tPn X.K Qb6):=by
 intro O9 s σ H xs us Q I r h;obtain⟨ρ,B,hp,ds,d,hp',W,rl,e,k⟩:=h;unfold Qb6 at e;split at e
 ·obtain⟨rfl,rfl⟩:=Ql e
  exact U3 O9 s σ H xs us Q I r (.inl ⟨_,rl.ints1,k _ ρ B H Gr.refl W Jh⟩)
 ·obtain⟨rfl,rfl⟩:=Ql e
  obtain⟨v,rfl,rv⟩:=rl.oneI;obtain rfl:=rv.blI;exact U3 O9 s σ H _ us Q I r (.inr ⟨_,rfl,k _ ρ B H Gr.refl W Jh⟩)
 ·cases e
def QgX:List DV->M DV
 | [.lst ds]=>pure (.tup ds)
 | [.tup ds]=>pure (.tup ds)
 | _=>failure
theorem QdK:JY X (.type "tuple") (tPn X.K QgX):=by
 intro O9 s σ H xs us Q I r h;obtain⟨ρ,B,hp,ds,d,hp',W,rl,e,k⟩:=h;unfold QgX at e;split at e
 ·obtain⟨rfl,rfl⟩:=Ql e
  obtain⟨v,rfl,rv⟩:=rl.oneI;obtain⟨a,ys,rfl,_,sq,l⟩:=rv.lstI;exact YS O9 s σ H _ us Q I r ⟨a,ys,rfl,.inl ⟨sq,j7 W l k⟩⟩
 ·obtain⟨rfl,rfl⟩:=Ql e
  obtain⟨v,rfl,rv⟩:=rl.oneI;obtain⟨a,ys,rfl,nb,sq,l⟩:=rv.tupI;exact YS O9 s σ H _ us Q I r ⟨a,ys,rfl,.inr ⟨sq,k _ ρ B H Gr.refl W (zU nb sq l)⟩⟩
 ·cases e
def Xk(g g':DV->DV->M DV)(fa fb fc:DEx):DEx:=λenv=>do
 let x <- fa env
 let y <- fb env
 let z <- g x y
 if <- asB z then
  let u <- fc env
  g' y u
 else pure (.bl false)
end
section
variable{X:Cx}{e a b c:Expr}{f fa fb fc:DEx}{ca cb:DTx}{pos:Pos}
theorem uI{K:Aa}{g g':DV->DV->M DV}(h:tD K (Xk g g' fa fb fc) σ H Q):Qdh (tP2 K g) (tP2 K g') (tD K fa) (tD K fb) (tD K fc) σ H Q:=by
  obtain⟨Z,env,ρ,B,hp,d,hp',S,e,k⟩:=h;obtain⟨x,hp1,e1,e⟩:=Qg e;obtain⟨y,hp2,e2,e⟩:=Qg e;obtain⟨z,hp3,e3,e⟩:=Qg e;obtain⟨t,hp4,e4,e⟩:=Qg e;obtain⟨rfl,rfl⟩:=Yk e4;refine tD.run S e1 λv ρ1 B1 H1 g1 S1 r1=>tD.run S1 e2 λu ρ2 B2 H2 g2 S2 r2=>?_;refine⟨ρ2,B2,hp2,x,y,_,_,S2.wo,RepV.grow S1.wo.rb g2 _ _ r1,r2,e3,λw ρ3 B3 H3 g3 W3 r3=>⟨t,r3.blI,?_⟩⟩;have S3:=S2.grow g3 W3;cases t with
  | false =>
    obtain⟨rfl,rfl⟩:=Ql e;exact K5 (k _ ρ3 B3 H3 (g1.trans (g2.trans g3)) W3 Xq)
  | true =>
    obtain⟨q,hp5,e5,e6⟩:=Qg e;refine K6 (tD.run S3 e5 λp ρ4 B4 H4 g4 S4 r4=>?_);exact⟨ρ4,B4,hp5,y,q,d,hp',S4.wo,RepV.grow S3.wo.rb g4 _ _ (RepV.grow S2.wo.rb g3 _ _ r2),r4,e6,k.after (g1.trans (g2.trans (g3.trans g4)))⟩
theorem VA{op op':CmpOp}{g g':DV->DV->M DV}(ho:P2 X (compareOp op) g)(ho':P2 X (compareOp op') g')(ha:DE X a fa)(hb:DE X b fb)(hc:DE X c fc)(hm:lastMarks [op,op'] [b,c]=false:=by with_unfolding_all rfl):DT X (.Compare a [op,op'] [b,c] pos) (eB (Xk g g' fa fb fc)) :=
 L2.PT.imp (QcT ho ho' ha hb hc hm) λσ H Q zz1=>by
  obtain⟨Z,env,ρ,B,hp,d,hp',S,e,k⟩:=zz1;obtain⟨x,hp1,e1,e2⟩:=Qg e;obtain⟨rfl,rfl⟩:=Yk e2;exact uI (tD.run S e1 λv ρ1 B1 H1 g1 S1 r1=>⟨d,r1.blI,k ρ1 B1 H1 g1 S1.wo⟩)
abbrev DOx:=En->M (Option Int)
def tDO(K:Aa)(f:DOx):TO:=λσ H Q=>∃Z env ρ B hp d hp',SOk K Z env σ ρ B hp H/\f env hp=some (d,hp')/\Qha K ρ B H hp' (Q d)
def DO(X:Cx)(e:Option Expr)(f:DOx):Prop:=PO X e (tDO X.K f)
def ZN:DOx:=λ_=>pure none
def asI:DV->M Int
 | .int i=>pure i
 | _=>failure
theorem Vp{d:DV}{c:Int}{hp hp':Hs}(h:asI d hp=some (c,hp')):d=.int c/\hp=hp':=by
 cases d with
 | int b=>obtain⟨rfl,rfl⟩:=Ql h;exact⟨rfl,rfl⟩
 | _=>cases h
def ZO(f:DEx):DOx:=λenv=>do let i <- asI (<- f env);pure (some i)
theorem JR:DO X none ZN:=λO9 s σ H Q I zz1=>by
 obtain⟨Z,env,ρ,B,hp,d,hp',S,e,k⟩:=zz1;obtain⟨rfl,rfl⟩:=Ql e;exact Qeu O9 s σ H Q I (k ρ B H Gr.refl S.wo)
theorem JS(h:DE X e f):DO X (some e) (ZO f):=λO9 s σ H Q I zz1=>by
 obtain⟨Z,env,ρ,B,hp,d,hp',S,e,k⟩:=zz1;obtain⟨x,hp1,e1,e2⟩:=Qg e;obtain⟨i,hp2,e3,e4⟩:=Qg e2;obtain⟨rfl,rfl⟩:=Vp e3;obtain⟨rfl,rfl⟩:=Ql e4;exact Qev h O9 s σ H Q I (tD.run S e1 λv ρ1 B1 H1 g1 S1 r1=>⟨i,r1.intI,k ρ1 B1 H1 g1 S1.wo⟩)
theorem tDO.run{K:Aa}{f:DOx}{Z:Ent}{d:Option Int}{Q:Option Int->Hp->Prop}(S:SOk K Z env σ ρ B hp H)(e:f env hp=some (d,hp1))
  (k:∀ρ' B' H',Gr K ρ B H ρ' B' H'->SOk K Z env σ ρ' B' hp1 H'->Q d H'):tDO K f σ H Q :=
 ⟨Z,env,ρ,B,hp,d,hp1,S,e,λρ' B' H' g W=>k ρ' B' H' g (S.grow g W)⟩
def UD(ds:List DV)(lo hi:Option Int):List DV:=(ds.drop (HT.sIx ds.length 0 lo)).take (HT.sIx ds.length ds.length hi - HT.sIx ds.length 0 lo)
theorem G0{K:Aa}{lo hi:Option Int}(r:RepL K ρ B H ds xs):RepL K ρ B H (UD ds lo hi) (G1 xs lo hi):=by
 unfold UD G1;rw[r.length];exact RepL.take _ (RepL.drop _ r)
def slD(d:DV)(lo hi:Option Int):M DV:=match d with
 | .lst ds=>pure (.lst (UD ds lo hi))
 | .tup ds=>pure (.tup (UD ds lo hi))
 | _=>failure
def eSl(f:DEx)(lo hi:DOx):DEx:=λenv=>do let d <- f env;let l <- lo env;let h <- hi env;slD d l h
def tPs(K:Aa):V->Option Int->Option Int->Hp->VK->Prop:=λx lo hi H Q=>∃ρ B hp d r hp',WOk K ρ B hp H/\RepV K ρ B H d x/\slD d lo hi hp=some (r,hp')/\Fol K ρ B H r hp' Q
theorem ua{prog:Program}{w:World}{A:Around}{E:Ek}{s:Shared}{t sl:Addr}{items:Array Value}{lo hi:Option Int}{Q:Ek}(ht:IsTup s.heap t items)(hs:s.heap.IsSliceOf sl vl vu .none)(pl:IsPart vl lo)(pu:IsPart vu hi)
  (h0:HT.sIx items.size 0 lo=0) (h1:HT.sIx items.size items.size hi=items.size) (h:Q (.ref t) s):wpAny (model prog w) A (getItem (.ref t) (.ref sl)) Q E s:=by
 obtain⟨os,hos,hcs,hds⟩:=id hs;have hTs:s.TypeIs (.ref sl) "slice" := ⟨os,hos,hcs⟩;unfold getItem
 try with_reducible refine wpAny_holding ?_
 first | refine Ea (Ed ?_) | skip
 refine Ea (wpAny_sequenceKey ht.typeIs (by decide) ?_)
 refine Ea (wpAny_callSpecial?_slot (name:=Str.ofString "__getitem__") ht.typeIs PyProof.Rows.slot_tuple_getitem (wpAny_call_entry PyProof.Rows.slot_tuple_getitem ht.typeIs entry_tuple_getitem ?_ (args_tuple_getitem _ _)));show wpAny _ _ (Builtin.Tuple.tupleItemsOf (.ref t) >>= _) _ _ s;refine Ea (tupleItemsOf_ ht ?_);refine Ea (wpAny_typeOf hTs ?_);rw[Ec (by decide)]
 refine Ea (HT.sliceApplied_gen hs pl pu ?_);have yes:(((HT.sIx items.size 0 lo:Nat):Int)==0&&(1:Int)==1&&(HT.sIx items.size items.size hi - HT.sIx items.size 0 lo)==items.size)=true:=by rw[h0,h1];simp
 show wpAny _ _ (if (((HT.sIx items.size 0 lo:Nat):Int)==0&&(1:Int)==1&&(HT.sIx items.size items.size hi - HT.sIx items.size 0 lo)==items.size)=true then _ else _) _ _ s
 rw[Ec yes];have ex:∀{Q':Bool->Shared->Prop}{A':Around}{E':Ek},Q' true s->wpAny (model prog w) A' (Builtin.Tuple.tupleIsExact (.ref t)) Q' E' s:=λ{Q' A' E'} q=>by
  unfold Builtin.Tuple.tupleIsExact;exact Ea (wpAny_typeOf ht.typeIs (Ed (by rw[show(Value.type "tuple" == Value.type "tuple")=true from beq_self_eq_true _];exact q)))
 refine Ea (ex ?_);rw[Ec rfl]
 first
  | exact Ea (wpAny_rule (Ed ⟨_,rfl,Ed h⟩))
  | exact Ea (wpAny_rule (Ea (Ed (Ed ⟨_,rfl,Ed h⟩))))
theorem QeT:SlR X (λx lo hi H Q=>∃a xs,x=.ref a/\SqT X.K H a xs/\(HT.sIx xs.length 0 lo=0/\HT.sIx xs.length xs.length hi=xs.length)/\Q (.ref a) H):=by
 intro O9 s σ H x v vl vu lo hi sl Q I rx hs pl pu h;obtain⟨a,xs,rfl,hx,⟨h0,h1⟩,q⟩:=h;cases rx;obtain⟨its,r,ht,hz⟩:=I.tuple hx;have hlen:its.toArray.size=xs.length:=by rw[Ap];exact r.length.symm
 exact⟨"tuple", _,PyProof.Rows.slot_tuple_getitem.lookup,ht.typeIs,ua ht hs pl pu (by rw[hlen];exact h0) (by rw[hlen];exact h1) ⟨.ref a,H,I,rfl,q⟩⟩
theorem QaC{α:Type}(ds:List α)(i j:Nat)(h0:i=0)(h1:j=ds.length):(ds.drop i).take (j - i)=ds:=by subst h0 h1;simp
theorem QiE:SlR X (tPs X.K):=by
  intro O9 s σ H x v vl vu lo hi sl Q I rx hs pl pu h;obtain⟨ρ,B,hp,d,r,hp',W,rv,e,k⟩:=h;cases d with
  | lst ds =>
    obtain⟨rfl,rfl⟩:=Ql e;obtain⟨a,xs,rfl,nb,sq,rl⟩:=rv.lstI;exact QeS O9 s σ H _ v vl vu lo hi sl Q I rx hs pl pu ⟨a,xs,rfl,sq,j6 W (G0 rl) k⟩
  | tup ds =>
    obtain⟨rfl,rfl⟩:=Ql e;obtain⟨a,xs,rfl,nb,sq,rl⟩:=rv.tupI;by_cases hw:HT.sIx xs.length 0 lo=0/\HT.sIx xs.length xs.length hi=xs.length
    . refine QeT O9 s σ H _ v vl vu lo hi sl Q I rx hs pl pu ⟨a,xs,rfl,sq,hw,?_⟩
      have:UD ds lo hi=ds:=by unfold UD;exact QaC ds _ _ (by rw[rl.length];exact hw.1) (by rw[rl.length];exact hw.2)
      rw[this] at k;exact k _ ρ B H Gr.refl W (zU nb sq rl)
    . exact QgN O9 s σ H _ v vl vu lo hi sl Q I rx hs pl pu ⟨a,xs,rfl,sq,hw,j7 W (G0 rl) k⟩
  | non=>cases e
  | bl _=>cases e
  | int _=>cases e
  | str _=>cases e
  | ref _=>cases e
theorem Y7{lo hi:Option Expr}{ol oh:DOx}(h:DE X e f)(hl:DO X lo ol)(hh:DO X hi oh):DE X (.Subscript e (.Slice lo hi none p2) pos) (eSl f ol oh) :=
 L2.PE.imp (QcN QiE h hl hh) λσ H Q zz1=>by
  obtain⟨Z,env,ρ,B,hp,d,hp',S,e,k⟩:=zz1;obtain⟨x,hp1,e1,e⟩:=Qg e;obtain⟨l,hp2,e2,e⟩:=Qg e;obtain⟨u,hp3,e3,e⟩:=Qg e;refine tD.run S e1 λv ρ1 B1 H1 g1 S1 r1=>tDO.run S1 e2 λρ2 B2 H2 g2 S2=>tDO.run S2 e3 λρ3 B3 H3 g3 S3=>?_;exact⟨ρ3,B3,hp3,x,d,hp',S3.wo,RepV.grow S1.wo.rb (g2.trans g3) _ _ r1,e,k.after (g1.trans (g2.trans g3))⟩
theorem Qhu{P:Program}{w:World}{K:Aa}{mg:Eo}{O8:Heap}{x:Str}{g:Addr}{k:Nat}{body:DSx}(F:Fun K x x stm g fd)(Sc:Qs N ps (Qo stm))
  (h:∀(cdv:Value)(A:Around)(outer:List Env)(s:Shared)(H:Hp)(E:XK),Room k (A.deeper (envOfC x (Qo stm) s.heap.objs.size g cdv))->DSs (y0 CX0 P w K mg O8 N x (Qo stm) g cdv A outer s H E).nox (ZH stm) body) :
  qW P w K mg O8 CX0 (k+1) g fd ps (spD K ps.length (Q8 N.length body)):=by
 refine F.ok Sc (λvs H Q E h=>h.1) (λcdv A outer s H vs Q E hr sp=>?_);obtain⟨hn,ρ,B,hp,ds,d,hp',W,r,e,k⟩:=sp;obtain⟨⟨fl,env'⟩,hp1,e1,e2⟩:=Qg e;refine⟨_,h cdv A outer s H E hr,⟨ρ,B,H⟩,_,ρ,B,hp,fl,env',hp1,yr W r,e1,λσ' ρ' B' H' g' S'=>?_⟩;cases fl with
 | nx=>obtain⟨rfl,rfl⟩:=Ql e2;exact k .non ρ' B' H' S'.gr S'.wo zT
 | rt x=>obtain⟨rfl,rfl⟩:=Ql e2;exact λv rv=>k v ρ' B' H' S'.gr S'.wo rv
 | bk=>cases e2
 | ct=>cases e2
theorem vP{K:Aa}:∀ns:List Int,RepL K ρ B H (ns.map DV.int) (ns.map V.int)
 | []=>RepL.nil
 | _::r=>RepL.cons Jh (vP r)
theorem Qf6{K:Aa}{F:Et}{a:Addr}{ns:List Int}(h:∃hp',F [.lst (ns.map .int)] []=some (.bl true,hp'))(hS:SqL K H a (ns.map V.int)):spD K 1 F [.ref a] H (λv _=>v=.bl true) E:=by
 obtain⟨hp',h⟩:=h;refine⟨rfl,[],λ_=>False,[],[.lst (ns.map .int)],.bl true,hp',⟨rfl,List.nodup_nil,λi a o h=>by simp at h,λa h=>absurd h (by simp),λa h=>absurd h (λz=>z),λa h=>h.elim⟩,RepL.one (Gq (λz=>z) hS (vP ns)),h,λv _ _ _ _ _ r=>r.blI⟩
end
end D
namespace L2
open PySem PySem.Spec PyProof.Rows
section
variable{prog:Program}{w:World}{A:Around}{E:Ek}{s:Shared}
theorem zV{p q:Addr}{n:Nat}{xs:Array Value}{Q:Ek}(a1:s.heap.IsTupleIter p q n)(a2:s.heap.IsTuple q xs)(a3:xs[n]?=some v)
  (k:∀g,g.IsTupleIter p q (n+1)->Heap.SameBut p s.heap g->Q v { s with heap:=g }):wpAny (model prog w) A (Builtin.SmallTypes.nextOf (.ref p)) Q E s:=by
 obtain⟨ob,b1,b2,b3⟩:=id a1;obtain⟨oq,b4,_,m,b5⟩:=a2;unfold Builtin.SmallTypes.nextOf;refine Ea (wpAny_callSpecial?_slot (name:=Str.ofString "__next__") a1.typeIs F.slot_tuple_iterator_next (wpAny_call_entry F.slot_tuple_iterator_next a1.typeIs F.entry_tuple_iterator_next ?_ (F.args_tuple_iterator_next_1 _)));show wpAny _ _ (field (.ref p) 0 >>= _) _ _ s;refine Ea (wpAny_field b1 b3 (x:=.ref q) rfl ?_);show wpAny _ _ (if (Value.ref q==Value.none)=true then _ else _) _ _ s
 rw[Eb (show ¬ ((Value.ref q==Value.none)=true) from Bz)];show wpAny _ _ (field (.ref p) 1 >>= _) _ _ s;refine Ea (wpAny_field b1 b3 (x:=.int n 0) rfl ?_);show wpAny _ _ (seqItems? (.ref q) >>= _) _ _ s;refine Ea (wpAny_seqItems b4 b5 ?_);simp only[B7,a3];refine Ea (wpAny_setField b1 b3 (by simp) (Ed ⟨v,rfl,Ed (k _ ?_ (Heap.SameBut.update ..))⟩))
 exact⟨_,Heap.get?_update_self _ b1 (Obj.isFreed_of_fields (Obj.data_mapFields b3 _)),(Obj.cls_mapFields ..).trans b2,by rw[Obj.data_mapFields b3];simp[rawInt]⟩
theorem GJ{p q:Addr}{n:Nat}{xs:Array Value}{Q:Ek}(hh:A.handled=none)(a1:s.heap.IsTupleIter p q n)(a2:s.heap.IsTuple q xs)(a3:xs[n]?=none)
  (k:∀g x,Heap.ExtBut p s.heap g->(∃o,g.get? x=some o/\o.cls=.type "StopIteration")->E (.ref x) { s with heap:=g }):wpAny (model prog w) A (Builtin.SmallTypes.nextOf (.ref p)) Q E s:=by
 obtain⟨ob,b1,b2,b3⟩:=id a1;obtain⟨oq,b4,_,m,b5⟩:=a2;unfold Builtin.SmallTypes.nextOf;refine Ea (wpAny_callSpecial?_slot (name:=Str.ofString "__next__") a1.typeIs F.slot_tuple_iterator_next (wpAny_call_entry F.slot_tuple_iterator_next a1.typeIs F.entry_tuple_iterator_next ?_ (F.args_tuple_iterator_next_1 _)));show wpAny _ _ (field (.ref p) 0 >>= _) _ _ s;refine Ea (wpAny_field b1 b3 (x:=.ref q) rfl ?_);show wpAny _ _ (if (Value.ref q==Value.none)=true then _ else _) _ _ s
 rw[Eb (show ¬ ((Value.ref q==Value.none)=true) from Bz)];show wpAny _ _ (field (.ref p) 1 >>= _) _ _ s;refine Ea (wpAny_field b1 b3 (x:=.int n 0) rfl ?_);show wpAny _ _ (seqItems? (.ref q) >>= _) _ _ s;refine Ea (wpAny_seqItems b4 b5 ?_);simp only[B7,a3];refine Ea (wpAny_rule (Ea (wpAny_setField b1 b3 (by simp) ?_)))
 show wpAny _ _ (newExc (.type "StopIteration") [] >>= _) _ _ _;refine Ea ?_;simp only[newExc,newTuple];refine Ea (wpAny_newObj_type ?_ (by size_fits))
 refine Ea (m:=firstArgMember _ _) (wpAny_of_eq (a:=Value.none) (by first | rfl | (simp only[firstArgMember];rfl)) ?_)
 refine wpAny_newObj_type ?_ (by size_fits)
 simp only[raiseNew];refine Ea (wpAny_handled ?_)
 first | rw[show A.in1.handled=none from hh] | rw[hh]
 refine Ea (Ed (wpAny_throw ?_));exact k _ _ (((Heap.SameBut.update ..).extBut.push _).push _) ⟨_,Aw _ rfl,rfl⟩
structure ZA(z p o i j a b:Addr):Prop where
 pz:p≠z
 oz:o≠z
 iz:i≠z
 jz:j≠z
 po:p≠o
 pi:p≠i
 pj:p≠j
 oi:o≠i
 oj:o≠j
 ij:i≠j
 az:a≠z
 ao:a≠o
 ai:a≠i
 aj:a≠j
 bz:b≠z
 bo:b≠o
 bi:b≠i
 bj:b≠j
end
section
variable{X:Cx}{O9:Em}{σ:L2.St}{H:Hp}{s:Shared}{h':Heap}
theorem Inv.turnL{t':Nat}{fp:Es}(I:Inv X O9 σ H s)(hf:∀b∈fp,Uu X O9 H b)(k:∀b o,b∉fp->s.heap.get? b=some o->h'.get? b=some o):Inv X O9 σ H { s with heap:=h',toks:=t' }:=by
 refine I.step (g':=s.gens) (d':=s.drawn) (ch:=fp) (λb hb=>⟨(hf b hb).2.2.2.1,(hf b hb).2.1,(hf b hb).2.2.2.2.1,(hf b hb).2.2.2.2.2⟩) (λb o _ _ hc e _=>k b o hc e) (λb o _ _ hc e _=>⟨o.slots,k b o hc e⟩) (λ_ _ _ _ n=>n)
  (λb o hc e=>⟨o,k b o hc e⟩) (λ_ _ e=>e) (λ_ _ _ e=>e) (λb ps e=>⟨#[],by rw[e];simp⟩) (λm hm=>?_) (λb u e=>?_) I.bare
 ·obtain⟨o,es,ep,ho,r⟩:=hm
  exact⟨o,es,ep,k _ o (λz=>(hf _ z).2.1 rfl) ho,r⟩
 ·have nf:∀c u,H c=some u->c∉fp:=λc u q z=>by rw[(hf c z).1] at q;cases q
  refine(I.hok b u e).stay (λc v hc q=>k c v ?_ q) (λ_ q=>q) λ_ _ q=>q;rcases hc with z | z
  ·rw[z];exact nf b u e
  ·exact nf c _ z
theorem Inv.turnNew{t':Nat}{fp:Es}{vs:List V}{us:List Value}(I:Inv X O9 σ H s)(hf:∀b∈fp,Uu X O9 H b)(k:∀b o,b∉fp->s.heap.get? b=some o->h'.get? b=some o)
  (hv:Vals vs us) (hz:vs.length<=sizeLine) (hT:IsTup h' s.heap.objs.size us.toArray):Inv X O9 σ (upd H s.heap.objs.size (.tup vs)) { s with heap:=h',toks:=t' }:=by
 have hn:H s.heap.objs.size=none:=I.hok.fresh (Ag _);refine I.step (g':=s.gens) (d':=s.drawn) (ch:=fp) (λb hb=>⟨(hf b hb).2.2.2.1,(hf b hb).2.1,(hf b hb).2.2.2.2.1,(hf b hb).2.2.2.2.2⟩) (λb o _ _ hc e _=>k b o hc e) (λb o _ _ hc e _=>⟨o.slots,k b o hc e⟩)
  (λb o _ e n=>by rw[Q4 (Bh (Aq e))];exact n) (λb o hc e=>⟨o,k b o hc e⟩) (λb xs e=>by rw[Q4 (ZB e hn)];exact e) (λb o u e=>by rw[Q4 (ZB e hn)];exact e) (λb ps e=>⟨#[],by rw[Q4 (ZB e hn),e];simp⟩) (λm hm=>?_) (λb u e=>?_) I.bare
 ·obtain⟨o,es,ep,ho,r⟩:=hm
  exact⟨o,es,ep,k _ o (λz=>(hf _ z).2.1 rfl) ho,r⟩
 ·by_cases hb:b=s.heap.objs.size
  ·subst hb
   rw[Zg] at e;cases e;exact⟨hz,us,hv,hT⟩
  ·rw[Q4 hb] at e
   have nf:∀c u,H c=some u->c∉fp:=λc u q z=>by rw[(hf c z).1] at q;cases q
   refine(I.hok b u e).stay (λc v hc q=>k c v ?_ q) (λc q=>by rw[Q4 (ZB q hn)];exact q) λc xs q=>by rw[Q4 (ZB q hn)];exact q
   rcases hc with z | z
   ·rw[z];exact nf b u e
   ·exact nf c _ z
end
def Itz(K:Aa)(a b:Addr):It :=
  ⟨λi H=>∃xs ys x y,SqT K H a xs/\SqT K H b ys/\xs[i]?=some x/\ys[i]?=some y,
   λi H v H'=>∃p x y,H p=none/\(∀xs,SqT K H a xs->xs[i]?=some x)/\(∀ys,SqT K H b ys->ys[i]?=some y)/\v=.ref p/\H'=upd H p (.tup [x,y]),
   λi H=>∃xs ys,SqT K H a xs/\SqT K H b ys/\(xs.length<=i∨ys.length<=i)⟩
abbrev zt1(h:Heap)(a:Addr):Heap:=h.push { cls:=.type "tuple_iterator", data:=.fields #[.ref a,.int 0 0] }
abbrev zt2(h:Heap)(a b:Addr):Heap:=(zt1 h a).push { cls:=.type "tuple_iterator", data:=.fields #[.ref b,.int 0 0] }
abbrev zt3(h:Heap)(a b:Addr):Heap:=(zt2 h a b).push { cls:=.type "tuple", data:=.seq #[.ref h.objs.size,.ref (zt1 h a).objs.size] }
abbrev zt4(h:Heap)(a b:Addr):Heap:=(zt3 h a b).push { cls:=.type "tuple", data:=.seq #[.none,.none] }
abbrev zt5(h:Heap)(a b:Addr):Heap:=(zt4 h a b).push { cls:=.type "zip", data:=.fields #[.none,.bool false,.bool false,.ref (zt2 h a b).objs.size,.ref (zt3 h a b).objs.size] }
theorem Qfa(a b:Addr)(xs ys:Array Value):Meets (Builtin.«zip.__new__» ⟨[.type "zip", .ref a,.ref b],[]⟩) (λ_ R s=>s.heap.IsTuple a xs/\s.heap.IsTuple b ys/\R (.ok (.ret (.ref (zt4 s.heap a b).objs.size))) { s with heap:=zt5 s.heap a b }) :=
 .of_wp λprog w A R s h=>by
  obtain⟨hp,g,d,tk,os⟩:=s;obtain⟨q1,q2,h⟩:=h;have hsub:=sub_zip;have t1:Heap.IsTuple (Shared.heap ⟨hp,g,d,tk,os⟩) a xs:=q1;have t2:Heap.IsTuple (Shared.heap ⟨hp.push { cls:=.type "tuple_iterator", data:=.fields #[.ref a,.int 0 0] },g,d,tk,os⟩) b ys:=let ⟨ob,e,r⟩:=q2;⟨ob,Ae _ e,r⟩
  wp_walk using wpAny_pyIter_tuple t1,wpAny_pyIter_tuple t2
  exact⟨_,rfl,h⟩
section
variable{X:Cx}{elts:List Expr}{kt:Nat}{p2:Pos}
def Qhz(K:Aa)(ta:TA):TI:=λσ H R=>ta σ H λvs H1=>∃a b xs ys,vs=[.ref a,.ref b]/\SqT K H1 a xs/\SqT K H1 b ys/\R (Itz K a b) H1
end
end L2
namespace D
open PySem PySem.Spec PyProof.Rows L2
def xO:List DV->List DV->List DV
 | x::xs,y::ys=>.tup [x,y]::xO xs ys
 | _,_=>[]
theorem uj:∀{xs ys:List DV}{i:Nat}{d:DV},(xO xs ys)[i]?=some d->∃x y,xs[i]?=some x/\ys[i]?=some y/\d=.tup [x,y]
  | x::xs,y::ys,0,d,h=>by simp[xO] at h;exact⟨x,y,rfl,rfl,h.symm⟩
  | x::xs,y::ys,i+1,d,h=>by
    obtain⟨a,b,h1,h2,h3⟩:=uj (xs:=xs) (ys:=ys) (i:=i) (by simpa [xO] using h)
    exact⟨a,b,by simpa using h1,by simpa using h2,h3⟩
  | [],_,_,_,h=>by simp[xO] at h
  | _::_,[],_,_,h=>by simp[xO] at h
theorem ul:∀(xs ys:List DV),(xO xs ys).length=min xs.length ys.length
 | x::xs,y::ys=>by simp only[xO,Bb,ul xs ys];lia
 | [],_=>by simp[xO]
 | _::_,[]=>by simp[xO]
def Qb4(f g:DEx):DIx:=λenv=>do
 let x <- f env
 let xs <- gI x
 let y <- g env
 let ys <- gI y
 pure (xO xs ys)
theorem QfW{K:Aa}{B:Er}{a b:Addr}(na:¬ B a)(qa:SqT K H a xs)(ra:RepL K ρ B H ds xs)(nb:¬ B b)(qb:SqT K H b ys)(rb:RepL K ρ B H es ys):Qaq K ρ B H (xO ds es) (Itz K a b):=λρ1 B1 H1 g r1 t1=>by
 have qa1:=g.sqT na qa;have qb1:=g.sqT nb qb;have ra1:=RepL.gs g _ _ ra;have rb1:=RepL.gs g _ _ rb;refine⟨λi d e=>?_,xs,ys,qa1,qb1,?_⟩
 ·obtain⟨x,y,h1,h2,rfl⟩:=uj e
  obtain⟨u,hu,ru⟩:=ra1.get h1;obtain⟨v,hv,rv⟩:=rb1.get h2;refine⟨⟨xs,ys,u,v,qa1,qb1,hu,hv⟩,λz H' zz1=>?_⟩;obtain⟨p,u',v',hn,h3,h4,e1,e2⟩:=zz1;subst e1 e2;have e3:=h3 xs qa1;have e4:=h4 ys qb1;rw[hu] at e3;cases e3;rw[hv] at e4;cases e4;refine⟨zU (λz=>t1 p z hn) (SqT.of Zg) (RepL.gs (Qdn r1 hn) _ _ (RepL.cons ru (RepL.one rv))),.inr ⟨p,_,hn,rfl⟩⟩
 ·rw[ul,ra1.length,rb1.length]
  rcases Nat.le_total xs.length ys.length with q | q
  ·exact .inl (by rw[Nat.min_eq_left q];exact Ag _)
  ·exact .inr (by rw[Nat.min_eq_right q];exact Ag _)
section
variable{X:Cx}{elts:List Expr}{kt:Nat}{p2:Pos}{f g:DEx}
def Yb(f:DEx)(g:DGx):DSx:=λenv=>do let d <- f env;let env' <- g d env;pure (.nx,env')
theorem Vz{tg e:Expr}{g:DGx}{pos:Pos}(he:DE X e f)(hg:PG X tg (tDG X.K g))(hs:swapsWithSole [tg] e pos.line X.env=pure false:=by rfl)(hw:swappedStores [tg] e X.env=pure none:=by rfl)
  (h1:(assignEach [tg] X.env).map (·.2)=[assign tg X.env]:=by rfl):DS X (.Assign [tg] e pos) (Yb f g) :=
 L2.PS.imp (QgC he hg hs hw h1) λD σ H zz1=>by
  obtain⟨Z,env,ρ,B,hp,fl,env',hp',S,e,k⟩:=zz1;obtain⟨d,hp1,e1,e⟩:=Qg e;obtain⟨env1,hp2,e2,e⟩:=Qg e;obtain⟨z,rfl⟩:=Ql e;cases z;exact tD.run S e1 λv ρ1 B1 H1 g1 S1 r1=>⟨Z,env,ρ1,B1,hp1,d,env',hp2,S1,r1,e2,λσ' ρ' B' H' g' S'=>k σ' ρ' B' H' ((g1.gs S.wo.rb).trans g') S'⟩
end
theorem gj{lo:Int}{n i:Nat}{d:DV}(h:(Zc lo n)[i]?=some d):i < n/\d=.int (lo+i):=by
 have hi:i < n:=by have:=(Ad.mp h).1;simpa [Zc] using this
 refine⟨hi,?_⟩;simp[Zc,hi] at h;exact h.symm
theorem Ja(lo:Int)(n:Nat):(Zc lo n).length=n:=by simp[Zc]
theorem Vi(i:Int):okP (.int i)=true:=by rfl
theorem QcD(b:Bool):okP (.bl b)=true:=by cases b<;>rfl
def kA(i j:Int):PyData.eqv (.int i) (.int j)=(i==j):=rfl
theorem Z9(i j:Int):eqD (.int i) (.int j)=pure (.bl (i==j)):=by
 simp only[eqD,Vi,Bool.and_self,Qy,if_true,Ej,toP,kA]
theorem Xp(i j:Int):neD (.int i) (.int j)=pure (.bl (!(i==j))):=by
 simp only[neD,Vi,Bool.and_self,Qy,if_true,Ej,toP,kA]
theorem QfF{α:Type}{xs:List α}{i:Int}(h0:0<=i)(h1:i < xs.length):atI xs i=xs[i.toNat]?:=by
 unfold atI ixN;rw[Ec h0,Ec h1];rfl
theorem KH(ns:List Int){i:Int}(h0:0<=i)(h1:i < ns.length):atI (ns.map DV.int) i=some (.int (ns.getD i.toNat 0)):=by
 have hl:i.toNat < ns.length:=by lia
 rw[QfF h0 (by simpa using h1),Bv,Ac hl]
 simp[Cq,hl]
def opt:Option Int->DV
 | none=>.non
 | some i=>.int i
theorem Ju(x y:Int)(h:0 < y):XN (.int x) (.int y)=pure (.int (x % y)):=by simp[XN,qA,Qhh,h]
theorem Xj(x y:Int)(h:0 < y)(h':y < 1073741824):Yv (.int x) (.int y)=pure (.int (x / y)):=by simp[Yv,qA,Qhf,h,h']
theorem Qcv(x y:Int)(h:-(2 ^ 64) < x)(h':x < 2 ^ 64):Qa1 (.int x) (.int y)=pure (.int (x * y)):=by
 simp only[Qa1,qA,Qhi,Eg (Or.inl (b:=(-(2 ^ 64) < y/\y < 2 ^ 64)) (And.intro h h')),if_true]
def Jr(x y:Int):ZL (.int x) (.int y)=pure (.int (x+y)):=rfl
def JM(x y:Int):qU (.int x) (.int y)=pure (.int (x - y)):=rfl
def ZJ(x y:Int):gtD (.int x) (.int y)=pure (.bl (decide (y < x))):=rfl
def JC(x y:Int):ltD (.int x) (.int y)=pure (.bl (decide (x < y))):=rfl
def JW(x y:Int):leD (.int x) (.int y)=pure (.bl (decide (x<=y))):=rfl
def JT(x y:Int):geD (.int x) (.int y)=pure (.bl (decide (y<=x))):=rfl
def JI(x:Int):QhM (.int x)=pure (.int (-x)):=rfl
def qN:YW (.int 10) (.int 30)=pure (.int 1000000000000000000000000000000):=rfl
def zB:YW (.int 10) (.int 21)=pure (.int 1000000000000000000000):=rfl
def VX:YW (.int 10) (.int 9)=pure (.int 1000000000):=rfl
theorem Qdd{m:Int}(h0:0<=m)(h1:m<=1000000):Uk m=true:=Eg ⟨by lia,by lia⟩
def Xb{ds:List DV}(h:ds.length<=100000):YM ds=true:=Eg h
theorem ZS{f g:DSx}(h:f env=pure (.nx,env1)):Qr f g env=g env1:=by simp only[Qr,h,Ej]
theorem QeN{f g:DSx}(h:f env=pure (.rt d,env1)):Qr f g env=pure (.rt d,env1):=by simp only[Qr,h,Ej]
theorem Z3{i:Nat}{f:DEx}{env:En}(h:f env=pure d):QA i f env=pure (.nx,env.set i (.val d)):=by simp only[QA,h,Ej]
theorem Qia{c:DTx}{f g:DSx}(h:c env=pure true):sIf c f g env=f env:=by simp only[sIf,h,Ej,if_true]
theorem Qh9{c:DTx}{f g:DSx}(h:c env=pure false):sIf c f g env=g env:=by simp only[sIf,h,Ej,A7,if_false]
theorem Yc{f:DEx}(h:f env=pure d):QP f env=pure (.rt d,env):=by simp only[QP,h,Ej]
theorem YG{n:Nat}{body:DSx}{ds:List DV}(h:body (ds.map .val++List.replicate (n - ds.length) .un)=pure (.rt d,env)):Q8 n body ds=pure d:=by simp only[Q8,h,Ej]
theorem Qhq{f:DEx}{b:Bool}(h:f env=pure (.bl b)):eB f env=pure b:=by simp only[eB,h,Ej,asB]
theorem zO{g:DV->DV->M DV}{f f':DEx}(h:f env=pure x)(h':f' env=pure y)(hg:g x y=pure d):Qk g f f' env=pure d:=by simp only[Qk,h,h',Ej,hg]
theorem x3{F:Et}{f f':DEx}(h:f env=pure x)(h':f' env=pure y)(hF:F [x,y]=pure d):QH 2 F (Qc f (Qc f' Qn)) env=pure d:=by simp[QH,Qc,Qn,h,h',Qy,hF]
theorem QbN{F:Et}{f f' f'':DEx}(h:f env=pure x)(h':f' env=pure y)(h'':f'' env=pure z)(hF:F [x,y,z]=pure d):QH 3 F (Qc f (Qc f' (Qc f'' Qn))) env=pure d:=by simp[QH,Qc,Qn,h,h',h'',Qy,hF]
section
variable{K:Aa}{ρ:Es}{B:Er}{hp:Hs}{H:Hp}
theorem Gr.wnew{p:Addr}(h:H p=none)(kf:K.lookup p=none):Gr K ρ B H (ρ++[p]) (yZ B p) (upd H p o) where
 pre:=List.prefix_append _ _
 ban:=λ_ h=>.inl h
 new:=λa z=>z.elim .inl λe=>.inr (e▸⟨h,kf⟩)
 rnew:=λa z=>(Aj.mp z).elim .inl λq=>.inr (by rw[As.mp q];exact h)
 keep:=λa u _ q=>by rw[Q4 (ZB q h)];exact q
 trk:=(Gr.laid (K:=K) (ρ:=ρ) (B:=B) h).trk
theorem WOk.wnew{p:Addr}(W:WOk K ρ B hp H)(h:H p=none)(kf:K.lookup p=none)(hv:ORep K (ρ++[p]) (yZ B p) (upd H p o) p v):WOk K (ρ++[p]) (yZ B p) (hp++[v]) (upd H p o) where
 len:=by simp[W.len]
 nd:=List.nodup_append.mpr ⟨W.nd,by simp,λa ha b hb=>by rw[As.mp hb];exact λz=>W.bt a (W.rb a ha) (z▸h)⟩
 obj:=λi a u e q=>by
  by_cases hi:i < ρ.length
  ·rw[Ai hi] at e
   rw[Ai (by rw[<- W.len];exact hi)] at q
   exact ORep.gs ((Gr.wnew h kf).gs W.rb) (Q4 (λz=>W.bt a (W.rb a (Ax e)) (z▸h))) (W.obj i a u e q)
  ·rw[Ar (by lia)] at e
   rw[Ar (by rw[<- W.len];lia)] at q
   have hi0:i - ρ.length=0:=by
    have:=(Ad.mp e).1;simp at this;lia
   rw[hi0] at e;rw[<- W.len,hi0] at q;simp at e q;subst e q;exact hv
 rb:=λa z=>(Aj.mp z).elim (λq=>.inl (W.rb a q)) λq=>.inr (As.mp q)
 bt:=λa z q=>by
  have q':=(Gr.laid (K:=K) (ρ:=ρ) (B:=B) h).trk a q;rcases z with z | rfl
  ·exact W.bt a z q'
  ·rw[Zg] at q;cases q
 bk:=λa z=>z.elim (W.bk a) λe=>e▸kf
theorem Gr.wset{i:Nat}{a:Addr}(ha:ρ[i]?=some a)(h:H a=some o):Gr K ρ B H ρ B (upd H a o') where
 pre:=Cm
 ban:=λ_ h=>h
 new:=λ_ h=>.inl h
 rnew:=λ_ h=>.inl h
 keep:=λb u nb q=>by rw[Q4 (show b≠a from λz=>nb (by rw[z];exact Ax ha))];exact q
 trk:=λb q=>by
  by_cases e:b=a
  ·subst e;rw[Zg] at q;cases q
  ·rw[Q4 e] at q;exact q
theorem WOk.wset{i:Nat}{a:Addr}(W:WOk K ρ B hp H)(ha:ρ[i]?=some a)(h:H a=some o)(hv:ORep K ρ B (upd H a o') a v):WOk K ρ B (hp.set i v) (upd H a o') where
 len:=by simp[W.len]
 nd:=W.nd
 obj:=λj b u e q=>by
  by_cases hj:j=i
  ·subst hj
   rw[ha] at e;cases e;have hl:j < hp.length:=by rw[<- W.len];exact(Ad.mp ha).1
   rw[Av hl] at q;cases q;exact hv
  ·rw[An (Ne.symm hj)] at q
   have hb:b≠a:=λz=>hj (by
    subst z;exact(List.getElem?_inj (Ad.mp e).1 W.nd).mp (e.trans ha.symm))
   exact ORep.gs ((Gr.wset ha h).gs W.rb) (Q4 hb) (W.obj j b u e q)
 rb:=W.rb
 bt:=λb z q=>W.bt b z ((Gr.wset (K:=K) (B:=B) ha h).trk b q)
 bk:=W.bk
end
section
variable{X:Cx}{e a b c:Expr}{f fa fb fc:DEx}{pos:Pos}
def XT(o:OV):M DV:=λh=>some (.ref h.length,h++[o])
def ZX(i:Nat):M OV:=λh=>match h[i]? with
 | some o=>some (o,h)
 | none=>none
def xE(i:Nat)(o:OV):M Unit:=λh=>some ((),h.set i o)
theorem ZI{i:Nat}{hp hp':Hs}(h:ZX i hp=some (o,hp')):hp[i]?=some o/\hp=hp':=by
 unfold ZX at h;cases q:hp[i]? with
 | none=>rw[q] at h;cases h
 | some z=>rw[q] at h;cases h;exact⟨rfl,rfl⟩
def Xo(f:DAx):DEx:=λenv=>do let ds <- f env;Qy (YM ds);XT (.lst ds)
theorem kC{K:Aa}{H:Hp}{hp:Hs}{Q:VK}(W:WOk K ρ B hp H)(r:RepL K ρ B H ds xs)(k:Fol K ρ B H (.ref hp.length) (hp++[.lst ds]) Q):∀p,H p=none->gO K (upd H p (.lst xs))->Q (.ref p) (upd H p (.lst xs)):=λp hp' kf=>by
 have kp:=kf p _ Zg;have g:Gr K ρ B H (ρ++[p]) (yZ B p) (upd H p (.lst xs)):=Gr.wnew hp' kp;refine k _ _ _ _ g (W.wnew hp' kp ⟨xs,Zg,RepL.grow W.rb g _ _ r⟩) ?_;unfold RepV;exact⟨p,rfl,by rw[<- W.len];simp⟩
theorem zM{es:List Expr}{f:DAx}(h:DA X es f):DE X (.List es pos) (Xo f) :=
 L2.PE.imp (QcL h).kf λσ H Q zz1=>by
  obtain⟨Z,env,ρ,B,hp,d,hp',S,e,k⟩:=zz1;obtain⟨xs,hp1,e1,e2⟩:=Qg e;obtain⟨_,hp2,e3,e4⟩:=Qg e2;obtain⟨hs,rfl⟩:=QL e3;cases e4;exact tDA.run S e1 λvs ρ1 B1 H1 g1 S1 r1=>⟨by rw[<- r1.length];exact zH hs,kC S1.wo r1 (k.after g1)⟩
theorem RepV.refW{K:Aa}{ρ:Es}{hp:Hs}{i:Nat}{v:V}(W:WOk K ρ B hp H)(r:RepV K ρ B H (.ref i) v)(h:hp[i]?=some o):∃a,v=.ref a/\ρ[i]?=some a/\ORep K ρ B H a o:=by
 obtain⟨a,rfl,e⟩:=r.refI;exact⟨a,rfl,e,W.obj i a o e h⟩
def ixW:DV->DV->M DV
  | .ref n,.int i=>do
    match <- ZX n with
    | .lst ds=>match atI ds i with
      | some d=>pure d
      | none=>failure
    | _=>failure
  | x,y=>ixD x y
def Qbl:List DV->M DV
  | [.ref n]=>do
    match <- ZX n with
    | .lst ds=>pure (.tup ds)
    | _=>failure
  | xs=>QgX xs
theorem GU:JY X (.type "tuple") (tPn X.K Qbl):=by
  intro O9 s σ H xs us Q I r h;obtain⟨ρ,B,hp,ds,d,hp',W,rl,e,k⟩:=h;unfold Qbl at e;split at e
  . rename_i n
    obtain⟨o,hp1,e1,e2⟩:=Qg e;obtain⟨e3,rfl⟩:=ZI e1;cases o with
    | dic _=>cases e2
    | ins _ _=>cases e2
    | lst zs =>
      obtain⟨rfl,rfl⟩:=Ql e2;obtain⟨v,rfl,rv⟩:=rl.oneI;obtain⟨a,rfl,_,ys,h1,l1⟩:=RepV.refW W rv e3;exact YS O9 s σ H _ us Q I r ⟨a,ys,rfl,.inl ⟨SqL.of h1,j7 W l1 k⟩⟩
  . exact QdK O9 s σ H xs us Q I r ⟨ρ,B,hp,_,d,hp',W,rl,e,k⟩
end
def Runs{α:Type}(m:M α)(x:α):Prop:=∀hp,∃hp',m hp=some (x,hp')
section
variable{f g:DSx}{env env1 env2:En}{c ca cb:DTx}{e fa fb:DEx}{d x y:DV}{r:Fl×En}
end
theorem Qf{α β:Type}{m:M α}{k:α->M β}{x:α}(h:m hp=some (x,hp1)):(m >>= k) hp=k x hp1:=by
 show(m hp).bind (λp=>k p.1 p.2)=_;rw[h];rfl
def Qj{f g:DSx}(h:f env hp=some ((.nx,env1),hp1)):Qr f g env hp=g env1 hp1:=Qf h
def QB{i:Nat}{f:DEx}{env:En}(h:f env hp=some (d,hp1)):QA i f env hp=some ((.nx,env.set i (.val d)),hp1):=Qf h
theorem Qd2{i:Int}(h:atI ds i=some d):ixD (.tup ds) (.int i)=pure d:=by simp only[ixD,h]
theorem QbE(ds:List DV)(m:Nat):D.UD ds none (some (m:Int))=ds.take m:=by
 unfold D.UD;rw[HT.sIx_nat];show(ds.drop 0).take (min m ds.length - 0)=ds.take m;simp
theorem G3(ds:List DV)(m:Nat):D.UD ds (some (m:Int)) none=ds.drop m:=by
 unfold D.UD;rw[HT.sIx_nat];show(ds.drop (min m ds.length)).take (ds.length - min m ds.length)=ds.drop m;rcases Nat.le_total m ds.length with h | h
 ·rw[Nat.min_eq_left h,Ci (by simp)]
 ·rw[Nat.min_eq_right h,Cn h,Cn (Ag _)]
  simp
theorem Ui(ds:List DV)(m:Nat):slD (.tup ds) none (some (m:Int))=pure (.tup (ds.take m)):=by rw[<- QbE];rfl
theorem Uh(ds:List DV)(m:Nat):slD (.tup ds) (some (m:Int)) none=pure (.tup (ds.drop m)):=by rw[<- G3];rfl
theorem vf{f g:DEx}{ds:List DV}{m:Nat}(h:f env=pure (.tup ds))(h':g env=pure (.int (m:Int))):eSl f ZN (ZO g) env=pure (.tup (ds.take m)):=by
 simp only[eSl,ZN,ZO,h,h',Ej,asI,Ui]
theorem ve{f g:DEx}{ds:List DV}{m:Nat}(h:f env=pure (.tup ds))(h':g env=pure (.int (m:Int))):eSl f (ZO g) ZN env=pure (.tup (ds.drop m)):=by
 simp only[eSl,ZN,ZO,h,h',Ej,asI,Uh]
end D
namespace L2
open PySem PySem.Spec PyProof.Rows
section
variable{X:Cx}
def QiI:R2:=λx y H Q=>∃a kvs k v,x=.ref a/\y=kV k/\H a=some (.dK kvs)/\YY kvs k=some v/\Q v H
theorem Qd3(hu:X.A.units+1 < cLine):IxR X QiI:=by
 intro value slice O9 s σ H x y v u Q I rx ry h hs;obtain⟨a,kvs,k,z,rfl,rfl,hH,hv,q⟩:=h;cases rx;have g:DGet H a (kV k) (some z):=hv▸DGet.k hH;exact tail_any (G8 I g) PySem.F.slot_dict_getitem.lookup (QaD hu I g ry λw' s' I' rw'=>⟨z,H,I',rw',q⟩) hs
theorem uT(hu:X.A.units+1 < cLine):OpR X (compareOp .In) (λx y H Q=>∃a kvs k,y=.ref a/\x=kV k/\H a=some (.dK kvs)/\Q (.bl (YY kvs k).isSome) H):=by
 intro O9 s σ H x y v u Q I rx ry h;obtain⟨a,kvs,k,rfl,rfl,hH,q⟩:=h;cases ry;exact Qiy hu I (DGet.k hH) rx λs' I'=>⟨.bl _,H,I',rfl,q⟩
theorem UL(hu:X.A.units+1 < cLine):OpR X (compareOp .NotIn) (λx y H Q=>∃a kvs k,y=.ref a/\x=kV k/\H a=some (.dK kvs)/\Q (.bl (!(YY kvs k).isSome)) H):=by
 intro O9 s σ H x y v u Q I rx ry h;obtain⟨a,kvs,k,rfl,rfl,hH,q⟩:=h;cases ry;exact QdN hu I (DGet.k hH) rx λs' I'=>⟨.bl _,H,I',rfl,q⟩
def Qh6:V->V->V->Hp->(Hp->Prop)->Prop:=λo i v H Q=>∃a kvs k,o=.ref a/\i=kV k/\H a=some (.dK kvs)/\kvs.length < sizeLine/\Q (upd H a (.dK (xr kvs k v)))
theorem Qc8(hu:X.A.units+1 < cLine):Qdz X Qh6:=λO9 s σ H o i v ov iv u Q I ro ri rv h=>by
 obtain⟨a,kvs,k,rfl,rfl,hH,hl,q⟩:=h;cases ro;exact QaE hu I (DPut.k hH hl) ri rv λs' I'=>⟨_,I',q⟩
def Qh5:V->List V->Hp->VK->Prop:=λx vs H Q=>∃a kvs k,x=.ref a/\H a=some (.dK kvs)/\((vs=[kV k]/\Q ((YY kvs k).getD .non) H)∨∃z,vs=[kV k,z]/\Q ((YY kvs k).getD z) H)
theorem kS(hu:X.A.units+1 < cLine):MtR X "dict.get" Qh5:=by
 intro O9 s σ H x vs v us Q I rx rv h;obtain⟨a,kvs,k,rfl,hH,h⟩:=h;cases rx;rcases h with ⟨rfl,q⟩ | ⟨z,rfl,q⟩
 ·obtain⟨u,rfl,ru⟩:=xL rv
  exact QfK hu I (DGet.k hH) ru λw' s' I' rw'=>⟨_,H,I',rw',q⟩
 ·obtain⟨u,u2,rfl,ru,ru2⟩:=Qdo rv
  exact QfL hu I (DGet.k hH) ru ru2 λw' s' I' rw'=>⟨_,H,I',rw',q⟩
def QhB(n:Nat)(i:Int):Nat:=if i < 0 then (i+(n:Int)).toNat else min i.toNat n
end
end L2
namespace D
open PySem PySem.Spec PyProof.Rows L2
def za:DV->Option Key
 | .int i=>some (.inl i)
 | .str x=>some (.inr x)
 | _=>none
def Yx(kvs:List (Key×DV))(k:Key):Option DV:=(kvs.find? λkv=>decide (kv.1=k)).map (·.2)
def VY(kvs:List (Key×DV))(k:Key)(d:DV):List (Key×DV) :=
 if (kvs.any λkv=>decide (kv.1=k))=true then kvs.map (λkv=>if kv.1=k then (kv.1,d) else kv) else kvs++[(k,d)]
def Qfi(kvs:List (Key×DV))(k:Key):List (Key×DV):=kvs.filter λkv=>decide (kv.1≠k)
section
variable{K:Aa}{ρ:Es}{B:Er}{H:Hp}{hp:Hs}
theorem zd{v:V}(h:za d=some k)(r:RepV K ρ B H d v):v=kV k:=by
 cases d<;>simp[za] at h<;>subst h
 ·exact r.intI
 ·exact r.strI
abbrev RepK(K:Aa)(ρ:Es)(B:Er)(H:Hp):List (Key×DV)->List (Key×V)->Prop:=Paired λp q=>p.1=q.1/\RepV K ρ B H p.2 q.2
theorem Qac:∀{kvs:List (Key×DV)}{xs:List (Key×V)},xs.map (·.1)=kvs.map (·.1)->RepL K ρ B H (kvs.map (·.2)) (xs.map (·.2))->RepK K ρ B H kvs xs
  | [],[],_,_=>.nil
  | [],_::_,e,_=>by simp at e
  | _::_,[],e,_=>by simp at e
  | p::kvs,q::xs,e,r=>by
    simp only[Bc,List.cons.injEq] at e;simp only[Bc] at r;unfold RepL at r;obtain⟨x,t,e2,h1,h2⟩:=r;simp only[List.cons.injEq] at e2;obtain⟨rfl,rfl⟩:=e2;exact .cons ⟨e.1.symm,h1⟩ (Qac e.2 h2)
theorem RepK.to{kvs:List (Key×DV)}{xs:List (Key×V)}(r:RepK K ρ B H kvs xs):xs.map (·.1)=kvs.map (·.1)/\RepL K ρ B H (kvs.map (·.2)) (xs.map (·.2)):=by
 induction r with
 | nil=>exact⟨rfl,RepL.nil⟩
 | cons h _ ih=>exact⟨by simp[ih.1,h.1],by simpa using RepL.cons h.2 ih.2⟩
theorem RepK.val(r:RepK K ρ B H kvs xs)(k:Key):(Yx kvs k=none/\YY xs k=none)∨∃d v,Yx kvs k=some d/\YY xs k=some v/\RepV K ρ B H d v:=by
  induction r with
  | nil=>exact .inl ⟨rfl,rfl⟩
  | @cons p q _ _ h _ ih =>
    by_cases e:p.1=k
    . exact .inr ⟨p.2,q.2,by simp[Yx,B8,e],by simp[YY,B8,h.1▸e],h.2⟩
    . have e':¬ q.1=k:=h.1▸e
      simpa [Yx,YY,B8,e,e'] using ih
theorem RepK.any{kvs:List (Key×DV)}{xs:List (Key×V)}(r:RepK K ρ B H kvs xs)(k:Key):(kvs.any λkv=>decide (kv.1=k))=xs.any λkv=>decide (kv.1=k):=by
 induction r with
 | nil=>rfl
 | cons h _ ih=>simp only[Cv,ih,h.1]
theorem RepK.repl{kvs:List (Key×DV)}{xs:List (Key×V)}(r:RepK K ρ B H kvs xs)(k:Key)(rd:RepV K ρ B H d v):RepK K ρ B H (kvs.map λkv=>if kv.1=k then (kv.1,d) else kv) (xs.map λkv=>if kv.1=k then (kv.1,v) else kv):=by
  induction r with
  | nil=>exact .nil
  | @cons p q _ _ h _ ih =>
    refine .cons ?_ ih;dsimp only;by_cases e:p.1=k
    . rw[Ec e,Ec (h.1▸e)];exact⟨h.1,rd⟩
    . rw[Eb e,Eb (h.1▸e)];exact h
theorem RepK.snoc{kvs:List (Key×DV)}{xs:List (Key×V)}(r:RepK K ρ B H kvs xs)(rd:RepV K ρ B H d v):RepK K ρ B H (kvs++[(k,d)]) (xs++[(k,v)]):=by
 induction r with
 | nil=>exact .cons ⟨rfl,rd⟩ .nil
 | cons h _ ih=>exact .cons h ih
theorem RepK.put(r:RepK K ρ B H kvs xs)(k:Key)(rd:RepV K ρ B H d v):RepK K ρ B H (VY kvs k d) (xr xs k v):=by
 unfold VY xr;rw[r.any k];split
 ·exact r.repl k rd
 ·exact r.snoc rd
def RepK.len{kvs:List (Key×DV)}{xs:List (Key×V)}(r:RepK K ρ B H kvs xs):kvs.length=xs.length:=Paired.length r
def RepK.gs(g:Gs K ρ B H ρ' B' H')(r:RepK K ρ B H kvs xs):RepK K ρ' B' H' kvs xs:=L2.Paired.mapP r λ_ _ h=>⟨h.1,RepV.gs g _ _ h.2⟩
theorem ORep.dic{a:Addr}(h:ORep K ρ B H a (.dic kvs)):∃xs,H a=some (.dK xs)/\RepK K ρ B H kvs xs:=by
 obtain⟨xs,e,ek,rl⟩:=h;exact⟨xs,e,Qac ek rl⟩
def RepK.orep{a:Addr}(r:RepK K ρ B H kvs xs)(e:H a=some (.dK xs)):ORep K ρ B H a (.dic kvs):=⟨xs,e,r.to.1,r.to.2⟩
theorem Qdw{n:Nat}{a:Addr}(W:WOk K ρ B hp H)(i:ρ[n]?=some a)(e:H a=some (.dK xs))(r:RepK K ρ B H kvs' xs'):Gr K ρ B H ρ B (upd H a (.dK xs'))/\WOk K ρ B (hp.set n (.dic kvs')) (upd H a (.dK xs')):=by
 have g:Gr K ρ B H ρ B (upd H a (.dK xs')):=Gr.wset i e;exact⟨g,W.wset (o':=.dK xs') (v:=.dic kvs') i e ((r.gs (g.gs W.rb)).orep Zg)⟩
theorem Ut{n:Nat}{a:Addr}(W:WOk K ρ B hp H)(i:ρ[n]?=some a)(e:H a=some o)(r:RepL K ρ B H ds' xs'):Gr K ρ B H ρ B (upd H a (.lst xs'))/\WOk K ρ B (hp.set n (.lst ds')) (upd H a (.lst xs')):=by
 have g:Gr K ρ B H ρ B (upd H a (.lst xs')):=Gr.wset i e;exact⟨g,W.wset (o':=.lst xs') (v:=.lst ds') i e ⟨xs',Zg,RepL.grow W.rb g _ _ r⟩⟩
end
section
variable{X:Cx}{e a b c:Expr}{f fa fb fc:DEx}{pos:Pos}
def jb(o:Option DV):M DV:=match o with
 | some d=>pure d
 | none=>failure
theorem yn{o:Option DV}{hp hp':Hs}(h:jb o hp=some (d,hp')):o=some d/\hp=hp':=by
 cases o with
 | none=>cases h
 | some z=>obtain⟨rfl,rfl⟩:=Ql h;exact⟨rfl,rfl⟩
def Yw(d:DV):M Key:=match za d with
 | some k=>pure k
 | none=>failure
theorem qc{hp hp':Hs}(h:Yw d hp=some (k,hp')):za d=some k/\hp=hp':=by
 unfold Yw at h;cases q:za d with
 | none=>rw[q] at h;cases h
 | some z=>rw[q] at h;obtain⟨rfl,rfl⟩:=Ql h;exact⟨rfl,rfl⟩
def ixG:DV->DV->M DV
  | .ref n,y=>do
    match <- ZX n with
    | .lst ds=>do let i <- asI y;jb (atI ds i)
    | .dic kvs=>do let k <- Yw y;jb (Yx kvs k)
    | _=>failure
  | x,y=>ixD x y
theorem QhV(hu:X.A.units+1 < cLine):IxR X (tP2 X.K ixG):=by
  intro value slice O9 s σ H x y v u Q I rx ry h hsub;obtain⟨ρ,B,hp,dx,dy,d,hp',W,r1,r2,e,k⟩:=h;unfold ixG at e;split at e
  . rename_i n
    obtain⟨o,hp1,e1,e2⟩:=Qg e;obtain⟨e3,rfl⟩:=ZI e1;obtain⟨a,rfl,i1,ro⟩:=RepV.refW W r1 e3;cases o with
    | ins _ _=>cases e2
    | dic kvs =>
      obtain⟨ky,hp2,e4,e5⟩:=Qg e2;obtain⟨hk,rfl⟩:=qc e4;obtain⟨hv,rfl⟩:=yn e5;obtain⟨xs,h1,rk⟩:=ro.dic;rcases rk.val ky with ⟨z,_⟩ | ⟨d',v',z,zv,rz⟩
      . rw[hv] at z;cases z
      . rw[hv] at z;cases z
        exact Qd3 hu value slice O9 s σ H _ _ v u Q I rx ry ⟨a,xs,ky,v',rfl,zd hk r2,h1,zv,k _ ρ B H Gr.refl W rz⟩ hsub
    | lst ds =>
      obtain⟨i,hp2,e4,e5⟩:=Qg e2;obtain⟨rfl,rfl⟩:=Vp e4;obtain⟨hv,rfl⟩:=yn e5;obtain⟨xs,h1,l1⟩:=ro;obtain⟨z,hz,rz⟩:=KI l1 hv;exact kM value slice O9 s σ H _ _ v u Q I rx ry ⟨a,xs,i,z,rfl,r2.intI,SqL.of h1,hz,k _ ρ B H Gr.refl W rz⟩ hsub
  . exact QhU value slice O9 s σ H x y v u Q I rx ry ⟨ρ,B,hp,_,_,d,hp',W,r1,r2,e,k⟩ hsub
theorem QE(hu:X.A.units+1 < cLine)(ha:DE X a fa)(hb:DE X b fb)(hs:KF b:=by intro _ _;rfl):DE X (.Subscript a b pos) (Qk ixG fa fb):=L2.PE.imp (Qfw (QhV hu) ha hb hs) λ_ _ _ h=>zh h
def Z4:List DV->M DV
  | [.ref n]=>do
    match <- ZX n with
    | .lst ds=>pure (.int ds.length)
    | .dic kvs=>pure (.int kvs.length)
    | _=>failure
  | xs=>qC xs
theorem JE:JY X (.builtin "len") (tPn X.K Z4):=by
  intro O9 s σ H xs us Q I r h;obtain⟨ρ,B,hp,ds,d,hp',W,rl,e,k⟩:=h;unfold Z4 at e;split at e
  . rename_i n
    obtain⟨o,hp1,e1,e2⟩:=Qg e;obtain⟨e3,rfl⟩:=ZI e1;obtain⟨v,rfl,rv⟩:=rl.oneI;obtain⟨a,rfl,_,ro⟩:=RepV.refW W rv e3;cases o with
    | ins _ _=>cases e2
    | lst zs =>
      obtain⟨rfl,rfl⟩:=Ql e2;obtain⟨ys,h1,l1⟩:=ro;exact qy O9 s σ H _ us Q I r ⟨a,ys,rfl,.inl (SqL.of h1),by rw[<- l1.length];exact k _ ρ B H Gr.refl W Jh⟩
    | dic kvs =>
      obtain⟨rfl,rfl⟩:=Ql e2;obtain⟨ys,h1,l1⟩:=ro.dic;exact Qay O9 s σ H _ us Q I r ⟨a,ys,rfl,h1,by rw[<- l1.len];exact k _ ρ B H Gr.refl W Jh⟩
  . exact gY O9 s σ H xs us Q I r ⟨ρ,B,hp,_,d,hp',W,rl,e,k⟩
def Qib:DV->M (List DV)
  | .tup ds=>pure ds
  | .lst ds=>pure ds
  | .ref n=>do
    match <- ZX n with
    | .lst ds=>pure ds
    | _=>failure
  | _=>failure
theorem Qc6{hp hp':Hs}{K:Aa}{v:V}(W:WOk K ρ B hp H)(r:RepV K ρ B H d v)(h:Qib d hp=some (ds,hp')):hp=hp'/\∃p xs,v=.ref p/\(SqL K H p xs∨SqT K H p xs)/\RepL K ρ B H ds xs:=by
  cases d with
  | tup xs =>
    obtain⟨rfl,rfl⟩:=Ql h;obtain⟨a,ys,rfl,_,sq,l⟩:=r.tupI;exact⟨rfl,a,ys,rfl,.inr sq,l⟩
  | lst xs =>
    obtain⟨rfl,rfl⟩:=Ql h;obtain⟨a,ys,rfl,_,sq,l⟩:=r.lstI;exact⟨rfl,a,ys,rfl,.inl sq,l⟩
  | ref n =>
    obtain⟨o,hp1,e1,e2⟩:=Qg (show(ZX n >>= λo=>(match o with | .lst ds=>pure ds | _=>failure:M (List DV))) hp=some (ds,hp') from h)
    obtain⟨e3,rfl⟩:=ZI e1;cases o with
    | lst zs =>
      obtain⟨rfl,rfl⟩:=Ql e2;obtain⟨a,rfl,_,ys,h1,l1⟩:=RepV.refW W r e3;exact⟨rfl,a,ys,rfl,.inl (SqL.of h1),l1⟩
    | dic _=>cases e2
    | ins _ _=>cases e2
  | non=>cases h
  | bl _=>cases h
  | int _=>cases h
  | str _=>cases h
def QcE(g:DV->M DV):List DV->M DV
 | [d]=>g d
 | _=>failure
def QaZ:List DV->M DV:=QcE λd=>do let ds <- Qib d;pure (.lst ds)
theorem yk{g:DV->M DV}{ds:List DV}(h:QcE g ds hp=some (d,hp')):∃x,ds=[x]/\g x hp=some (d,hp'):=by
 unfold QcE at h;split at h
 ·exact⟨_,rfl,h⟩
 ·cases h
theorem Qby:JY X (.type "list") (tPn X.K QaZ):=by
 intro O9 s σ H xs us Q I r h;obtain⟨ρ,B,hp,ds,d,hp',W,rl,e,k⟩:=h;obtain⟨x,rfl,e⟩:=yk e;obtain⟨zs,hp1,e1,e2⟩:=Qg e;obtain⟨rfl,rfl⟩:=Ql e2;obtain⟨v,rfl,rv⟩:=rl.oneI;obtain⟨rfl,p,ys,rfl,sq,l⟩:=Qc6 W rv e1;exact KL O9 s σ H _ us Q I r ⟨p,ys,rfl,sq,j6 W l k⟩
end
def drf:Nat->Hs->DV->Option DV
  | 0,_,_=>none
  | n+1,hp,d=>match d with
    | .ref i=>match hp[i]? with
      | some (.lst ds)=>(ds.mapM (drf n hp)).map .lst
      | _=>none
    | .tup ds=>(ds.mapM (drf n hp)).map .tup
    | .lst ds=>(ds.mapM (drf n hp)).map .lst
    | d=>some d
theorem VP{α β:Type}{f:α->Option β}{x:α}{xs:List α}{ys:List β}(h:(x::xs).mapM f=some ys):∃y zs,f x=some y/\xs.mapM f=some zs/\ys=y::zs:=by
  rw[List.mapM_cons] at h;cases q:f x with
  | none=>rw[q] at h;cases h
  | some y =>
    cases q2:xs.mapM f with
    | none=>rw[q,q2] at h;cases h
    | some zs=>rw[q,q2] at h;exact⟨y,zs,rfl,rfl,(Am h).symm⟩
section
variable{X:Cx}{O9:Em}{σ:St}{H:Hp}{s:Shared}{ρ:Es}{B:Er}{hp:Hs}
theorem qe(I:Inv X O9 σ H s)(W:WOk X.K ρ B hp H):∀(n:Nat)(d d':DV)(v:V)(u:Value),drf n hp d=some d'->RepV X.K ρ B H d v->RelV v u->∃as,Reads s.heap u (toP d') as
  | 0,_,_,_,_,h,_,_=>by cases h
  | n+1,d,d',v,u,h,r,ru=>by
    have all:∀(ds ds':List DV)(xs:List V)(us:List Value),ds.mapM (drf n hp)=some ds'->RepL X.K ρ B H ds xs->Vals xs us->∃as,ReadsAll s.heap us (toPs ds') as:=by
      intro ds;induction ds with
      | nil =>
        intro ds' xs us h r ru;rw[List.mapM_nil] at h;cases h;unfold RepL at r;subst r;cases ru;exact⟨[],by unfold toPs;exact .nil⟩
      | cons x ds ih =>
        intro ds' xs us h r ru;obtain⟨y,zs,h1,h2,rfl⟩:=VP h;unfold RepL at r;obtain⟨z,t,rfl,r1,r2⟩:=r;cases ru with
        | cons q1 q2 =>
          obtain⟨as,a1⟩:=qe I W n x y z _ h1 r1 q1;obtain⟨bs,a2⟩:=ih zs t _ h2 r2 q2;exact⟨_,by unfold toPs;exact .cons a1 a2⟩
    have lst:∀(ds ds':List DV)(a:Addr)(xs:List V),ds.mapM (drf n hp)=some ds'->SqL X.K H a xs->RepL X.K ρ B H ds xs->∃as,Reads s.heap (.ref a) (toP (.lst ds')) as:=by
      intro ds ds' a xs h sq rl;obtain⟨its,rv,⟨o,k,e,hc,_,hd⟩,_⟩:=I.list sq;obtain⟨as,q⟩:=all ds ds' xs its h rl rv;exact⟨_,by unfold toP;exact reads_list_at e hc hd (by simpa using q)⟩
    unfold drf at h;cases d with
    | non=>cases h;obtain rfl:=r.nonI;cases ru;exact⟨[],by unfold toP;exact .none⟩
    | bl b=>cases h;obtain rfl:=r.blI;cases ru;exact⟨[],by unfold toP;exact .bool b⟩
    | int i=>cases h;obtain rfl:=r.intI;obtain⟨t,rfl⟩:=ru;exact⟨[],by unfold toP;exact .int i t⟩
    | str x=>cases h;obtain rfl:=r.strI;obtain⟨t,rfl⟩:=ru;exact⟨[],by unfold toP;exact .str x t⟩
    | tup ds =>
      obtain⟨ds',h1,rfl⟩:=Cg.mp h;obtain⟨a,xs,rfl,_,sq,rl⟩:=r.tupI;cases ru;obtain⟨its,rv,⟨o,e,hc,k,hd⟩,_⟩:=I.tuple sq;obtain⟨as,q⟩:=all ds ds' xs its h1 rl rv;exact⟨_,by unfold toP;exact reads_tuple_at e hc hd (by simpa using q)⟩
    | lst ds =>
      obtain⟨ds',h1,rfl⟩:=Cg.mp h;obtain⟨a,xs,rfl,_,sq,rl⟩:=r.lstI;cases ru;exact lst ds ds' a xs h1 sq rl
    | ref i =>
      cases q:hp[i]? with
      | none=>simp only[q] at h;cases h
      | some o =>
        simp only[q] at h;cases o with
        | dic _=>cases h
        | ins _ _=>cases h
        | lst ds =>
          obtain⟨ds',h1,rfl⟩:=Cg.mp h;obtain⟨a,rfl,_,xs,h2,l⟩:=RepV.refW W r q;cases ru;exact lst ds ds' a xs h1 (SqL.of h2) l
end
def QaG(d:DV):M DV:=λhp=>(drf 40 hp d).map λx=>(x,hp)
theorem U7{hp hp':Hs}(h:QaG d hp=some (d',hp')):drf 40 hp d=some d'/\hp=hp':=by
 obtain⟨x,h1,h2⟩:=Cg.mp h;cases h2;exact⟨h1,rfl⟩
def VE(x y:DV):M Bool:=do
 let x' <- QaG x
 let y' <- QaG y
 Qy (SeqAt.shaped (toP x')&&SeqAt.shaped (toP y'))
 pure (PyData.eqv (toP x') (toP y'))
def eqG:DV->DV->M DV:=λx y=>do let b <- VE x y;pure (.bl b)
def neG:DV->DV->M DV:=λx y=>do let b <- VE x y;pure (.bl (!b))
section
variable{X:Cx}{e a b c:Expr}{f fa fb fc:DEx}{ca cb:DTx}{pos:Pos}
theorem U9{k:Bool}{hp hp':Hs}(h:VE x y hp=some (k,hp')):∃x' y',drf 40 hp x=some x'/\drf 40 hp y=some y'/\SeqAt.shaped (toP x')=true/\SeqAt.shaped (toP y')=true/\k=PyData.eqv (toP x') (toP y')/\hp=hp':=by
 obtain⟨x',hp1,e1,h⟩:=Qg h;obtain⟨y',hp2,e2,h⟩:=Qg h;obtain⟨_,hp3,e3,h⟩:=Qg h;obtain⟨q1,rfl⟩:=U7 e1;obtain⟨q2,rfl⟩:=U7 e2;obtain⟨hs,rfl⟩:=QL e3;obtain⟨rfl,rfl⟩:=Ql h;rw[Be] at hs;exact⟨x',y',q1,q2,hs.1,hs.2,rfl,rfl⟩
theorem yH(hu:X.A.units+64 < cLine):P2 X (compareOp .Eq) eqG:=by
 intro O9 s σ H x y v u Q I rx ry h;obtain⟨ρ,B,hp,dx,dy,d,hp',W,r1,r2,e,k⟩:=h;obtain⟨b,hp1,e1,e2⟩:=Qg e;obtain⟨rfl,rfl⟩:=Ql e2;obtain⟨x',y',q1,q2,s1,s2,rfl,rfl⟩:=U9 e1;obtain⟨as,a1⟩:=qe I W _ _ _ _ _ q1 r1 rx;obtain⟨bs,a2⟩:=qe I W _ _ _ _ _ q2 r2 ry;exact eq_dataH a1 a2 s1 s2 hu ⟨.bl _,H,I,rfl,k _ ρ B H Gr.refl W Xq⟩
theorem kU(hu:X.A.units+64 < cLine):P2 X (compareOp .NotEq) neG:=by
 intro O9 s σ H x y v u Q I rx ry h;obtain⟨ρ,B,hp,dx,dy,d,hp',W,r1,r2,e,k⟩:=h;obtain⟨b,hp1,e1,e2⟩:=Qg e;obtain⟨rfl,rfl⟩:=Ql e2;obtain⟨x',y',q1,q2,s1,s2,rfl,rfl⟩:=U9 e1;obtain⟨as,a1⟩:=qe I W _ _ _ _ _ q1 r1 rx;obtain⟨bs,a2⟩:=qe I W _ _ _ _ _ q2 r2 ry;exact ne_dataH a1 a2 s1 s2 hu ⟨.bl _,H,I,rfl,k _ ρ B H Gr.refl W Xq⟩
def Js:DV->Bool
 | .non=>true
 | .bl _=>true
 | .int _=>true
 | .str _=>true
 | _=>false
def eqF:DV->DV->Bool
 | .non,.non=>true
 | .bl a,.bl b=>a==b
 | .bl a,.int b=>(if a then 1 else 0)==b
 | .int a,.bl b=>a==(if b then 1 else 0)
 | .int a,.int b=>a==b
 | .str a,.str b=>a==b
 | _,_=>false
def vOf:DV->V
 | .non=>.non
 | .bl b=>.bl b
 | .int i=>.int i
 | .str x=>.str x
 | _=>.non
theorem Qal{K:Aa}{v:V}(h:Js d=true)(r:RepV K ρ B H d v):v=vOf d:=by
 cases d<;>simp[Js] at h
 ·exact r.nonI
 ·exact r.blI
 ·exact r.intI
 ·exact r.strI
theorem vh(h:Js d=true):YC (vOf d)=true:=by cases d<;>simp[Js] at h<;>rfl
theorem QdR{d e:DV}(h:Js d=true)(h':Js e=true):eqV (vOf d) (vOf e)=eqF d e:=by cases d<;>simp[Js] at h<;>cases e<;>simp[Js] at h'<;>rfl
theorem Qak{K:Aa}:∀{ds:List DV}{xs:List V},ds.all Js=true->RepL K ρ B H ds xs->xs=ds.map vOf
  | [],_,_,r=>by unfold RepL at r;exact r
  | d::ds,_,h,r=>by
    unfold RepL at r;obtain⟨x,t,rfl,r1,r2⟩:=r;rw[C6,Be] at h;rw[Qal h.1 r1,Qak h.2 r2];rfl
def inB(d:DV)(ds:List DV):Bool:=ds.any λy=>eqF y d
theorem kH{d:DV}(h:Js d=true):∀{ds:List DV},ds.all Js=true->inV (vOf d) (ds.map vOf)=inB d ds
  | [],_=>rfl
  | x::ds,h'=>by
    rw[C6,Be] at h';have ih:=kH h h'.2;unfold inV inB at ih ⊢;rw[Bc,Cv,Cv,ih,QdR h'.1 h]
theorem GN:∀{ds:List DV},ds.all Js=true->(ds.map vOf).all YC=true
  | [],_=>rfl
  | x::ds,h=>by
    rw[C6,Be] at h;rw[Bc,C6,vh h.1,GN h.2];rfl
def Qcr(x:DV):DV->M Bool
  | .ref n=>do
    match <- ZX n with
    | .lst ds=>do Qy (Js x&&ds.all Js);pure (inB x ds)
    | .dic kvs=>do let k <- Yw x;pure (Yx kvs k).isSome
    | _=>failure
  | .tup ds=>do Qy (Js x&&ds.all Js);pure (inB x ds)
  | .lst ds=>do Qy (Js x&&ds.all Js);pure (inB x ds)
  | _=>failure
def inG:DV->DV->M DV:=λx y=>do let b <- Qcr x y;pure (.bl b)
def Qd9:DV->DV->M DV:=λx y=>do let b <- Qcr x y;pure (.bl (!b))
theorem VQ{k:Bool}{hp hp':Hs}{K:Aa}(W:WOk K ρ B hp H)(r1:RepV K ρ B H x vx)(r2:RepV K ρ B H y vy)(h:Qcr x y hp=some (k,hp')):hp=hp' /\
    ((∃p xs,vy=.ref p/\(SqL K H p xs∨SqT K H p xs)/\YC vx=true/\xs.all YC=true/\k=inV vx xs)∨∃a kvs ky,vy=.ref a/\vx=kV ky/\H a=some (.dK kvs)/\k=(YY kvs ky).isSome):=by
  have seq:∀(ds:List DV)(xs:List V)(p:Addr),(do Qy (Js x&&ds.all Js);pure (inB x ds):M Bool) hp=some (k,hp')->RepL K ρ B H ds xs->(SqL K H p xs∨SqT K H p xs)->vy=.ref p->hp=hp'/\(∃p xs,vy=.ref p/\(SqL K H p xs∨SqT K H p xs)/\YC vx=true/\xs.all YC=true/\k=inV vx xs):=by
    intro ds xs p h rl sq ev;obtain⟨_,hp1,e1,e2⟩:=Qg h;obtain⟨hs,rfl⟩:=QL e1;obtain⟨rfl,rfl⟩:=Ql e2;rw[Be] at hs;have ex:=Qak hs.2 rl;have e0:=Qal hs.1 r1;subst ex e0;exact⟨rfl,p,_,ev,sq,vh hs.1,GN hs.2,(kH hs.1 hs.2).symm⟩
  cases y with
  | tup ds =>
    obtain⟨a,xs,rfl,_,sq,rl⟩:=r2.tupI;exact(seq ds xs a h rl (.inr sq) rfl).imp id .inl
  | lst ds =>
    obtain⟨a,xs,rfl,_,sq,rl⟩:=r2.lstI;exact(seq ds xs a h rl (.inl sq) rfl).imp id .inl
  | ref n =>
    obtain⟨o,hp1,e1,e2⟩:=Qg h;obtain⟨e3,rfl⟩:=ZI e1;obtain⟨a,rfl,_,ro⟩:=RepV.refW W r2 e3;cases o with
    | lst ds =>
      obtain⟨xs,h1,rl⟩:=ro;exact(seq ds xs a e2 rl (.inl (SqL.of h1)) rfl).imp id .inl
    | dic kvs =>
      obtain⟨ky,hp2,e4,e5⟩:=Qg e2;obtain⟨hk,rfl⟩:=qc e4;obtain⟨rfl,rfl⟩:=Ql e5;obtain⟨xs,h1,rk⟩:=ro.dic;refine⟨rfl,.inr ⟨a,xs,ky,rfl,zd hk r1,h1,?_⟩⟩;rcases rk.val ky with ⟨z1,z2⟩ | ⟨_,_,z1,z2,_⟩<;>rw[z1,z2]<;>rfl
    | ins _ _=>cases e2
  | non=>cases h
  | bl _=>cases h
  | int _=>cases h
  | str _=>cases h
theorem Qfu(hu:X.A.units+1 < cLine):P2 X (compareOp .In) inG:=by
 intro O9 s σ H x y v u Q I rx ry h;obtain⟨ρ,B,hp,dx,dy,d,hp',W,r1,r2,e,k⟩:=h;obtain⟨b,hp1,e1,e2⟩:=Qg e;obtain⟨rfl,rfl⟩:=Ql e2;obtain⟨rfl,h⟩:=VQ W r1 r2 e1;have fin:=k _ ρ B H Gr.refl W (Xq (b:=b));rcases h with ⟨p,xs,rfl,sq,f1,f2,rfl⟩ | ⟨a,kvs,ky,rfl,rfl,h1,rfl⟩
 ·exact Qa3 O9 s σ H _ _ v u Q I rx ry ⟨p,xs,rfl,sq,f1,f2,fin⟩
 ·exact uT hu O9 s σ H _ _ v u Q I rx ry ⟨a,kvs,ky,rfl,rfl,h1,fin⟩
theorem Qgn(hu:X.A.units+1 < cLine):P2 X (compareOp .NotIn) Qd9:=by
 intro O9 s σ H x y v u Q I rx ry h;obtain⟨ρ,B,hp,dx,dy,d,hp',W,r1,r2,e,k⟩:=h;obtain⟨b,hp1,e1,e2⟩:=Qg e;obtain⟨rfl,rfl⟩:=Ql e2;obtain⟨rfl,h⟩:=VQ W r1 r2 e1;have fin:=k _ ρ B H Gr.refl W (Xq (b:=!b));rcases h with ⟨p,xs,rfl,sq,f1,f2,rfl⟩ | ⟨a,kvs,ky,rfl,rfl,h1,rfl⟩
 ·exact Gj O9 s σ H _ _ v u Q I rx ry ⟨p,xs,rfl,sq,f1,f2,fin⟩
 ·exact UL hu O9 s σ H _ _ v u Q I rx ry ⟨a,kvs,ky,rfl,rfl,h1,fin⟩
def yp(o i d:DV):M Unit:=match o with
  | .ref n=>do
    match <- ZX n with
    | .lst ds=>do
      let k <- asI i
      match ixN ds.length k with
      | some j=>xE n (.lst (ds.set j d))
      | none=>failure
    | .dic kvs=>do
      let k <- Yw i
      Qy (decide (kvs.length < lim))
      xE n (.dic (VY kvs k d))
    | _=>failure
  | _=>failure
def tP3(K:Aa)(g:DV->DV->DV->M Unit):QdA:=λo i v H Q=>∃ρ B hp dO di dv hp',WOk K ρ B hp H/\RepV K ρ B H dO o/\RepV K ρ B H di i/\RepV K ρ B H dv v/\g dO di dv hp=some ((),hp')/\∀ρ' B' H',Gr K ρ B H ρ' B' H'->WOk K ρ' B' hp' H'->Q H'
theorem RepL.set{K:Aa}(r:RepV K ρ B H d x):∀{ds:List DV}{xs:List V}(i:Nat),RepL K ρ B H ds xs->RepL K ρ B H (ds.set i d) (xs.set i x)
  | [],_,i,h=>by unfold RepL at h;subst h;exact RepL.nil
  | _::ds,_,0,h=>by
    unfold RepL at h;obtain⟨y,t,rfl,_,h2⟩:=h;exact RepL.cons r h2
  | _::ds,_,i+1,h=>by
    unfold RepL at h;obtain⟨y,t,rfl,h1,h2⟩:=h;exact RepL.cons h1 (RepL.set r i h2)
theorem QhW(hu:X.A.units+1 < cLine):Qdz X (tP3 X.K yp):=by
  intro O9 s σ H o i v ov iv u Q I ro ri rv h;obtain⟨ρ,B,hp,dO,di,dv,hp',W,r1,r2,r3,e,k⟩:=h;cases dO with
  | ref n =>
    obtain⟨ob,hp1,e1,e2⟩:=Qg e;obtain⟨e3,rfl⟩:=ZI e1;obtain⟨a,rfl,i1,rob⟩:=RepV.refW W r1 e3;cases ob with
    | ins _ _=>cases e2
    | lst ds =>
      obtain⟨j,hp2,e4,e5⟩:=Qg e2;obtain⟨rfl,rfl⟩:=Vp e4;obtain⟨xs,h1,l1⟩:=rob;cases q:ixN ds.length j with
      | none=>simp only[q] at e5;cases e5
      | some m =>
        simp only[q] at e5;cases e5;obtain⟨g,W'⟩:=Ut W i1 h1 (RepL.set r3 m l1);exact Qc9 O9 s σ H _ _ v ov iv u Q I ro ri rv ⟨a,xs,j,m,rfl,r2.intI,h1,by rw[<- l1.length];exact q,k ρ B _ g W'⟩
    | dic kvs =>
      obtain⟨ky,hp2,e4,e5⟩:=Qg e2;obtain⟨hk,rfl⟩:=qc e4;obtain⟨_,hp3,e6,e7⟩:=Qg e5;obtain⟨hl,rfl⟩:=QL e6;cases e7;obtain⟨xs,h1,rk⟩:=rob.dic;obtain⟨g,W'⟩:=Qdw W i1 h1 (rk.put ky r3);exact Qc8 hu O9 s σ H _ _ v ov iv u Q I ro ri rv ⟨a,xs,ky,rfl,zd hk r2,h1,by rw[<- rk.len];exact Az (Eh hl) Gg,k ρ B _ g W'⟩
  | non=>cases e
  | bl _=>cases e
  | int _=>cases e
  | str _=>cases e
  | tup _=>cases e
  | lst _=>cases e
def gSb(f g:DEx):DGx:=λd env=>do
 let o <- f env
 let i <- g env
 yp o i d
 pure env
theorem Vy(hu:X.A.units+1 < cLine)(ho:DE X o fo)(hi:DE X i fi)
  (ha:∀v,assign (.Subscript o i pos) X.env v=(do
   let ov <- holding [v] (eval o X.env)
   let iv <- holding [v,ov] (eval i X.env)
   standAt pos
   holding [v,ov,iv] (setItem ov iv v)
   release [v,ov,iv] []):=by intro _;rfl):PG X (.Subscript o i pos) (tDG X.K (gSb fo fi)):=by
 intro O9 s σ H v u Q I r h;refine Qgz ho hi (QhW hu) ha O9 s σ H v u Q I r ?_;obtain⟨Z,env,ρ,B,hp,d,env',hp',S,rd,e,k⟩:=h;obtain⟨x,hp1,e1,e⟩:=Qg e;obtain⟨y,hp2,e2,e⟩:=Qg e;obtain⟨z,hp3,e3,e⟩:=Qg e;obtain⟨rfl,rfl⟩:=Ql e;refine tD.run S e1 λvx ρ1 B1 H1 g1 S1 r1=>tD.run S1 e2 λvy ρ2 B2 H2 g2 S2 r2=>?_;exact⟨ρ2,B2,hp2,x,y,d,hp3,S2.wo,RepV.grow S1.wo.rb g2 _ _ r1,r2,RepV.grow S.wo.rb (g1.trans g2) _ _ rd,e3,λρ3 B3 H3 g3 W3=>k _ ρ3 B3 H3 ((g1.trans (g2.trans g3)).gs S.wo.rb) (S2.grow g3 W3)⟩
def X0:String->DV->M Unit
  | "list", .lst _=>pure ()
  | "str", .str _=>pure ()
  | T,.ref n=>do
    match <- ZX n with
    | .lst _=>Qy (T == "list")
    | .dic _=>Qy (T == "dict")
    | _=>failure
  | _,_=>failure
theorem Qcb{T:String}{hp hp':Hs}{K:Aa}{u:Unit}(W:WOk K ρ B hp H)(r:RepV K ρ B H d v)(h:X0 T d hp=some (u,hp')):hp=hp'/\tyV K T v H:=by
  unfold X0 at h;split at h
  . obtain⟨_,rfl⟩:=Ql h
    obtain⟨a,xs,rfl,_,sq,_⟩:=r.lstI;exact⟨rfl,.inl ⟨rfl,xs,sq⟩⟩
  . obtain⟨_,rfl⟩:=Ql h
    obtain rfl:=r.strI;exact⟨rfl,rfl⟩
  . obtain⟨o,hp1,e1,e2⟩:=Qg h
    obtain⟨e3,rfl⟩:=ZI e1;obtain⟨a,rfl,_,ro⟩:=RepV.refW W r e3;cases o with
    | lst ds =>
      obtain⟨hT,rfl⟩:=QL e2;obtain⟨xs,h1,_⟩:=ro;exact⟨rfl,.inl ⟨by simpa using hT,xs,SqL.of h1⟩⟩
    | dic kvs =>
      obtain⟨hT,rfl⟩:=QL e2;obtain⟨xs,h1,_⟩:=ro;exact⟨rfl,.inr (.inr (.inl ⟨by simpa using hT,.inl ⟨xs,h1⟩⟩))⟩
    | ins _ _=>cases e2
  . cases h
def tPm(K:Aa)(m:DV->List DV->M DV):V->List V->Hp->VK->Prop:=λx vs H Q=>∃ρ B hp dx ds d hp',WOk K ρ B hp H/\RepV K ρ B H dx x/\RepL K ρ B H ds vs/\m dx ds hp=some (d,hp')/\Fol K ρ B H d hp' Q
def Xd(T:String)(m:DV->List DV->M DV)(f:DEx)(a:DAx):DEx:=λenv=>do
 let x <- f env
 X0 T x
 let ds <- a env
 m x ds
theorem jt{T id:String}{name:Str}{es:List Expr}{m:DV->List DV->M DV}{apos cpos:Pos}(hm:MtR X id (tPm X.K m))(pa:PlainAttrs T)(slot:Slot T name id)(hty:typeOf (.builtin id)=pure (.type "method_descriptor"))(ho:DE X o fo)(ha:DA X (e::es) fs)
  (hbase:attributeBase o name X.env (eval o X.env)=eval o X.env:=by rfl)
  (hfew:((backTo cpos (starEach (e::es) X.env)).all (λx=>!x.1)&&(backToKw cpos (keywordEach [] X.env)).all (λx=>x.1.isSome)
   && decide ((e::es).length+([]:List Keyword).length+(if ([]:List Keyword).isEmpty then 0 else 1) < 30))=true:=by rfl)
  (hline:(apos.endLine==cpos.line)=true:=by rfl) (hs:starEach (e::es) X.env=(false,eval e X.env)::starEach es X.env:=by rfl) (hplain:(backTo cpos (starEach es X.env)).any (·.1)=false:=by rfl) :
  DE X (.Call (.Attribute o name apos) (e::es) [] cpos) (Xd T m fo fs) :=
 L2.PE.imp (QhY pa slot hty hm ho ha hbase hfew hline hs hplain) λσ H Q zz1=>by
  obtain⟨Z,env,ρ,B,hp,d,hp',S,e,k⟩:=zz1;obtain⟨x,hp1,e1,ea⟩:=Qg e;obtain⟨_,hp2,e2,eb⟩:=Qg ea;obtain⟨ds,hp3,e3,ec⟩:=Qg eb;refine tD.run S e1 λv ρ1 B1 H1 g1 S1 r1=>?_;obtain⟨z,ty⟩:=Qcb S1.wo r1 e2;rw[<- z] at e3;exact⟨ty,tDA.run S1 e3 λvs ρ2 B2 H2 g2 S2 r2=>⟨ρ2,B2,hp3,x,ds,d,hp',S2.wo,RepV.grow S1.wo.rb g2 _ _ r1,r2,ec,k.after (g1.trans g2)⟩⟩
def onL(x:DV)(k:Nat->List DV->M DV):M DV:=match x with
  | .ref n=>do
    match <- ZX n with
    | .lst ds=>k n ds
    | _=>failure
  | _=>failure
def onD(x:DV)(k:Nat->List (Key×DV)->M DV):M DV:=match x with
  | .ref n=>do
    match <- ZX n with
    | .dic ds=>k n ds
    | _=>failure
  | _=>failure
theorem VS{x d:DV}{k:Nat->List DV->M DV}{hp hp':Hs}(h:onL x k hp=some (d,hp')):∃n ds,x=.ref n/\hp[n]?=some (.lst ds)/\k n ds hp=some (d,hp'):=by
  cases x with
  | ref n =>
    obtain⟨o,hp1,e1,e2⟩:=Qg h;obtain⟨e3,rfl⟩:=ZI e1;cases o with
    | lst ds=>exact⟨n,ds,rfl,e3,e2⟩
    | dic _=>cases e2
    | ins _ _=>cases e2
  | _=>cases h
theorem vG{x d:DV}{k:Nat->List (Key×DV)->M DV}{hp hp':Hs}(h:onD x k hp=some (d,hp')):∃n ds,x=.ref n/\hp[n]?=some (.dic ds)/\k n ds hp=some (d,hp'):=by
  cases x with
  | ref n =>
    obtain⟨o,hp1,e1,e2⟩:=Qg h;obtain⟨e3,rfl⟩:=ZI e1;cases o with
    | dic ds=>exact⟨n,ds,rfl,e3,e2⟩
    | lst _=>cases e2
    | ins _ _=>cases e2
  | _=>cases h
def ZG(x:DV):List DV->M DV
 | [d]=>onL x λn ds=>do Qy (decide (ds.length < lim));xE n (.lst (ds++[d]));pure .non
 | _=>failure
theorem zt:MtR X "list.append" (tPm X.K ZG):=by
 intro O9 s σ H x vs v us Q I rx rv h;obtain⟨ρ,B,hp,dx,es,d,hp',W,r1,r2,e,k⟩:=h;unfold ZG at e;split at e
 ·rename_i y
  obtain⟨n,ds,rfl,h0,e⟩:=VS e;obtain⟨_,hp1,e1,e2⟩:=Qg e;obtain⟨hl,rfl⟩:=QL e1;cases e2;obtain⟨a,rfl,i1,xs,h1,l1⟩:=RepV.refW W r1 h0;obtain⟨w,rfl,rw'⟩:=r2.oneI;obtain⟨g,W'⟩:=Ut W i1 h1 (RepL.append l1 (RepL.one rw'));exact Kj O9 s σ H _ _ v us Q I rx rv ⟨a,xs,w,rfl,rfl,h1,by rw[<- l1.length];exact Az (Eh hl) Gg,k _ ρ B _ g W' zT⟩
 ·cases e
def X7(x:DV):List DV->M DV
 | [.int i,d]=>onL x λn ds=>do Qy (decide (ds.length < lim)&&Uk i);xE n (.lst (ds.take (QhB ds.length i)++d::ds.drop (QhB ds.length i)));pure .non
 | _=>failure
def xj(x:DV):List DV->M DV
  | [y]=>onD x λn kvs=>do
    let k <- Yw y
    let d <- jb (Yx kvs k)
    xE n (.dic (Qfi kvs k))
    pure d
  | [y,z]=>onD x λn kvs=>do
    let k <- Yw y
    match Yx kvs k with
    | some d=>do xE n (.dic (Qfi kvs k));pure d
    | none=>pure z
  | _=>failure
def YF(x:DV):List DV->M DV
  | [y]=>onD x λn kvs=>do
    let k <- Yw y
    pure ((Yx kvs k).getD .non)
  | [y,z]=>onD x λn kvs=>do
    let k <- Yw y
    pure ((Yx kvs k).getD z)
  | _=>failure
theorem Qga(hu:X.A.units+1 < cLine):MtR X "dict.get" (tPm X.K YF):=by
 intro O9 s σ H x vs v us Q I rx rv h;obtain⟨ρ,B,hp,dx,es,d,hp',W,r1,r2,e,k⟩:=h;unfold YF at e;split at e
 ·rename_i y
  obtain⟨n,kvs,rfl,h0,e⟩:=vG e;obtain⟨ky,hp1,e1,e⟩:=Qg e;obtain⟨hk,rfl⟩:=qc e1;obtain⟨rfl,rfl⟩:=Ql e;obtain⟨a,rfl,i1,ro⟩:=RepV.refW W r1 h0;obtain⟨xs,h1,rk⟩:=ro.dic;obtain⟨w,rfl,rw'⟩:=r2.oneI;obtain rfl:=zd hk rw';refine kS hu O9 s σ H _ _ v us Q I rx rv ⟨a,xs,ky,rfl,h1,.inl ⟨rfl,k _ ρ B H Gr.refl W ?_⟩⟩;rcases rk.val ky with ⟨z1,zv⟩ | ⟨d'',v',z1,zv,rz⟩<;>rw[z1,zv]
  ·exact zT
  ·exact rz
 ·rename_i y z
  obtain⟨n,kvs,rfl,h0,e⟩:=vG e;obtain⟨ky,hp1,e1,e⟩:=Qg e;obtain⟨hk,rfl⟩:=qc e1;obtain⟨rfl,rfl⟩:=Ql e;obtain⟨a,rfl,i1,ro⟩:=RepV.refW W r1 h0;obtain⟨xs,h1,rk⟩:=ro.dic;unfold RepL at r2;obtain⟨w,t,rfl,rw',r2⟩:=r2;obtain rfl:=zd hk rw';obtain⟨w2,rfl,rw2⟩:=r2.oneI;refine kS hu O9 s σ H _ _ v us Q I rx rv ⟨a,xs,ky,rfl,h1,.inr ⟨w2,rfl,k _ ρ B H Gr.refl W ?_⟩⟩;rcases rk.val ky with ⟨z1,zv⟩ | ⟨d'',v',z1,zv,rz⟩<;>rw[z1,zv]
  ·exact rw2
  ·exact rz
 ·cases e
end
end D
namespace L2
open PySem PySem.Spec PyProof.Rows
theorem Inv.kfresh{X:Cx}{s:Shared}(I:Inv X O9 σ H s):X.K.lookup s.heap.objs.size=none:=by
 cases q:X.K.lookup s.heap.objs.size with
 | none=>rfl
 | some o=>exact absurd (Aq (I.kIn _ o q)) (Cy _)
theorem Qa8{X:Cx}:PE X (.Dict [] [] pos) (λ_ H Q=>∀p,H p=none->X.K.lookup p=none->Q (.ref p) (upd H p (.dK []))):=λO9 s σ H Q I h =>
 wpAny_Dict_empty ⟨.ref s.heap.objs.size,_,I.laid (a:=s.heap.objs.size) (o:=.dK []) (t':=s.toks) (λ_ _ q=>Ae _ q) (Ag _) (QbJ s.heap I.big),rfl,h _ (I.hok.fresh (Ag _)) I.kfresh⟩
end L2
namespace D
open PySem PySem.Spec PyProof.Rows L2
section
variable{X:Cx}{e a b c:Expr}{f fa fb fc:DEx}{ca cb:DTx}{pos:Pos}
def evP:List (DEx×DEx)->En->M (List (Key×DV))
  | [],_=>pure []
  | (f,g)::r,env=>do
    let x <- f env
    let k <- Yw x
    let y <- g env
    let ps <- evP r env
    pure ((k,y)::ps)
def Qgb(kvs more:List (Key×DV)):List (Key×DV):=more.foldl (λacc kv=>VY acc kv.1 kv.2) kvs
def jY(ps:List (DEx×DEx)):DEx:=λenv=>do
 let kvs <- evP ps env
 Qy (decide (kvs.length<=15))
 XT (.dic (Qgb [] kvs))
def Xn:DEx:=λ_=>XT (.dic [])
theorem G4:DE X (.Dict [] [] pos) Xn:=L2.PE.imp Qa8 λσ H Q zz1=>by
 obtain⟨Z,env,ρ,B,hp,d,hp',S,e,k⟩:=zz1;cases e;intro p hn hk;have g:Gr X.K ρ B H (ρ++[p]) (yZ B p) (upd H p (.dK [])):=Gr.wnew hn hk;refine k _ _ _ _ g (S.wo.wnew hn hk (RepK.orep (xs:=[]) .nil Zg)) ?_;unfold RepV;exact⟨p,rfl,by rw[<- S.wo.len];simp⟩
abbrev NX:=Nat->M (Option DV)
def Qbq(K:Aa)(ρ:Es)(B:Er)(H:Hp)(nxt:NX)(J:It):Prop :=
  ∀ρ1 B1 hp1 H1, Gs K ρ B H ρ1 B1 H1 -> WOk K ρ1 B1 hp1 H1 -> ∀(i : Nat)(o : Option DV)(hp2 : Hs), nxt i hp1 = some (o, hp2) -> hp2 = hp1 /\ match o with
    | none=>J.stop i H1
    | some d=>J.go i H1/\∀x H',J.yld i H1 x H'->RepV K ρ1 B1 H' d x/\(H'=H1∨∃p o,H1 p=none/\H'=upd H1 p o)
abbrev DXx:=En->M NX
def tDX(K:Aa)(f:DXx):TI:=λσ H R=>∃Z env ρ B hp nxt hp',SOk K Z env σ ρ B hp H/\f env hp=some (nxt,hp')/\∀J ρ' B' H',Gr K ρ B H ρ' B' H'->WOk K ρ' B' hp' H'->Qbq K ρ' B' H' nxt J->R J H'
def DX(X:Cx)(tg iter:Expr)(f:DXx):Prop:=PI X tg iter (tDX X.K f)
def nxD(ds:List DV):NX:=λi=>if i<=ds.length then pure ds[i]? else failure
def nxW(n:Nat):NX:=λi=>do
 match <- ZX n with
 | .lst ds=>pure ds[i]?
 | _=>failure
theorem QcC{K:Aa}(h:Qaq K ρ B H ds J):Qbq K ρ B H (nxD ds) J:=λρ1 B1 hp1 H1 g W i o hp2 e=>by
  unfold nxD at e;by_cases hi:i<=ds.length
  . rw[Ec hi] at e
    obtain⟨rfl,rfl⟩:=Ql e;obtain⟨h1,h2⟩:=h ρ1 B1 H1 g W.rb W.bt;refine⟨rfl,?_⟩;cases q:ds[i]? with
    | none =>
      have:i=ds.length:=by have:=List.getElem?_eq_none_iff.mp q;lia
      subst this;exact h2
    | some d=>exact h1 i d q
  . rw[Eb hi] at e;cases e
theorem Qgd{K:Aa}{ρ:Es}{n:Nat}{a:Addr}(ha:ρ[n]?=some a)(kf:∀H1:Hp,∀xs ys,H1 a=some (.lst xs)->SqL K H1 a ys->ys=xs):Qbq K ρ B H (nxW n) (Itl K a):=λρ1 B1 hp1 H1 g W i o hp2 e=>by
  obtain⟨ob,hp3,e1,e2⟩:=Qg e;obtain⟨e3,rfl⟩:=ZI e1;have ha1:=kY g.pre ha;cases ob with
  | dic _=>cases e2
  | ins _ _=>cases e2
  | lst ds =>
    obtain⟨rfl,rfl⟩:=Ql e2;obtain⟨xs,h1,l1⟩:=W.obj n a _ ha1 e3;refine⟨rfl,?_⟩;cases q:ds[i]? with
    | none=>exact⟨xs,SqL.of h1,by rw[<- l1.length];exact List.getElem?_eq_none_iff.mp q⟩
    | some d =>
      obtain⟨x,hx,rx⟩:=l1.get q;refine⟨⟨xs,x,SqL.of h1,hx⟩,λy H' ⟨eH,hy⟩=>?_⟩;subst eH;have:=hy xs (SqL.of h1);rw[hx] at this;cases this;exact⟨rx,.inl rfl⟩
theorem Qdg{K:Aa}{a:Addr}(hk:K.lookup a=none)(H:Hp)(xs ys:List V)(h:H a=some (.lst xs))(h':SqL K H a ys):ys=xs:=by
 rcases h' with (h' | ⟨o,h'⟩) | ⟨o,_,_,h',_⟩
 ·rw[h] at h';cases h';rfl
 ·rw[h] at h';cases h'
 ·rw[hk] at h';cases h'
def xOf(f:DIx):DXx:=λenv=>do let ds <- f env;pure (nxD ds)
def xLs(f:DEx):DXx:=λenv=>do
  match <- f env with
  | .lst ds=>pure (nxD ds)
  | .ref n=>do
    match <- ZX n with
    | .lst _=>pure (nxW n)
    | _=>failure
  | _=>failure
variable{tg iter:Expr}
theorem jX(h:DI X tg iter g):DX X tg iter (xOf g):=L2.PI.imp h λσ H R zz1=>by
 obtain⟨Z,env,ρ,B,hp,nxt,hp',S,e,k⟩:=zz1;obtain⟨ds,hp1,e1,e2⟩:=Qg e;obtain⟨rfl,rfl⟩:=Ql e2;exact⟨Z,env,ρ,B,hp,ds,hp1,S,e1,λJ ρ' B' H' g W it=>k J ρ' B' H' g W (QcC it)⟩
theorem jW(h:DE X iter f):DX X tg iter (xLs f):=L2.PI.imp (Qes (L2.PE.kf h)) λσ H R zz1=>by
  obtain⟨Z,env,ρ,B,hp,nxt,hp',S,e,k⟩:=zz1;obtain⟨d,hp1,e1,e2⟩:=Qg e;refine tD.run S e1 λv ρ1 B1 H1 g1 S1 r1 kf=>?_;cases d with
  | lst ds =>
    obtain⟨rfl,rfl⟩:=Ql e2;obtain⟨a,xs,rfl,nb,sq,rl⟩:=r1.lstI;exact⟨a,rfl,⟨xs,sq⟩,k _ ρ1 B1 H1 g1 S1.wo (QcC (Qd0 nb sq rl))⟩
  | ref n =>
    obtain⟨o,hp2,e3,e4⟩:=Qg (show(ZX n >>= λo=>(match o with | .lst _=>pure (nxW n) | _=>failure:M NX)) hp1=some (nxt,hp') from e2)
    obtain⟨e5,e6⟩:=ZI e3;cases o with
    | lst ds =>
      obtain⟨rfl,z⟩:=Ql e4;rw[<- z,<- e6] at k;obtain⟨a,rfl,i1,xs,h1,_⟩:=RepV.refW S1.wo r1 e5;exact⟨a,rfl,⟨xs,SqL.of h1⟩,k _ ρ1 B1 H1 g1 S1.wo (Qgd i1 (Qdg (kf a _ h1)))⟩
    | dic _=>cases e4
    | ins _ _=>cases e4
  | non=>cases e2
  | bl _=>cases e2
  | int _=>cases e2
  | str _=>cases e2
  | tup _=>cases e2
def Jl(nxt:NX)(b:DV->DSx):Nat->Nat->DSx
  | 0,_,_=>failure
  | m+1,i,env=>do
    match <- nxt i with
    | none=>pure (.nx,env)
    | some d=>do
      let r <- b d env
      match r.1 with
      | .nx=>Jl nxt b m (i+1) r.2
      | .ct=>Jl nxt b m (i+1) r.2
      | .bk=>pure (.nx,r.2)
      | .rt x=>pure (.rt x,r.2)
def J5(f:DXx)(g:DGx)(body:DSx):DSx:=λenv=>do let nxt <- f env;Jl nxt (λd env=>do let env' <- g d env;body env') 100000 0 env
theorem YB{body:List Stmt}{fi:DXx}{g:DGx}{sb:DSx}(hp:PassesOwn (model X.prog X.w) X.A X.env X.xe)(hc:X.calm=true)(hi:DX X tg iter fi)(hg:PG X tg (tDG X.K g))(hb:DSs X body sb)
    (hs:∀x,foldedSetIterable iter X.env x=pure x:=by intro _;rfl):DS X (.For tg iter body [] pos) (J5 fi g sb) :=
  (QgE hp hc hi hg hb hs).imp λD σ H zz1=>by
    obtain⟨Z,env,ρ,B,hp,fl,env',hp',S,e,k⟩:=zz1;obtain⟨nxt,hp1,e1,e2⟩:=Qg e;refine⟨Z,env,ρ,B,hp,nxt,hp1,S,e1,λJ ρ1 B1 H1 g1 W1 it=>?_⟩;have k1:=k.after (g1.gs S.wo.rb);refine⟨λi m σ H=>∃env ρ B hp,SOk X.K Z env σ ρ B hp H/\Gs X.K ρ1 B1 H1 ρ B H/\Jl nxt (λd env=>do let env' <- g d env;sb env') m i env hp=some ((fl,env'),hp'),
      ⟨100000,env,ρ1,B1,hp1,S.grow g1 W1,Gs.refl,e2⟩,?_⟩
    rintro i m σ H ⟨env2,ρ2,B2,hp2,S2,g2,e3⟩;cases m with
    | zero=>cases e3
    | succ m =>
      obtain⟨o,hpo,eo,e3⟩:=Qg e3;obtain⟨rfl,ito⟩:=it ρ2 B2 hp2 H g2 S2.wo i o hpo eo;cases o with
      | none =>
        obtain⟨z,rfl⟩:=Ql e3;cases z;exact .inl ⟨ito,k1 σ ρ2 B2 H g2 S2⟩
      | some d =>
        obtain⟨go,yl⟩:=ito;obtain⟨⟨f1,env4⟩,hp4,e4,e5⟩:=Qg e3;obtain⟨env3,hp3,e6,e7⟩:=Qg e4;refine .inr ⟨go,λσ' H'=>∃env ρ B hp,SOk X.K Z env σ' ρ B hp H'/\Gs X.K ρ1 B1 H1 ρ B H'/\Jl nxt (λd env=>do let env' <- g d env;sb env') m (i+1) env hp=some ((fl,env'),hp'),
          λσ' H' q=>⟨m,C5 m,q⟩,λx H' y=>?_⟩
        obtain⟨rx,hx⟩:=yl x H' y;have S3:SOk X.K Z env2 σ ρ2 B2 hpo H'/\Gs X.K ρ2 B2 H ρ2 B2 H':=by
          rcases hx with rfl | ⟨p,o,hn,rfl⟩
          . exact⟨S2,Gs.refl⟩
          . exact⟨S2.grow (Gr.laid hn) (S2.wo.laid hn),Qdn S2.wo.rb hn⟩
        refine⟨Z,env2,ρ2,B2,hpo,d,env3,hp3,S3.1,rx,e6,λσ5 ρ5 B5 H5 g5 S5=>⟨Z,env3,ρ5,B5,hp3,f1,env4,hp4,S5,e7,λσ6 ρ6 B6 H6 g6 S6=>?_⟩⟩;have G6:=g2.trans (S3.2.trans (g5.trans g6));cases f1 with
        | nx=>exact⟨env4,ρ6,B6,hp4,S6,G6,e5⟩
        | ct=>exact⟨env4,ρ6,B6,hp4,S6,G6,e5⟩
        | bk=>obtain⟨z,rfl⟩:=Ql e5;cases z;exact k1 σ6 ρ6 B6 H6 G6 S6
        | rt d=>obtain⟨z,rfl⟩:=Ql e5;cases z;exact k1 σ6 ρ6 B6 H6 G6 S6
def JF(nxt:NX)(g:DV->M Bool)(f:DV->M DV):Nat->Nat->M (List DV)
  | 0,_=>failure
  | m+1,i=>do
    match <- nxt i with
    | none=>pure []
    | some d=>do
      if <- g d then
        let y <- f d
        let ys <- JF nxt g f m (i+1)
        pure (y::ys)
      else JF nxt g f m (i+1)
def J1(nw:Bool)(src:DXx)(idx:List Nat)(t:DTx)(f:DEx):DEx:=λenv=>do
 let nxt <- src env
 let out <- JF nxt (λd=>t (cE idx env d)) (λd=>f (cE idx env d)) lim 0
 if nw then XT (.lst out) else pure (.lst out)
variable{elt:Expr}{x:Str}{px:Pos}{ifs:List Expr}{scope:Scope}{cl:List (Str×Addr)}{caps:List Str}{idx:List Nat}{src:DXx}{te:DTx}{nw:Bool}
theorem VD{K:Aa}(h:tD K (J1 nw src idx te f) σ H Q):Qai K (tDX K src) (tDT K te) (tD K f) idx σ H Q:=by
  obtain⟨Z,env,ρ,B,hp,d,hp',S,e,k⟩:=h;obtain⟨nxt,hp1,e1,e2⟩:=Qg e;obtain⟨out,hp3,e5,e6⟩:=Qg e2;refine⟨Z,env,ρ,B,hp,nxt,hp1,S,e1,λJ ρ1 B1 H1 g1 W1 it D hD hK=>?_⟩;have g1s:=g1.gs S.wo.rb;refine⟨λi m ys H2=>H2 D=some (.lst ys)/\i+m=lim/\∃ρ2 B2 hp2 don rst,Gr K ρ1 B1 H1 ρ2 B2 H2/\WOk K ρ2 B2 hp2 H2/\B2 D/\D∉ρ2/\RepL K ρ2 B2 H2 don ys/\don.length<=i /\
    JF nxt (λd=>te (cE idx env d)) (λd=>f (cE idx env d)) m i hp2=some (rst,hp3)/\don++rst=out,?_,?_⟩
  . exact⟨lim,Zg,C7 _,ρ1,yZ B1 D,hp1,[],out,Gr.banned hD hK,W1.banned hD hK,.inr rfl,λz=>W1.bt D (W1.rb D z) hD,RepL.nil,Ag _,e5,rfl⟩
  . rintro i m ys H2 ⟨hDs,him,ρ2,B2,hp2,don,rst,g2,W2,bD,nD,rd,dn,e7,e8⟩
    refine⟨hDs,?_⟩;cases m with
    | zero=>cases e7
    | succ m =>
      obtain⟨o,hpo,eo,e7⟩:=Qg e7;obtain⟨rfl,ito⟩:=it ρ2 B2 hp2 H2 (g2.gs W1.rb) W2 i o hpo eo;cases o with
      | some d0 =>
        obtain⟨go,yl⟩:=ito;obtain⟨b,hp4,e9,e10⟩:=Qg e7;refine .inr ⟨go,λx H3 y=>?_⟩;obtain⟨rx,hx⟩:=yl x H3 y;have S3:Gr K ρ2 B2 H2 ρ2 B2 H3/\WOk K ρ2 B2 hpo H3:=by
          rcases hx with rfl | ⟨p,o,hn,rfl⟩
          . exact⟨Gr.refl,W2⟩
          . exact⟨Gr.laid hn,W2.laid hn⟩
        have g3:=g2.trans S3.1;have C3:=cσ_ok (idx:=idx) S (g1s.trans (g3.gs W1.rb)) S3.2 rx;refine tDT.run C3 e9 λρ4 B4 H4 g4 S4=>?_;have hD4:H4 D=some (.lst ys):=g4.keep D _ nD (S3.1.keep D _ nD hDs);have nD4:D∉ρ4:=λz=>(g4.rnew D z).elim nD λq=>by rw[S3.1.keep D _ nD hDs] at q;cases q
        cases b with
        | false =>
          exact K5 ⟨m,C5 m,hD4,by lia,ρ4,B4,hp4,don,rst,g3.trans g4,S4.wo,g4.ban D bD,nD4,RepL.grow W2.rb (S3.1.trans g4) _ _ rd,by lia,e10,e8⟩
        | true =>
          obtain⟨z,hp5,e11,e12⟩:=Qg e10;obtain⟨zs,hp6,e13,e14⟩:=Qg e12;obtain⟨rfl,rfl⟩:=Ql e14;refine K6 (tD.run S4 e11 λv ρ5 B5 H5 g5 S5 r5=>?_);have hD5:H5 D=some (.lst ys):=g5.keep D _ nD4 hD4;have nD5:D∉ρ5:=λz=>(g5.rnew D z).elim nD4 λq=>by rw[hD4] at q;cases q
          have bD5:B5 D:=g5.ban D (g4.ban D bD);have G5:=g3.trans (g4.trans g5);have rd5:=RepL.grow W2.rb (S3.1.trans (g4.trans g5)) _ _ rd;have trk:∀b,(upd H5 D (.lst (ys++[v]))) b=none->H5 b=none:=λb q=>by
            by_cases e:b=D
            . subst e;rw[Zg] at q;cases q
            . rw[Q4 e] at q;exact q
          have g6:Gs K ρ5 B5 H5 ρ5 B5 (upd H5 D (.lst (ys++[v]))):=⟨Cm,λ_ h=>.inl h,λb o nb h=>by rw[Q4 (show b≠D from λz=>nb (by rw[z];exact bD5))];exact h,trk⟩
          refine⟨hD5,?_,m,C5 m,Zg,by lia,ρ5,B5,hp5,don++[z],zs,?_,?_,bD5,nD5,RepL.gs g6 _ _ (RepL.append rd5 (RepL.one r5)),by simp;lia,e13,by rw[<- e8];simp⟩
          . have h1:=rd5.length
            have h2:lim < sizeLine:=by decide
            lia
          . exact⟨G5.pre,G5.ban,G5.new,G5.rnew,λb o nb h=>by rw[Q4 (show b≠D from λq=>by rw[q,hD] at h;cases h)];exact G5.keep b o nb h,λb q=>G5.trk b (trk b q)⟩
          . exact⟨S5.wo.len,S5.wo.nd,λj b o q1 q2=>ORep.gs g6 (Q4 (show b≠D from λz=>nD5 (by rw[<- z];exact Ax q1))) (S5.wo.obj j b o q1 q2),S5.wo.rb,λb z q=>S5.wo.bt b z (trk b q),S5.wo.bk⟩
      | none =>
        obtain⟨z,z'⟩:=Ql e7;subst z;subst z';refine .inl ⟨ito,?_⟩;rw[Bu] at e8;subst e8;cases nw with
        | false =>
          obtain⟨rfl,rfl⟩:=Ql (show(pure (.lst don):M DV) hpo=some (d,hp') from e6);have gU:Gs K ρ2 B2 H2 ρ2 (λb=>B2 b/\b≠D) H2:=⟨Cm,λ_ h=>.inl h.1,λ_ _ _ h=>h,λ_ h=>h⟩;refine k (.ref D) ρ2 (λb=>B2 b/\b≠D) H2 (g1.trans ⟨g2.pre,λb z=>⟨g2.ban b z,λq=>W1.bt b z (q▸hD)⟩,λb z=>g2.new b z.1,g2.rnew,g2.keep,g2.trk⟩)
            ⟨W2.len,W2.nd,λj b o q1 q2=>ORep.gs gU rfl (W2.obj j b o q1 q2),λb z=>⟨W2.rb b z,λq=>nD (q▸z)⟩,λb z=>W2.bt b z.1,λb z=>W2.bk b z.1⟩ (Gq (λz=>z.2 rfl) (SqL.of hDs) (RepL.gs gU _ _ rd))
        | true =>
          cases (show some (DV.ref hpo.length,hpo++[OV.lst don])=some (d,hp') from e6);have gU:Gs K ρ2 B2 H2 (ρ2++[D]) B2 H2:=⟨List.prefix_append _ _,λ_ h=>.inl h,λ_ _ _ h=>h,λ_ h=>h⟩;refine k (.ref D) (ρ2++[D]) B2 H2 (g1.trans ⟨g2.pre.trans (List.prefix_append _ _),g2.ban,g2.new,λa z=>(Aj.mp z).elim (g2.rnew a) λq=>.inr (by rw[As.mp q];exact hD),g2.keep,g2.trk⟩)
            ⟨by simp[W2.len],List.nodup_append.mpr ⟨W2.nd,by simp,λa ha b hb=>by rw[As.mp hb];exact λz=>nD (z▸ha)⟩,λj b o q1 q2=>?_,λb z=>(Aj.mp z).elim (W2.rb b) λq=>by rw[As.mp q];exact bD,W2.bt,W2.bk⟩ ?_
          . by_cases hi:j < ρ2.length
            . rw[Ai hi] at q1
              rw[Ai (by rw[<- W2.len];exact hi)] at q2
              exact ORep.gs gU rfl (W2.obj j b o q1 q2)
            . rw[Ar (by lia)] at q1
              rw[Ar (by rw[<- W2.len];lia)] at q2
              have hi0:j - ρ2.length=0:=by
                have:=(Ad.mp q1).1;simp at this;lia
              rw[hi0] at q1;rw[<- W2.len,hi0] at q2;simp at q1 q2;subst q1 q2;exact⟨ys,hDs,RepL.gs gU _ _ rd⟩
          . unfold RepV
            exact⟨D,rfl,by rw[<- W2.len];simp⟩
theorem qZ(S:GK X x scope cl caps idx)(hc:X.calm=true)(hi:DX X (.Name x px) iter src)
  (ht:∀C s₀ H₀ ex,DTs (XU X scope cl C (x::caps) s₀ H₀ ex) ifs te) (he:∀C s₀ H₀ ex,DE (XU X scope cl C (x::caps) s₀ H₀ ex) elt f)
  (hs:∀x,foldedSetIterable iter X.env x=pure x:=by intro _;rfl):DE X (.ListComp elt [⟨.Name x px,iter,ifs,0⟩] scope pos) (J1 nw src idx te f) :=
 L2.PE.imp (Qem (tt:=tDT X.K te) (te:=tD X.K f) S hc hi ht he hs) λ_ _ _ h=>VD h
theorem QbM(i:Nat){y:Str}{py spos:Pos}(hN:X.N.Nodup)(S:GK X x scope cl caps idx)(hc:X.calm=true)(hi:DX X (.Name x px) iter src)
  (ht:∀C s₀ H₀ ex,DTs (XU X scope cl C (x::caps) s₀ H₀ ex) ifs te) (he:∀C s₀ H₀ ex,DE (XU X scope cl C (x::caps) s₀ H₀ ex) elt f)
  (hy:X.N[i]?=some y:=by rfl) (hx:Loc X.env.scope y:=by first | exact Or.inl rfl | exact Or.inr rfl)
  (hsw:swapsWith (.ListComp elt [⟨.Name x px,iter,ifs,0⟩] scope pos) (some (.Name y py)) spos.line X.env=pure true:=by with_unfolding_all rfl)
  (hf:X.fn y=true∨X.env.scope.names.lookup y=some .local:=by first | exact .inl rfl | exact .inr rfl | assumption)
  (hs:∀x,foldedSetIterable iter X.env x=pure x:=by intro _;rfl):DS X (.Assign [.Name y py] (.ListComp elt [⟨.Name x px,iter,ifs,0⟩] scope pos) spos) (QA i (J1 nw src idx te f)) :=
 L2.PS.imp (Qey (tt:=tDT X.K te) (te:=tD X.K f) S hc hi ht he hN hy hx hsw hf hs) λ_ _ _ h=>vR (λ_ _ _ q=>VD q) h
end
def WP{α:Type}(m:M α)(hp:Hs)(Q:α->Hs->Prop):Prop:=∃x hp',m hp=some (x,hp')/\Q x hp'
section
variable{α β:Type}{m:M α}{k:α->M β}{hp:Hs}{Q:α->Hs->Prop}{R:β->Hs->Prop}
theorem WP_pure{x:α}:WP (pure x) hp Q↔Q x hp:=⟨λ⟨y,h,e,q⟩=>by obtain⟨rfl,rfl⟩:=Ql e;exact q,λq=>⟨x,hp,rfl,q⟩⟩
theorem Ve:WP (m >>= k) hp R↔WP m hp λx h=>WP (k x) h R:=⟨λ⟨y,h,e,q⟩=>by obtain⟨x,h1,e1,e2⟩:=Qg e;exact⟨x,h1,e1,y,h,e2,q⟩,λ⟨x,h1,e1,y,h,e2,q⟩=>⟨y,h,(Qf e1).trans e2,q⟩⟩
def WP.mono{Q':α->Hs->Prop}(h:WP m hp Q)(hq:∀x h,Q x h->Q' x h):WP m hp Q':=let ⟨x,h1,e,q⟩:=h;⟨x,h1,e,hq x h1 q⟩
def WP.of{x:α}(e:m hp=some (x,hp'))(q:Q x hp'):WP m hp Q:=⟨x,hp',e,q⟩
end
section
variable{hp:Hs}{env:En}{Q:Fl×En->Hs->Prop}
theorem Qir{b:DV->DSx}(I:Nat->En->Hs->Prop)(ds:List DV)(h0:I 0 env hp)(hs:∀(i:Nat) d,ds[i]?=some d->∀env hp,I i env hp->WP (b d env) hp λr h=>match r.1 with
    | .nx=>I (i+1) r.2 h
    | .ct=>I (i+1) r.2 h
    | .bk=>Q (.nx,r.2) h
    | .rt x=>Q (.rt x,r.2) h) (he:∀env hp,I ds.length env hp->Q (.nx,env) hp):WP (QbY b ds env) hp Q:=by
  suffices h:∀(m i:Nat) env hp,m+i=ds.length->I i env hp->WP (QbY b (ds.drop i) env) hp Q by simpa using h ds.length 0 env hp rfl h0
  intro m;induction m with
  | zero =>
    intro i env hp e hI;have:i=ds.length:=by lia
    subst this;rw[List.drop_length];exact WP_pure.mpr (he env hp hI)
  | succ m ih =>
    intro i env hp e hI;have hlt:i < ds.length:=by lia
    rw[Bj hlt,QbY,Ve];refine(hs i ds[i] (Ac hlt) env hp hI).mono λr h q=>?_;obtain⟨fl,env1⟩:=r;cases fl with
    | nx=>exact ih (i+1) env1 h (by lia) q
    | ct=>exact ih (i+1) env1 h (by lia) q
    | bk=>exact WP_pure.mpr q
    | rt x=>exact WP_pure.mpr q
theorem QdB{nxt:NX}{b:DV->DSx}(ds:List DV)(I:Nat->En->Hs->Prop)(hl:ds.length < 100000)(hn:∀(i:Nat) env hp,i<=ds.length->I i env hp->nxt i hp=some (ds[i]?,hp))(h0:I 0 env hp)(hs:∀(i:Nat) d,ds[i]?=some d->∀env hp,I i env hp->WP (b d env) hp λr h=>match r.1 with
    | .nx=>I (i+1) r.2 h
    | .ct=>I (i+1) r.2 h
    | .bk=>Q (.nx,r.2) h
    | .rt x=>Q (.rt x,r.2) h) (he:∀env hp,I ds.length env hp->Q (.nx,env) hp):WP (Jl nxt b 100000 0 env) hp Q:=by
  suffices h:∀(m i n:Nat) env hp,m+i=ds.length->m < n->I i env hp->WP (Jl nxt b n i env) hp Q from h ds.length 0 100000 env hp rfl hl h0;intro m;induction m with
  | zero =>
    intro i n env hp e hn' hI;have:i=ds.length:=by lia
    subst this;obtain⟨n,rfl⟩:∃k,n=k+1:=⟨n - 1,by lia⟩
    rw[Jl,Ve];refine WP.of (hn _ env hp (Ag _) hI) ?_;rw[show ds[ds.length]?=none by simp]
    exact WP_pure.mpr (he env hp hI)
  | succ m ih =>
    intro i n env hp e hn' hI;have hlt:i < ds.length:=by lia
    obtain⟨n,rfl⟩:∃k,n=k+1:=⟨n - 1,by lia⟩
    rw[Jl,Ve];refine WP.of (hn i env hp (by lia) hI) ?_
    simp only[Ac hlt];rw[Ve];refine(hs i ds[i] (Ac hlt) env hp hI).mono λr h q=>?_;obtain⟨fl,env1⟩:=r;cases fl with
    | nx=>exact ih (i+1) n env1 h (by lia) (by lia) q
    | ct=>exact ih (i+1) n env1 h (by lia) (by lia) q
    | bk=>exact WP_pure.mpr q
    | rt x=>exact WP_pure.mpr q
theorem zA(ds:List DV)(i:Nat)(h:i<=ds.length)(hp:Hs):nxD ds i hp=some (ds[i]?,hp):=by unfold nxD;rw[Ec h];rfl
theorem YV{n:Nat}{ds:List DV}{hp:Hs}(h:hp[n]?=some (.lst ds))(i:Nat):nxW n i hp=some (ds[i]?,hp):=by
 unfold nxW;have:ZX n hp=some (.lst ds,hp):=by unfold ZX;rw[h]
 rw[Qf this];rfl
theorem Vo{b:DV->DSx}(ds:List DV)(I:Nat->En->Hs->Prop)(hl:ds.length < 100000)(h0:I 0 env hp)(hs:∀(i:Nat) d,ds[i]?=some d->∀env hp,I i env hp->WP (b d env) hp λr h=>match r.1 with
  | .nx=>I (i+1) r.2 h
  | .ct=>I (i+1) r.2 h
  | .bk=>Q (.nx,r.2) h
  | .rt x=>Q (.rt x,r.2) h) (he:∀env hp,I ds.length env hp->Q (.nx,env) hp):WP (Jl (nxD ds) b 100000 0 env) hp Q :=
 QdB ds I hl (λi env hp h _=>zA ds i h hp) h0 hs he
end
theorem uB{nxt:NX}{t:DV->M Bool}{f:DV->M DV}{p:Int->Bool}{g:Int->Int}(ns:List Int)(hn:∀i,i<=ns.length->nxt i hp=some ((ns.map DV.int)[i]?,hp))(ht:∀x,t (.int x) hp=some (p x,hp))(hf:∀x,f (.int x) hp=some (.int (g x),hp))(hl:ns.length < 100000):
    JF nxt t f 100000 0 hp=some (((ns.filter p).map g).map .int,hp):=by
  suffices h:∀(m i n:Nat),m+i=ns.length->m < n->JF nxt t f n i hp=some ((((ns.drop i).filter p).map g).map .int,hp) by simpa using h ns.length 0 100000 rfl hl
  intro m;induction m with
  | zero =>
    intro i n e hn';obtain⟨n,rfl⟩:∃k,n=k+1:=⟨n - 1,by lia⟩
    have:i=ns.length:=by lia
    subst this;have e1:=hn ns.length (Ag _);rw[show(ns.map DV.int)[ns.length]?=none by simp] at e1
    rw[JF,Qf e1,List.drop_length];rfl
  | succ m ih =>
    intro i n e hn';obtain⟨n,rfl⟩:∃k,n=k+1:=⟨n - 1,by lia⟩
    have hlt:i < ns.length:=by lia
    have e1:=hn i (by lia)
    rw[Bv,Ac hlt] at e1;have hi:=ih (i+1) n (by lia) (by lia)
    rw[JF,Qf e1];simp only[Option.map_some];rw[Qf (ht ns[i]),Bj hlt];cases q:p ns[i] with
    | false=>rw[List.filter_cons_of_neg (by simp[q])];simpa using hi
    | true =>
      rw[List.filter_cons_of_pos q];simp only[if_true];rw[Qf (hf ns[i]),Qf hi];rfl
def ko(n:Nat)(hp:Hs)(i:Int):drf (n+1) hp (.int i)=some (.int i):=rfl
def QbL(n:Nat)(hp:Hs)(b:Bool):drf (n+1) hp (.bl b)=some (.bl b):=rfl
def kr(n:Nat)(hp:Hs)(b:Str):drf (n+1) hp (.str b)=some (.str b):=rfl
theorem yh{α:Type}{f:α->Option α}:∀{xs:List α},(∀x∈xs,f x=some x)->xs.mapM f=some xs
  | [],_=>rfl
  | x::xs,h=>by
    rw[List.mapM_cons,h x (by simp),yh λy hy=>h y (Ay _ hy)];rfl
theorem kn(h:drf 40 hp d=some d'):QaG d hp=some (d',hp):=by unfold QaG;rw[h];rfl
theorem Vg(hx:drf 40 hp x=some x')(hy:drf 40 hp y=some y')(s1:okP x'=true)(s2:okP y'=true):VE x y hp=some (PyData.eqv (toP x') (toP y'),hp):=by
 unfold VE;simp only[okP,Be] at s1 s2;rw[Qf (kn hx),Qf (kn hy)];simp only[s1.2,s2.2,Bool.and_self,Qy,if_true,Ej];rfl
def vg(i j:Int)(hp:Hs):VE (.int i) (.int j) hp=some (i==j,hp):=Vg (ko 39 hp i) (ko 39 hp j) (Vi i) (Vi j)
theorem QbR(a b:Option Int)(hp:Hs):VE (opt a) (opt b) hp=some (decide (a=b),hp):=by
  have e:∀c:Option Int,drf 40 hp (opt c)=some (opt c):=λc=>by cases c<;>rfl
  have s:∀c:Option Int,okP (opt c)=true:=λc=>by cases c<;>rfl
  rw[Vg (e a) (e b) (s a) (s b)];cases a with
  | none=>cases b<;>simp[opt,toP,PyData.eqv]
  | some i =>
    cases b with
    | none=>simp[opt,toP,PyData.eqv]
    | some j=>simp only[opt,toP,PyData.eqv,Option.some.injEq];congr 1
theorem KB(p:Key×DV)(r:List (Key×DV))(j:Key):Yx (p::r) j=if p.1=j then some p.2 else Yx r j:=by
 by_cases e:p.1=j
 ·simp[Yx,B8,e]
 ·simp[Yx,B8,e]
theorem ZF{n:Nat}{hp:Hs}(h:hp[n]?=some o):ZX n hp=some (o,hp):=by unfold ZX;rw[h]
theorem vN{n:Nat}{kvs:List (Key×DV)}{hp:Hs}(h:hp[n]?=some (.dic kvs))(hk:za i=some k)(hl:kvs.length < 100000):yp (.ref n) i d hp=some ((),hp.set n (.dic (VY kvs k d))):=by
 show(ZX n >>= _) hp=_;rw[Qf (ZF h)];have e1:Yw i hp=some (k,hp):=by unfold Yw;rw[hk];rfl
 have e2:Qy (decide (kvs.length < lim)) hp=some ((),hp):=by rw[show decide (kvs.length < lim)=true from Eg hl];rfl
 show(Yw i >>= λk=>Qy (decide (kvs.length < lim)) >>= λ_=>xE n (.dic (VY kvs k d))) hp=_;rw[Qf e1,Qf e2];rfl
theorem Gw{f:DEx}{g:DGx}(h:f env hp=some (d,hp1))(h':g d env hp1=some (env',hp2)):Yb f g env hp=some ((.nx,env'),hp2):=by
 unfold Yb;rw[Qf h,Qf h'];rfl
theorem Zt{α:Type}{m:M α}{x:α}(h:m=pure x)(hp:Hs):m hp=some (x,hp):=by rw[h];rfl
theorem Qc1{c:DTx}{b:Bool}(h:c env hp=some (b,hp1)):sIf c f g env hp=if b=true then f env hp1 else g env hp1:=by
 unfold sIf;rw[Qf h];cases b<;>rfl
theorem QW{f:DEx}{b:Bool}(h:f env hp=some (.bl b,hp1)):eB f env hp=some (b,hp1):=by
 unfold eB;rw[Qf h];rfl
theorem Qi{g:DV->DV->M DV}{f f':DEx}(h:f env hp=some (x,hp1))(h':f' env hp1=some (y,hp2))(hg:g x y hp2=some (d,hp3)):Qk g f f' env hp=some (d,hp3):=by
 unfold Qk;rw[Qf h,Qf h',hg]
theorem QM{f:DEx}(h:f env hp=some (d,hp1)):QP f env hp=some ((.rt d,env),hp1):=by
 unfold QP;rw[Qf h];rfl
theorem Zp{f g:DSx}(h:f env hp=some ((.rt d,env1),hp1)):Qr f g env hp=some ((.rt d,env1),hp1):=by
 unfold Qr;rw[Qf h];rfl
theorem JL{f:DEx}(h:f env hp=some (d,hp1)):ZK f env hp=some ((.nx,env),hp1):=by
 unfold ZK;rw[Qf h];rfl
theorem QF{n:Nat}{body:DSx}{ds:List DV}(h:body (ds.map .val++List.replicate (n - ds.length) .un) hp=some ((.rt d,env),hp1)):Q8 n body ds hp=some (d,hp1):=by
 unfold Q8;rw[Qf h];rfl
theorem X6{c:DTx}{b:Bool}(h:c env hp=some (b,hp1)):Xe c env hp=some (!b,hp1):=by
 unfold Xe;rw[Qf h];rfl
theorem vb{f g:DEx}{b:Bool}(h:f env hp=some (.bl b,hp1)):Xv f g env hp=if b=true then g env hp1 else some (.bl false,hp1):=by
 unfold Xv;rw[Qf h];cases b<;>rfl
end D
namespace TS
open PySem PyProof.Rows
def gal:Bool->Keyed->Array Keyed->Nat->Nat->Nat->StateT SortSt Sem (Option Nat):=sortPriv% PySem.Builtin.gallop
def mLo:Array Keyed->Array Keyed->StateT SortSt Sem (Array Keyed):=sortPriv% PySem.Builtin.mergeLo
def mHi:Array Keyed->Array Keyed->StateT SortSt Sem (Array Keyed):=sortPriv% PySem.Builtin.mergeHi
def jG:Nat->StateT SortSt Sem Unit:=sortPriv% PySem.Builtin.setMinGallop
def mAt:Nat->StateT SortSt Sem Bool:=mergeAt'
structure Cmp where
 key:Keyed->Int
 kd:SortKind
 S:Keyed->Prop
 prog:Program
 w:World
 A:Around
 E:Value->Shared->Prop
 s:Shared
 lt:∀(st:SortSt)(p q:Keyed)(Q:Option Bool->SortSt->Prop),S p->S q->kindOf st=kd->Q (some (decide (key p < key q))) st->wpS (model prog w) A E s (lt' p q) Q st
variable{C:Cmp}
abbrev W(C:Cmp){σ α:Type}(m:StateT σ Sem α)(Q:α->σ->Prop)(st:σ):Prop:=wpS (model C.prog C.w) C.A C.E C.s m Q st
def kx(C:Cmp)(xs:Array Keyed)(i:Nat):Int:=((xs[i]?).map C.key).getD 0
structure Ok(C:Cmp)(st:SortSt):Prop where
 kind:kindOf st=C.kd
 fine:failedOf st=none
 mem:∀p∈(arrOf st).toList,C.S p
theorem Zv{xs:Array Keyed}{i:Nat}{Q:Keyed->SortSt->Prop}{st:SortSt}(hi:i < xs.size)(h:Q xs[i] st):W C (elem' xs i) Q st:=by
 rw[elem'_eq,getElem?_pos xs i hi];exact Ef h
theorem Jt(xs:Array Keyed){i:Nat}(hi:i < xs.size):kx C xs i=C.key xs[i]:=by unfold kx;rw[getElem?_pos xs i hi];rfl
theorem yg{st:SortSt}{i j:Nat}{Q:Option Bool->SortSt->Prop}(g:Ok C st)(hi:i < (arrOf st).size)(hj:j < (arrOf st).size)(h:Q (some (decide (kx C (arrOf st) i < kx C (arrOf st) j))) st):W C (ltAt' i j) Q st:=by
 rw[ltAt'_eq];refine Ee (wpS_get (Ee (Zv hi (Ee (Zv hj ?_)))));refine C.lt st _ _ Q (g.mem _ (by simp)) (g.mem _ (by simp)) g.kind ?_
 rw[<- Jt _ hi,<- Jt _ hj];exact h
theorem QfS(left:Bool)(key:Keyed)(arr:Array Keyed)(O8 n hint:Nat):gal left key arr O8 n hint=(do
  let bey (i:Nat):StateT SortSt Sem (Option Bool):=do
   let x <- elem' arr (O8+i)
   if left then lt' x key else return (<- lt' key x).map (!·)
  let mut last:=0
  let mut ofs:=1
  let mut lo:=0
  let mut hi:=0
  let some right <- bey hint | return none
  if right then
   let most:=n - hint
   for _ in [0:n] do
    if ofs≥most then break
    let some more <- bey (hint+ofs) | return none
    if !more then break
    last:=ofs
    ofs:=2 * ofs+1
   lo:=hint+last+1
   hi:=hint+min ofs most
  else
   let most:=hint+1
   for _ in [0:n] do
    if ofs≥most then break
    let some found <- bey (hint - ofs) | return none
    if found then break
    last:=ofs
    ofs:=2 * ofs+1
   lo:=hint+1 - min ofs most
   hi:=hint - last
  for _ in [0:n] do
   if lo≥hi then break
   let m:=lo+(hi - lo) / 2
   let some more <- bey m | return none
   if more then lo:=m+1 else hi:=m
  return some hi):=rfl
def QfG(left:Bool)(key:Keyed)(arr:Array Keyed)(O8 i:Nat):StateT SortSt Sem (Option Bool):=do
 let x <- elem' arr (O8+i)
 if left then lt' x key else return (<- lt' key x).map (!·)
def Qhe(left:Bool)(key:Keyed)(arr:Array Keyed)(O8 n l h:Nat):StateT SortSt Sem (Option Nat):=do
 let mut lo:=l
 let mut hi:=h
 for _ in [0:n] do
  if lo≥hi then break
  let m:=lo+(hi - lo) / 2
  let some more <- QfG left key arr O8 m | return none
  if more then lo:=m+1 else hi:=m
 return some hi
theorem Y9{left:Bool}{key:Keyed}{arr:Array Keyed}{O8 n hint:Nat}{Q:Option Nat->SortSt->Prop}{st:SortSt}(T:Nat->Bool)(hk:kindOf st=C.kd)(hkey:C.S key)(hS:∀p∈arr.toList,C.S p)(hb:O8+n<=arr.size)(hh:hint < n)
    (hT:∀i,i < n->T i=if left then decide (kx C arr (O8+i) < C.key key) else !decide (C.key key < kx C arr (O8+i))) (mono:∀i j,i<=j->j < n->T j=true->T i=true)
    (h:∀hi,hi<=n->(∀i,i < hi->T i=true)->(∀i,hi<=i->i < n->T i=false)->Q (some hi) st):W C (gal left key arr O8 n hint) Q st:=by
  have bey:∀(i:Nat)(R:Option Bool->SortSt->Prop),i < n->R (some (T i)) st->W C (QfG left key arr O8 i) R st:=by
    intro i R hi hR;have hlt:O8+i < arr.size:=by lia
    unfold QfG;refine Ee (Zv hlt ?_);have hm:C.S arr[O8+i]:=hS _ (by simp)
    rw[hT i hi,Jt _ hlt] at hR;cases left with
    | true =>
      simp only[if_true] at hR ⊢;exact C.lt st _ _ R hm hkey hk hR
    | false =>
      simp only[A7,if_false] at hR ⊢;exact Ee (C.lt st _ _ _ hkey hm hk (Ef hR))
  have bin:∀lo hi,lo<=hi->hi<=n->(∀i,i < lo->T i=true)->(∀i,hi<=i->i < n->T i=false)->W C (Qhe left key arr O8 n lo hi) Q st:=by
    intro lo hi hlh hin hl hr;unfold Qhe;dsimp only;refine Ee (wpS_mono (wpS_forRange (I:=λx c st'=>st'=st/\∃lo hi,c=(none,lo,hi)/\lo<=hi/\hi<=n/\hi - lo<=n - x/\(∀i,i < lo->T i=true)/\(∀i,hi<=i->i < n->T i=false))
      (Q:=λc st'=>st'=st/\∃hi lo,c=(none,lo,hi)/\hi<=n/\(∀i,i < hi->T i=true)/\(∀i,hi<=i->i < n->T i=false)) ?step ?fin ⟨rfl,lo,hi,rfl,hlh,hin,by lia,hl,hr⟩) ?post)
    case post =>
      rintro c st' ⟨rfl,hi,lo,rfl,h1,h2,h3⟩;exact Ef (h hi h1 h2 h3)
    case fin =>
      rintro c st' ⟨rfl,lo,hi,rfl,h1,h2,h3,h4,h5⟩;have:lo=hi:=by lia
      subst this;exact⟨rfl,lo,lo,rfl,h2,h4,h5⟩
    case step =>
      rintro x c st' _ hx ⟨rfl,lo,hi,rfl,h1,h2,h3,h4,h5⟩;dsimp only;by_cases q:lo≥hi
      . rw[Ec q]
        have:lo=hi:=by lia
        subst this;exact Ef ⟨rfl,lo,lo,rfl,h2,h4,h5⟩
      . rw[Eb q]
        refine Ee (bey _ _ (by lia) ?_)
        dsimp only;cases hm:T (lo+(hi - lo) / 2) with
        | true =>
          simp only[if_true];refine Ef ⟨rfl,_,hi,rfl,by lia,h2,by lia,λi hi'=>?_,h5⟩
          exact mono i (lo+(hi - lo) / 2) (by lia) (by lia) hm
        | false =>
          simp only[A7,if_false];refine Ef ⟨rfl,lo,_,rfl,by lia,by lia,by lia,h4,λi h6 h7=>?_⟩
          cases ht:T i with
          | false=>rfl
          | true=>rw[mono _ i h6 h7 ht] at hm;cases hm
  rw[QfS];dsimp only;refine Ee (bey hint _ hh ?_);dsimp only;cases hr:T hint with
  | true =>
    simp only[if_true];refine Ee (wpS_mono (wpS_forRange (I:=λx c st'=>st'=st/\∃last ofs,c=(none,last,ofs)/\last < ofs/\x+1<=ofs/\hint+last < n/\T (hint+last)=true)
      (Q:=λc st'=>st'=st/\∃last ofs,c=(none,last,ofs)/\last < ofs/\hint+last < n/\T (hint+last)=true/\(n - hint<=ofs∨T (hint+ofs)=false)) ?step ?fin ⟨rfl,0,1,rfl,by lia,by lia,by lia,hr⟩) ?post)
    case fin =>
      rintro c st' ⟨rfl,last,ofs,rfl,h1,h2,h3,h4⟩;exact⟨rfl,last,ofs,rfl,h1,h3,h4,.inl (by lia)⟩
    case step =>
      rintro x c st' _ hx ⟨rfl,last,ofs,rfl,h1,h2,h3,h4⟩;dsimp only;by_cases q:ofs≥n - hint
      . rw[Ec q]
        exact Ef ⟨rfl,last,ofs,rfl,h1,h3,h4,.inl q⟩
      . rw[Eb q]
        refine Ee (bey _ _ (by lia) ?_)
        dsimp only;cases hm:T (hint+ofs) with
        | true =>
          simp only[Bool.not_true,A7,if_false];exact Ef ⟨rfl,ofs,2 * ofs+1,rfl,by lia,by lia,by lia,hm⟩
        | false =>
          simp only[Bool.not_false,if_true];exact Ef ⟨rfl,last,ofs,rfl,h1,h3,h4,.inr hm⟩
    case post =>
      rintro c st' ⟨rfl,last,ofs,rfl,h1,h2,h3,h4⟩;dsimp only;refine bin (hint+last+1) (hint+min ofs (n - hint)) (by lia) (by lia) (λi hi=>mono i (hint+last) (by lia) h2 h3) λi h5 h6=>?_
      rcases h4 with q | q
      . lia
      . cases ht:T i with
        | false=>rfl
        | true=>rw[mono _ i (by lia) h6 ht] at q;cases q
  | false =>
    simp only[A7,if_false];refine Ee (wpS_mono (wpS_forRange (I:=λx c st'=>st'=st/\∃last ofs,c=(none,last,ofs)/\last < ofs/\x+1<=ofs/\last<=hint/\T (hint - last)=false)
      (Q:=λc st'=>st'=st/\∃last ofs,c=(none,last,ofs)/\last < ofs/\last<=hint/\T (hint - last)=false/\(hint+1<=ofs∨(ofs<=hint/\T (hint - ofs)=true))) ?step ?fin ⟨rfl,0,1,rfl,by lia,by lia,by lia,hr⟩) ?post)
    case fin =>
      rintro c st' ⟨rfl,last,ofs,rfl,h1,h2,h3,h4⟩;exact⟨rfl,last,ofs,rfl,h1,h3,h4,.inl (by lia)⟩
    case step =>
      rintro x c st' _ hx ⟨rfl,last,ofs,rfl,h1,h2,h3,h4⟩;dsimp only;by_cases q:ofs≥hint+1
      . rw[Ec q]
        exact Ef ⟨rfl,last,ofs,rfl,h1,h3,h4,.inl q⟩
      . rw[Eb q]
        refine Ee (bey _ _ (by lia) ?_)
        dsimp only;cases hm:T (hint - ofs) with
        | true =>
          simp only[if_true];exact Ef ⟨rfl,last,ofs,rfl,h1,h3,h4,.inr ⟨by lia,hm⟩⟩
        | false =>
          simp only[A7,if_false];exact Ef ⟨rfl,ofs,2 * ofs+1,rfl,by lia,by lia,by lia,hm⟩
    case post =>
      rintro c st' ⟨rfl,last,ofs,rfl,h1,h2,h3,h4⟩;dsimp only;refine bin (hint+1 - min ofs (hint+1)) (hint - last) (by lia) (by lia) (λi hi=>?_) λi h5 h6=>?_
      . rcases h4 with q | ⟨q1,q2⟩
        . lia
        . exact mono i (hint - ofs) (by lia) (by lia) q2
      . cases ht:T i with
        | false=>rfl
        | true=>rw[mono _ i h5 h6 ht] at h3;cases h3
variable{C:Cmp}
def Srt(C:Cmp)(l:List Keyed):Prop:=l.Pairwise λp q=>C.key p<=C.key q
def Sm(st st':SortSt):Prop:=kindOf st'=kindOf st/\arrOf st'=arrOf st/\pendingOf st'=pendingOf st/\failedOf st'=failedOf st
def Sm.refl(st:SortSt):Sm st st:=⟨rfl,rfl,rfl,rfl⟩
theorem xD{g:Nat}{st₀ st:SortSt}{Q:Unit->SortSt->Prop}(hs:Sm st₀ st)(h:∀st',Sm st₀ st'->Q () st'):W C (jG g) Q st:=by
 show W C (modify (λs=>SortSt.mk' (kindOf s) (arrOf s) (pendingOf s) g (failedOf s)):StateT SortSt Sem Unit) Q st;exact wpS_modify (h _ hs)
def yq{x:String}{st:SortSt}{Q:Unit->SortSt->Prop}(h:Q () st):W C (liftM (rule x):StateT SortSt Sem Unit) Q st:=wpS_lift (wpAny_rule ⟨rfl,h⟩)
structure MI(C:Cmp)(A B out:List Keyed)(i j:Nat):Prop where
 perm:(out++(A.drop i++B.drop j)).Perm (A++B)
 srt:Srt C out
 low:∀x∈out,∀y∈A.drop i++B.drop j,C.key x<=C.key y
section
variable{A B out:List Keyed}{i j:Nat}
def Srt.drop(h:Srt C A)(n:Nat):Srt C (A.drop n):=List.Pairwise.sublist (List.drop_sublist _ _) h
def Srt.take(h:Srt C A)(n:Nat):Srt C (A.take n):=List.Pairwise.sublist (List.take_sublist _ _) h
def Srt.app(h:Srt C A)(h':Srt C B)(hb:∀x∈A,∀y∈B,C.key x<=C.key y):Srt C (A++B):=Bw.mpr ⟨h,h',hb⟩
theorem MI.takeA(m:MI C A B out i j)(hA:Srt C A)(k:Nat)(h:∀x∈(A.drop i).take k,∀y∈B.drop j,C.key x<=C.key y):MI C A B (out++(A.drop i).take k) (i+k) j:=by
 have e:A.drop i=(A.drop i).take k++A.drop (i+k):=by rw[<- Cw,B0]
 have hd:=hA.drop i;rw[e] at hd;obtain⟨_,_,h3⟩:=Bw.mp hd;refine⟨?_,m.srt.app ((hA.drop i).take k) λx hx y hy=>m.low x hx y (A8 _ (Bx hy)),λx hx y hy=>?_⟩
 ·have:=m.perm
  rw[e] at this;simpa [A9] using this
 ·rcases Aj.mp hx with q | q
  ·refine m.low x q y ?_
   rcases Aj.mp hy with z | z
   ·exact A8 _ (by rw[e];exact Ak _ z)
   ·exact Ak _ z
  ·rcases Aj.mp hy with z | z
   ·exact h3 x q y z
   ·exact h x q y z
theorem MI.takeB(m:MI C A B out i j)(hB:Srt C B)(k:Nat)(h:∀x∈(B.drop j).take k,∀y∈A.drop i,C.key x<=C.key y):MI C A B (out++(B.drop j).take k) i (j+k):=by
 have e:B.drop j=(B.drop j).take k++B.drop (j+k):=by rw[<- Cw,B0]
 have hd:=hB.drop j;rw[e] at hd;obtain⟨_,_,h3⟩:=Bw.mp hd;refine⟨?_,m.srt.app ((hB.drop j).take k) λx hx y hy=>m.low x hx y (Ak _ (Bx hy)),λx hx y hy=>?_⟩
 ·refine List.Perm.trans ?_ m.perm
  rw[A9];refine List.Perm.append_left _ ?_;generalize (B.drop j).take k=ch at e ⊢;rw[e,<- A9,<- A9];exact List.Perm.append_right _ List.perm_append_comm
 ·rcases Aj.mp hx with q | q
  ·refine m.low x q y ?_
   rcases Aj.mp hy with z | z
   ·exact A8 _ z
   ·exact Ak _ (by rw[e];exact Ak _ z)
  ·rcases Aj.mp hy with z | z
   ·exact h x q y z
   ·exact h3 x q y z
def Fin(C:Cmp)(A B r:List Keyed):Prop:=Srt C r/\r.Perm (A++B)
theorem MI.endB(m:MI C A B out i j)(hA:Srt C A)(h:B.length<=j):Fin C A B (out++A.drop i++B.drop j):=by
 have e:B.drop j=[]:=Cn h;refine⟨?_,by have:=m.perm;simpa [A9] using this⟩
 rw[e,Bu];exact m.srt.app (hA.drop i) λx hx y hy=>m.low x hx y (A8 _ hy)
theorem MI.endA(m:MI C A B out i j)(hB:Srt C B)(h:A.length<=i):Fin C A B (out++A.drop i++B.drop j):=by
 have e:A.drop i=[]:=Cn h;refine⟨?_,by have:=m.perm;simpa [A9] using this⟩
 rw[e,Bu];exact m.srt.app (hB.drop j) λx hx y hy=>m.low x hx y (Ak _ hy)
theorem MI.lastA(m:MI C A B out i j)(hA:Srt C A)(hB:Srt C B)(hl:∀x∈A.drop (A.length - 1),∀y∈B,C.key y<=C.key x)(h:i+1=A.length):Fin C A B (out++B.drop j++A.drop i):=by
 have e:A.length - 1=i:=by lia
 rw[e] at hl;refine⟨?_,?_⟩
 ·refine(m.srt.app (hB.drop j) λx hx y hy=>m.low x hx y (Ak _ hy)).app (hA.drop i) λx hx y hy=>?_
  rcases Aj.mp hx with q | q
  ·exact m.low x q y (A8 _ hy)
  ·exact hl y hy x (Cd q)
 ·refine List.Perm.trans ?_ m.perm
  rw[A9];exact List.Perm.append_left _ List.perm_append_comm
end
theorem Qf9(a b:Array Keyed):mLo a b=(do
  rule "list.sort.merge-lo"
  let all:=a.size+b.size
  let fin (res:Array Keyed) (i j:Nat):=res++a.extract i a.size++b.extract j b.size
  let lst (res:Array Keyed) (i j:Nat):=res++b.extract j b.size++a.extract i a.size
  let mut res:Array Keyed:=#[<- elem' b 0]
  let mut i:=0
  let mut j:=1
  if j==b.size then return fin res i j
  if i+1==a.size then return lst res i j
  let mut mg:=gallopOf (<- get)
  for _ in [0:all] do
   let mut ac:=0
   let mut bc:=0
   for _ in [0:all] do
    let some bw <- lt' (<- elem' b j) (<- elem' a i) | return fin res i j
    if bw then
     res:=res.push (<- elem' b j);j:=j+1;bc:=bc+1;ac:=0
     if j==b.size then return fin res i j
     if bc≥mg then break
    else
     res:=res.push (<- elem' a i);i:=i+1;ac:=ac+1;bc:=0
     if i+1==a.size then return lst res i j
     if ac≥mg then break
   rule "list.sort.gallop"
   mg:=mg+1
   for _ in [0:all] do
    if mg > 1 then mg:=mg - 1
    jG mg
    let some k <- gal false (<- elem' b j) a i (a.size - i) 0 | return fin res i j
    ac:=k
    if k > 0 then
     res:=res++a.extract i (i+k);i:=i+k
     if i+1==a.size then return lst res i j
     if i==a.size then return fin res i j
    res:=res.push (<- elem' b j);j:=j+1
    if j==b.size then return fin res i j
    let some k <- gal true (<- elem' a i) b j (b.size - j) 0 | return fin res i j
    bc:=k
    if k > 0 then
     res:=res++b.extract j (j+k);j:=j+k
     if j==b.size then return fin res i j
    res:=res.push (<- elem' a i);i:=i+1
    if i+1==a.size then return lst res i j
    if ac < 7&&bc < 7 then break
   mg:=mg+1
   jG mg
  unsupported "internal:list.sort.merge-bound"):=rfl
abbrev GS:=Option (Array Keyed)×Array Keyed×Nat×Nat×Nat×Nat×Nat
def lo4(a b:Array Keyed)(mg ac bc:Nat)(res:Array Keyed)(i j:Nat):StateT SortSt Sem (ForInStep GS):=do
 let x <- elem' a i
 if (i+1+1==a.size)=true then pure (.done (some (res.push x++b.extract j b.size++a.extract (i+1) a.size),res.push x,i+1,j,mg,ac,bc))
 else if (decide (ac < 7)&&decide (bc < 7))=true then pure (.done (none,res.push x,i+1,j,mg,ac,bc)) else pure (.yield (none,res.push x,i+1,j,mg,ac,bc))
def lo3(a b:Array Keyed)(mg ac bc:Nat)(res:Array Keyed)(i j:Nat):StateT SortSt Sem (ForInStep GS):=do
 let y <- elem' a i
 let z <- gal true y b j (b.size - j) 0
 match z with
 | some k=>(if k > 0 then (if (j+k==b.size)=true then pure (.done (some (res++b.extract j (j+k)++a.extract i a.size++b.extract (j+k) b.size),res++b.extract j (j+k),i,j+k,mg,ac,k)) else lo4 a b mg ac k (res++b.extract j (j+k)) i (j+k)) else lo4 a b mg ac k res i j:StateT SortSt Sem (ForInStep GS))
 | _=>pure (.done (some (res++a.extract i a.size++b.extract j b.size),res,i,j,mg,ac,bc))
def lo2(a b:Array Keyed)(mg ac bc:Nat)(res:Array Keyed)(i j:Nat):StateT SortSt Sem (ForInStep GS):=do
 let y <- elem' b j
 if (j+1==b.size)=true then pure (.done (some (res.push y++a.extract i a.size++b.extract (j+1) b.size),res.push y,i,j+1,mg,ac,bc))
 else lo3 a b mg ac bc (res.push y) i (j+1)
def lo1(a b:Array Keyed)(mg ac bc:Nat)(res:Array Keyed)(i j:Nat):StateT SortSt Sem (ForInStep GS):=do
 jG mg
 let y <- elem' b j
 let z <- gal false y a i (a.size - i) 0
 match z with
 | some k=>(if k > 0 then (if (i+k+1==a.size)=true then pure (.done (some (res++a.extract i (i+k)++b.extract j b.size++a.extract (i+k) a.size),res++a.extract i (i+k),i+k,j,mg,k,bc))
   else if (i+k==a.size)=true then pure (.done (some (res++a.extract i (i+k)++a.extract (i+k) a.size++b.extract j b.size),res++a.extract i (i+k),i+k,j,mg,k,bc))
   else lo2 a b mg k bc (res++a.extract i (i+k)) (i+k) j) else lo2 a b mg k bc res i j:StateT SortSt Sem (ForInStep GS))
 | _=>pure (.done (some (res++a.extract i a.size++b.extract j b.size),res,i,j,mg,ac,bc))
section
variable{a b res:Array Keyed}{i j k:Nat}
theorem Xw(a:Array Keyed)(i:Nat):(a.extract i a.size).toList=a.toList.drop i:=by
 simp[Array.toList_extract,List.extract_eq_take_drop];exact Ci (by simp)
theorem Ka(a:Array Keyed)(i k:Nat):(a.extract i (i+k)).toList=(a.toList.drop i).take k:=by
 simp[Array.toList_extract,List.extract_eq_take_drop]
theorem XW(a:Array Keyed){i:Nat}(h:i < a.size):(a.toList.drop i).take 1=[a[i]]:=by
 rw[Bj (by simpa using h)];simp
theorem zx{x:Keyed}(h:x∈(a.toList.drop i).take k):∃t,t < k/\∃q:i+t < a.size,x=a[i+t]:=by
 obtain⟨t,ht,e⟩:=List.getElem_of_mem h;have h1:t < k:=by simp at ht;lia
 have h2:i+t < a.size:=by simp at ht;lia
 exact⟨t,h1,h2,by rw[<- e];simp[C0,List.getElem_drop]⟩
theorem yi{x:Keyed}(h:x∈a.toList.drop i):∃t,i<=t/\∃q:t < a.size,x=a[t]:=by
 obtain⟨t,ht,e⟩:=List.getElem_of_mem h;have h2:i+t < a.size:=by simp at ht;lia
 exact⟨i+t,by lia,h2,by rw[<- e];simp[List.getElem_drop]⟩
theorem qF(h:Srt C a.toList){s t:Nat}(hst:s<=t)(ht:t < a.size):C.key (a[s]'(by lia))<=C.key a[t]:=by
 rcases Bi s t with q | q
 ·have:=Cr.mp h s t (by simp;lia) (by simpa using ht) q
  simpa using this
 ·have:s=t:=by lia
  subst this;exact Bp _
theorem Ul(h:Srt C a.toList){s t:Nat}(hst:s<=t)(ht:t < a.size):kx C a s<=kx C a t:=by
 rw[Jt a (by lia),Jt a ht];exact qF h hst ht
end
structure Two(C:Cmp)(a b:Array Keyed):Prop where
 sa:Srt C a.toList
 sb:Srt C b.toList
 ma:∀p∈a.toList,C.S p
 mb:∀p∈b.toList,C.S p
 na:1<=a.size
 nb:1<=b.size
 first:∀y∈a.toList,∀x∈b.toList.take 1,C.key x<=C.key y
 last:∀x∈a.toList.drop (a.size - 1),∀y∈b.toList,C.key y<=C.key x
section
variable{a b:Array Keyed}{st₀:SortSt}{n0:Nat}
def GL(C:Cmp)(a b:Array Keyed)(st₀:SortSt)(r:Option (Array Keyed))(st':SortSt):Prop:=Sm st₀ st'/\∃x,r=some x/\Fin C a.toList b.toList x.toList
def GoG(C:Cmp)(a b:Array Keyed)(st₀:SortSt)(n0:Nat)(r:Option (Array Keyed))(res:Array Keyed)(i j:Nat)(st':SortSt):Prop:=Sm st₀ st'/\r=none/\MI C a.toList b.toList res.toList i j/\i+1 < a.size/\j < b.size/\n0 < i+j
def gQ(C:Cmp)(a b:Array Keyed)(st₀:SortSt)(n0:Nat)(r:ForInStep GS)(st':SortSt):Prop:=match r with
 | .done c=>GL C a b st₀ c.1 st'∨GoG C a b st₀ n0 c.1 c.2.1 c.2.2.1 c.2.2.2.1 st'
 | .yield c=>GoG C a b st₀ n0 c.1 c.2.1 c.2.2.1 c.2.2.2.1 st'
variable{mg ac bc i j:Nat}{res:Array Keyed}{st:SortSt}
theorem Qfq(T:Two C a b)(hs:Sm st₀ st)(m:MI C a.toList b.toList res.toList i j)(hi:i+1 < a.size)(hj:j < b.size)(hn:n0<=i+j)(hc:∀y∈b.toList.drop j,C.key (a[i]'(by lia))<=C.key y):W C (lo4 a b mg ac bc res i j) (gQ C a b st₀ n0) st:=by
 have hi':i < a.size:=by lia
 refine Ee (Zv hi' ?_);have m':=m.takeA T.sa 1 (λx hx y hy=>by rw[XW a hi'] at hx;rw[As.mp hx];exact hc y hy)
 rw[XW a hi',<- Array.toList_push] at m';by_cases q:i+1+1=a.size
 ·rw[Ec (by simpa using q)]
  refine Ef (.inl ⟨hs,_,rfl,?_⟩);rw[Ah,Ah,Xw,Xw];exact m'.lastA T.sa T.sb (by simpa using T.last) (by simpa using q)
 ·rw[Eb (by simpa using q)]
  have g:GoG C a b st₀ n0 none (res.push a[i]) (i+1) j st:=⟨hs,rfl,m',by lia,hj,by lia⟩
  split
  ·exact Ef (.inr g)
  ·exact Ef g
theorem QhF(T:Two C a b)(hk:kindOf st=C.kd)(hs:Sm st₀ st)(m:MI C a.toList b.toList res.toList i j)(hi:i+1 < a.size)(hj:j < b.size)(hn:n0<=i+j):W C (lo3 a b mg ac bc res i j) (gQ C a b st₀ n0) st:=by
 have hi':i < a.size:=by lia
 refine Ee (Zv hi' (Ee (Y9 (λt=>decide (kx C b (j+t) < C.key a[i])) hk (T.ma _ (by simp)) T.mb (by lia) (by lia) (λt _=>rfl) (λs t h1 h2 h3=>?_) λk h1 h2 h3=>?_)))
 ·exact Eg (Int.lt_of_le_of_lt (Ul T.sb (by lia) (by lia)) (Eh h3))
 ·dsimp only
  have lowc:∀x∈(b.toList.drop j).take k,C.key x < C.key a[i]:=λx hx=>by
   obtain⟨t,ht,q,rfl⟩:=zx hx;have:=Eh (h2 t ht)
   rwa [Jt b q] at this
  have m':=m.takeB T.sb k (λx hx y hy=>by
   obtain⟨t,ht,q,rfl⟩:=yi hy;have:=lowc x hx;have:=qF T.sa ht q;lia)
  have hc:∀y∈b.toList.drop (j+k),C.key a[i]<=C.key y:=λy hy=>by
   obtain⟨t,ht,q,rfl⟩:=yi hy;have:=of_decide_eq_false (h3 (t - j) (by lia) (by lia))
   rw[show j+(t - j)=t by lia,Jt b q] at this
   lia
  by_cases hk0:k > 0
  ·rw[Ec hk0]
   by_cases q:j+k=b.size
   ·rw[Ec (by simpa using q)]
    refine Ef (.inl ⟨hs,_,rfl,?_⟩);rw[Ah,Ah,Ah,Xw,Xw,Ka];exact m'.endB T.sa (by simp;lia)
   ·rw[Eb (by simpa using q)]
    refine Qfq T hs ?_ hi (by lia) (by lia) hc
    rw[Ah,Ka];exact m'
  ·rw[Eb hk0]
   have:k=0:=by lia
   subst this;exact Qfq T hs m hi hj hn hc
theorem Qfp(T:Two C a b)(hk:kindOf st=C.kd)(hs:Sm st₀ st)(m:MI C a.toList b.toList res.toList i j)(hi:i+1 < a.size)(hj:j < b.size)(hn:n0<=i+j)(hc:∀y∈a.toList.drop i,C.key b[j]<=C.key y):W C (lo2 a b mg ac bc res i j) (gQ C a b st₀ n0) st:=by
 refine Ee (Zv hj ?_);have m':=m.takeB T.sb 1 (λx hx y hy=>by rw[XW b hj] at hx;rw[As.mp hx];exact hc y hy)
 rw[XW b hj,<- Array.toList_push] at m';by_cases q:j+1=b.size
 ·rw[Ec (by simpa using q)]
  refine Ef (.inl ⟨hs,_,rfl,?_⟩);rw[Ah,Ah,Xw,Xw];exact m'.endB T.sa (by simp;lia)
 ·rw[Eb (by simpa using q)]
  exact QhF T hk hs m' hi (by lia) (by lia)
theorem QhE(T:Two C a b)(hk:kindOf st₀=C.kd)(hs:Sm st₀ st)(m:MI C a.toList b.toList res.toList i j)(hi:i+1 < a.size)(hj:j < b.size)(hn:n0<=i+j):W C (lo1 a b mg ac bc res i j) (gQ C a b st₀ n0) st:=by
 refine Ee (xD hs λst hs=>?_);have hk':kindOf st=C.kd:=hs.1.trans hk;refine Ee (Zv hj (Ee (Y9 (λt=>!decide (C.key b[j] < kx C a (i+t))) hk' (T.mb _ (by simp)) T.ma (by lia) (by lia) (λt _=>rfl) (λs t h1 h2 h3=>?_) λk h1 h2 h3=>?_)))
 ·have q:=Ul T.sa (show i+s<=i+t by lia) (by lia)
  simp only[Cs,decide_eq_false_iff_not] at h3 ⊢;lia
 ·dsimp only
  have lowc:∀x∈(a.toList.drop i).take k,C.key x<=C.key b[j]:=λx hx=>by
   obtain⟨t,ht,q,rfl⟩:=zx hx;have:=h2 t ht;simp only[Cs,decide_eq_false_iff_not] at this;rw[Jt a q] at this;lia
  have m':=m.takeA T.sa k (λx hx y hy=>by
   obtain⟨t,ht,q,rfl⟩:=yi hy;have:=lowc x hx;have:=qF T.sb ht q;lia)
  have hc:∀y∈a.toList.drop (i+k),C.key b[j]<=C.key y:=λy hy=>by
   obtain⟨t,ht,q,rfl⟩:=yi hy;have:=h3 (t - i) (by lia) (by lia)
   simp only[Bool.not_eq_false',decide_eq_true_eq] at this;rw[show i+(t - i)=t by lia,Jt a q] at this
   lia
  by_cases hk0:k > 0
  ·rw[Ec hk0]
   by_cases q:i+k+1=a.size
   ·rw[Ec (by simpa using q)]
    refine Ef (.inl ⟨hs,_,rfl,?_⟩);rw[Ah,Ah,Ah,Xw,Xw,Ka];exact m'.lastA T.sa T.sb (by simpa using T.last) (by simpa using q)
   ·rw[Eb (by simpa using q)]
    by_cases q2:i+k=a.size
    ·rw[Ec (by simpa using q2)]
     refine Ef (.inl ⟨hs,_,rfl,?_⟩);rw[Ah,Ah,Ah,Xw,Xw,Ka];exact m'.endA T.sb (by simp;lia)
    ·rw[Eb (by simpa using q2)]
     refine Qfp T hk' hs ?_ (by lia) hj (by lia) hc
     rw[Ah,Ka];exact m'
  ·rw[Eb hk0]
   have:k=0:=by lia
   subst this;exact Qfp T hk' hs m hi hj hn hc
end
variable{C:Cmp}{a b:Array Keyed}
theorem mi0(T:Two C a b):MI C a.toList b.toList [b[0]'T.nb] 0 1:=by
 have m:MI C a.toList b.toList [] 0 0:=⟨by simp,List.Pairwise.nil,λx hx=>by simp at hx⟩
 have:=m.takeB T.sb 1 (λx hx y hy=>T.first y (by simpa using hy) x (by simpa using hx))
 rw[XW b T.nb] at this;simpa using this
theorem QhH{st:SortSt}{Q:Array Keyed->SortSt->Prop}(T:Two C a b)(hk:kindOf st=C.kd)(h:∀r st',Sm st st'->Fin C a.toList b.toList r.toList->Q r st'):W C (mLo a b) Q st:=by
  have na:=T.na;have nb:=T.nb;have m0:=mi0 T;rw[Qf9];dsimp only;refine Ee (yq (Ee (Zv T.nb ?_)));by_cases q:1=b.size
  . rw[Ec (by simpa using q)]
    refine Ef (h _ st (Sm.refl _) ?_);rw[Ah,Ah,Xw,Xw];exact m0.endB T.sa (by simp;lia)
  rw[Eb (by simpa using q)]
  by_cases q:0+1=a.size
  . rw[Ec (by simpa using q)]
    refine Ef (h _ st (Sm.refl _) ?_);rw[Ah,Ah,Xw,Xw];exact m0.lastA T.sa T.sb (by simpa using T.last) (by simpa using q)
  rw[Eb (by simpa using q)]
  refine Ee (wpS_get ?_);refine Ee (wpS_mono (wpS_forRange (I:=λx c st'=>∃res i j mg,c=(none,res,i,j,mg)/\GoG C a b st x none res i j st') (Q:=λc st'=>GL C a b st c.1 st') ?step ?fin ⟨_,_,_,_,rfl,Sm.refl _,rfl,m0,by lia,by lia,by lia⟩) ?post)
  case post =>
    rintro⟨c1,c2⟩ st' ⟨hs,x,rfl,hf⟩;exact Ef (h x st' hs hf)
  case fin =>
    rintro c st' ⟨res,i,j,mg,rfl,hs,_,m,h1,h2,h3⟩;lia
  case step =>
    rintro x c st' _ hx ⟨res,i,j,mg,rfl,hs,_,m,h1,h2,h3⟩;dsimp only;refine Ee (wpS_mono (wpS_forRange (I:=λy c st''=>∃res i j ac bc,c=(none,res,i,j,ac,bc)/\GoG C a b st (x+y) none res i j st'')
      (Q:=λc st''=>GL C a b st c.1 st''∨∃res i j ac bc,c=(none,res,i,j,ac,bc)/\GoG C a b st (x+1) none res i j st'') ?step1 ?fin1 ⟨_,_,_,_,_,rfl,hs,rfl,m,h1,h2,h3⟩) ?post1)
    case fin1 =>
      rintro c st'' ⟨res,i,j,ac,bc,rfl,hs,_,m,h1,h2,h3⟩;lia
    case step1 =>
      rintro y c st'' _ hy ⟨res,i,j,ac,bc,rfl,hs,_,m,h1,h2,h3⟩;dsimp only;have hi:i < a.size:=by lia
      refine Ee (Zv h2 (Ee (Zv hi (Ee (C.lt st'' _ _ _ (T.mb _ (by simp)) (T.ma _ (by simp)) (hs.1.trans hk) ?_)))))
      dsimp only;by_cases hlt:C.key b[j] < C.key a[i]
      . simp only[hlt,decide_true,if_true]
        refine Ee (Zv h2 ?_);have m':=m.takeB T.sb 1 (λx hx y hy=>by
          rw[XW b h2] at hx;rw[As.mp hx];obtain⟨t,ht,q,rfl⟩:=yi hy;have:=qF T.sa ht q;lia)
        rw[XW b h2,<- Array.toList_push] at m';by_cases q:j+1=b.size
        . rw[Ec (by simpa using q)]
          refine Ef (.inl ⟨hs,_,rfl,?_⟩);rw[Ah,Ah,Xw,Xw];exact m'.endB T.sa (by simp;lia)
        . rw[Eb (by simpa using q)]
          split
          . exact Ef (.inr ⟨_,_,_,_,_,rfl,hs,rfl,m',h1,by lia,by lia⟩)
          . exact Ef ⟨_,_,_,_,_,rfl,hs,rfl,m',h1,by lia,by lia⟩
      . simp only[hlt,decide_false,A7,if_false]
        refine Ee (Zv hi ?_);have m':=m.takeA T.sa 1 (λx hx y hy=>by
          rw[XW a hi] at hx;rw[As.mp hx];obtain⟨t,ht,q,rfl⟩:=yi hy;have:=qF T.sb ht q;lia)
        rw[XW a hi,<- Array.toList_push] at m';by_cases q:i+1+1=a.size
        . rw[Ec (by simpa using q)]
          refine Ef (.inl ⟨hs,_,rfl,?_⟩);rw[Ah,Ah,Xw,Xw];exact m'.lastA T.sa T.sb (by simpa using T.last) (by simpa using q)
        . rw[Eb (by simpa using q)]
          split
          . exact Ef (.inr ⟨_,_,_,_,_,rfl,hs,rfl,m',by lia,h2,by lia⟩)
          . exact Ef ⟨_,_,_,_,_,rfl,hs,rfl,m',by lia,h2,by lia⟩
    case post1 =>
      rintro⟨c1,c2⟩ st'' (⟨hs,r,hr,hf⟩ | ⟨res,i,j,ac,bc,e,hs,_,m,h1,h2,h3⟩)
      . simp only at hr
        subst hr;exact Ef ⟨hs,r,rfl,hf⟩
      . cases e
        dsimp only;refine Ee (yq ?_);refine Ee (wpS_mono (wpS_forRange (I:=λy c st3=>∃res i j mg ac bc,c=(none,res,i,j,mg,ac,bc)/\GoG C a b st (x+1+y) none res i j st3)
          (Q:=λc st3=>GL C a b st c.1 st3∨∃res i j mg ac bc,c=(none,res,i,j,mg,ac,bc)/\GoG C a b st (x+1) none res i j st3) ?step2 ?fin2 ⟨_,_,_,_,_,_,rfl,hs,rfl,m,h1,h2,by lia⟩) ?post2)
        case fin2 =>
          rintro c st3 ⟨res,i,j,mg,ac,bc,rfl,hs,_,m,h1,h2,h3⟩;lia
        case step2 =>
          rintro y c st3 _ hy ⟨res,i,j,mg,ac,bc,rfl,hs,_,m,h1,h2,h3⟩;dsimp only;have key:=λmg=>QhE (mg:=mg) (ac:=ac) (bc:=bc) (n0:=x+1+(y+1)) T hk hs m h1 h2 (by lia)
          rcases Bi 1 mg with hm | hm
          . rw[Ec hm]
            refine wpS_mono (key (mg - 1)) ?_;intro r st4 hr;cases r with
            | done c =>
              obtain⟨c1,c2,c3,c4,c5,c6,c7⟩:=c;rcases hr with q | q
              . exact .inl q
              . obtain⟨g1,g2,g3,g4,g5,g6⟩:=q
                simp only at g2 g3 g4 g5 g6;subst g2;exact .inr ⟨_,_,_,_,_,_,rfl,g1,rfl,g3,g4,g5,by lia⟩
            | yield c =>
              obtain⟨c1,c2,c3,c4,c5,c6,c7⟩:=c;obtain⟨g1,g2,g3,g4,g5,g6⟩:=hr;simp only at g2 g3 g4 g5 g6;subst g2;exact⟨_,_,_,_,_,_,rfl,g1,rfl,g3,g4,g5,g6⟩
          . rw[Eb (by lia)]
            refine wpS_mono (key mg) ?_;intro r st4 hr;cases r with
            | done c =>
              obtain⟨c1,c2,c3,c4,c5,c6,c7⟩:=c;rcases hr with q | q
              . exact .inl q
              . obtain⟨g1,g2,g3,g4,g5,g6⟩:=q
                simp only at g2 g3 g4 g5 g6;subst g2;exact .inr ⟨_,_,_,_,_,_,rfl,g1,rfl,g3,g4,g5,by lia⟩
            | yield c =>
              obtain⟨c1,c2,c3,c4,c5,c6,c7⟩:=c;obtain⟨g1,g2,g3,g4,g5,g6⟩:=hr;simp only at g2 g3 g4 g5 g6;subst g2;exact⟨_,_,_,_,_,_,rfl,g1,rfl,g3,g4,g5,g6⟩
        case post2 =>
          rintro⟨c1,c2⟩ st3 (⟨hs,r,hr,hf⟩ | ⟨res,i,j,mg,ac,bc,e,hs,_,m,h1,h2,h3⟩)
          . simp only at hr
            subst hr;exact Ef ⟨hs,r,rfl,hf⟩
          . cases e
            dsimp only;refine Ee (xD hs λst4 hs4=>?_);exact Ef ⟨_,_,_,_,rfl,hs4,rfl,m,h1,h2,h3⟩
variable{C:Cmp}
structure MH(C:Cmp)(A B R:List Keyed)(p q:Nat):Prop where
 perm:(A.take p++B.take q++R).Perm (A++B)
 srt:Srt C R
 high:∀x∈A.take p++B.take q,∀y∈R,C.key x<=C.key y
section
variable{A B R:List Keyed}{p q:Nat}
theorem KO(A:List Keyed){p r:Nat}(h:r<=p):A.take p=A.take r++(A.take p).drop r:=by
 have:A.take r=(A.take p).take r:=by rw[List.take_take,Nat.min_eq_left h]
 rw[this,B0]
theorem MH.takeA(m:MH C A B R p q)(hA:Srt C A){r:Nat}(hr:r<=p)(h:∀y∈(A.take p).drop r,∀x∈B.take q,C.key x<=C.key y):MH C A B ((A.take p).drop r++R) r q:=by
 have e:=KO A hr;have hd:=hA.take p;rw[e] at hd;obtain⟨_,_,h3⟩:=Bw.mp hd;have sc:Srt C ((A.take p).drop r):=(hA.take p).drop r;have mm:∀y∈(A.take p).drop r,y∈A.take p:=λy hy=>Cd hy;generalize (A.take p).drop r=ch at e h h3 sc mm ⊢;refine⟨?_,sc.app m.srt λx hx y hy=>m.high x (A8 _ (mm x hx)) y hy,λx hx y hy=>?_⟩
 ·refine List.Perm.trans ?_ m.perm
  rw[e];simp only[A9];refine List.Perm.append_left _ ?_;rw[<- A9,<- A9];exact List.Perm.append_right _ List.perm_append_comm
 ·rcases Aj.mp hy with z | z
  ·rcases Aj.mp hx with w | w
   ·exact h3 x w y z
   ·exact h y z x w
  ·refine m.high x ?_ y z
   rcases Aj.mp hx with w | w
   ·exact A8 _ (by rw[e];exact A8 _ w)
   ·exact Ak _ w
theorem MH.takeB(m:MH C A B R p q)(hB:Srt C B){r:Nat}(hr:r<=q)(h:∀y∈(B.take q).drop r,∀x∈A.take p,C.key x<=C.key y):MH C A B ((B.take q).drop r++R) p r:=by
 have e:=KO B hr;have hd:=hB.take q;rw[e] at hd;obtain⟨_,_,h3⟩:=Bw.mp hd;have sc:Srt C ((B.take q).drop r):=(hB.take q).drop r;have mm:∀y∈(B.take q).drop r,y∈B.take q:=λy hy=>Cd hy;generalize (B.take q).drop r=ch at e h h3 sc mm ⊢;refine⟨?_,sc.app m.srt λx hx y hy=>m.high x (Ak _ (mm x hx)) y hy,λx hx y hy=>?_⟩
 ·have:=m.perm
  rw[e] at this;simpa [A9] using this
 ·rcases Aj.mp hy with z | z
  ·rcases Aj.mp hx with w | w
   ·exact h y z x w
   ·exact h3 x w y z
  ·refine m.high x ?_ y z
   rcases Aj.mp hx with w | w
   ·exact A8 _ w
   ·exact Ak _ (by rw[e];exact A8 _ w)
theorem MH.endA(m:MH C A B R p q)(hp:p=0)(hB:Srt C B):Fin C A B (A.take p++B.take q++R):=by
 subst hp;exact⟨by simpa using(hB.take q).app m.srt λx hx y hy=>m.high x (Ak _ hx) y hy,m.perm⟩
theorem MH.endB(m:MH C A B R p q)(hq:q=0)(hA:Srt C A):Fin C A B (A.take p++B.take q++R):=by
 subst hq;exact⟨by simpa using(hA.take p).app m.srt λx hx y hy=>m.high x (A8 _ hx) y hy,m.perm⟩
theorem MH.firstB(m:MH C A B R p q)(hq:q=1)(hA:Srt C A)(hB:Srt C B)(hf:∀y∈A,∀x∈B.take 1,C.key x<=C.key y):Fin C A B (B.take q++A.take p++R):=by
 subst hq;refine⟨((hB.take 1).app (hA.take p) λx hx y hy=>hf y (Bx hy) x hx).app m.srt λx hx y hy=>?_,?_⟩
 ·refine m.high x ?_ y hy
  rcases Aj.mp hx with w | w
  ·exact Ak _ w
  ·exact A8 _ w
 ·exact(List.Perm.append_right _ List.perm_append_comm).trans m.perm
end
theorem Qf8(a b:Array Keyed):mHi a b=(do
  rule "list.sort.merge-hi"
  let all:=a.size+b.size
  let fin (res:Array Keyed) (p q:Nat):=a.extract 0 p++b.extract 0 q++res.reverse
  let fst (res:Array Keyed) (p q:Nat):=b.extract 0 q++a.extract 0 p++res.reverse
  let mut p:=a.size - 1
  let mut q:=b.size
  let mut res:Array Keyed:=#[<- elem' a p]
  if p==0 then return fin res p q
  if q==1 then return fst res p q
  let mut mg:=gallopOf (<- get)
  for _ in [0:all] do
   let mut ac:=0
   let mut bc:=0
   for _ in [0:all] do
    let some aw <- lt' (<- elem' b (q - 1)) (<- elem' a (p - 1)) | return fin res p q
    if aw then
     p:=p - 1;res:=res.push (<- elem' a p);ac:=ac+1;bc:=0
     if p==0 then return fin res p q
     if ac≥mg then break
    else
     q:=q - 1;res:=res.push (<- elem' b q);bc:=bc+1;ac:=0
     if q==1 then return fst res p q
     if bc≥mg then break
   rule "list.sort.gallop"
   mg:=mg+1
   for _ in [0:all] do
    if mg > 1 then mg:=mg - 1
    jG mg
    let some t <- gal false (<- elem' b (q - 1)) a 0 p (p - 1) | return fin res p q
    let k:=p - t
    ac:=k
    if k > 0 then
     res:=res++(a.extract t p).reverse;p:=t
     if p==0 then return fin res p q
    q:=q - 1;res:=res.push (<- elem' b q)
    if q==1 then return fst res p q
    let some t <- gal true (<- elem' a (p - 1)) b 0 q (q - 1) | return fin res p q
    let k:=q - t
    bc:=k
    if k > 0 then
     res:=res++(b.extract t q).reverse;q:=t
     if q==1 then return fst res p q
     if q==0 then return fin res p q
    p:=p - 1;res:=res.push (<- elem' a p)
    if p==0 then return fin res p q
    if ac < 7&&bc < 7 then break
   mg:=mg+1
   jG mg
  unsupported "internal:list.sort.merge-bound"):=rfl
abbrev HS:=Option (Array Keyed)×Nat×Nat×Array Keyed×Nat×Nat×Nat
def hi4(a b:Array Keyed)(mg ac bc:Nat)(res:Array Keyed)(p q:Nat):StateT SortSt Sem (ForInStep HS):=do
 let x <- elem' a (p - 1)
 if (p - 1==0)=true then pure (.done (some (a.extract 0 (p - 1)++b.extract 0 q++(res.push x).reverse),p - 1,q,res.push x,mg,ac,bc))
 else if (decide (ac < 7)&&decide (bc < 7))=true then pure (.done (none,p - 1,q,res.push x,mg,ac,bc)) else pure (.yield (none,p - 1,q,res.push x,mg,ac,bc))
def hi3(a b:Array Keyed)(mg ac bc:Nat)(res:Array Keyed)(p q:Nat):StateT SortSt Sem (ForInStep HS):=do
 let y <- elem' a (p - 1)
 let z <- gal true y b 0 q (q - 1)
 match z with
 | some t=>(if q - t > 0 then (if (t==1)=true then pure (.done (some (b.extract 0 t++a.extract 0 p++(res++(b.extract t q).reverse).reverse),p,t,res++(b.extract t q).reverse,mg,ac,q - t))
   else if (t==0)=true then pure (.done (some (a.extract 0 p++b.extract 0 t++(res++(b.extract t q).reverse).reverse),p,t,res++(b.extract t q).reverse,mg,ac,q - t))
   else hi4 a b mg ac (q - t) (res++(b.extract t q).reverse) p t) else hi4 a b mg ac (q - t) res p q:StateT SortSt Sem (ForInStep HS))
 | _=>pure (.done (some (a.extract 0 p++b.extract 0 q++res.reverse),p,q,res,mg,ac,bc))
def hi2(a b:Array Keyed)(mg ac bc:Nat)(res:Array Keyed)(p q:Nat):StateT SortSt Sem (ForInStep HS):=do
 let y <- elem' b (q - 1)
 if (q - 1==1)=true then pure (.done (some (b.extract 0 (q - 1)++a.extract 0 p++(res.push y).reverse),p,q - 1,res.push y,mg,ac,bc))
 else hi3 a b mg ac bc (res.push y) p (q - 1)
def hi1(a b:Array Keyed)(mg ac bc:Nat)(res:Array Keyed)(p q:Nat):StateT SortSt Sem (ForInStep HS):=do
 jG mg
 let y <- elem' b (q - 1)
 let z <- gal false y a 0 p (p - 1)
 match z with
 | some t=>(if p - t > 0 then (if (t==0)=true then pure (.done (some (a.extract 0 t++b.extract 0 q++(res++(a.extract t p).reverse).reverse),t,q,res++(a.extract t p).reverse,mg,p - t,bc))
   else hi2 a b mg (p - t) bc (res++(a.extract t p).reverse) t q) else hi2 a b mg (p - t) bc res p q:StateT SortSt Sem (ForInStep HS))
 | _=>pure (.done (some (a.extract 0 p++b.extract 0 q++res.reverse),p,q,res,mg,ac,bc))
section
variable{a b res:Array Keyed}{p q r:Nat}
theorem qS(a:Array Keyed)(p:Nat):(a.extract 0 p).toList=a.toList.take p:=by
 simp[Array.toList_extract,List.extract_eq_take_drop]
theorem QbS(a:Array Keyed)(r p:Nat):(a.extract r p).toList=(a.toList.take p).drop r:=by
 rw[Array.toList_extract,List.extract_eq_take_drop,List.drop_take]
theorem Vk(x:Keyed):(res.push x).toList.reverse=x::res.toList.reverse:=by simp
theorem QcZ(ch:Array Keyed):(res++ch.reverse).toList.reverse=ch.toList++res.toList.reverse:=by simp
theorem qG(a:Array Keyed){p:Nat}(h0:1<=p)(h:p<=a.size):(a.toList.take p).drop (p - 1)=[a[p - 1]'(by lia)]:=by
 rw[List.drop_take,show p - (p - 1)=1 by lia]
 exact XW a (by lia)
theorem kR{x:Keyed}(h:x∈(a.toList.take p).drop r):∃t,r<=t/\t < p/\∃z:t < a.size,x=a[t]:=by
 obtain⟨t,ht,e⟩:=List.getElem_of_mem h;have h1:r+t < p/\r+t < a.size:=by simp at ht;lia
 exact⟨r+t,by lia,h1.1,h1.2,by rw[<- e];simp[C0,List.getElem_drop]⟩
theorem yj{x:Keyed}(h:x∈a.toList.take p):∃t,t < p/\∃z:t < a.size,x=a[t]:=by
 obtain⟨t,ht,e⟩:=List.getElem_of_mem h;have h1:t < p/\t < a.size:=by simp at ht;lia
 exact⟨t,h1.1,h1.2,by rw[<- e];simp[C0]⟩
end
section
variable{a b:Array Keyed}{st₀:SortSt}{n0:Nat}
def GoH(C:Cmp)(a b:Array Keyed)(st₀:SortSt)(n0:Nat)(r:Option (Array Keyed))(res:Array Keyed)(p q:Nat)(st':SortSt):Prop:=Sm st₀ st'/\r=none/\MH C a.toList b.toList res.toList.reverse p q/\(1<=p/\p<=a.size)/\(2<=q/\q<=b.size)/\n0+p+q < a.size+b.size
def gR(C:Cmp)(a b:Array Keyed)(st₀:SortSt)(n0:Nat)(r:ForInStep HS)(st':SortSt):Prop:=match r with
 | .done c=>GL C a b st₀ c.1 st'∨GoH C a b st₀ n0 c.1 c.2.2.2.1 c.2.1 c.2.2.1 st'
 | .yield c=>GoH C a b st₀ n0 c.1 c.2.2.2.1 c.2.1 c.2.2.1 st'
variable{mg ac bc p q:Nat}{res:Array Keyed}{st:SortSt}
theorem Qfm(T:Two C a b)(hs:Sm st₀ st)(m:MH C a.toList b.toList res.toList.reverse p q)(hp:1<=p/\p<=a.size)(hq:2<=q/\q<=b.size)(hn:n0+p+q<=a.size+b.size)(hc:∀x∈b.toList.take q,C.key x<=C.key (a[p - 1]'(by lia))):W C (hi4 a b mg ac bc res p q) (gR C a b st₀ n0) st:=by
 have hp':p - 1 < a.size:=by lia
 refine Ee (Zv hp' ?_);have m':=m.takeA T.sa (r:=p - 1) (by lia) (λy hy x hx=>by rw[qG a hp.1 hp.2] at hy;rw[As.mp hy];exact hc x hx)
 rw[qG a hp.1 hp.2,List.singleton_append,<- Vk] at m';by_cases z:p - 1=0
 ·rw[Ec (by simpa using z)]
  refine Ef (.inl ⟨hs,_,rfl,?_⟩);rw[Ah,Ah,qS,qS,Ce];exact m'.endA z T.sb
 ·rw[Eb (by simpa using z)]
  have g:GoH C a b st₀ n0 none (res.push a[p - 1]) (p - 1) q st:=⟨hs,rfl,m',by lia,hq,by lia⟩
  split
  ·exact Ef (.inr g)
  ·exact Ef g
theorem Qhw(T:Two C a b)(hk:kindOf st=C.kd)(hs:Sm st₀ st)(m:MH C a.toList b.toList res.toList.reverse p q)(hp:1<=p/\p<=a.size)(hq:2<=q/\q<=b.size)(hn:n0+p+q<=a.size+b.size):W C (hi3 a b mg ac bc res p q) (gR C a b st₀ n0) st:=by
 have hp':p - 1 < a.size:=by lia
 refine Ee (Zv hp' (Ee (Y9 (λt=>decide (kx C b (0+t) < C.key a[p - 1])) hk (T.ma _ (by simp)) T.mb (by lia) (by lia) (λt _=>rfl) (λs t h1 h2 h3=>?_) λt h1 h2 h3=>?_)))
 ·exact Eg (Int.lt_of_le_of_lt (Ul T.sb (by lia) (by lia)) (Eh h3))
 ·dsimp only
  have m':=m.takeB T.sb h1 (λy hy x hx=>by
   obtain⟨u,hu1,hu2,z,rfl⟩:=kR hy;have e:=of_decide_eq_false (h3 u hu1 hu2);rw[C7,Jt b z] at e;obtain⟨v,hv,z2,rfl⟩:=yj hx;have:=qF T.sa (show v<=p - 1 by lia) hp'
   lia)
  have hc:∀x∈b.toList.take t,C.key x<=C.key a[p - 1]:=λx hx=>by
   obtain⟨v,hv,z2,rfl⟩:=yj hx;have e:=Eh (h2 v hv);rw[C7,Jt b z2] at e;lia
  rw[<- QbS,<- QcZ] at m';by_cases hk0:q - t > 0
  ·rw[Ec hk0]
   by_cases z:t=1
   ·rw[Ec (by simpa using z)]
    refine Ef (.inl ⟨hs,_,rfl,?_⟩);rw[Ah,Ah,qS,qS,Ce];exact m'.firstB z T.sa T.sb T.first
   ·rw[Eb (by simpa using z)]
    by_cases z2:t=0
    ·rw[Ec (by simpa using z2)]
     refine Ef (.inl ⟨hs,_,rfl,?_⟩);rw[Ah,Ah,qS,qS,Ce];exact m'.endB z2 T.sa
    ·rw[Eb (by simpa using z2)]
     exact Qfm T hs m' hp (by lia) (by lia) hc
  ·rw[Eb hk0]
   have:t=q:=by lia
   subst this;exact Qfm T hs m hp hq hn hc
theorem Qfl(T:Two C a b)(hk:kindOf st=C.kd)(hs:Sm st₀ st)(m:MH C a.toList b.toList res.toList.reverse p q)(hp:1<=p/\p<=a.size)(hq:2<=q/\q<=b.size)(hn:n0+p+q<=a.size+b.size)(hc:∀x∈a.toList.take p,C.key x<=C.key (b[q - 1]'(by lia))):W C (hi2 a b mg ac bc res p q) (gR C a b st₀ n0) st:=by
 have hq':q - 1 < b.size:=by lia
 refine Ee (Zv hq' ?_);have m':=m.takeB T.sb (r:=q - 1) (by lia) (λy hy x hx=>by rw[qG b (by lia) hq.2] at hy;rw[As.mp hy];exact hc x hx)
 rw[qG b (by lia) hq.2,List.singleton_append,<- Vk] at m'
 by_cases z:q - 1=1
 ·rw[Ec (by simpa using z)]
  refine Ef (.inl ⟨hs,_,rfl,?_⟩);rw[Ah,Ah,qS,qS,Ce];exact m'.firstB z T.sa T.sb T.first
 ·rw[Eb (by simpa using z)]
  exact Qhw T hk hs m' hp (by lia) (by lia)
theorem Qhv(T:Two C a b)(hk:kindOf st₀=C.kd)(hs:Sm st₀ st)(m:MH C a.toList b.toList res.toList.reverse p q)(hp:1<=p/\p<=a.size)(hq:2<=q/\q<=b.size)(hn:n0+p+q<=a.size+b.size):W C (hi1 a b mg ac bc res p q) (gR C a b st₀ n0) st:=by
 refine Ee (xD hs λst hs=>?_);have hk':kindOf st=C.kd:=hs.1.trans hk;have hq':q - 1 < b.size:=by lia
 refine Ee (Zv hq' (Ee (Y9 (λt=>!decide (C.key b[q - 1] < kx C a (0+t))) hk' (T.mb _ (by simp)) T.ma (by lia) (by lia) (λt _=>rfl) (λs t h1 h2 h3=>?_) λt h1 h2 h3=>?_)))
 ·have e:=Ul T.sa (show 0+s<=0+t by lia) (by lia)
  simp only[Cs,decide_eq_false_iff_not] at h3 ⊢;lia
 ·dsimp only
  have m':=m.takeA T.sa h1 (λy hy x hx=>by
   obtain⟨u,hu1,hu2,z,rfl⟩:=kR hy;have e:=h3 u hu1 hu2;simp only[Bool.not_eq_false',decide_eq_true_eq] at e;rw[C7,Jt a z] at e;obtain⟨v,hv,z2,rfl⟩:=yj hx;have:=qF T.sb (show v<=q - 1 by lia) hq'
   lia)
  have hc:∀x∈a.toList.take t,C.key x<=C.key b[q - 1]:=λx hx=>by
   obtain⟨v,hv,z2,rfl⟩:=yj hx;have e:=h2 v hv;simp only[Cs,decide_eq_false_iff_not] at e;rw[C7,Jt a z2] at e;lia
  rw[<- QbS,<- QcZ] at m';by_cases hk0:p - t > 0
  ·rw[Ec hk0]
   by_cases z:t=0
   ·rw[Ec (by simpa using z)]
    refine Ef (.inl ⟨hs,_,rfl,?_⟩);rw[Ah,Ah,qS,qS,Ce];exact m'.endA z T.sb
   ·rw[Eb (by simpa using z)]
    exact Qfl T hk' hs m' (by lia) hq (by lia) hc
  ·rw[Eb hk0]
   have:t=p:=by lia
   subst this;exact Qfl T hk' hs m hp hq hn hc
theorem mh0(T:Two C a b):MH C a.toList b.toList [a[a.size - 1]'(by have:=T.na;lia)] (a.size - 1) b.size:=by
 have na:=T.na;have ea:a.toList.take a.size=a.toList:=Ci (by simp)
 have eb:b.toList.take b.size=b.toList:=Ci (by simp)
 have m:MH C a.toList b.toList [] a.size b.size:=⟨by rw[ea,eb,Bu],List.Pairwise.nil,λx hx y hy=>by simp at hy⟩
 have:=m.takeA T.sa (r:=a.size - 1) (by lia) (λy hy x hx=>T.last y (by rw[ea] at hy;exact hy) x (Bx hx))
 rw[qG a na (Ag _)] at this;simpa using this
theorem QhG{Q:Array Keyed->SortSt->Prop}(T:Two C a b)(hk:kindOf st=C.kd)(h:∀r st',Sm st st'->Fin C a.toList b.toList r.toList->Q r st'):W C (mHi a b) Q st:=by
  have na:=T.na;have nb:=T.nb;have m0:=mh0 T;have hl:a.size - 1 < a.size:=by lia
  rw[Qf8];dsimp only;refine Ee (yq (Ee (Zv hl ?_)));have m1:MH C a.toList b.toList (#[a[a.size - 1]]).toList.reverse (a.size - 1) b.size:=m0;by_cases z:a.size - 1=0
  . rw[Ec (by simpa using z)]
    refine Ef (h _ st (Sm.refl _) ?_);rw[Ah,Ah,qS,qS,Ce];exact m1.endA z T.sb
  rw[Eb (by simpa using z)]
  by_cases z:b.size=1
  . rw[Ec (by simpa using z)]
    refine Ef (h _ st (Sm.refl _) ?_);rw[Ah,Ah,qS,qS,Ce];exact m1.firstB z T.sa T.sb T.first
  rw[Eb (by simpa using z)]
  refine Ee (wpS_get ?_);refine Ee (wpS_mono (wpS_forRange (I:=λx c st'=>∃p q res mg,c=(none,p,q,res,mg)/\GoH C a b st x none res p q st') (Q:=λc st'=>GL C a b st c.1 st') ?step ?fin ⟨_,_,_,_,rfl,Sm.refl _,rfl,m1,by lia,by lia,by lia⟩) ?post)
  case post =>
    rintro⟨c1,c2⟩ st' ⟨hs,x,rfl,hf⟩;exact Ef (h x st' hs hf)
  case fin =>
    rintro c st' ⟨p,q,res,mg,rfl,hs,_,m,h1,h2,h3⟩;lia
  case step =>
    rintro x c st' _ hx ⟨p,q,res,mg,rfl,hs,_,m,h1,h2,h3⟩;dsimp only;refine Ee (wpS_mono (wpS_forRange (I:=λy c st''=>∃p q res ac bc,c=(none,p,q,res,ac,bc)/\GoH C a b st (x+y) none res p q st'')
      (Q:=λc st''=>GL C a b st c.1 st''∨∃p q res ac bc,c=(none,p,q,res,ac,bc)/\GoH C a b st (x+1) none res p q st'') ?step1 ?fin1 ⟨_,_,_,_,_,rfl,hs,rfl,m,h1,h2,h3⟩) ?post1)
    case fin1 =>
      rintro c st'' ⟨p,q,res,ac,bc,rfl,hs,_,m,h1,h2,h3⟩;lia
    case step1 =>
      rintro y c st'' _ hy ⟨p,q,res,ac,bc,rfl,hs,_,m,h1,h2,h3⟩;dsimp only;have hp':p - 1 < a.size:=by lia
      have hq':q - 1 < b.size:=by lia
      refine Ee (Zv hq' (Ee (Zv hp' (Ee (C.lt st'' _ _ _ (T.mb _ (by simp)) (T.ma _ (by simp)) (hs.1.trans hk) ?_)))))
      dsimp only;by_cases hlt:C.key b[q - 1] < C.key a[p - 1]
      . simp only[hlt,decide_true,if_true]
        refine Ee (Zv hp' ?_);have m':=m.takeA T.sa (r:=p - 1) (by lia) (λy hy x hx=>by
          rw[qG a h1.1 h1.2] at hy;rw[As.mp hy];obtain⟨v,hv,z2,rfl⟩:=yj hx;have:=qF T.sb (show v<=q - 1 by lia) hq'
          lia)
        rw[qG a h1.1 h1.2,List.singleton_append,<- Vk] at m';by_cases z:p - 1=0
        . rw[Ec (by simpa using z)]
          refine Ef (.inl ⟨hs,_,rfl,?_⟩);rw[Ah,Ah,qS,qS,Ce];exact m'.endA z T.sb
        . rw[Eb (by simpa using z)]
          split
          . exact Ef (.inr ⟨_,_,_,_,_,rfl,hs,rfl,m',by lia,h2,by lia⟩)
          . exact Ef ⟨_,_,_,_,_,rfl,hs,rfl,m',by lia,h2,by lia⟩
      . simp only[hlt,decide_false,A7,if_false]
        refine Ee (Zv hq' ?_);have m':=m.takeB T.sb (r:=q - 1) (by lia) (λy hy x hx=>by
          rw[qG b (by lia) h2.2] at hy;rw[As.mp hy]
          obtain⟨v,hv,z2,rfl⟩:=yj hx;have:=qF T.sa (show v<=p - 1 by lia) hp'
          lia)
        rw[qG b (by lia) h2.2,List.singleton_append,<- Vk] at m'
        by_cases z:q - 1=1
        . rw[Ec (by simpa using z)]
          refine Ef (.inl ⟨hs,_,rfl,?_⟩);rw[Ah,Ah,qS,qS,Ce];exact m'.firstB z T.sa T.sb T.first
        . rw[Eb (by simpa using z)]
          split
          . exact Ef (.inr ⟨_,_,_,_,_,rfl,hs,rfl,m',h1,by lia,by lia⟩)
          . exact Ef ⟨_,_,_,_,_,rfl,hs,rfl,m',h1,by lia,by lia⟩
    case post1 =>
      rintro⟨c1,c2⟩ st'' (⟨hs,r,hr,hf⟩ | ⟨p,q,res,ac,bc,e,hs,_,m,h1,h2,h3⟩)
      . simp only at hr
        subst hr;exact Ef ⟨hs,r,rfl,hf⟩
      . cases e
        dsimp only;refine Ee (yq ?_);refine Ee (wpS_mono (wpS_forRange (I:=λy c st3=>∃p q res mg ac bc,c=(none,p,q,res,mg,ac,bc)/\GoH C a b st (x+1+y) none res p q st3)
          (Q:=λc st3=>GL C a b st c.1 st3∨∃p q res mg ac bc,c=(none,p,q,res,mg,ac,bc)/\GoH C a b st (x+1) none res p q st3) ?step2 ?fin2 ⟨_,_,_,_,_,_,rfl,hs,rfl,m,h1,h2,by lia⟩) ?post2)
        case fin2 =>
          rintro c st3 ⟨p,q,res,mg,ac,bc,rfl,hs,_,m,h1,h2,h3⟩;lia
        case step2 =>
          rintro y c st3 _ hy ⟨p,q,res,mg,ac,bc,rfl,hs,_,m,h1,h2,h3⟩;dsimp only;have key:=λmg=>Qhv (mg:=mg) (ac:=ac) (bc:=bc) (n0:=x+1+(y+1)) T hk hs m h1 h2 (by lia)
          rcases Bi 1 mg with hm | hm
          . rw[Ec hm]
            refine wpS_mono (key (mg - 1)) ?_;intro r st4 hr;cases r with
            | done c =>
              obtain⟨c1,c2,c3,c4,c5,c6,c7⟩:=c;rcases hr with z | z
              . exact .inl z
              . obtain⟨g1,g2,g3,g4,g5,g6⟩:=z
                simp only at g2 g3 g4 g5 g6;subst g2;exact .inr ⟨_,_,_,_,_,_,rfl,g1,rfl,g3,g4,g5,by lia⟩
            | yield c =>
              obtain⟨c1,c2,c3,c4,c5,c6,c7⟩:=c;obtain⟨g1,g2,g3,g4,g5,g6⟩:=hr;simp only at g2 g3 g4 g5 g6;subst g2;exact⟨_,_,_,_,_,_,rfl,g1,rfl,g3,g4,g5,g6⟩
          . rw[Eb (by lia)]
            refine wpS_mono (key mg) ?_;intro r st4 hr;cases r with
            | done c =>
              obtain⟨c1,c2,c3,c4,c5,c6,c7⟩:=c;rcases hr with z | z
              . exact .inl z
              . obtain⟨g1,g2,g3,g4,g5,g6⟩:=z
                simp only at g2 g3 g4 g5 g6;subst g2;exact .inr ⟨_,_,_,_,_,_,rfl,g1,rfl,g3,g4,g5,by lia⟩
            | yield c =>
              obtain⟨c1,c2,c3,c4,c5,c6,c7⟩:=c;obtain⟨g1,g2,g3,g4,g5,g6⟩:=hr;simp only at g2 g3 g4 g5 g6;subst g2;exact⟨_,_,_,_,_,_,rfl,g1,rfl,g3,g4,g5,g6⟩
        case post2 =>
          rintro⟨c1,c2⟩ st3 (⟨hs,r,hr,hf⟩ | ⟨p,q,res,mg,ac,bc,e,hs,_,m,h1,h2,h3⟩)
          . simp only at hr
            subst hr;exact Ef ⟨hs,r,rfl,hf⟩
          . cases e
            dsimp only;refine Ee (xD hs λst4 hs4=>?_);exact Ef ⟨_,_,_,_,rfl,hs4,rfl,m,h1,h2,h3⟩
end
variable{C:Cmp}
def seg(L:List Keyed)(s n:Nat):List Keyed:=(L.drop s).take n
theorem Yd{L:List Keyed}{s n:Nat}(h:s+n<=L.length):(seg L s n).length=n:=by simp[seg];lia
theorem Kq(L:List Keyed)(s n:Nat):L=L.take s++seg L s n++L.drop (s+n):=by
 unfold seg;rw[A9,<- Cw,B0,B0]
theorem Vl(L:List Keyed)(s n m:Nat):seg L s (n+m)=seg L s n++seg L (s+n) m:=by
 unfold seg;rw[<- Cw,List.take_add]
theorem QeP{P M M' R:List Keyed}{s n:Nat}(h:s+n<=P.length):seg (P++M++R) s n=seg (P++M'++R) s n:=by
 unfold seg;have:∀T:List Keyed,((P++T).drop s).take n=(P.drop s).take n:=λT=>by
  rw[List.drop_append_of_le_length (by lia),List.take_append_of_le_length (by simp;lia)]
 rw[A9,A9,this,this]
theorem Qc4{P M M' R:List Keyed}{s n:Nat}(hl:M.length=M'.length)(h:P.length+M.length<=s):seg (P++M++R) s n=seg (P++M'++R) s n:=by
 unfold seg;have e:∀T:List Keyed,T.length<=s->(T++R).drop s=R.drop (s - T.length):=λT hT=>by rw[List.drop_append,Cn hT,List.nil_append]
 rw[e (P++M) (by rw[Ao];lia),e (P++M') (by rw[Ao];lia),Ao,Ao,hl]
theorem QeO{P M R:List Keyed}{s n:Nat}(h:s=P.length)(hn:n=M.length):seg (P++M++R) s n=M:=by
 subst h hn;unfold seg;rw[A9,List.drop_left,List.take_left]
theorem GB{arr:Array Keyed}{s n i j:Nat}(h:Srt C (seg arr.toList s n))(hn:s+n<=arr.size)(hij:i<=j)(hj:j < n):kx C arr (s+i)<=kx C arr (s+j):=by
 rcases Bi i j with q | q
 ·have hl:(seg arr.toList s n).length=n:=Yd (by simpa using hn)
  have:=Cr.mp h i j (by lia) (by lia) q
  rw[Jt arr (by lia),Jt arr (by lia)]
  simpa [seg,C0,List.getElem_drop] using this
 ·have:i=j:=by lia
  subst this;exact Bp _
theorem QeW{arr:Array Keyed}{s n:Nat}(hn:s+n<=arr.size)(h:∀i j,i<=j->j < n->kx C arr (s+i)<=kx C arr (s+j)):Srt C (seg arr.toList s n):=by
 refine Cr.mpr λi j hi hj hij=>?_;have hl:(seg arr.toList s n).length=n:=Yd (by simpa using hn)
 have:=h i j (by lia) (by lia)
 rw[Jt arr (by lia),Jt arr (by lia)] at this
 simpa [seg,C0,List.getElem_drop] using this
def Runs(C:Cmp)(L:List Keyed):List (Nat×Nat×Nat)->Nat->Nat->Prop
 | [],s,e=>s=e
 | (x,n,_)::r,s,e=>x=s/\1<=n/\Srt C (seg L s n)/\Runs C L r (s+n) e
theorem Runs.le:∀{r:List (Nat×Nat×Nat)}{s e:Nat},Runs C L r s e->s+r.length<=e
 | [],_,_,h=>by cases h;simp
 | (x,n,_)::r,s,e,⟨_,h1,_,h2⟩=>by have:=Runs.le h2;simp;lia
theorem Runs.congr:∀{r:List (Nat×Nat×Nat)}{s e:Nat},Runs C L r s e->(∀a n,s<=a->a+n<=e->seg L' a n=seg L a n)->Runs C L' r s e
  | [],_,_,h,_=>h
  | (x,n,_)::r,s,e,⟨h0,h1,h2,h3⟩,q=>by
    have hle:=h3.le;exact⟨h0,h1,by rw[q s n (Ag _) (by lia)];exact h2,h3.congr λa m ha hm=>q a m (by lia) hm⟩
theorem Runs.app:∀{r r':List (Nat×Nat×Nat)}{s e:Nat},Runs C L (r++r') s e↔∃m,Runs C L r s m/\Runs C L r' m e
  | [],r',s,e=>⟨λh=>⟨s,rfl,h⟩,λ⟨m,h1,h2⟩=>by cases h1;exact h2⟩
  | (x,n,_)::r,r',s,e=>by
    constructor
    . rintro⟨h0,h1,h2,h3⟩
      obtain⟨m,q1,q2⟩:=Runs.app.mp h3;exact⟨m,⟨h0,h1,h2,q1⟩,q2⟩
    . rintro⟨m,⟨h0,h1,h2,h3⟩,q⟩
      exact⟨h0,h1,h2,Runs.app.mpr ⟨m,h3,q⟩⟩
structure G(C:Cmp)(L0:List Keyed)(st:SortSt)(lo:Nat):Prop where
 kind:kindOf st=C.kd
 fine:failedOf st=none
 perm:(arrOf st).toList.Perm L0
 runs:Runs C (arrOf st).toList (pendingOf st).toList 0 lo
 le:lo<=(arrOf st).size
theorem vj(off:Nat):∀(M:List Keyed)(j0:Nat)(arr:Array Keyed),off+j0+M.length<=arr.size->((M.zipIdx j0).foldl (λa x=>a.setIfInBounds (off+x.2) x.1) arr).toList=arr.toList.take (off+j0)++M++arr.toList.drop (off+j0+M.length)
  | [],j0,arr,h=>by simp
  | m::M,j0,arr,h=>by
    rw[List.zipIdx_cons,List.foldl_cons];have h':off+j0 < arr.size:=by simp at h;lia
    rw[vj off M (j0+1) _ (by simp at h ⊢;lia)]
    have e:(arr.setIfInBounds (off+j0) m).toList=arr.toList.take (off+j0)++m::arr.toList.drop (off+j0+1):=by
      rw[Array.toList_setIfInBounds,List.set_eq_take_append_cons_drop,Ec (by simpa using h')]
    have hl:(arr.toList.take (off+j0)).length=off+j0:=by simp;lia
    have t1:(arr.toList.take (off+j0)++m::arr.toList.drop (off+j0+1)).take (off+(j0+1))=arr.toList.take (off+j0)++[m]:=by
      rw[List.take_append,hl,show off+(j0+1) - (off+j0)=1 by lia,Ci (by lia)];simp
    have t2:(arr.toList.take (off+j0)++m::arr.toList.drop (off+j0+1)).drop (off+(j0+1)+M.length)=arr.toList.drop (off+j0+(m::M).length):=by
      rw[List.drop_append,hl,Cn (by lia),show off+(j0+1)+M.length - (off+j0)=M.length+1 by lia]
      simp[Cw];congr 1;lia
    show _=_;rw[e,t1,t2];simp
theorem Qf7(i:Nat):mAt i=(do
  let s <- get
  let (some (sa,na,pw),some (sb,nb,_)):=((pendingOf s)[i]?,(pendingOf s)[i+1]?) | unsupported "internal:list.sort.pending"
  set (setPending s (((pendingOf s).setIfInBounds i (sa,na+nb,pw)).eraseIdxIfInBounds (i+1)))
  let some k <- gal false (<- elem' (arrOf s) sb) (arrOf s) sa na 0 | return false
  let (sa,na):=(sa+k,na - k)
  if na==0 then return true
  let some nb <- gal true (<- elem' (arrOf s) (sa+na - 1)) (arrOf s) sb nb (nb - 1) | return false
  if nb==0 then return true
  let x:=(arrOf s).extract sa sb
  let y:=(arrOf s).extract sb (sb+nb)
  let both <- if na<=nb then mLo x y else mHi x y
  modify λs=>setArr s (both.toList.zipIdx.foldl (λa x=>a.setIfInBounds (sa+x.2) x.1) (arrOf s))
  return (failedOf (<- get)).isNone):=rfl
def QbT(a:Array Keyed)(s n:Nat):(a.extract s (s+n)).toList=seg a.toList s n:=Ka a s n
theorem Qdv{σ:Type}{s' st:σ}{Q:PUnit->σ->Prop}(h:Q ⟨⟩ s'):W C (set s':StateT σ Sem PUnit) Q st:=by
 show wpS _ _ _ _ _ Q st;unfold wpS;rw[StateT.run_set];exact Ed ⟨rfl,h⟩
theorem Qfr{L0:List Keyed}{st:SortSt}{lo i:Nat}{Q:Bool->SortSt->Prop}(hS:∀p∈L0,C.S p)(g:G C L0 st lo)(hi:i+1 < (pendingOf st).size)(h:∀st',G C L0 st' lo->(pendingOf st').size+1=(pendingOf st).size->(arrOf st').toList.drop lo=(arrOf st).toList.drop lo->Q true st'):W C (mAt i) Q st:=by
 have memS:∀p∈(arrOf st).toList,C.S p:=λp hp=>hS p (g.perm.mem_iff.mp hp);have e1:(pendingOf st)[i]?=some (pendingOf st)[i]:=getElem?_pos _ i (by lia)
 have e2:(pendingOf st)[i+1]?=some (pendingOf st)[i+1]:=getElem?_pos _ (i+1) hi;obtain⟨⟨sa,na,pw⟩,ea⟩:∃x,(pendingOf st)[i]=x:=⟨_,rfl⟩;obtain⟨⟨sb,nb,pw2⟩,eb⟩:∃x,(pendingOf st)[i+1]=x:=⟨_,rfl⟩;rw[ea] at e1;rw[eb] at e2;have split:(pendingOf st).toList=(pendingOf st).toList.take i++(sa,na,pw)::(sb,nb,pw2)::(pendingOf st).toList.drop (i+2):=by
  have l1:i < (pendingOf st).toList.length:=by simp;lia
  have l2:i+1 < (pendingOf st).toList.length:=by simpa using hi
  conv=>lhs;rw[<- B0 i (pendingOf st).toList,Bj l1,Bj l2]
  simp[ea,eb]
 have Oz:(((pendingOf st).setIfInBounds i (sa,na+nb,pw)).eraseIdxIfInBounds (i+1)).toList=(pendingOf st).toList.take i++(sa,na+nb,pw)::(pendingOf st).toList.drop (i+2):=by
  have l1:i < (pendingOf st).toList.length:=by simp;lia
  have:∀(x:Array (Nat×Nat×Nat)) k,(x.eraseIdxIfInBounds k).toList=x.toList.eraseIdx k:=λx k=>by
   have e:x=x.toList.toArray:=by simp
   conv=>lhs;rw[e,List.eraseIdxIfInBounds_toArray]
  rw[this,Array.toList_setIfInBounds,List.set_eq_take_append_cons_drop,Ec l1];have l3:((pendingOf st).toList.take i).length=i:=by simp;lia
  rw[List.eraseIdx_append_of_length_le (by lia),l3,show i+1 - i=1 by lia]
  rw[Bj (by simpa using hi)]
  rfl
 have r:=g.runs;rw[split] at r;obtain⟨m,r1,⟨hsa,hna,sA,hsb,hnb,sB,r2⟩⟩:=Runs.app.mp r;subst hsa hsb;have hle:=r2.le;have hsz:=g.le;have hlen:(arrOf st).toList.length=(arrOf st).size:=by simp
 have lr1:=r1.le;generalize hL:(arrOf st).toList=L at *;have done:∀(st':SortSt)(M:List Keyed),kindOf st'=kindOf st->failedOf st'=failedOf st->pendingOf st'=((pendingOf st).setIfInBounds i (sa,na+nb,pw)).eraseIdxIfInBounds (i+1)->(arrOf st').toList=L.take sa++M++L.drop (sa+(na+nb))->Srt C M->M.Perm (seg L sa na++seg L (sa+na) nb)->Q true st':=by
  intro st' M q1 q2 q3 q4 q5 q6;have hM:M.length=na+nb:=by rw[q6.length_eq,Ao,Yd (by lia),Yd (by lia)]
  have hT:(L.take sa).length=sa:=by simp;lia
  have hOld:=Kq L sa (na+nb);have hseg:(seg L sa (na+nb)).length=M.length:=by rw[Yd (by lia),hM]
  refine h st' ⟨q1.trans g.kind,q2.trans g.fine,?_,?_,?_⟩ ?_ ?_
  ·rw[q4]
   refine List.Perm.trans ?_ (show L.Perm L0 from hL▸g.perm)
   conv=>rhs;rw[hOld,Vl]
   exact List.Perm.append_right _ (List.Perm.append_left _ q6)
  ·rw[q3,Oz,q4]
   refine Runs.app.mpr ⟨sa,r1.congr λa n ha hn=>?_,rfl,by lia,?_,?_⟩
   ·conv=>rhs;rw[hOld]
    exact QeP (by rw[hT];lia)
   ·rw[QeO hT.symm hM.symm];exact q5
   ·have r2':Runs C L ((pendingOf st).toList.drop (i+2)) (sa+(na+nb)) lo:=by rw[<- Nat.add_assoc];exact r2
    refine r2'.congr λa n ha hn=>?_
    conv=>rhs;rw[hOld]
    exact Qc4 hseg.symm (by rw[hT,hM];lia)
  ·have:(arrOf st').size=(arrOf st).size:=by
    have e:=congrArg List.length q4;rw[Ao,Ao,hM,hT,Br] at e;rw[<- Cj,e];lia
   lia
  ·have e:=congrArg List.length Oz
   rw[<- q3] at e;have e0:=congrArg List.length split;simp at e e0;lia
  ·have d:L.drop lo=(L.drop (sa+(na+nb))).drop (lo - (sa+(na+nb))):=by rw[Cw];congr 1;lia
   have hl:(L.take sa++M).length=sa+(na+nb):=by rw[Ao,hT,hM]
   rw[q4,d,List.drop_append,hl,List.drop_eq_nil_of_le (by rw[hl];lia),List.nil_append]
 rw[Qf7];refine Ee (wpS_get ?_);simp only[e1,e2];refine Ee (Qdv ?_);have kd:kindOf (setPending st (((pendingOf st).setIfInBounds i (sa,na+nb,pw)).eraseIdxIfInBounds (i+1)))=C.kd:=g.kind;generalize hst:setPending st (((pendingOf st).setIfInBounds i (sa,na+nb,pw)).eraseIdxIfInBounds (i+1))=st1 at kd;have h1k:kindOf st1=kindOf st:=by rw[<- hst]
 have h1f:failedOf st1=failedOf st:=by rw[<- hst]
 have h1p:pendingOf st1=((pendingOf st).setIfInBounds i (sa,na+nb,pw)).eraseIdxIfInBounds (i+1):=by rw[<- hst]
 have h1a:arrOf st1=arrOf st:=by rw[<- hst]
 have hbs:sa+na < (arrOf st).size:=by lia
 have sA':Srt C (seg (arrOf st).toList sa na):=by rw[hL];exact sA
 have sB':Srt C (seg (arrOf st).toList (sa+na) nb):=by rw[hL];exact sB
 have memS':∀p∈(arrOf st).toList,C.S p:=by rw[hL];exact memS
 have b0:∀y∈seg L (sa+na) nb,C.key (arrOf st)[sa+na]<=C.key y:=λy hy=>by
  rw[<- hL] at hy;obtain⟨t,ht,z,rfl⟩:=zx hy;have:=GB sB' (by lia) (Bf t) ht
  rw[Nat.add_zero,Jt _ hbs,Jt _ z] at this;exact this
 refine Ee (Zv hbs (Ee (Y9 (λt=>!decide (C.key (arrOf st)[sa+na] < kx C (arrOf st) (sa+t))) kd (memS' _ (by simp)) memS' (by lia) (by lia) (λt _=>rfl) (λs t h1 h2 h3=>?_) λk h1 h2 h3=>?_)))
 ·have q:=GB sA' (by lia) h1 h2
  simp only[Cs,decide_eq_false_iff_not] at h3 ⊢;lia
 dsimp only;have A1:∀x∈seg L sa k,C.key x<=C.key (arrOf st)[sa+na]:=λx hx=>by
  rw[<- hL] at hx;obtain⟨t,ht,z,rfl⟩:=zx hx;have e:=h2 t ht;simp only[Cs,decide_eq_false_iff_not] at e;rw[Jt _ z] at e;lia
 have A2:∀x∈seg L (sa+k) (na - k),C.key (arrOf st)[sa+na] < C.key x:=λx hx=>by
  rw[<- hL] at hx;obtain⟨t,ht,z,rfl⟩:=zx hx;have e:=h3 (k+t) (by lia) (by lia)
  simp only[Bool.not_eq_false',decide_eq_true_eq] at e;rw[<- Nat.add_assoc,Jt _ z] at e;exact e
 have eA:seg L sa na=seg L sa k++seg L (sa+k) (na - k):=by rw[<- Vl,show k+(na - k)=na by lia]
 have same:(arrOf st1).toList=L.take sa++(seg L sa na++seg L (sa+na) nb)++L.drop (sa+(na+nb)):=by
  rw[h1a,hL,<- Vl];exact Kq L sa (na+nb)
 by_cases hz:na - k=0
 ·rw[Ec (by simpa using hz)]
  have hk':k=na:=by lia
  subst hk';exact Ef (done st1 _ h1k h1f h1p same (sA.app sB λx hx y hy=>C1 (A1 x hx) (b0 y hy)) (List.Perm.refl _))
 rw[Eb (by simpa using hz)]
 have hla:sa+k+(na - k) - 1 < (arrOf st).size:=by lia
 have eidx:sa+k+(na - k) - 1=sa+(na - 1):=by lia
 have kl:∀x∈seg L sa na,C.key x<=C.key ((arrOf st)[sa+k+(na - k) - 1]'hla):=λx hx=>by
  rw[<- hL] at hx;obtain⟨t,ht,z,rfl⟩:=zx hx;have e:=GB sA' (by lia) (show t<=na - 1 by lia) (by lia)
  rw[Jt _ z,<- eidx,Jt _ hla] at e;exact e
 refine Ee (Zv hla (Ee (Y9 (λt=>decide (kx C (arrOf st) (sa+na+t) < C.key ((arrOf st)[sa+k+(na - k) - 1]'hla))) kd (memS' _ (by simp)) memS' (by lia) (by lia) (λt _=>rfl) (λs t h1 h2 h3=>?_) λnb' g1 g2 g3=>?_)))
 ·exact Eg (Int.lt_of_le_of_lt (GB sB' (by lia) h1 h2) (Eh h3))
 dsimp only;generalize hal:C.key ((arrOf st)[sa+k+(na - k) - 1]'hla)=al at kl g2 g3;have B1:∀y∈seg L (sa+na) nb',C.key y < al:=λy hy=>by
  rw[<- hL] at hy;obtain⟨t,ht,z,rfl⟩:=zx hy;have e:=Eh (g2 t ht)
  rwa [Jt _ z] at e
 have B2:∀y∈seg L (sa+na+nb') (nb - nb'),al<=C.key y:=λy hy=>by
  rw[<- hL] at hy;obtain⟨t,ht,z,rfl⟩:=zx hy;have e:=of_decide_eq_false (g3 (nb'+t) (by lia) (by lia))
  rw[<- Nat.add_assoc,Jt _ z] at e;lia
 have eB:seg L (sa+na) nb=seg L (sa+na) nb'++seg L (sa+na+nb') (nb - nb'):=by rw[<- Vl,show nb'+(nb - nb')=nb by lia]
 by_cases hz2:nb'=0
 ·rw[Ec (by simpa using hz2)]
  subst hz2;refine Ef (done st1 _ h1k h1f h1p same (sA.app sB λx hx y hy=>?_) (List.Perm.refl _));exact C1 (kl x hx) (B2 y (by simpa using hy))
 rw[Eb (by simpa using hz2)]
 have ex:((arrOf st).extract (sa+k) (sa+na)).toList=seg L (sa+k) (na - k):=by
  rw[show sa+na=sa+k+(na - k) by lia,QbT,hL]
 have ey:((arrOf st).extract (sa+na) (sa+na+nb')).toList=seg L (sa+na) nb':=by rw[QbT,hL]
 have sx:((arrOf st).extract (sa+k) (sa+na)).size=na - k:=by rw[<- Cj,ex,Yd (by lia)]
 have sy:((arrOf st).extract (sa+na) (sa+na+nb')).size=nb':=by rw[<- Cj,ey,Yd (by lia)]
 have sX:Srt C (seg L (sa+k) (na - k)):=by rw[eA] at sA;exact(Bw.mp sA).2.1
 have sY:Srt C (seg L (sa+na) nb'):=by rw[eB] at sB;exact(Bw.mp sB).1
 have sY2:Srt C (seg L (sa+na+nb') (nb - nb')):=by rw[eB] at sB;exact(Bw.mp sB).2.1
 have sA1:Srt C (seg L sa k):=by rw[eA] at sA;exact(Bw.mp sA).1
 have inL:∀s n,∀p∈seg L s n,p∈L:=λs n p hp=>Cd (Bx hp);have T:Two C ((arrOf st).extract (sa+k) (sa+na)) ((arrOf st).extract (sa+na) (sa+na+nb')):=by
  refine⟨by rw[ex];exact sX,by rw[ey];exact sY,by rw[ex];exact λp hp=>memS p (inL _ _ p hp),by rw[ey];exact λp hp=>memS p (inL _ _ p hp),by lia,by lia,?_,?_⟩
  ·rw[ex,ey]
   intro y hy x hx;have:x∈seg L (sa+na) 1:=by
    unfold seg at hx ⊢;rw[List.take_take] at hx
    rwa [Nat.min_eq_left (by lia)] at hx
   rw[<- hL] at this;have e:=XW (arrOf st) hbs;unfold seg at this;rw[e] at this;rw[As.mp this];exact Ck (A2 y hy)
  ·rw[ex,ey,sx]
   intro x hx y hy;have hx':x∈seg L (sa+k+(na - k) - 1) 1:=by
    unfold seg at hx ⊢;rw[List.drop_take,Cw,show na - k - (na - k - 1)=1 by lia] at hx
    rwa [show sa+k+(na - k) - 1=sa+k+(na - k - 1) by lia]
   rw[<- hL] at hx';have e:=XW (arrOf st) hla;unfold seg at hx';rw[e] at hx';rw[As.mp hx',hal];exact Ck (B1 y hy)
 have fin:∀(r:Array Keyed)(st2:SortSt),Sm st1 st2->Fin C ((arrOf st).extract (sa+k) (sa+na)).toList ((arrOf st).extract (sa+na) (sa+na+nb')).toList r.toList->W C (do
   modify λs=>setArr s (r.toList.zipIdx.foldl (λa x=>a.setIfInBounds (sa+k+x.2) x.1) (arrOf s))
   let __do_lift <- get
   pure (failedOf __do_lift).isNone:StateT SortSt Sem Bool) Q st2:=by
  intro r st2 hs ⟨f1,f2⟩;rw[ex,ey] at f2;refine Ee (wpS_modify (Ee (wpS_get ?_)));have hf:failedOf (setArr st2 (r.toList.zipIdx.foldl (λa x=>a.setIfInBounds (sa+k+x.2) x.1) (arrOf st2)))=none:=(hs.2.2.2.trans h1f).trans g.fine;rw[hf];have rl:r.toList.length=na - k+nb':=by rw[f2.length_eq,Ao,Yd (by lia),Yd (by lia)]
  have a2:arrOf st2=arrOf st:=hs.2.1.trans h1a;have mem2:∀x∈r.toList,x∈seg L (sa+k) (na - k)∨x∈seg L (sa+na) nb':=λx hx=>Aj.mp (f2.mem_iff.mp hx);refine Ef (done _ (seg L sa k++r.toList++seg L (sa+na+nb') (nb - nb')) (hs.1.trans h1k) (hs.2.2.2.trans h1f) (hs.2.2.1.trans h1p) ?_ ?_ ?_)
  ·show((r.toList.zipIdx.foldl (λa x=>a.setIfInBounds (sa+k+x.2) x.1) (arrOf st2)).toList)=_
   rw[a2,vj (sa+k) r.toList 0 (arrOf st) (by rw[rl];lia),hL,Nat.add_zero,rl]
   have t1:L.take (sa+k)=L.take sa++seg L sa k:=by unfold seg;rw[List.take_add]
   have t2:L.drop (sa+k+(na - k+nb'))=seg L (sa+na+nb') (nb - nb')++L.drop (sa+(na+nb)):=by
    unfold seg;rw[show sa+k+(na - k+nb')=sa+na+nb' by lia,show L.drop (sa+(na+nb))=(L.drop (sa+na+nb')).drop (nb - nb') by rw[Cw];congr 1;lia,B0]
   rw[t1,t2];simp[A9]
  ·refine(sA1.app f1 λx hx y hy=>?_).app sY2 λx hx y hy=>?_
   ·rcases mem2 y hy with w | w
    ·exact C1 (A1 x hx) (Ck (A2 y w))
    ·exact C1 (A1 x hx) (b0 y (by rw[eB];exact A8 _ w))
   ·have hy':=B2 y hy
    rcases Aj.mp hx with w | w
    ·exact C1 (A1 x w) (b0 y (by rw[eB];exact Ak _ hy))
    ·rcases mem2 x w with v | v
     ·exact C1 (kl x (by rw[eA];exact Ak _ v)) hy'
     ·exact Ck (Int.lt_of_lt_of_le (B1 x v) hy')
  ·rw[eA,eB]
   have:(seg L sa k++r.toList++seg L (sa+na+nb') (nb - nb')).Perm (seg L sa k++(seg L (sa+k) (na - k)++seg L (sa+na) nb')++seg L (sa+na+nb') (nb - nb')):=List.Perm.append_right _ (List.Perm.append_left _ f2);simpa [A9] using this
 by_cases hle2:na - k<=nb'
 ·rw[Ec hle2]
  exact Ee (QhH T kd λr st2 hs hf=>fin r st2 hs hf)
 ·rw[Eb hle2]
  exact Ee (QhG T kd λr st2 hs hf=>fin r st2 hs hf)
variable{C:Cmp}
structure Bs(C:Cmp)(st₀ st:SortSt)(lo:Nat):Prop where
 kind:kindOf st=C.kd
 fine:failedOf st=none
 pend:pendingOf st=pendingOf st₀
 perm:(arrOf st).toList.Perm (arrOf st₀).toList
 low:∀i:Nat,i < lo->(arrOf st)[i]?=(arrOf st₀)[i]?
 mem:∀p∈(arrOf st₀).toList,C.S p
def SR(C:Cmp)(st:SortSt)(lo n:Nat):Prop:=∀i j,i<=j->j < n->kx C (arrOf st) (lo+i)<=kx C (arrOf st) (lo+j)
def NI(C:Cmp)(st:SortSt)(lo n:Nat):Prop:=∀i j,i<=j->j < n->kx C (arrOf st) (lo+j)<=kx C (arrOf st) (lo+i)
section
variable{st₀ st:SortSt}{lo n m:Nat}
theorem Bs.size(b:Bs C st₀ st lo):(arrOf st).size=(arrOf st₀).size:=by have:=b.perm.length_eq;simpa using this
def Bs.ok(b:Bs C st₀ st lo):Ok C st:=⟨b.kind,b.fine,λp hp=>b.mem p (b.perm.mem_iff.mp hp)⟩
theorem Bs.set(b:Bs C st₀ st lo){xs:Array Keyed}(hp:xs.Perm (arrOf st))(hl:∀i:Nat,i < lo->xs[i]?=(arrOf st)[i]?):Bs C st₀ (setArr st xs) lo :=
 ⟨b.kind,b.fine,b.pend,(Array.perm_iff_toList_perm.mp hp).trans b.perm,λi h=>(hl i h).trans (b.low i h),b.mem⟩
theorem vv{xs ys:Array Keyed}{i j:Nat}(h:xs[i]?=ys[j]?):kx C xs i=kx C ys j:=by unfold kx;rw[h]
theorem yf{xs:Array Keyed}{i j:Nat}(hj:j<=xs.size)(k:Nat):kx C (mirror xs i j ((j - i) / 2)) k=if i<=k/\k < j then kx C xs (i+j - 1 - k) else kx C xs k:=by
 have e:=getElem?_mirror_all (i:=i) hj k;split at e<;>rename_i q
 ·rw[Ec q];exact vv e
 ·rw[Eb q];exact vv e
theorem Bs.mirror(b:Bs C st₀ st lo){i j:Nat}(hi:lo<=i)(hj:j<=(arrOf st).size):Bs C st₀ (setArr st (mirror (arrOf st) i j ((j - i) / 2))) lo :=
 b.set (mirror_perm _ _ _ _) λk hk=>by rw[getElem?_mirror_all hj,Eb (by lia)]
theorem Ga{xs:Array Keyed}{i j:Nat}(hj:j<=xs.size)(he:∀k,i<=k->k < j->kx C xs k=kx C xs (j - 1))(k:Nat):kx C (mirror xs i j ((j - i) / 2)) k=kx C xs k:=by
 rw[yf hj];split
 ·rename_i q
  rw[he (i+j - 1 - k) (by lia) (by lia),he k q.1 q.2]
 ·rfl
theorem Qad{i j:Nat}{Q:Unit->SortSt->Prop}(h:Q () (setArr st (mirror (arrOf st) i j ((j - i) / 2)))):W C (reverseSlice' i j) Q st:=by
 rw[reverseSlice'_eq];exact wpS_modify h
def Qdj(lo n nrem:Nat):StateT SortSt Sem (Option Nat):=do
 reverseSlice' lo (lo+n)
 let mut m:=n
 for _ in [n:nrem] do
  let some less <- ltAt' (lo+m) (lo+m - 1) | return none
  if less then break
  m:=m+1
 return some m
theorem Qaj{nrem:Nat}{Q:Option Nat->SortSt->Prop}(b:Bs C st₀ st lo)(h1:1<=n)(hn:n<=nrem)(hs:lo+nrem<=(arrOf st₀).size)(ni:NI C st lo n)(h:∀m st',Bs C st₀ st' lo->1<=m->m<=nrem->SR C st' lo m->Q (some m) st'):W C (Qdj lo n nrem) Q st:=by
 unfold Qdj;have hz:=b.size;refine Ee (Qad ?_);have b1:=b.mirror (i:=lo) (j:=lo+n) (Ag _) (by lia)
 have s1:SR C (setArr st (PyProof.Rows.mirror (arrOf st) lo (lo+n) ((lo+n - lo) / 2))) lo n:=λi j hij hj=>by
  show kx C (PyProof.Rows.mirror _ _ _ _) _<=kx C (PyProof.Rows.mirror _ _ _ _) _;rw[yf (by lia),yf (by lia),Ec (by lia),Ec (by lia)]
  have:=ni (n - 1 - j) (n - 1 - i) (by lia) (by lia)
  rw[show lo+(lo+n) - 1 - (lo+i)=lo+(n - 1 - i) by lia,show lo+(lo+n) - 1 - (lo+j)=lo+(n - 1 - j) by lia]
  exact this
 generalize setArr st (PyProof.Rows.mirror (arrOf st) lo (lo+n) ((lo+n - lo) / 2))=st1 at b1 s1 ⊢;have hz1:=b1.size;dsimp only;refine Ee (wpS_mono (wpS_forRange (I:=λx c st'=>st'=st1/\c=(none,x)/\SR C st1 lo x) (Q:=λc st'=>st'=st1/\∃m,c=(none,m)/\1<=m/\m<=nrem/\SR C st1 lo m) ?step ?fin ⟨rfl,rfl,s1⟩) ?post)
 case post =>
  rintro c st' ⟨rfl,m,rfl,q1,q2,q3⟩;exact Ef (h m _ b1 q1 q2 q3)
 case fin =>
  rintro c st' ⟨rfl,rfl,q⟩;rw[show max n nrem=nrem by lia] at q ⊢
  exact⟨rfl,nrem,rfl,by lia,Ag _,q⟩
 case step =>
  rintro x c st' hx hxn ⟨rfl,rfl,q⟩;dsimp only;refine Ee (yg b1.ok (by lia) (by lia) ?_)
  by_cases hl:kx C (arrOf st') (lo+x) < kx C (arrOf st') (lo+x - 1)
  ·simp only[hl,decide_true,if_true]
   exact Ef ⟨rfl,x,rfl,by lia,by lia,q⟩
  ·simp only[hl,decide_false,A7,if_false]
   refine Ef ⟨rfl,rfl,λi j hij hj=>?_⟩;rcases Bi j x with w | w
   ·exact q i j hij w
   ·have:j=x:=by lia
    subst this;rcases Bi i j with v | v
    ·have:=q i (j - 1) (by lia) (by lia)
     rw[show lo+(j - 1)=lo+j - 1 by lia] at this
     lia
    ·have:i=j:=by lia
     subst this;exact Bp _
def Qfh(lo n0 nrem:Nat):StateT SortSt Sem (Option Nat):=do
 rule "list.sort.descending-run"
 let mut n:=n0+1
 let mut eqs:=0
 for _ in [n:nrem] do
  let some less <- ltAt' (lo+n) (lo+n - 1) | return none
  if less then
   if eqs > 0 then reverseSlice' (lo+n - (eqs+1)) (lo+n)
   eqs:=0
  else
   let some more <- ltAt' (lo+n - 1) (lo+n) | return none
   if more then break
   eqs:=eqs+1
  n:=n+1
 if eqs > 0 then reverseSlice' (lo+n - (eqs+1)) (lo+n)
 Qdj lo n nrem
theorem kj{nrem:Nat}{Q:Option Nat->SortSt->Prop}(b:Bs C st₀ st lo)(hn:n+1<=nrem)(hs:lo+nrem<=(arrOf st₀).size)(ni:NI C st lo (n+1))(h:∀m st',Bs C st₀ st' lo->1<=m->m<=nrem->SR C st' lo m->Q (some m) st'):W C (Qfh lo n nrem) Q st:=by
 unfold Qfh;refine Ee (yq ?_);dsimp only;refine Ee (wpS_mono (wpS_forRange (I:=λx c st'=>∃eqs,c=(none,x,eqs)/\Bs C st₀ st' lo/\NI C st' lo x/\eqs+1<=x/\∀i,x - (eqs+1)<=i->i < x->kx C (arrOf st') (lo+i)=kx C (arrOf st') (lo+x - 1))
  (Q:=λc st'=>∃x eqs,c=(none,x,eqs)/\Bs C st₀ st' lo/\NI C st' lo x/\eqs+1<=x/\1<=x/\x<=nrem/\∀i,x - (eqs+1)<=i->i < x->kx C (arrOf st') (lo+i)=kx C (arrOf st') (lo+x - 1)) ?step ?fin ⟨0,rfl,b,ni,by lia,λi h1 h2=>by congr 1;lia⟩) ?post)
 case fin =>
  rintro c st' ⟨eqs,rfl,q1,q2,q3,q4⟩;rw[show max (n+1) nrem=nrem by lia] at q2 q3 q4 ⊢
  exact⟨nrem,eqs,rfl,q1,q2,q3,by lia,Ag _,q4⟩
 case step =>
  rintro x c st' hx hxn ⟨eqs,rfl,q1,q2,q3,q4⟩;dsimp only;have hz:=q1.size;refine Ee (yg q1.ok (by lia) (by lia) ?_)
  by_cases hl:kx C (arrOf st') (lo+x) < kx C (arrOf st') (lo+x - 1)
  ·simp only[hl,decide_true,if_true]
   have more:∀ys:Array Keyed,(∀k,kx C ys k=kx C (arrOf st') k)->∀i j,i<=j->j < x+1->kx C ys (lo+j)<=kx C ys (lo+i):=λys hy i j hij hj=>by
    rw[hy,hy];rcases Bi j x with w | w
    ·exact q2 i j hij w
    ·have:j=x:=by lia
     subst this;rcases Bi i j with v | v
     ·have:=q2 i (j - 1) (by lia) (by lia)
      rw[show lo+(j - 1)=lo+j - 1 by lia] at this
      lia
     ·have:i=j:=by lia
      subst this;exact Bp _
   by_cases he:eqs > 0
   ·rw[Ec he]
    refine Ee (Qad (Ef ⟨0,rfl,q1.mirror (by lia) (by lia),more _ (Ga (by lia) λk h1 h2=>?_),by lia,λi h1 h2=>by congr 1;lia⟩))
    have e:=q4 (k - lo) (by lia) (by lia)
    rwa [show lo+(k - lo)=k by lia] at e
   ·rw[Eb he]
    exact Ef ⟨0,rfl,q1,more _ λ_=>rfl,by lia,λi h1 h2=>by congr 1;lia⟩
  ·simp only[hl,decide_false,A7,if_false]
   refine Ee (yg q1.ok (by lia) (by lia) ?_)
   by_cases hm:kx C (arrOf st') (lo+x - 1) < kx C (arrOf st') (lo+x)
   ·simp only[hm,decide_true,if_true]
    exact Ef ⟨x,eqs,rfl,q1,q2,q3,by lia,by lia,q4⟩
   ·simp only[hm,decide_false,A7,if_false]
    have ee:kx C (arrOf st') (lo+x)=kx C (arrOf st') (lo+x - 1):=by lia
    refine Ef ⟨eqs+1,rfl,q1,λi j hij hj=>?_,by lia,λi h1 h2=>?_⟩
    ·rcases Bi j x with w | w
     ·exact q2 i j hij w
     ·have:j=x:=by lia
      subst this;rcases Bi i j with v | v
      ·have:=q2 i (j - 1) (by lia) (by lia)
       rw[show lo+(j - 1)=lo+j - 1 by lia] at this
       lia
      ·have:i=j:=by lia
       subst this;exact Bp _
    ·rw[show lo+(x+1) - 1=lo+x by lia]
     rcases Bi i x with w | w
     ·rw[q4 i (by lia) w,ee]
     ·have:i=x:=by lia
      subst this;rfl
 case post =>
  rintro c st' ⟨x,eqs,rfl,q1,q2,q3,q4,q5,q6⟩;dsimp only;have hz:=q1.size;by_cases he:eqs > 0
  ·rw[Ec he]
   refine Ee (Qad (Qaj (q1.mirror (by lia) (by lia)) q4 q5 hs ?_ h))
   intro i j hij hj;show kx C (PyProof.Rows.mirror _ _ _ _) _<=kx C (PyProof.Rows.mirror _ _ _ _) _;have same:=Ga (C:=C) (xs:=arrOf st') (i:=lo+x - (eqs+1)) (j:=lo+x) (by lia) λk h1 h2=>by
    have e:=q6 (k - lo) (by lia) (by lia)
    rwa [show lo+(k - lo)=k by lia] at e
   rw[same,same];exact q2 i j hij hj
  ·rw[Eb he]
   exact Qaj q1 q4 q5 hs q2 h
theorem uD{nrem:Nat}{Q:Option Nat->SortSt->Prop}(b:Bs C st₀ st lo)(h1:1<=nrem)(hs:lo+nrem<=(arrOf st₀).size)(h:∀m st',Bs C st₀ st' lo->1<=m->m<=nrem->SR C st' lo m->Q (some m) st'):W C (countRun' lo nrem) Q st:=by
 have hz:=b.size;rw[countRun'_eq];dsimp only;refine Ee (wpS_mono (wpS_forRange (I:=λx c st'=>st'=st/\c=(none,x)/\SR C st lo x) (Q:=λc st'=>st'=st/\∃m,c=(none,m)/\1<=m/\m<=nrem/\SR C st lo m/\(m=nrem∨kx C (arrOf st) (lo+m) < kx C (arrOf st) (lo+m - 1))) ?step ?fin ⟨rfl,rfl,λi j hij hj=>(by obtain rfl:i=j:=(by lia);exact Bp _)⟩) ?post)
 case fin =>
  rintro c st' ⟨rfl,rfl,q⟩;rw[show max 1 nrem=nrem by lia] at q ⊢
  exact⟨rfl,nrem,rfl,by lia,Ag _,q,.inl rfl⟩
 case step =>
  rintro x c st' hx hxn ⟨rfl,rfl,q⟩;dsimp only;refine Ee (yg b.ok (by lia) (by lia) ?_)
  by_cases hl:kx C (arrOf st') (lo+x) < kx C (arrOf st') (lo+x - 1)
  ·simp only[hl,decide_true,if_true]
   exact Ef ⟨rfl,x,rfl,by lia,by lia,q,.inr hl⟩
  ·simp only[hl,decide_false,A7,if_false]
   refine Ef ⟨rfl,rfl,λi j hij hj=>?_⟩;rcases Bi j x with w | w
   ·exact q i j hij w
   ·have:j=x:=by lia
    subst this;rcases Bi i j with v | v
    ·have:=q i (j - 1) (by lia) (by lia)
     rw[show lo+(j - 1)=lo+j - 1 by lia] at this
     lia
    ·have:i=j:=by lia
     subst this;exact Bp _
 case post =>
  rintro c st' ⟨rfl,m,rfl,q1,q2,q3,q4⟩;dsimp only;by_cases hm:m=nrem
  ·rw[Ec (by simpa using hm)]
   exact Ef (h m _ b q1 q2 q3)
  ·rw[Eb (by simpa using hm)]
   have lt:=q4.resolve_left hm;by_cases hg:m > 1
   ·rw[Ec hg]
    refine Ee (yg b.ok (by lia) (by lia) ?_)
    by_cases hr:kx C (arrOf st') lo < kx C (arrOf st') (lo+m - 1)
    ·simp only[hr,decide_true,if_true]
     exact Ef (h m _ b q1 q2 q3)
    ·simp only[hr,decide_false,A7,if_false]
     have all:∀k,k < m->kx C (arrOf st') (lo+k)=kx C (arrOf st') (lo+m - 1):=λk hk=>by
      have e1:=q3 0 k (by lia) hk
      have e2:=q3 k (m - 1) (by lia) (by lia)
      rw[show lo+(m - 1)=lo+m - 1 by lia] at e2
      rw[Nat.add_zero] at e1;lia
     have same:=Ga (C:=C) (xs:=arrOf st') (i:=lo) (j:=lo+m) (by lia) λk h1 h2=>by
      have e:=all (k - lo) (by lia)
      rwa [show lo+(k - lo)=k by lia] at e
     refine Ee (Qad (kj (b.mirror (Ag _) (by lia)) (by lia) hs (λi j hij hj=>?_) h))
     show kx C (PyProof.Rows.mirror _ _ _ _) _<=kx C (PyProof.Rows.mirror _ _ _ _) _;rw[same,same];rcases Bi j m with w | w
     ·rw[all i (by lia),all j w];exact Bp _
     ·have:j=m:=by lia
      subst this;rcases Bi i j with v | v
      ·rw[all i v];exact Ck lt
      ·have:i=j:=by lia
       subst this;exact Bp _
   ·rw[Eb hg]
    have:m=1:=by lia
    subst this;refine kj b (by lia) hs (λi j hij hj=>?_) h
    rcases Bi i j with v | v
    ·have e1:i=0:=by lia
     have e2:j=1:=by lia
     subst e1 e2;rw[Nat.add_zero];exact Ck lt
    ·have:i=j:=by lia
     subst this;exact Bp _
theorem QaS{xs:Array Keyed}{src d:Nat}(hs:src < xs.size)(hd:d<=src)(k:Nat):kx C (bubble xs src d) k=if k=src - d then kx C xs src else if src - d < k/\k<=src then kx C xs (k - 1) else kx C xs k:=by
 have e:=getElem?_bubble hs d hd k;split at e<;>rename_i q
 ·rw[Ec q];exact vv e
 ·rw[Eb q]
  split at e<;>rename_i q2
  ·rw[Ec q2];exact vv e
  ·rw[Eb q2];exact vv e
theorem Qbw{ok:Nat}{Q:Bool->SortSt->Prop}(b:Bs C st₀ st lo)(h1:1<=ok)(hn:ok<=n)(hs:lo+n<=(arrOf st₀).size)(sr:SR C st lo ok)(h:∀st',Bs C st₀ st' lo->SR C st' lo n->Q true st'):W C (binarySort' lo n ok) Q st:=by
 rw[binarySort'_eq];refine Ee (wpS_mono (wpS_forRange (I:=λk c st'=>c=(none,())/\Bs C st₀ st' lo/\SR C st' lo (min k n)) (Q:=λc st'=>c=(none,())/\Bs C st₀ st' lo/\SR C st' lo n) ?step ?fin ?init) ?post)
 case post =>
  rintro c st' ⟨rfl,q1,q2⟩;exact Ef (h st' q1 q2)
 case init=>exact⟨rfl,b,λi j hij hj=>sr i j hij (by lia)⟩
 case fin =>
  rintro c st' ⟨e,q1,q2⟩;refine⟨e,q1,?_⟩
  rwa [show min (max (max ok 1) n) n=n by lia] at q2
 case step =>
  rintro k c st' hk hkn ⟨rfl,q1,q2⟩;rw[show min k n=k by lia] at q2
  have hz:=q1.size;refine Ee (wpS_mono (wpS_forRange (I:=λx c st''=>st''=st'/\∃l r,c=(none,l,r)/\l<=r/\r<=k/\r - l<=k - x/\(∀i,i < l->kx C (arrOf st') (lo+i)<=kx C (arrOf st') (lo+k))/\(∀i,r<=i->i < k->kx C (arrOf st') (lo+k) < kx C (arrOf st') (lo+i)))
   (Q:=λc st''=>st''=st'/\∃l r,c=(none,l,r)/\l<=k/\(∀i,i < l->kx C (arrOf st') (lo+i)<=kx C (arrOf st') (lo+k))/\(∀i,l<=i->i < k->kx C (arrOf st') (lo+k) < kx C (arrOf st') (lo+i))) ?st2 ?fi2 ⟨rfl,0,k,rfl,by lia,by lia,by lia,(λi hi=>by lia),λi h1 h2=>by lia⟩) ?po2)
  case fi2 =>
   rintro c st'' ⟨rfl,l,r,rfl,g1,g2,g3,g4,g5⟩;have:l=r:=by lia
   subst this;exact⟨rfl,l,l,rfl,g2,g4,g5⟩
  case st2 =>
   rintro x c st'' _ hx ⟨rfl,l,r,rfl,g1,g2,g3,g4,g5⟩;dsimp only;by_cases hlr:l≥r
   ·rw[Ec hlr]
    have:l=r:=by lia
    subst this;exact Ef ⟨rfl,l,l,rfl,g2,g4,g5⟩
   ·rw[Eb hlr]
    refine Ee (yg q1.ok (by lia) (by lia) ?_)
    by_cases hl:kx C (arrOf st'') (lo+k) < kx C (arrOf st'') (lo+(l+r) / 2)
    ·simp only[hl,decide_true,if_true]
     exact Ef ⟨rfl,l,(l+r) / 2,rfl,by lia,by lia,by lia,g4,λi u1 u2=>Int.lt_of_lt_of_le hl (q2 _ _ u1 u2)⟩
    ·simp only[hl,decide_false,A7,if_false]
     exact Ef ⟨rfl,(l+r) / 2+1,r,rfl,by lia,by lia,by lia,(λi u1=>C1 (q2 i ((l+r) / 2) (by lia) (by lia)) (Int.not_lt.mp hl)),g5⟩
  case po2 =>
   rintro c st'' ⟨rfl,l,r,rfl,g1,g2,g3⟩;show W C (do moveDown' (lo+k) (lo+l);pure (ForInStep.yield (none,()))) _ _
   rw[moveDown'_eq];have hks:lo+k < (arrOf st'').size:=by lia
   refine Ee (wpS_modify (Ef ⟨rfl,q1.set (bubble_perm _ _ _) (λi hi=>?_),?_⟩))
   ·rw[getElem?_bubble hks _ (by lia),Eb (by lia),Eb (by lia)]
   rw[show min (k+1) n=k+1 by lia]
   intro i j hij hj;show kx C (bubble (arrOf st'') (lo+k) (lo+k - (lo+l))) (lo+i)<=kx C (bubble (arrOf st'') (lo+k) (lo+k - (lo+l))) (lo+j);have val:∀i,i<=k->kx C (bubble (arrOf st'') (lo+k) (lo+k - (lo+l))) (lo+i)=if i=l then kx C (arrOf st'') (lo+k) else if l < i then kx C (arrOf st'') (lo+(i - 1)) else kx C (arrOf st'') (lo+i):=λi hi=>by
    rw[QaS hks (by lia)]
    by_cases e1:i=l
    ·rw[Ec (by lia),Ec e1]
    ·rw[Eb (by lia),Eb e1]
     by_cases e2:l < i
     ·rw[Ec (by lia),Ec e2,show lo+i - 1=lo+(i - 1) by lia]
     ·rw[Eb (by lia),Eb e2]
   rw[val i (by lia),val j (by lia)]
   by_cases i1:i=l
   ·rw[Ec i1]
    by_cases j1:j=l
    ·rw[Ec j1];exact Bp _
    ·rw[Eb j1,Ec (by lia)]
     exact Ck (g3 (j - 1) (by lia) (by lia))
   ·rw[Eb i1]
    by_cases i2:l < i
    ·rw[Ec i2,Eb (by lia),Ec (by lia)]
     exact q2 _ _ (by lia) (by lia)
    ·rw[Eb i2]
     by_cases j1:j=l
     ·rw[Ec j1];exact g2 i (by lia)
     ·rw[Eb j1]
      by_cases j2:l < j
      ·rw[Ec j2];exact q2 _ _ (by lia) (by lia)
      ·rw[Eb j2];exact q2 _ _ (by lia) (by lia)
end
end TS
open PySem PyProof PyProof.Rows
namespace TS
variable{C:Cmp}
theorem Qbi{L L':List Keyed}{lo a n:Nat}(h:∀i:Nat,i < lo->L'[i]?=L[i]?)(hl:a+n<=lo):seg L' a n=seg L a n:=by
 apply List.ext_getElem?;intro i;unfold seg;by_cases hi:i < n
 ·rw[Ca hi,Ca hi,Cc,Cc];exact h _ (by lia)
 ·rw[Cz (by simp;lia),Cz (by simp;lia)]
theorem Bs.g{L0:List Keyed}{st₀ st:SortSt}{lo:Nat}(b:Bs C st₀ st lo)(g:G C L0 st₀ lo):G C L0 st lo:=by
 refine⟨b.kind,b.fine,b.perm.trans g.perm,?_,by have:=b.size;have:=g.le;lia⟩
 rw[b.pend];refine g.runs.congr λa n _ hn=>Qbi (lo:=lo) (λi hi=>?_) hn;have:=b.low i hi;simpa using this
theorem Qc5{L L':List Keyed}{lo n:Nat}(h:L'.drop lo=L.drop lo):seg L' lo n=seg L lo n:=by unfold seg;rw[h]
theorem Runs.pw{pw:Nat}:∀{r:List (Nat×Nat×Nat)}{s e:Nat}(k:Nat),Runs C L r s e->Runs C L (r.modify k λ(a,b,_)=>(a,b,pw)) s e
 | [],_,_,k,h=>by simpa using h
 | (x,n,_)::r,s,e,0,⟨h0,h1,h2,h3⟩=>⟨h0,h1,h2,h3⟩
 | (x,n,_)::r,s,e,k+1,⟨h0,h1,h2,h3⟩=>⟨h0,h1,h2,h3.pw k⟩
theorem G.pw{L0:List Keyed}{st:SortSt}{lo pw:Nat}(g:G C L0 st lo):G C L0 (setPending st ((pendingOf st).modify ((pendingOf st).size - 1) λ(st,len,_)=>(st,len,pw))) lo:=by
 refine⟨g.kind,g.fine,g.perm,?_,g.le⟩;show Runs C (arrOf st).toList ((pendingOf st).modify _ _).toList 0 lo;rw[Array.toList_modify];exact g.runs.pw _
theorem G.push{L0:List Keyed}{st:SortSt}{lo n:Nat}(g:G C L0 st lo)(h1:1<=n)(hn:lo+n<=(arrOf st).size)(hs:Srt C (seg (arrOf st).toList lo n)):G C L0 (setPending st ((pendingOf st).push (lo,n,0))) (lo+n):=by
 refine⟨g.kind,g.fine,g.perm,?_,hn⟩;show Runs C (arrOf st).toList ((pendingOf st).push (lo,n,0)).toList 0 (lo+n);rw[Array.toList_push];exact Runs.app.mpr ⟨lo,g.runs,rfl,h1,hs,rfl⟩
theorem G.size{L0:List Keyed}{st:SortSt}{lo:Nat}(g:G C L0 st lo):(arrOf st).size=L0.length:=by have:=g.perm.length_eq;simpa using this
theorem QcY{L:List Keyed}{r:List (Nat×Nat×Nat)}{e:Nat}(h:Runs C L r 0 e)(hr:r.length<=1):Srt C (L.take e):=by
  match r,hr,h with
  | [],_,h=>cases h;simp[Srt]
  | [(x,n,_)],_,⟨_,_,h2,h3⟩ => 
    have:0+n=e:=h3;subst this;simpa [seg] using h2
theorem Qd1(b:Bool)(k:Nat):(if b=true then k - 1 else k)<=k:=by cases b<;>simp
theorem gA{L0:List Keyed}{st:SortSt}{Q:Unit->SortSt->Prop}(hS:∀p∈L0,C.S p)(g0:G C L0 st 0)(h:∀st',failedOf st'=none->(arrOf st').toList.Perm L0->Srt C (arrOf st').toList->Q () st'):W C sortRuns' Q st:=by
  rw[sortRuns'_eq];refine Ee (wpS_get ?_);dsimp only;rw[g0.size];generalize hm:minRun' L0.length L0.length 0=minrun;generalize hsz:L0.length=size;refine Ee (wpS_mono (wpS_forRange
    (I:=λx c st'=>∃lo,c=(none,lo)/\G C L0 st' lo/\min x size<=lo)
    (Q:=λc st'=>c=(none,size)/\G C L0 st' size) ?step ?fin ⟨0,rfl,g0,by lia⟩) ?post)
  case fin =>
    rintro c st' ⟨lo,rfl,g,q⟩;have a:=g.le;have b:=g.size;obtain rfl:lo=size:=by lia
    exact⟨rfl,g⟩
  case step =>
    rintro x c st' _ hx ⟨lo,rfl,g,q⟩;dsimp only;have hz:=g.size;have hle:=g.le;by_cases hlo:lo≥size
    . rw[Ec hlo]
      obtain rfl:lo=size:=by lia
      exact Ef ⟨rfl,g⟩
    rw[Eb hlo];have b0:Bs C st' st' lo:=⟨g.kind,g.fine,rfl,List.Perm.refl _,λ_ _=>rfl,λp hp=>hS p (g.perm.mem_iff.mp hp)⟩;refine Ee (uD b0 (by lia) (by lia) λm st1 b1 hm1 hm2 sr1=>?_)
    dsimp only;by_cases hlt:m < minrun;rw[Ec hlt];refine Ee (yq ?_);refine Ee (Qbw b1 hm1 (n:=min (size - lo) minrun) (by lia) (by lia) sr1 λst2 b sr=>?_)
    simp only[Bool.not_true,A7,if_false];have hn1:1<=min (size - lo) minrun:=by lia
    have hn2:lo+min (size - lo) minrun<=size:=by lia
    generalize min (size - lo) minrun=n at hn1 hn2 sr ⊢
    rotate_left
    rw[Eb hlt];have hn2:lo+m<=size:=by lia
    have hn1:=hm1;have b:=b1;have sr:=sr1;clear sr1 b1 hm1 hm2 hlt;generalize m=n at hn1 hn2 sr ⊢;generalize st1=st2 at b sr ⊢
    all_goals
      have g2:=b.g g;have hz2:=g2.size;have hseg:Srt C (seg (arrOf st2).toList lo n):=QeW (by lia) sr
      refine Ee (wpS_get ?_);cases hb:(pendingOf st2).back? with
      | none =>
        dsimp only;exact Ee (wpS_modify (Ef ⟨lo+n,rfl,g2.push hn1 (by lia) hseg,by lia⟩))
      | some v =>
        obtain⟨s1,n1,pw0⟩:=v;dsimp only;generalize power' size (2 * s1+n1) (2 * s1+n1+n1+n) size=pw;refine Ee (wpS_mono (wpS_forRange (I:=λ_ c st'=>c=(none,())/\G C L0 st' lo/\(arrOf st').toList.drop lo=(arrOf st2).toList.drop lo) (Q:=λc st'=>c=(none,())/\G C L0 st' lo/\(arrOf st').toList.drop lo=(arrOf st2).toList.drop lo) ?_ (λ_ _ hh=>hh) ⟨rfl,g2,rfl⟩) ?_)
        . rintro y c st3 _ hy ⟨rfl,g3,t3⟩
          refine Ee (wpS_get ?_);by_cases h1:(pendingOf st3).size > 1
          . rw[Ec h1,getElem?_pos (pendingOf st3) ((pendingOf st3).size - 2) (by lia)]
            obtain⟨⟨q1,q2,older⟩,eo⟩:∃x,(pendingOf st3)[(pendingOf st3).size - 2]'(by omega)=x:=⟨_,rfl⟩
            rw[eo];dsimp only;by_cases ho:older<=pw
            . rw[Ec ho]
              exact Ef ⟨rfl,g3,t3⟩
            . rw[Eb ho]
              refine Ee (Qfr hS g3 (by lia) λst4 g4 _ t4=>?_)
              simp only[Bool.not_true,A7,if_false];exact Ef ⟨rfl,g4,t4.trans t3⟩
          . rw[Eb h1]
            exact Ef ⟨rfl,g3,t3⟩
        . rintro c st3 ⟨rfl,g3,t3⟩
          dsimp only;have hz3:=g3.size;refine Ee (wpS_modify (Ee (wpS_modify (Ef ⟨lo+n,rfl,G.push g3.pw hn1 (by show lo+n<=(arrOf st3).size;lia) ?_,by lia⟩))))
          show Srt C (seg (arrOf st3).toList lo n);rw[Qc5 t3];exact hseg
  case post =>
    rintro c st' ⟨rfl,g⟩;dsimp only;have hz:=g.size;have hrl:=g.runs.le;have hpl:(pendingOf st').toList.length=(pendingOf st').size:=by simp
    refine Ee (wpS_mono (wpS_forRange (I:=λx c st''=>c=(none,())/\G C L0 st'' size/\(pendingOf st'').size+x<=size) (Q:=λc st''=>c=(none,())/\G C L0 st'' size/\(pendingOf st'').size<=1) ?_ ?_ ⟨rfl,g,by lia⟩) ?_)
    . rintro x c st2 _ hx ⟨rfl,g2,hp⟩
      refine Ee (wpS_get ?_);by_cases h1:(pendingOf st2).size<=1
      . rw[Ec h1]
        exact Ef ⟨rfl,g2,h1⟩
      . rw[Eb h1]
        generalize hi:(if Option.any (λx=>decide (x < Option.elim (pendingOf st2)[(pendingOf st2).size - 2+1]? 0 λx=>x.2.1)) (if (pendingOf st2).size - 2 > 0 then Option.map (λx=>x.2.1) (pendingOf st2)[(pendingOf st2).size - 2 - 1]? else none)=true then (pendingOf st2).size - 2 - 1 else (pendingOf st2).size - 2)=i
        have hi2:i<=(pendingOf st2).size - 2:=by rw[<- hi];exact Qd1 _ _
        refine Ee (Qfr hS g2 (by lia) λst3 g3 hq _=>?_)
        simp only[Bool.not_true,A7,if_false];exact Ef ⟨rfl,g3,by lia⟩
    . rintro c st2 ⟨rfl,g2,hp⟩
      exact⟨rfl,g2,by lia⟩
    . rintro c st2 ⟨rfl,g2,hp⟩
      have hz2:=g2.size;have s2:=QcY g2.runs (by simpa using hp)
      rw[Ci (by simp;lia)] at s2
      exact Ef (h st2 g2.fine g2.perm s2)
open PySem PyProof PyProof.Rows
section
variable{prog:Program}{w:World}{A:Around}{E:Ek}{s:Shared}
def CI(prog:Program)(w:World)(A:Around)(E:Ek)(s:Shared):Cmp where
 key p:=numOf p.1
 kd:=oneType'
 S p:=∃n t,p.1=.int n t
 prog:=prog
 w:=w
 A:=A
 E:=E
 s:=s
 lt:=by
  rintro st ⟨_,p⟩ ⟨_,q⟩ Q ⟨n,t,rfl⟩ ⟨k,u,rfl⟩ hk h;rw[lt'_eq];refine Ee (wpS_get ?_);rw[hk];exact Ee (wpS_lift (wpAny_attempt (keyLt'_oneType _ _▸oneLt_int ⟨rfl,Ef h⟩)))
theorem QhC(xs:Array Keyed)(i:Nat):kx (CI prog w A E s) xs i=K xs i:=by
 unfold kx K;cases xs[i]?<;>rfl
theorem Qbh{vs:List Value}{ns:List Int}(hI:IntsAre vs ns):wpAny (model prog w) A (sortRuns'.run (SortSt.mk' oneType' (vs.toArray.zip vs.toArray) #[] 7 none)) (λr s'=>s'=s/\failedOf r.2=none/\(arrOf r.2).Perm (pairsOf vs)/\SortedTo (arrOf r.2) (pairsOf vs).size) E s:=by
 have q:W (CI prog w A E s) sortRuns' (λ_ st'=>failedOf st'=none/\(arrOf st').Perm (pairsOf vs)/\SortedTo (arrOf st') (pairsOf vs).size) (SortSt.mk' oneType' (vs.toArray.zip vs.toArray) #[] 7 none):=by
  refine gA (L0:=(pairsOf vs).toList) (λp hp=>hI.intKeys p hp) ⟨rfl,rfl,List.Perm.refl _,rfl,Bf _⟩ λst' a1 a2 a3=>?_;have pm:(arrOf st').Perm (pairsOf vs):=Array.perm_iff_toList_perm.mpr a2;refine⟨a1,pm,λi j hij hj=>?_⟩;have e:=Ul a3 hij (by rw[pm.size_eq];exact hj)
  rwa [QhC,QhC] at e
 exact q
def Keeps(h h':Heap)(a:Addr):Prop:=∀b o,b≠a->h.get? b=some o->h'.get? b=some o
theorem Keeps.upd(h:Heap)(a:Addr)(f:Obj->Obj):Keeps h (h.update a f) a:=λb o hb e=>by
 rw[Heap.get?_update_ne _ _ _ _ hb];exact e
theorem Qbk{a:Addr}{vs:List Value}{ns:List Int}{n:Nat}{P:PySem.Fin->Shared->Prop}(ho:s.heap.get? a=some (seqObj "list" vs.toArray n))(hI:IntsAre vs ns)(hz:vs.length<=sizeLine)
  (h:∀(h':Heap) (out:List Value) (ns':List Int) (c:Nat),Keeps s.heap h' a->h'.get? a=some (seqObj "list" out.toArray c)->IntsAre out ns'->ns'.Perm ns->ns'.Pairwise (· <= ·)->P (.done (.ret .none)) { s with heap:=h' }) :
  wpAny (model prog w) A (Builtin.«list.sort» ⟨[.ref a],[]⟩) P E s:=by
 have k1:=Keeps.upd s.heap a (Obj.mapSeq λ_=>#[]);obtain⟨c1,g1⟩:∃c1,(s.heap.update a (Obj.mapSeq λ_=>#[])).get? a=some (seqObj "list" #[] c1):=⟨_,get?_update_seq ho (λ_=>#[])⟩;generalize hh1:s.heap.update a (Obj.mapSeq λ_=>#[])=H1 at k1 g1;have g3:=Ae (seqObj "list" #[] 0) (Ae (seqObj "tuple" vs.toArray 0) g1);have k3:Keeps s.heap ((H1.push (seqObj "tuple" vs.toArray 0)).push (seqObj "list" #[] 0)) a:=λb o hb e=>Ae _ (Ae _ (k1 b o hb e));have hsz:vs.toArray.size=vs.length:=by simp
 have fin:∀st':SortSt,failedOf st'=none->(arrOf st').Perm (pairsOf vs)->SortedTo (arrOf st') (pairsOf vs).size->wpAny (model prog w) A (do
   let touched:=(<- seqEpoch a) != c1
   Builtin.List.listUpdate (.ref a) λ_=>(arrOf st').map (·.2)
   if let some e:=failedOf st' then rule "list.sort.comparison-raised"; throw e
   if touched then rule "list.sort.modified"; raiseError "ValueError" "list modified during sort"
   ret .none) P E { s with heap:=(H1.push (seqObj "tuple" vs.toArray 0)).push (seqObj "list" #[] 0) }:=by
  intro st' f1 f2 f3;obtain⟨ns',o1,o2,o3⟩:=sorted_out hI f2 f3;refine Ea (seqEpoch_at g3 rfl ?_);have oz:((arrOf st').map (·.2)).size<=sizeLine+1:=by rw[Array.size_map,f2.size_eq,pairsOf_size];lia
  refine Ea (listUpdate_at g3 rfl ?_ (Bf _) oz);rw[f1];simp only[bne_self_eq_false,A7,if_false];obtain⟨c2,e⟩:∃c2,(((H1.push (seqObj "tuple" vs.toArray 0)).push (seqObj "list" #[] 0)).update a (Obj.mapSeq λ_=>(arrOf st').map (·.2))).get? a=some (seqObj "list" ((arrOf st').map (·.2)) c2):=⟨_,get?_update_seq g3 λ_=>(arrOf st').map (·.2)⟩;refine Ed (h _ ((arrOf st').map (·.2)).toList ns' c2 (λb o hb e=>Keeps.upd _ a _ b o hb (k3 b o hb e)) ?_ o1 o2 o3);rw[Array.toArray_toList];exact e
 rw[list_sort_plain];refine Ea (listItems_at ho rfl (Ea (listUpdate_at ho rfl ?_ (by rw[hsz];exact hz) (Bf _))))
 rw[hh1];refine Ea (seqEpoch_at g1 rfl (Ea (wpAny_newTuple ?_ (by simpa using hz))))
 refine Ea (wpAny_newList (wpAny_holding ?_) (Bf _));show wpAny (model prog w) A _ P E { s with heap:=(H1.push (seqObj "tuple" vs.toArray 0)).push (seqObj "list" #[] 0) };dsimp only;by_cases h2:vs.toArray.size < 2
 ·rw[Ec h2,Ec h2]
  refine Ea (Ed ?_);rw[StateT.run_pure];refine Ea (Ed (fin (SortSt.mk' general' (vs.toArray.zip vs.toArray) #[] 7 none) rfl (Array.Perm.refl _) λi j hij hj=>?_));obtain rfl:i=j:=by rw[pairsOf_size] at hj;lia
  exact Bp _
 ·rw[Eb h2,Eb h2]
  have kk:keyKind' vs.toArray=pure oneType':=by
   match vs,hI,h2 with
   | [],_,h2=>simp at h2
   | [_],_,h2=>simp at h2
   | _::_::_,hI,_=>exact keyKind_ints hI
  rw[kk];refine Ea (Ed (Ea (wpAny_mono (Qbh hI) ?_ λ_ _ e=>e)));rintro⟨⟨⟩,st'⟩ s' ⟨rfl,f1,f2,f3⟩;exact fin st' f1 f2 f3
theorem sorted_of{x:Value}{ns:List Int}{Q:Ek}
  (hc:∀(R:List Value->Shared->Prop),(∀(h':Heap)(tk:Nat)(vs:List Value),IntsAre vs ns->vs.length<=sizeLine->(∀b o,s.heap.get? b=some o->h'.get? b=some o)->R vs { s with heap:=h',toks:=tk })->wpAny (model prog w) A.in1 (collect x) R E s)
  (h:∀(h1 h':Heap) (tk:Nat) (out:List Value) (ns':List Int) (c:Nat),(∀b o,s.heap.get? b=some o->h1.get? b=some o)->(∀b o,h1.get? b=some o->h'.get? b=some o)->h'.get? h1.objs.size=some (seqObj "list" out.toArray c)->IntsAre out ns'->ns'.Perm ns->ns'.Pairwise (· <= ·)->Q (.ref h1.objs.size) { s with heap:=h',toks:=tk }) :
  wpAny (model prog w) A (call (.builtin "sorted") [x]) Q E s:=by
 refine Calls.call_function_entry kind_sorted plain_sorted entry_sorted (args_sorted1 _) ?_;unfold Builtin.«sorted»;refine Ea (m:=checkCount "sorted" 1 1 _) (Ed (Ea (hc _ λh1 tk vs hI hz k1=>?_)));refine Ea (wpAny_newList ?_ hz);have g:(h1.push (seqObj "list" vs.toArray 0)).get? h1.objs.size=some (seqObj "list" vs.toArray 0):=Aw _ rfl;refine Ea (wpAny_holding (wpAny_call_entry slot_list_sort ⟨_,g,rfl⟩ entry_list_sort (Qbk g hI hz λh2 out ns' c k2 g2 o1 o2 o3=>⟨_,rfl,?_⟩) (args_list_sort _)));refine Ed ⟨_,rfl,h h1 h2 tk out ns' c k1 (λb o e=>k2 b o (Bh (Aq e)) (Ae _ e)) g2 o1 o2 o3⟩
end
end TS
namespace D
open PySem PySem.Spec PyProof.Rows L2
variable{X:Cx}
def srt(ns:List Int):List Int:=ns.mergeSort (λa b=>decide (a<=b))
def vZ(ns:List Int):(srt ns).Perm ns:=List.mergeSort_perm _ _
theorem gE(ns:List Int):(srt ns).Pairwise (· <= ·):=by
 have:=List.pairwise_mergeSort (le:=λa b:Int=>decide (a<=b)) (λa b c h1 h2=>by simp at *;lia) (λa b=>by simp;lia) ns
 exact this.imp λh=>by simpa using h
theorem Um{ns ms:List Int}(p:ms.Perm ns)(h:ms.Pairwise (· <= ·)):ms=srt ns :=
 (p.trans (vZ ns).symm).eq_of_pairwise (λa b _ _ h1 h2=>Int.le_antisymm h1 h2) h (gE ns)
theorem Ke:∀{ns:List Int}{us:List Value},Vals (ns.map V.int) us->IntsAre us ns
 | [],_,.nil=>.nil
 | n::ns,_,.cons ⟨t,e⟩ r=>by subst e;exact .cons n t (Ke r)
theorem qm:∀{us:List Value}{ns:List Int},IntsAre us ns->Vals (ns.map V.int) us
 | _,_,.nil=>.nil
 | _,_,.cons n t r=>.cons ⟨t,rfl⟩ (qm r)
theorem kI:∀{us:List Value}{ns:List Int},us.length=ns.length->(∀(j:Nat)(u:Value)(n:Int),us[j]?=some u->ns[j]?=some n->∃t,u=.int n t)->IntsAre us ns
  | [],[],_,_=>.nil
  | u::us,n::ns,hl,h=>by
    obtain⟨t,rfl⟩:=h 0 u n rfl rfl;exact .cons n t (kI (by simpa using hl) λj u n a b=>h (j+1) u n a b)
theorem kO:∀{kvs:List (Key×V)}{vs:List (Key×Value)},KV kvs vs->vs.map (·.1)=kvs.map (·.1)
 | _,_,.nil=>rfl
 | _,_,.cons a b=>by rw[Bc,Bc,kO b,a.1]
def Qbp(K:Aa)(H:Hp)(p:Addr)(ns:List Int):Prop:=SqL K H p (ns.map .int)∨∃kvs:List (Key×V),H p=some (.dK kvs)/\kvs.map (·.1)=ns.map .inl
theorem GV(hc:X.calm=true):JY X (.builtin "sorted") (λxs H Q=>∃p ns,xs=[.ref p]/\Qbp X.K H p ns/\∀l,H l=none->Q (.ref l) (upd H l (.lst ((srt ns).map .int)))):=by
 intro O9 s σ H xs us Q I r h;obtain⟨p,ns,rfl,hq,q⟩:=h;have hh:X.A.handled=none:=I.ok.hd hc;obtain⟨u,rfl,rx⟩:=xL r;cases rx;have hz:ns.length<=sizeLine:=by
  rcases hq with hq | ⟨kvs,hq,e⟩
  ·have:=(I.list hq).choose_spec.2.2;simpa using this
  ·have a:=(QbK I.hok hq).1
   have b:=congrArg List.length e;simp at b;lia
 refine TS.sorted_of (ns:=ns) (λR hR=>?_) λh1 h' tk out ns' c k1 k2 g o1 o2 o3=>?_
 ·rcases hq with hq | ⟨kvs,hq,e⟩
  ·obtain⟨its,r',pl,z⟩:=I.list hq
   have hI:=Ke r';have hl:its.length=ns.length:=by have:=r'.length;simpa using this.symm
   have R1:=hR ((s.heap.push (seqObj "list" #[] 0)).update s.heap.objs.size (Obj.mapSeq (· ++ its.toArray))) s.toks its hI (by lia) λb o e=>by
    have hlt:b < s.heap.objs.size:=Aq e;rw[Heap.get?_update_ne _ _ _ _ (Bh hlt)];exact Ae _ e
   exact collect_list pl.isList R1 (by lia)
  ·obtain⟨_,lo,vs,kv,hd⟩:=QbK I.hok hq
   obtain⟨ep,hat⟩:=hd.dictAt;have kl:vs.map (·.1)=ns.map Sum.inl:=(kO kv).trans e;have hvl:vs.length=ns.length:=by have:=congrArg List.length kl;simpa using this
   refine PySem.W.kdu_collect (PySem.W.kdl_dict (knd:=Z2 X.prog X.w) (kvs:=vs) (ep:=ep) lo) hh hat (by lia) λh1 tk acc k1 it=>hR h1 tk acc.toList (kI ?_ λj u n a b=>?_) ?_ k1
   ·rw[Cj,it.1,hvl]
   ·obtain⟨k,x,e1,e2⟩:=it.2 j u (by simpa using a)
    have:k=Sum.inl n:=by
     have e3:=congrArg (λl=>l[j]?) kl;simp[e1,b] at e3;exact e3
    subst this;rcases ZT (show VL (Sum.inl n) u=true from e2) with ⟨i,t,h1,h2⟩ | ⟨_,_,h1,_⟩
    ·cases h1;exact⟨t,h2⟩
    ·cases h1
   ·rw[Cj,it.1];lia
 ·obtain rfl:=Um o2 o3
  have I1:Inv X O9 σ H { s with heap:=h1,toks:=tk }:=I.kept k1;have hlen:(srt ns).length<=sizeLine:=by rw[(vZ ns).length_eq];exact hz
  exact⟨.ref h1.objs.size,_,I1.laid (t':=tk) k2 (Ag _) (show ObjOk X.prog X.w _ h' _ (.lst ((srt ns).map .int)) from⟨by simpa using hlen,out,c,qm o1,g⟩),rfl,q _ (I1.hok.fresh (Ag _))⟩
def qY:List DV->Option (List Int)
 | []=>some []
 | .int n::r=>(qY r).map (n :: ·)
 | _=>none
def vq:List (Key×DV)->Option (List Int)
 | []=>some []
 | (.inl n,_)::r=>(vq r).map (n :: ·)
 | _=>none
def uU{α:Type}:Option α->M α
 | some d=>pure d
 | none=>failure
theorem ym{α:Type}{o:Option α}{d:α}{hp hp':Hs}(h:uU o hp=some (d,hp')):o=some d/\hp=hp':=by
 cases o with
 | none=>cases h
 | some x=>obtain⟨rfl,rfl⟩:=Ql h;exact⟨rfl,rfl⟩
def Qb7:DV->M (List Int)
  | .lst ds=>uU (qY ds)
  | .ref n=>do
    match <- ZX n with
    | .lst ds=>uU (qY ds)
    | .dic kvs=>uU (vq kvs)
    | _=>failure
  | _=>failure
def Qde:List DV->M DV:=QcE λd=>do let ns <- Qb7 d;pure (.lst ((srt ns).map .int))
variable{K:Aa}{ρ:Es}{B:Er}{H:Hp}
theorem xX:∀{ds:List DV}{ns:List Int}{xs:List V},qY ds=some ns->RepL K ρ B H ds xs->xs=ns.map .int
  | [],_,xs,h,r=>by cases h;exact r
  | .int n::ds,ns,xs,h,⟨x,q,e,r1,r2⟩=>by
    obtain⟨ms,h1,rfl⟩:=Cg.mp (show(qY ds).map (n :: ·)=some ns from h);rw[e,r1.intI,xX h1 r2];rfl
theorem Kc:∀ns:List Int,RepL K ρ B H (ns.map .int) (ns.map .int)
 | []=>rfl
 | n::ns=>⟨_,_,rfl,Jh,Kc ns⟩
theorem VI:∀{kvs:List (Key×DV)}{ns:List Int},vq kvs=some ns->kvs.map (·.1)=ns.map .inl
  | [],_,h=>by cases h;rfl
  | (.inl n,d)::kvs,ns,h=>by
    obtain⟨ms,h1,rfl⟩:=Cg.mp (show(vq kvs).map (n :: ·)=some ns from h);rw[Bc,Bc,VI h1]
theorem zL:∀(ns:List Int),qY (ns.map .int)=some ns
  | []=>rfl
  | n::ns=>by
    show(qY (ns.map .int)).map (n :: ·)=_;rw[zL ns];rfl
theorem Qax(hc:X.calm=true):JY X (.builtin "sorted") (tPn X.K Qde):=by
  intro O9 s σ H xs us Q I r h;obtain⟨ρ,B,hp,ds,d,hp',W,rl,e,k⟩:=h;obtain⟨x,rfl,e⟩:=yk e;obtain⟨ns,hp1,e1,e2⟩:=Qg e;obtain⟨rfl,rfl⟩:=Ql e2;obtain⟨v,rfl,rv⟩:=rl.oneI;have key:hp=hp1/\∃p,v=.ref p/\Qbp X.K H p ns:=by
    cases x with
    | lst zs =>
      obtain⟨h1,rfl⟩:=ym e1;obtain⟨a,ys,rfl,_,sq,l⟩:=rv.lstI;exact⟨rfl,a,rfl,.inl (xX h1 l▸sq)⟩
    | ref n =>
      obtain⟨o,hp2,e3,e4⟩:=Qg (show(ZX n >>= λo=>(match o with | .lst ds=>uU (qY ds) | .dic kvs=>uU (vq kvs) | _=>failure:M (List Int))) hp=some (ns,hp1) from e1)
      obtain⟨e5,rfl⟩:=ZI e3;cases o with
      | lst zs =>
        obtain⟨h1,rfl⟩:=ym e4;obtain⟨a,rfl,_,ys,h2,l1⟩:=RepV.refW W rv e5;exact⟨rfl,a,rfl,.inl (xX h1 l1▸SqL.of h2)⟩
      | dic kvs =>
        obtain⟨h1,rfl⟩:=ym e4;obtain⟨a,rfl,_,ro⟩:=RepV.refW W rv e5;obtain⟨ys,h2,rk⟩:=ro.dic;exact⟨rfl,a,rfl,.inr ⟨ys,h2,rk.to.1.trans (VI h1)⟩⟩
      | ins _ _=>cases e4
    | tup _=>cases e1
    | non=>cases e1
    | bl _=>cases e1
    | int _=>cases e1
    | str _=>cases e1
  obtain⟨rfl,p,rfl,io⟩:=key;exact GV hc O9 s σ H _ us Q I r ⟨p,ns,rfl,io,j6 W (Kc _) k⟩
abbrev ClsN(K:Aa)(c:Str)(C:Addr):Prop:=PySem.W.nsIn K mainGlobals c=some (some (.ref C))
theorem ClsN.uniq{K:Aa}{c:Str}{C C':Addr}(h:ClsN K c C)(h':ClsN K c C'):C=C':=by
 have e:=h.symm.trans h';cases e;rfl
structure X3(K:Aa)(c f:Str):Prop where
 ex:∃C,ClsN K c C/\Cls K C/\NoAttr K C f
structure Xh(P:Program)(w:World)(K:Aa)(mg:Eo)(O8:Heap)(c m:Str)(k n:Nat)(F:Et):Prop where
 ex:∃(C f:Addr)(fd:FuncData)(ps:List Str),ClsN K c C/\Cls K C/\uo K C m f/\qW P w K mg O8 CX0 k f fd ps (spD K n F)/\Binds K fd ps []
structure Qap(P:Program)(w:World)(K:Aa)(mg:Eo)(O8:Heap)(c:Str)(k n:Nat)(F:Et):Prop where
 ex:∃(C f:Addr)(fd:FuncData)(ps:List Str),ClsN K c C/\mg c=some (.ref C)/\Mk K C f/\qW P w K mg O8 CX0 k f fd ps (spD K n F)/\Binds K fd ps []
section
variable{K:Aa}{ρ:Es}{B:Er}{H:Hp}{hp:Hs}
abbrev RepF(K:Aa)(ρ:Es)(B:Er)(H:Hp):List (Str×DV)->List (Str×V)->Prop:=Paired λp q=>p.1=q.1/\RepV K ρ B H p.2 q.2
theorem Qab:∀{fs:List (Str×DV)}{xs:List (Str×V)},xs.map (·.1)=fs.map (·.1)->RepL K ρ B H (fs.map (·.2)) (xs.map (·.2))->RepF K ρ B H fs xs
  | [],[],_,_=>.nil
  | [],_::_,e,_=>by simp at e
  | _::_,[],e,_=>by simp at e
  | p::fs,q::xs,e,r=>by
    simp only[Bc,List.cons.injEq] at e;simp only[Bc] at r;unfold RepL at r;obtain⟨x,t,e2,h1,h2⟩:=r;simp only[List.cons.injEq] at e2;obtain⟨rfl,rfl⟩:=e2;exact .cons ⟨e.1.symm,h1⟩ (Qab e.2 h2)
theorem RepF.to{fs:List (Str×DV)}{xs:List (Str×V)}(r:RepF K ρ B H fs xs):xs.map (·.1)=fs.map (·.1)/\RepL K ρ B H (fs.map (·.2)) (xs.map (·.2)):=by
 induction r with
 | nil=>exact⟨rfl,RepL.nil⟩
 | cons h _ ih=>exact⟨by simp[ih.1,h.1],by simpa using RepL.cons h.2 ih.2⟩
theorem RepF.look{fs:List (Str×DV)}{xs:List (Str×V)}(r:RepF K ρ B H fs xs)(f:Str):(fs.lookup f=none/\xs.lookup f=none)∨∃d v,fs.lookup f=some d/\xs.lookup f=some v/\RepV K ρ B H d v:=by
  induction r with
  | nil=>exact .inl ⟨rfl,rfl⟩
  | @cons p q _ _ h _ ih =>
    obtain⟨p1,p2⟩:=p;obtain⟨q1,q2⟩:=q;obtain⟨h1,h2⟩:=h;have h1:p1=q1:=h1;subst h1;cases e:f==p1 with
    | true=>exact .inr ⟨p2,q2,by simp[List.lookup,e],by simp[List.lookup,e],h2⟩
    | false=>simpa [List.lookup,e] using ih
def JJ(f:Str)(d:DV):List (Str×DV)->List (Str×DV)
 | []=>[(f,d)]
 | (g,x)::r=>if g=f then (g,d)::r else (g,x)::JJ f d r
theorem RepF.put(r:RepF K ρ B H fs xs)(f:Str)(rd:RepV K ρ B H d v):RepF K ρ B H (JJ f d fs) (YX f v xs):=by
  induction r with
  | nil=>exact .cons ⟨rfl,rd⟩ .nil
  | @cons p q _ _ h t ih =>
    obtain⟨p1,p2⟩:=p;obtain⟨q1,q2⟩:=q;obtain⟨h1,h2⟩:=h;have h1:p1=q1:=h1;subst h1;unfold JJ YX;by_cases e:p1=f
    . rw[Ec e,Ec e];exact .cons ⟨rfl,rd⟩ t
    . rw[Eb e,Eb e];exact .cons ⟨rfl,h2⟩ ih
def RepF.len{fs:List (Str×DV)}{xs:List (Str×V)}(r:RepF K ρ B H fs xs):fs.length=xs.length:=Paired.length r
def RepF.gs(g:Gs K ρ B H ρ' B' H')(r:RepF K ρ B H fs xs):RepF K ρ' B' H' fs xs:=L2.Paired.mapP r λ_ _ h=>⟨h.1,RepV.gs g _ _ h.2⟩
theorem ORep.ins{a:Addr}{c:Str}(h:ORep K ρ B H a (.ins c fs)):∃C dx xs,ClsN K c C/\H a=some (.ins C dx xs)/\RepF K ρ B H fs xs:=by
 obtain⟨C,dx,xs,nc,e,ek,rl⟩:=h;exact⟨C,dx,xs,nc,e,Qab ek rl⟩
def RepF.orep{a C dx:Addr}{c:Str}(nc:ClsN K c C)(r:RepF K ρ B H fs xs)(e:H a=some (.ins C dx xs)):ORep K ρ B H a (.ins c fs):=⟨C,dx,xs,nc,e,r.to.1,r.to.2⟩
theorem Qdx{n:Nat}{a C dx:Addr}{c:Str}(W:WOk K ρ B hp H)(i:ρ[n]?=some a)(nc:ClsN K c C)(e:H a=some (.ins C dx xs))(r:RepF K ρ B H fs' xs'):Gr K ρ B H ρ B (upd H a (.ins C dx xs'))/\WOk K ρ B (hp.set n (.ins c fs')) (upd H a (.ins C dx xs')):=by
 have g:Gr K ρ B H ρ B (upd H a (.ins C dx xs')):=Gr.wset i e;exact⟨g,W.wset (o':=.ins C dx xs') (v:=.ins c fs') i e ((r.gs (g.gs W.rb)).orep nc Zg)⟩
end
def onI{α:Type}(c:Str)(x:DV)(k:Nat->List (Str×DV)->M α):M α:=match x with
  | .ref n=>do
    match <- ZX n with
    | .ins c' fs=>do Qy (decide (c'=c));k n fs
    | _=>failure
  | _=>failure
theorem xp{α:Type}{c:Str}{x:DV}{d:α}{k:Nat->List (Str×DV)->M α}{hp hp':Hs}(h:onI c x k hp=some (d,hp')):∃n fs,x=.ref n/\hp[n]?=some (.ins c fs)/\k n fs hp=some (d,hp'):=by
  cases x with
  | ref n =>
    obtain⟨o,hp1,e1,e2⟩:=Qg (show(ZX n >>= λo=>(match o with | .ins c' fs=>do Qy (decide (c'=c));k n fs | _=>failure:M α)) hp=some (d,hp') from h)
    obtain⟨e3,rfl⟩:=ZI e1;cases o with
    | ins c' fs =>
      obtain⟨_,hp2,e4,e5⟩:=Qg e2;obtain⟨hl,rfl⟩:=QL e4;obtain rfl:=Eh hl;exact⟨n,fs,rfl,e3,e5⟩
    | lst _=>cases e2
    | dic _=>cases e2
  | non=>cases h
  | bl _=>cases h
  | int _=>cases h
  | str _=>cases h
  | tup _=>cases h
  | lst _=>cases h
def ju(c f:Str)(x:DV):M DV:=onI c x λ_ fs=>jb (fs.lookup f)
def jF(c f:Str)(x d:DV):M Unit:=onI c x λn fs=>do Qy (decide (fs.length < 1000));xE n (.ins c (JJ f d fs))
def QC(c f:Str)(g:DEx):DEx:=λenv=>do let x <- g env;ju c f x
def Q6(c f:Str)(fo fv:DEx):DSx:=λenv=>do let y <- fv env;let x <- fo env;jF c f x y;pure (.nx,env)
def X2(c f:Str)(op:DV->DV->M DV)(fo fv:DEx):DSx:=λenv=>do let x <- fo env;let v <- ju c f x;let y <- fv env;let z <- op v y;jF c f x z;pure (.nx,env)
def qX:DV->DV->M DV
 | .int i,.int j=>pure (.int (i+j))
 | _,_=>failure
def GG:DV->DV->M DV
 | .int i,.int j=>pure (.int (i - j))
 | _,_=>failure
def Qv(c m:Str)(n:Nat)(F:Et)(fo:DEx)(fa:DAx):DEx:=λenv=>do
 let x <- fo env
 onI c x λ_ fs=>Qy (fs.lookup m).isNone
 let ds <- fa env
 Qy (decide (ds.length+1=n))
 F (x::ds)
def Xm(c:Str)(n:Nat)(F:Et)(fa:DAx):DEx:=λenv=>do
 let ds <- fa env
 Qy (decide (ds.length+1=n))
 let x <- XT (.ins c [])
 let r <- F (x::ds)
 match r with
 | .non=>pure x
 | _=>failure
section
variable{X:Cx}{o e value:Expr}{c f m:Str}{pos pos' tpos apos:Pos}{fo fv:DEx}
theorem vk{K:Aa}{H:Hp}{hp hp':Hs}{v:V}(W:WOk K ρ B hp H)(r:RepV K ρ B H x v)(h:ju c f x hp=some (d,hp')):hp=hp'/\∃a C dx xs u,v=.ref a/\ClsN K c C/\H a=some (.ins C dx xs)/\xs.lookup f=some u/\RepV K ρ B H d u:=by
 obtain⟨n,fs,rfl,e1,e2⟩:=xp h;obtain⟨hl,rfl⟩:=yn e2;obtain⟨a,rfl,i,ro⟩:=RepV.refW W r e1;obtain⟨C,dx,xs,nc,e,rf⟩:=ro.ins;rcases rf.look f with ⟨z,_⟩ | ⟨d',u,z,zu,ru⟩
 ·rw[hl] at z;cases z
 ·rw[hl] at z;cases z
  exact⟨rfl,a,C,dx,xs,u,rfl,nc,e,zu,ru⟩
theorem vV{K:Aa}{H:Hp}{v y:V}{z:Unit}(W:WOk K ρ B hp H)(r:RepV K ρ B H x v)(rd:RepV K ρ B H d y)(h:jF c f x d hp=some (z,hp')):∃a C dx xs,v=.ref a/\ClsN K c C/\H a=some (.ins C dx xs)/\xs.length < 1000/\Gr K ρ B H ρ B (upd H a (.ins C dx (YX f y xs)))/\WOk K ρ B hp' (upd H a (.ins C dx (YX f y xs))):=by
 obtain⟨n,fs,rfl,e1,e2⟩:=xp h;obtain⟨_,hp1,e3,e4⟩:=Qg e2;obtain⟨hl,rfl⟩:=QL e3;cases e4;obtain⟨a,rfl,i,ro⟩:=RepV.refW W r e1;obtain⟨C,dx,xs,nc,e,rf⟩:=ro.ins;obtain⟨g,W'⟩:=Qdx W i nc e (rf.put f rd);exact⟨a,C,dx,xs,rfl,nc,e,by rw[<- rf.len];exact Eh hl,g,W'⟩
theorem Qu(hk:X3 X.K c f)(ho:DE X o fo)(hb:attributeBase o f X.env (eval o X.env)=eval o X.env:=by rfl):DE X (.Attribute o f pos) (QC c f fo) :=
 L2.PE.imp (Qgq ho hb) λσ H Q zz1=>by
  obtain⟨Z,env,ρ,B,hp,d,hp',S,e,k⟩:=zz1;obtain⟨x,hp1,e1,e2⟩:=Qg e;refine tD.run S e1 λv ρ1 B1 H1 g1 S1 r1=>?_;obtain⟨rfl,a,C,dx,xs,u,rfl,nc,ea,hl,ru⟩:=vk S1.wo r1 e2;obtain⟨C',nc',cl,na⟩:=hk.ex;obtain rfl:=nc.uniq nc';exact⟨a,C,dx,xs,u,rfl,ea,cl,na,hl,k u ρ1 B1 H1 g1 S1.wo ru⟩
theorem Za(hk:X3 X.K c f)(ho:DE X o fo)(hv:DE X value fv)(hs:swapsWith value (some (.Attribute o f pos')) pos.line X.env=pure false:=by rfl):DS X (.Assign [.Attribute o f pos'] value pos) (Q6 c f fo fv) :=
 L2.PS.imp (QgD ho hv hs) λD σ H zz1=>by
  obtain⟨Z,env,ρ,B,hp,fl,env',hp',S,e,k⟩:=zz1;obtain⟨y,hp1,e1,e⟩:=Qg e;obtain⟨x,hp2,e2,e⟩:=Qg e;obtain⟨z,hp3,e3,e⟩:=Qg e;obtain⟨q,rfl⟩:=Ql e;cases q;refine tD.run S e1 λu ρ1 B1 H1 g1 S1 r1=>tD.run S1 e2 λv ρ2 B2 H2 g2 S2 r2=>?_;obtain⟨a,C,dx,xs,rfl,nc,ea,hl,g,W⟩:=vV S2.wo r2 (RepV.grow S1.wo.rb g2 _ _ r1) e3;obtain⟨C',nc',cl,na⟩:=hk.ex;obtain rfl:=nc.uniq nc';exact⟨a,C,dx,xs,rfl,ea,cl,na,hl,k σ ρ2 B2 _ ((g1.trans (g2.trans g)).gs S.wo.rb) (S2.grow g W)⟩
theorem zN(hk:X3 X.K c f)(ho:DE X o fo)(hv:DE X value fv):DS X (.AugAssign (.Attribute o f tpos) .Add value pos) (X2 c f qX fo fv) :=
 L2.PS.imp (Qbc ho hv QfU) λD σ H zz1=>by
  obtain⟨Z,env,ρ,B,hp,fl,env',hp',S,e,k⟩:=zz1;obtain⟨x,hp1,e1,e⟩:=Qg e;obtain⟨v,hp2,e2,e⟩:=Qg e;obtain⟨y,hp3,e3,e⟩:=Qg e;obtain⟨z,hp4,e4,e⟩:=Qg e;obtain⟨_,hp5,e5,e⟩:=Qg e;obtain⟨q,rfl⟩:=Ql e;cases q;refine tD.run S e1 λvx ρ1 B1 H1 g1 S1 r1=>?_;obtain⟨rfl,a,C,dx,xs,u,rfl,nc,ea,hl,ru⟩:=vk S1.wo r1 e2;obtain⟨C',nc',cl,na⟩:=hk.ex;obtain rfl:=nc.uniq nc';refine⟨a,C,dx,xs,u,rfl,ea,cl,na,hl,tD.run S1 e3 λw ρ2 B2 H2 g2 S2 r2=>?_⟩;have ru2:=RepV.grow S1.wo.rb g2 _ _ ru;have r12:=RepV.grow S1.wo.rb g2 _ _ r1;unfold qX at e4;split at e4
  ·obtain⟨rfl,rfl⟩:=Ql e4
   refine⟨_,_,ru2.intI,r2.intI,?_⟩;obtain⟨a',C2,dx',xs',q1,nc2,ea',hl',g,W⟩:=vV S2.wo r12 Jh e5;cases q1;obtain rfl:=nc2.uniq nc;exact⟨dx',xs',ea',hl',k σ ρ2 B2 _ ((g1.trans (g2.trans g)).gs S.wo.rb) (S2.grow g W)⟩
  ·cases e4
theorem Qct{C:Addr}{n:Nat}{F:Et}(nc:ClsN X.K c C)(h:tD X.K (Qv c m n F fo fa) σ H Q):Qdi C m (spD X.K n F) [] E0 (tD X.K fo) (tDA X.K fa) σ H Q:=by
 obtain⟨Z,env,ρ,B,hp,d,hp',S,e,k⟩:=h;obtain⟨x,hp1,e1,e⟩:=Qg e;obtain⟨_,hp2,e2,e⟩:=Qg e;obtain⟨ds,hp3,e3,e⟩:=Qg e;obtain⟨_,hp4,e4,ef⟩:=Qg e;obtain⟨hl,rfl⟩:=QL e4;refine tD.run S e1 λv ρ1 B1 H1 g1 S1 r1=>?_;obtain⟨i,fs,rfl,w1,w2⟩:=xp e2;obtain⟨hn,rfl⟩:=QL w2;obtain⟨a,rfl,_,ro⟩:=RepV.refW S1.wo r1 w1;obtain⟨C',dx,xs,nc',ea,rf⟩:=ro.ins;obtain rfl:=nc'.uniq nc;have hx:xs.lookup m=none:=by
  rcases rf.look m with ⟨_,z⟩ | ⟨_,_,z,_,_⟩
  ·exact z
  ·rw[z] at hn;cases hn
 refine⟨a,dx,xs,rfl,ea,hx,tDA.run S1 e3 λvs ρ2 B2 H2 g2 S2 r2=>?_⟩;refine⟨?_,ρ2,B2,hp3,_,d,hp',S2.wo,?_,ef,k.after (g1.trans g2)⟩
 ·rw[Bu,Bb,<- r2.length];exact Eh hl
 ·rw[Bu];exact RepL.cons (RepV.grow S1.wo.rb g2 _ _ r1) r2
theorem Q1{k j n:Nat}{F:Et}{es:List Expr}{pl:Sem Bool}(h:Xh X.prog X.w X.K X.mg X.O8 c m j n F)(hr:Room k X.A)(hj:j<=k)(hx:YQ CX0 X E0)(ho:DE X o fo)(ha:DA X (e::es) fa)
  (hst:starEach (e::es) X.env=(false,eval e X.env)::starEach es X.env:=by rfl) (hpl:(backTo pos (starEach es X.env)).any (·.1)=false:=by rfl)
  (ht:eval (.Call (.Attribute o m apos) (e::es) [] pos) X.env=(do
   let ov <- eval o X.env
   standAt apos.atName
   let (f,first) <- holding [ov] (getMethod ov m pl)
   callWith pos f first (backTo pos (starEach (e::es) X.env)) (backToKw pos (keywordEach [] X.env))):=by rfl):DE X (.Call (.Attribute o m apos) (e::es) [] pos) (Qv c m n F fo fa):=by
 obtain⟨C,g,fd,ps,nc,cl,hm,F',hb⟩:=h.ex;exact L2.PE.imp (Qen (pl:=pl) ho cl hm F' (hr.mono hj) hb .nil hx ha hst hpl ht) λσ H Q q=>Qct nc q
theorem Z8{k j n:Nat}{F:Et}{pl:Sem Bool}(h:Xh X.prog X.w X.K X.mg X.O8 c m j n F)(hr:Room k X.A)(hj:j<=k)(hx:YQ CX0 X E0)(ho:DE X o fo)
  (ht:eval (.Call (.Attribute o m apos) [] [] pos) X.env=(do
   let ov <- eval o X.env
   standAt apos.atName
   let (f,first) <- holding [ov] (getMethod ov m pl)
   callWith pos f first (backTo pos (starEach [] X.env)) (backToKw pos (keywordEach [] X.env))):=by rfl):DE X (.Call (.Attribute o m apos) [] [] pos) (Qv c m n F fo Qn):=by
 obtain⟨C,g,fd,ps,nc,cl,hm,F',hb⟩:=h.ex;refine L2.PE.imp (QcM (pl:=pl) ho cl hm F' (hr.mono hj) hb .nil hx ht) λσ H Q q=>?_;obtain⟨Z,env,ρ,B,hp,d,hp',S,e,k⟩:=q;obtain⟨x,hp1,e1,e⟩:=Qg e;obtain⟨_,hp2,e2,e⟩:=Qg e;obtain⟨ds,hp3,e3,e⟩:=Qg e;obtain⟨_,hp4,e4,ef⟩:=Qg e;obtain⟨hl,rfl⟩:=QL e4;obtain⟨rfl,rfl⟩:=Ql e3;refine tD.run S e1 λv ρ1 B1 H1 g1 S1 r1=>?_;obtain⟨i,fs,rfl,w1,w2⟩:=xp e2;obtain⟨hn,rfl⟩:=QL w2;obtain⟨a,rfl,_,ro⟩:=RepV.refW S1.wo r1 w1;obtain⟨C',dx,xs,nc',ea,rf⟩:=ro.ins;obtain rfl:=nc'.uniq nc;have hx:xs.lookup m=none:=by
  rcases rf.look m with ⟨_,z⟩ | ⟨_,_,z,_,_⟩
  ·exact z
  ·rw[z] at hn;cases hn
 exact⟨a,dx,xs,rfl,ea,hx,Eh hl,ρ1,B1,hp1,_,d,hp',S1.wo,RepL.cons r1 RepL.nil,ef,k.after g1⟩
theorem Qbg{k:Nat}{C g:Addr}{O9:Em}{σ:St}{H:Hp}{s:Shared}{Q:VK}{us:List Value}{vs:List V}(M:Mk X.K C g)(F:qW X.prog X.w X.K X.mg X.O8 CX0 k g fd ps sp)(hr:Room (k+1) X.A)(hb:Binds X.K fd ps [])
    (hx:YQ CX0 X E0) (I:Inv X O9 σ H s) (r:Vals vs us)
    (h:∀x dx,H x=none->H dx=none->dx≠x->X.K.lookup x=none->sp (.ref x::vs) (upd (upd H dx (.own x)) x (.ins C dx [])) (λv H2=>v=.non/\Q (.ref x) H2) E0) :
    wpAny (model X.prog X.w) X.A (call (.ref C) us) (EP X O9 σ Q) X.xe s:=by
  have kf:X.K.lookup (s.heap.objs.size+1)=none:=by
    cases q:X.K.lookup (s.heap.objs.size+1) with
    | none=>rfl
    | some o=>exact absurd (Aq (I.kIn _ _ q)) (Nat.not_lt.mpr (Nat.le_succ _))
  have hq:=h _ _ (I.hok.fresh (Nat.le_succ _)) (I.hok.fresh (Ag _)) (Bh (C5 _)) kf;have J:=Inv.made (C:=C) I;have rr:Vals (V.ref (s.heap.objs.size+1)::vs) (Value.ref (s.heap.objs.size+1)::us):=.cons rfl r;have ll:((Value.ref (s.heap.objs.size+1)::us)++[]).length=ps.length:=by
    rw[Bu,<- rr.length];exact F.len _ _ _ _ hq
  have bb:=hb _ (Value.ref (s.heap.objs.size+1)::us) J.kIn ll;rw[Bu] at bb;refine wpAny_call (Qcq (f:=g) I.kIn M.makes M.init (beq_iff_eq.mp M.fn) (codeAny_mono (F.run _ X.stack _ _ ⟨Value.ref (s.heap.objs.size+1)::us,[]⟩ _ _ _ E0 (hr.make C us []) (J.env0.make C us []) bb rr hq) λq s' z=>?_));cases q with
  | error e=>exact hx O9 σ _ _ e s' J z
  | ok fl =>
    cases fl with
    | ret u =>
      obtain⟨v,H',I3,rv,ev,q3⟩:=J.after z;subst ev;exact⟨rv,⟨V.ref (s.heap.objs.size+1),H',I3,rfl,q3⟩⟩
    | next=>exact z.elim
    | brk=>exact z.elim
    | cont=>exact z.elim
theorem Qcp{C:Addr}{n:Nat}{F:Et}{K:Aa}{hp hp':Hs}{ds:List DV}{d:DV}{Q:VK}(nc:ClsN K c C)(hl:ds.length+1=n)(W:WOk K ρ B hp H)(r:RepL K ρ B H ds vs)
  (e:(do let x <- XT (.ins c []);let r <- F (x::ds);match r with | .non=>pure x | _=>failure:M DV) hp=some (d,hp')) (k:Fol K ρ B H d hp' Q) :
  ∀x dx,H x=none->H dx=none->dx≠x->K.lookup x=none->spD K n F (.ref x::vs) (upd (upd H dx (.own x)) x (.ins C dx [])) (λv H2=>v=.non/\Q (.ref x) H2) E0:=by
 intro x dx hx hdx ne kf;have e1:F (.ref hp.length::ds) (hp++[.ins c []])=some (.non,hp')/\d=.ref hp.length:=by
  obtain⟨y,hp1,a1,a2⟩:=Qg e;cases a1;obtain⟨y,hp2,a3,a4⟩:=Qg a2;cases y with
  | non=>obtain⟨rfl,rfl⟩:=Ql a4;exact⟨a3,rfl⟩
  | bl _=>cases a4
  | int _=>cases a4
  | str _=>cases a4
  | tup _=>cases a4
  | lst _=>cases a4
  | ref _=>cases a4
 obtain⟨e1,rfl⟩:=e1;have hx':upd H dx (.own x) x=none:=by rw[Q4 (Ne.symm ne)];exact hx
 have g0:Gr K ρ B H ρ B (upd H dx (.own x)):=Gr.laid hdx;have g1:Gr K ρ B (upd H dx (.own x)) (ρ++[x]) (yZ B x) (upd (upd H dx (.own x)) x (.ins C dx [])):=Gr.wnew hx' kf;have W1:WOk K (ρ++[x]) (yZ B x) (hp++[.ins c []]) (upd (upd H dx (.own x)) x (.ins C dx [])):=(W.laid hdx).wnew hx' kf (RepF.orep nc .nil Zg);have rx:RepV K (ρ++[x]) (yZ B x) (upd (upd H dx (.own x)) x (.ins C dx [])) (.ref hp.length) (.ref x):=by
  unfold RepV;exact⟨x,rfl,by rw[<- W.len];simp⟩
 refine⟨?_,ρ++[x],yZ B x,hp++[.ins c []],.ref hp.length::ds,.non,hp',W1,RepL.cons rx (RepL.grow W.rb (g0.trans g1) _ _ r),e1,λv ρ' B' H' g' W' r'=>?_⟩
 ·rw[Bb,<- r.length];exact hl
 ·exact⟨r'.nonI,k _ ρ' B' H' ((g0.trans g1).trans g') W' (RepV.grow W1.rb g' _ _ rx)⟩
theorem KP{k j n:Nat}{F:Et}{es:List Expr}{p:Pos}(h:Qap X.prog X.w X.K X.mg X.O8 c j n F)(hr:Room k X.A)(hj:j+1<=k)(hx:YQ CX0 X E0)(ha:DA X (e::es) fa)(hg:Gl X c:=by rfl)
  (hdb:(c==("__debug__" : Str))=false:=by decide) (he:starEach (e::es) X.env=(false,eval e X.env)::starEach es X.env:=by rfl) (hpl:(backTo pos (starEach es X.env)).any (·.1)=false:=by rfl):DE X (.Call (.Name c p) (e::es) [] pos) (Xm c n F fa):=by
 obtain⟨C,g,fd,ps,nc,hm,M,F',hb⟩:=h.ex;intro O9 s σ H Q I q;obtain⟨Z,env,ρ,B,hp,d,hp',S,e,k⟩:=q;obtain⟨ds,hp1,e1,e2⟩:=Qg e;obtain⟨_,hp2,e3,e4⟩:=Qg e2;obtain⟨hl,rfl⟩:=QL e3;refine wpAny_Call_Name_kw (Gf I hg hm ?_ hdb);refine PySem.W.callWith_K (h₀:=X.O8) I.ok.mod.kin M.kp (thn (ha pos O9 s σ H _ I (tDA.run S e1 λvs ρ1 B1 H1 g1 S1 r1=>Qcp (Q:=Q) nc (Eh hl) S1.wo r1 e4 (k.after g1))) λus s1 ⟨vs,H1,I1,r,q⟩=>⟨I1.kIn,?_⟩) he hpl;exact Qbg M F' (hr.mono hj) hb hx I1 r q
end
theorem QbX{P:Program}{w:World}{K:Aa}{mg:Eo}{O8:Heap}{x qual:Str}{g:Addr}{k:Nat}{body:DSx}(F:Fun K x qual stm g fd)(Sc:Qs N ps (Qo stm))
  (h:∀(cdv:Value)(A:Around)(outer:List Env)(s:Shared)(H:Hp)(E:XK),Room k (A.deeper (envOfC qual (Qo stm) s.heap.objs.size g cdv))->DSs (y0 CX0 P w K mg O8 N qual (Qo stm) g cdv A outer s H E).nox (ZH stm) body) :
  qW P w K mg O8 CX0 (k+1) g fd ps (spD K ps.length (Q8 N.length body)):=by
 refine F.ok Sc (λvs H Q E h=>h.1) (λcdv A outer s H vs Q E hr sp=>?_);obtain⟨hn,ρ,B,hp,ds,d,hp',W,r,e,k⟩:=sp;obtain⟨⟨fl,env'⟩,hp1,e1,e2⟩:=Qg e;refine⟨_,h cdv A outer s H E hr,⟨ρ,B,H⟩,_,ρ,B,hp,fl,env',hp1,yr W r,e1,λσ' ρ' B' H' g' S'=>?_⟩;cases fl with
 | nx=>obtain⟨rfl,rfl⟩:=Ql e2;exact k .non ρ' B' H' S'.gr S'.wo zT
 | rt x=>obtain⟨rfl,rfl⟩:=Ql e2;exact λv rv=>k v ρ' B' H' S'.gr S'.wo rv
 | bk=>cases e2
 | ct=>cases e2
theorem Qcs{P:Program}{w:World}{K:Aa}{mg:Eo}{O8:Heap}{c m qual:Str}{C g:Addr}{k:Nat}{body:DSx}(nc:ClsN K c C)(cl:Cls K C)(me:uo K C m g)(F:Fun K m qual stm g fd)(Sc:Qs N ps (Qo stm))
  (hb:∀(kV doc pm:Value)(an:Option Addr)(cdv ct:Value)(us:List Value),us.length=ps.length->bindArgs (PySem.W.fnOf m qual (JQ stm) (ZH stm) (Qo stm) .none kV doc pm an cdv ct) ⟨us,[]⟩=pure (ps.zip us))
  (h:∀(cdv:Value)(A:Around)(outer:List Env)(s:Shared)(H:Hp)(E:XK),Room k (A.deeper (envOfC qual (Qo stm) s.heap.objs.size g cdv))->DSs (y0 CX0 P w K mg O8 N qual (Qo stm) g cdv A outer s H E).nox (ZH stm) body) :
  Xh P w K mg O8 c m (k+1) ps.length (Q8 N.length body):=⟨C,g,fd,ps,nc,cl,me,QbX F Sc h,F.binds hb⟩
theorem Qb5{P:Program}{w:World}{K:Aa}{mg:Eo}{O8:Heap}{c qual:Str}{C g:Addr}{k:Nat}{body:DSx}(nc:ClsN K c C)(hm:mg c=some (.ref C))(me:Mk K C g)(F:Fun K "__init__" qual stm g fd)(Sc:Qs N ps (Qo stm))
  (hb:∀(kV doc pm:Value) (an:Option Addr) (cdv ct:Value) (us:List Value),us.length=ps.length->bindArgs (PySem.W.fnOf "__init__" qual (JQ stm) (ZH stm) (Qo stm) .none kV doc pm an cdv ct) ⟨us,[]⟩=pure (ps.zip us))
  (h:∀(cdv:Value)(A:Around)(outer:List Env)(s:Shared)(H:Hp)(E:XK),Room k (A.deeper (envOfC qual (Qo stm) s.heap.objs.size g cdv))->DSs (y0 CX0 P w K mg O8 N qual (Qo stm) g cdv A outer s H E).nox (ZH stm) body) :
  Qap P w K mg O8 c (k+1) ps.length (Q8 N.length body):=⟨C,g,fd,ps,nc,hm,me,QbX F Sc h,F.binds hb⟩
section
variable{X:Cx}
def Qc0:DSx:=λ_=>failure
theorem ku{st:Stmt}:DS X st Qc0:=L2.PS.imp QcQ λD σ H ⟨Z,env,ρ,B,hp,fl,env',hp',S,e,k⟩=>by cases e
def Gx(i:Nat)(op:DV->DV->M DV)(fe:DEx):DSx:=λenv=>do let v <- Qb i env;let y <- fe env;let z <- op v y;pure (.nx,env.set i (.val z))
end
theorem JK{α β:Type}(m:M α)(k:α->M β)(hp:Hs):(m >>= k) hp=(m hp).bind λp=>k p.1 p.2:=by
 show(StateT.bind m k hp)=_;unfold StateT.bind;cases m hp with
 | none=>rfl
 | some p=>obtain⟨a,h⟩:=p;rfl
theorem X9{α β:Type}(f:α->β)(m:M α)(hp:Hs):(f <$> m) hp=(m hp).map λp=>(f p.1,p.2):=by
 show(StateT.map f m hp)=_;unfold StateT.map;cases m hp with
 | none=>rfl
 | some p=>obtain⟨a,h⟩:=p;rfl
def run_pure{α:Type}(a:α)(hp:Hs):(pure a:M α) hp=some (a,hp):=rfl
def Xr{α:Type}(hp:Hs):(failure:M α) hp=none:=rfl
theorem JX(b:Bool)(hp:Hs):Qy b hp=if b=true then some ((),hp) else none:=by cases b<;>rfl
theorem X8(n:Nat)(hp:Hs):ZX n hp=(hp[n]?).map λo=>(o,hp):=by unfold ZX;cases hp[n]?<;>rfl
def run_set(n:Nat)(o:OV)(hp:Hs):xE n o hp=some ((),hp.set n o):=rfl
def Ya(o:OV)(hp:Hs):XT o hp=some (.ref hp.length,hp++[o]):=rfl
theorem Zo(hp:Hs)(k:Nat)(X:OV)(h:(hp[k]?).isSome=true):(hp.set k X)[k]?=some X:=by
 have:k < hp.length:=by
  rcases Bi k hp.length with q | q
  ·exact q
  ·rw[Cz q] at h;cases h
 rw[Av this]
def QI(hp:Hs)(k n:Nat)(X:OV)(h:k≠n):(hp.set k X)[n]?=hp[n]?:=An h
theorem Jm(hp:Hs)(X:OV):(hp++[X])[hp.length]?=some X:=by simp
mutual
def KRep(K:Aa):DV->V->Prop
 | .non,v=>v=.non
 | .bl b,v=>v=.bl b
 | .int i,v=>v=.int i
 | .str x,v=>v=.str x
 | .tup ds,v=>∃(a:Addr) (o:Obj) (its:Array Value) (n:Nat) (xs:List V),v=.ref a/\K.lookup a=some o/\o.cls=.type "tuple" /\ o.data=.seq its n/\its.size<=sizeLine/\Vals xs its.toList/\KRepL K ds xs
 | _,_=>False
def KRepL(K:Aa):List DV->List V->Prop
 | [],xs=>xs=[]
 | d::ds,xs=>∃x r,xs=x::r/\KRep K d x/\KRepL K ds r
end
mutual
theorem KRep.rep{K:Aa}{B:Er}(hb:∀a,B a->K.lookup a=none):∀(d:DV)(v:V),KRep K d v->RepV K ρ B H d v
  | .non,_,h=>by unfold KRep at h;unfold RepV;exact h
  | .bl _,_,h=>by unfold KRep at h;unfold RepV;exact h
  | .int _,_,h=>by unfold KRep at h;unfold RepV;exact h
  | .str _,_,h=>by unfold KRep at h;unfold RepV;exact h
  | .lst _,_,h=>by unfold KRep at h;exact h.elim
  | .ref _,_,h=>by unfold KRep at h;exact h.elim
  | .tup ds,_,h=>by
    unfold KRep at h;unfold RepV;obtain⟨a,o,its,n,xs,rfl,h1,h2,h3,h4,h5,h6⟩:=h;exact⟨a,xs,rfl,λz=>(by rw[hb a z] at h1;cases h1),.inr ⟨o,its,n,h1,h2,h3,h4,h5⟩,KRepL.rep hb ds xs h6⟩
theorem KRepL.rep{K:Aa}{B:Er}(hb:∀a,B a->K.lookup a=none):∀(ds:List DV)(xs:List V),KRepL K ds xs->RepL K ρ B H ds xs
  | [],_,h=>by unfold KRepL at h;unfold RepL;exact h
  | d::ds,_,h=>by
    unfold KRepL at h;unfold RepL;obtain⟨x,r,e,h1,h2⟩:=h;exact⟨x,r,e,KRep.rep hb d x h1,KRepL.rep hb ds r h2⟩
end
theorem uM{K:Aa}{a:Addr}{od:Option Addr}{its:Array Value}{n:Nat}{sl:Array (Option Value)}(h:K.lookup a=some ⟨.type "tuple", od,.seq its n,sl⟩)(hs:its.size<=sizeLine)(hv:Vals xs its.toList)(hl:KRepL K ds xs):KRep K (.tup ds) (.ref a):=by
 unfold KRep;exact⟨a,_,its,n,xs,rfl,h,rfl,rfl,hs,hv,hl⟩
theorem Qcc{K:Aa}:KRep K .non .non:=by unfold KRep;rfl
theorem Qf4{K:Aa}{i:Int}:KRep K (.int i) (.int i):=by unfold KRep;rfl
theorem K9{K:Aa}:KRepL K [] []:=by unfold KRepL;rfl
theorem zr{K:Aa}{d:DV}{x:V}(h:KRep K d x)(h':KRepL K ds r):KRepL K (d::ds) (x::r):=by unfold KRepL;exact⟨x,r,rfl,h,h'⟩
theorem QdO{X:Cx}{x:Str}{a:Addr}{pos:Pos}(hg:Gl X x)(hm:X.mg x=some (.ref a))(hk:KRep X.K (.tup ds) (.ref a))(hd:(x==("__debug__" : Str))=false:=by decide):DE X (.Name x pos) (eC (.tup ds)) :=
 (kW (v:=.ref a) hg hm rfl hd).imp λσ H Q zz1=>by
  obtain⟨Z,env,ρ,B,hp,d',hp',S,e,k⟩:=zz1;obtain⟨rfl,rfl⟩:=Ql e;exact k _ ρ B H Gr.refl S.wo (KRep.rep S.wo.bk _ _ hk)
theorem QbZ(hp:Hs)(x:OV)(t:Hs):(hp++x::t)[hp.length]?=some x:=by simp
theorem Qc7(hp:Hs)(x y:OV)(t:Hs):(hp++x::t).set hp.length y=hp++y::t:=by
 rw[List.set_append_right _ _ (Ag _)];simp
theorem QeQ{hp:Hs}{n:Nat}(h:hp[n]?=some x):hp.set n x=hp:=by
 obtain⟨hl,rfl⟩:=Ad.mp h;exact List.set_getElem_self hl
theorem xt{n i:Nat}{d:DV}(h:(Zc 0 n)[i]?=some d):i < n/\d=.int (i:Int):=by
 obtain⟨h1,h2⟩:=gj h;exact⟨h1,by rw[h2];simp⟩
theorem Qbj{n:Nat}(h:n<=1000000):Uk (n:Int)=true:=Qdd (by lia) (by lia)
theorem Qcy{i:Int}(h:0<=i):∃j:Nat,i=j:=⟨i.toNat,by lia⟩
theorem kK{n i:Nat}(h:i < n):ixN n (i:Int)=some i:=by unfold ixN;rw[Ec (by lia),Ec (by lia)];simp
theorem QeL{m:Nat}(h:m<=1000000)(hp:Hs):Qbe [.int (m:Int)] hp=some (Zc 0 m,hp):=by
 have e:Qbe [.int (m:Int)]=pure (Zc 0 (m:Int).toNat):=by
  simp only[Qbe,Qbj h,Qy,if_true,Ej]
 rw[e,B7];rfl
theorem zQ{f:DAx}{m:Nat}(h:f env hp=some ([.int (m:Int)],hp1))(hm:m<=1000000):VG f env hp=some (Zc 0 m,hp1):=by
 unfold VG;rw[Qf h];exact QeL hm hp1
section
variable{X:Cx}
def xk(x:DV):List DV->M DV
 | [y]=>onL x λn ds=>onL y λ_ es=>do Qy (decide (ds.length+es.length<=lim));xE n (.lst (ds++es));pure .non
 | _=>failure
theorem Qco:MtR X "list.extend" (tPm X.K xk):=by
 intro O9 s σ H x vs v us Q I rx rv h;obtain⟨ρ,B,hp,dx,es,d,hp',W,r1,r2,e,k⟩:=h;unfold xk at e;split at e
 ·rename_i y
  obtain⟨n,ds,rfl,h0,e⟩:=VS e;obtain⟨m,zs,rfl,h0',e⟩:=VS e;obtain⟨_,hp1,e1,e2⟩:=Qg e;obtain⟨hl,rfl⟩:=QL e1;cases e2;obtain⟨a,rfl,i1,xs,h1,l1⟩:=RepV.refW W r1 h0;obtain⟨w,rfl,rw'⟩:=r2.oneI;obtain⟨b,rfl,i2,ys,h2,l2⟩:=RepV.refW W rw' h0';obtain⟨g,W'⟩:=Ut W i1 h1 (RepL.append l1 l2);exact Qa0 O9 s σ H _ _ v us Q I rx rv ⟨a,b,xs,ys,rfl,rfl,h1,h2,by rw[<- l1.length,<- l2.length];exact Bk (Eh hl) Gg,k _ ρ B _ g W' zT⟩
 ·cases e
end
end D
namespace L2
open PySem PySem.Spec PyProof.Rows
abbrev XS(h:Heap)(z p o:Addr)(f:Value)(b:Bool):Prop:=h.get? z=some { cls:=Value.type "zip", data:=Data.fields #[f,Value.bool b,Value.bool false,Value.ref p,Value.ref o] }
structure ZU(h:Heap)(z p o i j a b:Addr)(n:Nat):Prop where
 zz:∃f fl,XS h z p o f fl/\(f=.none∨∃T:Nat,f=rawInt T)
 pp:IsPair h p (.ref i) (.ref j)
 oo:∃x y,IsPair h o x y
 ii:h.IsTupleIter i a n
 jj:h.IsTupleIter j b n
section
variable{prog:Program}{w:World}{A:Around}{E:Ek}{s:Shared}
theorem uh{a:Addr}{Q:Option Obj->Shared->Prop}(h:Q (s.heap.get? a) s):wpAny (model prog w) A (loadIfAlive a) Q E s:=by
 intro Γ p hΓ;unfold loadIfAlive;rw[Sem.wp_loadIfAlive];exact Ed (M:=model prog w) (A:=A) (E:=E) h Γ p hΓ
theorem Qao{z p o:Addr}{f:Value}{fl:Bool}{Q:Bool->Shared->Prop}(zz:XS s.heap z p o f fl)(hf:f=.none∨∃T:Nat,f=rawInt T)(q1:Q true s)(q2:∀g,XS g z p o f true->Heap.ExtBut z s.heap g->g.objs.size=s.heap.objs.size->Q false { s with heap:=g }):
    wpAny (model prog w) A (Builtin.SmallTypes.ownedTupleIsFree (.ref z)) Q E s:=by
  unfold Builtin.SmallTypes.ownedTupleIsFree;rcases hf with rfl | ⟨T,rfl⟩
  . exact Ea (wpAny_field zz rfl (x:=.none) rfl (Ed q1))
  . refine Ea (wpAny_field zz rfl (x:=rawInt T) rfl ?_)
    show wpAny _ _ (loadIfAlive (T:Int).toNat >>= _) _ _ _;refine Ea (uh ?_);cases hT:s.heap.get? (T:Int).toNat with
    | none=>exact Ed q1
    | some ob =>
      show wpAny _ _ (field (.ref z) 1 >>= _) _ _ _;refine Ea (wpAny_field zz rfl (x:=.bool fl) rfl ?_);cases fl with
      | true=>exact Ed (q2 _ zz (λ_ _ _ e=>e) rfl)
      | false =>
        show wpAny _ _ (setField (.ref z) 1 (.bool true) >>= _) _ _ _;exact Ea (wpAny_setField_rec zz (by simp) λg z1 k1=>Ed (q2 g z1 k1.extBut k1.1))
theorem Qfb{z p o i j a b:Addr}{n:Nat}{xs ys:Array Value}{Q:Ek}(D:ZA z p o i j a b)(S:ZU s.heap z p o i j a b n)(ha:s.heap.IsTuple a xs)(hb:s.heap.IsTuple b ys)(hx:xs[n]?=some x)(hy:ys[n]?=some y)
  (k:∀g,ZU g z p o i j a b (n+1)->IsPair g s.heap.objs.size x y->g.objs.size=s.heap.objs.size+1->(∀c u,c≠z->c≠o->c≠i->c≠j->s.heap.get? c=some u->g.get? c=some u)->Q (.ref s.heap.objs.size) { s with heap:=g }) :
  wpAny (model prog w) A (Builtin.«zip.__next__» ⟨[.ref z],[]⟩) (λfin s'=>∃v,fin=.done (.ret v)/\Q v s') E s:=by
 obtain⟨⟨f,fl,zz,hf⟩,pp,⟨u1,u2,oo⟩,ii,jj⟩:=S;have ht:∀{g g':Heap}{q c:Addr}{vs:Array Value},Heap.SameBut q g g'->c≠q->g.IsTuple c vs->g'.IsTuple c vs:=λ{g g' q c vs} sb hc ⟨ob,e,r⟩=>⟨ob,sb.extBut _ _ hc e,r⟩;show wpAny _ _ (field (.ref z) 2 >>= _) _ _ _;refine Ea (wpAny_field zz rfl (x:=.bool false) rfl ?_);show wpAny _ _ (field (.ref z) 3 >>= _) _ _ _;refine Ea (wpAny_field zz rfl (x:=.ref p) rfl ?_);refine Ea (wpAny_seqItems pp rfl ?_);show wpAny _ _ (Builtin.SmallTypes.ownedTupleIsFree (.ref z) >>= _) _ _ _;refine Ea (Qao zz hf ?_ ?_)
 ·simp only[if_true]
  refine Ea (wpAny_rule ?_);refine Ea (wpAny_field zz rfl (x:=.ref o) rfl ?_);refine Ea (wpAny_setField_rec zz (by simp) λg1 z1 k1=>?_)
  replace z1:XS g1 z p o .ellipsis fl:=z1;refine Ea ?_;simp only[List.zipIdx_cons,List.zipIdx_nil,List.forIn_cons,List.forIn_nil];refine Ea (Ea (wpAny_onRaise ?_));show wpAny _ _ (Builtin.SmallTypes.nextOf (.ref i) >>= _) _ _ _;refine Ea (zV (ii.extBut k1.extBut D.iz) (ht k1 D.az ha) hx λg2 i2 k2=>Ed ?_);have o2:IsPair g2 o u1 u2:=k2.extBut _ _ D.oi (k1.extBut _ _ D.oz oo);refine Ea (wpAny_seqItems o2 rfl ?_);refine Ea (wpAny_updateSeq_pair o2 λg3 o3 k3=>?_);replace o3:IsPair g3 o x u2:=o3;refine Ea (wpAny_letGo (Ed ?_));refine Ea (Ea (wpAny_onRaise ?_));show wpAny _ _ (Builtin.SmallTypes.nextOf (.ref j) >>= _) _ _ _;refine Ea (zV (((jj.extBut k1.extBut D.jz).extBut k2.extBut D.ij.symm).extBut k3.extBut D.oj.symm) (ht k3 D.bo (ht k2 D.bi (ht k1 D.bz hb))) hy λg4 j4 k4=>Ed ?_);have o4:IsPair g4 o x u2:=k4.extBut _ _ D.oj o3;refine Ea (wpAny_seqItems o4 rfl ?_);refine Ea (wpAny_updateSeq_pair o4 λg5 o5 k5=>?_);replace o5:IsPair g5 o x y:=o5;refine Ea (wpAny_letGo (Ed (Ed ?_)));refine Ea (wpAny_seqItems o5 rfl ?_);refine Ea (wpAny_newTuple ?_);have sz:g5.objs.size=s.heap.objs.size:=by rw[k5.1,k4.1,k3.1,k2.1,k1.1]
  have z5:XS g5 z p o .ellipsis fl:=k5.extBut _ _ D.oz.symm (k4.extBut _ _ D.jz.symm (k3.extBut _ _ D.oz.symm (k2.extBut _ _ D.iz.symm z1)));have kk:∀c u,c≠z->c≠o->c≠i->c≠j->s.heap.get? c=some u->g5.get? c=some u:=λc u c1 c2 c3 c4 e=>k5.extBut _ _ c2 (k4.extBut _ _ c4 (k3.extBut _ _ c2 (k2.extBut _ _ c3 (k1.extBut _ _ c1 e))));have i5:g5.IsTupleIter i a (n+1):=((i2.extBut k3.extBut D.oi.symm).extBut k4.extBut D.ij).extBut k5.extBut D.oi.symm;have j5:g5.IsTupleIter j b (n+1):=j4.extBut k5.extBut D.oj.symm;have zl:z < g5.objs.size:=Aq z5;show wpAny _ _ (Builtin.SmallTypes.ownedTupleHandOut (.ref z) (.ref g5.objs.size) >>= _) _ _ _;refine Ea ?_;unfold Builtin.SmallTypes.ownedTupleHandOut;have z6:XS (g5.push { cls:=.type "tuple", data:=.seq #[x,y] }) z p o .ellipsis fl:=Ae _ z5;refine Ea (wpAny_setField_rec z6 (by simp) λg7 z7 k7=>?_)
  replace z7:XS g7 z p o (rawInt g5.objs.size) fl:=z7;refine wpAny_setField_rec z7 (by simp) λg8 z8 k8=>?_
  replace z8:XS g8 z p o (rawInt g5.objs.size) false:=z8;have up:∀c u,c≠z->g5.get? c=some u->g8.get? c=some u:=λc u c1 e=>k8.extBut _ _ c1 (k7.extBut _ _ c1 (Ae _ e));have t8:IsPair g8 g5.objs.size x y:=k8.extBut _ _ (C8 zl) (k7.extBut _ _ (C8 zl) (Aw _ rfl));have s8:g8.objs.size=g5.objs.size+1:=by rw[k8.1,k7.1,Co]
  refine Ed ⟨_,rfl,?_⟩;show Q (.ref g5.objs.size) _;rw[sz] at z8 t8 s8;rw[sz];exact k g8 ⟨⟨_,_,z8,.inr ⟨_,rfl⟩⟩,up _ _ D.pz (kk _ _ D.pz D.po D.pi D.pj pp),⟨x,y,up _ _ D.oz o5⟩,i5.at λu e=>up _ u D.iz e,j5.at λu e=>up _ u D.jz e⟩ t8 s8 λc u c1 c2 c3 c4 e=>up c u c1 (kk c u c1 c2 c3 c4 e)
 ·intro g1 z1 k1 sz1
  simp only[A7,if_false];refine Ea ?_;have ia1:g1.IsTuple a xs:=let ⟨ob,e,r⟩:=ha;⟨ob,k1 _ _ D.az e,r⟩;have ib1:g1.IsTuple b ys:=let ⟨ob,e,r⟩:=hb;⟨ob,k1 _ _ D.bz e,r⟩;simp only[List.forIn_toArray,List.forIn_cons,List.forIn_nil];refine Ea (Ea (wpAny_holding ?_));show wpAny _ _ (Builtin.SmallTypes.nextOf (.ref i) >>= _) _ _ _;refine Ea (zV (s:={ s with heap:=g1 }) (ii.extBut k1 D.iz) ia1 hx λg2 i2 k2=>Ed (Ed ?_));refine Ea (Ea (wpAny_holding ?_));show wpAny _ _ (Builtin.SmallTypes.nextOf (.ref j) >>= _) _ _ _;refine Ea (zV (s:={ s with heap:=g2 }) ((jj.extBut k1 D.jz).extBut k2.extBut D.ij.symm) (ht k2 D.bi ib1) hy λg3 j3 k3=>Ed (Ed ?_));refine Ed ?_;refine Ea (wpAny_newTuple ?_ (show(2:Nat)<=sizeLine by decide))
  have sz:g3.objs.size=s.heap.objs.size:=by rw[k3.1,k2.1,sz1]
  have kk:∀c u,c≠z->c≠i->c≠j->s.heap.get? c=some u->(g3.push { cls:=.type "tuple", data:=.seq #[x,y] }).get? c=some u:=λc u c1 c3 c4 e=>Ae _ (k3.extBut _ _ c4 (k2.extBut _ _ c3 (k1 _ _ c1 e)));have z3:XS (g3.push { cls:=.type "tuple", data:=.seq #[x,y] }) z p o f true:=Ae _ (k3.extBut _ _ D.jz.symm (k2.extBut _ _ D.iz.symm z1));refine Ed ⟨_,rfl,?_⟩;show Q (.ref g3.objs.size) _;rw[sz];refine k _ ⟨⟨f,true,z3,hf⟩,kk _ _ D.pz D.pi D.pj pp,⟨u1,u2,kk _ _ D.oz D.oi D.oj oo⟩,(i2.extBut k3.extBut D.ij).at λu e=>Ae _ e,j3.at λu e=>Ae _ e⟩ ?_ (by rw[Co,sz]) λc u c1 _ c3 c4 e=>kk c u c1 c3 c4 e
  rw[<- sz];exact Aw _ rfl
theorem Qfc{z p o i j a b:Addr}{n:Nat}{xs ys:Array Value}{Q:PySem.Fin->Shared->Prop}(hh:A.handled=none)(D:ZA z p o i j a b)(S:ZU s.heap z p o i j a b n)(ha:s.heap.IsTuple a xs)(hb:s.heap.IsTuple b ys)(he:xs[n]?=none∨ys[n]?=none)
    (k:∀g x,(∀c u,c≠z->c≠o->c≠i->c≠j->s.heap.get? c=some u->g.get? c=some u)->(∃u,g.get? x=some u/\u.cls=.type "StopIteration")->E (.ref x) { s with heap:=g }) :
    wpAny (model prog w) A (Builtin.«zip.__next__» ⟨[.ref z],[]⟩) Q E s:=by
  obtain⟨⟨f,fl,zz,hf⟩,pp,⟨u1,u2,oo⟩,ii,jj⟩:=S;have ht:∀{g g':Heap}{q c:Addr}{vs:Array Value},Heap.SameBut q g g'->c≠q->g.IsTuple c vs->g'.IsTuple c vs:=λ{g g' q c vs} sb hc ⟨ob,e,r⟩=>⟨ob,sb.extBut _ _ hc e,r⟩;show wpAny _ _ (field (.ref z) 2 >>= _) _ _ _;refine Ea (wpAny_field zz rfl (x:=.bool false) rfl ?_);show wpAny _ _ (field (.ref z) 3 >>= _) _ _ _;refine Ea (wpAny_field zz rfl (x:=.ref p) rfl ?_);refine Ea (wpAny_seqItems pp rfl ?_);show wpAny _ _ (Builtin.SmallTypes.ownedTupleIsFree (.ref z) >>= _) _ _ _;refine Ea (Qao zz hf ?_ ?_)
  . simp only[if_true]
    refine Ea (wpAny_rule ?_);refine Ea (wpAny_field zz rfl (x:=.ref o) rfl ?_);refine Ea (wpAny_setField_rec zz (by simp) λg1 z1 k1=>?_)
    replace z1:XS g1 z p o .ellipsis fl:=z1;refine Ea ?_;simp only[List.zipIdx_cons,List.zipIdx_nil,List.forIn_cons,List.forIn_nil];refine Ea (Ea (wpAny_onRaise ?_));show wpAny _ _ (Builtin.SmallTypes.nextOf (.ref i) >>= _) _ _ _;cases hx:xs[n]? with
    | none =>
      refine Ea (GJ hh (ii.extBut k1.extBut D.iz) (ht k1 D.az ha) hx λg2 x k2 h2=>?_);obtain⟨oe,h3,h4⟩:=h2;have z2:XS g2 z p o .ellipsis fl:=k2 _ _ D.iz.symm z1;have xz:x≠z:=λq=>by subst q;rw[z2] at h3;cases h3;simp at h4
      exact wpAny_setField_rec z2 (by simp) λg3 _ k3=>k g3 x (λc u c1 _ c3 _ e=>k3.extBut _ _ c1 (k2 _ _ c3 (k1.extBut _ _ c1 e))) ⟨oe,k3.extBut _ _ xz h3,h4⟩
    | some x0 =>
      have hy:ys[n]?=none:=by rcases he with h | h;rw[hx] at h;cases h;exact h
      refine Ea (zV (ii.extBut k1.extBut D.iz) (ht k1 D.az ha) hx λg2 i2 k2=>Ed ?_);have o2:IsPair g2 o u1 u2:=k2.extBut _ _ D.oi (k1.extBut _ _ D.oz oo);refine Ea (wpAny_seqItems o2 rfl ?_);refine Ea (wpAny_updateSeq_pair o2 λg3 o3 k3=>?_);refine Ea (wpAny_letGo (Ed ?_));refine Ea (Ea (wpAny_onRaise ?_));show wpAny _ _ (Builtin.SmallTypes.nextOf (.ref j) >>= _) _ _ _;refine Ea (GJ hh (((jj.extBut k1.extBut D.jz).extBut k2.extBut D.ij.symm).extBut k3.extBut D.oj.symm) (ht k3 D.bo (ht k2 D.bi (ht k1 D.bz hb))) hy λg4 x k4 h2=>?_);obtain⟨oe,h3,h4⟩:=h2;have z4:XS g4 z p o .ellipsis fl:=k4 _ _ D.jz.symm (k3.extBut _ _ D.oz.symm (k2.extBut _ _ D.iz.symm z1));have xz:x≠z:=λq=>by subst q;rw[z4] at h3;cases h3;simp at h4
      exact wpAny_setField_rec z4 (by simp) λg5 _ k5=>k g5 x (λc u c1 c2 c3 c4 e=>k5.extBut _ _ c1 (k4 _ _ c4 (k3.extBut _ _ c2 (k2.extBut _ _ c3 (k1.extBut _ _ c1 e))))) ⟨oe,k5.extBut _ _ xz h3,h4⟩
  . intro g1 z1 k1 sz1
    simp only[A7,if_false];refine Ea ?_;have ia1:g1.IsTuple a xs:=let ⟨ob,e,r⟩:=ha;⟨ob,k1 _ _ D.az e,r⟩;have ib1:g1.IsTuple b ys:=let ⟨ob,e,r⟩:=hb;⟨ob,k1 _ _ D.bz e,r⟩;simp only[List.forIn_toArray,List.forIn_cons,List.forIn_nil];refine Ea (Ea (wpAny_holding ?_));show wpAny _ _ (Builtin.SmallTypes.nextOf (.ref i) >>= _) _ _ _;cases hx:xs[n]? with
    | none =>
      exact Ea (GJ (s:={ s with heap:=g1 }) hh (ii.extBut k1 D.iz) ia1 hx λg2 x k2 h2=>k g2 x (λc u c1 _ c3 _ e=>k2 _ _ c3 (k1 _ _ c1 e)) h2)
    | some x0 =>
      have hy:ys[n]?=none:=by rcases he with h | h;rw[hx] at h;cases h;exact h
      refine Ea (zV (s:={ s with heap:=g1 }) (ii.extBut k1 D.iz) ia1 hx λg2 i2 k2=>Ed (Ed ?_));refine Ea (Ea (wpAny_holding ?_));show wpAny _ _ (Builtin.SmallTypes.nextOf (.ref j) >>= _) _ _ _;exact Ea (GJ (s:={ s with heap:=g2 }) hh ((jj.extBut k1 D.jz).extBut k2.extBut D.ij.symm) (ht k2 D.bi ib1) hy λg3 x k3 h2=>k g3 x (λc u c1 _ c3 c4 e=>k3 _ _ c4 (k2.extBut _ _ c3 (k1 _ _ c1 e))) h2)
end
theorem ZU.at{h h':Heap}{z p o i j a b:Addr}{n:Nat}(S:ZU h z p o i j a b n)(k:∀c∈[z,p,o,i,j],∀u,h.get? c=some u->h'.get? c=some u):ZU h' z p o i j a b n:=by
 obtain⟨⟨f,fl,zz,hf⟩,pp,⟨u1,u2,oo⟩,ii,jj⟩:=S;exact⟨⟨f,fl,k z (by simp) _ zz,hf⟩,k p (by simp) _ pp,⟨u1,u2,k o (by simp) _ oo⟩,ii.at λu e=>k i (by simp) u e,jj.at λu e=>k j (by simp) u e⟩
inductive Qbr:Expr->Prop
 | nm (x:Str) (p:Pos):Qbr (.Name x p)
 | tp (l:List Expr) (k:Nat) (p:Pos):Qbr (.Tuple l k p)
theorem Qiq{prog:Program}{w:World}{A:Around}{E:Ek}{s:Shared}(ht:Qbr tg){z p o i j a b T:Addr}{n:Nat}{Q:Unit->Shared->Prop}(D:ZA z p o i j a b)(S:ZU s.heap z p o i j a b n)(hQ:∀h',ZU h' z p o i j a b n->Heap.ExtBut z s.heap h'->Q () { s with heap:=h' }):wpAny (model prog w) A (letOwnedTupleGo tg (.ref z) (.ref T)) Q E s:=by
  cases ht with
  | nm x p'=>exact Ed (hQ s.heap S λ_ _ _ e=>e)
  | tp l k p' =>
    obtain⟨f,fl,zz,hf⟩:=S.zz;unfold letOwnedTupleGo;refine Ea (wpAny_load zz ?_);dsimp only;split
    . refine Ea (wpAny_rule ?_)
      show wpAny _ _ (setField (.ref z) 0 .none) Q E s;obtain⟨_,pp,⟨u1,u2,oo⟩,ii,jj⟩:=S;exact wpAny_setField_rec zz (by simp) λh' z' k'=>hQ h' ⟨⟨.none,fl,z',.inl rfl⟩,k'.extBut _ _ D.pz pp,⟨u1,u2,k'.extBut _ _ D.oz oo⟩,ii.extBut k'.extBut D.iz,jj.extBut k'.extBut D.jz⟩ k'.extBut
    . exact Ed (hQ s.heap S λ_ _ _ e=>e)
theorem KA{P:Program}{w:World}{K:Aa}{tg:Expr}(ht:Qbr tg){z p o i j a b:Addr}(D:ZA z p o i j a b):Qbs P w K tg (Itz K a b) [z,p,o,i,j] z (λn h=>ZU h z p o i j a b n) where
 mem:=by simp
 obj:=λn h S c hc=>by
  obtain⟨⟨f,fl,zz,hf⟩,pp,⟨u1,u2,oo⟩,⟨oi,ei,ci,di⟩,⟨oj,ej,cj,dj⟩⟩:=S;simp only[Bm,Cf,or_false] at hc;rcases hc with rfl | rfl | rfl | rfl | rfl
  ·exact⟨_,zz,λv q=>by have q':Data.fields _=Data.cell v:=q;cases q'⟩
  ·exact⟨_,pp,λv q=>by have q':Data.seq _ _=Data.cell v:=q;cases q'⟩
  ·exact⟨_,oo,λv q=>by have q':Data.seq _ _=Data.cell v:=q;cases q'⟩
  ·exact⟨oi,ei,λv q=>by rw[di] at q;cases q⟩
  ·exact⟨oj,ej,λv q=>by rw[dj] at q;cases q⟩
 keep:=λn h h' S k=>S.at k
 item:=by
  intro X hP hw hK hc n O9 s σ H E I hf S hg;subst hP hw hK;obtain⟨xs,ys,x,y,qa,qb,hx,hy⟩:=hg;obtain⟨ia,ra,pa,_⟩:=I.tuple qa;obtain⟨ib,rb,pb,_⟩:=I.tuple qb;obtain⟨u,hu,ru⟩:=ra.get hx;obtain⟨v,hv,rv⟩:=rb.get hy;obtain⟨f0,fl0,zz0,hf0⟩:=S.zz;have hT:s.TypeIs (.ref z) "zip" := ⟨_,zz0,rfl⟩;unfold pyNext;refine Ea (wpAny_attempt (wpAny_callSpecial?_slot (name:=Str.ofString "__next__") hT F.slot_zip_next (wpAny_call_entry F.slot_zip_next hT F.entry_zip_next
   (Qfb D S (show s.heap.IsTuple a ia.toArray from pa) (show s.heap.IsTuple b ib.toArray from pb) (by simpa using hu) (by simpa using hv) λg' S' tp sz kp=>Ed ?_) (F.args_zip_next_1 _))))
  refine⟨_,rfl,Qiq (s:={ s with heap:=g' }) ht D S' λg2 S' kx=>?_⟩;replace tp:=kx _ _ (C8 (Aq zz0)) tp;have kp':∀c q,c∉[z,p,o,i,j]->s.heap.get? c=some q->g2.get? c=some q:=λc q hc e=>by
   simp only[Bm,Cf,or_false,not_or] at hc;refine kx _ _ hc.1 (kp c q hc.1 hc.2.2.1 hc.2.2.2.1 hc.2.2.2.2 e)
  have ne:∀c∈[z,p,o,i,j],c≠s.heap.objs.size:=λc hc e=>by
   obtain⟨_,pp,⟨u1,u2,oo⟩,⟨oi,ei,_⟩,⟨oj,ej,_⟩⟩:=S;simp only[Bm,Cf,or_false] at hc;rcases hc with rfl | rfl | rfl | rfl | rfl
   ·exact Bh (Aq zz0) e
   ·exact Bh (Aq pp) e
   ·exact Bh (Aq oo) e
   ·exact Bh (Aq ei) e
   ·exact Bh (Aq ej) e
  refine⟨.ref s.heap.objs.size,upd H s.heap.objs.size (.tup [x,y]),I.turnNew (t':=s.toks) hf kp' (us:=[u,v]) (.cons ru (.cons rv .nil)) (show 2<=sizeLine by decide) ⟨_,tp,rfl,_,rfl⟩,rfl,
   ⟨_,x,y,I.hok.fresh (Ag _),λxs' h=>by rw[I.tuple_inj h qa];exact hx,λys' h=>by rw[I.tuple_inj h qb];exact hy,rfl,rfl⟩,S',λc hc=>?_⟩
  rw[Q4 (ne c hc)];exact(hf c hc).1
 done:=by
  intro X hP hw hK hc n O9 s σ H E I hf S hg;subst hP hw hK;obtain⟨xs,ys,qa,qb,hs⟩:=hg;obtain⟨ia,ra,pa,_⟩:=I.tuple qa;obtain⟨ib,rb,pb,_⟩:=I.tuple qb;have l1:=ra.length;have l2:=rb.length;obtain⟨f0,fl0,zz0,hf0⟩:=S.zz;have hT:s.TypeIs (.ref z) "zip" := ⟨_,zz0,rfl⟩;unfold pyNext;refine Ea (wpAny_attempt (wpAny_callSpecial?_slot (name:=Str.ofString "__next__") hT F.slot_zip_next (wpAny_call_entry F.slot_zip_next hT F.entry_zip_next
   (Qfc (I.ok.hd hc) D S (show s.heap.IsTuple a ia.toArray from pa) (show s.heap.IsTuple b ib.toArray from pb) (by rcases hs with q | q;exact .inl (by simp;lia);exact .inr (by simp;lia)) λg x kp hx=>?_) (F.args_zip_next_1 _))))
  obtain⟨ox,h1,h2⟩:=hx;refine Ea (wpAny_isInstance (T := "StopIteration") (b:=true) ⟨ox,h1,h2⟩ isSubtype_stop ?_);refine Ed ⟨rfl,I.turnL (t':=s.toks) hf λc q hc e=>?_⟩;simp only[Bm,Cf,or_false,not_or] at hc;exact kp c q hc.1 hc.2.2.1 hc.2.2.2.1 hc.2.2.2.2 e
 self:=λ_ _ _ _ _ S h=>by
  obtain⟨f0,fl0,zz0,hf0⟩:=S.zz;have hT:Shared.TypeIs _ (Value.ref z) "zip" := ⟨_,zz0,rfl⟩;refine wpAny_pyIter_slot hT F.slot_zip_iter (wpAny_call_entry F.slot_zip_iter hT F.entry_zip_iter ?_ (F.args_zip_iter_1 _));exact Ed ⟨_,rfl, "zip", _,hT,(F.slot_zip_next).1,h⟩
section
variable{X:Cx}{xn:Str}{p2:Pos}{O9:Em}{σ:L2.St}
theorem Qg9{E:Ek}{Q:Ek}{a b:Addr}(I:Inv X O9 σ H s)(qa:SqT X.K H a xs)(qb:SqT X.K H b ys)
  (k:∀(s':Shared) (z p o i j:Addr),Inv X O9 σ H s'->ZA z p o i j a b->ZU s'.heap z p o i j a b 0->(∀c∈[z,p,o,i,j],Uu X O9 H c)->Q (.ref z) s'):wpAny (model X.prog X.w) X.A (call (.type "zip") [.ref a,.ref b]) Q E s:=by
 obtain⟨ia,ra,pa,_⟩:=I.tuple qa;obtain⟨ib,rb,pb,_⟩:=I.tuple qb;refine callType_new F.called_zip (by decide) (F.typeCall_zip_2 _ _) (F.newCall_zip_2 _ _) (λobj=>F.args_object_init_3 obj _ _) F.entry_zip_new (Qfa a b ia.toArray ib.toArray) ⟨show s.heap.IsTuple a ia.toArray from pa,show s.heap.IsTuple b ib.toArray from pb,?_⟩
 have z1:(zt1 s.heap a).objs.size=s.heap.objs.size+1:=Co ..;have z2:(zt2 s.heap a b).objs.size=s.heap.objs.size+2:=by rw[Co,z1]
 have z3:(zt3 s.heap a b).objs.size=s.heap.objs.size+3:=by rw[Co,z2]
 have z4:(zt4 s.heap a b).objs.size=s.heap.objs.size+4:=by rw[Co,z3]
 have g5:(zt5 s.heap a b).get? (zt4 s.heap a b).objs.size=some _:=Aw _ rfl;have g4:(zt5 s.heap a b).get? (zt3 s.heap a b).objs.size=some _:=Ae _ (Aw _ rfl);have g3:(zt5 s.heap a b).get? (zt2 s.heap a b).objs.size=some _:=Ae _ (Ae _ (Aw _ rfl));have g2:(zt5 s.heap a b).get? (zt1 s.heap a).objs.size=some _:=Ae _ (Ae _ (Ae _ (Aw _ rfl)));have g1:(zt5 s.heap a b).get? s.heap.objs.size=some _:=Ae _ (Ae _ (Ae _ (Ae _ (Aw _ rfl))));show _/\_;have kp:∀c o,s.heap.get? c=some o->(zt5 s.heap a b).get? c=some o:=λc o e=>Ae _ (Ae _ (Ae _ (Ae _ (Ae _ e))));refine⟨⟨_,g5,rfl⟩,?_⟩;rw[z2,z3,z4] at g5;rw[z1,z2] at g3;rw[z3] at g4;rw[z1] at g2;rw[z4];have la:a < s.heap.objs.size:=by obtain⟨o,e,_⟩:=pa;exact Aq e
 have lb:b < s.heap.objs.size:=by obtain⟨o,e,_⟩:=pb;exact Aq e
 have D:ZA (s.heap.objs.size+4) (s.heap.objs.size+2) (s.heap.objs.size+3) s.heap.objs.size (s.heap.objs.size+1) a b:=by constructor<;>first | exact Bh la | exact Bh lb | exact Bh (Az la (Nat.le_add_right _ _)) | exact Bh (Az lb (Nat.le_add_right _ _)) | exact Bh (by lia) | exact C8 (by lia)
 have I1:Inv X O9 σ H { s with heap:=zt5 s.heap a b }:=I.kept (t':=s.toks) kp;have S:ZU (zt5 s.heap a b) (s.heap.objs.size+4) (s.heap.objs.size+2) (s.heap.objs.size+3) s.heap.objs.size (s.heap.objs.size+1) a b 0:=⟨⟨_,_,g5,.inl rfl⟩,g3,⟨_,_,g4⟩,⟨_,g1,rfl,rfl⟩,⟨_,g2,rfl,rfl⟩⟩;refine k { s with heap:=zt5 s.heap a b } _ _ _ _ _ I1 D S λc hc=>?_;have hc':s.heap.objs.size<=c:=by
  simp only[Bm,Cf,or_false] at hc;rcases hc with rfl | rfl | rfl | rfl | rfl<;>first | exact Ag _ | exact Nat.le_add_right _ _
 exact I.fpOk hc' (I.hok.fresh hc')
theorem Qe9(ht:Qbr tg){R:It->Hp->Prop}{E:Ek}{a b:Addr}(I:Inv X O9 σ H s)(qa:SqT X.K H a xs)(qb:SqT X.K H b ys)(q:R (Itz X.K a b) H):
  wpAny (model X.prog X.w) X.A (call (.type "zip") [.ref a,.ref b]) (λv s1=>wpAny (model X.prog X.w) X.A (pyIter v) (PIE X O9 σ tg R) E s1) E s :=
 Qg9 I qa qb λs' z p o i j I1 D S hf=>(KA (K:=X.K) ht D).self _ _ _ _ _ S ⟨_,[z,p,o,i,j],_,Itz X.K a b,H,rfl,I1,KA ht D,S,hf,q⟩
theorem Qet{p pos:Pos}(hg:Gl X "zip")(hm:X.mg "zip" = none)(ha:PA X [x,y] ta)(hs:starEach [x,y] X.env=[(false,eval x X.env),(false,eval y X.env)]:=by rfl)(hs2:starEach [y] X.env=[(false,eval y X.env)]:=by rfl):
    PI X (.Name xn p2) (.Call (.Name "zip" p) [x,y] [] pos) (Qhz X.K ta):=by
  intro O9 s σ H R I h;refine Call_ (Ge I hg hm boot_zip (PyProof.Rows.callWith_type1 (thn (ha pos O9 s σ H _ I h) λus s1 ⟨vs,H1,I1,r1,q1⟩=>?_) (by rw[hs,hs2]) (by rw[hs2];rfl)))
  obtain⟨a,b,xs,ys,e,qa,qb,q⟩:=q1;subst e;cases r1 with
  | cons r rr =>
    cases rr with
    | cons r' rr =>
      cases rr;cases r;cases r';exact Qe9 (.nm ..) I1 qa qb q
end
end L2
namespace D
open PySem PySem.Spec PyProof.Rows L2
section
variable{X:Cx}{xn:Str}{p2:Pos}{f g:DEx}
theorem QdQ{p pos:Pos}(hg:Gl X "zip")(hm:X.mg "zip" = none)(hx:DE X x f)(hy:DE X y g)(hs:starEach [x,y] X.env=[(false,eval x X.env),(false,eval y X.env)]:=by rfl)(hs2:starEach [y] X.env=[(false,eval y X.env)]:=by rfl):
  DI X (.Name xn p2) (.Call (.Name "zip" p) [x,y] [] pos) (Qb4 f g) :=
 L2.PI.imp (Qet hg hm (Gm hx (Gm hy pa_nil (by rw[hs2];rfl)) (by rw[hs,hs2])) hs hs2) λσ H R zz1=>by
  obtain⟨Z,env,ρ,B,hp,ds,hp',S,e,k⟩:=zz1;obtain⟨d1,hp1,e1,e⟩:=Qg e;obtain⟨xs,hp2,e2,e⟩:=Qg e;obtain⟨rfl,rfl⟩:=yw e2;obtain⟨d2,hp3,e3,e⟩:=Qg e;obtain⟨ys,hp4,e4,e⟩:=Qg e;obtain⟨rfl,rfl⟩:=yw e4;obtain⟨rfl,rfl⟩:=Ql e;refine tD.run S e1 λv ρ1 B1 H1 g1 S1 r1=>tD.run S1 e3 λu ρ2 B2 H2 g2 S2 r2=>?_;obtain⟨a,vs,rfl,na,qa,la⟩:=(RepV.grow S1.wo.rb g2 _ _ r1).tupI;obtain⟨b,us,rfl,nb,qb,lb⟩:=r2.tupI;exact⟨a,b,vs,us,rfl,qa,qb,k _ ρ2 B2 H2 (g1.trans g2) S2.wo (QfW na qa la nb qb lb)⟩
end
end D
namespace TR
structure Pg where
 lv:Nat
 ks:List Int
 ps:List Int
 hi:Option Int
 sd:Option Nat
structure Sh where
 O2:Nat
 pg:List Pg
 top:Nat
 rd:Int
 wr:Int
inductive Deed where
 | find (k:Int) | put (k w:Int) | cut (k:Int) | stretch (l h:Int)
def Deed.key:Deed->Int
 | .find k=>k
 | .put k _=>k
 | .cut k=>k
 | .stretch l _=>l
structure Wk where
 O0:Deed
 aim:Int
 O4:Nat
 O6:Option Nat
 O3:List (Nat×Nat)
 Oz:Option Nat
 O1:Option Int
 O5:List (Int×Int)
 O7:Bool
inductive Row where
 | non
 | side (n t:Nat)
 | down (n t:Nat)
 | found (n:Nat) (w:Option Int)
 | put (n:Nat) (w:Option Int) (k:Option Nat)
 | cut (n:Nat) (w:Option Int)
 | read (n:Nat) (ps:List (Int×Int)) (t:Option (Nat×Int))
 | told (n:Nat) (k:Option Nat)
 | raised (n t:Nat)
def cLe(ks:List Int)(k:Int):Nat:=(ks.filter λx=>decide (x<=k)).length
def cLt(ks:List Int)(k:Int):Nat:=(ks.filter λx=>decide (x < k)).length
def JU(fs:List (Nat×Nat))(k:Nat):Option Nat:=(fs.find? λp=>decide (p.1=k)).map (·.2)
def zC(fs:List (Nat×Nat))(k v:Nat):List (Nat×Nat):=if (fs.any λp=>decide (p.1=k))=true then fs.map (λp=>if p.1=k then (p.1,v) else p) else fs++[(k,v)]
def JP(p:Pg)(k:Int):Bool:=match p.hi with
 | none=>false
 | some h=>decide (h<=k)
def QY(p:Pg)(k:Int):Option Int:=if cLt p.ks k=cLe p.ks k then none else p.ps[cLt p.ks k]?
def QZ(p:Pg)(k w:Int):Pg:={ p with ks:=p.ks.take (cLt p.ks k)++k::p.ks.drop (cLe p.ks k),ps:=p.ps.take (cLt p.ks k)++w::p.ps.drop (cLe p.ks k) }
def without(p:Pg)(k:Int):Pg:={ p with ks:=p.ks.take (cLt p.ks k)++p.ks.drop (cLe p.ks k),ps:=p.ps.take (cLt p.ks k)++p.ps.drop (cLe p.ks k) }
def Zw(p:Pg)(k:Int)(c:Nat):Pg:={ p with ks:=p.ks.take (cLe p.ks k)++k::p.ks.drop (cLe p.ks k),ps:=p.ps.take (cLe p.ks k+1)++(c:Int)::p.ps.drop (cLe p.ks k+1) }
def mid(p:Pg):Nat:=p.ks.length / 2
def Zk(p:Pg):Nat:=if p.lv=0 then mid p else mid p+1
def Xa(p:Pg):Int:=p.ks.getD (mid p) 0
def Q5(p:Pg)(n:Nat):Pg:=⟨p.lv,p.ks.take (mid p),p.ps.take (Zk p),some (Xa p),some n⟩
def QU(p:Pg):Pg:=⟨p.lv,p.ks.drop (Zk p),p.ps.drop (Zk p),p.hi,p.sd⟩
def QG(S:Sh)(w:Wk)(n:Nat)(p:Pg):Option Nat×Sh×Wk :=
 if p.ks.length<=S.O2 then (none,{ S with pg:=S.pg.set n p,wr:=S.wr+1 },{ w with O7:=true })
 else (some S.pg.length,{ S with pg:=(S.pg++[QU p]).set n (Q5 p S.pg.length),wr:=S.wr+1+1 },{ w with Oz:=some S.pg.length,aim:=Xa p,O4:=p.lv+1,O6:=JU w.O3 (p.lv+1) })
def QX(p:Pg)(l h:Int):List (Int×Int):=(p.ks.zip p.ps).filter λq=>decide (l<=q.1)&&decide (q.1 < h)
def Jc(S:Sh)(w:Wk)(n:Nat)(p:Pg):Row×Sh×Wk:=match w.O0 with
  | .find _=>(.found n (QY p w.aim),S,{ w with O1:=QY p w.aim,O7:=true })
  | .put _ x=>match QG S { w with O1:=QY p w.aim } n (QZ p w.aim x) with
    | (r,S2,w2)=>(.put n (QY p w.aim) r,S2,w2)
  | .cut _=>(.cut n (QY p w.aim),if (QY p w.aim).isSome=true then { S with pg:=S.pg.set n (without p w.aim),wr:=S.wr+1 } else S,{ w with O1:=QY p w.aim,O7:=true })
  | .stretch l h=>match p.hi,p.sd with
    | some x,some s=>if h<=x then (.read n (QX p l h) none,S,{ w with O5:=w.O5++QX p l h,O7:=true })
        else (.read n (QX p l h) (some (s,x)),S,{ w with O5:=w.O5++QX p l h,aim:=x,O6:=some s })
    | _,_=>(.read n (QX p l h) none,S,{ w with O5:=w.O5++QX p l h,O7:=true })
def JZ(S:Sh)(w:Wk):Option (Row×Sh×Wk) :=
  if w.O7=true then some (.non,S,w) else
  match S.pg[w.O6.getD S.top]? with
  | none=>none
  | some p =>
    if w.O6=none/\p.lv < w.O4 then
      match w.Oz with
      | none=>none
      | some k=>some (.raised S.top S.pg.length,{ S with rd:=S.rd+1,pg:=S.pg++[⟨p.lv+1,[w.aim],[(S.top:Int),(k:Int)],none,none⟩],top:=S.pg.length,wr:=S.wr+1 },{ w with O7:=true })
    else if JP p w.aim=true then
      match p.sd with
      | none=>none
      | some s=>some (.side (w.O6.getD S.top) s,{ S with rd:=S.rd+1 },{ w with O6:=some s })
    else if w.O4 < p.lv then
      match p.ps[cLe p.ks w.aim]? with
      | none=>none
      | some c=>some (.down (w.O6.getD S.top) c.toNat,{ S with rd:=S.rd+1 },{ w with O3:=zC w.O3 p.lv (w.O6.getD S.top),O6:=some c.toNat })
    else if 0 < w.O4 then
      match w.Oz with
      | none=>none
      | some k=>match QG { S with rd:=S.rd+1 } w (w.O6.getD S.top) (Zw p w.aim k) with
        | (r,S2,w2)=>some (.told (w.O6.getD S.top) r,S2,w2)
    else some (Jc { S with rd:=S.rd+1 } w (w.O6.getD S.top) p)
theorem zJ{ks:List Int}(h:ks.Pairwise (· < ·))(k:Int):ks.take (cLe ks k)=ks.filter (λx=>decide (x<=k))/\ks.drop (cLe ks k)=ks.filter (λx=>decide (k < x)):=by
  unfold cLe;induction ks with
  | nil=>simp
  | cons x xs ih =>
    obtain⟨h1,h2⟩:=Cp.mp h;by_cases q:x<=k
    . obtain⟨i1,i2⟩:=ih h2
      have q':¬ k < x:=by lia
      simp[Au,q,q',i1,i2]
    . have e:xs.filter (λy=>decide (y<=k))=[]:=by
        rw[C4];intro y hy;have:=h1 y hy;simp;lia
      have e2:xs.filter (λy=>decide (k < y))=xs:=by
        rw[List.filter_eq_self];intro y hy;have:=h1 y hy;simp;lia
      have q':k < x:=by lia
      simp[Au,q,q',e,e2]
theorem xK{ks:List Int}(h:ks.Pairwise (· < ·))(k:Int):ks.take (cLt ks k)=ks.filter (λx=>decide (x < k))/\ks.drop (cLt ks k)=ks.filter (λx=>decide (k<=x)):=by
  unfold cLt;induction ks with
  | nil=>simp
  | cons x xs ih =>
    obtain⟨h1,h2⟩:=Cp.mp h;by_cases q:x < k
    . obtain⟨i1,i2⟩:=ih h2
      have q':¬ k<=x:=by lia
      simp[Au,q,q',i1,i2]
    . have e:xs.filter (λy=>decide (y < k))=[]:=by
        rw[C4];intro y hy;have:=h1 y hy;simp;lia
      have e2:xs.filter (λy=>decide (k<=y))=xs:=by
        rw[List.filter_eq_self];intro y hy;have:=h1 y hy;simp;lia
      have q':k<=x:=by lia
      simp[Au,q,q',e,e2]
def XB(ks:List Int)(k:Int):cLe ks k<=ks.length:=Cb _ _
def xU(ks:List Int)(k:Int):cLt ks k<=ks.length:=Cb _ _
theorem KK(ks:List Int)(k:Int):cLt ks k<=cLe ks k:=by
  unfold cLt cLe;induction ks with
  | nil=>simp
  | cons x xs ih =>
    by_cases q:x < k
    . have:x<=k:=by lia
      simp[Au,q,this,ih]
    . by_cases q2:x<=k
      . simp[Au,q,q2];lia
      . simp[Au,q,q2,ih]
theorem Qhg{ks:List Int}(h:ks.Pairwise (· < ·))(k:Int):cLe ks k<=cLt ks k+1:=by
  unfold cLt cLe;induction ks with
  | nil=>simp
  | cons x xs ih =>
    obtain⟨h1,h2⟩:=Cp.mp h;by_cases q:x < k
    . have:x<=k:=by lia
      have:=ih h2;simp[Au,q, *]
    . have e:xs.filter (λy=>decide (y<=k))=[]:=by
        rw[C4];intro y hy;have:=h1 y hy;simp;lia
      by_cases q2:x<=k<;>simp[Au,q,q2,e]
theorem VH{ks:List Int}(h:ks.Pairwise (· < ·))(k:Int):(ks.take (cLt ks k)++k::ks.drop (cLe ks k)).Pairwise (· < ·):=by
 rw[(xK h k).1,(zJ h k).2];rw[Bw];refine⟨h.filter _,Cp.mpr ⟨λy hy=>?_,h.filter _⟩,λx hx y hy=>?_⟩
 ·simpa using(Bo.mp hy).2
 ·have h1:x < k:=by simpa using(Bo.mp hx).2
  rcases Bm.mp hy with rfl | hy
  ·exact h1
  ·have h2:k < y:=by simpa using(Bo.mp hy).2
   lia
theorem xf{ks:List Int}(h:ks.Pairwise (· < ·)){k x:Int}(hx:x∈ks.take (cLt ks k)++k::ks.drop (cLe ks k)):x=k∨x∈ks:=by
 rcases Aj.mp hx with hx | hx
 ·exact .inr (Bx hx)
 ·rcases Bm.mp hx with rfl | hx
  ·exact .inl rfl
  ·exact .inr (Cd hx)
theorem uF{ks:List Int}(h:ks.Pairwise (· < ·))(k:Int):(ks.take (cLt ks k)++ks.drop (cLe ks k)).Pairwise (· < ·):=by
 rw[(xK h k).1,(zJ h k).2];rw[Bw];refine⟨h.filter _,h.filter _,λx hx y hy=>?_⟩;have h1:x < k:=by simpa using(Bo.mp hx).2
 have h2:k < y:=by simpa using(Bo.mp hy).2
 lia
theorem ki{ks:List Int}{k x:Int}(hx:x∈ks.take (cLt ks k)++ks.drop (cLe ks k)):x∈ks:=by
 rcases Aj.mp hx with hx | hx
 ·exact Bx hx
 ·exact Cd hx
theorem QfI{ks:List Int}(h:k∉ks):cLt ks k=cLe ks k:=by
 unfold cLt cLe;congr 1;apply List.filter_congr;intro x hx;have:x≠k:=λe=>h (e▸hx);by_cases q:x < k
 ·have:x<=k:=by lia
  simp[q,this]
 ·have:¬ x<=k:=by lia
  simp[q,this]
theorem zi(fs:List (Nat×Nat))(k v j:Nat):JU (zC fs k v) j=if j=k then some v else JU fs j:=by
  unfold zC JU;by_cases h:(fs.any λp=>decide (p.1=k))=true
  . rw[Ec h]
    induction fs with
    | nil=>simp at h
    | cons p fs ih =>
      simp only[Bc,B8];by_cases q:p.1=k
      . by_cases e:j=k
        . subst e;simp[q]
        . have:¬ k=j:=λz=>e z.symm
          simp only[q,if_true,this,decide_false];by_cases h2:(fs.any λp=>decide (p.1=k))=true
          . have:=ih h2;simpa [e] using this
          . have hid:fs.map (λp=>if p.1=k then (p.1,v) else p)=fs:=by
              conv=>rhs;rw[<- List.map_id fs]
              apply List.map_congr_left;intro x hx;have:¬ x.1=k:=λz=>h2 (by rw[List.any_eq_true];exact⟨x,hx,by simpa using z⟩)
              simp[this]
            rw[hid,Eb e]
      . have h2:(fs.any λp=>decide (p.1=k))=true:=by simpa [Cv,q] using h
        have:=ih h2;simp only[q,if_false];by_cases e:p.1=j
        . have:¬ j=k:=λz=>q (e.trans z)
          simp[e,this]
        . simpa [e] using this
  . rw[Eb h,List.find?_append]
    have hn:∀p∈fs,¬ p.1=k:=λp hp z=>h (by rw[List.any_eq_true];exact⟨p,hp,by simpa using z⟩)
    by_cases e:j=k
    . subst e
      have:fs.find? (λp=>decide (p.1=j))=none:=by
        rw[List.find?_eq_none];intro p hp;simpa using hn p hp
      simp[this]
    . have:¬ k=j:=λz=>e z.symm
      simp[this,e]
abbrev Bg:=Nat->Option Int
def leB(b:Option Int)(x:Int):Prop:=∀v,b=some v->v<=x
def ltB(b:Option Int)(x:Int):Prop:=∀v,b=some v->v < x
def ltH(x:Int)(h:Option Int):Prop:=∀v,h=some v->x < v
def leBB(b c:Option Int):Prop:=∀v,b=some v->∃u,c=some u/\v<=u
def leBB.refl(b:Option Int):leBB b b:=λv h=>⟨v,h,Bp _⟩
theorem leBB.trans{a b c:Option Int}(h:leBB a b)(g:leBB b c):leBB a c:=λv e=>by
 obtain⟨u,e1,l1⟩:=h v e;obtain⟨x,e2,l2⟩:=g u e1;exact⟨x,e2,by lia⟩
def Zj(b:Option Int)(ks:List Int):Nat->Option Int
 | 0=>b
 | j+1=>ks[j]?
structure Jy(O2:Nat)(b:Option Int)(p:Pg):Prop where
 sorted:p.ks.Pairwise (· < ·)
 few:p.ks.length<=O2
 parts:p.ps.length=p.ks.length+(if p.lv=0 then 0 else 1)
 low:∀k∈p.ks,leB b k
 lowF:0 < p.lv->∀k∈p.ks,ltB b k
 high:∀k∈p.ks,ltH k p.hi
 wide:∀h,p.hi=some h->ltB b h
structure Tree(S:Sh)(bg:Bg):Prop where
 room2:2<=S.O2
 root:∃r:Pg,S.pg[S.top]?=some r/\∀(n:Nat)(p:Pg),S.pg[n]?=some p->p.lv<=r.lv
 rbg:bg S.top=none
 page:∀(n:Nat)(p:Pg),S.pg[n]?=some p->Jy S.O2 (bg n) p
 link:∀(n:Nat)(p:Pg),S.pg[n]?=some p->(p.hi=none/\p.sd=none)∨∃(h:Int)(s:Nat)(q:Pg),p.hi=some h/\p.sd=some s/\S.pg[s]?=some q/\q.lv=p.lv/\bg s=some h
 kid:∀(n:Nat)(p:Pg),S.pg[n]?=some p->0 < p.lv->∀j k,p.ps[j]?=some k->∃(c:Nat)(q:Pg),k=(c:Int)/\S.pg[c]?=some q/\q.lv+1=p.lv/\bg c=Zj (bg n) p.ks j
 dis:∀(n m:Nat)(p q:Pg),S.pg[n]?=some p->S.pg[m]?=some q->p.lv=q.lv->n≠m->(∃h v,p.hi=some h/\bg m=some v/\h<=v)∨(∃h v,q.hi=some h/\bg n=some v/\h<=v)
 pred:∀(n:Nat)(p:Pg),S.pg[n]?=some p->∀v,bg n=some v->∃(m:Nat)(q:Pg),S.pg[m]?=some q/\q.lv=p.lv/\q.hi=some v
theorem Tree.uniq{S:Sh}{bg:Bg}(T:Tree S bg){n m:Nat}{p q:Pg}(hn:S.pg[n]?=some p)(hm:S.pg[m]?=some q)(hl:p.lv=q.lv)(hb:bg n=bg m):n=m:=by
 rcases Nat.decEq n m with h | h
 ·exfalso
  rcases T.dis n m p q hn hm hl h with ⟨x,v,h1,h2,h3⟩ | ⟨x,v,h1,h2,h3⟩
  ·have:=(T.page n p hn).wide x h1 v (hb.trans h2);lia
  ·have:=(T.page m q hm).wide x h1 v (hb.symm.trans h2);lia
 ·exact h
structure Y5(S:Sh)(bg:Bg)(S':Sh)(bg':Bg):Prop where
 old:∀(n:Nat)(p:Pg),S.pg[n]?=some p->bg' n=bg n/\∃p':Pg,S'.pg[n]?=some p'/\p'.lv=p.lv
def Untold(S:Sh)(k:Nat):Prop:=∀(n:Nat)(p:Pg),S.pg[n]?=some p->0 < p.lv->(k:Int)∉p.ps
structure WOk(S:Sh)(bg:Bg)(w:Wk):Prop where
 at_:∀n:Nat,w.O6=some n->∃p:Pg,S.pg[n]?=some p/\w.O4<=p.lv/\leB (bg n) w.aim
 none_:w.O6=none->∀l f,JU w.O3 l=some f->l < w.O4
 kept:∀l f,JU w.O3 l=some f->∃p:Pg,S.pg[f]?=some p/\p.lv=l
 above:∀(n:Nat)(p:Pg),w.O6=some n->S.pg[n]?=some p->∀l f,JU w.O3 l=some f->p.lv < l->leBB (bg f) (bg n)
 chain:∀l f l' f',JU w.O3 l=some f->JU w.O3 l'=some f'->w.O4<=l->l < l'->leBB (bg f') (bg f)
 gap:∀(n:Nat)(p:Pg),w.O6=some n->S.pg[n]?=some p->w.O4 < p.lv->∀l f,JU w.O3 l=some f->l < w.O4∨p.lv < l
 full:∀(n:Nat)(p:Pg),w.O6=some n->S.pg[n]?=some p->∀l' f',JU w.O3 l'=some f'->∀l,p.lv < l->l<=l'->∃f,JU w.O3 l=some f
 tell:0 < w.O4->∃(k:Nat)(q:Pg),w.Oz=some k/\S.pg[k]?=some q/\q.lv+1=w.O4/\bg k=some w.aim
theorem WOk.grow{w:Wk}(W:WOk S bg w)(g:Y5 S bg S' bg'):WOk S' bg' w where
 at_:=λn h=>by
  obtain⟨p,h1,h2,h3⟩:=W.at_ n h;obtain⟨e,p',h4,h5⟩:=g.old n p h1;exact⟨p',h4,by lia,by rw[e];exact h3⟩
 none_:=W.none_
 kept:=λl f h=>by
  obtain⟨p,h1,h2⟩:=W.kept l f h;obtain⟨e,p',h4,h5⟩:=g.old f p h1;exact⟨p',h4,by lia⟩
 above:=λn p' hp hn l f hf hl=>by
  obtain⟨p,h1,_⟩:=W.at_ n hp;obtain⟨e,p2,h4,h5⟩:=g.old n p h1;rw[h4] at hn;cases hn;obtain⟨pf,h6,_⟩:=W.kept l f hf;rw[e,(g.old f pf h6).1];exact W.above n p hp h1 l f hf (by lia)
 chain:=λl f l' f' h h' a b=>by
  obtain⟨p,h1,_⟩:=W.kept l f h;obtain⟨p',h1',_⟩:=W.kept l' f' h';rw[(g.old f p h1).1,(g.old f' p' h1').1];exact W.chain l f l' f' h h' a b
 gap:=λn p' hp hn a l f hf=>by
  obtain⟨p,h1,_⟩:=W.at_ n hp;obtain⟨e,p2,h4,h5⟩:=g.old n p h1;rw[h4] at hn;cases hn;rw[h5];exact W.gap n p hp h1 (by lia) l f hf
 full:=λn p' hp hn l' f' hf l a b=>by
  obtain⟨p,h1,_⟩:=W.at_ n hp;obtain⟨e,p2,h4,h5⟩:=g.old n p h1;rw[h4] at hn;cases hn;exact W.full n p hp h1 l' f' hf l (by lia) b
 tell:=λh=>by
  obtain⟨k,q,h1,h2,h3,h4⟩:=W.tell h;obtain⟨e,p',h5,h6⟩:=g.old k q h2;exact⟨k,p',h1,h5,by lia,by rw[e];exact h4⟩
theorem WOk.fresh{w:Wk}(h1:w.O6=none)(h2:w.O3=[])(h3:w.O4=0):WOk S bg w where
 at_:=λn h=>by rw[h1] at h;cases h
 none_:=λ_ l f h=>by rw[h2] at h;cases h
 kept:=λl f h=>by rw[h2] at h;cases h
 above:=λn p h=>by rw[h1] at h;cases h
 chain:=λl f l' f' h=>by rw[h2] at h;cases h
 gap:=λn p h=>by rw[h1] at h;cases h
 full:=λn p h=>by rw[h1] at h;cases h
 tell:=λh=>by lia
theorem Q2{α:Type}{xs:List α}{n m:Nat}{x y:α}(h:(xs.set n x)[m]?=some y):(m=n/\y=x/\n < xs.length)∨(m≠n/\xs[m]?=some y):=by
 by_cases e:m=n
 ·subst e
  by_cases hl:m < xs.length
  ·rw[Av hl] at h;cases h;exact .inl ⟨rfl,rfl,hl⟩
  ·rw[Cz (by simpa using hl)] at h;cases h
 ·rw[An (Ne.symm e)] at h;exact .inr ⟨e,h⟩
theorem Qag{α:Type}{xs:List α}{n m:Nat}{x y:α}(h:xs[m]?=some y):(xs.set n x)[m]?=some (if m=n then x else y):=by
 have hl:=(Ad.mp h).1;by_cases e:m=n
 ·subst e;rw[Av hl,Ec rfl]
 ·rw[An (Ne.symm e),h,Eb e]
theorem Tree.write{S:Sh}{bg:Bg}(T:Tree S bg){n:Nat}{p p':Pg}{x y:Int}(hn:S.pg[n]?=some p)(hl:p'.lv=p.lv)(hh:p'.hi=p.hi)(hs:p'.sd=p.sd)(ok:Jy S.O2 (bg n) p')
  (hk:0 < p.lv->∀j k,p'.ps[j]?=some k->∃(c:Nat)(q:Pg),k=(c:Int)/\S.pg[c]?=some q/\q.lv+1=p.lv/\bg c=Zj (bg n) p'.ks j) :
  Tree { S with pg:=S.pg.set n p',rd:=x,wr:=y } bg/\Y5 S bg { S with pg:=S.pg.set n p',rd:=x,wr:=y } bg:=by
 have old:∀(m:Nat)(q:Pg),S.pg[m]?=some q->∃q':Pg,(S.pg.set n p')[m]?=some q'/\q'.lv=q.lv/\q'.hi=q.hi/\q'.sd=q.sd:=λm q h=>by
  refine⟨_,Qag h,?_⟩;by_cases e:m=n
  ·subst e;rw[hn] at h;cases h;simp[hl,hh,hs]
  ·simp[e]
 have new:∀(m:Nat)(q':Pg),(S.pg.set n p')[m]?=some q'->∃q:Pg,S.pg[m]?=some q/\q'.lv=q.lv/\q'.hi=q.hi/\q'.sd=q.sd:=λm q' h=>by
  rcases Q2 h with ⟨rfl,rfl,_⟩ | ⟨_,h⟩
  ·exact⟨p,hn,hl,hh,hs⟩
  ·exact⟨q',h,rfl,rfl,rfl⟩
 refine⟨⟨T.room2,?_,T.rbg,λm q h=>?_,λm q h=>?_,λm q h h0 j k hj=>?_,λa b q r ha hb hab e=>?_,λm q h v hv=>?_⟩,⟨λm q h=>⟨rfl,by obtain⟨q',h1,h2,_⟩:=old m q h;exact⟨q',h1,h2⟩⟩⟩⟩
 ·obtain⟨r,h1,h2⟩:=T.root
  obtain⟨r',h3,h4,_⟩:=old _ _ h1;exact⟨r',h3,λm q h=>by obtain⟨q0,h5,h6,_⟩:=new m q h;rw[h6,h4];exact h2 m q0 h5⟩
 ·rcases Q2 h with ⟨rfl,rfl,_⟩ | ⟨_,h⟩
  ·exact ok
  ·exact T.page m q h
 ·obtain⟨q0,h1,h2,h3,h4⟩:=new m q h
  rcases T.link m q0 h1 with ⟨a,b⟩ | ⟨x,s,r,a,b,c,d,e⟩
  ·exact .inl ⟨h3.trans a,h4.trans b⟩
  ·obtain⟨r',c1,c2,_⟩:=old s r c
   exact .inr ⟨x,s,r',h3.trans a,h4.trans b,c1,by rw[c2,d,h2],e⟩
 ·rcases Q2 h with ⟨rfl,rfl,_⟩ | ⟨_,h⟩
  ·obtain⟨c,r,h1,h2,h3,h4⟩:=hk (by lia) j k hj
   obtain⟨r',c1,c2,_⟩:=old c r h2;exact⟨c,r',h1,c1,by lia,h4⟩
  ·obtain⟨c,r,h1,h2,h3,h4⟩:=T.kid m q h h0 j k hj
   obtain⟨r',c1,c2,_⟩:=old c r h2;exact⟨c,r',h1,c1,by lia,h4⟩
 ·obtain⟨q0,h1,h2,h3,_⟩:=new a q ha
  obtain⟨r0,h5,h6,h7,_⟩:=new b r hb;rw[h3,h7];exact T.dis a b q0 r0 h1 h5 (by lia) e
 ·obtain⟨q0,h1,h2,_⟩:=new m q h
  obtain⟨a,r,h3,h4,h5⟩:=T.pred m q0 h1 v hv;obtain⟨r',c1,c2,c3,_⟩:=old a r h3;exact⟨a,r',c1,by lia,c3.trans h5⟩
theorem JV{α:Type}{xs:List α}{x:α}{m:Nat}{y:α}(h:(xs++[x])[m]?=some y):(m=xs.length/\y=x)∨xs[m]?=some y:=by
 rcases Bi m xs.length with q | q
 ·rw[Ai q] at h;exact .inr h
 ·rw[Ar q] at h
  by_cases e:m - xs.length=0
  ·rw[e] at h;simp at h;exact .inl ⟨by lia,h.symm⟩
  ·rw[Cz (by simp;lia)] at h;cases h
theorem X4{α:Type}{xs:List α}{x:α}{m:Nat}{y:α}(h:xs[m]?=some y):(xs++[x])[m]?=some y:=by
 rw[Ai (Ad.mp h).1];exact h
def Qx{α:Type}{xs:List α}{m:Nat}{y:α}(h:xs[m]?=some y):m < xs.length:=(Ad.mp h).1
def XZ(bg:Bg)(l:Nat)(k:Option Int):Bg:=λi=>if i=l then k else bg i
theorem UY{bg:Bg}{l:Nat}{k:Option Int}{i:Nat}(h:i < l):XZ bg l k i=bg i:=by unfold XZ;rw[Eb (by lia)]
theorem Z5{l:Nat}{k:Option Int}:XZ bg l k l=k:=by unfold XZ;rw[Ec rfl]
section
variable{S:Sh}{bg:Bg}{n:Nat}{p P:Pg}
theorem qB(h3:1<=P.ks.length):P.ks[mid P]?=some (Xa P):=by
 have:mid P < P.ks.length:=by unfold mid;lia
 unfold Xa;rw[Cq,Ac this];rfl
theorem Yu{ks:List Int}(h:ks.Pairwise (· < ·)){i j:Nat}{x y:Int}(hi:ks[i]?=some x)(hj:ks[j]?=some y)(hij:i < j):x < y:=by
 obtain⟨a,rfl⟩:=Ad.mp hi;obtain⟨b,rfl⟩:=Ad.mp hj;exact Cr.mp h i j a b hij
theorem K7(ok:Jy P.ks.length (bg n) P)(h3:3<=P.ks.length):ltB (bg n) (Xa P):=by
 intro v hv;have h0:P.ks[0]?=some (P.ks[0]'(by lia)):=Ac _
 have a:=ok.low _ (B9 (by lia:0 < P.ks.length)) v hv
 have b:=Yu ok.sorted h0 (qB (P:=P) (by lia)) (by unfold mid;lia)
 lia
theorem Qge(ok:Jy P.ks.length (bg n) P)(h3:3<=P.ks.length)(hr:P.ks.length<=S.O2+1)(l:Nat):Jy S.O2 (bg n) (Q5 P l) where
 sorted:=ok.sorted.sublist (List.take_sublist _ _)
 few:=by show(P.ks.take (mid P)).length<=_;rw[Ba];unfold mid;lia
 parts:=by
  show(P.ps.take (Zk P)).length=(P.ks.take (mid P)).length+(if P.lv=0 then 0 else 1)
  have:=ok.parts;rw[Ba,Ba];unfold Zk mid;split at this<;>split<;>simp_all<;>lia
 low:=λk hk=>ok.low k (Bx hk)
 lowF:=λh k hk=>ok.lowF h k (Bx hk)
 high:=λk hk v hv=>by
  cases hv;obtain⟨i,hi,e⟩:=Cu.mp hk;simp only[Q5,C0] at e;have hi':i < mid P:=by have:=hi;rw[show(Q5 P l).ks=P.ks.take (mid P) from rfl,Ba] at this;lia
  exact Yu ok.sorted (i:=i) (by rw[<- e];exact Ac _) (qB (P:=P) (by lia)) hi'
 wide:=λh hh=>by cases hh;exact K7 ok h3
theorem Qgc(ok:Jy P.ks.length (bg n) P)(h3:3<=P.ks.length)(hr:P.ks.length<=S.O2+1):Jy S.O2 (some (Xa P)) (QU P) where
 sorted:=ok.sorted.sublist (List.drop_sublist _ _)
 few:=by show(P.ks.drop (Zk P)).length<=_;rw[Br];unfold Zk mid;split<;>lia
 parts:=by
  show(P.ps.drop (Zk P)).length=(P.ks.drop (Zk P)).length+(if P.lv=0 then 0 else 1)
  have:=ok.parts;rw[Br,Br];unfold Zk mid;split at this<;>split<;>simp_all<;>lia
 low:=λk hk v hv=>by
  cases hv;obtain⟨i,hi,e⟩:=Cu.mp hk;rw[show(QU P).ks=P.ks.drop (Zk P) from rfl] at hi;have hi2:Zk P+i < P.ks.length:=by rw[Br] at hi;lia
  have e':P.ks[Zk P+i]?=some k:=by rw[<- e];rw[Ac hi2];simp[QU]
  rcases Bi (mid P) (Zk P+i) with q | q
  ·exact Ck (Yu ok.sorted (qB (P:=P) (by lia)) e' q)
  ·have:mid P=Zk P+i:=by unfold Zk at q ⊢;split<;>simp_all<;>lia
   rw[<- this,qB (P:=P) (by lia)] at e';cases e';lia
 lowF:=λh k hk v hv=>by
  cases hv;obtain⟨i,hi,e⟩:=Cu.mp hk;rw[show(QU P).ks=P.ks.drop (Zk P) from rfl] at hi;have hi2:Zk P+i < P.ks.length:=by rw[Br] at hi;lia
  have e':P.ks[Zk P+i]?=some k:=by rw[<- e];rw[Ac hi2];simp[QU]
  have h':0 < P.lv:=h;exact Yu ok.sorted (qB (P:=P) (by lia)) e' (by unfold Zk;rw[Eb (by lia)];lia)
 high:=λk hk=>ok.high k (Cd hk)
 wide:=λh hh v hv=>by
  cases hv;exact ok.high _ (Ax (qB (P:=P) (by lia))) h hh
theorem Tree.split(T:Tree S bg){x y:Int}(hn:S.pg[n]?=some p)(hl:P.lv=p.lv)(hh:P.hi=p.hi)(hs:P.sd=p.sd)(ok:Jy P.ks.length (bg n) P)(h1:S.O2 < P.ks.length)(h2:P.ks.length<=S.O2+1)
  (hk:0 < p.lv->∀j k,P.ps[j]?=some k->∃(c:Nat)(q:Pg),k=(c:Int)/\S.pg[c]?=some q/\q.lv+1=p.lv/\bg c=Zj (bg n) P.ks j) :
  Tree { S with pg:=(S.pg++[QU P]).set n (Q5 P S.pg.length),rd:=x,wr:=y } (XZ bg S.pg.length (some (Xa P)))/\Y5 S bg { S with pg:=(S.pg++[QU P]).set n (Q5 P S.pg.length),rd:=x,wr:=y } (XZ bg S.pg.length (some (Xa P))):=by
 have r2:=T.room2;have h3:3<=P.ks.length:=by lia
 have hnl:=Qx hn;have kg:=qB (P:=P) (by lia)
 have kl:=K7 ok h3;have kh:∀h,p.hi=some h->Xa P < h:=λh e=>ok.high _ (Ax kg) h (hh.trans e);have bo:∀m q,S.pg[m]?=some q->XZ bg S.pg.length (some (Xa P)) m=bg m:=λm q h=>UY (Qx h);have old:∀(m:Nat)(q:Pg),S.pg[m]?=some q->∃q':Pg,((S.pg++[QU P]).set n (Q5 P S.pg.length))[m]?=some q'/\q'.lv=q.lv/\(m≠n->q'=q)/\(m=n->q'=Q5 P S.pg.length):=λm q h=>by
  refine⟨_,Qag (X4 h),?_,λe=>by rw[Eb e],λe=>by rw[Ec e]⟩
  by_cases e:m=n
  ·subst e;rw[hn] at h;cases h;rw[Ec rfl];exact hl
  ·rw[Eb e]
 have gl:((S.pg++[QU P]).set n (Q5 P S.pg.length))[S.pg.length]?=some (QU P):=by
  rw[An (by lia),Ar (Ag _)];simp
 have gn:((S.pg++[QU P]).set n (Q5 P S.pg.length))[n]?=some (Q5 P S.pg.length):=by
  rw[Av (by simp;lia)]
 have new:∀(m:Nat)(q:Pg),((S.pg++[QU P]).set n (Q5 P S.pg.length))[m]?=some q->(m=n/\q=Q5 P S.pg.length)∨(m=S.pg.length/\q=QU P)∨(m≠n/\S.pg[m]?=some q):=λm q h=>by
  rcases Q2 h with ⟨a,b,_⟩ | ⟨a,b⟩
  ·exact .inl ⟨a,b⟩
  ·rcases JV b with c | c
   ·exact .inr (.inl c)
   ·exact .inr (.inr ⟨a,c⟩)
 have olv:(Q5 P S.pg.length).lv=p.lv:=hl;have nlv:(QU P).lv=p.lv:=hl;refine⟨⟨r2,?_,?_,λm q h=>?_,λm q h=>?_,λm q h h0 j k hj=>?_,λa b q r ha hb hab e=>?_,λm q h v hv=>?_⟩,⟨λm q h=>⟨bo m q h,by obtain⟨q',a,b,_⟩:=old m q h;exact⟨q',a,b⟩⟩⟩⟩
 ·obtain⟨r,a,b⟩:=T.root
  obtain⟨r',c,d,_⟩:=old _ _ a;refine⟨r',c,λm q h=>?_⟩;rcases new m q h with ⟨_,rfl⟩ | ⟨_,rfl⟩ | ⟨_,h⟩
  ·rw[olv,d];exact b n p hn
  ·rw[nlv,d];exact b n p hn
  ·rw[d];exact b m q h
 ·obtain⟨r,a,_⟩:=T.root
  rw[show XZ bg S.pg.length (some (Xa P)) S.top=bg S.top from bo _ _ a];exact T.rbg
 ·rcases new m q h with ⟨rfl,rfl⟩ | ⟨rfl,rfl⟩ | ⟨_,h⟩
  ·rw[bo _ _ hn];exact Qge ok h3 h2 _
  ·rw[Z5];exact Qgc ok h3 h2
  ·rw[bo _ _ h];exact T.page m q h
 ·rcases new m q h with ⟨rfl,rfl⟩ | ⟨rfl,rfl⟩ | ⟨_,h⟩
  ·exact .inr ⟨Xa P,S.pg.length,QU P,rfl,rfl,gl,rfl,Z5⟩
  ·rcases T.link n p hn with ⟨a,b⟩ | ⟨z,s,r,a,b,c,d,e⟩
   ·exact .inl ⟨hh.trans a,hs.trans b⟩
   ·obtain⟨r',c1,c2,_⟩:=old s r c
    exact .inr ⟨z,s,r',hh.trans a,hs.trans b,c1,by rw[c2,d,nlv],by rw[bo _ _ c];exact e⟩
  ·rcases T.link m q h with ⟨a,b⟩ | ⟨z,s,r,a,b,c,d,e⟩
   ·exact .inl ⟨a,b⟩
   ·obtain⟨r',c1,c2,_⟩:=old s r c
    exact .inr ⟨z,s,r',a,b,c1,by rw[c2,d],by rw[bo _ _ c];exact e⟩
 ·have lift:∀{b0:Option Int}{ks0:List Int}{j0:Nat}{b1:Option Int}{ks1:List Int}{l1:Nat},Zj b0 ks0 j0=Zj b1 ks1 j->l1=p.lv->(∃(c:Nat)(q:Pg),k=(c:Int)/\S.pg[c]?=some q/\q.lv+1=p.lv/\bg c=Zj b0 ks0 j0)->∃(c:Nat)(q:Pg),k=(c:Int)/\((S.pg++[QU P]).set n (Q5 P S.pg.length))[c]?=some q/\q.lv+1=l1/\XZ bg S.pg.length (some (Xa P)) c=Zj b1 ks1 j:=λ{b0 ks0 j0 b1 ks1 l1} e el zz1=>by
   obtain⟨c,q,a1,a2,a3,a4⟩:=zz1;obtain⟨q',c1,c2,_⟩:=old c q a2;exact⟨c,q',a1,c1,by lia,by rw[bo _ _ a2,a4,e]⟩
  rcases new m q h with ⟨rfl,rfl⟩ | ⟨rfl,rfl⟩ | ⟨_,h⟩
  ·rw[olv] at h0
   have hc:Zk P=mid P+1:=by unfold Zk;rw[Eb (by lia)]
   have hjl:j < mid P+1:=by
    have:=Qx hj;rw[show(Q5 P S.pg.length).ps=P.ps.take (Zk P) from rfl,Ba,hc] at this;lia
   have hj':P.ps[j]?=some k:=by
    rw[show(Q5 P S.pg.length).ps=P.ps.take (Zk P) from rfl,Ca (by lia)] at hj;exact hj
   refine lift ?_ olv (hk h0 j k hj');rw[bo _ _ hn];cases j with
   | zero=>rfl
   | succ i=>show P.ks[i]?=(P.ks.take (mid P))[i]?;rw[Ca (by lia)]
  ·rw[nlv] at h0
   have hc:Zk P=mid P+1:=by unfold Zk;rw[Eb (by lia)]
   have hj':P.ps[mid P+1+j]?=some k:=by
    rw[show(QU P).ps=P.ps.drop (Zk P) from rfl,Cc,hc] at hj;exact hj
   refine lift ?_ nlv (hk h0 _ k hj');rw[Z5];cases j with
   | zero=>show P.ks[mid P+0]?=some (Xa P);exact kg
   | succ i=>show P.ks[mid P+1+i]?=(P.ks.drop (Zk P))[i]?;rw[Cc,hc]
  ·obtain⟨c,r,a1,a2,a3,a4⟩:=T.kid m q h h0 j k hj
   obtain⟨r',c1,c2,_⟩:=old c r a2;exact⟨c,r',a1,c1,by lia,by rw[bo _ _ a2,bo _ _ h,a4]⟩
 ·have on:∀(b:Nat)(r:Pg),b≠n->S.pg[b]?=some r->p.lv=r.lv->(∃h v,(Q5 P S.pg.length).hi=some h/\XZ bg S.pg.length (some (Xa P)) b=some v/\h<=v)∨(∃h v,r.hi=some h/\XZ bg S.pg.length (some (Xa P)) n=some v/\h<=v):=λb r hbn hb hlv=>by
   rcases T.dis n b p r hn hb hlv (Ne.symm hbn) with ⟨h,v,a1,a2,a3⟩ | ⟨h,v,a1,a2,a3⟩
   ·exact .inl ⟨Xa P,v,rfl,by rw[bo _ _ hb];exact a2,by have:=kh h a1;lia⟩
   ·exact .inr ⟨h,v,a1,by rw[bo _ _ hn];exact a2,a3⟩
  have nn:∀(b:Nat)(r:Pg),b≠n->S.pg[b]?=some r->p.lv=r.lv->(∃h v,(QU P).hi=some h/\XZ bg S.pg.length (some (Xa P)) b=some v/\h<=v)∨(∃h v,r.hi=some h/\XZ bg S.pg.length (some (Xa P)) S.pg.length=some v/\h<=v):=λb r hbn hb hlv=>by
   rcases T.dis n b p r hn hb hlv (Ne.symm hbn) with ⟨h,v,a1,a2,a3⟩ | ⟨h,v,a1,a2,a3⟩
   ·exact .inl ⟨h,v,hh.trans a1,by rw[bo _ _ hb];exact a2,a3⟩
   ·exact .inr ⟨h,Xa P,a1,Z5,by have:=kl v a2;lia⟩
  rcases new a q ha with ⟨rfl,rfl⟩ | ⟨rfl,rfl⟩ | ⟨na,ha2⟩
  ·rcases new b r hb with ⟨rfl,rfl⟩ | ⟨rfl,rfl⟩ | ⟨nb,hb2⟩
   ·exact absurd rfl e
   ·exact .inl ⟨Xa P,Xa P,rfl,Z5,Bp _⟩
   ·exact on b r nb hb2 (by rw[<- hab,olv])
  ·rcases new b r hb with ⟨rfl,rfl⟩ | ⟨rfl,rfl⟩ | ⟨nb,hb2⟩
   ·exact .inr ⟨Xa P,Xa P,rfl,Z5,Bp _⟩
   ·exact absurd rfl e
   ·exact nn b r nb hb2 (by rw[<- hab,nlv])
  ·rcases new b r hb with ⟨rfl,rfl⟩ | ⟨rfl,rfl⟩ | ⟨nb,hb2⟩
   ·exact(on a q na ha2 (by rw[hab,olv])).symm
   ·exact(nn a q na ha2 (by rw[hab,nlv])).symm
   ·rcases T.dis a b q r ha2 hb2 hab e with ⟨h,v,a1,a2,a3⟩ | ⟨h,v,a1,a2,a3⟩
    ·exact .inl ⟨h,v,a1,by rw[bo _ _ hb2];exact a2,a3⟩
    ·exact .inr ⟨h,v,a1,by rw[bo _ _ ha2];exact a2,a3⟩
 ·have pr:∀(l:Nat)(z:Pg),S.pg[l]?=some z->z.hi=some v->∃(m:Nat)(q:Pg),((S.pg++[QU P]).set n (Q5 P S.pg.length))[m]?=some q/\q.lv=z.lv/\q.hi=some v:=λl z hz hv=>by
   by_cases e:l=n
   ·subst e;rw[hn] at hz;cases hz
    exact⟨_,_,gl,nlv,hh.trans hv⟩
   ·obtain⟨z',c1,c2,c3,_⟩:=old l z hz
    exact⟨l,z',c1,c2,by rw[c3 e];exact hv⟩
  rcases new m q h with ⟨rfl,rfl⟩ | ⟨rfl,rfl⟩ | ⟨nm,h⟩
  ·rw[bo _ _ hn] at hv
   obtain⟨a,z,b1,b2,b3⟩:=T.pred m p hn v hv;obtain⟨c,z',d1,d2,d3⟩:=pr a z b1 b3;exact⟨c,z',d1,by rw[d2,b2,olv],d3⟩
  ·rw[Z5] at hv
   exact⟨n,_,gn,by rw[olv,nlv],hv⟩
  ·rw[bo _ _ h] at hv
   obtain⟨a,z,b1,b2,b3⟩:=T.pred m q h v hv;obtain⟨c,z',d1,d2,d3⟩:=pr a z b1 b3;exact⟨c,z',d1,by rw[d2,b2],d3⟩
end
section
variable{S:Sh}{bg:Bg}{n:Nat}{p:Pg}
theorem Tree.raise(T:Tree S bg){r q:Pg}{k:Nat}{aim x y:Int}(hr:S.pg[S.top]?=some r)(hk:S.pg[k]?=some q)(hl:q.lv=r.lv)(hb:bg k=some aim):
    Tree { S with rd:=x,pg:=S.pg++[⟨r.lv+1,[aim],[(S.top:Int),(k:Int)],none,none⟩],top:=S.pg.length,wr:=y } (XZ bg S.pg.length none)/\Y5 S bg { S with rd:=x,pg:=S.pg++[⟨r.lv+1,[aim],[(S.top:Int),(k:Int)],none,none⟩],top:=S.pg.length,wr:=y } (XZ bg S.pg.length none):=by
  have r2:=T.room2;have lev:∀(m:Nat)(z:Pg),S.pg[m]?=some z->z.lv<=r.lv:=λm z h=>by
    obtain⟨r',a,b⟩:=T.root;rw[hr] at a;cases a;exact b m z h
  have bo:∀(m:Nat)(z:Pg),S.pg[m]?=some z->XZ bg S.pg.length none m=bg m:=λm z h=>UY (Qx h);have gl:(S.pg++[(⟨r.lv+1,[aim],[(S.top:Int),(k:Int)],none,none⟩:Pg)])[S.pg.length]?=some ⟨r.lv+1,[aim],[(S.top:Int),(k:Int)],none,none⟩:=by simp
  refine⟨⟨r2,⟨_,gl,λm z h=>?_⟩,Z5,λm z h=>?_,λm z h=>?_,λm z h h0 j c hj=>?_,λa b z z' ha hb' hab e=>?_,λm z h v hv=>?_⟩,⟨λm z h=>⟨bo m z h,z,X4 h,rfl⟩⟩⟩
  . rcases JV h with ⟨_,rfl⟩ | h
    . exact Ag _
    . exact Nat.le_succ_of_le (lev m z h)
  . rcases JV h with ⟨rfl,rfl⟩ | h
    . rw[Z5]
      exact⟨by simp,by show 1<=S.O2;lia,by simp,λk hk v hv=>(by cases hv),λ_ k hk v hv=>(by cases hv),λk hk v hv=>(by cases hv),λh hh=>(by cases hh)⟩
    . rw[bo _ _ h];exact T.page m z h
  . rcases JV h with ⟨rfl,rfl⟩ | h
    . exact .inl ⟨rfl,rfl⟩
    . rcases T.link m z h with a | ⟨z1,s,z2,a,b,c,d,e⟩
      . exact .inl a
      . exact .inr ⟨z1,s,z2,a,b,X4 c,d,by rw[bo _ _ c];exact e⟩
  . rcases JV h with ⟨rfl,rfl⟩ | h
    . match j,hj with
      | 0,hj =>
        cases hj;exact⟨S.top,r,rfl,X4 hr,rfl,by rw[bo _ _ hr,Z5];exact T.rbg⟩
      | 1,hj =>
        cases hj;exact⟨k,q,rfl,X4 hk,by show q.lv+1=r.lv+1;lia,by rw[bo _ _ hk];exact hb⟩
      | j+2,hj=>simp at hj
    . obtain⟨c',z',a1,a2,a3,a4⟩:=T.kid m z h h0 j c hj
      exact⟨c',z',a1,X4 a2,a3,by rw[bo _ _ a2,bo _ _ h,a4]⟩
  . rcases JV ha with ⟨rfl,rfl⟩ | ha2
    . rcases JV hb' with ⟨rfl,rfl⟩ | hb2
      . exact absurd rfl e
      . have:=lev b z' hb2;have:r.lv+1=z'.lv:=hab;lia
    . rcases JV hb' with ⟨rfl,rfl⟩ | hb2
      . have:=lev a z ha2;have:z.lv=r.lv+1:=hab;lia
      . rcases T.dis a b z z' ha2 hb2 hab e with ⟨h,v,a1,a2,a3⟩ | ⟨h,v,a1,a2,a3⟩
        . exact .inl ⟨h,v,a1,by rw[bo _ _ hb2];exact a2,a3⟩
        . exact .inr ⟨h,v,a1,by rw[bo _ _ ha2];exact a2,a3⟩
  . rcases JV h with ⟨rfl,rfl⟩ | h
    . rw[Z5] at hv;cases hv
    . rw[bo _ _ h] at hv
      obtain⟨a,z1,b1,b2,b3⟩:=T.pred m z h v hv;exact⟨a,z1,X4 b1,b2,b3⟩
theorem uz{k:Int}(h:JP p k=false):ltH k p.hi:=λv hv=>by
 unfold JP at h;rw[hv] at h;simp at h;lia
theorem ud{O2:Nat}(ok:Jy O2 (bg n) p)(hl:p.lv=0){k x:Int}(h1:leB (bg n) k)(h2:ltH k p.hi):Jy (QZ p k x).ks.length (bg n) (QZ p k x) where
 sorted:=VH ok.sorted k
 few:=Ag _
 parts:=by
  have a:=ok.parts;rw[Ec hl] at a;have b:=xU p.ks k;have c:=XB p.ks k;show(p.ps.take (cLt p.ks k)++x::p.ps.drop (cLe p.ks k)).length=(p.ks.take (cLt p.ks k)++k::p.ks.drop (cLe p.ks k)).length+(if p.lv=0 then 0 else 1)
  rw[Ec hl];simp only[Ao,Bb,Ba,Br];lia
 low:=λy hy=>by
  rcases xf ok.sorted hy with rfl | hy
  ·exact h1
  ·exact ok.low y hy
 lowF:=λh=>by have:0 < p.lv:=h;lia
 high:=λy hy=>by
  rcases xf ok.sorted hy with rfl | hy
  ·exact h2
  ·exact ok.high y hy
 wide:=ok.wide
theorem xM{O2:Nat}(ok:Jy O2 (bg n) p){k x:Int}:(QZ p k x).ks.length<=O2+1:=by
 have b:=xU p.ks k;have c:=XB p.ks k;have d:=KK p.ks k;have e:=ok.few;show(p.ks.take (cLt p.ks k)++k::p.ks.drop (cLe p.ks k)).length<=_;simp only[Ao,Bb,Ba,Br];lia
theorem gM{O2:Nat}(ok:Jy O2 (bg n) p)(hl:p.lv=0){k:Int}:Jy O2 (bg n) (without p k) where
 sorted:=uF ok.sorted k
 few:=by
  have b:=xU p.ks k;have c:=XB p.ks k;have d:=KK p.ks k;have e:=ok.few;show(p.ks.take (cLt p.ks k)++p.ks.drop (cLe p.ks k)).length<=_;simp only[Ao,Ba,Br];lia
 parts:=by
  have a:=ok.parts;rw[Ec hl] at a;have b:=xU p.ks k;have c:=XB p.ks k;show(p.ps.take (cLt p.ks k)++p.ps.drop (cLe p.ks k)).length=(p.ks.take (cLt p.ks k)++p.ks.drop (cLe p.ks k)).length+(if p.lv=0 then 0 else 1)
  rw[Ec hl];simp only[Ao,Ba,Br];lia
 low:=λy hy=>ok.low y (ki hy)
 lowF:=λh=>by have:0 < p.lv:=h;lia
 high:=λy hy=>ok.high y (ki hy)
 wide:=ok.wide
theorem Qdl(T:Tree S bg)(hn:S.pg[n]?=some p){k:Nat}{q:Pg}{aim:Int}(hk:S.pg[k]?=some q)(hl:q.lv+1=p.lv)(hb:bg k=some aim)(hu:Untold S k):aim∉p.ks/\bg n≠some aim:=by
 have ok:=T.page n p hn;have h0:0 < p.lv:=by lia
 have pl:=ok.parts;rw[Eb (by lia)] at pl
 have key:∀j,Zj (bg n) p.ks j=some aim->j < p.ps.length->False:=λj e hj=>by
  obtain⟨c,z,a1,a2,a3,a4⟩:=T.kid n p hn h0 j _ (Ac hj);have:c=k:=T.uniq a2 hk (by lia) (by rw[a4,e,hb])
  subst this;exact hu n p hn h0 (by rw[<- a1];exact B9 hj)
 refine⟨λhm=>?_,λe=>key 0 e (by lia)⟩
 obtain⟨i,hi,e⟩:=Cu.mp hm;exact key (i+1) (by show p.ks[i]?=some aim;rw[Ac hi,e]) (by lia)
theorem qH{k:Int}{c:Nat}(h:k∉p.ks):(Zw p k c).ks=p.ks.take (cLt p.ks k)++k::p.ks.drop (cLe p.ks k):=by
 show p.ks.take (cLe p.ks k)++k::p.ks.drop (cLe p.ks k)=_;rw[QfI h]
theorem gL{O2:Nat}(ok:Jy O2 (bg n) p)(hl:0 < p.lv){k:Int}{c:Nat}(hk:k∉p.ks)(h1:ltB (bg n) k)(h2:ltH k p.hi):Jy (Zw p k c).ks.length (bg n) (Zw p k c) where
 sorted:=by rw[qH hk];exact VH ok.sorted k
 few:=Ag _
 parts:=by
  have a:=ok.parts;rw[Eb (by lia)] at a
  have d:=XB p.ks k;show(p.ps.take (cLe p.ks k+1)++(c:Int)::p.ps.drop (cLe p.ks k+1)).length=(p.ks.take (cLe p.ks k)++k::p.ks.drop (cLe p.ks k)).length+(if p.lv=0 then 0 else 1)
  rw[Eb (by lia)]
  simp only[Ao,Bb,Ba,Br];lia
 low:=λy hy=>by
  rw[qH hk] at hy;rcases xf ok.sorted hy with rfl | hy
  ·exact λv hv=>Ck (h1 v hv)
  ·exact ok.low y hy
 lowF:=λh y hy=>by
  rw[qH hk] at hy;rcases xf ok.sorted hy with rfl | hy
  ·exact h1
  ·exact ok.lowF hl y hy
 high:=λy hy=>by
  rw[qH hk] at hy;rcases xf ok.sorted hy with rfl | hy
  ·exact h2
  ·exact ok.high y hy
 wide:=ok.wide
theorem yT{O2:Nat}(ok:Jy O2 (bg n) p){k:Int}{c:Nat}:(Zw p k c).ks.length<=O2+1:=by
 have d:=XB p.ks k;have e:=ok.few;show(p.ks.take (cLe p.ks k)++k::p.ks.drop (cLe p.ks k)).length<=_;simp only[Ao,Bb,Ba,Br];lia
theorem GH(T:Tree S bg)(hn:S.pg[n]?=some p){k:Nat}{q:Pg}{aim:Int}(hk:S.pg[k]?=some q)(hl:q.lv+1=p.lv)(hb:bg k=some aim):
    ∀j c,(Zw p aim k).ps[j]?=some c->∃(c':Nat)(q:Pg),c=(c':Int)/\S.pg[c']?=some q/\q.lv+1=p.lv/\bg c'=Zj (bg n) (Zw p aim k).ks j:=by
  intro j c hj;have ok:=T.page n p hn;have h0:0 < p.lv:=by lia
  have pl:=ok.parts;rw[Eb (by lia)] at pl
  have d:=XB p.ks aim;have hj:(p.ps.take (cLe p.ks aim+1)++(k:Int)::p.ps.drop (cLe p.ks aim+1))[j]?=some c:=hj;show ∃(c':Nat)(q:Pg),c=(c':Int)/\S.pg[c']?=some q/\q.lv+1=p.lv/\bg c'=Zj (bg n) (p.ks.take (cLe p.ks aim)++aim::p.ks.drop (cLe p.ks aim)) j;have lt:(p.ps.take (cLe p.ks aim+1)).length=cLe p.ks aim+1:=by rw[Ba];lia
  have lk:(p.ks.take (cLe p.ks aim)).length=cLe p.ks aim:=by rw[Ba];lia
  rcases Bi j (cLe p.ks aim+1) with h | h
  . rw[Ai (by lia),Ca h] at hj
    obtain⟨c',z,a1,a2,a3,a4⟩:=T.kid n p hn h0 j c hj;refine⟨c',z,a1,a2,a3,?_⟩;rw[a4];cases j with
    | zero=>rfl
    | succ i =>
      show p.ks[i]?=(p.ks.take (cLe p.ks aim)++aim::p.ks.drop (cLe p.ks aim))[i]?;rw[Ai (by lia),Ca (by lia)]
  . rw[Ar (by lia),lt] at hj
    rcases Bi (cLe p.ks aim+1) j with h2 | h2
    . obtain⟨i,rfl⟩:∃i,j=cLe p.ks aim+2+i:=⟨j - (cLe p.ks aim+2),by lia⟩
      rw[show cLe p.ks aim+2+i - (cLe p.ks aim+1)=i+1 by lia,List.getElem?_cons_succ,Cc] at hj
      obtain⟨c',z,a1,a2,a3,a4⟩:=T.kid n p hn h0 _ c hj;refine⟨c',z,a1,a2,a3,?_⟩;rw[a4];rw[show cLe p.ks aim+1+i=(cLe p.ks aim+i)+1 by lia,show cLe p.ks aim+2+i=(cLe p.ks aim+1+i)+1 by lia]
      show p.ks[cLe p.ks aim+i]?=(p.ks.take (cLe p.ks aim)++aim::p.ks.drop (cLe p.ks aim))[cLe p.ks aim+1+i]?;rw[Ar (by lia),lk,show cLe p.ks aim+1+i - cLe p.ks aim=i+1 by lia,List.getElem?_cons_succ,Cc]
    . have e:j=cLe p.ks aim+1:=by lia
      subst e;rw[show cLe p.ks aim+1 - (cLe p.ks aim+1)=0 by lia] at hj
      cases hj;refine⟨k,q,rfl,hk,hl,?_⟩;rw[hb];show some aim=(p.ks.take (cLe p.ks aim)++aim::p.ks.drop (cLe p.ks aim))[cLe p.ks aim]?;rw[Ar (by lia),lk];simp
end
structure All(S:Sh)(bg:Bg)(ws:List Wk):Prop where
 ok:∀(i:Nat)(w:Wk),ws[i]?=some w->w.O7=false->WOk S bg w
 unt:∀(i:Nat)(w:Wk)(k:Nat),ws[i]?=some w->w.O7=false->0 < w.O4->w.Oz=some k->Untold S k
 diff:∀(i j:Nat)(w v:Wk)(k:Nat),i≠j->ws[i]?=some w->ws[j]?=some v->w.O7=false->v.O7=false->0 < w.O4->0 < v.O4->w.Oz=some k->v.Oz≠some k
structure Stp(S:Sh)(bg:Bg)(w:Wk)(S':Sh)(bg':Bg)(w':Wk):Prop where
 tree:Tree S' bg'
 grow:Y5 S bg S' bg'
 wok:w'.O7=false->WOk S' bg' w'
 unt:∀k v,Untold S k->bg k=some v->(0 < w.O4->w.Oz≠some k)->Untold S' k
 new:∀k,w'.O7=false->0 < w'.O4->w'.Oz=some k->Untold S' k/\((0 < w.O4/\w.Oz=some k)∨S.pg.length<=k)
 O2:S'.O2=S.O2
 len:S'.pg.length<=S.pg.length+1
theorem All.step{ws:List Wk}{i:Nat}{w w':Wk}(A:All S bg ws)(hi:ws[i]?=some w)(hw:w.O7=false)(st:Stp S bg w S' bg' w'):All S' bg' (ws.set i w') where
 ok:=λj v hj hv=>by
  rcases Q2 hj with ⟨rfl,rfl,_⟩ | ⟨_,h⟩
  ·exact st.wok hv
  ·exact(A.ok j v h hv).grow st.grow
 unt:=λj v k hj hv hg hk=>by
  rcases Q2 hj with ⟨rfl,rfl,_⟩ | ⟨e,h⟩
  ·exact(st.new k hv hg hk).1
  ·obtain⟨k',q,a1,a2,a3,a4⟩:=(A.ok j v h hv).tell hg
   rw[hk] at a1;cases a1;exact st.unt k _ (A.unt j v k h hv hg hk) a4 λg0=>(A.diff j i v w k e h hi hv hw hg g0 hk)
 diff:=λa b u v k e ha hb hu hv gu gv hk hk'=>by
  have key:∀(c:Nat)(x:Wk),c≠i->ws[c]?=some x->x.O7=false->0 < x.O4->x.Oz=some k->w'.O7=false->0 < w'.O4->w'.Oz=some k->False:=λc x hc hx he hg hk he' hg' hk'=>by
   rcases(st.new k he' hg' hk').2 with ⟨g0,n0⟩ | l
   ·exact A.diff c i x w k hc hx hi he hw hg g0 hk n0
   ·obtain⟨k',q,a1,a2,_⟩:=(A.ok c x hx he).tell hg
    rw[hk] at a1;cases a1;have:=Qx a2;lia
  rcases Q2 ha with ⟨rfl,rfl,_⟩ | ⟨ea,ha2⟩
  ·rcases Q2 hb with ⟨rfl,rfl,_⟩ | ⟨eb,hb2⟩
   ·exact e rfl
   ·exact key b v eb hb2 hv gv hk' hu gu hk
  ·rcases Q2 hb with ⟨rfl,rfl,_⟩ | ⟨eb,hb2⟩
   ·exact key a u ea ha2 hu gu hk hv gv hk'
   ·exact A.diff a b u v k e ha2 hb2 hu hv gu gv hk hk'
theorem All.put{ws:List Wk}{i:Nat}{w:Wk}(A:All S bg ws)(h1:w.O6=none)(h2:w.O3=[])(h3:w.O4=0):All S bg (ws.set i w) where
 ok:=λj v hj hv=>by
  rcases Q2 hj with ⟨rfl,rfl,_⟩ | ⟨_,h⟩
  ·exact WOk.fresh h1 h2 h3
  ·exact A.ok j v h hv
 unt:=λj v k hj hv hg hk=>by
  rcases Q2 hj with ⟨rfl,rfl,_⟩ | ⟨_,h⟩
  ·lia
  ·exact A.unt j v k h hv hg hk
 diff:=λa b u v k e ha hb hu hv gu gv hk=>by
  rcases Q2 ha with ⟨rfl,rfl,_⟩ | ⟨_,ha⟩
  ·lia
  ·rcases Q2 hb with ⟨rfl,rfl,_⟩ | ⟨_,hb⟩
   ·lia
   ·exact A.diff a b u v k e ha hb hu hv gu gv hk
def Tree.rd{S:Sh}(T:Tree S bg)(x y:Int):Tree { S with rd:=x,wr:=y } bg:=⟨T.room2,T.root,T.rbg,T.page,T.link,T.kid,T.dis,T.pred⟩
section
variable{S:Sh}{bg:Bg}{n:Nat}{p P:Pg}{w:Wk}
theorem Untold.set{S:Sh}{n:Nat}{p P:Pg}{k:Nat}{x y:Int}(h:Untold S k)(hn:S.pg[n]?=some p)(hl:P.lv=p.lv)(hs:0 < p.lv->(k:Int)∈P.ps->(k:Int)∈p.ps):Untold { S with pg:=S.pg.set n P,rd:=x,wr:=y } k:=λm q hm h0 hk=>by
 rcases Q2 hm with ⟨rfl,rfl,_⟩ | ⟨_,hm⟩
 ·exact h m p hn (by lia) (hs (by lia) hk)
 ·exact h m q hm h0 hk
theorem Untold.halves{S:Sh}{n:Nat}{p P:Pg}{k l:Nat}{x y:Int}(h:Untold S k)(hn:S.pg[n]?=some p)(hl:P.lv=p.lv)(hs:0 < p.lv->(k:Int)∈P.ps->(k:Int)∈p.ps):Untold { S with pg:=(S.pg++[QU P]).set n (Q5 P l),rd:=x,wr:=y } k:=λm q hm h0 hk=>by
 rcases Q2 hm with ⟨rfl,rfl,_⟩ | ⟨_,hm⟩
 ·have h0':0 < P.lv:=h0
  exact h m p hn (by lia) (hs (by lia) (Bx hk))
 ·rcases JV hm with ⟨rfl,rfl⟩ | hm
  ·have h0':0 < P.lv:=h0
   exact h n p hn (by lia) (hs (by lia) (Cd hk))
  ·exact h m q hm h0 hk
theorem Tree.untold_new(T:Tree S bg){k:Nat}(h:S.pg.length<=k):Untold S k:=λm q hm h0 hk=>by
 obtain⟨j,hj,e⟩:=Cu.mp hk;obtain⟨c,z,a1,a2,_⟩:=T.kid m q hm h0 j _ (Ac hj);rw[e] at a1;have:k=c:=by lia
 have:=Qx a2;lia
theorem Kt(T:Tree S bg)(hn:S.pg[n]?=some p)(hl:P.lv=p.lv)(hh:P.hi=p.hi)(hs:P.sd=p.sd)(ok:Jy P.ks.length (bg n) P)(h2:P.ks.length<=S.O2+1)
  (hk:0 < p.lv->∀j k,P.ps[j]?=some k->∃(c:Nat)(q:Pg),k=(c:Int)/\S.pg[c]?=some q/\q.lv+1=p.lv/\bg c=Zj (bg n) P.ks j)
  (W:WOk S bg w) (hw:w.O7=false) (hpl:w.O6=some n∨w.O6=none) (hg:p.lv=w.O4) (hsub:∀k:Nat,0 < p.lv->(k:Int)∈P.ps->(k:Int)∈p.ps∨(0 < w.O4/\w.Oz=some k)) :
  ∃bg',Stp S bg w (QG S w n P).2.1 bg' (QG S w n P).2.2:=by
 unfold QG;by_cases hr:P.ks.length<=S.O2
 ·rw[Ec hr]
  obtain⟨T',G⟩:=T.write (x:=S.rd) (y:=S.wr+1) (p':=P) hn hl hh hs ⟨ok.sorted,hr,ok.parts,ok.low,ok.lowF,ok.high,ok.wide⟩ hk;refine⟨bg,T',G,λh=>(by cases h),λk v hu hb hne=>hu.set hn hl λh0 hm=>?_,λk h=>(by cases h),rfl,(by simp)⟩
  rcases hsub k h0 hm with a | ⟨a,b⟩
  ·exact a
  ·exact absurd b (hne a)
 ·rw[Eb hr]
  obtain⟨T',G⟩:=T.split (x:=S.rd) (y:=S.wr+1+1) hn hl hh hs ok (by lia) h2 hk
  have r2:=T.room2;have kl:=K7 ok (by lia)
  have gl:((S.pg++[QU P]).set n (Q5 P S.pg.length))[S.pg.length]?=some (QU P):=by
   rw[An (by have:=Qx hn;lia),Ar (Ag _)];simp
  have pln:∀f,JU w.O3 (p.lv+1)=some f->w.O6=some n:=λf hf=>by
   rcases hpl with h | h
   ·exact h
   ·have:=W.none_ h _ f hf;lia
  refine⟨_,T',G,λ_=>?_,λk v hu hb hne=>hu.halves hn hl λh0 hm=>?_,λk _ _ e=>?_,rfl,by simp⟩
  ·have lv':P.lv=w.O4:=hl.trans hg
   refine⟨λf hf=>?_,λhnone l f hf=>?_,λl f hf=>?_,λf q hf hq l f' hf' hlt=>?_,λl f l' f' hf hf' a b=>?_,λf q hf hq hlt=>?_,λf q hf hq l' f' hf' l a b=>?_,λ_=>⟨S.pg.length,QU P,rfl,gl,rfl,Z5⟩⟩
   ·have hf:JU w.O3 (P.lv+1)=some f:=hf
    rw[hl] at hf;obtain⟨q,a1,a2⟩:=W.kept _ f hf;obtain⟨e,q',a3,a4⟩:=G.old f q a1;refine⟨q',a3,?_,?_⟩
    ·show P.lv+1<=q'.lv;lia
    ·rw[e]
     intro v hv;obtain⟨u,b1,b2⟩:=W.above n p (pln f hf) hn _ f hf (by lia) v hv
     have:=kl u b1;show v<=Xa P;lia
   ·have hnone:JU w.O3 (P.lv+1)=none:=hnone
    show l < P.lv+1;rcases Bi l (P.lv+1) with h | h
    ·exact h
    ·exfalso
     rcases hpl with hp | hp
     ·obtain⟨f0,hf0⟩:=W.full n p hp hn l f hf (P.lv+1) (by lia) h
      rw[hnone] at hf0;cases hf0
     ·have:=W.none_ hp l f hf;lia
   ·obtain⟨q,a1,a2⟩:=W.kept l f hf
    obtain⟨e,q',a3,a4⟩:=G.old f q a1;exact⟨q',a3,by lia⟩
   ·have hf:JU w.O3 (P.lv+1)=some f:=hf
    obtain⟨q0,a1,a2⟩:=W.kept _ f hf;obtain⟨q1,b1,b2⟩:=W.kept _ f' hf';obtain⟨e,q',a3,a4⟩:=G.old f q0 a1;rw[e,(G.old f' q1 b1).1];rw[a3] at hq;cases hq;exact W.chain _ f l f' hf hf' (by lia) (by lia)
   ·obtain⟨q0,a1,a2⟩:=W.kept _ f hf
    obtain⟨q1,b1,b2⟩:=W.kept _ f' hf';rw[(G.old f q0 a1).1,(G.old f' q1 b1).1];have a:P.lv+1<=l:=a;exact W.chain l f l' f' hf hf' (by lia) b
   ·have hf:JU w.O3 (P.lv+1)=some f:=hf
    obtain⟨q0,a1,a2⟩:=W.kept _ f hf;obtain⟨e,q',a3,a4⟩:=G.old f q0 a1;have hlt2:P.lv+1 < q.lv:=hlt;rw[a3] at hq;cases hq;lia
   ·have hf:JU w.O3 (P.lv+1)=some f:=hf
    obtain⟨q0,a1,a2⟩:=W.kept _ f hf;obtain⟨e,q',a3,a4⟩:=G.old f q0 a1;rw[a3] at hq;cases hq;rw[hl] at hf;exact W.full n p (pln f hf) hn l' f' hf' l (by lia) b
  ·rcases hsub k h0 hm with a | ⟨a,b⟩
   ·exact a
   ·exact absurd b (hne a)
  ·have e:S.pg.length=k:=Am e
   subst e;refine⟨(T.untold_new (Ag _)).halves hn hl λh0 hm=>?_,.inr (Ag _)⟩;obtain⟨j,hj,e⟩:=Cu.mp hm;obtain⟨c,z,a1,a2,_⟩:=hk h0 j _ (Ac hj);rw[e] at a1;have:S.pg.length=c:=by lia
   have:=Qx a2;lia
end
section
variable{S:Sh}{bg:Bg}{n:Nat}{p:Pg}{w:Wk}
theorem QaT{ks:List Int}(h:ks.Pairwise (· < ·)){k x:Int}{i:Nat}(hi:i < cLe ks k)(hx:ks[i]?=some x):x<=k:=by
 have e:(ks.take (cLe ks k))[i]?=some x:=by rw[Ca hi];exact hx
 rw[(zJ h k).1] at e;simpa using(Bo.mp (Ax e)).2
theorem kE(T:Tree S bg)(W:WOk S bg w)(hpl:w.O6=some n∨w.O6=none)(hn:S.pg[n]?=some p)(hg:w.O4<=p.lv){s:Nat}{q:Pg}{h:Int}(hh:p.hi=some h)(hs:S.pg[s]?=some q)(hl:q.lv=p.lv)(hb:bg s=some h){w':Wk}(e1:w'.O6=some s)(e2:w'.O3=w.O3)(e3:w'.O4=w.O4)(e4:h<=w'.aim)(e5:0 < w.O4->w'.Oz=w.Oz/\w'.aim=w.aim):WOk S bg w' where
 at_:=λm hm=>by
  rw[e1] at hm;cases hm;exact⟨q,hs,by lia,λv hv=>by rw[hb] at hv;cases hv;exact e4⟩
 none_:=λhm=>by rw[e1] at hm;cases hm
 kept:=λl f hf=>W.kept l f (e2▸hf)
 above:=λm z hm hz l f hf hlt=>by
  rw[e1] at hm;cases hm;rw[hs] at hz;cases hz;rw[e2] at hf;rcases hpl with hp | hp
  ·refine(W.above n p hp hn l f hf (by lia)).trans λv hv=>⟨h,hb,?_⟩
   have:=(T.page n p hn).wide h hh v hv;lia
  ·have:=W.none_ hp l f hf;lia
 chain:=λl f l' f' hf hf' a b=>W.chain l f l' f' (e2▸hf) (e2▸hf') (e3▸a) b
 gap:=λm z hm hz hlt l f hf=>by
  rw[e1] at hm;cases hm;rw[hs] at hz;cases hz;rw[e2] at hf;rcases hpl with hp | hp
  ·rcases W.gap n p hp hn (by lia) l f hf with a | a
   ·exact .inl (by lia)
   ·exact .inr (by lia)
  ·exact .inl (by have:=W.none_ hp l f hf;lia)
 full:=λm z hm hz l' f' hf' l a b=>by
  rw[e1] at hm;cases hm;rw[hs] at hz;cases hz;rw[e2] at hf' ⊢;rcases hpl with hp | hp
  ·exact W.full n p hp hn l' f' hf' l (by lia) b
  ·have:=W.none_ hp l' f' hf';lia
 tell:=λh0=>by
  rw[e3] at h0 ⊢;obtain⟨k,z,a1,a2,a3,a4⟩:=W.tell h0;obtain⟨b1,b2⟩:=e5 h0;exact⟨k,z,b1.trans a1,a2,a3,by rw[b2];exact a4⟩
theorem QdY(T:Tree S bg)(W:WOk S bg w)(hpl:w.O6=some n∨(w.O6=none/\n=S.top))(hn:S.pg[n]?=some p)(hg:w.O4 < p.lv){c:Nat}{q:Pg}(hc:S.pg[c]?=some q)(hl:q.lv+1=p.lv)(hb:bg c=Zj (bg n) p.ks (cLe p.ks w.aim)):WOk S bg { w with O3:=zC w.O3 p.lv n,O6:=some c }:=by
  have ok:=T.page n p hn;have lb:leBB (bg n) (bg c):=by
    rw[hb];cases e:cLe p.ks w.aim with
    | zero=>exact leBB.refl _
    | succ i =>
      intro v hv;have hi:i < p.ks.length:=by have:=XB p.ks w.aim;lia
      refine⟨p.ks[i],Ac hi,Ck (ok.lowF (by lia) _ (B9 hi) v hv)⟩
  have la:leB (bg n) w.aim:=by
    rcases hpl with hp | ⟨_,rfl⟩
    . obtain⟨p',a1,a2,a3⟩:=W.at_ n hp
      exact a3
    . intro v hv;rw[T.rbg] at hv;cases hv
  have ca:leB (bg c) w.aim:=by
    rw[hb];cases e:cLe p.ks w.aim with
    | zero=>exact la
    | succ i=>intro v hv;exact QaT ok.sorted (by lia) hv
  have old:∀l f,JU w.O3 l=some f->l≠p.lv->l < w.O4∨(p.lv < l/\w.O6=some n):=λl f hf hne=>by
    rcases hpl with hp | ⟨hp,_⟩
    . rcases W.gap n p hp hn hg l f hf with a | a
      . exact .inl a
      . exact .inr ⟨a,hp⟩
    . exact .inl (W.none_ hp l f hf)
  have gp:∀l f,JU (zC w.O3 p.lv n) l=some f->(l=p.lv/\f=n)∨(l≠p.lv/\JU w.O3 l=some f):=λl f hf=>by
    rw[zi] at hf;by_cases e:l=p.lv
    . rw[Ec e] at hf;cases hf;exact .inl ⟨e,rfl⟩
    . rw[Eb e] at hf;exact .inr ⟨e,hf⟩
  refine⟨λm hm=>?_,λhm=>(by cases hm),λl f hf=>?_,λm z hm hz l f hf hlt=>?_,λl f l' f' hf hf' a b=>?_,λm z hm hz hlt l f hf=>?_,λm z hm hz l' f' hf' l a b=>?_,W.tell⟩
  . cases hm
    refine⟨q,hc,?_,ca⟩;show w.O4<=q.lv;lia
  . rcases gp l f hf with ⟨rfl,rfl⟩ | ⟨_,h⟩
    . exact⟨p,hn,rfl⟩
    . exact W.kept l f h
  . cases hm
    rw[hc] at hz;cases hz;rcases gp l f hf with ⟨rfl,rfl⟩ | ⟨hne,h⟩
    . exact lb
    . rcases old l f h hne with a | ⟨a,hp⟩
      . lia
      . exact(W.above n p hp hn l f h a).trans lb
  . have a:w.O4<=l:=a
    rcases gp l f hf with ⟨rfl,rfl⟩ | ⟨hne,h⟩
    . rcases gp l' f' hf' with ⟨rfl,rfl⟩ | ⟨hne',h'⟩
      . lia
      . rcases old l' f' h' hne' with c1 | ⟨c1,hp⟩
        . lia
        . exact W.above _ p hp hn l' f' h' c1
    . rcases gp l' f' hf' with ⟨rfl,rfl⟩ | ⟨hne',h'⟩
      . rcases old l f h hne with c1 | ⟨c1,hp⟩<;>lia
      . exact W.chain l f l' f' h h' a b
  . cases hm
    rw[hc] at hz;cases hz;show l < w.O4∨_;rcases gp l f hf with ⟨rfl,rfl⟩ | ⟨hne,h⟩
    . exact .inr (by lia)
    . rcases old l f h hne with c1 | ⟨c1,hp⟩
      . exact .inl c1
      . exact .inr (by lia)
  . cases hm
    rw[hc] at hz;cases hz;by_cases e:l=p.lv
    . exact⟨n,by rw[zi,Ec e]⟩
    . rcases gp l' f' hf' with ⟨rfl,rfl⟩ | ⟨hne,h⟩
      . lia
      . rcases old l' f' h hne with c1 | ⟨c1,hp⟩
        . lia
        . obtain⟨f,hf⟩:=W.full n p hp hn l' f' h l (by lia) b
          exact⟨f,by rw[zi,Eb e];exact hf⟩
def Stp.of_rd{S':Sh}{bg':Bg}{w':Wk}{x y:Int}(h:Stp { S with rd:=x,wr:=y } bg w S' bg' w'):Stp S bg w S' bg' w':=⟨h.tree,⟨h.grow.old⟩,h.wok,h.unt,h.new,h.O2,h.len⟩
theorem Stp.still(T:Tree S bg){w':Wk}{x y:Int}(hu:0 < w.O4->∀k,w.Oz=some k->Untold S k)(h:w'.O7=false->WOk S bg w'/\(w'.O4=w.O4/\(0 < w.O4->w'.Oz=w.Oz))):Stp S bg w { S with rd:=x,wr:=y } bg w' where
 tree:=T.rd x y
 grow:=⟨λn p h=>⟨rfl,p,h,rfl⟩⟩
 wok:=λe=>let W:=(h e).1;⟨W.at_,W.none_,W.kept,W.above,W.chain,W.gap,W.full,W.tell⟩
 unt:=λk v hu _ _=>hu
 new:=λk e g0 hk=>by
  obtain⟨_,e1,e2⟩:=h e;rw[e1] at g0;rw[e2 g0] at hk;exact⟨hu g0 k hk,.inl ⟨g0,hk⟩⟩
 O2:=rfl
 len:=Nat.le_succ _
def WOk.rd(W:WOk S bg w)(x y:Int):WOk { S with rd:=x,wr:=y } bg w:=⟨W.at_,W.none_,W.kept,W.above,W.chain,W.gap,W.full,W.tell⟩
theorem QeY(T:Tree S bg)(W:WOk S bg w)(hw:w.O7=false)(hu:0 < w.O4->∀k,w.Oz=some k->Untold S k):∃r S' w' bg',JZ S w=some (r,S',w')/\Stp S bg w S' bg' w':=by
  obtain⟨n,hn0,hpl⟩:∃n,w.O6.getD S.top=n/\(w.O6=some n∨(w.O6=none/\n=S.top)):=by
    cases e:w.O6 with
    | none=>exact⟨S.top,rfl,.inr ⟨rfl,rfl⟩⟩
    | some m=>exact⟨m,rfl,.inl rfl⟩
  obtain⟨p,hn⟩:∃p,S.pg[n]?=some p:=by
    rcases hpl with hp | ⟨_,rfl⟩
    . obtain⟨p,a,_⟩:=W.at_ n hp;exact⟨p,a⟩
    . obtain⟨p,a,_⟩:=T.root;exact⟨p,a⟩
  have hpl':w.O6=some n∨w.O6=none:=hpl.imp id And.left;have ok:=T.page n p hn;have la:leB (bg n) w.aim:=by
    rcases hpl with hp | ⟨_,rfl⟩
    . obtain⟨p',a1,a2,a3⟩:=W.at_ n hp
      exact a3
    . intro v hv;rw[T.rbg] at hv;cases hv
  unfold JZ;rw[Eb (by rw[hw];simp),hn0]
  simp only[hn];by_cases hr:w.O6=none/\p.lv < w.O4
  . rw[Ec hr]
    have htop:n=S.top:=by
      rcases hpl with hp | ⟨_,e⟩
      . rw[hr.1] at hp;cases hp
      . exact e
    subst htop;obtain⟨k,q,a1,a2,a3,a4⟩:=W.tell (by lia)
    simp only[a1];have lev:q.lv<=p.lv:=by
      obtain⟨r,b1,b2⟩:=T.root;rw[hn] at b1;cases b1;exact b2 k q a2
    obtain⟨T',G⟩:=T.raise (x:=S.rd+1) (y:=S.wr+1) hn a2 (by lia) a4
    refine⟨_,_,_,_,rfl,T',G,λh=>(by cases h),λk' v hu' hb hne m z hm h0 hk'=>?_,λk' h=>(by cases h),rfl,by simp⟩
    rcases JV hm with ⟨rfl,rfl⟩ | hm
    . have hk2:(k':Int)=(S.top:Int)∨(k':Int)=(k:Int):=by simpa using hk'
      rcases hk2 with e | e
      . have:k'=S.top:=by lia
        subst this;rw[T.rbg] at hb;cases hb
      . have:k'=k:=by lia
        subst this;exact hne (by lia) a1
    . exact hu' m z hm h0 hk'
  . rw[Eb hr]
    have hg:w.O4<=p.lv:=by
      rcases hpl with hp | ⟨hp,_⟩
      . obtain⟨p',b1,b2,_⟩:=W.at_ n hp
        rw[hn] at b1;cases b1;exact b2
      . exact Nat.le_of_not_lt λh=>hr ⟨hp,h⟩
    cases hb:JP p w.aim with
    | true =>
      rw[Ec rfl];rcases T.link n p hn with ⟨a,b⟩ | ⟨h,s,q,a,b,c,d,e⟩
      . unfold JP at hb;rw[a] at hb;cases hb
      . simp only[b]
        have ha:h<=w.aim:=by unfold JP at hb;rw[a] at hb;simpa using hb
        exact⟨_,_,_,bg,rfl,Stp.still T hu λ_=>⟨kE T W hpl' hn hg a c d e rfl rfl rfl ha λ_=>⟨rfl,rfl⟩,rfl,λ_=>rfl⟩⟩
    | false =>
      have lh:=uz hb;rw[Eb (by simp)]
      by_cases hd:w.O4 < p.lv
      . rw[Ec hd]
        have pl:=ok.parts;rw[Eb (by lia)] at pl
        have hc:cLe p.ks w.aim < p.ps.length:=by have:=XB p.ks w.aim;lia
        obtain⟨c,q,a1,a2,a3,a4⟩:=T.kid n p hn (by lia) _ _ (Ac hc)
        rw[Ac hc,a1];simp only[B7];exact⟨_,_,_,bg,rfl,Stp.still T hu λ_=>⟨QdY T W hpl hn hd a2 a3 a4,rfl,λ_=>rfl⟩⟩
      . rw[Eb hd]
        have hlv:p.lv=w.O4:=by lia
        by_cases h0:0 < w.O4
        . rw[Ec h0]
          obtain⟨k,q,a1,a2,a3,a4⟩:=W.tell h0;simp only[a1];obtain⟨n1,n2⟩:=Qdl T hn a2 (by lia) a4 (hu h0 k a1)
          have lt:ltB (bg n) w.aim:=λv hv=>by
            have:=la v hv;have:v≠w.aim:=λe=>n2 (by rw[hv,e])
            lia
          obtain⟨bg',st⟩:=Kt (S:={ S with rd:=S.rd+1,wr:=S.wr }) (P:=Zw p w.aim k) (T.rd _ _) hn rfl rfl rfl (gL ok (by lia) n1 lt lh) (yT ok) (λ_=>GH T hn a2 (by lia) a4) (W.rd _ _) hw hpl' hlv (λk' _ hm=>by
            rcases Aj.mp hm with hm | hm
            . exact .inl (Bx hm)
            . rcases Bm.mp hm with e | hm
              . have:k'=k:=by lia
                subst this;exact .inr ⟨h0,a1⟩
              . exact .inl (Cd hm))
          exact⟨_,_,_,bg',rfl,st.of_rd⟩
        . rw[Eb h0]
          have hz:p.lv=0:=by lia
          have g0:w.O4=0:=by lia
          unfold Jc;cases hdd:w.O0 with
          | find k=>exact⟨_,_,_,bg,rfl,Stp.still T hu λh=>(by cases h)⟩
          | put k x =>
            have W1:WOk { S with rd:=S.rd+1,wr:=S.wr } bg ({ O0:=.put k x,aim:=w.aim,O4:=w.O4,O6:=w.O6,O3:=w.O3,Oz:=w.Oz,O1:=QY p w.aim,O5:=w.O5,O7:=w.O7 }:Wk):=⟨W.at_,W.none_,W.kept,W.above,W.chain,W.gap,W.full,W.tell⟩;obtain⟨bg',st⟩:=Kt (S:={ S with rd:=S.rd+1,wr:=S.wr }) (w:=({ O0:=.put k x,aim:=w.aim,O4:=w.O4,O6:=w.O6,O3:=w.O3,Oz:=w.Oz,O1:=QY p w.aim,O5:=w.O5,O7:=w.O7 }:Wk)) (P:=QZ p w.aim x) (T.rd _ _) hn rfl rfl rfl (ud ok hz la lh) (xM ok) (λh=>(by lia)) W1 hw hpl' hlv (λk' h=>(by lia))
            exact⟨_,_,_,bg',rfl,⟨st.tree,⟨st.grow.old⟩,st.wok,st.unt,st.new,st.O2,st.len⟩⟩
          | cut k =>
            dsimp only;by_cases hs:(QY p w.aim).isSome=true
            . rw[Ec hs]
              obtain⟨T',G⟩:=T.write (x:=S.rd+1) (y:=S.wr+1) (p':=without p w.aim) hn rfl rfl rfl (gM ok hz) (λh=>(by lia))
              exact⟨_,_,_,bg,rfl,T',G,λh=>(by cases h),λk' v hu' _ _=>hu'.set hn rfl λh=>(by lia),λk' h=>(by cases h),rfl,by simp⟩
            . rw[Eb hs]
              exact⟨_,_,_,bg,rfl,Stp.still T hu λh=>(by cases h)⟩
          | stretch l h =>
            dsimp only;rcases T.link n p hn with ⟨a,b⟩ | ⟨x,s,q,a,b,c,d,e⟩
            . simp only[a,b]
              exact⟨_,_,_,bg,rfl,Stp.still T hu λh=>(by cases h)⟩
            . simp only[a,b]
              by_cases hx:h<=x
              . rw[Ec hx]
                exact⟨_,_,_,bg,rfl,Stp.still T hu λh=>(by cases h)⟩
              . rw[Eb hx]
                exact⟨_,_,_,bg,rfl,Stp.still T hu λ_=>⟨kE T W hpl' hn hg a c d e rfl rfl rfl (Bp _) (λz=>(by lia)),rfl,λ_=>rfl⟩⟩
end
def ltO:Option Int->Option Int->Bool
 | none,some _=>true
 | some v,some u=>decide (v < u)
 | _,none=>false
theorem zR{a b c:Option Int}(h:ltO a b=true)(g:ltO b c=true):ltO a c=true:=by
 cases a<;>cases b<;>cases c<;>simp_all [ltO];lia
theorem xh(a:Option Int):ltO a a=false:=by cases a<;>simp[ltO]
theorem vA{b:Option Int}{h:Int}(w:ltB b h):ltO b (some h)=true:=by
 cases b with
 | none=>rfl
 | some v=>simpa [ltO] using w v rfl
theorem KY{α:Type}(p q:α->Bool):∀l:List α,(∀x∈l,q x=true->p x=true)->(l.filter q).length<=(l.filter p).length
  | [],_=>Ag _
  | x::l,h=>by
    have ih:=KY p q l λy hy=>h y (Ay _ hy);have hx:=h x (by simp)
    by_cases a:q x=true
    . simp[Au,a,hx a,ih]
    . by_cases b:p x=true
      . simp[Au,a,b];lia
      . simp[Au,a,b,ih]
theorem jZ{α:Type}(p q:α->Bool):∀l:List α,(∀x∈l,q x=true->p x=true)->(∃a∈l,p a=true/\q a=false)->(l.filter q).length < (l.filter p).length
  | [],_,h=>by obtain⟨a,h,_⟩:=h;cases h
  | x::l,h,⟨a,ha,pa,qa⟩=>by
    have le:=KY p q l λy hy=>h y (Ay _ hy);rcases Bm.mp ha with rfl | ha
    . simp[Au,pa,qa];lia
    . have ih:=jZ p q l (λy hy=>h y (Ay _ hy)) ⟨a,ha,pa,qa⟩
      have hx:=h x (by simp)
      by_cases a:q x=true
      . simp[Au,a,hx a];lia
      . by_cases b:p x=true
        . simp[Au,a,b];lia
        . simp[Au,a,b];lia
inductive Chain(S:Sh):Nat->List Nat->Prop
 | last {n:Nat} {p:Pg}:S.pg[n]?=some p->p.sd=none->Chain S n [n]
 | next {n:Nat} {p:Pg} {s:Nat} {r:List Nat}:S.pg[n]?=some p->p.sd=some s->Chain S s r->Chain S n (n::r)
section
variable{S:Sh}{bg:Bg}
theorem xH(T:Tree S bg){n s:Nat}{p:Pg}(hn:S.pg[n]?=some p)(hs:p.sd=some s):∃h q,p.hi=some h/\S.pg[s]?=some q/\q.lv=p.lv/\bg s=some h/\ltO (bg n) (bg s)=true:=by
 rcases T.link n p hn with ⟨_,b⟩ | ⟨h,s',q,a,b,c,d,e⟩
 ·rw[hs] at b;cases b
 ·rw[hs] at b;cases b
  exact⟨h,q,a,c,d,e,by rw[e];exact vA ((T.page n p hn).wide h a)⟩
def mu(S:Sh)(bg:Bg)(n:Nat):Nat:=((List.range S.pg.length).filter λm=>ltO (bg n) (bg m)).length
theorem GX(T:Tree S bg):∀(m n:Nat)(p:Pg),mu S bg n < m->S.pg[n]?=some p->∃r,Chain S n r
  | 0,_,_,h,_=>by lia
  | m+1,n,p,h,hn=>by
    cases hs:p.sd with
    | none=>exact⟨_,.last hn hs⟩
    | some s =>
      obtain⟨x,q,a1,a2,a3,a4,a5⟩:=xH T hn hs;have:mu S bg s < mu S bg n:=by
        refine jZ _ _ _ (λy _ hy=>zR a5 hy) ⟨s,Ch.mpr (Qx a2),a5,xh _⟩
      obtain⟨r,hr⟩:=GX T m s q (by lia) a2
      exact⟨_,.next hn hs hr⟩
theorem Chain.facts(T:Tree S bg){n:Nat}{r:List Nat}(c:Chain S n r):∀p,S.pg[n]?=some p->(∀m∈r,∃q,S.pg[m]?=some q/\q.lv=p.lv)/\(∀m∈r,m=n∨ltO (bg n) (bg m)=true)/\r.Pairwise (λa b=>ltO (bg a) (bg b)=true)/\(∀m∈r,∀q s,S.pg[m]?=some q->q.sd=some s->s∈r)/\n∈r:=by
  induction c with
  | @last n p0 hn hs =>
    intro p hp;rw[hn] at hp;cases hp;refine⟨λm hm=>?_,λm hm=>?_,by simp,λm hm q s hq hqs=>?_,by simp⟩
    . rw[As.mp hm];exact⟨_,hn,rfl⟩
    . exact .inl (As.mp hm)
    . rw[As.mp hm,hn] at hq;cases hq;rw[hs] at hqs;cases hqs
  | @next n p0 s r hn hs c ih =>
    intro p hp;rw[hn] at hp;cases hp;obtain⟨x,q,a1,a2,a3,a4,a5⟩:=xH T hn hs;obtain⟨i1,i2,i3,i4,i5⟩:=ih q a2;have up:∀m∈r,ltO (bg n) (bg m)=true:=λm hm=>by
      rcases i2 m hm with rfl | h
      . exact a5
      . exact zR a5 h
    refine⟨λm hm=>?_,λm hm=>?_,Cp.mpr ⟨up,i3⟩,λm hm q' s' hq hqs=>?_,by simp⟩
    . rcases Bm.mp hm with rfl | hm
      . exact⟨_,hn,rfl⟩
      . obtain⟨z,b1,b2⟩:=i1 m hm
        exact⟨z,b1,b2.trans a3⟩
    . rcases Bm.mp hm with rfl | hm
      . exact .inl rfl
      . exact .inr (up m hm)
    . rcases Bm.mp hm with rfl | hm
      . rw[hn] at hq;cases hq
        rw[hs] at hqs;cases hqs;exact Ay _ i5
      . exact Ay _ (i4 m hm q' s' hq hqs)
theorem vF{r:List Nat}(h:r.Pairwise (λa b=>ltO (bg a) (bg b)=true)):r.Nodup :=
 h.imp λ{a b} hab e=>by subst e;rw[xh] at hab;cases hab
theorem U4(T:Tree S bg){n:Nat}{r:List Nat}{p:Pg}(c:Chain S n r)(hn:S.pg[n]?=some p)(hb:bg n=none):∀(k m:Nat)(q:Pg),((List.range S.pg.length).filter λx=>ltO (bg x) (bg m)).length < k->S.pg[m]?=some q->q.lv=p.lv->m∈r
  | 0,_,_,h,_,_=>by lia
  | k+1,m,q,h,hm,hl=>by
    obtain⟨f1,f2,f3,f4,f5⟩:=c.facts T p hn;cases e:bg m with
    | none=>rw[T.uniq hm hn hl (by rw[e,hb])];exact f5
    | some v =>
      obtain⟨a,z,b1,b2,b3⟩:=T.pred m q hm v e;have lt:ltO (bg a) (bg m)=true:=by rw[e];exact vA ((T.page a z b1).wide v b3)
      have:((List.range S.pg.length).filter λx=>ltO (bg x) (bg a)).length < ((List.range S.pg.length).filter λx=>ltO (bg x) (bg m)).length :=
        jZ _ _ _ (λy _ hy=>zR hy lt) ⟨a,Ch.mpr (Qx b1),lt,xh _⟩
      have ha:=U4 T c hn hb k a z (by lia) b1 (by lia)
      rcases T.link a z b1 with ⟨g1,_⟩ | ⟨x,s,y,g1,g2,g3,g4,g5⟩
      . rw[b3] at g1;cases g1
      . rw[b3] at g1;cases g1
        have:s=m:=T.uniq g3 hm (by lia) (by rw[g5,e])
        subst this;exact f4 a ha z s b1 g2
theorem QcX(T:Tree S bg){n:Nat}{p:Pg}(hn:S.pg[n]?=some p)(hb:bg n=none):∃r,Chain S n r/\r.Nodup/\(∀m,m∈r↔∃q,S.pg[m]?=some q/\q.lv=p.lv):=by
 obtain⟨r,c⟩:=GX T (mu S bg n+1) n p (by lia) hn
 obtain⟨f1,f2,f3,f4,f5⟩:=c.facts T p hn;exact⟨r,c,vF f3,λm=>⟨f1 m,λ⟨q,h1,h2⟩=>U4 T c hn hb _ m q (C5 _) h1 h2⟩⟩
def lvB(S:Sh)(f:Nat->Bool)(n:Nat):Bool:=match S.pg[n]? with
 | some p=>f p.lv
 | none=>false
theorem Yf(S:Sh)(j:Nat):∀l:List Nat,(l.filter (lvB S λx=>decide (x < j+1))).length=(l.filter (lvB S λx=>decide (x < j))).length+(l.filter (lvB S λx=>decide (x=j))).length
  | []=>rfl
  | n::l=>by
    have ih:=Yf S j l;have e:∀f:Nat->Bool,((n::l).filter (lvB S f)).length=(if lvB S f n=true then 1 else 0)+(l.filter (lvB S f)).length:=λf=>by
      by_cases h:lvB S f n=true
      . simp[Au,h];lia
      . simp[Au,h]
    rw[e,e,e,ih];unfold lvB;cases S.pg[n]? with
    | none=>simp
    | some p =>
      simp only[decide_eq_true_eq];rcases Nat.lt_trichotomy p.lv j with h | h | h
      . rw[Ec (by lia),Ec h,Eb (by lia)];lia
      . rw[Ec (by lia),Eb (by lia),Ec h];lia
      . rw[Eb (by lia),Eb (by lia),Eb (by lia)];lia
theorem Vu(S:Sh)(l:List Nat):(l.filter (lvB S λx=>decide (x < 0))).length=0:=by
 rw[List.length_eq_zero_iff,C4];intro n _;unfold lvB;cases S.pg[n]?<;>simp
theorem xW{L:Nat}(h:∀(n:Nat)(p:Pg),S.pg[n]?=some p->p.lv<=L):((List.range S.pg.length).filter (lvB S λx=>decide (x < L+1))).length=S.pg.length:=by
 rw[List.filter_eq_self.mpr,List.length_range];intro n hn;rw[Ch] at hn;unfold lvB;rw[Ac hn];have:=h n _ (Ac hn);simp;lia
inductive Lefts(S:Sh)(bg:Bg):Nat->List Nat->Prop
 | leaf {n:Nat} {p:Pg}:S.pg[n]?=some p->p.lv=0->bg n=none->Lefts S bg n [n]
 | fork {n c:Nat} {p:Pg} {r:List Nat}:S.pg[n]?=some p->0 < p.lv->bg n=none->p.ps[0]?=some (c:Int)->Lefts S bg c r->Lefts S bg n (n::r)
theorem vw(T:Tree S bg):∀(l n:Nat)(p:Pg),p.lv=l->S.pg[n]?=some p->bg n=none->∃r,Lefts S bg n r/\r.length=l+1
  | 0,n,p,h,hn,hb=>⟨_,.leaf hn h hb,rfl⟩
  | l+1,n,p,h,hn,hb=>by
    have ok:=T.page n p hn;have pl:=ok.parts;rw[Eb (by lia)] at pl
    have h0:0 < p.ps.length:=by lia
    obtain⟨c,q,a1,a2,a3,a4⟩:=T.kid n p hn (by lia) 0 _ (Ac h0)
    obtain⟨r,b1,b2⟩:=vw T l c q (by lia) a2 (by rw[a4];exact hb)
    exact⟨_,.fork hn (by lia) hb (by rw[Ac h0,a1]) b1,by simp[b2]⟩
theorem Lefts.get{n:Nat}{r:List Nat}(h:Lefts S bg n r):∀(T:Tree S bg)(p:Pg),S.pg[n]?=some p->r.length=p.lv+1/\∀i c,r[i]?=some c->∃q,S.pg[c]?=some q/\q.lv+i=p.lv/\bg c=none:=by
  induction h with
  | @leaf n p0 hn h0 hb =>
    intro T p hp;rw[hn] at hp;cases hp;refine⟨by simp[h0],λi c hc=>?_⟩
    match i,hc with
    | 0,hc=>cases hc;exact⟨_,hn,rfl,hb⟩
    | i+1,hc=>simp at hc
  | @fork n c p0 r hn h0 hb hc l ih =>
    intro T p hp;rw[hn] at hp;cases hp;obtain⟨c',q,a1,a2,a3,a4⟩:=T.kid n p0 hn h0 0 _ hc;have:c=c':=by lia
    subst this;obtain⟨i1,i2⟩:=ih T q a2;refine⟨by simp[i1];lia,λi d hd=>?_⟩
    match i,hd with
    | 0,hd=>cases hd;exact⟨_,hn,rfl,hb⟩
    | i+1,hd =>
      obtain⟨z,b1,b2,b3⟩:=i2 i d (by simpa using hd)
      exact⟨z,b1,by lia,b3⟩
end
theorem QcU(fs:List (Nat×Nat))(k v:Nat):(zC fs k v).length<=fs.length+1:=by
 unfold zC;split<;>simp
theorem xG(S:Sh)(w:Wk)(n:Nat)(P:Pg):(QG S w n P).2.2.O3=w.O3/\(QG S w n P).2.2.O5=w.O5:=by
 unfold QG;split<;>exact⟨rfl,rfl⟩
theorem vK(p:Pg)(l h:Int):(QX p l h).length<=p.ks.length:=by
 unfold QX;refine Bk (Cb _ _) ?_;rw[List.length_zip];lia
theorem uO(S:Sh)(w:Wk)(n:Nat)(p:Pg):(Jc S w n p).2.2.O3=w.O3/\(Jc S w n p).2.2.O5.length<=w.O5.length+p.ks.length:=by
  obtain⟨O0,aim,O4,O6,O3,Oz,O1,O5,O7⟩:=w;cases O0 with
  | find k=>exact⟨rfl,by simp[Jc]⟩
  | put k x =>
    have:=xG S ⟨.put k x,aim,O4,O6,O3,Oz,QY p aim,O5,O7⟩ n (QZ p aim x);refine⟨this.1,?_⟩;show(QG S ⟨.put k x,aim,O4,O6,O3,Oz,QY p aim,O5,O7⟩ n (QZ p aim x)).2.2.O5.length<=_;rw[this.2];exact Nat.le_add_right _ _
  | cut k=>exact⟨rfl,by simp[Jc]⟩
  | stretch l h =>
    have pl:=vK p l h;unfold Jc;dsimp only;split
    . split
      . exact⟨rfl,by simp;lia⟩
      . exact⟨rfl,by simp;lia⟩
    . exact⟨rfl,by simp;lia⟩
theorem gG{S S':Sh}{w w':Wk}{r:Row}{m:Nat}(hk:∀(n:Nat)(p:Pg),S.pg[n]?=some p->p.ks.length<=m)(h:JZ S w=some (r,S',w')):w'.O3.length<=w.O3.length+1/\w'.O5.length<=w.O5.length+m:=by
 unfold JZ at h;split at h
 ·cases h;exact⟨by lia,by lia⟩
 ·split at h
  ·cases h
  ·rename_i p hp
   have kl:=hk _ p hp;split at h
   ·split at h
    ·cases h
    ·cases h;exact⟨by simp,by simp⟩
   ·split at h
    ·split at h
     ·cases h
     ·cases h;exact⟨by simp,by simp⟩
    ·split at h
     ·split at h
      ·cases h
      ·cases h;exact⟨QcU _ _ _,by simp⟩
     ·split at h
      ·split at h
       ·cases h
       ·rename_i c hc
        have z:=xG { S with rd:=S.rd+1 } w (w.O6.getD S.top) (Zw p w.aim c);have e:=Am h;have e2:(QG { S with rd:=S.rd+1 } w (w.O6.getD S.top) (Zw p w.aim c)).2.2=w':=congrArg (λt=>t.2.2) e;rw[e2] at z;exact⟨by rw[z.1];lia,by rw[z.2];lia⟩
      ·have e:=Am h
       have z:=uO { S with rd:=S.rd+1 } w (w.O6.getD S.top) p;rw[e] at z;have z2:w'.O5.length<=w.O5.length+p.ks.length:=z.2;have z1:w'.O3=w.O3:=z.1;exact⟨by rw[z1];lia,by lia⟩
def fresh(d:Deed):Wk:=⟨d,d.key,0,none,[],none,none,[],false⟩
end TR
namespace D
open PySem PySem.Spec PyProof.Rows L2
def oN:Option Nat->DV
 | none=>.non
 | some n=>.int n
def pgD(p:TR.Pg):DV:=.tup [.int p.lv,.tup (p.ks.map .int),.tup (p.ps.map .int),opt p.hi,oN p.sd]
def Ze:TR.Deed->DV
 | .find k=>.tup [.str "find", .int k]
 | .put k w=>.tup [.str "put", .int k,.int w]
 | .cut k=>.tup [.str "cut", .int k]
 | .stretch l h=>.tup [.str "stretch", .int l,.int h]
def fkD(fs:List (Nat×Nat)):List (Key×DV):=fs.map λp=>(.inl p.1,.int p.2)
def prD(ps:List (Int×Int)):List DV:=ps.map λp=>.tup [.int p.1,.int p.2]
def wkF(s f q:Nat)(d a g p n w e:DV):List (Str×DV):=[("shelf", .ref s),("deed", d),("aim", a),("goal", g),("place", p),("forks", .ref f),("new_page", n),("worth", w),("pairs", .ref q),("ended", e)]
def wkO(s f q:Nat)(w:TR.Wk):OV:=.ins "Walk" (wkF s f q (Ze w.O0) (.int w.aim) (.int w.O4) (oN w.O6) (oN w.Oz) (opt w.O1) (.bl w.O7))
def Gv:TR.Row->DV
 | .non=>.non
 | .side n t=>.tup [.str "side", .int n,.int t]
 | .down n t=>.tup [.str "down", .int n,.int t]
 | .found n w=>.tup [.str "found", .int n,opt w]
 | .put n w k=>.tup [.str "put", .int n,opt w,oN k]
 | .cut n w=>.tup [.str "cut", .int n,opt w]
 | .read n ps none=>.tup [.str "read", .int n,.tup (prD ps),.non,.non]
 | .read n ps (some (t,a))=>.tup [.str "read", .int n,.tup (prD ps),.int t,.int a]
 | .told n k=>.tup [.str "told", .int n,oN k]
 | .raised n t=>.tup [.str "raised", .int n,.int t]
section
variable(s f q:Nat)(d a g p n w e x:DV)
theorem Qbo:List.lookup ("shelf" : Str) (wkF s f q d a g p n w e)=some (.ref s):=by rfl
theorem xN:List.lookup ("deed" : Str) (wkF s f q d a g p n w e)=some d:=by rfl
theorem YN:List.lookup ("aim" : Str) (wkF s f q d a g p n w e)=some a:=by rfl
theorem ue:List.lookup ("goal" : Str) (wkF s f q d a g p n w e)=some g:=by rfl
theorem qo:List.lookup ("place" : Str) (wkF s f q d a g p n w e)=some p:=by rfl
theorem KC:List.lookup ("forks" : Str) (wkF s f q d a g p n w e)=some (.ref f):=by rfl
theorem GI:List.lookup ("new_page" : Str) (wkF s f q d a g p n w e)=some n:=by rfl
theorem qp:List.lookup ("worth" : Str) (wkF s f q d a g p n w e)=some w:=by rfl
theorem Qbn:List.lookup ("pairs" : Str) (wkF s f q d a g p n w e)=some (.ref q):=by rfl
theorem yx:List.lookup ("ended" : Str) (wkF s f q d a g p n w e)=some e:=by rfl
def Qe5:(wkF s f q d a g p n w e).length=10:=rfl
theorem Qdr:List.lookup ("go_on" : Str) (wkF s f q d a g p n w e)=none:=by rfl
theorem Qg1:List.lookup ("do_deed" : Str) (wkF s f q d a g p n w e)=none:=by rfl
theorem Qg2:List.lookup ("tell_fork" : Str) (wkF s f q d a g p n w e)=none:=by rfl
theorem Qg3:List.lookup ("raise_root_over" : Str) (wkF s f q d a g p n w e)=none:=by rfl
theorem Qds:List.lookup ("settle" : Str) (wkF s f q d a g p n w e)=none:=by rfl
theorem Qg4:List.lookup ("find_worth" : Str) (wkF s f q d a g p n w e)=none:=by rfl
theorem Qg5:List.lookup ("put_pair" : Str) (wkF s f q d a g p n w e)=none:=by rfl
theorem Qg6:List.lookup ("cut_key" : Str) (wkF s f q d a g p n w e)=none:=by rfl
theorem Qg7:List.lookup ("read_pairs" : Str) (wkF s f q d a g p n w e)=none:=by rfl
theorem Qe6:List.lookup ("step" : Str) (wkF s f q d a g p n w e)=none:=by rfl
theorem Qe7:List.lookup ("over" : Str) (wkF s f q d a g p n w e)=none:=by rfl
end
theorem QdU(fs:List (Nat×Nat))(k v:Nat):VY (fkD fs) (.inl (k:Int)) (.int v)=fkD (TR.zC fs k v):=by
 unfold VY TR.zC;have e:((fkD fs).any λkv=>decide (kv.1=(.inl (k:Int):Key)))=fs.any λp=>decide (p.1=k):=by
  unfold fkD;rw[List.any_map];congr 1;funext p;simp only[Function.comp];congr 1;simp;lia
 rw[e];by_cases h:(fs.any λp=>decide (p.1=k))=true
 ·rw[Ec h,Ec h]
  unfold fkD;rw[List.map_map,List.map_map];apply List.map_congr_left;intro p _;simp only[Function.comp];by_cases q:p.1=k
  ·simp[q]
  ·have:¬ ((p.1:Int)=(k:Int)):=by lia
   simp[q,this]
 ·rw[Eb h,Eb h]
  simp[fkD]
theorem QdV(fs:List (Nat×Nat))(k:Nat):Yx (fkD fs) (.inl (k:Int))=(TR.JU fs k).map λv=>.int v:=by
  induction fs with
  | nil=>rfl
  | cons p r ih =>
    rw[show fkD (p::r)=(.inl (p.1:Int),.int p.2)::fkD r from rfl,KB,ih];unfold TR.JU;rw[B8];by_cases q:p.1=k
    . simp[q]
    . have:¬ ((p.1:Int)=(k:Int)):=by lia
      simp[q,this]
def QdT(fs:List (Nat×Nat)):(fkD fs).length=fs.length:=Bt _
section
variable{c f m:Str}{o e:DEx}{fa:DAx}{env:En}{hp hp1 hp2:Hs}{a n:Nat}{fs:List (Str×DV)}{d v:DV}{ds:List DV}{F:Et}
theorem xo{α:Type}{k:Nat->List (Str×DV)->M α}(h:hp[a]?=some (.ins c fs)):onI c (.ref a) k hp=k a fs hp:=by
 show(ZX a >>= _) hp=_;rw[Qf (ZF h)];show(Qy (decide (c=c)) >>= λ_=>k a fs) hp=_;rw[Eg rfl];rfl
theorem Jf(he:e env hp=some (v,hp1))(ho:o env hp1=some (.ref a,hp1))(h:hp1[a]?=some (.ins c fs))(hl:fs.length < 1000):Q6 c f o e env hp=some ((.nx,env),hp1.set a (.ins c (JJ f v fs))):=by
 unfold Q6;rw[Qf he,Qf ho];unfold jF;have:onI c (.ref a) (λn fs=>do Qy (decide (fs.length < 1000));xE n (.ins c (JJ f v fs))) hp1=some ((),hp1.set a (.ins c (JJ f v fs))):=by
  rw[xo h,Eg hl];rfl
 rw[Qf this];rfl
theorem QK(ho:o env hp=some (.ref a,hp1))(h:hp1[a]?=some (.ins c fs))(hf:fs.lookup f=some d):QC c f o env hp=some (d,hp1):=by
 unfold QC;rw[Qf ho];unfold ju;rw[xo h,hf];rfl
theorem Q3(ho:o env hp=some (.ref a,hp))(h:hp[a]?=some (.ins c fs))(hm:fs.lookup m=none)(ha:fa env hp=some (ds,hp1))(hn:ds.length+1=n)(hF:F (.ref a::ds) hp1=some (d,hp2)):Qv c m n F o fa env hp=some (d,hp2):=by
 unfold Qv;rw[Qf ho];have:onI c (.ref a) (λ_ fs=>Qy (fs.lookup m).isNone) hp=some ((),hp):=by rw[xo h,hm];rfl
 rw[Qf this,Qf ha,Eg hn];show(Qy true >>= λ_=>F (.ref a::ds)) hp1=_;exact hF
def qJ:Qn env hp=some ([],hp):=rfl
theorem Zq(h:e env hp=some (v,hp1)):Qc e Qn env hp=some ([v],hp1):=by unfold Qc;rw[Qf h];rfl
theorem Jb{e':DEx}(h:e env hp=some (v,hp1))(h':e' env hp1=some (v',hp2)):Qc e (Qc e' Qn) env hp=some ([v,v'],hp2):=by
 have:=Zq h';unfold Qc at this ⊢;rw[Qf h,Qf this];rfl
theorem Xu{e' e'':DEx}(h:e env hp=some (v,hp1))(h':e' env hp1=some (v',hp2))(h'':e'' env hp2=some (v'',hp3)):Qc e (Qc e' (Qc e'' Qn)) env hp=some ([v,v',v''],hp3):=by
 have:=Jb h' h'';unfold Qc at this ⊢;rw[Qf h,Qf this];rfl
theorem Qe{i:Nat}(h:env[i]?=some (.val d)):Qb i env hp=some (d,hp):=by unfold Qb;rw[h];rfl
theorem ZD{k:Nat}(ha:fa env hp=some (ds,hp1))(hk:ds.length=k)(hF:F ds hp1=some (d,hp2)):QH k F fa env hp=some (d,hp2):=by
 unfold QH;rw[Qf ha,Eg hk];exact hF
theorem Zz{c:DTx}{f g:DSx}(h:c env hp=some (true,hp1)):sIf c f g env hp=f env hp1:=by rw[Qc1 h];rfl
theorem QS{c:DTx}{f g:DSx}(h:c env hp=some (false,hp1)):sIf c f g env hp=g env hp1:=by rw[Qc1 h];rfl
def QT:Zi env hp=some ((.nx,env),hp):=rfl
theorem Vh{i:Nat}(h:hp[a]?=some (.lst ds))(hd:ds[i]?=some d):ixG (.ref a) (.int i) hp=some (d,hp):=by
 show(ZX a >>= _) hp=_;rw[Qf (ZF h)];show(asI (.int (i:Int)) >>= λi=>jb (atI ds i)) hp=_;simp only[asI,Ej,Yz hd];rfl
end
theorem QdP{o:DEx}{fa:DAx}{hp:Hs}{a:Nat}{fs:List (Nat×Nat)}{j:Nat}(ho:o env hp=some (.ref a,hp))(h:hp[a]?=some (.dic (fkD fs)))(ha:fa env hp=some ([.int (j:Int)],hp)):Xd "dict" YF o fa env hp=some (oN (TR.JU fs j),hp):=by
 unfold Xd;rw[Qf ho];have e2:X0 "dict" (.ref a) hp=some ((),hp):=by
  show(ZX a >>= _) hp=_;rw[Qf (ZF h)];rfl
 rw[Qf e2,Qf ha];show(ZX a >>= _) hp=_;rw[Qf (ZF h)];show some (((Yx (fkD fs) (.inl (j:Int))).getD .non),hp)=_;rw[QdV];cases TR.JU fs j<;>rfl
theorem wl{s f q:Nat}{d a g p n w e:DV}:(wkF s f q d a g p n w e).length < 1000:=by rw[Qe5];decide
theorem Z1{xs:List DV}{i:Nat}(h:xs[i]?=some d)(hp:Hs):ixG (.tup xs) (.int i) hp=some (d,hp):=by
 show ixD (.tup xs) (.int i) hp=_;simp only[ixD,Yz h];rfl
def Go(p:TR.Pg)(hp:Hs):ixG (pgD p) (.int 0) hp=some (.int p.lv,hp):=Z1 (i:=0) rfl hp
def uW(p:TR.Pg)(hp:Hs):ixG (pgD p) (.int 1) hp=some (.tup (p.ks.map .int),hp):=Z1 (i:=1) rfl hp
def yo(p:TR.Pg)(hp:Hs):ixG (pgD p) (.int 2) hp=some (.tup (p.ps.map .int),hp):=Z1 (i:=2) rfl hp
def Gn(p:TR.Pg)(hp:Hs):ixG (pgD p) (.int 3) hp=some (opt p.hi,hp):=Z1 (i:=3) rfl hp
def uX(p:TR.Pg)(hp:Hs):ixG (pgD p) (.int 4) hp=some (oN p.sd,hp):=Z1 (i:=4) rfl hp
theorem QbH(d:TR.Deed)(hp:Hs):ixG (Ze d) (.int 1) hp=some (.int d.key,hp):=by cases d<;>exact Z1 (i:=1) rfl hp
section
variable{e e' e'' e3 e4:DEx}{fa:DAx}{env:En}{hp hp1 hp2 hp3 hp4 hp5:Hs}{v v' v'' v3 v4 d:DV}{ds:List DV}
theorem JA(ha:fa env hp=some (ds,hp1))(hs:ds.length<=100000):ZE fa env hp=some (.tup ds,hp1):=by
 unfold ZE;rw[Qf ha];have:YM ds=true:=Eg hs;rw[this];rfl
theorem gS(h:e env hp=some (v,hp1))(h':e' env hp1=some (v',hp2))(h'':e'' env hp2=some (v'',hp3))(h3:e3 env hp3=some (v3,hp4)):Qc e (Qc e' (Qc e'' (Qc e3 Qn))) env hp=some ([v,v',v'',v3],hp4):=by
 have:=Xu h' h'' h3;unfold Qc at this ⊢;rw[Qf h,Qf this];rfl
theorem Qfd(h:e env hp=some (v,hp1))(h':e' env hp1=some (v',hp2))(h'':e'' env hp2=some (v'',hp3))(h3:e3 env hp3=some (v3,hp4))(h4:e4 env hp4=some (v4,hp5)):Qc e (Qc e' (Qc e'' (Qc e3 (Qc e4 Qn)))) env hp=some ([v,v',v'',v3,v4],hp5):=by
 have:=gS h' h'' h3 h4;unfold Qc at this ⊢;rw[Qf h,Qf this];rfl
end
theorem QaB{t:DV->M Bool}{f:DV->M DV}{p:DV->Bool}(ds:List DV)(ht:∀d∈ds,t d hp=some (p d,hp))(hf:∀d∈ds,f d hp=some (d,hp))(hl:ds.length < 100000):JF (nxD ds) t f 100000 0 hp=some (ds.filter p,hp):=by
  suffices h:∀(m i n:Nat),m+i=ds.length->m < n->JF (nxD ds) t f n i hp=some ((ds.drop i).filter p,hp) by simpa using h ds.length 0 100000 rfl hl
  intro m;induction m with
  | zero =>
    intro i n e hn';obtain⟨n,rfl⟩:∃k,n=k+1:=⟨n - 1,by lia⟩
    have:i=ds.length:=by lia
    subst this;have e1:=zA ds ds.length (Ag _) hp;rw[show ds[ds.length]?=none by simp] at e1
    rw[JF,Qf e1,List.drop_length];rfl
  | succ m ih =>
    intro i n e hn';obtain⟨n,rfl⟩:∃k,n=k+1:=⟨n - 1,by lia⟩
    have hlt:i < ds.length:=by lia
    have e1:=zA ds i (by lia) hp
    rw[Ac hlt] at e1;have hi:=ih (i+1) n (by lia) (by lia)
    rw[JF,Qf e1];simp only;rw[Qf (ht ds[i] (B9 hlt)),Bj hlt];cases q:p ds[i] with
    | false=>rw[List.filter_cons_of_neg (by simp[q])];simpa using hi
    | true =>
      rw[List.filter_cons_of_pos q];simp only[if_true];rw[Qf (hf ds[i] (B9 hlt)),Qf hi];rfl
theorem Qan:∀(ks ps:List Int),xO (ks.map .int) (ps.map .int)=prD (ks.zip ps)
  | [],_=>by cases ‹List Int› <;> rfl
  | _::_,[]=>rfl
  | k::ks,p::ps=>by
    show .tup [.int k,.int p]::xO (ks.map .int) (ps.map .int)=_;rw[Qan ks ps];rfl
def Qex(l h:Int):DV->Bool
 | .tup [.int x,_]=>decide (l<=x)&&decide (x < h)
 | _=>false
theorem gh(l h:Int)(zs:List (Int×Int)):(prD zs).filter (Qex l h)=prD (zs.filter λq=>decide (l<=q.1)&&decide (q.1 < h)):=by
 unfold prD;rw[List.filter_map];rfl
theorem QaJ{o:DEx}{fa:DAx}{hp:Hs}{a b:Nat}{ds es:List DV}(ho:o env hp=some (.ref a,hp))(h:hp[a]?=some (.lst ds))(ha:fa env hp=some ([.ref b],hp))(hb:hp[b]?=some (.lst es))(hl:ds.length+es.length<=100000):Xd "list" xk o fa env hp=some (.non,hp.set a (.lst (ds++es))):=by
 unfold Xd;rw[Qf ho];have e2:X0 "list" (.ref a) hp=some ((),hp):=by
  show(ZX a >>= _) hp=_;rw[Qf (ZF h)];rfl
 rw[Qf e2,Qf ha];show(ZX a >>= _) hp=_;rw[Qf (ZF h)];show(ZX b >>= _) hp=_;rw[Qf (ZF hb)];show(Qy (decide (ds.length+es.length<=lim)) >>= λ_=>xE a (.lst (ds++es)) >>= λ_=>pure DV.non) hp=_;rw[show decide (ds.length+es.length<=lim)=true from Eg hl];rfl
def Gp(zs:List (Int×Int)):(prD zs).length=zs.length:=Bt _
theorem Qew(zs ys:List (Int×Int)):prD zs++prD ys=prD (zs++ys):=by simp[prD]
theorem zS(o:Option Int):isD (opt o) .non=pure (.bl o.isNone):=by cases o<;>rfl
theorem uV(o:Option Int):yb (opt o) .non=pure (.bl o.isSome):=by cases o<;>rfl
theorem xm(o:Option Nat):isD (oN o) .non=pure (.bl o.isNone):=by cases o<;>rfl
theorem kT{x:Str}(h:PyData.strOk x=true):okP (.str x)=true:=by simp[okP,Kk,toP,SeqAt.shaped,PyData.canLay0,PyData.depth,h]
theorem eqS{x y:Str}(hp:Hs)(h1:PyData.strOk x=true)(h2:PyData.strOk y=true){b:Bool}(h:(x==y)=b):eqG (.str x) (.str y) hp=some (.bl b,hp):=by
 unfold eqG;have e:VE (.str x) (.str y) hp=some (x==y,hp):=by
  rw[Vg (kr 39 hp x) (kr 39 hp y) (kT h1) (kT h2)];rfl
 rw[Qf e,h];rfl
section
variable{c c':DTx}{e e':DEx}{env:En}{hp hp1:Hs}{b:Bool}
theorem Qfj(h:c env hp=some (true,hp1)):eOr c c' env hp=some (true,hp1):=by unfold eOr;rw[Qf h];rfl
theorem yC(h:c env hp=some (false,hp1)):eOr c c' env hp=c' env hp1:=by unfold eOr;rw[Qf h];rfl
theorem KW(h:c env hp=some (true,hp1)):X5 c c' env hp=c' env hp1:=by unfold X5;rw[Qf h];rfl
theorem KU(h:c env hp=some (false,hp1)):X5 c c' env hp=some (false,hp1):=by unfold X5;rw[Qf h];rfl
theorem Qhs(h:c env hp=some (true,hp1)):eIf c e e' env hp=e env hp1:=by unfold eIf;rw[Qf h];rfl
theorem Qhr(h:c env hp=some (false,hp1)):eIf c e e' env hp=e' env hp1:=by unfold eIf;rw[Qf h];rfl
end
theorem VM{w:TR.Wk}{i:Nat}{k:Int}(h:w.O0=.find k):TR.Jc S w i p=(.found i (TR.QY p w.aim),S,{ w with O1:=TR.QY p w.aim,O7:=true }):=by
 cases w;simp only at h;subst h;rfl
theorem Kh{w:TR.Wk}{i:Nat}{k x:Int}(h:w.O0=.put k x):TR.Jc S w i p=(.put i (TR.QY p w.aim) (TR.QG S { w with O1:=TR.QY p w.aim } i (TR.QZ p w.aim x)).1,(TR.QG S { w with O1:=TR.QY p w.aim } i (TR.QZ p w.aim x)).2.1,(TR.QG S { w with O1:=TR.QY p w.aim } i (TR.QZ p w.aim x)).2.2):=by
 cases w;simp only at h;subst h;rfl
theorem Kg{S:TR.Sh}{w:TR.Wk}{i:Nat}{k:Int}(h:w.O0=.cut k):TR.Jc S w i p=(.cut i (TR.QY p w.aim),if (TR.QY p w.aim).isSome=true then { S with pg:=S.pg.set i (TR.without p w.aim),wr:=S.wr+1 } else S,{ w with O1:=TR.QY p w.aim,O7:=true }):=by
 cases w;simp only at h;subst h;rfl
theorem QaU{w:TR.Wk}{i:Nat}{p:TR.Pg}{l h:Int}(e:w.O0=.stretch l h)(h1:p.hi=none):TR.Jc S w i p=(.read i (TR.QX p l h) none,S,{ w with O5:=w.O5++TR.QX p l h,O7:=true }):=by
 cases w;cases p;simp only at e h1;subst e h1;rfl
theorem Qch{w:TR.Wk}{i:Nat}{p:TR.Pg}{l h x:Int}{s:Nat}(e:w.O0=.stretch l h)(h1:p.hi=some x)(h2:p.sd=some s):TR.Jc S w i p=if h<=x then (.read i (TR.QX p l h) none,S,{ w with O5:=w.O5++TR.QX p l h,O7:=true }) else (.read i (TR.QX p l h) (some (s,x)),S,{ w with O5:=w.O5++TR.QX p l h,aim:=x,O6:=some s }):=by
 cases w;cases p;simp only at e h1 h2;subst e h1 h2;rfl
theorem QgP{e o j:DEx}{hp:Hs}{a l v:Nat}{fs:List (Nat×Nat)}(he:e env hp=some (.int (v:Int),hp))(ho:o env hp=some (.ref a,hp))(hj:j env hp=some (.int (l:Int),hp))(h:hp[a]?=some (.dic (fkD fs)))(hf:fs.length < 5000):Yb e (gSb o j) env hp=some ((.nx,env),hp.set a (.dic (fkD (TR.zC fs l v)))):=by
 refine Gw he ?_;unfold gSb;rw[Qf ho,Qf hj];have:=vN (d:=.int (v:Int)) h (show za (.int (l:Int))=some (.inl (l:Int)) from rfl) (by rw[QdT];lia)
 rw[QdU] at this;rw[Qf this];rfl
section
variable{f g:DEx}{fa:DAx}{env:En}{hp hp1 hp2:Hs}{d x y:DV}{ds:List DV}{F:Et}
theorem XA(h:fa env hp=some (ds,hp1))(hF:F ds hp1=some (d,hp2)):Zd F fa env hp=some (d,hp2):=by unfold Zd;rw[Qf h];exact hF
def Qcj(ds:List DV)(hp:Hs):Z4 [.lst ds] hp=some (.int ds.length,hp):=rfl
def VN(ds:List DV)(hp:Hs):Z4 [.tup ds] hp=some (.int ds.length,hp):=rfl
theorem Qck{n:Nat}(h:hp[n]?=some (.lst ds)):Z4 [.ref n] hp=some (.int ds.length,hp):=by
 show(ZX n >>= _) hp=_;rw[Qf (ZF h)];rfl
def vz(ds:List DV)(hp:Hs):QaZ [.tup ds] hp=some (.lst ds,hp):=rfl
theorem neI(i j:Int)(hp:Hs):neG (.int i) (.int j) hp=some (.bl (!(i==j)),hp):=by
 unfold neG;rw[Qf (vg i j hp)];rfl
theorem QhK(i:Int)(hp:Hs):neG (.int i) (.int i) hp=some (.bl false,hp):=by rw[neI];simp
theorem eqI(i j:Int)(hp:Hs):eqG (.int i) (.int j) hp=some (.bl (i==j),hp):=by
 unfold eqG;rw[Qf (vg i j hp)];rfl
theorem neO(a b:Option Int)(hp:Hs):neG (opt a) (opt b) hp=some (.bl (!decide (a=b)),hp):=by
 unfold neG;rw[Qf (QbR a b hp)];rfl
theorem QiD(b:Bool)(hp:Hs):neG (.bl b) (.bl b) hp=some (.bl false,hp):=by
 have e:=Vg (QbL 39 hp b) (QbL 39 hp b) (QcD b) (QcD b);unfold neG;rw[Qf e];cases b<;>rfl
end
theorem jJ{f:DIx}(h:f env hp=some (ds,hp1)):xOf f env hp=some (nxD ds,hp1):=by unfold xOf;rw[Qf h];rfl
section
variable{c:DTx}{b:DSx}{n:Nat}{env env1:En}{hp hp1 hp2:Hs}
theorem Qam(h:c env hp=some (true,hp1))(hb:b env hp1=some ((.nx,env1),hp2)):J2 c b (n+1) env hp=J2 c b n env1 hp2:=by
 rw[J2,Qf h];simp only[if_true];rw[Qf hb]
theorem Qe2(h:c env hp=some (false,hp1)):J2 c b (n+1) env hp=some ((.nx,env),hp1):=by
 rw[J2,Qf h];rfl
end
def nD(r:List Nat):List DV:=r.map λn:Nat=>DV.int (n:Int)
theorem uS{r:List Nat}{i n:Nat}(h:r[i]?=some n):(nD r)[i]?=some (.int (n:Int)):=by unfold nD;rw[Bv,h];rfl
theorem kB:∀r:List Nat,(nD r).all Js=true
  | []=>rfl
  | x::xs=>by
    show(Js (.int (x:Int))&&(nD xs).all Js)=true;rw[kB xs];rfl
theorem Qfo(k:Nat):∀r:List Nat,inB (.int (k:Int)) (nD r)=decide (k∈r)
  | []=>rfl
  | x::xs=>by
    have ih:=Qfo k xs;unfold inB at ih ⊢;show((((x:Int)==(k:Int))||(nD xs).any λy=>eqF y (.int (k:Int))))=_
    rw[ih];by_cases h:x=k
    . subst h;simp
    . have:¬ (x:Int)=(k:Int):=by lia
      simp[h,this,Ne.symm h]
theorem QhA{hp:Hs}{fl k:Nat}{r:List Nat}(h:hp[fl]?=some (.lst (nD r))):inG (.int (k:Int)) (.ref fl) hp=some (.bl (decide (k∈r)),hp):=by
 unfold inG;have:Qcr (.int (k:Int)) (.ref fl) hp=some (decide (k∈r),hp):=by
  show(ZX fl >>= _) hp=_;rw[Qf (ZF h)];show(Qy (Js (.int (k:Int))&&(nD r).all Js) >>= λ_=>pure (inB (.int (k:Int)) (nD r))) hp=_;rw[kB,Qfo];rfl
 rw[Qf this];rfl
theorem Qea{hp:Hs}{d k:Nat}(h:hp[d]?=some (.dic kvs))(hv:Yx kvs (.inl (k:Int))=some v):Qd9 (.int (k:Int)) (.ref d) hp=some (.bl false,hp):=by
 unfold Qd9;have:Qcr (.int (k:Int)) (.ref d) hp=some (true,hp):=by
  show(ZX d >>= _) hp=_;rw[Qf (ZF h)];show some ((Yx kvs (.inl (k:Int))).isSome,hp)=_;rw[hv];rfl
 rw[Qf this];rfl
theorem QfX{hp:Hs}{d k:Nat}(h:hp[d]?=some (.dic kvs))(hv:Yx kvs (.inl (k:Int))=some v):ixG (.ref d) (.int (k:Int)) hp=some (v,hp):=by
 show(ZX d >>= _) hp=_;rw[Qf (ZF h)];show(jb (Yx kvs (.inl (k:Int)))) hp=_;rw[hv];rfl
theorem xQ{o e:DEx}{hp:Hs}{a:Nat}{ds:List DV}(ho:o env hp=some (.ref a,hp))(h:hp[a]?=some (.lst ds))(he:e env hp=some (d,hp))(hl:ds.length < 100000):Xd "list" ZG o (Qc e Qn) env hp=some (.non,hp.set a (.lst (ds++[d]))):=by
 unfold Xd;rw[Qf ho];have e2:X0 "list" (.ref a) hp=some ((),hp):=by
  show(ZX a >>= _) hp=_;rw[Qf (ZF h)];rfl
 rw[Qf e2,Qf (Zq he)];show(ZX a >>= _) hp=_;rw[Qf (ZF h)];show(Qy (decide (ds.length < lim)) >>= λ_=>xE a (.lst (ds++[d])) >>= λ_=>pure DV.non) hp=_;rw[show decide (ds.length < lim)=true from Eg hl];rfl
def bgD(bg:Nat->Option Int)(r:List Nat):List (Key×DV):=r.map λn:Nat=>((.inl (n:Int):Key),opt (bg n))
theorem QdH(bg:Nat->Option Int){r:List Nat}{n:Nat}(h:n∈r):Yx (bgD bg r) (.inl (n:Int))=some (opt (bg n)):=by
  induction r with
  | nil=>cases h
  | cons x xs ih =>
    rw[show bgD bg (x::xs)=(.inl (x:Int),opt (bg x))::bgD bg xs from rfl,KB];by_cases e:x=n
    . subst e;simp
    . have:¬ (x:Int)=(n:Int):=by lia
      rw[Eb (by simp[this])]
      exact ih ((Bm.mp h).resolve_left (Ne.symm e))
theorem QdG(bg:Nat->Option Int){r:List Nat}{n:Nat}(h:n∉r):VY (bgD bg r) (.inl (n:Int)) (opt (bg n))=bgD bg (r++[n]):=by
 unfold VY;rw[Eb]
 ·simp[bgD]
 ·rw[List.any_eq_true]
  rintro⟨x,hx,e⟩;obtain⟨m,hm,rfl⟩:=C9.mp hx;simp at e;have:m=n:=by lia
  exact h (this▸hm)
theorem QeE{e o j:DEx}{hp:Hs}{a n:Nat}{kvs:List (Key×DV)}(he:e env hp=some (d,hp))(ho:o env hp=some (.ref a,hp))(hj:j env hp=some (.int (n:Int),hp))(h:hp[a]?=some (.dic kvs))(hl:kvs.length < 100000):Yb e (gSb o j) env hp=some ((.nx,env),hp.set a (.dic (VY kvs (.inl (n:Int)) d))):=by
 refine Gw he ?_;unfold gSb;rw[Qf ho,Qf hj,Qf (vN (d:=d) h (show za (.int (n:Int))=some (.inl (n:Int)) from rfl) hl)];rfl
theorem Qaf{n:Nat}{body:DSx}{ds:List DV}(h:body (ds.map .val++List.replicate (n - ds.length) .un) hp=some ((.nx,env),hp1)):Q8 n body ds hp=some (.non,hp1):=by
 unfold Q8;rw[Qf h];rfl
theorem vM(f:Str)(d:DV):∀fs:List (Str×DV),(JJ f d fs).length<=fs.length+1
  | []=>Ag _
  | (g,x)::r=>by
    unfold JJ;split
    . simp
    . simpa using vM f d r
def J4{f:Str}{fs:List (Str×DV)}{m:Nat}(h:fs.length<=m):(JJ f d fs).length<=m+1:=Bk (vM f d fs) (Nat.succ_le_succ h)
def Pl:Nat->DV->Prop
 | _,.non=>True
 | _,.bl _=>True
 | _,.int _=>True
 | _,.str x=>PyData.strOk x=true
 | n+1,.tup ds=>∀d∈ds,Pl n d
 | n+1,.lst ds=>∀d∈ds,Pl n d
 | _,_=>False
theorem uH:∀(n:Nat)(d:DV)(k:Nat)(hp:Hs),Pl n d->drf (n+k+1) hp d=some d
  | n,.non,k,hp,_=>rfl
  | n,.bl _,k,hp,_=>rfl
  | n,.int _,k,hp,_=>rfl
  | n,.str _,k,hp,_=>rfl
  | 0,.tup ds,k,hp,h=>h.elim
  | 0,.lst ds,k,hp,h=>h.elim
  | 0,.ref _,k,hp,h=>h.elim
  | n+1,.ref _,k,hp,h=>h.elim
  | n+1,.tup ds,k,hp,h=>by
    show(ds.mapM (drf (n+1+k) hp)).map DV.tup=_;rw[yh λd hd=>(by rw[Nat.add_right_comm];exact uH n d k hp (h d hd))];rfl
  | n+1,.lst ds,k,hp,h=>by
    show(ds.mapM (drf (n+1+k) hp)).map DV.lst=_;rw[yh λd hd=>(by rw[Nat.add_right_comm];exact uH n d k hp (h d hd))];rfl
theorem Gc:∀(ds:List DV),(∀d∈ds,(toP d).canLay0=true)->PyData.canLayAll0 (toPs ds)=true
 | [],_=>by unfold toPs PyData.canLayAll0;rfl
 | d::ds,h=>by unfold toPs PyData.canLayAll0;rw[h d (by simp),Gc ds λx hx=>h x (Ay _ hx)];rfl
theorem Gd:∀(n:Nat)(d:DV),Pl n d->(toP d).canLay0=true
 | n,.non,_=>by unfold toP PyData.canLay0;rfl
 | n,.bl _,_=>by unfold toP PyData.canLay0;rfl
 | n,.int _,_=>by unfold toP PyData.canLay0;rfl
 | n,.str x,h=>by cases n<;>(unfold toP PyData.canLay0;exact h)
 | 0,.tup ds,h=>h.elim
 | 0,.lst ds,h=>h.elim
 | 0,.ref _,h=>h.elim
 | n+1,.ref _,h=>h.elim
 | n+1,.tup ds,h=>by unfold toP PyData.canLay0;exact Gc ds λd hd=>Gd n d (h d hd)
 | n+1,.lst ds,h=>by unfold toP PyData.canLay0;exact Gc ds λd hd=>Gd n d (h d hd)
theorem xY(n:Nat):∀(ds:List DV),(∀d∈ds,(toP d).depth<=n)->PyData.depthAll (toPs ds)<=n
 | [],_=>by unfold toPs PyData.depthAll;exact Bf _
 | d::ds,h=>by unfold toPs PyData.depthAll;exact Nat.max_le.mpr ⟨h d (by simp),xY n ds λx hx=>h x (Ay _ hx)⟩
theorem Vx:∀(n:Nat)(d:DV),Pl n d->(toP d).depth<=n
 | n,.non,_=>by unfold toP PyData.depth;exact Bf _
 | n,.bl _,_=>by unfold toP PyData.depth;exact Bf _
 | n,.int _,_=>by unfold toP PyData.depth;exact Bf _
 | n,.str x,h=>by unfold toP PyData.depth;exact Bf _
 | 0,.tup ds,h=>h.elim
 | 0,.lst ds,h=>h.elim
 | 0,.ref _,h=>h.elim
 | n+1,.ref _,h=>h.elim
 | n+1,.tup ds,h=>by unfold toP PyData.depth;exact Nat.succ_le_succ (xY n ds λd hd=>Vx n d (h d hd))
 | n+1,.lst ds,h=>by unfold toP PyData.depth;exact Nat.succ_le_succ (xY n ds λd hd=>Vx n d (h d hd))
theorem Kv{n:Nat}(h:Pl n d)(hn:n<=64):SeqAt.shaped (toP d)=true:=by
 unfold SeqAt.shaped;rw[Gd n d h,Eg (Bk (Vx n d h) hn)];rfl
theorem G9{n:Nat}(h:Pl n d)(hn:n < 40)(hp:Hs):drf 40 hp d=some d:=by
 have:=uH n d (39 - n) hp h
 rwa [show n+(39 - n)+1=40 by lia] at this
theorem QgB(n:Nat)(i:Int):Pl n (.int i):=by cases n<;>trivial
theorem U8{n m:Nat}(h:Pl n x)(h':Pl m y)(hn:n < 40)(hm:m < 40)(hp:Hs):VE x y hp=some (PyData.eqv (toP x) (toP y),hp):=by
 unfold VE QaG;show((Option.map _ (drf 40 hp x)).bind _)=_;rw[G9 h hn];show((Option.map _ (drf 40 hp y)).bind _)=_;rw[G9 h' hm];show(Qy (SeqAt.shaped (toP x)&&SeqAt.shaped (toP y)) >>= λ_=>pure (PyData.eqv (toP x) (toP y)):M Bool) hp=_;rw[Kv h (by lia),Kv h' (by lia)]
 rfl
theorem QaI{n:Nat}(h:Pl n x)(hn:n < 40)(hp:Hs):VE x x hp=some (true,hp):=by
 rw[U8 h h hn hn,SeqAt.eqv_refl _ (Gd n x h)]
theorem QbP{n:Nat}(h:Pl n x)(hn:n < 40)(hp:Hs):eqG x x hp=some (.bl true,hp):=by
 unfold eqG;rw[Qf (QaI h hn hp)];rfl
theorem U6{t:DV->M Bool}{f:DV->M DV}{g:DV->DV}(ds:List DV)(ht:∀d∈ds,t d hp=some (true,hp))(hf:∀d∈ds,f d hp=some (g d,hp))(hl:ds.length < 100000):JF (nxD ds) t f 100000 0 hp=some (ds.map g,hp):=by
  suffices h:∀(m i n:Nat),m+i=ds.length->m < n->JF (nxD ds) t f n i hp=some ((ds.drop i).map g,hp) by simpa using h ds.length 0 100000 rfl hl
  intro m;induction m with
  | zero =>
    intro i n e hn';obtain⟨n,rfl⟩:∃k,n=k+1:=⟨n - 1,by lia⟩
    have:i=ds.length:=by lia
    subst this;have e1:=zA ds ds.length (Ag _) hp;rw[show ds[ds.length]?=none by simp] at e1
    rw[JF,Qf e1,List.drop_length];rfl
  | succ m ih =>
    intro i n e hn';obtain⟨n,rfl⟩:∃k,n=k+1:=⟨n - 1,by lia⟩
    have hlt:i < ds.length:=by lia
    have e1:=zA ds i (by lia) hp
    rw[Ac hlt] at e1;rw[JF,Qf e1];simp only;rw[Qf (ht ds[i] (B9 hlt)),Bj hlt];simp only[if_true];rw[Qf (hf ds[i] (B9 hlt)),Qf (ih (i+1) n (by lia) (by lia))];rfl
def gW{α:Type}{m:M α}{x:α}(h:∀hp,m hp=some (x,hp)):m=pure x:=funext h
section
variable{env:En}{hp hp1 hp2 hp3 hp4 hp5 hp6 hp7:Hs}{e e' e'' e3 e4 e5 e6:DEx}{v v' v'' v3 v4 v5 v6:DV}
end
theorem QaW(l:Addr)(items:Array Value)(n:Nat)(sl:Array (Option Value))(x:Int)(u:Tok)(hc0:¬(!Builtin.List.listFitsIndex x)=true)(hc1:¬items.size * x.toNat > (2 ^ 63 - 1) / 8)(hc2:¬Builtin.List.listTooLong (items.size * x.toNat)=true):
  Meets (Builtin.«list.__mul__» ⟨[.ref l,.int x u],[]⟩) (λ_ R s=>s.heap.get? l=some { cls:=.type "list", dict:=none,data:=.seq items n,slots:=sl }/\R (.ok (.ret (Value.ref s.heap.objs.size))) { s with heap:=s.heap.push { cls:=Value.type "list", data:=Data.seq (List.foldl (λx1 x2=>x1++x2) #[] (List.replicate (if items.isEmpty=true then 0 else x.toNat) items)) },toks:=s.toks }) :=
 .of_wp λprog w A R s h=>by
  obtain⟨hp,g,d,tk,os⟩:=s;obtain⟨hl,h⟩:=h;have hsz:=PySem.AutoListH.joined_fits hc2
  wp_walk;refine wpAny_ite_false (Ei (Nat.not_lt.mpr hsz)) ?_;wp_walk;exact⟨_,rfl,h⟩
theorem QaM(a:Int)(t:Tok)(l:Addr)(items:Array Value)(n:Nat)(sl:Array (Option Value)):
  Meets (Builtin.«int.__rmul__» ⟨[.int a t,.ref l],[]⟩) (λ_ R s=>s.heap.get? l=some { cls:=.type "list", dict:=none,data:=.seq items n,slots:=sl }/\R (.ok (.ret Value.notImplemented)) s) :=
 .of_wp λprog w A R s h=>by obtain⟨hp,g,d,tk,os⟩:=s;obtain⟨hl,h⟩:=h;wp_walk;exact⟨_,rfl,h⟩
theorem vi(v:Value):∀(n:Nat)(a:Array Value),(List.replicate n #[v]).foldl (λx1 x2=>x1++x2) a=a++(List.replicate n v).toArray
  | 0,a=>by simp
  | n+1,a=>by
    rw[List.replicate_succ,List.foldl_cons,vi v n,List.replicate_succ];apply Array.ext';simp
section
variable{X:Cx}{tg e a b c:Expr}{f fa fb:DEx}{pos:Pos}
theorem QeK:OpR X (binaryOp .Mult) (λx y H Q=>∃l z n,x=.ref l/\y=.int n/\SqL X.K H l [z]/\0<=n/\n.toNat<=100000/\∀p,H p=none->Q (.ref p) (upd H p (.lst (List.replicate n.toNat z)))):=by
  intro O9 s σ H x y v u Q I rx ry h;obtain⟨l,z,n,rfl,rfl,hl,h0,h1,q⟩:=h;cases rx;obtain⟨t,rfl⟩:=ry;obtain⟨its,r1,⟨⟨k1,dd1,da1,sl1⟩,n1,e1,c1,d1,s1⟩,_⟩:=I.list hl;simp only at c1 d1 s1;subst c1 d1 s1;cases r1 with
  | cons r rr =>
    cases rr;rename_i w;have hz:(([w]:List Value).toArray.size) * n.toNat=n.toNat:=by simp
    refine wpAny_binaryOp_repeat_ref (T := "list") (U := "int") (by decide) ⟨_,e1,rfl⟩ (λs'=>typeIs_int s' n t) noFill_list_mul F.fills_int_mul F.slot_int_rmul repeat_list F.slot_int_index.lookup
      (call_meets F.slot_int_rmul (typeIs_int s n t) F.entry_int_rmul (F.args_int_rmul_2 _ _) (QaM n t l _ n1 sl1)
        ⟨e1,rfl,⟨_,e1,rfl⟩,call_meets F.slot_list_mul ⟨_,e1,rfl⟩ F.entry_list_mul (F.args_list_mul_2 _ _)
          (QaW l _ n1 sl1 n t (by simp[Builtin.List.listFitsIndex];lia) (by rw[hz];lia) (by rw[hz];simp[Builtin.List.listTooLong,sizeLine];lia))
          ⟨e1,?_⟩⟩)
    have ef:List.foldl (λx1 x2=>x1++x2) #[] (List.replicate (if ([w]:List Value).toArray.isEmpty=true then 0 else n.toNat) [w].toArray)=(List.replicate n.toNat w).toArray:=by
      rw[Eb (by simp)]
      have:=vi w n.toNat #[];simpa using this
    rw[ef];have vr:Vals (List.replicate n.toNat z) (List.replicate n.toNat w):=by
      generalize n.toNat=m;induction m with
      | zero=>exact .nil
      | succ m ih=>exact .cons r ih
    exact⟨.ref _,_,I.lnew (t':=s.toks) vr (by rw[List.length_replicate];exact Bk h1 (by decide)),rfl,q _ I.fresh⟩
theorem vO{K:Aa}(r:RepV K ρ B H d z):∀n:Nat,RepL K ρ B H (List.replicate n d) (List.replicate n z)
 | 0=>RepL.nil
 | n+1=>by unfold List.replicate RepL;exact⟨z,_,rfl,r,vO r n⟩
end
section
variable{env:En}{hp hp1 hp2 hp3:Hs}{f g h:DEx}{ds:List DV}{d:DV}
def qD{n:Nat}(hf:f env hp=some (.ref n,hp))(hn:hp[n]?=some (.lst ds)):Zd Z4 (Qc f Qn) env hp=some (.int ds.length,hp):=XA (Zq hf) (Qck hn)
end
end D
namespace TR
def Kd(S:Sh)(c:Nat):Prop:=∃(m:Nat)(q:Pg),S.pg[m]?=some q/\0 < q.lv/\(c:Int)∈q.ps
def Tells(ws:List Wk)(c:Nat):Prop:=∃(i:Nat)(w:Wk),ws[i]?=some w/\w.O7=false/\0 < w.O4/\w.Oz=some c
def Tld(S:Sh)(ws:List Wk):Prop:=∀n:Nat,n < S.pg.length->n≠S.top->Kd S n∨Tells ws n
section
variable{S S':Sh}{bg:Bg}{n:Nat}{p P:Pg}{w w':Wk}{r:Row}{ws:List Wk}{i:Nat}
theorem Ks{w:Wk}(hn:S.pg[n]?=some p)(hl:P.lv=p.lv)(hsub:0 < p.lv->∀x∈p.ps,x∈P.ps){c:Nat}(h:Kd S c∨(0 < P.lv/\(c:Int)∈P.ps)):Kd (QG S w n P).2.1 c:=by
 have ln:=Qx hn;have key:(∃(m:Nat)(q:Pg),m≠n/\S.pg[m]?=some q/\0 < q.lv/\(c:Int)∈q.ps)∨(0 < P.lv/\(c:Int)∈P.ps):=by
  rcases h with ⟨m,q,h1,h2,h3⟩ | h
  ·by_cases e:m=n
   ·subst e;rw[hn] at h1;cases h1;exact .inr ⟨by lia,hsub h2 _ h3⟩
   ·exact .inl ⟨m,q,e,h1,h2,h3⟩
  ·exact .inr h
 unfold QG;by_cases hr:P.ks.length<=S.O2
 ·rw[Ec hr]
  rcases key with ⟨m,q,e,h1,h2,h3⟩ | ⟨h1,h2⟩
  ·exact⟨m,q,by show(S.pg.set n P)[m]?=_;rw[An (λx=>e x.symm)];exact h1,h2,h3⟩
  ·exact⟨n,P,by show(S.pg.set n P)[n]?=_;rw[Av ln],h1,h2⟩
 ·rw[Eb hr]
  rcases key with ⟨m,q,e,h1,h2,h3⟩ | ⟨h1,h2⟩
  ·exact⟨m,q,by show((S.pg++[QU P]).set n (Q5 P S.pg.length))[m]?=_;rw[An (λx=>e x.symm)];exact X4 h1,h2,h3⟩
  ·rw[<- B0 (Zk P) P.ps] at h2
   rcases Aj.mp h2 with h | h
   ·exact⟨n,Q5 P S.pg.length,by show((S.pg++[QU P]).set n (Q5 P S.pg.length))[n]?=_;rw[Av (by simp;lia)],h1,h⟩
   ·exact⟨S.pg.length,QU P,by show((S.pg++[QU P]).set n (Q5 P S.pg.length))[S.pg.length]?=_;rw[An (by lia)];simp,h1,h⟩
theorem Tells.other{c:Nat}(h:Tells ws c)(hi:ws[i]?=some w)(hne:w.O7=false->0 < w.O4->w.Oz≠some c):Tells (ws.set i w') c:=by
 obtain⟨j,v,a,b,d,e⟩:=h;have ne:j≠i:=λz=>by subst z;rw[hi] at a;cases a;exact hne b d e
 exact⟨j,v,by rw[An (λx=>ne x.symm)];exact a,b,d,e⟩
theorem Tells.self{c:Nat}(hi:ws[i]?=some w)(h1:w'.O7=false)(h2:0 < w'.O4)(h3:w'.Oz=some c):Tells (ws.set i w') c :=
 ⟨i,w',Av (Qx hi),h1,h2,h3⟩
theorem GC{w:Wk}(S:Sh)(n:Nat)(P:Pg)(h:S.O2 < P.ks.length)(hw:w.O7=false):(QG S w n P).2.2.O7=false/\0 < (QG S w n P).2.2.O4/\(QG S w n P).2.2.Oz=some S.pg.length:=by
 unfold QG;rw[Eb (by lia)];exact⟨hw,Nat.succ_pos _,rfl⟩
theorem gy{w:Wk}(S:Sh)(n:Nat)(P:Pg){c:Nat}(hc:c < (QG S w n P).2.1.pg.length):c < S.pg.length∨(c=S.pg.length/\S.O2 < P.ks.length):=by
 unfold QG at hc;by_cases hr:P.ks.length<=S.O2
 ·rw[Ec hr] at hc;exact .inl (by simpa using hc)
 ·rw[Eb hr] at hc
  have:c < S.pg.length+1:=by simpa using hc
  rcases Bi c S.pg.length with h | h
  ·exact .inl h
  ·exact .inr ⟨by lia,by lia⟩
theorem gz{w:Wk}(S:Sh)(n:Nat)(P:Pg):(QG S w n P).2.1.top=S.top:=by
 unfold QG;split<;>rfl
theorem Tld.step(D:Tld S ws)(T:Tree S bg)(W:WOk S bg w)(hi:ws[i]?=some w)(hw:w.O7=false)(hs:JZ S w=some (r,S',w')):Tld S' (ws.set i w'):=by
  obtain⟨n,hn0,hpl⟩:∃n,w.O6.getD S.top=n/\(w.O6=some n∨(w.O6=none/\n=S.top)):=by
    cases e:w.O6 with
    | none=>exact⟨S.top,rfl,.inr ⟨rfl,rfl⟩⟩
    | some m=>exact⟨m,rfl,.inl rfl⟩
  obtain⟨p,hn⟩:∃p,S.pg[n]?=some p:=by
    rcases hpl with hp | ⟨_,rfl⟩
    . obtain⟨p,a,_⟩:=W.at_ n hp;exact⟨p,a⟩
    . obtain⟨p,a,_⟩:=T.root;exact⟨p,a⟩
  have still:∀{x:Wk}{S2:Sh},S2.pg=S.pg->S2.top=S.top->(w.O7=false->0 < w.O4->x.O7=false/\x.O4=w.O4/\x.Oz=w.Oz)->Tld S2 (ws.set i x):=λ{x S2} e1 e2 e3 c hc ht=>by
    rw[e1] at hc;rw[e2] at ht;rcases D c hc ht with ⟨m,q,h⟩ | ⟨j,v,a,b,d,e⟩
    . exact .inl ⟨m,q,by rw[e1];exact h⟩
    . by_cases z:j=i
      . subst z;rw[hi] at a;cases a
        obtain⟨f1,f2,f3⟩:=e3 b d;exact .inr (Tells.self hi f1 (by lia) (f3.trans e))
      . exact .inr ⟨j,v,by rw[An (λx=>z x.symm)];exact a,b,d,e⟩
  unfold JZ at hs;rw[Eb (by rw[hw];simp),hn0] at hs
  simp only[hn] at hs;by_cases hr:w.O6=none/\p.lv < w.O4
  . rw[Ec hr] at hs
    obtain⟨k,q,a1,a2,a3,a4⟩:=W.tell (by lia)
    simp only[a1] at hs;cases hs;intro c hc ht;have hc:c < S.pg.length+1:=by simpa using hc
    have ht:c≠S.pg.length:=ht;have newf:(S.pg++[(⟨p.lv+1,[w.aim],[(S.top:Int),(k:Int)],none,none⟩:Pg)])[S.pg.length]?=some ⟨p.lv+1,[w.aim],[(S.top:Int),(k:Int)],none,none⟩:=by simp
    by_cases e:c=S.top
    . exact .inl ⟨S.pg.length,_,newf,Nat.succ_pos _,by simp[e]⟩
    by_cases e':c=k
    . exact .inl ⟨S.pg.length,_,newf,Nat.succ_pos _,by simp[e']⟩
    rcases D c (by lia) e with ⟨m,q,h1,h2,h3⟩ | h
    . exact .inl ⟨m,q,X4 h1,h2,h3⟩
    . exact .inr (h.other hi λ_ _ h=>by rw[a1] at h;exact e' (Am h).symm)
  . rw[Eb hr] at hs
    cases hb:JP p w.aim with
    | true =>
      rw[hb,Ec rfl] at hs;cases hsd:p.sd with
      | none=>rw[hsd] at hs;cases hs
      | some s =>
        rw[hsd] at hs;cases hs;exact still rfl rfl λa _=>⟨a,rfl,rfl⟩
    | false =>
      rw[hb,Eb (by simp)] at hs
      by_cases hd:w.O4 < p.lv
      . rw[Ec hd] at hs
        cases hq:p.ps[cLe p.ks w.aim]? with
        | none=>rw[hq] at hs;cases hs
        | some c =>
          rw[hq] at hs;cases hs;exact still rfl rfl λa _=>⟨a,rfl,rfl⟩
      . rw[Eb hd] at hs
        have back:∀(w0:Wk)(P:Pg),w0.O7=false->P.lv=p.lv->(0 < p.lv->∀x∈p.ps,x∈P.ps)->(∀c,0 < w.O4->w.Oz=some c->0 < P.lv/\(c:Int)∈P.ps)->Tld (QG { S with rd:=S.rd+1 } w0 n P).2.1 (ws.set i (QG { S with rd:=S.rd+1 } w0 n P).2.2):=λw0 P e0 hl hsub hnew c hc ht=>by
          rw[gz] at ht;rcases gy _ n P hc with hc | ⟨hc,hroom⟩
          . rcases D c hc ht with h | h
            . exact .inl (Ks (S:={ S with rd:=S.rd+1 }) hn hl hsub (.inl h))
            . by_cases z:w.Oz=some c/\0 < w.O4
              . exact .inl (Ks (S:={ S with rd:=S.rd+1 }) hn hl hsub (.inr (hnew c z.2 z.1)))
              . exact .inr (h.other hi λ_ a b=>z ⟨b,a⟩)
          . obtain⟨f1,f2,f3⟩:=GC (w:=w0) { S with rd:=S.rd+1 } n P hroom e0
            exact .inr (Tells.self hi f1 f2 (by rw[f3];exact congrArg some hc.symm))
        by_cases h0:0 < w.O4
        . rw[Ec h0] at hs
          obtain⟨k,q,a1,a2,a3,a4⟩:=W.tell h0;simp only[a1] at hs;simp only[Option.some.injEq,Bq] at hs;obtain⟨rfl,rfl,rfl⟩:=hs;have hg:w.O4<=p.lv:=by
            rcases hpl with hp | ⟨hp,_⟩
            . obtain⟨p',b1,b2,_⟩:=W.at_ n hp
              rw[hn] at b1;cases b1;exact b2
            . exact Nat.le_of_not_lt λh=>hr ⟨hp,h⟩
          refine back w (Zw p w.aim k) hw rfl (λ_ x hx=>?_) λc _ hc=>⟨by show 0 < p.lv;lia,?_⟩
          . show x∈p.ps.take (cLe p.ks w.aim+1)++(k:Int)::p.ps.drop (cLe p.ks w.aim+1)
            rw[<- B0 (cLe p.ks w.aim+1) p.ps] at hx;rcases Aj.mp hx with h | h
            . exact A8 _ h
            . exact Ak _ (Ay _ h)
          . rw[a1] at hc;cases hc
            show(k:Int)∈p.ps.take (cLe p.ks w.aim+1)++(k:Int)::p.ps.drop (cLe p.ks w.aim+1);simp
        . rw[Eb h0] at hs
          have hs:=Am hs;unfold Jc at hs;have g0:∀{x:Wk},w.O7=false->0 < w.O4->x.O7=false/\x.O4=w.O4/\x.Oz=w.Oz:=λ_ h=>absurd h h0;cases hdd:w.O0 with
          | find k=>rw[hdd] at hs;cases hs;exact still rfl rfl g0
          | put k x =>
            rw[hdd] at hs;dsimp only at hs;simp only[Bq] at hs;obtain⟨rfl,rfl,rfl⟩:=hs;exact back _ (QZ p w.aim x) hw rfl (λh=>(by
              have hg:p.lv=0:=by lia
              lia)) λc h=>absurd h h0
          | cut k =>
            rw[hdd] at hs;dsimp only at hs;cases hs;by_cases hq:(QY p w.aim).isSome=true
            . rw[Ec hq]
              intro c hc ht;have hc:c < S.pg.length:=by simpa using hc
              rcases D c hc ht with ⟨m,q,h1,h2,h3⟩ | h
              . have e:m≠n:=λe=>by subst e;rw[hn] at h1;cases h1;lia
                exact .inl ⟨m,q,by show(S.pg.set n (without p w.aim))[m]?=_;rw[An (λx=>e x.symm)];exact h1,h2,h3⟩
              . exact .inr (h.other hi λ_ a=>absurd a h0)
            . rw[Eb hq];exact still rfl rfl g0
          | stretch l h =>
            rw[hdd] at hs;dsimp only at hs;cases hhi:p.hi with
            | none=>rw[hhi] at hs;cases hs;exact still rfl rfl g0
            | some x =>
              cases hsd:p.sd with
              | none=>rw[hhi,hsd] at hs;cases hs;exact still rfl rfl g0
              | some s =>
                rw[hhi,hsd] at hs;dsimp only at hs;by_cases hx:h<=x
                . rw[Ec hx] at hs;cases hs;exact still rfl rfl g0
                . rw[Eb hx] at hs;cases hs;exact still rfl rfl g0
theorem Tld.put(D:Tld S ws)(hi:∀v,ws[i]?=some v->v.O7=true)(w:Wk):Tld S (ws.set i w):=λc hc ht=>(D c hc ht).imp id λzz1=>by
 obtain⟨j,v,a,b,d,e⟩:=zz1;have ne:j≠i:=λz=>by subst z;rw[hi v a] at b;cases b
 exact⟨j,v,by rw[An (λx=>ne x.symm)];exact a,b,d,e⟩
end
def Fk(S:Sh):Prop:=∀(n:Nat)(p:Pg),S.pg[n]?=some p->0 < p.lv->1<=p.ks.length
section
variable{S S':Sh}{bg bg':Bg}{n f:Nat}{p q P:Pg}{w w':Wk}{r:Row}{a k:Int}{F:Int->Option Int}
theorem Fk.settle(K:Fk S){w:Wk}(hn:S.pg[n]?=some p)(hl:P.lv=p.lv)(h1:0 < P.lv->1<=P.ks.length)(h3:S.O2 < P.ks.length->3<=P.ks.length):Fk (QG S w n P).2.1:=by
 unfold QG;by_cases hr:P.ks.length<=S.O2
 ·rw[Ec hr]
  intro m q hm h0;rcases Q2 hm with ⟨rfl,rfl,_⟩ | ⟨_,h⟩
  ·exact h1 h0
  ·exact K m q h h0
 ·rw[Eb hr]
  have l3:=h3 (by lia)
  intro m q hm h0;rcases Q2 (xs:=S.pg++[QU P]) hm with ⟨rfl,rfl,_⟩ | ⟨_,h⟩
  ·show 1<=(P.ks.take (mid P)).length
   rw[Ba];unfold mid;lia
  ·rcases JV h with ⟨rfl,rfl⟩ | h
   ·show 1<=(P.ks.drop (Zk P)).length
    have h0:0 < P.lv:=h0;rw[Br];unfold Zk;rw[Eb (by lia)];unfold mid;lia
   ·exact K m q h h0
theorem Fk.step(K:Fk S)(T:Tree S bg)(hs:JZ S w=some (r,S',w')):Fk S':=by
  have r2:=T.room2;unfold JZ at hs;by_cases hw:w.O7=true
  . rw[Ec hw] at hs;cases hs;exact K
  rw[Eb hw] at hs;cases hn:S.pg[w.O6.getD S.top]? with
  | none=>rw[hn] at hs;cases hs
  | some p =>
    simp only[hn] at hs;by_cases hr:w.O6=none/\p.lv < w.O4
    . rw[Ec hr] at hs
      cases hk:w.Oz with
      | none=>rw[hk] at hs;cases hs
      | some k =>
        rw[hk] at hs;cases hs;intro m q hm h0;rcases JV hm with ⟨rfl,rfl⟩ | h
        . exact Ag _
        . exact K m q h h0
    . rw[Eb hr] at hs
      by_cases hb:JP p w.aim=true
      . rw[Ec hb] at hs
        cases hsd:p.sd with
        | none=>rw[hsd] at hs;cases hs
        | some s=>rw[hsd] at hs;cases hs;exact K
      . rw[Eb hb] at hs
        by_cases hd:w.O4 < p.lv
        . rw[Ec hd] at hs
          cases hq:p.ps[cLe p.ks w.aim]? with
          | none=>rw[hq] at hs;cases hs
          | some c=>rw[hq] at hs;cases hs;exact K
        . rw[Eb hd] at hs
          by_cases h0:0 < w.O4
          . rw[Ec h0] at hs
            cases hk:w.Oz with
            | none=>rw[hk] at hs;cases hs
            | some k =>
              rw[hk] at hs;simp only[Option.some.injEq,Bq] at hs;obtain⟨rfl,rfl,rfl⟩:=hs;exact Fk.settle (S:={ S with rd:=S.rd+1 }) K hn rfl (λ_=>by show 1<=(_++_::_:List Int).length;rw[Ao,Bb];lia) (λh=>by
                have h:S.O2 < (Zw p w.aim k).ks.length:=h;lia)
          . rw[Eb h0] at hs
            have hs:=Am hs;unfold Jc at hs;cases hdd:w.O0 with
            | find k=>rw[hdd] at hs;cases hs;exact K
            | put k x =>
              rw[hdd] at hs;dsimp only at hs;simp only[Bq] at hs;obtain⟨rfl,rfl,rfl⟩:=hs;exact Fk.settle (S:={ S with rd:=S.rd+1 }) K hn rfl (λ_=>by show 1<=(_++_::_:List Int).length;rw[Ao,Bb];lia) (λh=>by
                have h:S.O2 < (QZ p w.aim x).ks.length:=h;lia)
            | cut k =>
              rw[hdd] at hs;dsimp only at hs;cases hs;by_cases hq:(QY p w.aim).isSome=true
              . rw[Ec hq]
                intro m q hm h1;rcases Q2 hm with ⟨rfl,rfl,_⟩ | ⟨_,h⟩
                . have:0 < p.lv:=h1
                  lia
                . exact K m q h h1
              . rw[Eb hq];exact K
            | stretch l h =>
              rw[hdd] at hs;dsimp only at hs;cases hhi:p.hi with
              | none=>rw[hhi] at hs;cases hs;exact K
              | some x =>
                cases hsd:p.sd with
                | none=>rw[hhi,hsd] at hs;cases hs;exact K
                | some s =>
                  rw[hhi,hsd] at hs;dsimp only at hs;by_cases hx:h<=x
                  . rw[Ec hx] at hs;cases hs;exact K
                  . rw[Eb hx] at hs;cases hs;exact K
end
section
variable{S S':Sh}{bg bg':Bg}{n f:Nat}{p q P:Pg}{w w':Wk}{r:Row}{a k:Int}{F F':Int->Option Int}{R:Nat}
def Xc(S:Sh)(l:Nat):Nat:=((List.range S.pg.length).filter (lvB S λx=>decide (x=l))).length
theorem VO{l:Nat}(h:S.pg[n]?=some p)(hl:p.lv=l):n∈(List.range S.pg.length).filter (lvB S λx=>decide (x=l)) :=
 Bo.mpr ⟨Ch.mpr (Qx h),by unfold lvB;rw[h];simpa using hl⟩
def g9{l:Nat}(h:S.pg[n]?=some p)(hl:p.lv=l):1<=Xc S l:=List.length_pos_of_mem (VO h hl)
theorem QgY{l:List Nat}{x y:Nat}(hx:x∈l)(hy:y∈l)(ne:x≠y):2<=l.length:=by
  cases l with
  | nil=>cases hx
  | cons a l =>
    cases l with
    | nil =>
      rw[As] at hx hy;exact absurd (hx.trans hy.symm) ne
    | cons b l=>simp
theorem QdM(T:Tree S bg)(K:Fk S)(h:S.pg[n]?=some p)(hl:0 < p.lv):2<=Xc S (p.lv - 1):=by
 have k1:=K n p h hl;have pl:=(T.page n p h).parts;rw[Eb (by lia)] at pl
 obtain⟨c,q,a1,a2,a3,a4⟩:=T.kid n p h hl 0 _ (Ac (by lia:0 < p.ps.length))
 obtain⟨d,z,b1,b2,b3,b4⟩:=T.kid n p h hl 1 _ (Ac (by lia:1 < p.ps.length))
 refine QgY (VO a2 (by lia)) (VO b2 (by lia)) λe=>?_
 subst e;have a4:bg c=bg n:=a4;have b4:bg c=p.ks[0]?:=b4;rw[Ac (by lia:0 < p.ks.length)] at b4
 have:=(T.page n p h).lowF hl _ (B9 (by lia:0 < p.ks.length)) _ (a4.symm.trans b4)
 lia
theorem Vt(m:Nat):∀(R:Nat),(∀j,0 < j->j<=R->m<=Xc S (j - 1))->R * m<=((List.range S.pg.length).filter (lvB S λx=>decide (x < R))).length
  | 0,_=>by simp
  | R+1,h=>by
    have ih:=Vt m R λj a b=>h j a (by lia)
    have:=h (R+1) (by lia) (Ag _)
    rw[Yf,Nat.succ_mul];unfold Xc at this;simp only[Nat.add_sub_cancel] at this;lia
theorem Tree.pages_two(T:Tree S bg)(K:Fk S)(hr:S.pg[S.top]?=some p)(hK:∀j,0 < j->j<=p.lv->∃(f:Nat)(q:Pg),S.pg[f]?=some q/\q.lv=j):2 * p.lv+1<=S.pg.length:=by
 obtain⟨z,r1,r2⟩:=T.root;rw[hr] at r1;cases r1;have a:=xW (S:=S) (L:=p.lv) r2;rw[Yf] at a;have b:=Vt (S:=S) 2 p.lv λj h1 h2=>by
  obtain⟨f,q,x1,x2⟩:=hK j h1 h2;subst x2;exact QdM T K x1 h1
 have c:=g9 hr rfl;unfold Xc at c;lia
theorem Tree.pages_row(T:Tree S bg)(hr:S.pg[S.top]?=some p)(hK:∀j,0 < j->j<=p.lv->∃(f:Nat)(q:Pg),S.pg[f]?=some q/\q.lv=j):Xc S 0+p.lv<=S.pg.length:=by
  obtain⟨z,r1,r2⟩:=T.root;rw[hr] at r1;cases r1;have a:=xW (S:=S) (L:=p.lv) r2;have key:∀R,R<=p.lv->Xc S 0+R<=((List.range S.pg.length).filter (lvB S λx=>decide (x < R+1))).length:=by
    intro R;induction R with
    | zero=>intro _;rw[Yf,Vu];unfold Xc;lia
    | succ R ih =>
      intro h;have:=ih (by lia)
      obtain⟨f,q,x1,x2⟩:=hK (R+1) (by lia) h
      have:=g9 x1 x2;rw[Yf];unfold Xc at *;lia
  have:=key p.lv (Ag _);lia
end
section
variable{S S':Sh}{bg bg':Bg}{n f:Nat}{p q P:Pg}{w w':Wk}{r:Row}{a k:Int}{F F':Int->Option Int}{R:Nat}
theorem vB(g:Y5 S bg S' bg'){n:Nat}(hn:n < S.pg.length)(fn:Nat->Bool):lvB S' fn n=lvB S fn n:=by
 obtain⟨_,p',h1,h2⟩:=g.old n _ (Ac hn);unfold lvB;rw[h1,Ac hn];show fn p'.lv=fn _;rw[h2]
theorem Yn{α:Type}{f h:α->Bool}:∀{l:List α},(∀x∈l,f x=h x)->l.filter f=l.filter h
  | [],_=>rfl
  | x::l,e=>by
    rw[Au,Au,e x (by simp),Yn λy hy=>e y (Ay _ hy)]
theorem xV(g:Y5 S bg S' bg')(h:S'.pg.length=S.pg.length)(l:Nat):Xc S' l=Xc S l:=by
 unfold Xc;rw[h,Yn λx hx=>vB g (Ch.mp hx) _]
theorem U5(g:Y5 S bg S' bg')(h:S'.pg.length=S.pg.length+1)(hq:S'.pg[S.pg.length]?=some q)(l:Nat):Xc S' l=Xc S l+if q.lv=l then 1 else 0:=by
 unfold Xc;rw[h,List.range_succ,List.filter_append,Ao,Yn λx hx=>vB g (Ch.mp hx) _];have e:lvB S' (λx=>decide (x=l)) S.pg.length=decide (q.lv=l):=by unfold lvB;rw[hq]
 congr 1;rw[Au,e];by_cases c:q.lv=l<;>simp[c]
theorem ZV:∀{l m:List Nat},l.Nodup->(∀x∈l,x∈m)->l.length<=m.length
  | [],m,_,_=>Bf _
  | x::l,m,h,hs=>by
    obtain⟨h1,h2⟩:=List.nodup_cons.mp h;have hx:=hs x (by simp)
    have:=ZV (l:=l) (m:=m.erase x) h2 λy hy=>by
      have ne:y≠x:=λe=>h1 (e▸hy);exact(List.mem_erase_of_ne ne).mpr (hs y (Ay _ hy))
    rw[List.length_erase_of_mem hx] at this;have:=List.length_pos_of_mem hx;rw[Bb];lia
def yD(S:Sh)(n j:Nat):Nat:=match S.pg[n]? with
 | some p=>(p.ps.getD j 0).toNat
 | none=>0
theorem K8(T:Tree S bg)(K:Fk S)(hn:S.pg[n]?=some p)(hl:0 < p.lv){j:Nat}(hj:j < 2):∃q,S.pg[yD S n j]?=some q/\q.lv+1=p.lv/\bg (yD S n j)=Zj (bg n) p.ks j:=by
 have pl:=(T.page n p hn).parts;rw[Eb (by lia)] at pl
 have k1:=K n p hn hl;obtain⟨c,q,a1,a2,a3,a4⟩:=T.kid n p hn hl j _ (Ac (by lia:j < p.ps.length))
 have e:yD S n j=c:=by
  unfold yD;rw[hn];show(p.ps.getD j 0).toNat=c;rw[Cq,Ac (by lia:j < p.ps.length),a1];rfl
 rw[e];exact⟨q,a2,a3,a4⟩
theorem v7(T:Tree S bg)(K:Fk S)(hn:S.pg[n]?=some p)(hl:0 < p.lv){j:Nat}(hj:j < 2):leBB (bg n) (Zj (bg n) p.ks j)/\∀h v,p.hi=some h->Zj (bg n) p.ks j=some v->v < h:=by
  have ok:=T.page n p hn;have k1:=K n p hn hl;cases j with
  | zero=>exact⟨leBB.refl _,λh v h1 h2=>ok.wide h h1 v h2⟩
  | succ i =>
    have e:i=0:=by lia
    subst e;have g:Zj (bg n) p.ks (0+1)=some p.ks[0]:=Ac (l:=p.ks) (i:=0) k1;have m:p.ks[0]∈p.ks:=B9 _;rw[g];exact⟨λv hv=>⟨_,rfl,ok.low _ m v hv⟩,λh v h1 h2=>by cases h2;exact ok.high _ m h h1⟩
theorem QbC(T:Tree S bg)(K:Fk S)(l:Nat):2 * Xc S (l+1)<=Xc S l:=by
 let L:=(List.range S.pg.length).filter (lvB S λx=>decide (x=l+1))
 have inL:∀n∈L,∃p,S.pg[n]?=some p/\p.lv=l+1:=λn hn=>by
  obtain⟨h1,h2⟩:=Bo.mp hn;have h1:=Ch.mp h1;unfold lvB at h2;rw[Ac h1] at h2;exact⟨_,Ac h1,by simpa using h2⟩
 have nd:L.Nodup:=List.nodup_range.filter _;have key:∀n m i j,n∈L->m∈L->i < 2->j < 2->yD S n i=yD S m j->n=m/\i=j:=λn m i j hn hm hi hj e=>by
  obtain⟨p,a1,a2⟩:=inL n hn;obtain⟨q,b1,b2⟩:=inL m hm;obtain⟨_,_,_,c3⟩:=K8 T K a1 (by lia) hi
  obtain⟨_,_,_,d3⟩:=K8 T K b1 (by lia) hj
  rw[e,d3] at c3;obtain⟨x1,x2⟩:=v7 T K a1 (by lia) hi
  obtain⟨y1,y2⟩:=v7 T K b1 (by lia) hj
  have nm:n=m:=by
   rcases Nat.decEq n m with h | h
   ·exfalso
    rcases T.dis n m p q a1 b1 (by lia) h with ⟨u,v,e1,e2,e3⟩ | ⟨u,v,e1,e2,e3⟩
    ·obtain⟨z,z1,z2⟩:=y1 v e2
     have:=x2 u z e1 (c3.symm.trans z1);lia
    ·obtain⟨z,z1,z2⟩:=x1 v e2
     have:=y2 u z e1 (c3.trans z1);lia
   ·exact h
  subst nm;rw[a1] at b1;cases b1;refine⟨rfl,?_⟩;have ok:=T.page n p a1;have k1:=K n p a1 (by lia)
  have l0:=ok.lowF (by lia) p.ks[0] (B9 (by lia))
  have ne:bg n≠p.ks[0]?:=λz=>by
   rw[Ac (by lia)] at z
   have:=l0 _ z;lia
  match i,j,hi,hj with
  | 0,0,_,_=>rfl
  | 1,1,_,_=>rfl
  | 0,1,_,_=>exact absurd c3.symm ne
  | 1,0,_,_=>exact absurd c3 ne
 let M:=L.flatMap λn=>[yD S n 0,yD S n 1]
 have ndM:M.Nodup:=by
  show List.Pairwise (· ≠ ·) _;rw[List.pairwise_flatMap];refine⟨λn hn=>?_,?_⟩
  ·refine Cp.mpr ⟨λx hx=>?_,List.pairwise_singleton _ _⟩
   rw[As] at hx;subst hx;intro e;have:=(key n n 0 1 hn hn (by lia) (by lia) e).2
   lia
  ·refine List.Pairwise.imp_of_mem (R:=(· ≠ ·)) (λ{a b} ha hb ne x hx y hy e=>?_) nd
   subst e;simp only[Bm,Cf,or_false] at hx hy;rcases hx with rfl | rfl<;>rcases hy with hy | hy
   ·exact ne (key a b 0 0 ha hb (by lia) (by lia) hy).1
   ·exact ne (key a b 0 1 ha hb (by lia) (by lia) hy).1
   ·exact ne (key a b 1 0 ha hb (by lia) (by lia) hy).1
   ·exact ne (key a b 1 1 ha hb (by lia) (by lia) hy).1
 have sub:∀x∈M,x∈(List.range S.pg.length).filter (lvB S λy=>decide (y=l)):=λx hx=>by
  obtain⟨n,hn,hx⟩:=List.mem_flatMap.mp hx;obtain⟨p,a1,a2⟩:=inL n hn;simp only[Bm,Cf,or_false] at hx;rcases hx with rfl | rfl
  ·obtain⟨q,c1,c2,_⟩:=K8 T K a1 (by lia) (show 0 < 2 by lia)
   exact VO c1 (by lia)
  ·obtain⟨q,c1,c2,_⟩:=K8 T K a1 (by lia) (show 1 < 2 by lia)
   exact VO c1 (by lia)
 have len:=ZV ndM sub;have lm:M.length=2 * L.length:=by
  show(L.flatMap _).length=_;generalize L=L';induction L' with
  | nil=>rfl
  | cons x t ih=>rw[List.flatMap_cons,Ao,ih,Bb];simp;lia
 unfold Xc;show 2 * L.length<=_;lia
theorem vJ(T:Tree S bg)(K:Fk S):S.pg.length<=2 * Xc S 0:=by
  obtain⟨r,r1,r2⟩:=T.root;have a:=xW (S:=S) (L:=r.lv) r2;have key:∀k,((List.range S.pg.length).filter (lvB S λx=>decide (x < k))).length+2 * Xc S k<=2 * Xc S 0:=by
    intro k;induction k with
    | zero=>rw[Vu];lia
    | succ k ih =>
      have:=QbC T K k;rw[Yf];unfold Xc at *;lia
  have:=key (r.lv+1);lia
end
def lvA(S:Sh)(n:Nat):Nat:=match S.pg[n]? with
 | some p=>p.lv
 | none=>0
def vis(S:Sh)(w:Wk)(k:Nat):Option Nat:=match w.O6 with
 | some n=>if lvA S n=k then some n else if lvA S n < k then JU w.O3 k else none
 | none=>none
def ltV(bg:Bg)(v:Option Nat)(m:Nat):Bool:=match v with
 | some v=>ltO (bg v) (bg m)
 | none=>true
def Ct(S:Sh)(bg:Bg)(w:Wk)(m:Nat):Bool:=decide (w.O4<=lvA S m)&&ltV bg (vis S w (lvA S m)) m
def phi(S:Sh)(bg:Bg)(w:Wk):Nat:=((List.range S.pg.length).filter (Ct S bg w)).length+(lvA S S.top+2 - w.O4)
inductive Uv(S:Sh)(bg:Bg)(w:Wk)(S':Sh)(w':Wk):Prop
 | side {n s:Nat} {p q:Pg} (hp:w.O6=some n∨(w.O6=none/\n=S.top)) (hn:S.pg[n]?=some p) (hg:w.O4<=p.lv) (hs:S.pg[s]?=some q) (hl:q.lv=p.lv) (hb:ltO (bg n) (bg s)=true) (e1:S'.pg=S.pg) (e2:S'.top=S.top) (e3:w'.O4=w.O4) (e4:w'.O3=w.O3) (e5:w'.O6=some s) (e6:w'.O7=false):Uv S bg w S' w'
 | down {n c:Nat} {p q:Pg} (hp:w.O6=some n∨(w.O6=none/\n=S.top)) (hn:S.pg[n]?=some p) (hl:q.lv+1=p.lv) (hg:w.O4<=q.lv) (hc:S.pg[c]?=some q) (e1:S'.pg=S.pg) (e2:S'.top=S.top) (e3:w'.O4=w.O4) (e4:w'.O3=zC w.O3 p.lv n) (e5:w'.O6=some c) (e6:w'.O7=false):Uv S bg w S' w'
 | part {n:Nat} {p q:Pg} (hp:w.O6=some n∨(w.O6=none/\n=S.top)) (hn:S.pg[n]?=some p) (hg:w.O4=p.lv) (el:S'.pg.length=S.pg.length+1) (eq:S'.pg[S.pg.length]?=some q) (hq:q.lv=w.O4) (e2:S'.top=S.top) (e3:w'.O4=w.O4+1) (e4:w'.O3=w.O3) (e5:w'.O6=JU w.O3 (w.O4+1)) (e6:w'.O7=false):Uv S bg w S' w'
 | over (e6:w'.O7=true) (el:S'.pg.length=S.pg.length) (e2:S'.top=S.top):Uv S bg w S' w'
 | raised {p q:Pg} (e6:w'.O7=true) (hr:S.pg[S.top]?=some p) (el:S'.pg.length=S.pg.length+1) (e2:S'.top=S.pg.length) (eq:S'.pg[S.pg.length]?=some q) (hq:q.lv=p.lv+1):Uv S bg w S' w'
section
variable{S S':Sh}{bg bg':Bg}{n:Nat}{p q P:Pg}{w w' v:Wk}{r:Row}
theorem ZM(h:S.pg[n]?=some p):lvA S n=p.lv:=by unfold lvA;rw[h]
theorem yR(W0:w.O7=false)(hpl:w.O6=some n∨(w.O6=none/\n=S.top))(hn:S.pg[n]?=some p)(hl:P.lv=p.lv)(hg:w.O4=p.lv){w0:Wk}(g0:w0.O4=w.O4)(f0:w0.O3=w.O3)(d0:w0.O7=w.O7):Uv S bg w (QG { S with rd:=S.rd+1 } w0 n P).2.1 (QG { S with rd:=S.rd+1 } w0 n P).2.2:=by
 have ln:=Qx hn;unfold QG;by_cases hr:P.ks.length<=S.O2
 ·rw[Ec (show P.ks.length<=({ S with rd:=S.rd+1 }:Sh).O2 from hr)]
  exact .over rfl (by simp) rfl
 ·rw[Eb (show ¬ P.ks.length<=({ S with rd:=S.rd+1 }:Sh).O2 from hr)]
  refine .part (q:=QU P) hpl hn hg (by simp) ?_ (by show P.lv=_;lia) rfl (by show P.lv+1=_;lia) f0 ?_ (by show w0.O7=false;rw[d0,W0])
  ·show((S.pg++[QU P]).set n (Q5 P S.pg.length))[S.pg.length]?=_
   rw[An (by lia)];simp
  ·show JU w0.O3 (P.lv+1)=_
   rw[f0,hl,hg]
theorem Kx(T:Tree S bg)(W:WOk S bg w)(hw:w.O7=false)(hs:JZ S w=some (r,S',w')):Uv S bg w S' w':=by
  obtain⟨n,hn0,hpl⟩:∃n,w.O6.getD S.top=n/\(w.O6=some n∨(w.O6=none/\n=S.top)):=by
    cases e:w.O6 with
    | none=>exact⟨S.top,rfl,.inr ⟨rfl,rfl⟩⟩
    | some m=>exact⟨m,rfl,.inl rfl⟩
  obtain⟨p,hn⟩:∃p,S.pg[n]?=some p:=by
    rcases hpl with hp | ⟨_,rfl⟩
    . obtain⟨p,a,_⟩:=W.at_ n hp;exact⟨p,a⟩
    . obtain⟨p,a,_⟩:=T.root;exact⟨p,a⟩
  have ln:=Qx hn;unfold JZ at hs;rw[Eb (by rw[hw];simp),hn0] at hs
  simp only[hn] at hs;by_cases hr:w.O6=none/\p.lv < w.O4
  . rw[Ec hr] at hs
    obtain⟨k,q,a1,a2,a3,a4⟩:=W.tell (by lia)
    simp only[a1] at hs;cases hs;have htop:n=S.top:=by
      rcases hpl with hp | ⟨_,e⟩
      . rw[hr.1] at hp;cases hp
      . exact e
    subst htop;exact .raised (q:=⟨p.lv+1,[w.aim],[(S.top:Int),(k:Int)],none,none⟩) rfl hn (by simp) rfl (by simp) rfl
  . rw[Eb hr] at hs
    have hg:w.O4<=p.lv:=by
      rcases hpl with hp | ⟨hp,_⟩
      . obtain⟨p',b1,b2,_⟩:=W.at_ n hp
        rw[hn] at b1;cases b1;exact b2
      . exact Nat.le_of_not_lt λh=>hr ⟨hp,h⟩
    cases hb:JP p w.aim with
    | true =>
      rw[hb,Ec rfl] at hs;cases hsd:p.sd with
      | none=>rw[hsd] at hs;cases hs
      | some s =>
        rw[hsd] at hs;cases hs;obtain⟨x,q,a1,a2,a3,a4,a5⟩:=xH T hn hsd;exact .side hpl hn hg a2 a3 a5 rfl rfl rfl rfl rfl hw
    | false =>
      rw[hb,Eb (by simp)] at hs
      by_cases hd:w.O4 < p.lv
      . rw[Ec hd] at hs
        cases hq:p.ps[cLe p.ks w.aim]? with
        | none=>rw[hq] at hs;cases hs
        | some c =>
          rw[hq] at hs;cases hs;obtain⟨c',z,b1,b2,b3,_⟩:=T.kid _ p hn (by lia) _ _ hq
          subst b1;exact .down hpl hn b3 (by lia) b2 rfl rfl rfl rfl (by simp[B7]) hw
      . rw[Eb hd] at hs
        have hgl:w.O4=p.lv:=by lia
        by_cases h0:0 < w.O4
        . rw[Ec h0] at hs
          obtain⟨k,q,a1,a2,a3,a4⟩:=W.tell h0;simp only[a1] at hs;simp only[Option.some.injEq,Bq] at hs;obtain⟨rfl,rfl,rfl⟩:=hs;exact yR (P:=Zw p w.aim k) hw hpl hn rfl hgl rfl rfl rfl
        . rw[Eb h0] at hs
          have hs:=Am hs;unfold Jc at hs;cases hdd:w.O0 with
          | find k=>rw[hdd] at hs;cases hs;exact .over rfl rfl rfl
          | put k x =>
            rw[hdd] at hs;dsimp only at hs;simp only[Bq] at hs;obtain⟨rfl,rfl,rfl⟩:=hs;exact yR (P:=QZ p w.aim x) hw hpl hn rfl hgl rfl rfl rfl
          | cut k =>
            rw[hdd] at hs;dsimp only at hs;cases hs;by_cases hq:(QY p w.aim).isSome=true
            . rw[Ec hq];exact .over rfl (by simp) rfl
            . rw[Eb hq];exact .over rfl rfl rfl
          | stretch l h =>
            rw[hdd] at hs;dsimp only at hs;rcases T.link n p hn with ⟨a,b⟩ | ⟨x,s,q,a,b,c,d,e⟩
            . simp only[a,b] at hs;cases hs;exact .over rfl rfl rfl
            . simp only[a,b] at hs
              by_cases hx:h<=x
              . rw[Ec hx] at hs;cases hs;exact .over rfl rfl rfl
              . rw[Eb hx] at hs;cases hs
                obtain⟨x',q',a1,a2,a3,a4,a5⟩:=xH T hn b;exact .side hpl hn hg a2 a3 a5 rfl rfl rfl rfl rfl hw
theorem JH(g:Y5 S bg S' bg'){n:Nat}(hn:n < S.pg.length):lvA S' n=lvA S n:=by
 obtain⟨_,p',h1,h2⟩:=g.old n _ (Ac hn);rw[ZM h1,ZM (Ac hn),h2]
def XG(g:Y5 S bg S' bg'){n:Nat}(hn:n < S.pg.length):bg' n=bg n:=(g.old n _ (Ac hn)).1
theorem jI(T:Tree S bg):S.top < S.pg.length:=by obtain⟨r,h,_⟩:=T.root;exact Qx h
theorem xi(T:Tree S bg){m:Nat}(h:m < S.pg.length):lvA S m<=lvA S S.top:=by
 obtain⟨r,h1,h2⟩:=T.root;rw[ZM h1,ZM (Ac h)];exact h2 m _ (Ac h)
theorem Qeq(T:Tree S bg)(W:WOk S bg w)(K:Uv S bg w S' w')(g:Y5 S bg S' bg')(he:w'.O7=false):phi S' bg' w'+1<=phi S bg w:=by
  cases K with
  | over e6=>rw[he] at e6;cases e6
  | raised e6=>rw[he] at e6;cases e6
  | @side n s p q hp hn hg hs hl hb e1 e2 e3 e4 e5 e6 =>
    have eL:∀m,lvA S' m=lvA S m:=λm=>by unfold lvA;rw[e1]
    have eB:∀m,m < S.pg.length->bg' m=bg m:=λm hm=>XG g hm;have ls:=Qx hs;have key:((List.range S'.pg.length).filter (Ct S' bg' w')).length < ((List.range S.pg.length).filter (Ct S bg w)).length:=by
      rw[e1];refine jZ _ _ _ (λm hm h=>?_) ⟨s,Ch.mpr ls,?_,?_⟩
      . have lm:=Ch.mp hm
        unfold Ct at h ⊢;rw[Be] at h ⊢;rw[eL,e3] at h;refine⟨h.1,?_⟩;have h2:=h.2;unfold vis at h2 ⊢;rw[e5] at h2;simp only[eL,ZM hs,e4] at h2;rcases hp with hp | ⟨hp,rfl⟩
        . rw[hp]
          simp only[ZM hn];rw[hl] at h2;by_cases c:p.lv=lvA S m
          . rw[Ec c] at h2 ⊢
            unfold ltV at h2 ⊢;simp only[eB s ls,eB m lm] at h2;exact zR hb h2
          . rw[Eb c] at h2 ⊢
            by_cases c2:p.lv < lvA S m
            . rw[Ec c2] at h2 ⊢
              unfold ltV at h2 ⊢;cases hf:JU w.O3 (lvA S m) with
              | none=>rfl
              | some f =>
                rw[hf] at h2;obtain⟨z,z1,_⟩:=W.kept _ f hf;simp only[eB f (Qx z1),eB m lm] at h2;exact h2
            . rw[Eb c2];rfl
        . rw[hp];rfl
      . unfold Ct vis
        rw[ZM hs,hl,Eg hg];rcases hp with hp | ⟨hp,rfl⟩
        . rw[hp];simp only[ZM hn,if_true];exact hb
        . rw[hp];rfl
      . unfold Ct vis
        rw[e5];simp[ltV,xh]
    unfold phi;rw[eL,e2,e3];lia
  | @down n c p q hp hn hl hg hc e1 e2 e3 e4 e5 e6 =>
    have eL:∀m,lvA S' m=lvA S m:=λm=>by unfold lvA;rw[e1]
    have eB:∀m,m < S.pg.length->bg' m=bg m:=λm hm=>XG g hm;have lc:=Qx hc;have key:((List.range S'.pg.length).filter (Ct S' bg' w')).length < ((List.range S.pg.length).filter (Ct S bg w)).length:=by
      rw[e1];refine jZ _ _ _ (λm hm h=>?_) ⟨c,Ch.mpr lc,?_,?_⟩
      . have lm:=Ch.mp hm
        unfold Ct at h ⊢;rw[Be] at h ⊢;rw[eL,e3] at h;refine⟨h.1,?_⟩;have h2:=h.2;unfold vis at h2 ⊢;rw[e5] at h2;simp only[eL,ZM hc,e4] at h2;rcases hp with hp | ⟨hp,rfl⟩
        . rw[hp]
          simp only[ZM hn];by_cases c1:p.lv=lvA S m
          . rw[Ec c1]
            rw[Eb (by lia),Ec (by lia),zi,Ec c1.symm] at h2
            unfold ltV at h2 ⊢;simp only[eB n (Qx hn),eB m lm] at h2;exact h2
          . rw[Eb c1]
            by_cases c2:p.lv < lvA S m
            . rw[Ec c2]
              rw[Eb (by lia),Ec (by lia),zi,Eb (by lia)] at h2
              unfold ltV at h2 ⊢;cases hf:JU w.O3 (lvA S m) with
              | none=>rfl
              | some f =>
                rw[hf] at h2;obtain⟨z,z1,_⟩:=W.kept _ f hf;simp only[eB f (Qx z1),eB m lm] at h2;exact h2
            . rw[Eb c2];rfl
        . rw[hp];rfl
      . unfold Ct vis
        rw[ZM hc,Eg hg];rcases hp with hp | ⟨hp,rfl⟩
        . rw[hp];simp only[ZM hn];rw[Eb (by lia),Eb (by lia)];rfl
        . rw[hp];rfl
      . unfold Ct vis
        rw[e5];simp[ltV,xh]
    unfold phi;rw[eL,e2,e3];lia
  | @part n p q hp hn hg el eq hq e2 e3 e4 e5 e6 =>
    have ln:=Qx hn;have key:((List.range S'.pg.length).filter (Ct S' bg' w')).length<=((List.range S.pg.length).filter (Ct S bg w)).length:=by
      rw[el,List.range_succ,List.filter_append,Ao];have z:Ct S' bg' w' S.pg.length=false:=by
        unfold Ct;rw[ZM eq,e3,hq,Ei (by lia)];rfl
      rw[Au,z];simp only[A7,if_false,List.filter_nil,List.length_nil,Nat.add_zero];refine KY _ _ _ λm hm h=>?_;have lm:=Ch.mp hm;unfold Ct at h ⊢;rw[Be] at h ⊢;rw[JH g lm,e3] at h;have h1:w.O4+1<=lvA S m:=Eh h.1;refine⟨Eg (by lia),?_⟩
      have h2:=h.2;rcases hp with hp | ⟨hp,rfl⟩
      . unfold vis at h2 ⊢
        rw[hp];rw[e5] at h2;simp only[ZM hn];rw[Eb (by lia),Ec (by lia)]
        cases hf:JU w.O3 (lvA S m) with
        | none=>rfl
        | some f =>
          obtain⟨f1,hf1⟩:=W.full n p hp hn _ f hf (w.O4+1) (by lia) (by lia)
          rw[hf1] at h2;obtain⟨z1,y1,y2⟩:=W.kept _ f1 hf1;obtain⟨z2,y3,y4⟩:=W.kept _ f hf;simp only[JH g (Qx y1),ZM y1,y2,e4] at h2;by_cases c:w.O4+1=lvA S m
          . rw[Ec c] at h2
            rw[<- c,hf1] at hf;cases hf;unfold ltV at h2 ⊢;simp only[XG g (Qx y1),XG g lm] at h2;exact h2
          . rw[Eb c,Ec (by lia),hf] at h2
            unfold ltV at h2 ⊢;simp only[XG g (Qx y3),XG g lm] at h2;exact h2
      . have:=xi T lm
        rw[ZM hn] at this;lia
    have ht:lvA S' S'.top=lvA S S.top:=by rw[e2];exact JH g (jI T)
    have:=xi T ln;rw[ZM hn] at this;unfold phi;rw[ht,e3];lia
theorem QbD(V:WOk S bg v)(g:Y5 S bg S' bg'){m:Nat}(lm:m < S.pg.length):Ct S' bg' v m=Ct S bg v m:=by
  unfold Ct;rw[JH g lm];congr 1;unfold vis;cases hp:v.O6 with
  | none=>rfl
  | some n =>
    obtain⟨p,h1,_⟩:=V.at_ n hp;simp only[JH g (Qx h1)];by_cases c:lvA S n=lvA S m
    . rw[Ec c];unfold ltV;simp only[XG g (Qx h1),XG g lm]
    . rw[Eb c]
      by_cases c2:lvA S n < lvA S m
      . rw[Ec c2]
        unfold ltV;cases hf:JU v.O3 (lvA S m) with
        | none=>rfl
        | some f =>
          obtain⟨z,z1,_⟩:=V.kept _ f hf;simp only[XG g (Qx z1),XG g lm]
      . rw[Eb c2];rfl
theorem VU(T:Tree S bg)(V:WOk S bg v)(g:Y5 S bg S' bg')(el:S'.pg.length=S.pg.length)(e2:S'.top=S.top):phi S' bg' v=phi S bg v:=by
 unfold phi;rw[el,e2,JH g (jI T),Yn λm hm=>QbD V g (Ch.mp hm)]
theorem vL(T:Tree S bg)(V:WOk S bg v)(g:Y5 S bg S' bg')(el:S'.pg.length=S.pg.length+1):phi S' bg' v<=phi S bg v+1+(lvA S' S'.top - lvA S S.top):=by
 unfold phi;rw[el,List.range_succ,List.filter_append,Ao,Yn (h:=Ct S bg v) λm hm=>QbD V g (Ch.mp hm)];have:(List.filter (Ct S' bg' v) [S.pg.length]).length<=1:=Cb _ _;lia
theorem jV(f:Wk->Bool):∀(ws:List Wk)(i:Nat)(w w':Wk),ws[i]?=some w->((ws.set i w').filter f).length+(if f w=true then 1 else 0)=(ws.filter f).length+(if f w'=true then 1 else 0)
  | [],i,w,w',h=>by cases h
  | x::ws,0,w,w',h=>by
    cases h;rw[List.set_cons_zero,Au,Au];by_cases a:f x=true<;>by_cases b:f w'=true<;>simp[a,b]<;>lia
  | x::ws,i+1,w,w',h=>by
    have:=jV f ws i w w' h;rw[List.set_cons_succ,Au,Au];by_cases a:f x=true<;>simp[a]<;>lia
def zf(w:Wk):Bool:=decide (w.O4=0)&&!w.O7
def lf(w:Wk):Bool:=!w.O7
def zc(ws:List Wk):Nat:=(ws.filter zf).length
def lc(ws:List Wk):Nat:=(ws.filter lf).length
def Lim(S:Sh)(bg:Bg)(ws:List Wk)(t:Nat->Nat):Prop:=∀(i:Nat)(w:Wk),ws[i]?=some w->w.O7=false->phi S bg w+2 * (Xc S 0+zc ws)+lc ws<=S.pg.length+t i
theorem Qer(T:Tree S bg)(W:WOk S bg w):1<=phi S bg w:=by
 unfold phi;have:w.O4<=lvA S S.top+1:=by
  rcases Nat.eq_zero_or_pos w.O4 with h | h
  ·lia
  ·obtain⟨k,q,_,h2,h3,_⟩:=W.tell h
   have:=xi T (Qx h2);rw[ZM h2] at this;lia
 lia
theorem Lim.pos{ws:List Wk}{t:Nat->Nat}{i:Nat}(L:Lim S bg ws t)(T:Tree S bg)(K:Fk S)(W:WOk S bg w)(hi:ws[i]?=some w)(hw:w.O7=false):1<=t i:=by
 have h1:=L i w hi hw;have h2:=vJ T K;have h3:=Qer T W;lia
theorem QgQ{ws:List Wk}{i:Nat}(T:Tree S bg)(W:WOk S bg w)(hi:ws[i]?=some w)(hw:w.O7=false)(K:Uv S bg w S' w')(g:Y5 S bg S' bg'):2 * (Xc S' 0+zc (ws.set i w'))+lc (ws.set i w')+(lvA S' S'.top - lvA S S.top)<=2 * (Xc S 0+zc ws)+lc ws/\lc ws<=lc (ws.set i w')+1:=by
  have cz:=jV zf ws i w w' hi;have cl:=jV lf ws i w w' hi;have lw:lf w=true:=by unfold lf;rw[hw];rfl
  rw[Ec lw] at cl;have zw:zf w=decide (w.O4=0):=by unfold zf;rw[hw];simp
  refine⟨?_,by unfold lc;lia⟩
  unfold zc lc;cases K with
  | side hp hn hg hs hl hb e1 e2 e3 e4 e5 e6 =>
    have z:zf w'=zf w:=by unfold zf;rw[e3,e6,hw]
    have l:lf w'=true:=by unfold lf;rw[e6];rfl
    rw[z] at cz;rw[Ec l] at cl;rw[xV g (by rw[e1]),e2,JH g (jI T)];lia
  | down hp hn hl hg hc e1 e2 e3 e4 e5 e6 =>
    have z:zf w'=zf w:=by unfold zf;rw[e3,e6,hw]
    have l:lf w'=true:=by unfold lf;rw[e6];rfl
    rw[z] at cz;rw[Ec l] at cl;rw[xV g (by rw[e1]),e2,JH g (jI T)];lia
  | part hp hn hg el eq hq e2 e3 e4 e5 e6 =>
    have z:zf w'=false:=by unfold zf;rw[e3];simp
    have l:lf w'=true:=by unfold lf;rw[e6];rfl
    rw[z,zw] at cz;rw[Ec l] at cl;rw[U5 g el eq,e2,JH g (jI T),hq];by_cases c:w.O4=0
    . rw[Ec c];simp[c] at cz;lia
    . rw[Eb c];simp[c] at cz;lia
  | over e6 el e2 =>
    have z:zf w'=false:=by unfold zf;rw[e6];simp
    have l:lf w'=false:=by unfold lf;rw[e6];rfl
    rw[z] at cz;rw[l] at cl;simp only[A7,if_false] at cz cl;rw[xV g el,e2,JH g (jI T)];lia
  | raised e6 hr el e2 eq hq =>
    have z:zf w'=false:=by unfold zf;rw[e6];simp
    have l:lf w'=false:=by unfold lf;rw[e6];rfl
    rw[z] at cz;rw[l] at cl;simp only[A7,if_false] at cz cl;rw[U5 g el eq,Eb (by lia),e2,ZM eq,ZM hr];lia
theorem QiY{ws:List Wk}{i:Nat}(T:Tree S bg)(W:WOk S bg w)(hi:ws[i]?=some w)(hw:w.O7=false)(K:Uv S bg w S' w')(g:Y5 S bg S' bg'):Xc S' 0+zc (ws.set i w')<=Xc S 0+zc ws:=by
 have:=QgQ T W hi hw K g;lia
theorem Lim.step{ws:List Wk}{t:Nat->Nat}{i:Nat}(L:Lim S bg ws t)(A:All S bg ws)(T:Tree S bg)(hi:ws[i]?=some w)(hw:w.O7=false)(hs:JZ S w=some (r,S',w'))(g:Y5 S bg S' bg'):Lim S' bg' (ws.set i w') (λj=>if j=i then t i - 1 else t j):=by
 have W:=A.ok i w hi hw;have K:=Kx T W hw hs;have QgQ:=(QgQ T W hi hw K g).1;have grows:S.pg.length<=S'.pg.length:=by
  cases K with
  | side hp hn hg hs hl hb e1=>rw[e1];exact Ag _
  | down hp hn hl hg hc e1=>rw[e1];exact Ag _
  | part hp hn hg el=>lia
  | over e6 el=>lia
  | raised e6 hr el=>lia
 have oth:∀v,WOk S bg v->phi S' bg' v+S.pg.length<=phi S bg v+S'.pg.length+(lvA S' S'.top - lvA S S.top):=λv V=>by
  cases K with
  | side hp hn hg hs hl hb e1 e2=>rw[VU T V g (by rw[e1]) e2,e1];lia
  | down hp hn hl hg hc e1 e2=>rw[VU T V g (by rw[e1]) e2,e1];lia
  | part hp hn hg el=>have:=vL T V g el;lia
  | over e6 el e2=>rw[VU T V g el e2,el];lia
  | raised e6 hr el=>have:=vL T V g el;lia
 intro j u hj hu;rcases Q2 hj with ⟨rfl,rfl,_⟩ | ⟨e,h⟩
 ·have h1:=L j w hi hw
  have h2:=Qeq T W K g hu;show _<=_+(if j=j then t j - 1 else t j)
  rw[Ec rfl];lia
 ·have h1:=L j u h hu
  have h2:=oth u (A.ok j u h hu);show _<=_+(if j=i then t i - 1 else t j)
  rw[Eb e];lia
def QhD(ws:List Wk):lc ws<=ws.length:=Cb _ _
def Qip(ws:List Wk):zc ws<=ws.length:=Cb _ _
theorem Lim.first(T:Tree S bg)(K:Fk S)(hK:∀j,0 < j->j<=lvA S S.top->∃(f:Nat)(q:Pg),S.pg[f]?=some q/\q.lv=j)(ws:List Wk):Lim S bg ws (λ_=>2 * S.pg.length+3 * ws.length+2):=λi w hi hw=>by
 have h1:phi S bg w<=S.pg.length+(lvA S S.top+2):=by
  unfold phi;have:=Cb (Ct S bg w) (List.range S.pg.length);rw[List.length_range] at this;lia
 obtain⟨r,r1,r2⟩:=T.root;rw[ZM r1] at h1 hK;have h2:=T.pages_row r1 hK;have h3:=QhD ws;have h4:=Qip ws;show _<=_+(2 * S.pg.length+3 * ws.length+2);lia
end
section
variable{S S':Sh}{bg bg':Bg}{n m:Nat}{p q P:Pg}{w w' v:Wk}{r:Row}{k:Int}
theorem Tree.levels(T:Tree S bg):∀j,0 < j->j<=lvA S S.top->∃(f:Nat)(q:Pg),S.pg[f]?=some q/\q.lv=j:=λj _ hj=>by
 obtain⟨r,r1,r2⟩:=T.root;rw[ZM r1] at hj;obtain⟨L,h1,h2⟩:=vw T r.lv S.top r rfl r1 T.rbg;obtain⟨h3,h4⟩:=h1.get T r r1;have hl:r.lv - j < L.length:=by lia
 obtain⟨q,a,b,_⟩:=h4 (r.lv - j) L[r.lv - j] (Ac hl);exact⟨_,q,a,by lia⟩
theorem v0(T:Tree S bg)(hn:S.pg[n]?=some p){j:Nat}(hj:j<=p.ks.length):leBB (bg n) (Zj (bg n) p.ks j)/\∀h v,p.hi=some h->Zj (bg n) p.ks j=some v->v < h:=by
  have ok:=T.page n p hn;cases j with
  | zero=>exact⟨leBB.refl _,λh v h1 h2=>ok.wide h h1 v h2⟩
  | succ i =>
    have hi:i < p.ks.length:=by lia
    have g:Zj (bg n) p.ks (i+1)=some p.ks[i]:=Ac hi;have m:p.ks[i]∈p.ks:=B9 _;rw[g];exact⟨λv hv=>⟨_,rfl,ok.low _ m v hv⟩,λh v h1 h2=>by cases h2;exact ok.high _ m h h1⟩
theorem Kw(T:Tree S bg)(hn:S.pg[n]?=some p)(hl:0 < p.lv){i j:Nat}(hj:j<=p.ks.length)(hij:i < j):Zj (bg n) p.ks i≠Zj (bg n) p.ks j:=λe=>by
  have ok:=T.page n p hn;cases j with
  | zero=>lia
  | succ j =>
    have hj':j < p.ks.length:=by lia
    have g:Zj (bg n) p.ks (j+1)=some p.ks[j]:=Ac hj';rw[g] at e;cases i with
    | zero =>
      have:=ok.lowF hl p.ks[j] (B9 _) _ e;lia
    | succ i =>
      have:=Yu ok.sorted (show p.ks[i]?=some p.ks[j] from e) (Ac hj') (by lia)
      lia
theorem kN(T:Tree S bg)(hn:S.pg[n]?=some p)(hm:S.pg[m]?=some q)(hl:0 < p.lv)(hl':0 < q.lv){i j:Nat}{c:Int}(hi:p.ps[i]?=some c)(hj:q.ps[j]?=some c):n=m/\i=j:=by
 obtain⟨c1,z1,a1,a2,a3,a4⟩:=T.kid n p hn hl i c hi;obtain⟨c2,z2,b1,b2,b3,b4⟩:=T.kid m q hm hl' j c hj;have ec:c1=c2:=by lia
 subst ec;rw[a2] at b2;cases b2;rw[a4] at b4;have pi:i<=p.ks.length:=by
  have:=(T.page n p hn).parts;rw[Eb (by lia)] at this
  have:=Qx hi;lia
 have pj:j<=q.ks.length:=by
  have:=(T.page m q hm).parts;rw[Eb (by lia)] at this
  have:=Qx hj;lia
 obtain⟨x1,x2⟩:=v0 T hn pi;obtain⟨y1,y2⟩:=v0 T hm pj;have nm:n=m:=by
  rcases Nat.decEq n m with h | h
  ·exfalso
   rcases T.dis n m p q hn hm (by lia) h with ⟨u,v,e1,e2,e3⟩ | ⟨u,v,e1,e2,e3⟩
   ·obtain⟨z,z1,z2⟩:=y1 v e2
    have:=x2 u z e1 (b4.trans z1);lia
   ·obtain⟨z,z1,z2⟩:=x1 v e2
    have:=y2 u z e1 (b4.symm.trans z1);lia
  ·exact h
 subst nm;rw[hn] at hm;cases hm;refine⟨rfl,?_⟩;rcases Nat.lt_trichotomy i j with h | h | h
 ·exact absurd b4 (Kw T hn hl pj h)
 ·exact h
 ·exact absurd b4.symm (Kw T hn hl pi h)
def zq(S:Sh)(n:Nat):List Int:=match S.pg[n]? with
 | some p=>if 0 < p.lv then p.ps else []
 | none=>[]
theorem jB{c:Int}(h:c∈zq S n):∃(p:Pg)(i:Nat),S.pg[n]?=some p/\0 < p.lv/\p.ps[i]?=some c:=by
  unfold zq at h;cases e:S.pg[n]? with
  | none=>rw[e] at h;cases h
  | some p =>
    rw[e] at h;dsimp only at h;by_cases z:0 < p.lv
    . rw[Ec z] at h
      obtain⟨i,hi⟩:=List.mem_iff_getElem?.mp h;exact⟨p,i,rfl,z,hi⟩
    . rw[Eb z] at h;cases h
theorem Gi{xs:List Int}(h:∀(i j:Nat)(c:Int),xs[i]?=some c->xs[j]?=some c->i=j):xs.Nodup:=by
 show List.Pairwise (· ≠ ·) xs;rw[Cr];intro i j hi hj hij e;have:=h i j xs[i] (Ac hi) (by rw[Ac hj,e])
 lia
end
section
variable{S S':Sh}{bg bg':Bg}{w w':Wk}{r:Row}
theorem QgV(T:Tree S bg):lvA S S.top<=S.pg.length:=by
 have h:∀j,∃f,j < lvA S S.top->f < S.pg.length/\lvA S f=j+1:=λj=>by
  by_cases e:j < lvA S S.top
  ·obtain⟨f,q,h1,h2⟩:=T.levels (j+1) (by lia) (by lia)
   exact⟨f,λ_=>⟨Qx h1,by rw[ZM h1,h2]⟩⟩
  ·exact⟨0,λx=>absurd x e⟩
 obtain⟨g,hg⟩:=Classical.axiomOfChoice h;have nd:((List.range (lvA S S.top)).map g).Nodup:=by
  rw[List.Nodup,List.pairwise_map];refine List.Pairwise.imp_of_mem (λ{a b} ha hb hab e=>?_) (List.nodup_range (n:=lvA S S.top));have h1:=(hg a (Ch.mp ha)).2;have h2:=(hg b (Ch.mp hb)).2;rw[e] at h1;exact hab (by lia)
 have:=ZV (m:=List.range S.pg.length) nd λx hx=>by
  obtain⟨a,ha,rfl⟩:=C9.mp hx;exact Ch.mpr (hg a (Ch.mp ha)).1
 simpa using this
def FkOk(S:Sh)(w:Wk):Prop:=(w.O3.map (·.1)).Nodup/\∀x∈w.O3,x.1<=lvA S S.top
theorem QeF{fs:List (Nat×Nat)}{k v m:Nat}(h1:(fs.map (·.1)).Nodup)(h2:∀x∈fs,x.1<=m)(hk:k<=m):((zC fs k v).map (·.1)).Nodup/\∀x∈zC fs k v,x.1<=m:=by
 unfold zC;split
 ·have e:(fs.map λp=>if p.1=k then (p.1,v) else p).map (·.1)=fs.map (·.1):=by
   rw[List.map_map];apply List.map_congr_left;intro a _;show(if a.1=k then (a.1,v) else a).1=a.1
   split<;>rfl
  refine⟨by rw[e];exact h1,λx hx=>?_⟩
  obtain⟨a,ha,rfl⟩:=C9.mp hx;have:=h2 a ha;split<;>exact this
 ·rename_i hn
  refine⟨?_,λx hx=>?_⟩
  ·rw[List.map_append,List.nodup_append]
   refine⟨h1,by simp,λa ha b hb e=>?_⟩
   simp at hb;subst hb;subst e;obtain⟨p,hp,hk'⟩:=C9.mp ha;exact hn (List.any_eq_true.mpr ⟨p,hp,Eg hk'⟩)
  ·rcases Aj.mp hx with h | h
   ·exact h2 x h
   ·simp at h;subst h;exact hk
theorem xF(S:Sh)(w:Wk)(n:Nat)(p:Pg):(QG S w n p).2.2.O3=w.O3:=by
 unfold QG;split<;>rfl
theorem uN(S:Sh)(w:Wk)(n:Nat)(p:Pg):(Jc S w n p).2.2.O3=w.O3:=by
  unfold Jc;cases w.O0 with
  | find k=>rfl
  | put k x=>exact xF ..
  | cut k=>rfl
  | stretch l h =>
    dsimp only;split
    . split<;>rfl
    . rfl
theorem gF(h:JZ S w=some (r,S',w')):w'.O3=w.O3∨∃n p,S.pg[n]?=some p/\w'.O3=zC w.O3 p.lv n:=by
 unfold JZ at h;split at h
 ·cases h;exact .inl rfl
 ·split at h
  ·cases h
  ·rename_i p hp
   split at h
   ·split at h
    ·cases h
    ·cases h;exact .inl rfl
   ·split at h
    ·split at h
     ·cases h
     ·cases h;exact .inl rfl
    ·split at h
     ·split at h
      ·cases h
      ·cases h;exact .inr ⟨_,p,hp,rfl⟩
     ·split at h
      ·split at h
       ·cases h
       ·cases h;exact .inl (xF ..)
      ·have e:=Am h
       have e2:w'=(Jc { S with rd:=S.rd+1 } w (w.O6.getD S.top) p).2.2:=by rw[e]
       rw[e2];exact .inl (uN ..)
theorem v9(T:Tree S bg)(T':Tree S' bg')(g:Y5 S bg S' bg'):lvA S S.top<=lvA S' S'.top:=by
 have h:=jI T;rw[<- JH g h];obtain⟨_,p',h',_⟩:=g.old S.top _ (Ac h);exact xi T' (Qx h')
def FkOk.grow(F:FkOk S w)(T:Tree S bg)(T':Tree S' bg')(g:Y5 S bg S' bg'):FkOk S' w:=⟨F.1,λx hx=>Bk (F.2 x hx) (v9 T T' g)⟩
theorem FkOk.step(F:FkOk S w)(T:Tree S bg)(T':Tree S' bg')(g:Y5 S bg S' bg')(h:JZ S w=some (r,S',w')):FkOk S' w':=by
 have tg:=v9 T T' g;rcases gF h with e | ⟨n,p,hp,e⟩
 ·exact⟨by rw[e];exact F.1,λx hx=>by rw[e] at hx;exact Bk (F.2 x hx) tg⟩
 ·have hl:p.lv<=lvA S S.top:=by
   rw[<- ZM hp];exact xi T (Qx hp)
  obtain⟨a,b⟩:=QeF (k:=p.lv) (v:=n) F.1 F.2 hl;exact⟨by rw[e];exact a,λx hx=>by rw[e] at hx;exact Bk (b x hx) tg⟩
theorem FkOk.len(F:FkOk S w)(T:Tree S bg):w.O3.length<=S.pg.length+1:=by
 have h:=ZV (m:=List.range (lvA S S.top+1)) F.1 λx hx=>by
  obtain⟨a,ha,rfl⟩:=C9.mp hx;have:=F.2 a ha;exact Ch.mpr (by lia)
 have:=QgV T;simp at h;lia
theorem FkOk.fresh(d:Deed):FkOk S (fresh d):=⟨List.Pairwise.nil,λx hx=>by cases hx⟩
end
structure St where
 S:Sh
 ws:List Wk
 ns:List Nat
 tk:Nat
inductive Out where
 | rest
 | take (n:Nat)
 | did (n:Nat) (r:Row)
def mv(ds:List Deed)(s:St)(i:Nat):Option (Out×St):=match s.ws[i]? with
  | none=>none
  | some w =>
    if w.O7=true then
      match ds[s.tk]? with
      | none=>some (.rest,s)
      | some d=>some (.take s.tk,{ s with ws:=s.ws.set i (fresh d),ns:=s.ns.set i s.tk,tk:=s.tk+1 })
    else
      match JZ s.S w with
      | none=>none
      | some (r,S',w')=>some (.did (s.ns.getD i 0) r,{ s with S:=S',ws:=s.ws.set i w' })
def still(ds:List Deed)(s:St):Bool:=decide (s.tk=ds.length)&&s.ws.all (·.O7)
structure StOk(ds:List Deed)(s:St)(bg:Bg)(b:Nat->Nat):Prop where
 T:Tree s.S bg
 A:All s.S bg s.ws
 K:Fk s.S
 D:Tld s.S s.ws
 rm:s.S.O2<=5
 len:s.ns.length=s.ws.length
 tk:s.tk<=ds.length
 cn:Xc s.S 0+zc s.ws<=1+s.tk
 fk:∀(i:Nat)(w:Wk),s.ws[i]?=some w->w.O7=false->FkOk s.S w
 pr:∀(i:Nat)(w:Wk),s.ws[i]?=some w->w.O7=false->w.O5.length<=5 * b i
def upB(b:Nat->Nat)(i:Nat):Nat->Nat:=λj=>if j=i then b i+1 else b j
def dnT(t:Nat->Nat)(i:Nat):Nat->Nat:=λj=>if j=i then t i - 1 else t j
section
variable{ds:List Deed}{s:St}{bg:Bg}{b:Nat->Nat}
theorem StOk.mono(Y:StOk ds s bg b){b':Nat->Nat}(h:∀i,i < s.ws.length->b i<=b' i):StOk ds s bg b':=⟨Y.T,Y.A,Y.K,Y.D,Y.rm,Y.len,Y.tk,Y.cn,Y.fk,λi w hi hw=>by
 have:=Y.pr i w hi hw;have:=h i (Ad.mp hi).1;lia⟩
theorem StOk.pages(Y:StOk ds s bg b):s.S.pg.length<=2 * (1+s.tk):=by
 have h1:=vJ Y.T Y.K;have h2:=Y.cn;lia
theorem StOk.more(Y:StOk ds s bg b)(d:Deed):StOk (ds++[d]) s bg b:=⟨Y.T,Y.A,Y.K,Y.D,Y.rm,Y.len,by have:=Y.tk;simp;lia,Y.cn,Y.fk,Y.pr⟩
theorem yv(h:still ds s=true):s.tk=ds.length/\∀(i:Nat)(w:Wk),s.ws[i]?=some w->w.O7=true:=by
 unfold still at h;simp only[Be,decide_eq_true_eq,List.all_eq_true] at h;exact⟨h.1,λi w hi=>h.2 w (Ax hi)⟩
theorem StOk.anew(Y:StOk ds s bg b)(h:still ds s=true)(b':Nat->Nat):StOk ds s bg b':=⟨Y.T,Y.A,Y.K,Y.D,Y.rm,Y.len,Y.tk,Y.cn,Y.fk,λi w hi hw=>by rw[(yv h).2 i w hi] at hw;cases hw⟩
theorem Qcx(Y:StOk ds s bg b){i:Nat}(hi:i < s.ws.length):∃o s' bg',mv ds s i=some (o,s')/\StOk ds s' bg' (upB b i)/\s'.ws.length=s.ws.length/\s.tk<=s'.tk /\
    (s.tk < s'.tk∨((∀t,Lim s.S bg s.ws t->Lim s'.S bg' s'.ws (dnT t i))/\¬ (s.ws[i].O7=true/\s.tk < ds.length))):=by
  have hw:=Ac hi;generalize hwe:s.ws[i]=w at hw;unfold mv;rw[hw];dsimp only;cases he:w.O7 with
  | true =>
    rw[Ec rfl];cases hd:ds[s.tk]? with
    | none =>
      have le:ds.length<=s.tk:=by simpa using hd
      refine⟨_,s,bg,rfl,Y.mono λj _=>by unfold upB;split<;>first | lia | (subst_vars;lia),rfl,Ag _,.inr ⟨λt L j u hj hu=>?_,λh=>by lia⟩⟩
      have ne:j≠i:=λe=>by subst e;rw[hw] at hj;cases hj;rw[he] at hu;cases hu
      unfold dnT;rw[Eb ne];exact L j u hj hu
    | some d =>
      have lt:s.tk < ds.length:=(Ad.mp hd).1;have cz:=jV zf s.ws i w (fresh d) hw;have cn:=Y.cn;have z1:∀c:Bool,(if c=true then 1 else 0)<=1:=λc=>by cases c<;>simp
      have z2:=z1 (zf (fresh d));refine⟨_,_,bg,rfl,⟨Y.T,Y.A.put rfl rfl rfl,Y.K,Y.D.put (λv hv=>by rw[hw] at hv;cases hv;exact he) _,Y.rm,by simp[Y.len],by show s.tk+1<=_;lia,?_,λj u hj hu=>?_,λj u hj hu=>?_⟩,by simp,by show s.tk<=s.tk+1;lia,.inl (by show s.tk < s.tk+1;lia)⟩
      . show Xc s.S 0+zc (s.ws.set i (fresh d))<=1+(s.tk+1)
        unfold zc at cn ⊢;lia
      . rcases Q2 hj with ⟨rfl,e,_⟩ | ⟨ne,hj⟩
        . rw[e];exact FkOk.fresh d
        . exact Y.fk j u hj hu
      . rcases Q2 hj with ⟨rfl,e,_⟩ | ⟨ne,hj⟩
        . rw[e];exact Bf _
        . have:=Y.pr j u hj hu
          unfold upB;rw[Eb ne];exact this
  | false =>
    rw[Eb (by simp)]
    have W:=Y.A.ok i w hw he;obtain⟨r,S2,v2,bg2,es,st⟩:=QeY Y.T W he (λg c hc=>Y.A.unt i w c hw he g hc);rw[es];have rm:=Y.rm;have sz:=gG (m:=5) (λm p hm=>by have:=(Y.T.page m p hm).few;lia) es
    have kd:=Kx Y.T W he es;have zs:=QiY Y.T W hw he kd st.grow;have li:=hi;refine⟨_,_,bg2,rfl,⟨st.tree,Y.A.step hw he st,Y.K.step Y.T es,Y.D.step Y.T W hw he es,by show S2.O2<=5;rw[st.O2];exact rm,by simp[Y.len],Y.tk,Bk zs Y.cn,λj u hj hu=>?_,λj u hj hu=>?_⟩,by simp,Ag _,.inr ⟨λt L=>L.step Y.A Y.T hw he es st.grow,λh=>by cases h.1⟩⟩
    . rcases Q2 hj with ⟨rfl,e,_⟩ | ⟨ne,hj⟩
      . rw[e];exact(Y.fk j w hw he).step Y.T st.tree st.grow es
      . exact(Y.fk j u hj hu).grow Y.T st.tree st.grow
    . rcases Q2 hj with ⟨rfl,e,_⟩ | ⟨ne,hj⟩
      . have:=Y.pr j w hw he
        rw[e];unfold upB;rw[Ec rfl];lia
      . have:=Y.pr j u hj hu
        unfold upB;rw[Eb ne];exact this
inductive Run(ds:List Deed)(H K:Nat):Nat->St->List Out->St->Prop
 | nil (h:Nat) (s:St):Run ds H K h s [] s
 | cons {h:Nat} {s s1 s2:St} {o:Out} {os:List Out}:still ds s=false->h < s.ws.length->(∃bg b,StOk ds s bg b/\∀i,b i<=K)->mv ds s h=some (o,s1)->Run ds H K ((h+1) % H) s1 os s2->Run ds H K h s (o::os) s2
theorem Run.append{H K h:Nat}{os o2:List Out}(r:Run ds H K h s os s1)(hh:h < H):Run ds H K ((h+os.length) % H) s1 o2 s2->Run ds H K h s (os++o2) s2:=by
  induction r with
  | nil h s=>intro q;rw[List.length_nil,Nat.add_zero,Nat.mod_eq_of_lt hh] at q;exact q
  | @cons h s s1 _ o os a a2 a3 c _ ih =>
    intro q;refine .cons a a2 a3 c (ih (Nat.mod_lt _ (by lia)) ?_)
    rw[Nat.mod_add_mod,show h+1+os.length=h+(o::os).length by simp;lia]
    exact q
theorem turn{H K B:Nat}(hB:B+1<=K):∀(k h:Nat)(s:St)(bg:Bg),h+k=H->s.ws.length=H->StOk ds s bg (λi=>if i < h then B+1 else B) ->
    ∃os s' bg',Run ds H K h s os s'/\os.length<=k/\s'.ws.length=H/\StOk ds s' bg' (λ_=>B+1)/\s.tk<=s'.tk/\(still ds s'=true∨(os.length=k/\(s.tk < s'.tk∨((∀T,Lim s.S bg s.ws (λi=>if i < h then T - 1 else T)->Lim s'.S bg' s'.ws (λ_=>T - 1))/\(0 < k->¬ (∃w,s.ws[h]?=some w/\w.O7=true/\s.tk < ds.length))))))
  | 0,h,s,bg,e,l,Y=>⟨[],s,bg,.nil _ _,Ag _,l,Y.mono λi hi=>by rw[Ec (by lia)];lia,Ag _,.inr ⟨rfl,.inr ⟨λT L i w hi hw=>by
      have:=L i w hi hw;have li:=(Ad.mp hi).1;dsimp only at this ⊢;rw[Ec (by lia)] at this
      exact this,λh=>absurd h (by lia)⟩⟩⟩
  | k+1,h,s,bg,e,l,Y=>by
    cases hs:still ds s with
    | true=>exact⟨[],s,bg,.nil _ _,Bf _,l,Y.anew hs _,Ag _,.inl hs⟩
    | false =>
      obtain⟨o,s1,bg1,e1,Y1,l1,t1,c1⟩:=Qcx Y (i:=h) (by lia)
      obtain⟨os,s2,bg2,R,ln,l2,Y2,t2,c2⟩:=turn (H:=H) (B:=B) hB k (h+1) s1 bg1 (by lia) (by lia) (Y1.mono λi _=>by
        unfold upB;show(if i=h then (if h < h then B+1 else B)+1 else if i < h then B+1 else B)<=if i < h+1 then B+1 else B
        rw[Eb (Cy h)];by_cases a:i=h
        . rw[Ec a,Ec (by lia)];lia
        . rw[Eb a]
          by_cases c:i < h
          . rw[Ec c,Ec (by lia)];lia
          . rw[Eb c,Eb (by lia)];lia)
      have R':Run ds H K ((h+1) % H) s1 os s2:=by
        by_cases hk:k=0
        . have:os=[]:=by cases os with
            | nil=>rfl
            | cons _ _=>simp at ln;lia
          subst this;cases R;exact .nil _ _
        . rw[Nat.mod_eq_of_lt (by lia)];exact R
      refine⟨o::os,s2,bg2,.cons hs (by lia) ⟨bg,_,Y,λi=>by show(if i < h then B+1 else B)<=K;split<;>lia⟩ e1 R',by simp;lia,l2,Y2,Bk t1 t2,?_⟩
      rcases c2 with c2 | ⟨c2,c3⟩
      . exact .inl c2
      . refine .inr ⟨by simp[c2],?_⟩
        rcases c1 with c1 | ⟨c1,c4⟩
        . exact .inl (by lia)
        . rcases c3 with c3 | ⟨c3,_⟩
          . exact .inl (by lia)
          . refine .inr ⟨λT L=>c3 T λi w hi hw=>?_,λ_ ⟨w,hw,he,ht⟩=>c4 ⟨?_,ht⟩⟩
            . have q:=c1 _ L i w hi hw
              unfold dnT at q;dsimp only at q ⊢;by_cases a:i=h
              . subst a
                rw[Ec rfl,Eb (Cy _)] at q;rw[Ec (C5 _)];exact q
              . rw[Eb a] at q
                by_cases c:i < h
                . rw[Ec c] at q;rw[Ec (by lia)];exact q
                . rw[Eb c] at q;rw[Eb (by lia)];exact q
            . have:s.ws[h]=w:=by
                have hl:h < s.ws.length:=by lia
                rw[Ac hl] at hw;exact Am hw
              rw[this];exact he
theorem runs{H K C:Nat}(hH:0 < H)(hC:2 * (2 * (1+ds.length))+3 * H+2<=C):∀(M T B:Nat)(s:St)(bg:Bg),s.ws.length=H->StOk ds s bg (λ_=>B)->Lim s.S bg s.ws (λ_=>T)->(ds.length - s.tk) * (C+1)+T<=M->B+M+1<=K ->
    ∃os s' bg',Run ds H K 0 s os s'/\still ds s'=true/\os.length<=H * M/\s'.ws.length=H/\StOk ds s' bg' (λ_=>0)
  | M,T,B,s,bg,l,Y,L,hM,hK=>by
    cases hs:still ds s with
    | true=>exact⟨[],s,bg,.nil _ _,hs,Bf _,l,Y.anew hs _⟩
    | false =>
      obtain⟨os,s1,bg1,R,ln,l1,Y1,t1,c⟩:=turn (H:=H) (B:=B) (K:=K) (by lia) H 0 s bg (by lia) l (Y.mono λi _=>by rw[Eb (Nat.not_lt_zero _)];lia)
      have tk:=Y.tk;have tk1:=Y1.tk;have w0:s.tk < ds.length∨1<=T:=by
        by_cases a:s.tk < ds.length
        . exact .inl a
        . refine .inr (Nat.pos_of_ne_zero λh0=>?_)
          have al:s.ws.all (·.O7)=true:=by
            rw[List.all_eq_true];intro w hw;obtain⟨i,hi⟩:=List.getElem?_of_mem hw;cases he:w.O7 with
            | true=>rfl
            | false =>
              have:=L.pos Y.T Y.K (Y.A.ok i w hi he) hi he;lia
          unfold still at hs;rw[al,Bool.and_true,decide_eq_false_iff_not] at hs;exact hs (by lia)
      have M1:1<=M:=by
        rcases w0 with a | a
        . have:1 * (C+1)<=(ds.length - s.tk) * (C+1):=Nat.mul_le_mul_right _ (by lia)
          lia
        . lia
      rcases c with c | ⟨c,d⟩
      . refine⟨os,s1,bg1,R,c,?_,l1,Y1.anew c _⟩
        have:H * 1<=H * M:=Nat.mul_le_mul_left _ M1;lia
      . have go:∀T',Lim s1.S bg1 s1.ws (λ_=>T')->(ds.length - s1.tk) * (C+1)+T'<=M - 1->∃os s' bg',Run ds H K 0 s os s'/\still ds s'=true/\os.length<=H * M/\s'.ws.length=H/\StOk ds s' bg' (λ_=>0):=λT' L' hM'=>by
          obtain⟨o2,s2,bg2,R2,q2,n2,l2,Y2⟩:=runs (K:=K) hH hC (M - 1) T' (B+1) s1 bg1 l1 Y1 L' hM' (by have:=M1;lia)
          refine⟨os++o2,s2,bg2,R.append hH (by rw[C7,c,Nat.mod_self];exact R2),q2,?_,l2,Y2⟩
          have:H * M=H * (M - 1)+H:=by
            obtain⟨m,rfl⟩:∃m,M=m+1:=⟨M - 1,by lia⟩
            rw[Nat.add_sub_cancel,Nat.mul_succ]
          rw[Ao];lia
        rcases d with d | ⟨d,d2⟩
        . have pg:=Y1.pages
          refine go C (λi w hi hw=>?_) ?_
          . have:=Lim.first Y1.T Y1.K Y1.T.levels s1.ws i w hi hw
            dsimp only at this ⊢;rw[l1] at this;lia
          . have e:(ds.length - s.tk) * (C+1)=(ds.length - s.tk - 1) * (C+1)+(C+1):=by
              obtain⟨m,hm⟩:∃m,ds.length - s.tk=m+1:=⟨ds.length - s.tk - 1,by lia⟩
              rw[hm,Nat.add_sub_cancel,Nat.succ_mul]
            have f:(ds.length - s1.tk) * (C+1)<=(ds.length - s.tk - 1) * (C+1):=Nat.mul_le_mul_right _ (by lia)
            lia
        . by_cases e:s1.tk=s.tk
          . have T1:1<=T:=by
              rcases w0 with a | a
              . refine Nat.pos_of_ne_zero λh0=>?_
                have hl:0 < s.ws.length:=by lia
                cases he:s.ws[0].O7 with
                | true=>exact d2 hH ⟨_,Ac hl,he,a⟩
                | false =>
                  have:=L.pos Y.T Y.K (Y.A.ok 0 _ (Ac hl) he) (Ac hl) he;lia
              . exact a
            refine go (T - 1) (d T (by simpa using L)) ?_
            rw[e];lia
          . have pg:=Y1.pages
            refine go C (λi w hi hw=>?_) ?_
            . have:=Lim.first Y1.T Y1.K Y1.T.levels s1.ws i w hi hw
              dsimp only at this ⊢;rw[l1] at this;lia
            . have e:(ds.length - s.tk) * (C+1)=(ds.length - s.tk - 1) * (C+1)+(C+1):=by
                obtain⟨m,hm⟩:∃m,ds.length - s.tk=m+1:=⟨ds.length - s.tk - 1,by lia⟩
                rw[hm,Nat.add_sub_cancel,Nat.succ_mul]
              have f:(ds.length - s1.tk) * (C+1)<=(ds.length - s.tk - 1) * (C+1):=Nat.mul_le_mul_right _ (by lia)
              lia
  termination_by M=>M
end
section
variable{ds:List Deed}{s s':St}{bg:Bg}{F:Int->Option Int}{M:Nat->Option Int}{o:Out}
def rdS(s:St)(x:Int):St:={ s with S:={ s.S with rd:=x } }
def StOk.rd{b:Nat->Nat}(Y:StOk ds s bg b)(x:Int):StOk ds (rdS s x) bg b:=⟨⟨Y.T.room2,Y.T.root,Y.T.rbg,Y.T.page,Y.T.link,Y.T.kid,Y.T.dis,Y.T.pred⟩,⟨λi w h e=>(Y.A.ok i w h e).grow (S':={ s.S with rd:=x }) ⟨λn p h=>⟨rfl,p,h,rfl⟩⟩,Y.A.unt,Y.A.diff⟩,Y.K,Y.D,Y.rm,Y.len,Y.tk,Y.cn,Y.fk,Y.pr⟩
end
section
variable{S:Sh}{bg:Bg}{n:Nat}{p:Pg}{ls:List Nat}
def Jj(S:Sh)(ls:List Nat):List Int:=ls.flatMap (zq S)
theorem vt(T:Tree S bg)(nd:ls.Nodup):(Jj S ls).Nodup:=by
  show List.Pairwise (· ≠ ·) _;unfold Jj;rw[List.pairwise_flatMap];refine⟨λn hn=>?_,?_⟩
  . unfold zq
    cases e:S.pg[n]? with
    | none=>exact List.Pairwise.nil
    | some p =>
      dsimp only;by_cases z:0 < p.lv
      . rw[Ec z];exact Gi λi j c hi hj=>(kN T e e z z hi hj).2
      . rw[Eb z];exact List.Pairwise.nil
  . refine List.Pairwise.imp_of_mem (R:=(· ≠ ·)) (λ{a b} ha hb ne x hx y hy e=>?_) nd
    subst e;obtain⟨p,i,h1,h2,h3⟩:=jB hx;obtain⟨q,j,g1,g2,g3⟩:=jB hy;exact ne (kN T h1 g1 h2 g2 h3 g3).1
def Abv(S:Sh)(l:Nat)(ls:List Nat):Prop:=ls.Nodup/\∀m,m∈ls↔∃q,S.pg[m]?=some q/\l < q.lv
theorem Abv.next{l:Nat}{r:List Nat}(A:Abv S (l+1) ls)(nd:r.Nodup)(hr:∀m,m∈r↔∃q,S.pg[m]?=some q/\q.lv=l+1):Abv S l (ls++r):=by
 refine⟨List.nodup_append.mpr ⟨A.1,nd,λx hx y hy e=>?_⟩,λm=>?_⟩
 ·subst e
  obtain⟨q,a1,a2⟩:=(A.2 x).mp hx;obtain⟨q',b1,b2⟩:=(hr x).mp hy;rw[a1] at b1;cases b1;lia
 ·rw[Aj,A.2,hr]
  constructor
  ·rintro(⟨q,a,b⟩ | ⟨q,a,b⟩)
   ·exact⟨q,a,by lia⟩
   ·exact⟨q,a,by lia⟩
  ·rintro⟨q,a,b⟩
   by_cases e:q.lv=l+1
   ·exact .inr ⟨q,a,e⟩
   ·exact .inl ⟨q,a,by lia⟩
theorem Abv.all{r:List Nat}(A:Abv S 0 ls)(nd:r.Nodup)(hr:∀m,m∈r↔∃q,S.pg[m]?=some q/\q.lv=0):ls.length+r.length=S.pg.length:=by
 have nd2:(ls++r).Nodup:=List.nodup_append.mpr ⟨A.1,nd,λx hx y hy e=>by
  subst e;obtain⟨q,a1,a2⟩:=(A.2 x).mp hx;obtain⟨q',b1,b2⟩:=(hr x).mp hy;rw[a1] at b1;cases b1;lia⟩
 have h1:=ZV nd2 (m:=List.range S.pg.length) λx hx=>by
  rw[Ch];rcases Aj.mp hx with h | h
  ·obtain⟨q,a,_⟩:=(A.2 x).mp h;exact Qx a
  ·obtain⟨q,a,_⟩:=(hr x).mp h;exact Qx a
 have h2:=ZV (l:=List.range S.pg.length) (m:=ls++r) List.nodup_range λx hx=>by
  have lx:=Ch.mp hx;have g:=Ac lx;rw[Aj,A.2,hr];by_cases e:S.pg[x].lv=0
  ·exact .inr ⟨_,g,e⟩
  ·exact .inl ⟨_,g,by lia⟩
 rw[List.length_range,Ao] at h1 h2;lia
theorem Abv.whole(T:Tree S bg)(D:∀s,s < S.pg.length->s≠S.top->Kd S s)(A:Abv S 0 ls):(Jj S ls++[(S.top:Int)]).Nodup/\∀x,x∈Jj S ls++[(S.top:Int)]↔∃c:Nat,c < S.pg.length/\x=c:=by
 obtain⟨r,r1,r2⟩:=T.root;have kid:∀x,x∈Jj S ls->∃(c:Nat)(n:Nat)(p q:Pg),x=c/\S.pg[n]?=some p/\S.pg[c]?=some q/\q.lv+1=p.lv:=λx hx=>by
  obtain⟨n,_,hx⟩:=List.mem_flatMap.mp hx;obtain⟨p,i,h1,h2,h3⟩:=jB hx;obtain⟨c,q,a1,a2,a3,_⟩:=T.kid n p h1 h2 i _ h3;exact⟨c,n,p,q,a1,h1,a2,a3⟩
 refine⟨List.nodup_append.mpr ⟨vt T A.1,by simp,λx hx y hy e=>?_⟩,λx=>?_⟩
 ·rw[As] at hy
  obtain⟨c,n,p,q,a1,a2,a3,a4⟩:=kid x hx;have:c=S.top:=by lia
  subst this;rw[r1] at a3;cases a3;have:=r2 n p a2;lia
 ·rw[Aj,As]
  constructor
  ·rintro(h | h)
   ·obtain⟨c,n,p,q,a1,a2,a3,a4⟩:=kid x h
    exact⟨c,Qx a3,a1⟩
   ·exact⟨S.top,Qx r1,h⟩
  ·rintro⟨c,hc,rfl⟩
   by_cases e:c=S.top
   ·exact .inr (by rw[e])
   ·obtain⟨m,q,h1,h2,h3⟩:=D c hc e
    refine .inl (List.mem_flatMap.mpr ⟨m,(A.2 m).mpr ⟨q,h1,h2⟩,?_⟩);unfold zq;rw[h1];dsimp only;rw[Ec h2];exact h3
theorem Qci(T:Tree S bg)(hn:S.pg[n]?=some p)(hb:bg n=none)(h:0 < p.lv):∃(c:Nat)(q:Pg),p.ps[0]?=some (c:Int)/\S.pg[c]?=some q/\q.lv+1=p.lv/\bg c=none:=by
 have pt:=(T.page n p hn).parts;rw[Eb (by lia)] at pt
 obtain⟨c,q,a1,a2,a3,a4⟩:=T.kid n p hn h 0 p.ps[0] (Ac (by lia))
 exact⟨c,q,by rw[Ac (by lia),a1],a2,a3,a4.trans hb⟩
theorem GY(T:Tree S bg){s:Nat}(hn:S.pg[n]?=some p)(hs:p.sd=some s):p.hi=bg s:=by
 obtain⟨h,q,a1,a2,a3,a4,_⟩:=xH T hn hs;rw[a1,a4]
theorem Chain.len(T:Tree S bg){r:List Nat}(nd:r.Nodup){l:Nat}(hr:∀m,m∈r↔∃q,S.pg[m]?=some q/\q.lv=l):r.length<=S.pg.length:=by
 have:=ZV nd (m:=List.range S.pg.length) λx hx=>by
  obtain⟨q,a,_⟩:=(hr x).mp hx;exact Ch.mpr (Qx a)
 rwa [List.length_range] at this
end
end TR
namespace D
open PySem PySem.Spec PyProof.Rows L2
section
variable{prog:Program}{w:World}{A:Around}{E:Ek}{s:Shared}
end
section
variable{prog:Program}{w:World}{K:Type}[DecidableEq K]{knd:KeyKind prog w K}{A:Around}{R:Result->Shared->Prop}
end
section
variable{prog:Program}{w:World}{K:Type}[DecidableEq K]{knd:KeyKind prog w K}{A:Around}{E:Ek}{s:Shared}
end
section
variable{X:Cx}
def lsG:DV->M (List DV)
  | .lst ds=>pure ds
  | .ref n=>do
    match <- ZX n with
    | .lst ds=>pure ds
    | _=>failure
  | _=>failure
theorem Qd4{hp hp':Hs}{K:Aa}{v:V}(W:WOk K ρ B hp H)(r:RepV K ρ B H d v)(h:lsG d hp=some (ds,hp')):hp=hp'/\∃p xs,v=.ref p/\SqL K H p xs/\RepL K ρ B H ds xs:=by
  cases d with
  | lst xs =>
    obtain⟨rfl,rfl⟩:=Ql h;obtain⟨a,ys,rfl,_,sq,l⟩:=r.lstI;exact⟨rfl,a,ys,rfl,sq,l⟩
  | ref n =>
    obtain⟨o,hp1,e1,e2⟩:=Qg (show(ZX n >>= λo=>(match o with | .lst ds=>pure ds | _=>failure:M (List DV))) hp=some (ds,hp') from h)
    obtain⟨e3,rfl⟩:=ZI e1;cases o with
    | lst zs =>
      obtain⟨rfl,rfl⟩:=Ql e2;obtain⟨a,rfl,_,ys,h1,l1⟩:=RepV.refW W r e3;exact⟨rfl,a,ys,rfl,SqL.of h1,l1⟩
    | dic _=>cases e2
    | ins _ _=>cases e2
  | non=>cases h
  | bl _=>cases h
  | int _=>cases h
  | str _=>cases h
  | tup _=>cases h
def opM(o:Option α):M α:=match o with
 | some a=>pure a
 | none=>failure
theorem QcF{o:Option α}{a:α}{hp hp':Hs}(h:opM o hp=some (a,hp')):o=some a/\hp=hp':=by
 cases o with
 | none=>cases h
 | some z=>obtain⟨rfl,rfl⟩:=Ql h;exact⟨rfl,rfl⟩
end
def blM:List DV->Option (List Bool)
 | []=>some []
 | .bl b::r=>(blM r).map (b :: ·)
 | _=>none
def Qhc:List DV->M DV:=QcE λd=>do
 let ds <- lsG d
 let bs <- opM (blM ds)
 pure (.bl (bs.all id))
section
variable{prog:Program}{w:World}{A:Around}{E:Ek}{s:Shared}
theorem Qbd(bs:List Bool):(List.range bs.length).all (λi=>bs.getD i false)=bs.all id:=by
  induction bs with
  | nil=>rfl
  | cons b bs ih =>
    rw[Bb,List.range_succ_eq_map,C6,List.all_map,C6,<- ih];rfl
theorem UB{l:Addr}{items:Array Value}{bs:List Bool}{Q:Ek}(hh:A.handled=none)(hl:s.heap.IsList l items)(hlen:items.size=bs.length)(hb:∀(i:Nat)(v:Value),items[i]?=some v->v=.bool (bs.getD i false))
  (h:∀h' tk,(∀b o,s.heap.get? b=some o->h'.get? b=some o)->Q (.bool (bs.all id)) { s with heap:=h',toks:=tk }):wpAny (model prog w) A (call (.builtin "all") [.ref l]) Q E s:=by
 refine call_all_walk (wpAny_pyIter_list hl ?_);have hne:l≠s.heap.objs.size:=λe=>by
  obtain⟨o,ho,_⟩:=hl;exact Cy _ (e▸Aq ho)
 refine⟨s.heap.objs.size,_,_,_,_,_,λi=>bs.getD i false,rfl,Walks.list (by exact hh) s.heap.objs.size l hne items,?_,λi v s' Q' E' hP hQ=>?_,λh' tk hk=>?_⟩
 ·exact⟨⟨_,Aw _ rfl,rfl,rfl⟩,hl.push _⟩
 ·have:v=.bool (bs.getD i false):=hb i v hP
  subst this;exact Ed hQ
 ·rw[hlen,Qbd]
  refine h h' tk λb o e=>hk b o (λz=>?_) (Ae _ e);have:b=s.heap.objs.size:=by simpa using z
  exact Cy _ (this▸Aq e)
end
section
variable{X:Cx}
theorem QdJ{K:Aa}:∀{ds:List DV}{bs:List Bool}{ys:List V}{its:List Value},blM ds=some bs->RepL K ρ B H ds ys->Vals ys its->its.length=bs.length/\∀(i:Nat)(v:Value),its[i]?=some v->v=.bool (bs.getD i false):=by
  intro ds;induction ds with
  | nil =>
    intro bs ys its h r v;cases h;unfold RepL at r;subst r;cases v;exact⟨rfl,λi v h=>by simp at h⟩
  | cons d ds ih =>
    intro bs ys its h r v;unfold RepL at r;obtain⟨y,ys',rfl,r1,r2⟩:=r;cases v with
    | @cons _ u _ us v1 v2 =>
    cases d<;>first | (simp[blM] at h;done) | skip
    rename_i b;have h:(blM ds).map (b :: ·)=some bs:=h;obtain⟨bs',h1,rfl⟩:=Cg.mp h;obtain⟨a1,a2⟩:=ih h1 r2 v2;unfold RepV at r1;subst r1;cases v1;refine⟨by simp[a1],λi v hv=>?_⟩
    cases i with
    | zero=>cases hv;rfl
    | succ i=>exact a2 i v hv
theorem Qhj(hc:X.calm=true):JY X (.builtin "all") (tPn X.K Qhc):=by
 intro O9 s σ H xs us Q I r h;obtain⟨ρ,B,hp,ds,d,hp',W,rl,e,k⟩:=h;obtain⟨x,rfl,e⟩:=yk e;obtain⟨zs,hp1,e1,e2⟩:=Qg e;obtain⟨bs,hp2,e3,e4⟩:=Qg e2;obtain⟨e5,rfl⟩:=QcF e3;obtain⟨rfl,rfl⟩:=Ql e4;obtain⟨v,rfl,rv⟩:=rl.oneI;obtain⟨rfl,p,ys,rfl,sq,l⟩:=Qd4 W rv e1;obtain⟨u,rfl,rx⟩:=xL r;cases rx;obtain⟨its,r',pl,hz⟩:=I.list sq;obtain⟨a1,a2⟩:=QdJ e5 l r';refine UB (bs:=bs) (I.ok.hd hc) pl.isList (by simpa using a1) (λi v h=>a2 i v (by simpa using h)) λh' tk kp=>?_
 exact⟨.bl (bs.all id),H,I.kept (t':=tk) kp,rfl,k _ ρ B H Gr.refl W (by unfold RepV;rfl)⟩
end
structure UF(K:Aa)(mg:Eo)(x:Str)(st:Stmt):Prop where
 ex:∃g fd,Fun K x x st g fd/\mg x=some (.ref g)
structure UC(K:Aa)(c:Str):Prop where
 ex:∀C,ClsN K c C->Cls K C
structure UM(K:Aa)(c m q:Str)(st:Stmt):Prop where
 ex:∃C g fd,Fun K m q st g fd/\ClsN K c C/\Cls K C/\uo K C m g
structure UI(K:Aa)(mg:Eo)(c q:Str)(st:Stmt):Prop where
 ex:∃C g fd,Fun K "__init__" q st g fd/\ClsN K c C/\mg c=some (.ref C)/\Mk K C g
structure UG(mg:Eo)(x:Str)(i:Int):Prop where
 ex:∃t,mg x=some (.int i t)
structure UT(K:Aa)(mg:Eo)(x:Str)(d:DV):Prop where
 ex:∃a,mg x=some (.ref a)/\KRep K d (.ref a)
section
variable{K:Aa}{h:Heap}{mg:Eo}{f C:Addr}{x c m q:Str}{st:Stmt}{oc:Value}{od an:Option Addr}{osl:Array (Option Value)}{kV doc pm cdv ct:Value}{i:Int}{t:Tok}{d:DV}{a:Addr}
def uf(X:K.In h)(G:h.Ns mainGlobals mg)(n:PySem.W.nsIn K mainGlobals x=some (some (.ref f)))(l:K.lookup f=some ⟨oc,od,.func (PySem.W.fnOf x x (JQ st) (ZH st) (Qo st) .none kV doc pm an cdv ct),osl⟩)(e:PySem.W.codeIn K cdv x=true)(k:PySem.W.keepIn K (.ref f)=true):UF K mg x st:=⟨_,_,KZ l e k,PySem.W.mg_of X G n⟩
theorem uc(X:K.In h)(n:PySem.W.nsIn K mainGlobals c=some (some (.ref C)))(p:PySem.W.plainGet K C Str.empty=true)(e:PySem.W.hasDictIn K C=true)(o:PySem.W.plainOver K C=true)(s:PySem.W.findIn K (.ref C) "__setattr__" = some (some (.builtin "object.__setattr__"))):UC K c:=⟨λC' n'=>by cases ClsN.uniq (show ClsN K c C from n) n';exact⟨p,e,o,s⟩⟩
def um(X:K.In h)(u:UC K c)(n:PySem.W.nsIn K mainGlobals c=some (some (.ref C)))(a:PySem.W.findIn K (.ref C) m=some (some (.ref f)))(b:PySem.W.isFn K (.ref f)=true)(l:K.lookup f=some ⟨oc,od,.func (PySem.W.fnOf m q (JQ st) (ZH st) (Qo st) .none kV doc pm an cdv ct),osl⟩)(e:PySem.W.codeIn K cdv q=true)(k:PySem.W.keepIn K (.ref f)=true):UM K c m q st:=⟨_,_,_,KZ l e k,n,u.ex _ n,a,b,k⟩
def ui(X:K.In h)(G:h.Ns mainGlobals mg)(n:PySem.W.nsIn K mainGlobals c=some (some (.ref C)))(a:PySem.W.findIn K (.ref C) "__init__" = some (some (.ref f)))(b:PySem.W.isFn K (.ref f)=true)(l:K.lookup f=some ⟨oc,od,.func (PySem.W.fnOf "__init__" q (JQ st) (ZH st) (Qo st) .none kV doc pm an cdv ct),osl⟩)(e:PySem.W.codeIn K cdv q=true)(k:PySem.W.keepIn K (.ref f)=true)(v:PySem.W.makesIn K C=true)(z:PySem.W.keepIn K (.ref C)=true):UI K mg c q st:=⟨_,_,_,KZ l e k,n,PySem.W.mg_of X G n,v,a,b,z⟩
def uk(X:K.In h)(u:UC K c)(n:PySem.W.nsIn K mainGlobals c=some (some (.ref C)))(a:PySem.W.findIn K (.ref C) x=some none):X3 K c x:=⟨C,n,u.ex _ n,a⟩
def ug(X:K.In h)(G:h.Ns mainGlobals mg)(n:PySem.W.nsIn K mainGlobals x=some (some (.int i t))):UG mg x i:=⟨_,PySem.W.mg_of X G n⟩
def ut(X:K.In h)(G:h.Ns mainGlobals mg)(n:PySem.W.nsIn K mainGlobals x=some (some (.ref a)))(r:KRep K d (.ref a)):UT K mg x d:=⟨_,PySem.W.mg_of X G n,r⟩
theorem Q9{N ps:List Str}{s:Scope}(h:(s.kind==.function&&!s.isCoroutine&&!s.isGenerator&&decide N.Nodup&&decide (N.take ps.length=ps)&&ps.all (λx=>decide (s.names.lookup x=some .local)||decide (s.names.lookup x=some .cell))&&s.names.all λy=>decide (y.2≠.free))=true):Qs N ps s:=by
 simp only[Be,Cs,decide_eq_true_eq,List.all_eq_true,Bool.or_eq_true] at h;obtain⟨⟨⟨⟨⟨⟨a,b⟩,c⟩,d⟩,e⟩,f⟩,g⟩:=h;refine⟨?_,b,c,d,e,f,λy hy=>by have:=g y hy;simpa using this⟩
 revert a;cases s.kind<;>first | (intro _;rfl) | (intro z;exact absurd z (by decide))
end
section
variable{P:Program}{w:World}{K:Aa}{mg:Eo}{O8:Heap}{x c m q:Str}{st:Stmt}{N ps:List Str}{k:Nat}{body:DSx}
def Bn(ps:List Str)(x q:Str)(st:Stmt):Prop:=∀(kV doc pm:Value)(an:Option Addr)(cdv ct:Value)(us:List Value),us.length=ps.length->bindArgs (PySem.W.fnOf x q (JQ st) (ZH st) (Qo st) .none kV doc pm an cdv ct) ⟨us,[]⟩=pure (ps.zip us)
def Bd(P:Program)(w:World)(K:Aa)(mg:Eo)(O8:Heap)(N:List Str)(k:Nat)(q:Str)(st:Stmt)(body:DSx):Prop:=∀(g:Addr)(cdv:Value)(A:Around)(outer:List Env)(s:Shared)(H:Hp)(E:XK),Room k (A.deeper (envOfC q (Qo st) s.heap.objs.size g cdv))->DSs (y0 CX0 P w K mg O8 N q (Qo st) g cdv A outer s H E).nox (ZH st) body
theorem hf(u:UF K mg x st)(Sc:Qs N ps (Qo st))(h:Bd P w K mg O8 N k x st body)(hb:Bn ps x x st:=by intro _ _ _ _ _ _ us hl;rcases us with _ | ⟨_,_ | ⟨_,_ | ⟨_,_ | ⟨_,_ | ⟨_,_ | ⟨_,_⟩⟩⟩⟩⟩⟩<;>first | rfl | cases hl):Has P w K mg O8 x (k+1) ps.length (Q8 N.length body):=let ⟨_,_,F,hm⟩:=u.ex;QfR F Sc hm hb (h _)
theorem hM(u:UM K c m q st)(Sc:Qs N ps (Qo st))(h:Bd P w K mg O8 N k q st body)(hb:Bn ps m q st:=by intro _ _ _ _ _ _ us hl;rcases us with _ | ⟨_,_ | ⟨_,_ | ⟨_,_ | ⟨_,_ | ⟨_,_ | ⟨_,_⟩⟩⟩⟩⟩⟩<;>first | rfl | cases hl):Xh P w K mg O8 c m (k+1) ps.length (Q8 N.length body):=let ⟨_,_,_,F,nc,cl,me⟩:=u.ex;Qcs nc cl me F Sc hb (h _)
theorem hI(u:UI K mg c q st)(Sc:Qs N ps (Qo st))(h:Bd P w K mg O8 N k q st body)(hb:Bn ps "__init__" q st:=by intro _ _ _ _ _ _ us hl;rcases us with _ | ⟨_,_ | ⟨_,_ | ⟨_,_ | ⟨_,_ | ⟨_,_ | ⟨_,_⟩⟩⟩⟩⟩⟩<;>first | rfl | cases hl):Qap P w K mg O8 c (k+1) ps.length (Q8 N.length body):=let ⟨_,_,_,F,nc,hm,me⟩:=u.ex;Qb5 nc hm me F Sc hb (h _)
end
section
variable{X:Cx}
def Qcw:DV->DV->M DV
 | .lst [d],.int n=>do Qy (decide (0<=n/\n.toNat<=100000));XT (.lst (List.replicate n.toNat d))
 | _,_=>failure
theorem Qgm:P2 X (binaryOp .Mult) Qcw:=by
 intro O9 s σ H x y v u Q I rx ry h;obtain⟨ρ,B,hp,dx,dy,d,hp',W,r1,r2,e,k⟩:=h;unfold Qcw at e;split at e
 ·rename_i d0 n
  obtain⟨_,hp1,e1,e2⟩:=Qg e;obtain⟨hs,rfl⟩:=QL e1;cases e2;obtain⟨h0,h1⟩:=Eh hs;obtain⟨l,vs,rfl,nb,sq,rl⟩:=r1.lstI;obtain⟨z,rfl,rz⟩:=rl.oneI;refine thn (QeK O9 s σ H _ _ v u (λv H'=>gO X.K H'->Q v H') I rx ry ⟨l,z,n,rfl,r2.intI,sq,h0,h1,kC W (vO rz _) k⟩) λv s' z=>?_;obtain⟨x,H',I',rx',q'⟩:=z;exact⟨x,H',I',rx',q' (Inv.kfree I')⟩
 ·cases e
end
section
variable{prog:Program}{w:World}{A:Around}{E:Ek}{s:Shared}
end
section
variable{X:Cx}
end
def Jz(x:Int):Prop:=Builtin.Int.intBits x<=1048576
instance(x:Int):Decidable (Jz x):=inferInstanceAs (Decidable (_<=_))
def Qaw{x y:Int}(h:x.natAbs<=y.natAbs)(hy:Jz y):Jz x:=PySem.intBits_le_of_natAbs h hy
section
variable{X:Cx}
def Qfe(i j:Int):Bool:=decide (Jz i/\Jz j)
def Qd7:DV->DV->M DV:=qA Qfe λi j=>.int (i * j)
def Qef:OpR X (binaryOp .Mult) (rI (λi j=>Jz i/\Jz j) λi j=>.int (i * j)):=opI λ_ _ _ _ _ _ _ hc q=>mul_int q (.of_bits hc.1 hc.2)
def Qgl:P2 X (binaryOp .Mult) Qd7:=VT Qef λi j h=>Eh h
end
theorem Uq:∀(ns:List Int)(x:Int),x∈ns->Builtin.Int.intBits x<=PySem.W.WData.weightAll (ns.map PySem.W.WData.int)
  | n::r,x,h=>by
    rw[Bc];unfold PySem.W.WData.weightAll;rcases Bm.mp h with rfl | h
    . exact Bk (Nat.le_of_eq (show Builtin.Int.intBits x=PySem.W.WData.weight (.int x) by unfold PySem.W.WData.weight;rfl)) (by omega)
    . have:=Uq r x h
      omega
theorem QdI{ns:List Int}(h:PySem.W.WData.layableAll [PySem.W.WData.list (ns.map PySem.W.WData.int)]=true):∀x∈ns,Jz x:=λx hx=>by
 have h1:PySem.W.WData.layable (.list (ns.map PySem.W.WData.int))=true:=by
  unfold PySem.W.WData.layableAll at h;simpa using h
 unfold PySem.W.WData.layable at h1;have h2:=Eh (Bool.and_eq_true_iff.mp h1).2;unfold PySem.W.WData.weight at h2;exact Bk (Uq ns x hx) h2
end D
namespace L2
open PySem PySem.Spec PyProof.Rows PySem.W
theorem Qdp{l:PySem.W.OpenLaw}{n k:Nat}{q:Program}{loose:List Str}{XP:(Eo)->Heap->Prop}{YP:World->Heap->Prop}{d:DefRec}{K:Params->Aa}{CX:World->CXT}{sp:World->Sp}{x:Str}
    (hn:l.most=some n) (hn2:n<=sizeLine) (hdf:d.params.defaults=[]) (hr:Room k callerA)
    (hY:∀(w:World)(h:Heap),YP w h->(K w.params).In h)
    (F:∀(w:World)(mg:Eo)(fa:Addr)(h:Heap),(K w.params).In h->h.Ns mainGlobals mg->mg d.name=some (.ref fa) ->
      ∃fd : FuncData, (∀(s : Shared)(u : Value), BindsTo s fd ⟨[u], []⟩ [(x, u)]) /\
        ∀O8:Heap,(K w.params).In O8->O8.Ns mainGlobals mg->qW l.prog w (K w.params) mg O8 (CX w) k fa fd [x] (sp w))
    (hsp:∀(w:World)(H:Hp)(a:Addr)(ns:List Int),ns.length<=n->(∀x∈ns,D.Jz x)->QfE H->SqL (K w.params) H a (ns.map V.int)->sp w [.ref a] H (λv _=>v=.bl true) λ_ _ _=>False)
    (hCX:∀(w:World)(H:Hp)(s:Shared)(e:Value)(s':Shared),CX w [] H s (λ_ _ _=>False) e s'->False) :
    PySem.W.WalkO q loose XP YP l.row.toRowW d [] (λf vs=>PySem.call f vs):=by
  intro w s₀ s₁ mg mb G Y fa o pm cd doc dV kV ho hd hcd hD hmg hg args vals as hpre hlay hrd hwl hlo;obtain rfl:dV=.none:=Dflts.none hD hdf;obtain rfl:kV=.none:=Dflts.noKw hD;obtain⟨a,vs,ns,rfl,rfl,hobj,hints,hlen⟩:=Att.script_of hn hpre hwl;have KX:=hY w _ Y;obtain⟨fd,hb,hF⟩:=F w mg fa _ KX G.T.g hmg;refine enter_call (codeAny_mono (Qcd KX G.T.g G.T.b G.T.builtins G.T.nolimit hg hobj hints (Bk hlen hn2) hr hF hb (λH hO hS=>hsp w H a ns hlen (D.QdI hlay) hO hS) λH e s'=>hCX w H s₁ e s') λr s' hq=>?_);obtain⟨rfl,h2,h3,h4⟩:=hq;exact⟨.inl ⟨.bool true,.bool true,[],rfl,λ_=>rfl,.bool true,Att.post_true l _,λ_=>⟨List.Pairwise.nil,λ_ hm=>(nomatch hm)⟩⟩,h2,h3,h4⟩
end L2
namespace K35
open PySem PySem.Spec PyProof.Rows L2 D
def top (i:Nat):Stmt:=PySem.Challenge.pw_sidelink_k35_whole_sound_at_each_moment.main.body.getD i (.Pass ⟨0,0,0,0⟩)
abbrev ji:Stmt:=Zb (top 30) 8
def je:DSx:=QP (Zd Z4 (Qc (QC "Shelf" "kept" (Qb 0)) (Qn)))
def Zr:List DV->M DV:=Q8 1 je
abbrev xy:Stmt:=Zb (top 30) 4
def jP:DSx:=QP (QC "Shelf" "top" (Qb 0))
def Zh:List DV->M DV:=Q8 1 jP
abbrev xw:Stmt:=Zb (top 30) 7
def jO:DSx:=QP (QC "Shelf" "page_room" (Qb 0))
def ZP:List DV->M DV:=Q8 1 jO
abbrev qi:Stmt:=top 37
def Yq:DSx:=Qr (QA 6 (Qk ixG (Qk ixG (Qb 0) (eC (.int 1))) (Qb 5))) (Qr (sIf (X5 (eB (Qk yb (Qb 4) (eC .non))) (eOr (eB (Qk ltD (Qb 6) (Qb 4))) (X5 (eB (Qk gtD (Qb 5) (eC (.int 0)))) (eB (Qk eqG (Qb 6) (Qb 4)))))) (QP (eC (.bl false))) (Zi)) (QA 4 (Qb 6)))
def J9:DSx:=J5 (xOf (VG (Qc (Zd Z4 (Qc (Qk ixG (Qb 0) (eC (.int 1))) (Qn))) (Qn)))) (gN 5) (Yq)
def xT:DSx:=Qr (sIf (eOr (eB (Qk neG (Qk ixG (Qb 0) (eC (.int 0))) (Qb 1))) (eOr (eB (Qk gtD (Zd Z4 (Qc (Qk ixG (Qb 0) (eC (.int 1))) (Qn))) (Qb 3))) (eB (Qk neG (Zd Z4 (Qc (Qk ixG (Qb 0) (eC (.int 2))) (Qn))) (Qk ZL (Zd Z4 (Qc (Qk ixG (Qb 0) (eC (.int 1))) (Qn))) (Zd Qb6 (Qc (Qk gtD (Qb 1) (eC (.int 0))) (Qn)))))))) (QP (eC (.bl false))) (Zi)) (Qr (sIf (eB (Qk neG (Qk isD (Qk ixG (Qb 0) (eC (.int 3))) (eC .non)) (Qk isD (Qk ixG (Qb 0) (eC (.int 4))) (eC .non)))) (QP (eC (.bl false))) (Zi)) (Qr (QA 4 (Qb 2)) (Qr (J9) (QP (Y8 (Qk isD (Qk ixG (Qb 0) (eC (.int 3))) (eC .non)) (Y8 (Qk isD (Qb 4) (eC .non)) (Qk gtD (Qk ixG (Qb 0) (eC (.int 3))) (Qb 4))))))))
def JO:List DV->M DV:=Q8 7 xT
abbrev XO:Stmt:=Zb (top 30) 12
def XM:DSx:=sIf (Xe (eB (Xk leD ltD (eC (.int 0)) (Qb 1) (Zd Z4 (Qc (QC "Shelf" "kept" (Qb 0)) (Qn)))))) (Qc0) (Zi)
def Zn:List DV->M DV:=Q8 2 XM
abbrev xu:Stmt:=Zb (top 30) 1
def jN:DSx:=Qr (ZK (Qv "Shelf" "check_number" 2 Zn (Qb 0) (Qc (Qb 1) (Qn)))) (Qr (X2 "Shelf" "read_count" qX (Qb 0) (eC (.int 1))) (QP (Qk ixG (QC "Shelf" "kept" (Qb 0)) (Qb 1))))
def QN:List DV->M DV:=Q8 2 jN
abbrev YL:Stmt:=top 38
def X1:DSx:=sIf (eOr (eB (Qk Qd9 (Qk ixG (Qk ixG (Qb 8) (eC (.int 2))) (Qb 10)) (Qb 5))) (eB (Qk neG (Qk ixG (Qb 5) (Qk ixG (Qk ixG (Qb 8) (eC (.int 2))) (Qb 10))) (Qk ixG (Qb 9) (Qb 10))))) (QP (eC (.bl false))) (Zi)
def J0:DSx:=J5 (xOf (VG (Qc (Zd Z4 (Qc (Qk ixG (Qb 8) (eC (.int 2))) (Qn))) (Qn)))) (gN 10) (X1)
def Zx:DSx:=Qr (QA 8 (Qv "Shelf" "read" 2 QN (Qb 0) (Qc (Qb 7) (Qn)))) (Qr (sIf (Xe (eB (QH 4 JO (Qc (Qb 8) (Qc (Qb 2) (Qc (Qb 4) (Qc (Qv "Shelf" "room" 1 ZP (Qb 0) Qn) (Qn)))))))) (QP (eC (.bl false))) (Zi)) (Qr (sIf (eB (Qk gtD (Qb 2) (eC (.int 0)))) (Qr (QA 9 (Qk ZL (Xl (Qc (Qb 4) (Qn))) (Zd QaZ (Qc (Qk ixG (Qb 8) (eC (.int 1))) (Qn))))) (J0)) (Zi)) (QA 4 (Qk ixG (Qb 8) (eC (.int 3))))))
def XX:DSx:=J5 (xLs (Qb 1)) (gN 7) (Zx)
def Zy:DSx:=Qr (Yb (Qb 6) (gSb (Qb 5) (Qb 7))) (QA 6 (Qk ixG (Qv "Shelf" "read" 2 QN (Qb 0) (Qc (Qb 7) (Qn))) (eC (.int 3))))
def XY:DSx:=J5 (xLs (Qb 3)) (gN 7) (Zy)
def jU:DSx:=Qr (QA 4 (eC .non)) (Qr (QA 5 (Xn)) (Qr (QA 6 (eC .non)) (Qr (XY) (Qr (XX) (QP (eC (.bl true)))))))
def Z6:List DV->M DV:=Q8 11 jU
abbrev V4:Stmt:=top 36
def Jo:DSx:=Qr (sIf (eOr (eB (Qk isD (Qb 1) (eC .non))) (eB (Qk inG (Qb 1) (Qb 3)))) (Qh8) (Zi)) (Qr (ZK (Xd "list" ZG (Qb 3) (Qc (Qb 1) (Qn)))) (QA 1 (Qk ixG (Qv "Shelf" "read" 2 QN (Qb 0) (Qc (Qb 1) (Qn))) (eC (.int 4)))))
def qv:DSx:=J5 (xOf (VG (Qc (Qv "Shelf" "pages" 1 Zr (Qb 0) Qn) (Qn)))) (gN 4) (Jo)
def uu:DSx:=Qr (QA 3 (Xo (Qn))) (Qr (qv) (Qr (sIf (eB (Qk yb (Qb 1) (eC .non))) (QP (eC .non)) (Zi)) (QP (Qb 3))))
def Xz:List DV->M DV:=Q8 5 uu
abbrev yP:Stmt:=top 39
def YO:DEx:=J1 false (xOf (VG (Qc (Qv "Shelf" "pages" 1 Zr (Qb 0) Qn) (Qn)))) [] (gH) (Qb 0)
def Jx:DSx:=QA 6 (Qk ZL (Qb 6) (Zd QaZ (Qc (Qk ixG (Qv "Shelf" "read" 2 QN (Qb 0) (Qc (Qb 2) (Qn))) (eC (.int 2))) (Qn))))
def jd:DSx:=J5 (xLs (Qb 4)) (gN 2) (Jx)
def XH:DSx:=Qr (QA 5 (Qk ZL (Qb 5) (Zd Z4 (Qc (Qb 4) (Qn))))) (Qr (QA 7 (Xl (Qn))) (Qr (sIf (eB (Qk gtD (Qb 3) (eC (.int 0)))) (Qr (QA 7 (QH 3 Xz (Qc (Qb 0) (Qc (Qk ixG (Qk ixG (Qv "Shelf" "read" 2 QN (Qb 0) (Qc (Qk ixG (Qb 4) (eC (.int 0))) (Qn))) (eC (.int 2))) (eC (.int 0))) (Qc (Qk qU (Qb 3) (eC (.int 1))) (Qn)))))) (jd)) (Zi)) (Qr (sIf (eOr (eB (Qk isD (Qb 7) (eC .non))) (Xe (eB (QH 4 Z6 (Qc (Qb 0) (Qc (Qb 4) (Qc (Qb 3) (Qc (Qb 7) (Qn))))))))) (QP (eC (.bl false))) (Zi)) (Qr (sIf (eB (Qk eqG (Qb 3) (eC (.int 0)))) (Qr (QA 8 (Qk eqG (Zd Qde (Qc (Qk ZL (Qb 6) (Xl (Qc (Qv "Shelf" "root" 1 Zh (Qb 0) Qn) (Qn)))) (Qn))) (YO))) (QP (Xv (Qk eqG (Qb 5) (Qv "Shelf" "pages" 1 Zr (Qb 0) Qn)) (Y8 (Qb 8) (Ym (Qb 1)))))) (Zi)) (Qr (QA 4 (Qb 7)) (QA 3 (Qk qU (Qb 3) (eC (.int 1)))))))))
def Uw:DSx:=J2 (eB (Qk yb (Qb 4) (eC .non))) (XH) 100000
def GR:DSx:=Qr (QA 2 (Qv "Shelf" "root" 1 Zh (Qb 0) Qn)) (Qr (QA 3 (Qk ixG (Qv "Shelf" "read" 2 QN (Qb 0) (Qc (Qb 2) (Qn))) (eC (.int 0)))) (Qr (QA 4 (QH 3 Xz (Qc (Qb 0) (Qc (Qb 2) (Qc (Qb 3) (Qn)))))) (Qr (QA 5 (eC (.int 0))) (Qr (QA 6 (Xl (Qn))) (Qr (Uw) (QP (eC (.bl false))))))))
def Z7:List DV->M DV:=Q8 9 GR
abbrev jm:Stmt:=Zb (top 27) 8
def XQ:DEx:=J1 false (xLs (QC "Weaver" "held" (Qb 0))) [] (gH) (Qk isD (Qb 0) (eC .non))
def Uy:DSx:=QP (Xv (Qk eqG (QC "Weaver" "taken" (Qb 0)) (Zd Z4 (Qc (QC "Weaver" "deeds" (Qb 0)) (Qn)))) (Zd Qhc (Qc (XQ) (Qn))))
def J3:List DV->M DV:=Q8 1 Uy
abbrev qO:Stmt:=Zb (top 25) 0
def yW:DSx:=Qr (Q6 "Walk" "shelf" (Qb 0) (Qb 1)) (Qr (Q6 "Walk" "deed" (Qb 0) (Qb 2)) (Qr (Q6 "Walk" "aim" (Qb 0) (Qk ixG (Qb 2) (eC (.int 1)))) (Qr (Q6 "Walk" "goal" (Qb 0) (eC (.int 0))) (Qr (Q6 "Walk" "place" (Qb 0) (eC .non)) (Qr (Q6 "Walk" "forks" (Qb 0) (Xn)) (Qr (Q6 "Walk" "new_page" (Qb 0) (eC .non)) (Qr (Q6 "Walk" "worth" (Qb 0) (eC .non)) (Qr (Q6 "Walk" "pairs" (Qb 0) (Xo (Qn))) (Q6 "Walk" "ended" (Qb 0) (eC (.bl false)))))))))))
def Jp:List DV->M DV:=Q8 3 yW
abbrev Yt:Stmt:=Zb (top 27) 3
def jr:DSx:=Qr (QA 2 (QC "Weaver" "taken" (Qb 0))) (Qr (Yb (ZE (Qc (Qb 2) (Qc (Xm "Walk" 3 Jp (Qc (QC "Weaver" "shelf" (Qb 0)) (Qc (Qk ixG (QC "Weaver" "deeds" (Qb 0)) (Qb 2)) (Qn)))) (Qn)))) (gSb (QC "Weaver" "held" (Qb 0)) (Qb 1))) (Qr (X2 "Weaver" "taken" qX (Qb 0) (eC (.int 1))) (QP (ZE (Qc (eC (.str "take")) (Qc (Qb 1) (Qc (Qb 2) (Qn))))))))
def Jk:List DV->M DV:=Q8 3 jr
abbrev yL:Stmt:=Zb (top 25) 1
def GO:DSx:=QP (QC "Walk" "ended" (Qb 0))
def XJ:List DV->M DV:=Q8 1 GO
abbrev YI:Stmt:=Zb (top 25) 9
def Jd:DEx:=J1 true (xOf (Qb4 (Qk ixG (Qb 2) (eC (.int 1))) (Qk ixG (Qb 2) (eC (.int 2))))) [3,4] (eB (Xk leD ltD (Qb 1) (Qk ixG (Qb 0) (eC (.int 0))) (Qb 2))) (Qb 0)
def jR:DSx:=Qr (QA 3 (Qk ixG (QC "Walk" "deed" (Qb 0)) (eC (.int 1)))) (Qr (QA 4 (Qk ixG (QC "Walk" "deed" (Qb 0)) (eC (.int 2)))) (Qr (QA 5 (Jd)) (Qr (ZK (Xd "list" xk (QC "Walk" "pairs" (Qb 0)) (Qc (Qb 5) (Qn)))) (Qr (sIf (eOr (eB (Qk isD (Qk ixG (Qb 2) (eC (.int 3))) (eC .non))) (eB (Qk geD (Qk ixG (Qb 2) (eC (.int 3))) (Qb 4)))) (Qr (Q6 "Walk" "ended" (Qb 0) (eC (.bl true))) (QP (ZE (Qc (eC (.str "read")) (Qc (Qb 1) (Qc (Zd Qbl (Qc (Qb 5) (Qn))) (Qc (eC .non) (Qc (eC .non) (Qn))))))))) (Zi)) (Qr (Q6 "Walk" "aim" (Qb 0) (Qk ixG (Qb 2) (eC (.int 3)))) (Qr (Q6 "Walk" "place" (Qb 0) (Qk ixG (Qb 2) (eC (.int 4)))) (QP (ZE (Qc (eC (.str "read")) (Qc (Qb 1) (Qc (Zd Qbl (Qc (Qb 5) (Qn))) (Qc (QC "Walk" "place" (Qb 0)) (Qc (QC "Walk" "aim" (Qb 0)) (Qn))))))))))))))
def Xg:List DV->M DV:=Q8 6 jR
abbrev jk:Stmt:=Zb (top 30) 2
def jf:DSx:=Qr (ZK (Qv "Shelf" "check_number" 2 Zn (Qb 0) (Qc (Qb 1) (Qn)))) (Qr (X2 "Shelf" "write_count" qX (Qb 0) (eC (.int 1))) (Yb (Qb 2) (gSb (QC "Shelf" "kept" (Qb 0)) (Qb 1))))
def Jv:List DV->M DV:=Q8 3 jf
abbrev V5:Stmt:=top 18
def uv:DSx:=QP (ZE (Qc (Qk ixD (Qb 0) (eC (.int 0))) (Qc (Qb 1) (Qc (Qb 2) (Qc (Qk ixD (Qb 0) (eC (.int 3))) (Qc (Qk ixD (Qb 0) (eC (.int 4))) (Qn)))))))
def qr:List DV->M DV:=Q8 3 uv
abbrev YK:Stmt:=top 20
def zW:DEx:=J1 false (xOf (iTp (Qb 0))) [1] (eB (Qk leD (Qb 0) (Qb 1))) (Qb 0)
def jT:DSx:=QP (Zd Z4 (Qc (zW) (Qn)))
def Zs:List DV->M DV:=Q8 2 jT
abbrev jo:Stmt:=top 19
def yV:DEx:=J1 false (xOf (iTp (Qb 0))) [1] (eB (Qk ltD (Qb 0) (Qb 1))) (Qb 0)
def UA:DSx:=QP (Zd Z4 (Qc (yV) (Qn)))
def XF:List DV->M DV:=Q8 2 UA
abbrev V7:Stmt:=top 17
def ux:DSx:=Qr (QA 4 (Qk ixD (Qb 0) (eC (.int 1)))) (Qr (QA 5 (Qk ixD (Qb 0) (eC (.int 2)))) (Qr (QA 6 (QH 2 XF (Qc (Qb 4) (Qc (Qb 1) (Qn))))) (Qr (QA 7 (QH 2 Zs (Qc (Qb 4) (Qc (Qb 1) (Qn))))) (QP (QH 3 qr (Qc (Qb 0) (Qc (Qk ZL (Qk ZL (eSl (Qb 4) (ZN) (ZO (Qb 6))) (Qb 2)) (eSl (Qb 4) (ZO (Qb 7)) (ZN))) (Qc (Qk ZL (Qk ZL (eSl (Qb 5) (ZN) (ZO (Qb 6))) (Qb 3)) (eSl (Qb 5) (ZO (Qb 7)) (ZN))) (Qn)))))))))
def qu:List DV->M DV:=Q8 8 ux
abbrev Kp:Stmt:=top 15
def Qau:DSx:=QP (QH 4 qu (Qc (Qb 0) (Qc (Qb 1) (Qc (ZE (Qn)) (Qc (ZE (Qn)) (Qn))))))
def xP:List DV->M DV:=Q8 2 Qau
abbrev V8:Stmt:=top 13
def uy:DSx:=Qr (QA 2 (Qk ixD (Qb 0) (eC (.int 1)))) (Qr (QA 3 (QH 2 XF (Qc (Qb 2) (Qc (Qb 1) (Qn))))) (Qr (sIf (eB (Qk eqD (Qb 3) (QH 2 Zs (Qc (Qb 2) (Qc (Qb 1) (Qn)))))) (QP (eC .non)) (Zi)) (QP (Qk ixD (Qk ixD (Qb 0) (eC (.int 2))) (Qb 3)))))
def J8:List DV->M DV:=Q8 4 uy
abbrev zE:Stmt:=Zb (top 25) 8
def Vq:DSx:=Qr (Q6 "Walk" "worth" (Qb 0) (QH 2 J8 (Qc (Qb 2) (Qc (QC "Walk" "aim" (Qb 0)) (Qn))))) (Qr (sIf (eB (Qk yb (QC "Walk" "worth" (Qb 0)) (eC .non))) (ZK (Qv "Shelf" "write" 3 Jv (QC "Walk" "shelf" (Qb 0)) (Qc (Qb 1) (Qc (QH 2 xP (Qc (Qb 2) (Qc (QC "Walk" "aim" (Qb 0)) (Qn)))) (Qn))))) (Zi)) (Qr (Q6 "Walk" "ended" (Qb 0) (eC (.bl true))) (QP (ZE (Qc (eC (.str "cut")) (Qc (Qb 1) (Qc (QC "Walk" "worth" (Qb 0)) (Qn))))))))
def Yh:List DV->M DV:=Q8 3 Vq
abbrev yK:Stmt:=Zb (top 30) 3
def yz:DSx:=Qr (X2 "Shelf" "write_count" qX (Qb 0) (eC (.int 1))) (Qr (ZK (Xd "list" ZG (QC "Shelf" "kept" (Qb 0)) (Qc (Qb 1) (Qn)))) (QP (Qk qU (Zd Z4 (Qc (QC "Shelf" "kept" (Qb 0)) (Qn))) (eC (.int 1)))))
def XI:List DV->M DV:=Q8 2 yz
abbrev vT:Stmt:=top 23
def Qbv:DSx:=Qr (QA 2 (Qk ixD (Qb 0) (eC (.int 0)))) (Qr (QA 3 (Qk ixD (Qb 0) (eC (.int 1)))) (Qr (QA 4 (Qk ixD (Qb 0) (eC (.int 2)))) (Qr (QA 5 (Qk Yv (Zd qC (Qc (Qb 3) (Qn))) (eC (.int 2)))) (Qr (QA 6 (Qk ixD (Qb 3) (Qb 5))) (Qr (QA 7 (eIf (eB (Qk eqD (Qb 2) (eC (.int 0)))) (Qb 5) (Qk ZL (Qb 5) (eC (.int 1))))) (Qr (QA 8 (ZE (Qc (Qb 2) (Qc (eSl (Qb 3) (ZN) (ZO (Qb 5))) (Qc (eSl (Qb 4) (ZN) (ZO (Qb 7))) (Qc (Qb 6) (Qc (Qb 1) (Qn)))))))) (Qr (QA 9 (ZE (Qc (Qb 2) (Qc (eSl (Qb 3) (ZO (Qb 7)) (ZN)) (Qc (eSl (Qb 4) (ZO (Qb 7)) (ZN)) (Qc (Qk ixD (Qb 0) (eC (.int 3))) (Qc (Qk ixD (Qb 0) (eC (.int 4))) (Qn)))))))) (QP (ZE (Qc (Qb 8) (Qc (Qb 9) (Qc (Qb 6) (Qn)))))))))))))
def jK:List DV->M DV:=Q8 10 Qbv
abbrev Km:Stmt:=top 22
def Qar:DSx:=QP (Qk gtD (Zd qC (Qc (Qk ixD (Qb 0) (eC (.int 1))) (Qn))) (Qb 1))
def Ye:List DV->M DV:=Q8 2 Qar
abbrev jl:Stmt:=Zb (top 25) 12
def Ux:DSx:=Qr (sIf (Xe (eB (QH 2 Ye (Qc (Qb 2) (Qc (Qv "Shelf" "room" 1 ZP (QC "Walk" "shelf" (Qb 0)) Qn) (Qn)))))) (Qr (ZK (Qv "Shelf" "write" 3 Jv (QC "Walk" "shelf" (Qb 0)) (Qc (Qb 1) (Qc (Qb 2) (Qn))))) (Qr (Q6 "Walk" "ended" (Qb 0) (eC (.bl true))) (QP (eC .non)))) (Zi)) (Qr (QA 3 (QH 2 jK (Qc (Qb 2) (Qc (Qv "Shelf" "pages" 1 Zr (QC "Walk" "shelf" (Qb 0)) Qn) (Qn))))) (Qr (Q6 "Walk" "new_page" (Qb 0) (Qv "Shelf" "lay" 2 XI (QC "Walk" "shelf" (Qb 0)) (Qc (Qk ixG (Qb 3) (eC (.int 1))) (Qn)))) (Qr (ZK (Qv "Shelf" "write" 3 Jv (QC "Walk" "shelf" (Qb 0)) (Qc (Qb 1) (Qc (Qk ixG (Qb 3) (eC (.int 0))) (Qn))))) (Qr (Q6 "Walk" "aim" (Qb 0) (Qk ixG (Qb 3) (eC (.int 2)))) (Qr (Q6 "Walk" "goal" (Qb 0) (Qk ZL (Qk ixG (Qb 2) (eC (.int 0))) (eC (.int 1)))) (Qr (Q6 "Walk" "place" (Qb 0) (Xd "dict" YF (QC "Walk" "forks" (Qb 0)) (Qc (QC "Walk" "goal" (Qb 0)) (Qn)))) (QP (QC "Walk" "new_page" (Qb 0)))))))))
def XE:List DV->M DV:=Q8 4 Ux
abbrev yQ:Stmt:=top 14
def GT:DSx:=QP (QH 4 qu (Qc (Qb 0) (Qc (Qb 1) (Qc (ZE (Qc (Qb 1) (Qn))) (Qc (ZE (Qc (Qb 2) (Qn))) (Qn))))))
def qV:List DV->M DV:=Q8 3 GT
abbrev qP:Stmt:=Zb (top 25) 7
def yX:DSx:=Qr (Q6 "Walk" "worth" (Qb 0) (QH 2 J8 (Qc (Qb 2) (Qc (QC "Walk" "aim" (Qb 0)) (Qn))))) (Qr (QA 3 (Qv "Walk" "settle" 3 XE (Qb 0) (Qc (Qb 1) (Qc (QH 3 qV (Qc (Qb 2) (Qc (QC "Walk" "aim" (Qb 0)) (Qc (Qk ixG (QC "Walk" "deed" (Qb 0)) (eC (.int 2))) (Qn))))) (Qn))))) (QP (ZE (Qc (eC (.str "put")) (Qc (Qb 1) (Qc (QC "Walk" "worth" (Qb 0)) (Qc (Qb 3) (Qn))))))))
def XR:List DV->M DV:=Q8 4 yX
abbrev YH:Stmt:=Zb (top 25) 6
def jQ:DSx:=Qr (Q6 "Walk" "worth" (Qb 0) (QH 2 J8 (Qc (Qb 2) (Qc (QC "Walk" "aim" (Qb 0)) (Qn))))) (Qr (Q6 "Walk" "ended" (Qb 0) (eC (.bl true))) (QP (ZE (Qc (eC (.str "found")) (Qc (Qb 1) (Qc (QC "Walk" "worth" (Qb 0)) (Qn)))))))
def Xf:List DV->M DV:=Q8 3 jQ
abbrev zF:Stmt:=Zb (top 25) 5
def Vr:DSx:=Qr (QA 3 (Qk ixG (QC "Walk" "deed" (Qb 0)) (eC (.int 0)))) (Qr (sIf (eB (Qk eqG (Qb 3) (eC (.str "find")))) (QP (Qv "Walk" "find_worth" 3 Xf (Qb 0) (Qc (Qb 1) (Qc (Qb 2) (Qn))))) (Zi)) (Qr (sIf (eB (Qk eqG (Qb 3) (eC (.str "put")))) (QP (Qv "Walk" "put_pair" 3 XR (Qb 0) (Qc (Qb 1) (Qc (Qb 2) (Qn))))) (Zi)) (Qr (sIf (eB (Qk eqG (Qb 3) (eC (.str "cut")))) (QP (Qv "Walk" "cut_key" 3 Yh (Qb 0) (Qc (Qb 1) (Qc (Qb 2) (Qn))))) (Zi)) (QP (Qv "Walk" "read_pairs" 3 Xg (Qb 0) (Qc (Qb 1) (Qc (Qb 2) (Qn))))))))
def Yi:List DV->M DV:=Q8 4 Vr
abbrev V6:Stmt:=top 16
def uw:DSx:=Qr (QA 3 (Qk ixD (Qb 0) (eC (.int 1)))) (Qr (QA 4 (Qk ixD (Qb 0) (eC (.int 2)))) (Qr (QA 5 (QH 2 Zs (Qc (Qb 3) (Qc (Qb 1) (Qn))))) (Qr (QA 6 (Qk ZL (Qb 5) (eC (.int 1)))) (QP (QH 3 qr (Qc (Qb 0) (Qc (Qk ZL (Qk ZL (eSl (Qb 3) (ZN) (ZO (Qb 5))) (ZE (Qc (Qb 1) (Qn)))) (eSl (Qb 3) (ZO (Qb 5)) (ZN))) (Qc (Qk ZL (Qk ZL (eSl (Qb 4) (ZN) (ZO (Qb 6))) (ZE (Qc (Qb 2) (Qn)))) (eSl (Qb 4) (ZO (Qb 6)) (ZN))) (Qn)))))))))
def qt:List DV->M DV:=Q8 7 uw
abbrev qg:Stmt:=Zb (top 25) 10
def xR:DSx:=Qr (QA 3 (Qv "Walk" "settle" 3 XE (Qb 0) (Qc (Qb 1) (Qc (QH 3 qt (Qc (Qb 2) (Qc (QC "Walk" "aim" (Qb 0)) (Qc (QC "Walk" "new_page" (Qb 0)) (Qn))))) (Qn))))) (QP (ZE (Qc (eC (.str "told")) (Qc (Qb 1) (Qc (Qb 3) (Qn))))))
def Xx:List DV->M DV:=Q8 4 xR
abbrev xA:Stmt:=Zb (top 25) 4
def KJ:DSx:=Qr (Q6 "Walk" "place" (Qb 0) (Qb 3)) (QP (ZE (Qc (Qb 1) (Qc (Qb 2) (Qc (Qb 3) (Qn))))))
def JN:List DV->M DV:=Q8 4 KJ
abbrev Kn:Stmt:=top 12
def Qas:DSx:=QP (Qk ixD (Qk ixD (Qb 0) (eC (.int 2))) (QH 2 Zs (Qc (Qk ixD (Qb 0) (eC (.int 1))) (Qc (Qb 1) (Qn)))))
def Y4:List DV->M DV:=Q8 2 Qas
abbrev vS:Stmt:=top 11
def Qbu:DSx:=Qr (QA 2 (Qk ixD (Qb 0) (eC (.int 3)))) (QP (Xv (Qk yb (Qb 2) (eC .non)) (Qk geD (Qb 1) (Qb 2))))
def YZ:List DV->M DV:=Q8 3 Qbu
abbrev Yr:Stmt:=Zb (top 30) 6
def Yl:DSx:=Qr (ZK (Qv "Shelf" "check_number" 2 Zn (Qb 0) (Qc (Qb 2) (Qn)))) (Qr (QA 3 (Qk ZL (Qk ixG (Qk ixG (QC "Shelf" "kept" (Qb 0)) (QC "Shelf" "top" (Qb 0))) (eC (.int 0))) (eC (.int 1)))) (Qr (Q6 "Shelf" "top" (Qb 0) (Qv "Shelf" "lay" 2 XI (Qb 0) (Qc (ZE (Qc (Qb 3) (Qc (ZE (Qc (Qb 1) (Qn))) (Qc (ZE (Qc (QC "Shelf" "top" (Qb 0)) (Qc (Qb 2) (Qn)))) (Qc (eC .non) (Qc (eC .non) (Qn))))))) (Qn)))) (QP (QC "Shelf" "top" (Qb 0)))))
def ZY:List DV->M DV:=Q8 4 Yl
abbrev Xs:Stmt:=Zb (top 25) 11
def qw:DSx:=Qr (Q6 "Walk" "ended" (Qb 0) (eC (.bl true))) (QP (ZE (Qc (eC (.str "raised")) (Qc (Qb 1) (Qc (Qv "Shelf" "raise_root" 3 ZY (QC "Walk" "shelf" (Qb 0)) (Qc (QC "Walk" "aim" (Qb 0)) (Qc (QC "Walk" "new_page" (Qb 0)) (Qn)))) (Qn))))))
def ZQ:List DV->M DV:=Q8 2 qw
abbrev yM:Stmt:=Zb (top 25) 3
def GP:DSx:=Qr (sIf (eB (QC "Walk" "ended" (Qb 0))) (QP (eC .non)) (Zi)) (Qr (QA 1 (eIf (eB (Qk isD (QC "Walk" "place" (Qb 0)) (eC .non))) (Qv "Shelf" "root" 1 Zh (QC "Walk" "shelf" (Qb 0)) Qn) (QC "Walk" "place" (Qb 0)))) (Qr (QA 2 (Qv "Shelf" "read" 2 QN (QC "Walk" "shelf" (Qb 0)) (Qc (Qb 1) (Qn)))) (Qr (sIf (X5 (eB (Qk isD (QC "Walk" "place" (Qb 0)) (eC .non))) (eB (Qk ltD (Qk ixG (Qb 2) (eC (.int 0))) (QC "Walk" "goal" (Qb 0))))) (QP (Qv "Walk" "raise_root_over" 2 ZQ (Qb 0) (Qc (Qb 1) (Qn)))) (Zi)) (Qr (sIf (eB (QH 2 YZ (Qc (Qb 2) (Qc (QC "Walk" "aim" (Qb 0)) (Qn))))) (QP (Qv "Walk" "go_on" 4 JN (Qb 0) (Qc (eC (.str "side")) (Qc (Qb 1) (Qc (Qk ixG (Qb 2) (eC (.int 4))) (Qn)))))) (Zi)) (Qr (sIf (eB (Qk gtD (Qk ixG (Qb 2) (eC (.int 0))) (QC "Walk" "goal" (Qb 0)))) (Qr (Yb (Qb 1) (gSb (QC "Walk" "forks" (Qb 0)) (Qk ixG (Qb 2) (eC (.int 0))))) (QP (Qv "Walk" "go_on" 4 JN (Qb 0) (Qc (eC (.str "down")) (Qc (Qb 1) (Qc (QH 2 Y4 (Qc (Qb 2) (Qc (QC "Walk" "aim" (Qb 0)) (Qn)))) (Qn))))))) (Zi)) (Qr (sIf (eB (Qk gtD (QC "Walk" "goal" (Qb 0)) (eC (.int 0)))) (QP (Qv "Walk" "tell_fork" 3 Xx (Qb 0) (Qc (Qb 1) (Qc (Qb 2) (Qn))))) (Zi)) (QP (Qv "Walk" "do_deed" 3 Yi (Qb 0) (Qc (Qb 1) (Qc (Qb 2) (Qn)))))))))))
def Yy:List DV->M DV:=Q8 3 GP
abbrev Ys:Stmt:=Zb (top 27) 4
def jq:DSx:=Qr (QA 2 (Qk ixG (QC "Weaver" "held" (Qb 0)) (Qb 1))) (Qr (QA 3 (Qk ixG (Qb 2) (eC (.int 1)))) (Qr (QA 4 (Qv "Walk" "step" 1 Yy (Qb 3) Qn)) (Qr (sIf (eB (Qv "Walk" "over" 1 XJ (Qb 3) Qn)) (Qr (Yb (eC .non) (gSb (QC "Weaver" "held" (Qb 0)) (Qb 1))) (ZK (Xd "list" ZG (QC "Weaver" "done" (Qb 0)) (Qc (Qb 2) (Qn))))) (Zi)) (QP (Qk ZL (ZE (Qc (Qk ixG (Qb 4) (eC (.int 0))) (Qc (Qb 1) (Qc (Qk ixG (Qb 2) (eC (.int 0))) (Qn))))) (eSl (Qb 4) (ZO (eC (.int 1))) (ZN)))))))
def J7:List DV->M DV:=Q8 5 jq
abbrev jn:Stmt:=Zb (top 27) 2
def Uz:DSx:=Qr (sIf (Xe (eB (Xk leD ltD (eC (.int 0)) (Qb 1) (Zd Z4 (Qc (QC "Weaver" "held" (Qb 0)) (Qn)))))) (Qc0) (Zi)) (Qr (sIf (eB (Qk yb (Qk ixG (QC "Weaver" "held" (Qb 0)) (Qb 1)) (eC .non))) (QP (Qv "Weaver" "step_walk" 2 J7 (Qb 0) (Qc (Qb 1) (Qn)))) (Zi)) (Qr (sIf (eB (Qk ltD (QC "Weaver" "taken" (Qb 0)) (Zd Z4 (Qc (QC "Weaver" "deeds" (Qb 0)) (Qn))))) (QP (Qv "Weaver" "take_deed" 2 Jk (Qb 0) (Qc (Qb 1) (Qn)))) (Zi)) (QP (ZE (Qc (eC (.str "rest")) (Qc (Qb 1) (Qn)))))))
def ZC:List DV->M DV:=Q8 2 Uz
abbrev qQ:Stmt:=Zb (top 27) 5
def YE:DSx:=Qr (ZK (Xd "list" ZG (Qb 1) (Qc (Qv "Weaver" "move" 2 ZC (Qb 0) (Qc (Qb 2) (Qn))) (Qn)))) (QA 2 (Qk XN (Qk ZL (Qb 2) (eC (.int 1))) (Zd Z4 (Qc (QC "Weaver" "held" (Qb 0)) (Qn)))))
def jL:DSx:=J2 (Xe (eB (Qv "Weaver" "idle" 1 J3 (Qb 0) Qn))) (YE) 100000
def yY:DSx:=Qr (QA 1 (Xo (Qn))) (Qr (QA 2 (eC (.int 0))) (Qr (jL) (QP (Qb 1))))
def Jq:List DV->M DV:=Q8 3 yY
abbrev qh:Stmt:=Zb (top 27) 1
def xS:DSx:=Qr (ZK (Xd "list" ZG (QC "Weaver" "deeds" (Qb 0)) (Qc (Qb 1) (Qn)))) (QP (Qk qU (Zd Z4 (Qc (QC "Weaver" "deeds" (Qb 0)) (Qn))) (eC (.int 1))))
def ZW:List DV->M DV:=Q8 2 xS
abbrev Ko:Stmt:=top 33
def Qat:DSx:=Qr (QA 1 (Qk Yv (Qb 0) (eC (.int 6)))) (Qr (sIf (eB (Qk eqD (Qk XN (Qb 0) (eC (.int 6))) (eC (.int 0)))) (QP (Qk qU (Qk XN (Qk Qd7 (Qb 1) (Qk YW (eC (.int 1000000007)) (eC (.int 3)))) (Qk ZL (Qk Qa1 (eC (.int 2)) (Qk YW (eC (.int 10)) (eC (.int 30)))) (eC (.int 1)))) (Qk YW (eC (.int 10)) (eC (.int 30))))) (Zi)) (Qr (sIf (eB (Qk eqD (Qk XN (Qb 0) (eC (.int 6))) (eC (.int 1)))) (QP (Qk ixD (Xl (Qc (Qk YW (eC (.int 10)) (eC (.int 30))) (Qc (qR (Qk YW (eC (.int 10)) (eC (.int 30)))) (Qc (Qk qU (Qk YW (eC (.int 10)) (eC (.int 30))) (eC (.int 1))) (Qc (Qk qU (eC (.int 1)) (Qk YW (eC (.int 10)) (eC (.int 30)))) (Qn)))))) (Qk XN (Qb 1) (eC (.int 4))))) (Zi)) (QP (Qk qU (Qk XN (Qb 1) (eC (.int 17))) (eC (.int 5))))))
def Xy:List DV->M DV:=Q8 2 Qat
abbrev V3:Stmt:=top 34
def ur:DSx:=Qr (QA 1 (Qk XN (Qb 0) (eC (.int 9)))) (Qr (QA 2 (QH 1 Xy (Qc (Qk Yv (Qb 0) (eC (.int 9))) (Qn)))) (Qr (sIf (eB (Qk eqD (Qb 1) (eC (.int 0)))) (QP (ZE (Qc (eC (.str "find")) (Qc (Qb 2) (Qn))))) (Zi)) (Qr (sIf (eB (Qk ltD (Qb 1) (eC (.int 5)))) (QP (ZE (Qc (eC (.str "put")) (Qc (Qb 2) (Qc (QH 1 Xy (Qc (Qk Yv (Qb 0) (eC (.int 37))) (Qn))) (Qn)))))) (Zi)) (Qr (sIf (eB (Qk ltD (Qb 1) (eC (.int 7)))) (QP (ZE (Qc (eC (.str "cut")) (Qc (Qb 2) (Qn))))) (Zi)) (Qr (QA 3 (QH 1 Xy (Qc (Qk Yv (Qb 0) (eC (.int 131))) (Qn)))) (Qr (sIf (eB (Qk eqD (Qb 3) (Qb 2))) (QA 3 (Qk qU (Qb 2) (eC (.int 1)))) (Zi)) (Qr (sIf (eB (Qk ltD (Qb 3) (qR (Qk YW (eC (.int 10)) (eC (.int 30)))))) (QA 3 (Qk ZL (Qb 2) (eC (.int 1)))) (Zi)) (QP (ZE (Qc (eC (.str "stretch")) (Qc (Zd Qd6 (Qc (Qb 2) (Qc (Qb 3) (Qn)))) (Qc (Zd Qd5 (Qc (Qb 2) (Qc (Qb 3) (Qn)))) (Qn)))))))))))))
def Yj:List DV->M DV:=Q8 4 ur
abbrev yO:Stmt:=top 35
def jc:DEx:=J1 true (xOf (VG (Qc (Qk XN (Qb 0) (eC (.int 24))) (Qn)))) [1] (gH) (ZE (Qc (eC (.str "put")) (Qc (Qk qU (Qk XN (Qk Qa1 (Qb 0) (Qb 1)) (eC (.int 47))) (eC (.int 9))) (Qc (Qk ZL (eC (.int 100)) (Qb 0)) (Qn)))))
def GQ:DSx:=Qr (QA 1 (Qk ixG (Xl (Qc (eC (.int 7)) (Qc (eC (.int 11)) (Qc (eC (.int 23)) (Qc (eC (.int 1)) (Qc (eC (.int 46)) (Qn))))))) (Qk XN (Qk Yv (Qb 0) (eC (.int 24))) (eC (.int 5))))) (QP (jc))
def XL:List DV->M DV:=Q8 2 GQ
abbrev YJ:Stmt:=Zb (top 27) 0
def jS:DSx:=Qr (Q6 "Weaver" "shelf" (Qb 0) (Qb 1)) (Qr (Q6 "Weaver" "deeds" (Qb 0) (Xo (Qn))) (Qr (Q6 "Weaver" "taken" (Qb 0) (eC (.int 0))) (Qr (Q6 "Weaver" "held" (Qb 0) (Qk Qcw (Xl (Qc (eC .non) (Qn))) (Qb 2))) (Q6 "Weaver" "done" (Qb 0) (Xo (Qn))))))
def JB:List DV->M DV:=Q8 3 jS
abbrev qf:Stmt:=Zb (top 30) 0
def Y6:DSx:=Qr (Q6 "Shelf" "page_room" (Qb 0) (Qb 1)) (Qr (Q6 "Shelf" "kept" (Qb 0) (Xo (Qc (eC (.tup [.int 0,.tup [],.tup [],.non,.non])) (Qn)))) (Qr (Q6 "Shelf" "top" (Qb 0) (eC (.int 0))) (Qr (Q6 "Shelf" "read_count" (Qb 0) (eC (.int 0))) (Q6 "Shelf" "write_count" (Qb 0) (eC (.int 0))))))
def Ji:List DV->M DV:=Q8 2 Y6
abbrev jp:Stmt:=top 32
def YR:DSx:=Qr (sIf (eB (Qk ltD (Qb 1) (Zd qC (Qc (Qb 0) (Qn))))) (QP (Qk ixD (Qb 0) (Qb 1))) (Zi)) (QP (eC (.int 0)))
def Jw:List DV->M DV:=Q8 2 YR
abbrev yN:Stmt:=top 40
def Gb:DSx:=Qr (sIf (eB (Qk ltD (Qb 6) (eC (.int 24)))) (ZK (Qv "Weaver" "hand_in" 2 ZW (Qb 4) (Qc (QH 1 Yj (Qc (Qk ixG (Qb 0) (Qb 6)) (Qn))) (Qn)))) (Zi)) (Qr (QA 7 (Qv "Weaver" "move" 2 ZC (Qb 4) (Qc (Qk XN (Qk Yv (Qk ixG (Qb 0) (Qb 6)) (eC (.int 3))) (Qb 2)) (Qn)))) (sIf (X5 (eB (Qk inG (Qk ixG (Qb 7) (eC (.int 0))) (ZE (Qc (eC (.str "put")) (Qc (eC (.str "cut")) (Qc (eC (.str "told")) (Qc (eC (.str "raised")) (Qn)))))))) (Xe (eB (QH 2 Z7 (Qc (Qb 3) (Qc (eC (.bl false)) (Qn))))))) (QP (eC (.bl false))) (Zi)))
def KE:DSx:=J5 (xOf (VG (Qc (Zd Z4 (Qc (Qb 0) (Qn))) (Qn)))) (gN 6) (Gb)
def xg:DSx:=ZK (Qv "Weaver" "hand_in" 2 ZW (Qb 4) (Qc (Qb 5) (Qn)))
def gP:DSx:=J5 (xLs (QH 1 XL (Qc (Qk Yv (Qb 1) (eC (.int 32))) (Qn)))) (gN 5) (xg)
def Qhd:DSx:=Qr (QA 1 (QH 2 Jw (Qc (Qb 0) (Qc (eC (.int 0)) (Qn))))) (Qr (QA 2 (Qk ZL (eC (.int 1)) (Qk XN (Qb 1) (eC (.int 8))))) (Qr (QA 3 (Xm "Shelf" 2 Ji (Qc (Qk ZL (eC (.int 2)) (Qk XN (Qk Yv (Qb 1) (eC (.int 8))) (eC (.int 4)))) (Qn)))) (Qr (QA 4 (Xm "Weaver" 3 JB (Qc (Qb 3) (Qc (Qb 2) (Qn))))) (Qr (gP) (Qr (ZK (Qv "Weaver" "finish" 1 Jq (Qb 4) Qn)) (Qr (sIf (Xe (eB (QH 2 Z7 (Qc (Qb 3) (Qc (eC (.bl true)) (Qn)))))) (QP (eC (.bl false))) (Zi)) (Qr (KE) (Qr (ZK (Qv "Weaver" "finish" 1 Jq (Qb 4) Qn)) (QP (QH 2 Z7 (Qc (Qb 3) (Qc (eC (.bl true)) (Qn)))))))))))))
def GM:List DV->M DV:=Q8 8 Qhd
structure Al(K:Aa)(mg:Eo):Prop where
 z0:mg "len" = none
 z1:mg "range" = none
 z2:mg "int" = none
 z3:mg "list" = none
 z4:mg "sorted" = none
 z5:mg "all" = none
 z6:mg "tuple" = none
 z7:mg "zip" = none
 z8:mg "max" = none
 z9:mg "min" = none
 g0:UG mg "SIDE" 4
 g1:UG mg "HIGH" 3
 g2:UG mg "KEYS" 1
 g3:UG mg "PARTS" 2
 g4:UG mg "LEVEL" 0
 t0:UT K mg "EMPTY_LEAF" (.tup [.int 0,.tup [],.tup [],.non,.non])
 k0:X3 K "Shelf" "kept"
 k1:X3 K "Shelf" "top"
 k2:X3 K "Shelf" "page_room"
 k3:X3 K "Shelf" "read_count"
 k4:X3 K "Weaver" "taken"
 k5:X3 K "Weaver" "deeds"
 k6:X3 K "Weaver" "held"
 k7:X3 K "Walk" "ended"
 k8:X3 K "Walk" "pairs"
 k9:X3 K "Walk" "worth"
 k10:X3 K "Walk" "new_page"
 k11:X3 K "Walk" "forks"
 k12:X3 K "Walk" "place"
 k13:X3 K "Walk" "goal"
 k14:X3 K "Walk" "aim"
 k15:X3 K "Walk" "deed"
 k16:X3 K "Walk" "shelf"
 k17:X3 K "Weaver" "shelf"
 k18:X3 K "Shelf" "write_count"
 k19:X3 K "Weaver" "done"
 u0:UM K "Shelf" "pages" "Shelf.pages" ji
 u1:UM K "Shelf" "root" "Shelf.root" xy
 u2:UM K "Shelf" "room" "Shelf.room" xw
 u3:UF K mg "_law_page_sound" qi
 u4:UM K "Shelf" "check_number" "Shelf.check_number" XO
 u5:UM K "Shelf" "read" "Shelf.read" xu
 u6:UF K mg "_law_level_sound" YL
 u7:UF K mg "_law_list" V4
 u8:UF K mg "_law_sound" yP
 u9:UM K "Weaver" "idle" "Weaver.idle" jm
 u10:UI K mg "Walk" "Walk.__init__" qO
 u11:UM K "Weaver" "take_deed" "Weaver.take_deed" Yt
 u12:UM K "Walk" "over" "Walk.over" yL
 u13:UM K "Walk" "read_pairs" "Walk.read_pairs" YI
 u14:UM K "Shelf" "write" "Shelf.write" jk
 u15:UF K mg "refilled" V5
 u16:UF K mg "count_not_above" YK
 u17:UF K mg "count_below" jo
 u18:UF K mg "with_run" V7
 u19:UF K mg "without" Kp
 u20:UF K mg "worth_of" V8
 u21:UM K "Walk" "cut_key" "Walk.cut_key" zE
 u22:UM K "Shelf" "lay" "Shelf.lay" yK
 u23:UF K mg "parted" vT
 u24:UF K mg "is_full" Km
 u25:UM K "Walk" "settle" "Walk.settle" jl
 u26:UF K mg "with_pair" yQ
 u27:UM K "Walk" "put_pair" "Walk.put_pair" qP
 u28:UM K "Walk" "find_worth" "Walk.find_worth" YH
 u29:UM K "Walk" "do_deed" "Walk.do_deed" zF
 u30:UF K mg "with_kid" V6
 u31:UM K "Walk" "tell_fork" "Walk.tell_fork" qg
 u32:UM K "Walk" "go_on" "Walk.go_on" xA
 u33:UF K mg "kid_for" Kn
 u34:UF K mg "beyond" vS
 u35:UM K "Shelf" "raise_root" "Shelf.raise_root" Yr
 u36:UM K "Walk" "raise_root_over" "Walk.raise_root_over" Xs
 u37:UM K "Walk" "step" "Walk.step" yM
 u38:UM K "Weaver" "step_walk" "Weaver.step_walk" Ys
 u39:UM K "Weaver" "move" "Weaver.move" jn
 u40:UM K "Weaver" "finish" "Weaver.finish" qQ
 u41:UM K "Weaver" "hand_in" "Weaver.hand_in" qh
 u42:UF K mg "_law_key" Ko
 u43:UF K mg "_law_deed" V3
 u44:UF K mg "_law_ahead" yO
 u45:UI K mg "Weaver" "Weaver.__init__" YJ
 u46:UI K mg "Shelf" "Shelf.__init__" qf
 u47:UF K mg "_law_cell_at" jp
theorem V9:Qs ["self"] ["self"] (Qo ji):=Q9 (by decide +kernel)
theorem UU:Qs ["self"] ["self"] (Qo xy):=Q9 (by decide +kernel)
theorem US:Qs ["self"] ["self"] (Qo xw):=Q9 (by decide +kernel)
theorem sc_law_page_sound:Qs ["page", "level", "low", "room", "last", "k", "key"] ["page", "level", "low", "room"] (Qo qi):=Q9 (by decide +kernel)
theorem qT:Qs ["self", "number"] ["self", "number"] (Qo XO):=Q9 (by decide +kernel)
theorem UR:Qs ["self", "number"] ["self", "number"] (Qo xu):=Q9 (by decide +kernel)
theorem sc_law_level_sound:Qs ["shelf", "pages", "level", "beneath", "low", "lows", "before", "number", "page", "bounds", "k"] ["shelf", "pages", "level", "beneath"] (Qo YL):=Q9 (by decide +kernel)
theorem sc_law_list:Qs ["shelf", "number", "level", "found", "k"] ["shelf", "number", "level"] (Qo V4):=Q9 (by decide +kernel)
theorem sc_law_sound:Qs ["shelf", "still", "number", "level", "pages", "seen", "kids", "beneath", "whole"] ["shelf", "still"] (Qo yP):=Q9 (by decide +kernel)
theorem Ub:Qs ["self"] ["self"] (Qo jm):=Q9 (by decide +kernel)
theorem yt:Qs ["self", "shelf", "deed"] ["self", "shelf", "deed"] (Qo qO):=Q9 (by decide +kernel)
theorem sc_Weaver_take_deed:Qs ["self", "hand", "number"] ["self", "hand"] (Qo Yt):=Q9 (by decide +kernel)
theorem Gz:Qs ["self"] ["self"] (Qo yL):=Q9 (by decide +kernel)
theorem sc_Walk_read_pairs:Qs ["self", "number", "leaf", "low", "high", "pairs"] ["self", "number", "leaf"] (Qo YI):=Q9 (by decide +kernel)
theorem Ua:Qs ["self", "number", "page"] ["self", "number", "page"] (Qo jk):=Q9 (by decide +kernel)
theorem vU:Qs ["page", "keys", "parts"] ["page", "keys", "parts"] (Qo V5):=Q9 (by decide +kernel)
theorem jE:Qs ["keys", "key"] ["keys", "key"] (Qo YK):=Q9 (by decide +kernel)
theorem Ud:Qs ["keys", "key"] ["keys", "key"] (Qo jo):=Q9 (by decide +kernel)
theorem sc_with_run:Qs ["page", "key", "new_keys", "new_worths", "keys", "worths", "start", "stop"] ["page", "key", "new_keys", "new_worths"] (Qo V7):=Q9 (by decide +kernel)
theorem gw:Qs ["page", "key"] ["page", "key"] (Qo Kp):=Q9 (by decide +kernel)
theorem sc_worth_of:Qs ["page", "key", "keys", "place"] ["page", "key"] (Qo V8):=Q9 (by decide +kernel)
theorem Vd:Qs ["self", "number", "leaf"] ["self", "number", "leaf"] (Qo zE):=Q9 (by decide +kernel)
theorem Gy:Qs ["self", "page"] ["self", "page"] (Qo yK):=Q9 (by decide +kernel)
theorem sc_parted:Qs ["page", "number", "level", "keys", "parts", "middle", "key", "cut", "old", "new"] ["page", "number"] (Qo vT):=Q9 (by decide +kernel)
theorem gq:Qs ["page", "room"] ["page", "room"] (Qo Km):=Q9 (by decide +kernel)
theorem sc_Walk_settle:Qs ["self", "number", "page", "halves"] ["self", "number", "page"] (Qo jl):=Q9 (by decide +kernel)
theorem GA:Qs ["page", "key", "worth"] ["page", "key", "worth"] (Qo yQ):=Q9 (by decide +kernel)
theorem sc_Walk_put_pair:Qs ["self", "number", "leaf", "new_page"] ["self", "number", "leaf"] (Qo qP):=Q9 (by decide +kernel)
theorem jC:Qs ["self", "number", "leaf"] ["self", "number", "leaf"] (Qo YH):=Q9 (by decide +kernel)
theorem sc_Walk_do_deed:Qs ["self", "number", "leaf", "word"] ["self", "number", "leaf"] (Qo zF):=Q9 (by decide +kernel)
theorem sc_with_kid:Qs ["page", "key", "kid", "keys", "kids", "place", "behind"] ["page", "key", "kid"] (Qo V6):=Q9 (by decide +kernel)
theorem sc_Walk_tell_fork:Qs ["self", "number", "fork", "new_page"] ["self", "number", "fork"] (Qo qg):=Q9 (by decide +kernel)
theorem UV:Qs ["self", "word", "number", "to"] ["self", "word", "number", "to"] (Qo xA):=Q9 (by decide +kernel)
theorem gt:Qs ["page", "key"] ["page", "key"] (Qo Kn):=Q9 (by decide +kernel)
theorem sc_beyond:Qs ["page", "key", "high"] ["page", "key"] (Qo vS):=Q9 (by decide +kernel)
theorem sc_Shelf_raise_root:Qs ["self", "key", "number", "level"] ["self", "key", "number"] (Qo Yr):=Q9 (by decide +kernel)
theorem qj:Qs ["self", "number"] ["self", "number"] (Qo Xs):=Q9 (by decide +kernel)
theorem sc_Walk_step:Qs ["self", "number", "page"] ["self"] (Qo yM):=Q9 (by decide +kernel)
theorem sc_Weaver_step_walk:Qs ["self", "hand", "holding", "walk", "told"] ["self", "hand"] (Qo Ys):=Q9 (by decide +kernel)
theorem Uc:Qs ["self", "hand"] ["self", "hand"] (Qo jn):=Q9 (by decide +kernel)
theorem sc_Weaver_finish:Qs ["self", "rows", "hand"] ["self"] (Qo qQ):=Q9 (by decide +kernel)
theorem xC:Qs ["self", "deed"] ["self", "deed"] (Qo qh):=Q9 (by decide +kernel)
theorem sc_law_key:Qs ["number", "rest"] ["number"] (Qo Ko):=Q9 (by decide +kernel)
theorem sc_law_deed:Qs ["cell", "kind", "key", "other"] ["cell"] (Qo V3):=Q9 (by decide +kernel)
theorem sc_law_ahead:Qs ["cell", "step"] ["cell"] (Qo yO):=Q9 (by decide +kernel)
theorem jD:Qs ["self", "shelf", "hands"] ["self", "shelf", "hands"] (Qo YJ):=Q9 (by decide +kernel)
theorem xB:Qs ["self", "room"] ["self", "room"] (Qo qf):=Q9 (by decide +kernel)
theorem Ue:Qs ["script", "k"] ["script", "k"] (Qo jp):=Q9 (by decide +kernel)
theorem sc_law:Qs ["script", "cell", "hands", "shelf", "weaver", "deed", "k", "row"] ["script"] (Qo yN):=Q9 (by decide +kernel)
section
variable{P:Program}{w:World}{K:Aa}{mg:Eo}{O8:Heap}(Z:Al K mg)
include Z
def J6:Xh P w K mg O8 "Shelf" "pages" 1 1 Zr:=hM Z.u0 V9 λ_ _ _ _ _ _ _ hr=>Qq (Qt (ZR JE Z.z0 PySem.boot_len (Qd (Qu Z.k0 (Qa 0)) Qm)))
def Yo:Xh P w K mg O8 "Shelf" "root" 1 1 Zh:=hM Z.u1 UU λ_ _ _ _ _ _ _ hr=>Qq (Qt (Qu Z.k1 (Qa 0)))
def zk:Xh P w K mg O8 "Shelf" "room" 1 1 ZP:=hM Z.u2 US λ_ _ _ _ _ _ _ hr=>Qq (Qt (Qu Z.k2 (Qa 0)))
def jy:Has P w K mg O8 "_law_page_sound" 1 4 JO:=hf Z.u3 sc_law_page_sound λ_ _ _ _ _ _ _ hr=>Qh (Zu (DW.pt (VC (QV (kU hr.units) (QE (QO hr) (Qa 0) Qp) (Qa 1) (QJ _)) (VC (QV Gk (ZR JE Z.z0 PySem.boot_len (Qd (QE (QO hr) (Qa 0) Qp) Qm)) (Qa 3) (QJ _)) (xZ (QV (kU hr.units) (ZR JE Z.z0 PySem.boot_len (Qd (QE (QO hr) (Qa 0) Qp) Qm)) (Qz JD (ZR JE Z.z0 PySem.boot_len (Qd (QE (QO hr) (Qa 0) Qp) Qm)) (G7 Qhk Z.z2 boot_int (Qd (XC Gk (Qa 1) Qp (QJ _)) Qm))) (QJ _)))))) (Qq (Qt Xi)) QR) (Qh (Zu (QV (kU hr.units) (XC UN (QE (QO hr) (Qa 0) Qp) Zl (QJ _)) (XC UN (QE (QO hr) (Qa 0) Qp) Zl (QJ _)) (QJ _)) (Qq (Qt Xi)) QR) (Qh (Qw 4 sc_law_page_sound.nd (Qa 2)) (Qh (YB PassesOwn.never rfl (jX (Yg rfl Z.z1 (Qd (ZR JE Z.z0 PySem.boot_len (Qd (QE (QO hr) (Qa 0) Qp) Qm)) Qm))) (YA 5 sc_law_page_sound.nd) (Qh (Qw 6 sc_law_page_sound.nd (QE (QO hr) (QE (QO hr) (Qa 0) Qp) (Qa 5))) (Qh (Zu (DW.pt (KS (QV Kl (Qa 4) Zl (QJ _)) (Vf (DW.pt (VC (QV Vc (Qa 6) (Qa 4) (QJ _)) (xZ (DW.pt (KS (QV Gk (Qa 5) Qp (QJ _)) (Vf (QV (yH hr.units) (Qa 6) (Qa 4) (QJ _))))))))))) (Qq (Qt Xi)) QR) (Qq (Qw 4 sc_law_page_sound.nd (Qa 6)))))) (Qq (Qt (QbG (XC UN (QE (QO hr) (Qa 0) Qp) Zl (QJ _)) (QbG (XC UN (Qa 4) Zl (QJ _)) (Vv (XC Gk (QE (QO hr) (Qa 0) Qp) (Qa 4) (QJ _))))))))))
def Jn:Xh P w K mg O8 "Shelf" "check_number" 1 2 Zn:=hM Z.u4 qT λ_ _ _ _ _ _ _ hr=>Qq (Zu (ze (VA Qej Vc Qp (Qa 1) (ZR JE Z.z0 PySem.boot_len (Qd (Qu Z.k0 (Qa 0)) Qm)))) (Qq ku) QR)
theorem Z0:Xh P w K mg O8 "Shelf" "read" 2 2 QN:=hM Z.u5 UR λ_ _ _ _ _ _ _ hr=>Qh (Je (Q1 (Jn Z) hr (by decide) QD (Qa 0) (Qd (Qa 1) Qm))) (Qh (zN Z.k3 (Qa 0) Qp) (Qq (Qt (QE (QO hr) (Qu Z.k0 (Qa 0)) (Qa 1)))))
theorem ja:Has P w K mg O8 "_law_level_sound" 3 4 Z6:=hf Z.u6 sc_law_level_sound λ_ _ _ _ _ _ _ hr=>Qh (Qw 4 sc_law_level_sound.nd Zl) (Qh (Qw 5 sc_law_level_sound.nd G4) (Qh (Qw 6 sc_law_level_sound.nd Zl) (Qh (YB PassesOwn.never rfl (jW (Qa 3)) (YA 7 sc_law_level_sound.nd) (Qh (Vz (Qa 6) (Vy (QO hr) (Qa 5) (Qa 7))) (Qq (Qw 6 sc_law_level_sound.nd (QE (QO hr) (Q1 (Z0 Z) hr (by decide) QD (Qa 0) (Qd (Qa 7) Qm)) Qp))))) (Qh (YB PassesOwn.never rfl (jW (Qa 1)) (YA 7 sc_law_level_sound.nd) (Qh (Qw 8 sc_law_level_sound.nd (Q1 (Z0 Z) hr (by decide) QD (Qa 0) (Qd (Qa 7) Qm))) (Qh (Zu (ze (zg (Q0 (jy Z) hr (by decide) QD (Qd (Qa 8) (Qd (Qa 2) (Qd (Qa 4) (Qd (Z8 (zk Z) hr (by decide) QD (Qa 0)) Qm))))))) (Qq (Qt Xi)) QR) (Qh (Zu (QV Gk (Qa 2) Qp (QJ _)) (Qh (Qw 9 sc_law_level_sound.nd (Qz JD (js (Qd (Qa 4) Qm)) (G7 Qby Z.z3 boot_list (Qd (QE (QO hr) (Qa 8) Qp) Qm)))) (Qq (YB PassesOwn.never rfl (jX (Yg rfl Z.z1 (Qd (ZR JE Z.z0 PySem.boot_len (Qd (QE (QO hr) (Qa 8) Qp) Qm)) Qm))) (YA 10 sc_law_level_sound.nd) (Qq (Zu (DW.pt (VC (QV (Qgn (QO hr)) (QE (QO hr) (QE (QO hr) (Qa 8) Qp) (Qa 10)) (Qa 5) (by with_unfolding_all rfl)) (xZ (QV (kU hr.units) (QE (QO hr) (Qa 5) (QE (QO hr) (QE (QO hr) (Qa 8) Qp) (Qa 10))) (QE (QO hr) (Qa 9) (Qa 10)) (QJ _))))) (Qq (Qt Xi)) QR))))) QR) (Qq (Qw 4 sc_law_level_sound.nd (QE (QO hr) (Qa 8) Qp))))))) (Qq (Qt Xi))))))
theorem xa:Has P w K mg O8 "_law_list" 3 3 Xz:=hf Z.u7 sc_law_list λ_ _ _ _ _ _ _ hr=>Qh (Qw 3 sc_law_list.nd (zM Qm)) (Qh (YB PassesOwn.never rfl (jX (Yg rfl Z.z1 (Qd (Z8 (J6 Z) hr (by decide) QD (Qa 0)) Qm))) (YA 4 sc_law_list.nd) (Qh (Zu (DW.pt (VC (QV UN (Qa 1) Zl (QJ _)) (xZ (QV (Qfu (QO hr)) (Qa 1) (Qa 3) (by with_unfolding_all rfl))))) (Qq QfP) QR) (Qh (Je (jt zt PySem.F.plainAttrs_list PySem.F.slot_list_append PySem.F.type_list_append (Qa 3) (Qd (Qa 1) Qm))) (Qq (Qw 1 sc_law_list.nd (QE (QO hr) (Q1 (Z0 Z) hr (by decide) QD (Qa 0) (Qd (Qa 1) Qm)) Qp)))))) (Qh (Zu (QV Kl (Qa 1) Zl (QJ _)) (Qq (Qt Zl)) QR) (Qq (Qt (Qa 3)))))
theorem YU:Has P w K mg O8 "_law_sound" 4 2 Z7:=hf Z.u8 sc_law_sound λ_ _ _ _ _ _ _ hr=>Qh (Qw 2 sc_law_sound.nd (Z8 (Yo Z) hr (by decide) QD (Qa 0))) (Qh (Qw 3 sc_law_sound.nd (QE (QO hr) (Q1 (Z0 Z) hr (by decide) QD (Qa 0) (Qd (Qa 2) Qm)) Qp)) (Qh (Qw 4 sc_law_sound.nd (Q0 (xa Z) hr (by decide) QD (Qd (Qa 0) (Qd (Qa 2) (Qd (Qa 3) Qm))))) (Qh (Qw 5 sc_law_sound.nd Qp) (Qh (Qw 6 sc_law_sound.nd (js Qm)) (Qh (va 100000 PassesOwn.never (QV Kl (Qa 4) Zl (QJ _)) (Qh (Qw 5 sc_law_sound.nd (Qz JD (Qa 5) (ZR JE Z.z0 PySem.boot_len (Qd (Qa 4) Qm)))) (Qh (Qw 7 sc_law_sound.nd (js Qm)) (Qh (Zu (QV Gk (Qa 3) Qp (QJ _)) (Qh (Qw 7 sc_law_sound.nd (Q0 (xa Z) hr (by decide) QD (Qd (Qa 0) (Qd (QE (QO hr) (QE (QO hr) (Q1 (Z0 Z) hr (by decide) QD (Qa 0) (Qd (QE (QO hr) (Qa 4) Qp) Qm)) Qp) Qp) (Qd (Qz jh (Qa 3) Qp) Qm))))) (Qq (YB PassesOwn.never rfl (jW (Qa 4)) (YA 2 sc_law_sound.nd) (Qq (Qw 6 sc_law_sound.nd (Qz JD (Qa 6) (G7 Qby Z.z3 boot_list (Qd (QE (QO hr) (Q1 (Z0 Z) hr (by decide) QD (Qa 0) (Qd (Qa 2) Qm)) Qp) Qm)))))))) QR) (Qh (Zu (DW.pt (VC (QV UN (Qa 7) Zl (QJ _)) (xZ (ze (zg (Q0 (ja Z) hr (by decide) QD (Qd (Qa 0) (Qd (Qa 4) (Qd (Qa 3) (Qd (Qa 7) Qm)))))))))) (Qq (Qt Xi)) QR) (Qh (Zu (QV (yH hr.units) (Qa 3) Qp (QJ _)) (Qh (Qw 8 sc_law_sound.nd (XC (yH hr.units) (ZR (Qax rfl) Z.z4 boot_sorted (Qd (Qz JD (Qa 6) (js (Qd (Z8 (Yo Z) hr (by decide) QD (Qa 0)) Qm))) Qm)) (qZ (caps:=[]) (idx:=[]) ⟨by with_unfolding_all rfl,by decide +kernel,rfl,by decide +kernel,rfl,(by exact trivial),by with_unfolding_all rfl,(by exact trivial),by decide⟩ rfl (jX (Yg rfl Z.z1 (Qd (Z8 (J6 Z) hr (by decide) QD (Qa 0)) Qm))) (λ_ _ _ _=>KQ) (λ_ _ _ _=>Qa 0)) (QJ _))) (Qq (Qt (uE (XC (yH hr.units) (Qa 5) (Z8 (J6 Z) hr (by decide) QD (Qa 0)) (QJ _)) (Vv (QbG (Qa 8) (Vv (QfM (Qa 1))))))))) QR) (Qh (Qw 4 sc_law_sound.nd (Qa 7)) (Qq (Qw 3 sc_law_sound.nd (Qz jh (Qa 3) Qp)))))))))) (Qq (Qt Xi)))))))
theorem y8:Xh P w K mg O8 "Weaver" "idle" 1 1 J3:=hM Z.u9 Ub λ_ _ _ _ _ _ _ hr=>Qq (Qt (uE (XC (yH hr.units) (Qu Z.k4 (Qa 0)) (ZR JE Z.z0 PySem.boot_len (Qd (Qu Z.k5 (Qa 0)) Qm)) (QJ _)) (Vv (ZR (Qhj rfl) Z.z5 boot_all (Qd (qZ (caps:=[]) (idx:=[]) ⟨by with_unfolding_all rfl,by decide +kernel,rfl,by decide +kernel,rfl,(by exact trivial),by with_unfolding_all rfl,(by exact trivial),by decide⟩ rfl (jW (Qu Z.k6 (Qa 0))) (λ_ _ _ _=>KQ) (λ_ _ _ _=>XC UN (Qa 0) Zl (QJ _))) Qm)))))
def j8:Qap P w K mg O8 "Walk" 1 3 Jp:=hI Z.u10 yt λ_ _ _ _ _ _ _ hr=>Qh (Za Z.k16 (Qa 0) (Qa 1)) (Qh (Za Z.k15 (Qa 0) (Qa 2)) (Qh (Za Z.k14 (Qa 0) (QE (QO hr) (Qa 2) Qp)) (Qh (Za Z.k13 (Qa 0) Qp) (Qh (Za Z.k12 (Qa 0) Zl) (Qh (Za Z.k11 (Qa 0) G4) (Qh (Za Z.k10 (Qa 0) Zl) (Qh (Za Z.k9 (Qa 0) Zl) (Qh (Za Z.k8 (Qa 0) (zM Qm)) (Qq (Za Z.k7 (Qa 0) Xi))))))))))
theorem zo:Xh P w K mg O8 "Weaver" "take_deed" 3 2 Jk:=hM Z.u11 sc_Weaver_take_deed λ_ _ _ _ _ _ _ hr=>Qh (Qw 2 sc_Weaver_take_deed.nd (Qu Z.k4 (Qa 0))) (Qh (Vz (Zm (Qd (Qa 2) (Qd (KP (j8 Z) hr (by decide) QD (Qd (Qu Z.k17 (Qa 0)) (Qd (QE (QO hr) (Qu Z.k5 (Qa 0)) (Qa 2)) Qm))) Qm))) (Vy (QO hr) (Qu Z.k6 (Qa 0)) (Qa 1))) (Qh (zN Z.k4 (Qa 0) Qp) (Qq (Qt (Zm (Qd ZZ (Qd (Qa 1) (Qd (Qa 2) Qm))))))))
def UE:Xh P w K mg O8 "Walk" "over" 1 1 XJ:=hM Z.u12 Gz λ_ _ _ _ _ _ _ hr=>Qq (Qt (Qu Z.k7 (Qa 0)))
theorem zY:Xh P w K mg O8 "Walk" "read_pairs" 1 3 Xg:=hM Z.u13 sc_Walk_read_pairs λ_ _ _ _ _ _ _ hr=>let ⟨_,g_SIDE⟩:=Z.g0.ex;let ⟨_,g_HIGH⟩:=Z.g1.ex;let ⟨_,g_KEYS⟩:=Z.g2.ex;let ⟨_,g_PARTS⟩:=Z.g3.ex;Qh (Qw 3 sc_Walk_read_pairs.nd (QE (QO hr) (Qu Z.k15 (Qa 0)) Qp)) (Qh (Qw 4 sc_Walk_read_pairs.nd (QE (QO hr) (Qu Z.k15 (Qa 0)) Qp)) (Qh (QbM 5 sc_Walk_read_pairs.nd (caps:=["low", "high"]) (idx:=[3,4]) ⟨by with_unfolding_all rfl,by decide +kernel,rfl,by decide +kernel,rfl,(by exact⟨rfl,⟨rfl,trivial⟩⟩),by with_unfolding_all rfl,(by exact⟨rfl,.inl rfl,⟨_,rfl⟩,(λh=>NameKind.noConfusion (Am (show some NameKind.cell=some NameKind.local from h))),⟨rfl,.inl rfl,⟨_,rfl⟩,(λh=>NameKind.noConfusion (Am (show some NameKind.cell=some NameKind.local from h))),trivial⟩⟩),by decide⟩ rfl (jX (QdQ (by rfl) (by exact Z.z7) (QE (QO hr) (Qa 2) (Q7 rfl g_KEYS)) (QE (QO hr) (Qa 2) (Q7 rfl g_PARTS)))) (λ_ _ _ _=>KR (VA Qej Vc (Qa 1) (QE (QO hr) (Qa 0) Qp) (Qa 2))) (λ_ _ _ _=>Qa 0)) (Qh (Je (jt Qco PySem.F.plainAttrs_list PySem.F.slot_list_extend PySem.F.type_list_extend (Qu Z.k8 (Qa 0)) (Qd (Qa 5) Qm))) (Qh (Zu (DW.pt (VC (QV UN (QE (QO hr) (Qa 2) (Q7 rfl g_HIGH)) Zl (QJ _)) (xZ (QV QhT (QE (QO hr) (Qa 2) (Q7 rfl g_HIGH)) (Qa 4) (QJ _))))) (Qh (Za Z.k7 (Qa 0) Xi) (Qq (Qt (Zm (Qd ZZ (Qd (Qa 1) (Qd (G7 GU Z.z6 boot_tuple (Qd (Qa 5) Qm)) (Qd Zl (Qd Zl Qm))))))))) QR) (Qh (Za Z.k14 (Qa 0) (QE (QO hr) (Qa 2) (Q7 rfl g_HIGH))) (Qh (Za Z.k12 (Qa 0) (QE (QO hr) (Qa 2) (Q7 rfl g_SIDE))) (Qq (Qt (Zm (Qd ZZ (Qd (Qa 1) (Qd (G7 GU Z.z6 boot_tuple (Qd (Qa 5) Qm)) (Qd (Qu Z.k12 (Qa 0)) (Qd (Qu Z.k14 (Qa 0)) Qm))))))))))))))
theorem XV:Xh P w K mg O8 "Shelf" "write" 2 3 Jv:=hM Z.u14 Ua λ_ _ _ _ _ _ _ hr=>Qh (Je (Q1 (Jn Z) hr (by decide) QD (Qa 0) (Qd (Qa 1) Qm))) (Qh (zN Z.k18 (Qa 0) Qp) (Qq (Vz (Qa 2) (Vy (QO hr) (Qu Z.k0 (Qa 0)) (Qa 1)))))
def xb:Has P w K mg O8 "refilled" 1 3 qr:=hf Z.u15 vU λ_ _ _ _ _ _ _ hr=>let ⟨_,g_SIDE⟩:=Z.g0.ex;let ⟨_,g_HIGH⟩:=Z.g1.ex;let ⟨_,g_LEVEL⟩:=Z.g4.ex;Qq (Qt (Zm (Qd (JG (Qa 0) (Q7 rfl g_LEVEL)) (Qd (Qa 1) (Qd (Qa 2) (Qd (JG (Qa 0) (Q7 rfl g_HIGH)) (Qd (JG (Qa 0) (Q7 rfl g_SIDE)) Qm)))))))
theorem Jg:Has P w K mg O8 "count_not_above" 1 2 Zs:=hf Z.u16 jE λ_ _ _ _ _ _ _ hr=>Qq (Qt (ZR JE Z.z0 PySem.boot_len (Qd (qZ (caps:=["key"]) (idx:=[1]) ⟨by with_unfolding_all rfl,by decide +kernel,rfl,by decide +kernel,rfl,(by exact⟨rfl,trivial⟩),by with_unfolding_all rfl,(by exact⟨rfl,.inl rfl,⟨_,rfl⟩,(λh=>NameKind.noConfusion (Am (show some NameKind.cell=some NameKind.local from h))),trivial⟩),by decide⟩ rfl (jX (QbI (Qa 0))) (λ_ _ _ _=>KR (QV Qej (Qa 0) (Qa 1) (QJ _))) (λ_ _ _ _=>Qa 0)) Qm)))
theorem qM:Has P w K mg O8 "count_below" 1 2 XF:=hf Z.u17 Ud λ_ _ _ _ _ _ _ hr=>Qq (Qt (ZR JE Z.z0 PySem.boot_len (Qd (qZ (caps:=["key"]) (idx:=[1]) ⟨by with_unfolding_all rfl,by decide +kernel,rfl,by decide +kernel,rfl,(by exact⟨rfl,trivial⟩),by with_unfolding_all rfl,(by exact⟨rfl,.inl rfl,⟨_,rfl⟩,(λh=>NameKind.noConfusion (Am (show some NameKind.cell=some NameKind.local from h))),trivial⟩),by decide⟩ rfl (jX (QbI (Qa 0))) (λ_ _ _ _=>KR (QV Vc (Qa 0) (Qa 1) (QJ _))) (λ_ _ _ _=>Qa 0)) Qm)))
theorem xc:Has P w K mg O8 "with_run" 2 4 qu:=hf Z.u18 sc_with_run λ_ _ _ _ _ _ _ hr=>let ⟨_,g_PARTS⟩:=Z.g3.ex;let ⟨_,g_KEYS⟩:=Z.g2.ex;Qh (Qw 4 sc_with_run.nd (JG (Qa 0) (Q7 rfl g_KEYS))) (Qh (Qw 5 sc_with_run.nd (JG (Qa 0) (Q7 rfl g_PARTS))) (Qh (Qw 6 sc_with_run.nd (Q0 (qM Z) hr (by decide) QD (Qd (Qa 4) (Qd (Qa 1) Qm)))) (Qh (Qw 7 sc_with_run.nd (Q0 (Jg Z) hr (by decide) QD (Qd (Qa 4) (Qd (Qa 1) Qm)))) (Qq (Qt (Q0 (xb Z) hr (by decide) QD (Qd (Qa 0) (Qd (Qz JD (Qz JD (Y7 (Qa 4) JR (JS (Qa 6))) (Qa 2)) (Y7 (Qa 4) (JS (Qa 7)) JR)) (Qd (Qz JD (Qz JD (Y7 (Qa 5) JR (JS (Qa 6))) (Qa 3)) (Y7 (Qa 5) (JS (Qa 7)) JR)) Qm)))))))))
theorem vp:Has P w K mg O8 "without" 3 2 xP:=hf Z.u19 gw λ_ _ _ _ _ _ _ hr=>Qq (Qt (Q0 (xc Z) hr (by decide) QD (Qd (Qa 0) (Qd (Qa 1) (Qd (Zm Qm) (Qd (Zm Qm) Qm))))))
theorem qz:Has P w K mg O8 "worth_of" 2 2 J8:=hf Z.u20 sc_worth_of λ_ _ _ _ _ _ _ hr=>let ⟨_,g_PARTS⟩:=Z.g3.ex;let ⟨_,g_KEYS⟩:=Z.g2.ex;Qh (Qw 2 sc_worth_of.nd (JG (Qa 0) (Q7 rfl g_KEYS))) (Qh (Qw 3 sc_worth_of.nd (Q0 (qM Z) hr (by decide) QD (Qd (Qa 2) (Qd (Qa 1) Qm)))) (Qh (Zu (QV (Qa4 hr.units) (Qa 3) (Q0 (Jg Z) hr (by decide) QD (Qd (Qa 2) (Qd (Qa 1) Qm))) (QJ _)) (Qq (Qt Zl)) QR) (Qq (Qt (JG (JG (Qa 0) (Q7 rfl g_PARTS)) (Qa 3))))))
theorem x5:Xh P w K mg O8 "Walk" "cut_key" 4 3 Yh:=hM Z.u21 Vd λ_ _ _ _ _ _ _ hr=>Qh (Za Z.k9 (Qa 0) (Q0 (qz Z) hr (by decide) QD (Qd (Qa 2) (Qd (Qu Z.k14 (Qa 0)) Qm)))) (Qh (Zu (QV Kl (Qu Z.k9 (Qa 0)) Zl (QJ _)) (Qq (Je (Q1 (XV Z) hr (by decide) QD (Qu Z.k16 (Qa 0)) (Qd (Qa 1) (Qd (Q0 (vp Z) hr (by decide) QD (Qd (Qa 2) (Qd (Qu Z.k14 (Qa 0)) Qm))) Qm))))) QR) (Qh (Za Z.k7 (Qa 0) Xi) (Qq (Qt (Zm (Qd ZZ (Qd (Qa 1) (Qd (Qu Z.k9 (Qa 0)) Qm))))))))
def jg:Xh P w K mg O8 "Shelf" "lay" 1 2 XI:=hM Z.u22 Gy λ_ _ _ _ _ _ _ hr=>Qh (zN Z.k18 (Qa 0) Qp) (Qh (Je (jt zt PySem.F.plainAttrs_list PySem.F.slot_list_append PySem.F.type_list_append (Qu Z.k0 (Qa 0)) (Qd (Qa 1) Qm))) (Qq (Qt (Qz jh (ZR JE Z.z0 PySem.boot_len (Qd (Qu Z.k0 (Qa 0)) Qm)) Qp))))
def uK:Has P w K mg O8 "parted" 1 2 jK:=hf Z.u23 sc_parted λ_ _ _ _ _ _ _ hr=>let ⟨_,g_SIDE⟩:=Z.g0.ex;let ⟨_,g_HIGH⟩:=Z.g1.ex;let ⟨_,g_PARTS⟩:=Z.g3.ex;let ⟨_,g_KEYS⟩:=Z.g2.ex;let ⟨_,g_LEVEL⟩:=Z.g4.ex;Qh (Qw 2 sc_parted.nd (JG (Qa 0) (Q7 rfl g_LEVEL))) (Qh (Qw 3 sc_parted.nd (JG (Qa 0) (Q7 rfl g_KEYS))) (Qh (Qw 4 sc_parted.nd (JG (Qa 0) (Q7 rfl g_PARTS))) (Qh (Qw 5 sc_parted.nd (Qz xq (ZR gY Z.z0 PySem.boot_len (Qd (Qa 3) Qm)) Qp)) (Qh (Qw 6 sc_parted.nd (JG (Qa 3) (Qa 5))) (Qh (Qw 7 sc_parted.nd (Qfg (QV (Qa4 hr.units) (Qa 2) Qp (QJ _)) (Qa 5) (Qz JD (Qa 5) Qp))) (Qh (Qw 8 sc_parted.nd (Zm (Qd (Qa 2) (Qd (Y7 (Qa 3) JR (JS (Qa 5))) (Qd (Y7 (Qa 4) JR (JS (Qa 7))) (Qd (Qa 6) (Qd (Qa 1) Qm))))))) (Qh (Qw 9 sc_parted.nd (Zm (Qd (Qa 2) (Qd (Y7 (Qa 3) (JS (Qa 7)) JR) (Qd (Y7 (Qa 4) (JS (Qa 7)) JR) (Qd (JG (Qa 0) (Q7 rfl g_HIGH)) (Qd (JG (Qa 0) (Q7 rfl g_SIDE)) Qm))))))) (Qq (Qt (Zm (Qd (Qa 8) (Qd (Qa 9) (Qd (Qa 6) Qm)))))))))))))
def vn:Has P w K mg O8 "is_full" 1 2 Ye:=hf Z.u24 gq λ_ _ _ _ _ _ _ hr=>let ⟨_,g_KEYS⟩:=Z.g2.ex;Qq (Qt (XC Gk (ZR gY Z.z0 PySem.boot_len (Qd (JG (Qa 0) (Q7 rfl g_KEYS)) Qm)) (Qa 1) (QJ _)))
theorem qK:Xh P w K mg O8 "Walk" "settle" 3 3 XE:=hM Z.u25 sc_Walk_settle λ_ _ _ _ _ _ _ hr=>let ⟨_,g_LEVEL⟩:=Z.g4.ex;Qh (Zu (ze (zg (Q0 (vn Z) hr (by decide) QD (Qd (Qa 2) (Qd (Z8 (zk Z) hr (by decide) QD (Qu Z.k16 (Qa 0))) Qm))))) (Qh (Je (Q1 (XV Z) hr (by decide) QD (Qu Z.k16 (Qa 0)) (Qd (Qa 1) (Qd (Qa 2) Qm)))) (Qh (Za Z.k7 (Qa 0) Xi) (Qq (Qt Zl)))) QR) (Qh (Qw 3 sc_Walk_settle.nd (Q0 (uK Z) hr (by decide) QD (Qd (Qa 2) (Qd (Z8 (J6 Z) hr (by decide) QD (Qu Z.k16 (Qa 0))) Qm)))) (Qh (Za Z.k10 (Qa 0) (Q1 (jg Z) hr (by decide) QD (Qu Z.k16 (Qa 0)) (Qd (QE (QO hr) (Qa 3) Qp) Qm))) (Qh (Je (Q1 (XV Z) hr (by decide) QD (Qu Z.k16 (Qa 0)) (Qd (Qa 1) (Qd (QE (QO hr) (Qa 3) Qp) Qm)))) (Qh (Za Z.k14 (Qa 0) (QE (QO hr) (Qa 3) Qp)) (Qh (Za Z.k13 (Qa 0) (Qz JD (QE (QO hr) (Qa 2) (Q7 rfl g_LEVEL)) Qp)) (Qh (Za Z.k12 (Qa 0) (jt (Qga (QO hr)) PySem.F.plainAttrs_dict PySem.F.slot_dict_get PySem.F.type_dict_get (Qu Z.k11 (Qa 0)) (Qd (Qu Z.k13 (Qa 0)) Qm))) (Qq (Qt (Qu Z.k10 (Qa 0))))))))))
theorem UK:Has P w K mg O8 "with_pair" 3 3 qV:=hf Z.u26 GA λ_ _ _ _ _ _ _ hr=>Qq (Qt (Q0 (xc Z) hr (by decide) QD (Qd (Qa 0) (Qd (Qa 1) (Qd (Zm (Qd (Qa 1) Qm)) (Qd (Zm (Qd (Qa 2) Qm)) Qm))))))
theorem j9:Xh P w K mg O8 "Walk" "put_pair" 4 3 XR:=hM Z.u27 sc_Walk_put_pair λ_ _ _ _ _ _ _ hr=>Qh (Za Z.k9 (Qa 0) (Q0 (qz Z) hr (by decide) QD (Qd (Qa 2) (Qd (Qu Z.k14 (Qa 0)) Qm)))) (Qh (Qw 3 sc_Walk_put_pair.nd (Q1 (qK Z) hr (by decide) QD (Qa 0) (Qd (Qa 1) (Qd (Q0 (UK Z) hr (by decide) QD (Qd (Qa 2) (Qd (Qu Z.k14 (Qa 0)) (Qd (QE (QO hr) (Qu Z.k15 (Qa 0)) Qp) Qm)))) Qm)))) (Qq (Qt (Zm (Qd ZZ (Qd (Qa 1) (Qd (Qu Z.k9 (Qa 0)) (Qd (Qa 3) Qm))))))))
theorem zX:Xh P w K mg O8 "Walk" "find_worth" 3 3 Xf:=hM Z.u28 jC λ_ _ _ _ _ _ _ hr=>Qh (Za Z.k9 (Qa 0) (Q0 (qz Z) hr (by decide) QD (Qd (Qa 2) (Qd (Qu Z.k14 (Qa 0)) Qm)))) (Qh (Za Z.k7 (Qa 0) Xi) (Qq (Qt (Zm (Qd ZZ (Qd (Qa 1) (Qd (Qu Z.k9 (Qa 0)) Qm)))))))
theorem x6:Xh P w K mg O8 "Walk" "do_deed" 5 3 Yi:=hM Z.u29 sc_Walk_do_deed λ_ _ _ _ _ _ _ hr=>Qh (Qw 3 sc_Walk_do_deed.nd (QE (QO hr) (Qu Z.k15 (Qa 0)) Qp)) (Qh (Zu (QV (yH hr.units) (Qa 3) ZZ (QJ _)) (Qq (Qt (Q1 (zX Z) hr (by decide) QD (Qa 0) (Qd (Qa 1) (Qd (Qa 2) Qm))))) QR) (Qh (Zu (QV (yH hr.units) (Qa 3) ZZ (QJ _)) (Qq (Qt (Q1 (j9 Z) hr (by decide) QD (Qa 0) (Qd (Qa 1) (Qd (Qa 2) Qm))))) QR) (Qh (Zu (QV (yH hr.units) (Qa 3) ZZ (QJ _)) (Qq (Qt (Q1 (x5 Z) hr (by decide) QD (Qa 0) (Qd (Qa 1) (Qd (Qa 2) Qm))))) QR) (Qq (Qt (Q1 (zY Z) hr (by decide) QD (Qa 0) (Qd (Qa 1) (Qd (Qa 2) Qm))))))))
theorem K2:Has P w K mg O8 "with_kid" 2 3 qt:=hf Z.u30 sc_with_kid λ_ _ _ _ _ _ _ hr=>let ⟨_,g_PARTS⟩:=Z.g3.ex;let ⟨_,g_KEYS⟩:=Z.g2.ex;Qh (Qw 3 sc_with_kid.nd (JG (Qa 0) (Q7 rfl g_KEYS))) (Qh (Qw 4 sc_with_kid.nd (JG (Qa 0) (Q7 rfl g_PARTS))) (Qh (Qw 5 sc_with_kid.nd (Q0 (Jg Z) hr (by decide) QD (Qd (Qa 3) (Qd (Qa 1) Qm)))) (Qh (Qw 6 sc_with_kid.nd (Qz JD (Qa 5) Qp)) (Qq (Qt (Q0 (xb Z) hr (by decide) QD (Qd (Qa 0) (Qd (Qz JD (Qz JD (Y7 (Qa 3) JR (JS (Qa 5))) (Zm (Qd (Qa 1) Qm))) (Y7 (Qa 3) (JS (Qa 5)) JR)) (Qd (Qz JD (Qz JD (Y7 (Qa 4) JR (JS (Qa 6))) (Zm (Qd (Qa 2) Qm))) (Y7 (Qa 4) (JS (Qa 6)) JR)) Qm)))))))))
theorem jx:Xh P w K mg O8 "Walk" "tell_fork" 4 3 Xx:=hM Z.u31 sc_Walk_tell_fork λ_ _ _ _ _ _ _ hr=>Qh (Qw 3 sc_Walk_tell_fork.nd (Q1 (qK Z) hr (by decide) QD (Qa 0) (Qd (Qa 1) (Qd (Q0 (K2 Z) hr (by decide) QD (Qd (Qa 2) (Qd (Qu Z.k14 (Qa 0)) (Qd (Qu Z.k10 (Qa 0)) Qm)))) Qm)))) (Qq (Qt (Zm (Qd ZZ (Qd (Qa 1) (Qd (Qa 3) Qm))))))
def zm:Xh P w K mg O8 "Walk" "go_on" 1 4 JN:=hM Z.u32 UV λ_ _ _ _ _ _ _ hr=>Qh (Za Z.k12 (Qa 0) (Qa 3)) (Qq (Qt (Zm (Qd (Qa 1) (Qd (Qa 2) (Qd (Qa 3) Qm))))))
theorem vo:Has P w K mg O8 "kid_for" 2 2 Y4:=hf Z.u33 gt λ_ _ _ _ _ _ _ hr=>let ⟨_,g_PARTS⟩:=Z.g3.ex;let ⟨_,g_KEYS⟩:=Z.g2.ex;Qq (Qt (JG (JG (Qa 0) (Q7 rfl g_PARTS)) (Q0 (Jg Z) hr (by decide) QD (Qd (JG (Qa 0) (Q7 rfl g_KEYS)) (Qd (Qa 1) Qm)))))
def uJ:Has P w K mg O8 "beyond" 1 2 YZ:=hf Z.u34 sc_beyond λ_ _ _ _ _ _ _ hr=>let ⟨_,g_HIGH⟩:=Z.g1.ex;Qh (Qw 2 sc_beyond.nd (JG (Qa 0) (Q7 rfl g_HIGH))) (Qq (Qt (uE (XC Kl (Qa 2) Zl (QJ _)) (Vv (XC QhT (Qa 1) (Qa 2) (QJ _))))))
theorem zj:Xh P w K mg O8 "Shelf" "raise_root" 2 3 ZY:=hM Z.u35 sc_Shelf_raise_root λ_ _ _ _ _ _ _ hr=>let ⟨_,g_LEVEL⟩:=Z.g4.ex;Qh (Je (Q1 (Jn Z) hr (by decide) QD (Qa 0) (Qd (Qa 2) Qm))) (Qh (Qw 3 sc_Shelf_raise_root.nd (Qz JD (QE (QO hr) (QE (QO hr) (Qu Z.k0 (Qa 0)) (Qu Z.k1 (Qa 0))) (Q7 rfl g_LEVEL)) Qp)) (Qh (Za Z.k1 (Qa 0) (Q1 (jg Z) hr (by decide) QD (Qa 0) (Qd (Zm (Qd (Qa 3) (Qd (Zm (Qd (Qa 1) Qm)) (Qd (Zm (Qd (Qu Z.k1 (Qa 0)) (Qd (Qa 2) Qm))) (Qd Zl (Qd Zl Qm)))))) Qm))) (Qq (Qt (Qu Z.k1 (Qa 0))))))
theorem YT:Xh P w K mg O8 "Walk" "raise_root_over" 3 2 ZQ:=hM Z.u36 qj λ_ _ _ _ _ _ _ hr=>Qh (Za Z.k7 (Qa 0) Xi) (Qq (Qt (Zm (Qd ZZ (Qd (Qa 1) (Qd (Q1 (zj Z) hr (by decide) QD (Qu Z.k16 (Qa 0)) (Qd (Qu Z.k14 (Qa 0)) (Qd (Qu Z.k10 (Qa 0)) Qm))) Qm))))))
theorem UH:Xh P w K mg O8 "Walk" "step" 6 1 Yy:=hM Z.u37 sc_Walk_step λ_ _ _ _ _ _ _ hr=>let ⟨_,g_LEVEL⟩:=Z.g4.ex;let ⟨_,g_SIDE⟩:=Z.g0.ex;Qh (Zu (zg (Qu Z.k7 (Qa 0))) (Qq (Qt Zl)) QR) (Qh (Qw 1 sc_Walk_step.nd (Qfg (QV UN (Qu Z.k12 (Qa 0)) Zl (QJ _)) (Z8 (Yo Z) hr (by decide) QD (Qu Z.k16 (Qa 0))) (Qu Z.k12 (Qa 0)))) (Qh (Qw 2 sc_Walk_step.nd (Q1 (Z0 Z) hr (by decide) QD (Qu Z.k16 (Qa 0)) (Qd (Qa 1) Qm))) (Qh (Zu (DW.pt (KS (QV UN (Qu Z.k12 (Qa 0)) Zl (QJ _)) (Vf (QV Vc (QE (QO hr) (Qa 2) (Q7 rfl g_LEVEL)) (Qu Z.k13 (Qa 0)) (QJ _))))) (Qq (Qt (Q1 (YT Z) hr (by decide) QD (Qa 0) (Qd (Qa 1) Qm)))) QR) (Qh (Zu (zg (Q0 (uJ Z) hr (by decide) QD (Qd (Qa 2) (Qd (Qu Z.k14 (Qa 0)) Qm)))) (Qq (Qt (Q1 (zm Z) hr (by decide) QD (Qa 0) (Qd ZZ (Qd (Qa 1) (Qd (QE (QO hr) (Qa 2) (Q7 rfl g_SIDE)) Qm)))))) QR) (Qh (Zu (QV Gk (QE (QO hr) (Qa 2) (Q7 rfl g_LEVEL)) (Qu Z.k13 (Qa 0)) (QJ _)) (Qh (Vz (Qa 1) (Vy (QO hr) (Qu Z.k11 (Qa 0)) (QE (QO hr) (Qa 2) (Q7 rfl g_LEVEL)))) (Qq (Qt (Q1 (zm Z) hr (by decide) QD (Qa 0) (Qd ZZ (Qd (Qa 1) (Qd (Q0 (vo Z) hr (by decide) QD (Qd (Qa 2) (Qd (Qu Z.k14 (Qa 0)) Qm))) Qm))))))) QR) (Qh (Zu (QV Gk (Qu Z.k13 (Qa 0)) Qp (QJ _)) (Qq (Qt (Q1 (jx Z) hr (by decide) QD (Qa 0) (Qd (Qa 1) (Qd (Qa 2) Qm))))) QR) (Qq (Qt (Q1 (x6 Z) hr (by decide) QD (Qa 0) (Qd (Qa 1) (Qd (Qa 2) Qm)))))))))))
theorem zn:Xh P w K mg O8 "Weaver" "step_walk" 7 2 J7:=hM Z.u38 sc_Weaver_step_walk λ_ _ _ _ _ _ _ hr=>Qh (Qw 2 sc_Weaver_step_walk.nd (QE (QO hr) (Qu Z.k6 (Qa 0)) (Qa 1))) (Qh (Qw 3 sc_Weaver_step_walk.nd (QE (QO hr) (Qa 2) Qp)) (Qh (Qw 4 sc_Weaver_step_walk.nd (Z8 (UH Z) hr (by decide) QD (Qa 3))) (Qh (Zu (zg (Z8 (UE Z) hr (by decide) QD (Qa 3))) (Qh (Vz Zl (Vy (QO hr) (Qu Z.k6 (Qa 0)) (Qa 1))) (Qq (Je (jt zt PySem.F.plainAttrs_list PySem.F.slot_list_append PySem.F.type_list_append (Qu Z.k19 (Qa 0)) (Qd (Qa 2) Qm))))) QR) (Qq (Qt (Qz JD (Zm (Qd (QE (QO hr) (Qa 4) Qp) (Qd (Qa 1) (Qd (QE (QO hr) (Qa 2) Qp) Qm)))) (Y7 (Qa 4) (JS Qp) JR)))))))
theorem qL:Xh P w K mg O8 "Weaver" "move" 8 2 ZC:=hM Z.u39 Uc λ_ _ _ _ _ _ _ hr=>Qh (Zu (ze (VA Qej Vc Qp (Qa 1) (ZR JE Z.z0 PySem.boot_len (Qd (Qu Z.k6 (Qa 0)) Qm)))) (Qq ku) QR) (Qh (Zu (QV Kl (QE (QO hr) (Qu Z.k6 (Qa 0)) (Qa 1)) Zl (QJ _)) (Qq (Qt (Q1 (zn Z) hr (by decide) QD (Qa 0) (Qd (Qa 1) Qm)))) QR) (Qh (Zu (QV Vc (Qu Z.k4 (Qa 0)) (ZR JE Z.z0 PySem.boot_len (Qd (Qu Z.k5 (Qa 0)) Qm)) (QJ _)) (Qq (Qt (Q1 (zo Z) hr (by decide) QD (Qa 0) (Qd (Qa 1) Qm)))) QR) (Qq (Qt (Zm (Qd ZZ (Qd (Qa 1) Qm)))))))
theorem YD:Xh P w K mg O8 "Weaver" "finish" 9 1 Jq:=hM Z.u40 sc_Weaver_finish λ_ _ _ _ _ _ _ hr=>Qh (Qw 1 sc_Weaver_finish.nd (zM Qm)) (Qh (Qw 2 sc_Weaver_finish.nd Qp) (Qh (va 100000 PassesOwn.never (ze (zg (Z8 (y8 Z) hr (by decide) QD (Qa 0)))) (Qh (Je (jt zt PySem.F.plainAttrs_list PySem.F.slot_list_append PySem.F.type_list_append (Qa 1) (Qd (Q1 (qL Z) hr (by decide) QD (Qa 0) (Qd (Qa 2) Qm)) Qm))) (Qq (Qw 2 sc_Weaver_finish.nd (Qz qd (Qz JD (Qa 2) Qp) (ZR JE Z.z0 PySem.boot_len (Qd (Qu Z.k6 (Qa 0)) Qm))))))) (Qq (Qt (Qa 1)))))
def Yp:Xh P w K mg O8 "Weaver" "hand_in" 1 2 ZW:=hM Z.u41 xC λ_ _ _ _ _ _ _ hr=>Qh (Je (jt zt PySem.F.plainAttrs_list PySem.F.slot_list_append PySem.F.type_list_append (Qu Z.k5 (Qa 0)) (Qd (Qa 1) Qm))) (Qq (Qt (Qz jh (ZR JE Z.z0 PySem.boot_len (Qd (Qu Z.k5 (Qa 0)) Qm)) Qp)))
def zp:Has P w K mg O8 "_law_key" 1 1 Xy:=hf Z.u42 sc_law_key λ_ _ _ _ _ _ _ hr=>Qh (Qw 1 sc_law_key.nd (Qz xq (Qa 0) Qp)) (Qh (Zu (QV (Qa4 hr.units) (Qz qd (Qa 0) Qp) Qp (QJ _)) (Qq (Qt (Qz jh (Qz qd (Qz Qgl (Qa 1) (Qz yI Qp Qp)) (Qz JD (Qz Qfv Qp (Qz yI Qp Qp)) Qp)) (Qz yI Qp Qp)))) QR) (Qh (Zu (QV (Qa4 hr.units) (Qz qd (Qa 0) Qp) Qp (QJ _)) (Qq (Qt (JG (js (Qd (Qz yI Qp Qp) (Qd (QbF (Qz yI Qp Qp)) (Qd (Qz jh (Qz yI Qp Qp) Qp) (Qd (Qz jh Qp (Qz yI Qp Qp)) Qm))))) (Qz qd (Qa 1) Qp)))) QR) (Qq (Qt (Qz jh (Qz qd (Qa 1) Qp) Qp)))))
theorem K1:Has P w K mg O8 "_law_deed" 2 1 Yj:=hf Z.u43 sc_law_deed λ_ _ _ _ _ _ _ hr=>Qh (Qw 1 sc_law_deed.nd (Qz qd (Qa 0) Qp)) (Qh (Qw 2 sc_law_deed.nd (Q0 (zp Z) hr (by decide) QD (Qd (Qz xq (Qa 0) Qp) Qm))) (Qh (Zu (QV (Qa4 hr.units) (Qa 1) Qp (QJ _)) (Qq (Qt (Zm (Qd ZZ (Qd (Qa 2) Qm))))) QR) (Qh (Zu (QV Vc (Qa 1) Qp (QJ _)) (Qq (Qt (Zm (Qd ZZ (Qd (Qa 2) (Qd (Q0 (zp Z) hr (by decide) QD (Qd (Qz xq (Qa 0) Qp) Qm)) Qm)))))) QR) (Qh (Zu (QV Vc (Qa 1) Qp (QJ _)) (Qq (Qt (Zm (Qd ZZ (Qd (Qa 2) Qm))))) QR) (Qh (Qw 3 sc_law_deed.nd (Q0 (zp Z) hr (by decide) QD (Qd (Qz xq (Qa 0) Qp) Qm))) (Qh (Zu (QV (Qa4 hr.units) (Qa 3) (Qa 2) (QJ _)) (Qq (Qw 3 sc_law_deed.nd (Qz jh (Qa 2) Qp))) QR) (Qh (Zu (QV Vc (Qa 3) (QbF (Qz yI Qp Qp)) (QJ _)) (Qq (Qw 3 sc_law_deed.nd (Qz JD (Qa 2) Qp))) QR) (Qq (Qt (Zm (Qd ZZ (Qd (ZR (Qhm rfl) Z.z9 boot_min (Qd (Qa 2) (Qd (Qa 3) Qm))) (Qd (ZR (Qhl rfl) Z.z8 boot_max (Qd (Qa 2) (Qd (Qa 3) Qm))) Qm)))))))))))))
theorem UJ:Has P w K mg O8 "_law_ahead" 1 1 XL:=hf Z.u44 sc_law_ahead λ_ _ _ _ _ _ _ hr=>Qh (Qw 1 sc_law_ahead.nd (QE (QO hr) (js (Qd Qp (Qd Qp (Qd Qp (Qd Qp (Qd Qp Qm)))))) (Qz qd (Qz xq (Qa 0) Qp) Qp))) (Qq (Qt (qZ (caps:=["step"]) (idx:=[1]) ⟨by with_unfolding_all rfl,by decide +kernel,rfl,by decide +kernel,rfl,(by exact⟨rfl,trivial⟩),by with_unfolding_all rfl,(by exact⟨rfl,.inl rfl,⟨_,rfl⟩,(λh=>NameKind.noConfusion (Am (show some NameKind.cell=some NameKind.local from h))),trivial⟩),by decide⟩ rfl (jX (Yg rfl Z.z1 (Qd (Qz qd (Qa 0) Qp) Qm))) (λ_ _ _ _=>KQ) (λ_ _ _ _=>Zm (Qd ZZ (Qd (Qz jh (Qz qd (Qz Qfv (Qa 0) (Qa 1)) Qp) Qp) (Qd (Qz JD Qp (Qa 0)) Qm)))))))
def zZ:Qap P w K mg O8 "Weaver" 1 3 JB:=hI Z.u45 jD λ_ _ _ _ _ _ _ hr=>Qh (Za Z.k17 (Qa 0) (Qa 1)) (Qh (Za Z.k5 (Qa 0) (zM Qm)) (Qh (Za Z.k4 (Qa 0) Qp) (Qh (Za Z.k6 (Qa 0) (Qz Qgm (js (Qd Zl Qm)) (Qa 2))) (Qq (Za Z.k19 (Qa 0) (zM Qm))))))
def jw:Qap P w K mg O8 "Shelf" 1 2 Ji:=hI Z.u46 xB λ_ _ _ _ _ _ _ hr=>let ⟨_,g_EMPTY_LEAF,q_EMPTY_LEAF⟩:=Z.t0.ex;Qh (Za Z.k2 (Qa 0) (Qa 1)) (Qh (Za Z.k0 (Qa 0) (zM (Qd (QdO rfl g_EMPTY_LEAF q_EMPTY_LEAF) Qm))) (Qh (Za Z.k1 (Qa 0) Qp) (Qh (Za Z.k3 (Qa 0) Qp) (Qq (Za Z.k18 (Qa 0) Qp)))))
def Va:Has P w K mg O8 "_law_cell_at" 1 2 Jw:=hf Z.u47 Ue λ_ _ _ _ _ _ _ hr=>Qh (Zu (QV Vc (Qa 1) (ZR gY Z.z0 PySem.boot_len (Qd (Qa 0) Qm)) (QJ _)) (Qq (Qt (JG (Qa 0) (Qa 1)))) QR) (Qq (Qt Qp))
theorem law_fn{g:Addr}{fd:FuncData}(F:Fun K "law" "law" yN g fd):qW P w K mg O8 CX0 10 g fd ["script"] (spD K 1 GM):=Qhu F sc_law λ_ _ _ _ _ _ hr=>Qh (Qw 1 sc_law.nd (Q0 (Va Z) hr (by decide) QD (Qd (Qa 0) (Qd Qp Qm)))) (Qh (Qw 2 sc_law.nd (Qz JD Qp (Qz qd (Qa 1) Qp))) (Qh (Qw 3 sc_law.nd (KP (jw Z) hr (by decide) QD (Qd (Qz JD Qp (Qz qd (Qz xq (Qa 1) Qp) Qp)) Qm))) (Qh (Qw 4 sc_law.nd (KP (zZ Z) hr (by decide) QD (Qd (Qa 3) (Qd (Qa 2) Qm)))) (Qh (YB PassesOwn.never rfl (jW (Q0 (UJ Z) hr (by decide) QD (Qd (Qz xq (Qa 1) Qp) Qm))) (YA 5 sc_law.nd) (Qq (Je (Q1 (Yp Z) hr (by decide) QD (Qa 4) (Qd (Qa 5) Qm))))) (Qh (Je (Z8 (YD Z) hr (by decide) QD (Qa 4))) (Qh (Zu (ze (zg (Q0 (YU Z) hr (by decide) QD (Qd (Qa 3) (Qd Xi Qm))))) (Qq (Qt Xi)) QR) (Qh (YB PassesOwn.never rfl (jX (Yg rfl Z.z1 (Qd (ZR JE Z.z0 PySem.boot_len (Qd (Qa 0) Qm)) Qm))) (YA 6 sc_law.nd) (Qh (Zu (QV Vc (Qa 6) Qp (QJ _)) (Qq (Je (Q1 (Yp Z) hr (by decide) QD (Qa 4) (Qd (Q0 (K1 Z) hr (by decide) QD (Qd (QE (QO hr) (Qa 0) (Qa 6)) Qm)) Qm)))) QR) (Qh (Qw 7 sc_law.nd (Q1 (qL Z) hr (by decide) QD (Qa 4) (Qd (Qz qd (Qz xq (QE (QO hr) (Qa 0) (Qa 6)) Qp) (Qa 2)) Qm))) (Qq (Zu (DW.pt (KS (QV (Qfu (QO hr)) (QE (QO hr) (Qa 7) Qp) (Zm (Qd ZZ (Qd ZZ (Qd ZZ (Qd ZZ Qm))))) (by with_unfolding_all rfl)) (Vf (ze (zg (Q0 (YU Z) hr (by decide) QD (Qd (Qa 3) (Qd Xi Qm)))))))) (Qq (Qt Xi)) QR))))) (Qh (Je (Z8 (YD Z) hr (by decide) QD (Qa 4))) (Qq (Qt (Q0 (YU Z) hr (by decide) QD (Qd (Qa 3) (Qd Xi Qm)))))))))))))
end
def shF(r:Int)(k:Nat)(t a b:Int):List (Str×DV):=[("page_room", .int r),("kept", .ref k),("top", .int t),("read_count", .int a),("write_count", .int b)]
theorem Qdc(r:Int)(k:Nat)(t a b:Int):List.lookup ("page_room" : Str) (shF r k t a b)=some (DV.int r):=by rfl
theorem qk(r:Int)(k:Nat)(t a b:Int):List.lookup ("kept" : Str) (shF r k t a b)=some (DV.ref k):=by rfl
theorem Qah(r:Int)(k:Nat)(t a b:Int):List.lookup ("top" : Str) (shF r k t a b)=some (DV.int t):=by rfl
theorem Qfz(r:Int)(k:Nat)(t a b:Int):List.lookup ("write_count" : Str) (shF r k t a b)=some (DV.int b):=by rfl
theorem Qic(r:Int)(k:Nat)(t a b:Int):List.lookup ("read_count" : Str) (shF r k t a b)=some (DV.int a):=by rfl
theorem vY(r:Int)(k:Nat)(t a b c:Int):JJ ("write_count" : Str) (.int c) (shF r k t a b)=shF r k t a c:=by rfl
theorem Qda(r:Int)(k:Nat)(t a b c:Int):JJ ("read_count" : Str) (.int c) (shF r k t a b)=shF r k t c b:=by rfl
theorem Qdb(r:Int)(k:Nat)(t a b c:Int):JJ ("top" : Str) (.int c) (shF r k t a b)=shF r k c a b:=by rfl
def Vm(r:Int)(k:Nat)(t a b:Int):(shF r k t a b).length=5:=rfl
theorem yu(r:Int)(k:Nat)(t a b:Int):List.lookup ("check_number" : Str) (shF r k t a b)=none:=by rfl
theorem Ku(r:Int)(k:Nat)(t a b:Int):List.lookup ("lay" : Str) (shF r k t a b)=none:=by rfl
theorem Ug(r:Int)(k:Nat)(t a b:Int):List.lookup ("read" : Str) (shF r k t a b)=none:=by rfl
theorem zG(r:Int)(k:Nat)(t a b:Int):List.lookup ("write" : Str) (shF r k t a b)=none:=by rfl
theorem jH(r:Int)(k:Nat)(t a b:Int):List.lookup ("root" : Str) (shF r k t a b)=none:=by rfl
theorem vW(r:Int)(k:Nat)(t a b:Int):List.lookup ("raise_root" : Str) (shF r k t a b)=none:=by rfl
theorem vX(r:Int)(k:Nat)(t a b:Int):List.lookup ("room" : Str) (shF r k t a b)=none:=by rfl
theorem yS(r:Int)(k:Nat)(t a b:Int):List.lookup ("pages" : Str) (shF r k t a b)=none:=by rfl
section
variable{r t a b:Int}{n k:Nat}{ps:List DV}{hp:Hs}
theorem vI(h1:hp[n]?=some (.ins "Shelf" (shF r k t a b)))(h2:hp[k]?=some (.lst ps)):Zr [.ref n] hp=some (.int ps.length,hp):=by
 simp[Zr,je,Q8,Qr,QA,QP,zD,sIf,Zi,V2,y6,V0,V1,Qk,Qb,eC,eB,asB,X5,eOr,Xe,Xv,Y8,Ym,eIf,qR,Qn,Qc,ZE,Xl,QH,Zd,Qy,gN,Jr,JM,ZJ,JC,JW,JT,JI,qN,zB,VX,Z9,Xp,ZK,Q6,X2,Gx,Yb,gSb,yp,Xd,X0,QC,ju,jF,onI,onL,onD,ZG,X7,xj,YF,ixG,Z4,qC,jb,Yw,za,asI,qX,GG,Qv,Xm,Xo,Xn,jY,evP,JK,X9,run_pure,Xr,JX,X8,run_set,Ya,Zo,QI,Jm,h1,h2,qk]
theorem Gu(h1:hp[n]?=some (.ins "Shelf" (shF r k t a b))):Zh [.ref n] hp=some (.int t,hp):=by
 simp[Zh,jP,Q8,Qr,QA,QP,zD,sIf,Zi,V2,y6,V0,V1,Qk,Qb,eC,eB,asB,X5,eOr,Xe,Xv,Y8,Ym,eIf,qR,Qn,Qc,ZE,Xl,QH,Zd,Qy,gN,Jr,JM,ZJ,JC,JW,JT,JI,qN,zB,VX,Z9,Xp,ZK,Q6,X2,Gx,Yb,gSb,yp,Xd,X0,QC,ju,jF,onI,onL,onD,ZG,X7,xj,YF,ixG,Z4,qC,jb,Yw,za,asI,qX,GG,Qv,Xm,Xo,Xn,jY,evP,JK,X9,run_pure,Xr,JX,X8,run_set,Ya,Zo,QI,Jm,h1,Qah]
theorem Qae(h1:hp[n]?=some (.ins "Shelf" (shF r k t a b))):ZP [.ref n] hp=some (.int r,hp):=by
 simp[ZP,jO,Q8,Qr,QA,QP,zD,sIf,Zi,V2,y6,V0,V1,Qk,Qb,eC,eB,asB,X5,eOr,Xe,Xv,Y8,Ym,eIf,qR,Qn,Qc,ZE,Xl,QH,Zd,Qy,gN,Jr,JM,ZJ,JC,JW,JT,JI,qN,zB,VX,Z9,Xp,ZK,Q6,X2,Gx,Yb,gSb,yp,Xd,X0,QC,ju,jF,onI,onL,onD,ZG,X7,xj,YF,ixG,Z4,qC,jb,Yw,za,asI,qX,GG,Qv,Xm,Xo,Xn,jY,evP,JK,X9,run_pure,Xr,JX,X8,run_set,Ya,Zo,QI,Jm,h1,Qdc]
theorem Vs{i:Int}(h1:hp[n]?=some (.ins "Shelf" (shF r k t a b)))(h2:hp[k]?=some (.lst ps))(i0:0<=i)(i1:i < ps.length):
  Zn [.ref n,.int i] hp=some (.non,hp):=by
 have q0:¬ i < 0:=by lia
 have q1:¬ (ps.length:Int)<=i:=by lia
 simp[Zn,XM,Q8,Qr,QA,QP,zD,sIf,Zi,V2,y6,V0,V1,Qk,Qb,eC,eB,asB,X5,eOr,Xe,Xv,Y8,Ym,eIf,qR,Qn,Qc,ZE,Xl,QH,Zd,Qy,gN,Jr,JM,ZJ,JC,JW,JT,JI,qN,zB,VX,Z9,Xp,ZK,Q6,X2,Gx,Yb,gSb,yp,Xd,X0,QC,ju,jF,onI,onL,onD,ZG,X7,xj,YF,ixG,Z4,qC,jb,Yw,za,asI,qX,GG,Qv,Xm,Xo,Xn,jY,evP,JK,X9,run_pure,Xr,JX,X8,run_set,Ya,Zo,QI,Jm,Xk,h1,h2,qk,i0,i1,q0,q1]
theorem Qaa{i:Nat}(h1:hp[n]?=some (.ins "Shelf" (shF r k t a b)))(h2:hp[k]?=some (.lst ps))(hnk:n≠k)(hd:ps[i]?=some d):
  QN [.ref n,.int i] hp=some (d,hp.set n (.ins "Shelf" (shF r k t (a+1) b))):=by
 have i1:i < ps.length:=(Ad.mp hd).1;have c:=Vs (i:=(i:Int)) h1 h2 (by lia) (by lia)
 have hd':=Yz hd;simp[QN,jN,Q8,Qr,QA,QP,zD,sIf,Zi,V2,y6,V0,V1,Qk,Qb,eC,eB,asB,X5,eOr,Xe,Xv,Y8,Ym,eIf,qR,Qn,Qc,ZE,Xl,QH,Zd,Qy,gN,Jr,JM,ZJ,JC,JW,JT,JI,qN,zB,VX,Z9,Xp,ZK,Q6,X2,Gx,Yb,gSb,yp,Xd,X0,QC,ju,jF,onI,onL,onD,ZG,X7,xj,YF,ixG,Z4,qC,jb,Yw,za,asI,qX,GG,Qv,Xm,Xo,Xn,jY,evP,JK,X9,run_pure,Xr,JX,X8,run_set,Ya,Zo,QI,Jm,h1,h2,c,qk,Qic,Qda,Vm,yu,hd',hnk,hnk.symm]
theorem Us{i:Nat}{d:DV}(h1:hp[n]?=some (.ins "Shelf" (shF r k t a b)))(h2:hp[k]?=some (.lst ps))(hnk:n≠k)(i1:i < ps.length):
  Jv [.ref n,.int i,d] hp=some (.non,(hp.set n (.ins "Shelf" (shF r k t a (b+1)))).set k (.lst (ps.set i d))):=by
 have c:=Vs (i:=(i:Int)) h1 h2 (by lia) (by lia)
 simp[Jv,jf,Q8,Qr,QA,QP,zD,sIf,Zi,V2,y6,V0,V1,Qk,Qb,eC,eB,asB,X5,eOr,Xe,Xv,Y8,Ym,eIf,qR,Qn,Qc,ZE,Xl,QH,Zd,Qy,gN,Jr,JM,ZJ,JC,JW,JT,JI,qN,zB,VX,Z9,Xp,ZK,Q6,X2,Gx,Yb,gSb,yp,Xd,X0,QC,ju,jF,onI,onL,onD,ZG,X7,xj,YF,ixG,Z4,qC,jb,Yw,za,asI,qX,GG,Qv,Xm,Xo,Xn,jY,evP,JK,X9,run_pure,Xr,JX,X8,run_set,Ya,Zo,QI,Jm,h1,h2,c,qk,Qfz,vY,Vm,yu,hnk,hnk.symm,kK i1]
theorem Qcf{pg:DV}(h1:hp[n]?=some (.ins "Shelf" (shF r k t a b)))(h2:hp[k]?=some (.lst ps))(hnk:n≠k)(hl:ps.length < 99999):
  XI [.ref n,pg] hp=some (.int ps.length,(hp.set n (.ins "Shelf" (shF r k t a (b+1)))).set k (.lst (ps++[pg]))):=by
 have hlim:ps.length < lim:=by unfold lim;lia
 simp[XI,yz,Q8,Qr,QA,QP,zD,sIf,Zi,V2,y6,V0,V1,Qk,Qb,eC,eB,asB,X5,eOr,Xe,Xv,Y8,Ym,eIf,qR,Qn,Qc,ZE,Xl,QH,Zd,Qy,gN,Jr,JM,ZJ,JC,JW,JT,JI,qN,zB,VX,Z9,Xp,ZK,Q6,X2,Gx,Yb,gSb,yp,Xd,X0,QC,ju,jF,onI,onL,onD,ZG,X7,xj,YF,ixG,Z4,qC,jb,Yw,za,asI,qX,GG,Qv,Xm,Xo,Xn,jY,evP,JK,X9,run_pure,Xr,JX,X8,run_set,Ya,Zo,QI,Jm,h1,h2,qk,Qfz,vY,Vm,hlim,hnk,hnk.symm]
end
def Zf(l:Int)(ks ps:List Int)(hi sd:Option Int):DV:=.tup [.int l,.tup (ks.map .int),.tup (ps.map .int),opt hi,opt sd]
def hiB(hi:Option Int)(k:Int):Bool:=match hi with
 | none=>false
 | some h=>decide (h<=k)
def cLe(ks:List Int)(k:Int):Nat:=(ks.filter λx=>decide (x<=k)).length
def cLt(ks:List Int)(k:Int):Nat:=(ks.filter λx=>decide (x < k)).length
def XB(ks:List Int)(k:Int):cLe ks k<=ks.length:=Cb _ _
def xU(ks:List Int)(k:Int):cLt ks k<=ks.length:=Cb _ _
theorem QgW{f:DEx}(hf:f env hp=some (.tup ds,hp)):iTp f env hp=some (ds,hp):=by
 unfold iTp;rw[Qf hf];rfl
theorem QbB{t:DTx}{p:Int->Bool}(ks:List Int)(k:Int)(hl:ks.length<=100)(ht:∀x hp,t [.val (.int x),.val (.int k)] hp=some (p x,hp))(hp:Hs):Zd Z4 (Qc (J1 false (xOf (iTp (Qb 0))) [1] t (Qb 0)) Qn) [.val (.tup (ks.map .int)),.val (.int k)] hp=some (.int (ks.filter p).length,hp):=by
 have q:J1 false (xOf (iTp (Qb 0))) [1] t (Qb 0) [.val (.tup (ks.map .int)),.val (.int k)] hp=some (.lst (((ks.filter p).map λx=>x).map .int),hp):=by
  unfold J1;rw[Qf (jJ (QgW (ds:=ks.map .int) (Qe rfl)))];exact(Qf (uB (p:=p) (g:=λx=>x) ks (λi hi=>zA (ks.map .int) i (by rw[Bt];exact hi) hp) (λx=>ht x hp) (λx=>rfl) (by lia))).trans rfl
 rw[XA (Zq q) (Qcj ..),Bt,Bt]
def KM(ks:List Int)(k:Int)(hl:ks.length<=100):Zs [.tup (ks.map .int),.int k]=pure (.int (cLe ks k)):=gW λhp=>QF (env:=[.val (.tup (ks.map .int)),.val (.int k)]) (QM (QbB ks k hl (λ_ _=>rfl) hp))
def Qff(ks:List Int)(k:Int)(hl:ks.length<=100):XF [.tup (ks.map .int),.int k]=pure (.int (cLt ks k)):=gW λhp=>QF (env:=[.val (.tup (ks.map .int)),.val (.int k)]) (QM (QbB ks k hl (λ_ _=>rfl) hp))
theorem Qav(l:Int)(ks ps:List Int)(hi sd:Option Int)(k:Int):YZ [Zf l ks ps hi sd,.int k]=pure (.bl (hiB hi k)):=by
 cases hi<;>rfl
theorem Qf3(l:Int)(ks ps:List Int)(hi sd:Option Int)(k:Int)(hl:ks.length<=100)(hp:ps.length=ks.length+1):Y4 [Zf l ks ps hi sd,.int k]=pure (.int (ps.getD (cLe ks k) 0)):=by
 have h:=XB ks k;have a:=KH ps (i:=(cLe ks k:Int)) (by lia) (by lia)
 rw[B7] at a;refine YG (Yc (zO (x:=.tup (ps.map .int)) (y:=.int (cLe ks k)) rfl (x3 (x:=.tup (ks.map .int)) (y:=.int k) rfl rfl (KM ks k hl)) ?_))<;>try exact[]
 simp[ixD,a]
theorem Qdu(l:Int)(ks ps:List Int)(hi sd:Option Int)(k:Int)(hl:ks.length<=100)(hp:ps.length=ks.length):J8 [Zf l ks ps hi sd,.int k]=pure (if cLt ks k=cLe ks k then .non else .int (ps.getD (cLt ks k) 0)):=by
 have h:=XB ks k;have hlt:=xU ks k;refine YG (env:=[.val (Zf l ks ps hi sd),.val (.int k),.val (.tup (ks.map .int)),.val (.int (cLt ks k))]) ?_;refine(ZS (Z3 (d:=.tup (ks.map .int)) rfl)).trans ?_;refine(ZS (Z3 (d:=.int (cLt ks k)) (x3 (x:=.tup (ks.map .int)) (y:=.int k) rfl rfl (Qff ks k hl)))).trans ?_;have tst:eB (Qk eqD (Qb 3) (QH 2 Zs (Qc (Qb 2) (Qc (Qb 1) Qn)))) [.val (Zf l ks ps hi sd),.val (.int k),.val (.tup (ks.map .int)),.val (.int (cLt ks k))]=pure (decide (cLt ks k=cLe ks k)):=by
  refine Qhq (zO (x:=.int (cLt ks k)) (y:=.int (cLe ks k)) rfl (x3 (x:=.tup (ks.map .int)) (y:=.int k) rfl rfl (KM ks k hl)) ?_);rw[Z9];congr 2;rw[Bool.eq_iff_iff];simp only[beq_iff_eq,decide_eq_true_eq];lia
 by_cases hc:cLt ks k=cLe ks k
 ·rw[Ec hc]
  exact QeN ((Qia (tst.trans (by simp[hc]))).trans (Yc rfl))
 ·rw[Eb hc]
  refine(ZS ((Qh9 (tst.trans (by simp[hc]))).trans rfl)).trans ?_
  have hlt2:cLt ks k < ks.length:=by
   have:cLt ks k<=cLe ks k:=by
    unfold cLt cLe;rw[<- List.countP_eq_length_filter,<- List.countP_eq_length_filter];exact List.countP_mono_left λx _ hx=>by simp at hx ⊢;lia
   lia
  have a:=KH ps (i:=(cLt ks k:Int)) (by lia) (by lia)
  rw[B7] at a;exact Yc (zO (x:=.tup (ps.map .int)) (y:=.int (cLt ks k)) rfl rfl (by simp[ixD,a]))
theorem QbO{F:Et}{f f' f'' f3:DEx}(h:f env=pure x)(h':f' env=pure y)(h'':f'' env=pure z)(h3:f3 env=pure u)(hF:F [x,y,z,u]=pure d):QH 4 F (Qc f (Qc f' (Qc f'' (Qc f3 Qn)))) env=pure d:=by simp[QH,Qc,Qn,h,h',h'',h3,Qy,hF]
def yJ(l:Int)(ks ps:List Int)(hi sd:Option Int)(a b:DV):qr [Zf l ks ps hi sd,a,b]=pure (.tup [.int l,a,b,opt hi,opt sd]):=rfl
theorem runs(ks ns:List Int)(a b:Nat)(h:ks.length<=1000)(hn:ns.length<=10):(do let x <- slD (.tup (ks.map .int)) none (some (a:Int));let y <- ZL x (.tup (ns.map .int));let d <- slD (.tup (ks.map .int)) (some (b:Int)) none;ZL y d:M DV)=pure (.tup ((ks.take a++ns++ks.drop b).map .int)):=by
 rw[Ui,Uh];simp only[Ej,ZL];rw[Xb (by simp;lia)]
 simp only[Qy,if_true,Ej];rw[Xb (by simp;lia)]
 simp[List.map_take,List.map_drop]
theorem Qfk{f g h q:DEx}{ks ns:List Int}{a b:Nat}(hf:f env=pure (.tup (ks.map .int)))(hg:g env=pure (.int (a:Int)))(hh:h env=pure (.int (b:Int)))(hq:q env=pure (.tup (ns.map .int)))(hl:ks.length<=1000)(hn:ns.length<=10):Qk ZL (Qk ZL (eSl f ZN (ZO g)) q) (eSl f (ZO h) ZN) env=pure (.tup ((ks.take a++ns++ks.drop b).map .int)):=by
 have e1:eSl f ZN (ZO g) env=slD (.tup (ks.map .int)) none (some (a:Int)):=by simp only[eSl,hf,hg,ZN,ZO,asI,Ej]
 have e2:eSl f (ZO h) ZN env=slD (.tup (ks.map .int)) (some (b:Int)) none:=by simp only[eSl,hf,hh,ZN,ZO,asI,Ej]
 rw[<- runs ks ns a b hl hn];simp only[Qk,e1,e2,hq,Ej,bind_assoc]
theorem yU(l:Int)(ks ps nk nw:List Int)(hi sd:Option Int)(k:Int)(hl:ks.length<=100)(hp:ps.length<=100)(h1:nk.length<=10)(h2:nw.length<=10):qu [Zf l ks ps hi sd,.int k,.tup (nk.map .int),.tup (nw.map .int)]=pure (Zf l (ks.take (cLt ks k)++nk++ks.drop (cLe ks k)) (ps.take (cLt ks k)++nw++ps.drop (cLe ks k)) hi sd):=by
 refine YG (env:=[.val (Zf l ks ps hi sd),.val (.int k),.val (.tup (nk.map .int)),.val (.tup (nw.map .int)),.val (.tup (ks.map .int)),.val (.tup (ps.map .int)),.val (.int (cLt ks k:Int)),.val (.int (cLe ks k:Int))]) ?_;refine(ZS (Z3 (d:=.tup (ks.map .int)) rfl)).trans ?_;refine(ZS (Z3 (d:=.tup (ps.map .int)) rfl)).trans ?_;refine(ZS (Z3 (d:=.int (cLt ks k:Int)) (x3 (x:=.tup (ks.map .int)) (y:=.int k) rfl rfl (Qff ks k hl)))).trans ?_;refine(ZS (Z3 (d:=.int (cLe ks k:Int)) (x3 (x:=.tup (ks.map .int)) (y:=.int k) rfl rfl (KM ks k hl)))).trans ?_;exact Yc (QbN (x:=Zf l ks ps hi sd) rfl (Qfk rfl rfl rfl rfl (by lia) h1) (Qfk rfl rfl rfl rfl (by lia) h2) (yJ l ks ps hi sd _ _))
def uL(ks:List Int)(c:Nat)(k:Int):List Int:=ks.take c++k::ks.drop c
theorem QgO(ks:List Int)(c:Nat)(k:Int)(h:ks.length<=1000):(do let a <- slD (.tup (ks.map .int)) none (some (c:Int));let b <- ZL a (.tup [.int k]);let d <- slD (.tup (ks.map .int)) (some (c:Int)) none;ZL b d:M DV)=pure (.tup ((uL ks c k).map .int)):=by
 rw[Ui,Uh];simp only[Ej,ZL];rw[Xb (by simp;lia)]
 simp only[Qy,if_true,Ej];rw[Xb (by simp;lia)]
 simp[uL,List.map_take,List.map_drop]
theorem kz{f g h:DEx}{ks:List Int}{c:Nat}{k:Int}(hf:f env=pure (.tup (ks.map .int)))(hg:g env=pure (.int (c:Int)))(hk:h env=pure (.int k))(hl:ks.length<=1000):Qk ZL (Qk ZL (eSl f ZN (ZO g)) (ZE (Qc h Qn))) (eSl f (ZO g) ZN) env=pure (.tup ((uL ks c k).map .int)):=by
 have e1:eSl f ZN (ZO g) env=slD (.tup (ks.map .int)) none (some (c:Int)):=by simp only[eSl,hf,hg,ZN,ZO,asI,Ej]
 have e2:eSl f (ZO g) ZN env=slD (.tup (ks.map .int)) (some (c:Int)) none:=by simp only[eSl,hf,hg,ZN,ZO,asI,Ej]
 have e3:ZE (Qc h Qn) env=pure (.tup [.int k]):=by
  simp only[ZE,Qc,Qn,hk,Ej];rfl
 rw[<- QgO ks c k hl];simp only[Qk,e1,e2,e3,Ej,bind_assoc]
theorem QaQ(l:Int)(ks ps:List Int)(hi sd:Option Int)(k kid:Int)(hl:ks.length<=100)(hp:ps.length<=1000):qt [Zf l ks ps hi sd,.int k,.int kid]=pure (Zf l (uL ks (cLe ks k) k) (uL ps (cLe ks k+1) kid) hi sd):=by
 refine YG (env:=[.val (Zf l ks ps hi sd),.val (.int k),.val (.int kid),.val (.tup (ks.map .int)),.val (.tup (ps.map .int)),.val (.int (cLe ks k:Int)),.val (.int ((cLe ks k:Int)+1))]) ?_;refine(ZS (Z3 (d:=.tup (ks.map .int)) rfl)).trans ?_;refine(ZS (Z3 (d:=.tup (ps.map .int)) rfl)).trans ?_;refine(ZS (Z3 (d:=.int (cLe ks k:Int)) (x3 (x:=.tup (ks.map .int)) (y:=.int k) rfl rfl (KM ks k hl)))).trans ?_;refine(ZS (Z3 (d:=.int ((cLe ks k:Int)+1)) rfl)).trans ?_;refine Yc (QbN (x:=Zf l ks ps hi sd) (y:=.tup ((uL ks (cLe ks k) k).map .int)) (z:=.tup ((uL ps (cLe ks k+1) kid).map .int)) rfl ?_ ?_ (yJ l ks ps hi sd _ _))
 ·exact kz rfl rfl rfl (by lia)
 ·exact kz rfl (by show(pure (DV.int ((cLe ks k:Int)+1)):M DV)=_;rw[show((cLe ks k:Int)+1)=((cLe ks k+1:Nat):Int) by lia]) rfl hp
def Zk(l:Int)(n:Nat):Nat:=if l=0 then n / 2 else n / 2+1
def QcI(l:Int)(ks ps:List Int)(hi sd:Option Int)(num:Int):DV :=
 .tup [Zf l (ks.take (ks.length / 2)) (ps.take (Zk l ks.length)) (some (ks.getD (ks.length / 2) 0)) (some num),Zf l (ks.drop (Zk l ks.length)) (ps.drop (Zk l ks.length)) hi sd,.int (ks.getD (ks.length / 2) 0)]
theorem Qa6(l:Int)(ks ps:List Int)(hi sd:Option Int)(num:Int)(h3:3<=ks.length)(hl:ks.length<=100):jK [Zf l ks ps hi sd,.int num]=pure (QcI l ks ps hi sd num):=by
 have hm:((ks.length:Int)) / 2=((ks.length / 2:Nat):Int):=by lia
 have a:=KH ks (i:=((ks.length / 2:Nat):Int)) (by lia) (by lia)
 rw[B7] at a;have hcut:(if l=0 then DV.int ((ks.length / 2:Nat):Int) else .int (((ks.length / 2:Nat):Int)+1))=.int ((Zk l ks.length:Nat):Int):=by
  unfold Zk;split<;>simp
 generalize hC:Zk l ks.length=C at hcut;generalize hK:ks.getD (ks.length / 2) 0=kk at a;have e7:eIf (eB (Qk eqD (Qb 2) (eC (.int 0)))) (Qb 5) (Qk ZL (Qb 5) (eC (.int 1))) [.val (Zf l ks ps hi sd),.val (.int num),.val (.int l),.val (.tup (ks.map .int)),.val (.tup (ps.map .int)),.val (.int ((ks.length / 2:Nat):Int)),.val (.int kk),.un,.un,.un]=pure (.int (C:Int)):=by
  rw[<- hcut];by_cases q:l=0
  ·simp[eIf,eB,Qk,Qb,eC,Z9,asB,q]
  ·have:(l==0)=false:=by simpa using q
   simp[eIf,eB,Qk,Qb,eC,Z9,asB,q,this,Jr]
 unfold QcI;rw[hC,hK];refine YG (env:=[.val (Zf l ks ps hi sd),.val (.int num),.val (.int l),.val (.tup (ks.map .int)),.val (.tup (ps.map .int)),.val (.int ((ks.length / 2:Nat):Int)),.val (.int kk),.val (.int (C:Int)),.val (Zf l (ks.take (ks.length / 2)) (ps.take C) (some kk) (some num)),.val (Zf l (ks.drop C) (ps.drop C) hi sd)]) ?_;refine(ZS (Z3 (d:=.int l) rfl)).trans ?_;refine(ZS (Z3 (d:=.tup (ks.map .int)) rfl)).trans ?_;refine(ZS (Z3 (d:=.tup (ps.map .int)) rfl)).trans ?_;refine(ZS (Z3 (d:=.int ((ks.length / 2:Nat):Int)) ?_)).trans ?_
 ·refine zO (x:=.int (ks.length:Int)) (y:=.int 2) ?_ rfl ((Xj _ 2 (by decide) (by decide)).trans (by rw[hm]))
  show(pure (DV.int ((ks.map DV.int).length:Int)):M DV)=_;rw[Bt]
 refine(ZS (Z3 (d:=.int kk) (zO (x:=.tup (ks.map .int)) (y:=.int ((ks.length / 2:Nat):Int)) rfl rfl (Qd2 a)))).trans ?_;refine(ZS (Z3 (d:=.int (C:Int)) e7)).trans ?_;refine(ZS (Z3 (d:=Zf l (ks.take (ks.length / 2)) (ps.take C) (some kk) (some num)) ?_)).trans ?_
 ·have t1:=vf (f:=Qb 3) (g:=Qb 5) (env:=[.val (Zf l ks ps hi sd),.val (.int num),.val (.int l),.val (.tup (ks.map .int)),.val (.tup (ps.map .int)),.val (.int ((ks.length / 2:Nat):Int)),.val (.int kk),.val (.int (C:Int)),.un,.un]) (ds:=ks.map .int) (m:=ks.length / 2) rfl rfl
  have t2:=vf (f:=Qb 4) (g:=Qb 7) (env:=[.val (Zf l ks ps hi sd),.val (.int num),.val (.int l),.val (.tup (ks.map .int)),.val (.tup (ps.map .int)),.val (.int ((ks.length / 2:Nat):Int)),.val (.int kk),.val (.int (C:Int)),.un,.un]) (ds:=ps.map .int) (m:=C) rfl rfl;simp only[List.set_cons_succ,List.set_cons_zero,Bc,List.map_nil,Bb,List.length_nil,List.cons_append,List.nil_append,List.replicate,ZE,Qc,Qn,t1,t2,Ej];simp only[Zf,List.map_take,opt];rfl
 refine(ZS (Z3 (d:=Zf l (ks.drop C) (ps.drop C) hi sd) ?_)).trans ?_
 ·have t1:=ve (f:=Qb 3) (g:=Qb 7) (env:=[.val (Zf l ks ps hi sd),.val (.int num),.val (.int l),.val (.tup (ks.map .int)),.val (.tup (ps.map .int)),.val (.int ((ks.length / 2:Nat):Int)),.val (.int kk),.val (.int (C:Int)),.val (Zf l (ks.take (ks.length / 2)) (ps.take C) (some kk) (some num)),.un]) (ds:=ks.map .int) (m:=C) rfl rfl
  have t2:=ve (f:=Qb 4) (g:=Qb 7) (env:=[.val (Zf l ks ps hi sd),.val (.int num),.val (.int l),.val (.tup (ks.map .int)),.val (.tup (ps.map .int)),.val (.int ((ks.length / 2:Nat):Int)),.val (.int kk),.val (.int (C:Int)),.val (Zf l (ks.take (ks.length / 2)) (ps.take C) (some kk) (some num)),.un]) (ds:=ps.map .int) (m:=C) rfl rfl;simp only[List.set_cons_succ,List.set_cons_zero,Bc,List.map_nil,Bb,List.length_nil,List.cons_append,List.nil_append,List.replicate,ZE,Qc,Qn,t1,t2,Ej];simp only[Zf,List.map_drop];rfl
 exact Yc rfl
theorem XD(p:TR.Pg):pgD p=Zf p.lv p.ks p.ps p.hi (p.sd.map λn=>(n:Int)):=by
 unfold pgD Zf;cases p.sd<;>rfl
theorem Qa9(p:TR.Pg)(k:Int):YZ [pgD p,.int k]=pure (.bl (TR.JP p k)):=by
 rw[XD,Qav];unfold hiB TR.JP;cases p.hi<;>rfl
theorem Qgy(p:TR.Pg)(k c:Int)(hl:p.ks.length<=100)(hp:p.ps.length=p.ks.length+1)(hc:p.ps[TR.cLe p.ks k]?=some c):Y4 [pgD p,.int k]=pure (.int c):=by
 rw[XD,Qf3 _ _ _ _ _ _ hl hp];rw[Cq,show p.ps[cLe p.ks k]?=some c from hc];rfl
theorem QcO(p:TR.Pg)(k:Int)(hl:p.ks.length<=100)(hp:p.ps.length=p.ks.length):J8 [pgD p,.int k]=pure (opt (TR.QY p k)):=by
 rw[XD,Qdu _ _ _ _ _ _ hl hp];unfold TR.QY;by_cases h:cLt p.ks k=cLe p.ks k
 ·rw[Ec h,Ec (show TR.cLt p.ks k=TR.cLe p.ks k from h)];rfl
 ·rw[Eb h,Eb (show ¬ TR.cLt p.ks k=TR.cLe p.ks k from h)]
  have h1:=TR.KK p.ks k;have h2:=TR.XB p.ks k;have h3:¬ TR.cLt p.ks k=TR.cLe p.ks k:=h;rw[Cq,show p.ps[cLt p.ks k]?=some (p.ps[TR.cLt p.ks k]'(by lia)) from Ac _,Ac (show TR.cLt p.ks k < p.ps.length by lia)];rfl
theorem Qep(p:TR.Pg)(k x:Int)(hl:p.ks.length<=100)(hp:p.ps.length<=100):qV [pgD p,.int k,.int x]=pure (pgD (TR.QZ p k x)):=by
 have e:=yU p.lv p.ks p.ps [k] [x] p.hi (p.sd.map λn=>(n:Int)) k hl hp (by simp) (by simp)
 rw[XD,XD];refine YG (env:=[.val (Zf p.lv p.ks p.ps p.hi (p.sd.map λn=>(n:Int))),.val (.int k),.val (.int x)]) (Yc (QbO rfl rfl rfl rfl (e.trans ?_)));simp[TR.QZ,TR.cLt,TR.cLe,cLt,cLe]
theorem uZ(p:TR.Pg)(k:Int)(hl:p.ks.length<=100)(hp:p.ps.length<=100):xP [pgD p,.int k]=pure (pgD (TR.without p k)):=by
 have e:=yU p.lv p.ks p.ps [] [] p.hi (p.sd.map λn=>(n:Int)) k hl hp (by simp) (by simp)
 rw[XD,XD];refine YG (env:=[.val (Zf p.lv p.ks p.ps p.hi (p.sd.map λn=>(n:Int))),.val (.int k)]) (Yc (QbO rfl rfl rfl rfl (e.trans ?_)));simp[TR.without,TR.cLt,TR.cLe,cLt,cLe]
theorem uY(p:TR.Pg)(k:Int)(c:Nat)(hl:p.ks.length<=100)(hp:p.ps.length<=1000):qt [pgD p,.int k,.int c]=pure (pgD (TR.Zw p k c)):=by
 rw[XD,QaQ _ _ _ _ _ _ _ hl hp,XD];rfl
theorem Qeo(p:TR.Pg)(O2:Nat):Ye [pgD p,.int O2]=pure (.bl (decide (O2 < p.ks.length))):=by
 have e:(decide ((O2:Int) < ((p.ks.map DV.int).length:Int)))=decide (O2 < p.ks.length):=by
  rw[Bt];congr 1;rw[eq_iff_iff];lia
 refine YG (env:=[.val (pgD p),.val (.int O2)]) (Yc (zO (x:=.int ((p.ks.map DV.int).length:Int)) (y:=.int O2) rfl rfl ((ZJ _ _).trans ?_)));rw[<- e]
theorem Qba(p:TR.Pg)(n:Nat)(h3:3<=p.ks.length)(hl:p.ks.length<=100):jK [pgD p,.int n]=pure (.tup [pgD (TR.Q5 p n),pgD (TR.QU p),.int (TR.Xa p)]):=by
 rw[XD,Qa6 _ _ _ _ _ _ h3 hl];unfold QcI;rw[XD,XD];have hc:Zk p.lv p.ks.length=TR.Zk p:=by
  unfold Zk TR.Zk TR.mid;by_cases h:p.lv=0
  ·simp[h]
  ·rw[Eb h,Eb (by lia)]
 rw[hc];rfl
structure At(hp:Hs)(n k a f q:Nat)(S:TR.Sh)(w:TR.Wk):Prop where
 h1:hp[n]?=some (.ins "Shelf" (shF S.O2 k S.top S.rd S.wr))
 h2:hp[k]?=some (.lst (S.pg.map pgD))
 h3:hp[a]?=some (wkO n f q w)
 h4:hp[f]?=some (.dic (fkD w.O3))
 h5:hp[q]?=some (.lst (prD w.O5))
structure Dif(n k a f q:Nat):Prop where
 nk:n≠k
 na:n≠a
 nf:n≠f
 nq:n≠q
 ka:k≠a
 kf:k≠f
 kq:k≠q
 af:a≠f
 aq:a≠q
 fq:f≠q
def Fr(hp hp':Hs)(n k a f q:Nat):Prop:=hp.length<=hp'.length/\∀i,i < hp.length->i≠n->i≠k->i≠a->i≠f->i≠q->hp'[i]?=hp[i]?
section
variable{hp hp' hp2:Hs}{n k a f q:Nat}{S S':TR.Sh}{w w':TR.Wk}
def Fr.refl:Fr hp hp n k a f q:=⟨Ag _,λ_ _ _ _ _ _ _=>rfl⟩
def Fr.trans(x:Fr hp hp' n k a f q)(y:Fr hp' hp2 n k a f q):Fr hp hp2 n k a f q:=⟨Bk x.1 y.1,λi hi a1 a2 a3 a4 a5=>(y.2 i (Az hi x.1) a1 a2 a3 a4 a5).trans (x.2 i hi a1 a2 a3 a4 a5)⟩
def gs{n m:Nat}{Y:Option OV}(h:n≠m)(h':hp[m]?=Y):(hp.set n X)[m]?=Y:=(QI _ _ _ _ h).trans h'
theorem gss{n:Nat}(h':hp[n]?=some Y):(hp.set n X)[n]?=some X:=Zo _ _ _ (by rw[h'];rfl)
theorem At.walk(A:At hp n k a f q S w)(D:Dif n k a f q)(w':TR.Wk)(e1:w'.O3=w.O3)(e2:w'.O5=w.O5):At (hp.set a (wkO n f q w')) n k a f q S w'/\Fr hp (hp.set a (wkO n f q w')) n k a f q :=
 ⟨⟨gs D.na.symm A.h1,gs D.ka.symm A.h2,gss A.h3,gs D.af (by rw[e1];exact A.h4),gs D.aq (by rw[e2];exact A.h5)⟩,by simp,λi hi a1 a2 a3 a4 a5=>QI _ _ _ _ (Ne.symm a3)⟩
theorem At.shelf(A:At hp n k a f q S w)(D:Dif n k a f q)(S':TR.Sh)(e:S'.O2=S.O2):At ((hp.set n (.ins "Shelf" (shF S.O2 k S'.top S'.rd S'.wr))).set k (.lst (S'.pg.map pgD))) n k a f q S' w/\Fr hp ((hp.set n (.ins "Shelf" (shF S.O2 k S'.top S'.rd S'.wr))).set k (.lst (S'.pg.map pgD))) n k a f q :=
 ⟨⟨gs D.nk.symm (by rw[e];exact gss A.h1),gss (gs D.nk A.h2),gs D.ka (gs D.na A.h3),gs D.kf (gs D.nf A.h4),gs D.kq (gs D.nq A.h5)⟩,by simp,λi hi a1 a2 a3 a4 a5=>(QI _ _ _ _ (Ne.symm a2)).trans (QI _ _ _ _ (Ne.symm a1))⟩
theorem At.count(A:At hp n k a f q S w)(D:Dif n k a f q)(S':TR.Sh)(e:S'.O2=S.O2)(e2:S'.pg=S.pg):At (hp.set n (.ins "Shelf" (shF S.O2 k S'.top S'.rd S'.wr))) n k a f q S' w/\Fr hp (hp.set n (.ins "Shelf" (shF S.O2 k S'.top S'.rd S'.wr))) n k a f q :=
 ⟨⟨by rw[e];exact gss A.h1,gs D.nk (by rw[e2];exact A.h2),gs D.na A.h3,gs D.nf A.h4,gs D.nq A.h5⟩,by simp,λi hi a1 a2 a3 a4 a5=>QI _ _ _ _ (Ne.symm a1)⟩
theorem At.fork(A:At hp n k a f q S w)(D:Dif n k a f q)(w':TR.Wk)(h:wkO n f q w'=wkO n f q w)(e:w'.O5=w.O5):At (hp.set f (.dic (fkD w'.O3))) n k a f q S w'/\Fr hp (hp.set f (.dic (fkD w'.O3))) n k a f q :=
 ⟨⟨gs D.nf.symm A.h1,gs D.kf.symm A.h2,gs D.af.symm (by rw[h];exact A.h3),gss A.h4,gs D.fq (by rw[e];exact A.h5)⟩,by simp,λi hi a1 a2 a3 a4 a5=>QI _ _ _ _ (Ne.symm a4)⟩
theorem At.pair(A:At hp n k a f q S w)(D:Dif n k a f q)(w':TR.Wk)(h:wkO n f q w'=wkO n f q w)(e:w'.O3=w.O3):At (hp.set q (.lst (prD w'.O5))) n k a f q S w'/\Fr hp (hp.set q (.lst (prD w'.O5))) n k a f q :=
 ⟨⟨gs D.nq.symm A.h1,gs D.kq.symm A.h2,gs D.aq.symm (by rw[h];exact A.h3),gs D.fq.symm (by rw[e];exact A.h4),gss A.h5⟩,by simp,λi hi a1 a2 a3 a4 a5=>QI _ _ _ _ (Ne.symm a5)⟩
theorem At.more(A:At hp n k a f q S w)(x:OV):At (hp++[x]) n k a f q S w/\Fr hp (hp++[x]) n k a f q:=by
 have ap:∀{i:Nat}{y:OV},hp[i]?=some y->(hp++[x])[i]?=some y:=λ{i y} h=>by rw[Ai (Ad.mp h).1];exact h
 exact⟨⟨ap A.h1,ap A.h2,ap A.h3,ap A.h4,ap A.h5⟩,by simp,λi hi _ _ _ _ _=>Ai hi⟩
theorem kQ(ps:List TR.Pg)(p:TR.Pg):ps.map pgD++[pgD p]=(ps++[p]).map pgD:=by simp
theorem map_set(ps:List TR.Pg)(i:Nat)(p:TR.Pg):(ps.map pgD).set i (pgD p)=(ps.set i p).map pgD:=by rw[List.map_set]
def Xt(A:At hp n k a f q S w){env:En}(h:env[0]?=some (.val (.ref a))):QC "Walk" "shelf" (Qb 0) env hp=some (.ref n,hp):=QK (Qe h) A.h3 (Qbo ..)
theorem Kr(A:At hp n k a f q S w)(D:Dif n k a f q){i:Nat}(hi:i < S.pg.length)(P:TR.Pg)(h3:S.O2 < P.ks.length->3<=P.ks.length)(hP:P.ks.length<=100)(hl:S.pg.length < 90000):
  ∃hp',XE [.ref a,.int i,pgD P] hp=some (oN (TR.QG S w i P).1,hp')/\At hp' n k a f q (TR.QG S w i P).2.1 (TR.QG S w i P).2.2/\Fr hp hp' n k a f q:=by
 have t0:QH 2 Ye (Qc (Qb 2) (Qc (Qv "Shelf" "room" 1 ZP (QC "Walk" "shelf" (Qb 0)) Qn) Qn)) [.val (.ref a),.val (.int i),.val (pgD P),.un] hp=some (.bl (decide (S.O2 < P.ks.length)),hp) :=
  ZD (Jb (Qe rfl) (Q3 (Xt A rfl) A.h1 (vX ..) qJ rfl (Qae A.h1))) rfl (Zt (Qeo P S.O2) hp)
 unfold TR.QG;by_cases hr:P.ks.length<=S.O2
 ·rw[Ec hr]
  have hd:decide (S.O2 < P.ks.length)=false:=Ei (by lia)
  rw[hd] at t0;have t1:Xe (eB (QH 2 Ye (Qc (Qb 2) (Qc (Qv "Shelf" "room" 1 ZP (QC "Walk" "shelf" (Qb 0)) Qn) Qn)))) [.val (.ref a),.val (.int i),.val (pgD P),.un] hp=some (true,hp):=X6 (b:=false) (QW t0);have wr:=Us (d:=pgD P) (i:=i) A.h1 A.h2 D.nk (by simpa using hi)
  rw[map_set] at wr;obtain⟨A1,F1⟩:=A.shelf D { S with pg:=S.pg.set i P,wr:=S.wr+1 } rfl;obtain⟨A2,F2⟩:=A1.walk D { w with O7:=true } rfl rfl;refine⟨_,?_,A2,F1.trans F2⟩;refine QF (env:=[.val (.ref a),.val (.int i),.val (pgD P),.un]) (Zp ((Zz t1).trans ?_));refine(Qj (JL (Q3 (Xt A rfl) A.h1 (zG ..) (Jb (Qe rfl) (Qe rfl)) rfl wr))).trans ?_;exact(Qj (Jf (v:=.bl true) rfl (Qe rfl) A1.h3 wl)).trans (QM (d:=.non) rfl)
 ·rw[Eb hr]
  have hd:decide (S.O2 < P.ks.length)=true:=Eg (by lia)
  rw[hd] at t0;have t1:Xe (eB (QH 2 Ye (Qc (Qb 2) (Qc (Qv "Shelf" "room" 1 ZP (QC "Walk" "shelf" (Qb 0)) Qn) Qn)))) [.val (.ref a),.val (.int i),.val (pgD P),.un] hp=some (false,hp):=X6 (b:=true) (QW t0);have pl:(S.pg.map pgD).length=S.pg.length:=by simp
  have pe:=Qba P S.pg.length (h3 (by lia)) hP
  have ly:=Qcf (pg:=pgD (TR.QU P)) A.h1 A.h2 D.nk (by rw[pl];lia)
  rw[pl,kQ] at ly;obtain⟨A1,F1⟩:=A.shelf D { S with pg:=S.pg++[TR.QU P],wr:=S.wr+1 } rfl;obtain⟨A2,F2⟩:=A1.walk D { w with Oz:=some S.pg.length } rfl rfl;have wr:=Us (d:=pgD (TR.Q5 P S.pg.length)) (i:=i) A2.h1 A2.h2 D.nk (by simp;lia)
  rw[map_set] at wr;obtain⟨A3,F3⟩:=A2.shelf D { S with pg:=(S.pg++[TR.QU P]).set i (TR.Q5 P S.pg.length),wr:=S.wr+1+1 } rfl;obtain⟨A4,F4⟩:=A3.walk D { w with Oz:=some S.pg.length,aim:=TR.Xa P } rfl rfl;obtain⟨A5,F5⟩:=A4.walk D { w with Oz:=some S.pg.length,aim:=TR.Xa P,O4:=P.lv+1 } rfl rfl;obtain⟨A6,F6⟩:=A5.walk D { w with Oz:=some S.pg.length,aim:=TR.Xa P,O4:=P.lv+1,O6:=TR.JU w.O3 (P.lv+1) } rfl rfl;refine⟨_,?_,A6,F1.trans (F2.trans (F3.trans (F4.trans (F5.trans F6))))⟩;refine QF (env:=[.val (.ref a),.val (.int i),.val (pgD P),.val (.tup [pgD (TR.Q5 P S.pg.length),pgD (TR.QU P),.int (TR.Xa P)])]) ?_;refine(Qj ((QS t1).trans QT)).trans ?_;have pg:=vI A.h1 A.h2;rw[pl] at pg;refine(Qj (QB (ZD (Jb (Qe rfl) (Q3 (Xt A rfl) A.h1 (yS ..) qJ rfl pg)) rfl (Zt pe hp)))).trans ?_;refine(Qj (Jf (Q3 (Xt A rfl) A.h1 (Ku ..) (Zq (Qi (Qe rfl) rfl (Z1 (i:=1) rfl _))) rfl ly) (Qe rfl) A1.h3 wl)).trans ?_;refine(Qj (JL (Q3 (Xt A2 rfl) A2.h1 (zG ..) (Jb (Qe rfl) (Qi (Qe rfl) rfl (Z1 (i:=0) rfl _))) rfl wr))).trans ?_;refine(Qj (Jf (Qi (Qe rfl) rfl (Z1 (i:=2) rfl _)) (Qe rfl) A3.h3 wl)).trans ?_;refine(Qj (Jf (v:=.int ((P.lv+1:Nat):Int)) (Qi (Qi (Qe rfl) rfl (Go P _)) rfl rfl) (Qe rfl) A4.h3 wl)).trans ?_;have dg:Xd "dict" YF (QC "Walk" "forks" (Qb 0)) (Qc (QC "Walk" "goal" (Qb 0)) Qn) [.val (.ref a),.val (.int i),.val (pgD P),.val (.tup [pgD (TR.Q5 P S.pg.length),pgD (TR.QU P),.int (TR.Xa P)])] _=some (oN (TR.JU w.O3 (P.lv+1)),_) :=
   QdP (QK (Qe rfl) A5.h3 (KC ..)) A5.h4 (Zq (QK (Qe rfl) A5.h3 (ue ..)))
  refine(Qj (Jf dg (Qe rfl) A5.h3 wl)).trans ?_;exact QM (QK (Qe rfl) A6.h3 (GI ..))
end
def Qbt(x:DV)(xs:List DV):atI (x::xs) 0=some x:=Yz (j:=0) rfl
theorem UP{r a b:Int}{n k:Nat}{ps:List DV}{hp:Hs}{t i:Nat}{key:Int}{l:Int}{ks qs:List Int}{hi sd:Option Int}(h1:hp[n]?=some (.ins "Shelf" (shF r k t a b)))(h2:hp[k]?=some (.lst ps))(hnk:n≠k)(hi1:i < ps.length)(ht:ps[t]?=some (Zf l ks qs hi sd))(hl:ps.length < 99999):
  ZY [.ref n,.int key,.int i] hp=some (.int ps.length,(hp.set n (.ins "Shelf" (shF r k ps.length a (b+1)))).set k (.lst (ps++[Zf (l+1) [key] [(t:Int),(i:Int)] none none]))):=by
 have c:=Vs (i:=(i:Int)) h1 h2 (by lia) (by lia)
 have ht':atI ps (t:Int)=some (.tup [.int l,.tup (ks.map .int),.tup (qs.map .int),opt hi,opt sd]):=Yz ht;have y:=Qcf (pg:=Zf (l+1) [key] [(t:Int),(i:Int)] none none) h1 h2 hnk hl;have pd:DV.tup [.int (l+1),.tup [.int key],.tup [.int (t:Int),.int (i:Int)],.non,.non]=Zf (l+1) [key] [(t:Int),(i:Int)] none none:=rfl;have g1:((hp.set n (.ins "Shelf" (shF r k t a (b+1)))).set k (.lst (ps++[Zf (l+1) [key] [(t:Int),(i:Int)] none none])))[n]?=some (.ins "Shelf" (shF r k t a (b+1))):=by
  rw[QI _ _ _ _ hnk.symm];exact Zo _ _ _ (by rw[h1];rfl)
 have g2:∀X Y Z:OV,((hp.set n X).set k Y).set n Z=(hp.set n Z).set k Y:=λX Y Z=>by
  rw[List.set_comm _ _ hnk,List.set_set,List.set_comm _ _ hnk.symm,List.set_comm _ _ hnk]
 have g3:((hp.set n (.ins "Shelf" (shF r k ps.length a (b+1)))).set k (.lst (ps++[Zf (l+1) [key] [(t:Int),(i:Int)] none none])))[n]?=some (.ins "Shelf" (shF r k ps.length a (b+1))):=by
  rw[QI _ _ _ _ hnk.symm];exact Zo _ _ _ (by rw[h1];rfl)
 simp[ZY,Yl,Q8,Qr,QA,QP,zD,sIf,Zi,V2,y6,V0,V1,Qk,Qb,eC,eB,asB,X5,eOr,Xe,Xv,Y8,Ym,eIf,qR,Qn,Qc,ZE,Xl,QH,Zd,Qy,gN,Jr,JM,ZJ,JC,JW,JT,JI,qN,zB,VX,Z9,Xp,ZK,Q6,X2,Gx,Yb,gSb,yp,Xd,X0,QC,ju,jF,onI,onL,onD,ZG,X7,xj,YF,ixG,Z4,qC,jb,Yw,za,asI,qX,GG,Qv,Xm,Xo,Xn,jY,evP,JK,X9,run_pure,Xr,JX,X8,run_set,Ya,Zo,QI,Jm,YM,lim,ixD,h1,h2,c,qk,Qah,Qdb,Vm,yu,Ku,ht',Qbt,pd,y,g1,g2,g3]
theorem QcV{n k a f q:Nat}{S:TR.Sh}{w:TR.Wk}(A:At hp n k a f q S w)(D:Dif n k a f q){c:Nat}{key:Int}(hc:c < S.pg.length)(hr:S.pg[S.top]?=some r)(hl:S.pg.length < 90000):
  ZY [.ref n,.int key,.int c] hp=some (.int S.pg.length,(hp.set n (.ins "Shelf" (shF S.O2 k S.pg.length S.rd (S.wr+1)))).set k (.lst ((S.pg++[(⟨r.lv+1,[key],[(S.top:Int),(c:Int)],none,none⟩:TR.Pg)]).map pgD))):=by
 have ht:(S.pg.map pgD)[S.top]?=some (Zf r.lv r.ks r.ps r.hi (r.sd.map λn=>(n:Int))):=by rw[Bv,hr,Option.map_some,XD]
 have e:=UP (key:=key) A.h1 A.h2 D.nk (i:=c) (by simpa using hc) ht (by simp;lia)
 rw[e,Bt];rw[show Zf ((r.lv:Int)+1) [key] [(S.top:Int),(c:Int)] none none=pgD ⟨r.lv+1,[key],[(S.top:Int),(c:Int)],none,none⟩ from rfl,kQ]
theorem GD(S:TR.Sh)(w:TR.Wk)(i:Nat)(P:TR.Pg):(TR.QG S w i P).2.2.O1=w.O1:=by
 unfold TR.QG;split<;>rfl
section
variable{hp:Hs}{n k a f q:Nat}{S:TR.Sh}{w:TR.Wk}{i:Nat}{p:TR.Pg}
theorem vm(A:At hp n k a f q S w)(D:Dif n k a f q)(word:Str)(t:Option Nat):∃hp',JN [.ref a,.str word,.int i,oN t] hp=some (.tup [.str word,.int i,oN t],hp')/\At hp' n k a f q S { w with O6:=t }/\Fr hp hp' n k a f q:=by
 obtain⟨A1,F1⟩:=A.walk D { w with O6:=t } rfl rfl;refine⟨_,?_,A1,F1⟩;refine QF (env:=[.val (.ref a),.val (.str word),.val (.int i),.val (oN t)]) ?_;exact(Qj (Jf (Qe rfl) (Qe rfl) A.h3 wl)).trans (QM (JA (Xu (Qe rfl) (Qe rfl) (Qe rfl)) (by simp)))
theorem UO(A:At hp n k a f q S w)(D:Dif n k a f q){c:Nat}(hw:w.Oz=some c)(hc:c < S.pg.length)(hr:S.pg[S.top]?=some r)(hl:S.pg.length < 90000):∃hp',ZQ [.ref a,.int i] hp=some (.tup [.str "raised", .int i,.int S.pg.length],hp')/\At hp' n k a f q { S with pg:=S.pg++[⟨r.lv+1,[w.aim],[(S.top:Int),(c:Int)],none,none⟩],top:=S.pg.length,wr:=S.wr+1 } { w with O7:=true }/\Fr hp hp' n k a f q:=by
 obtain⟨A1,F1⟩:=A.walk D { w with O7:=true } rfl rfl;have e:=QcV (key:=w.aim) A1 D hc hr hl;obtain⟨A2,F2⟩:=A1.shelf D { S with pg:=S.pg++[⟨r.lv+1,[w.aim],[(S.top:Int),(c:Int)],none,none⟩],top:=S.pg.length,wr:=S.wr+1 } rfl;refine⟨_,?_,A2,F1.trans F2⟩;refine QF (env:=[.val (.ref a),.val (.int i)]) ?_;refine(Qj (Jf (v:=.bl true) rfl (Qe rfl) A.h3 wl)).trans ?_;refine QM (JA (Xu rfl (Qe rfl) (Q3 (Xt A1 rfl) A1.h1 (vW ..) (Jb (QK (Qe rfl) A1.h3 (YN ..)) (QK (d:=.int c) (Qe rfl) A1.h3 ((GI ..).trans (by show some (oN w.Oz)=_;rw[hw];rfl)))) rfl e)) (by simp))
theorem Ur(A:At hp n k a f q S w)(D:Dif n k a f q){env:En}(e0:env[0]?=some (.val (.ref a)))(e2:env[2]?=some (.val (pgD p)))(h1:p.ks.length<=100)(h2:p.ps.length=p.ks.length):
  ∃hp',Q6 "Walk" "worth" (Qb 0) (QH 2 J8 (Qc (Qb 2) (Qc (QC "Walk" "aim" (Qb 0)) Qn))) env hp=some ((.nx,env),hp')/\At hp' n k a f q S { w with O1:=TR.QY p w.aim }/\Fr hp hp' n k a f q:=by
 obtain⟨A1,F1⟩:=A.walk D { w with O1:=TR.QY p w.aim } rfl rfl;exact⟨_,Jf (ZD (Jb (Qe e2) (QK (Qe e0) A.h3 (YN ..))) rfl (Zt (QcO p w.aim h1 h2) hp)) (Qe e0) A.h3 wl,A1,F1⟩
theorem QdS(A:At hp n k a f q S w)(D:Dif n k a f q)(h1:p.ks.length<=100)(h2:p.ps.length=p.ks.length):
  ∃hp',Xf [.ref a,.int i,pgD p] hp=some (.tup [.str "found", .int i,opt (TR.QY p w.aim)],hp')/\At hp' n k a f q S { w with O1:=TR.QY p w.aim,O7:=true }/\Fr hp hp' n k a f q:=by
 obtain⟨hp1,e1,A1,F1⟩:=Ur (env:=[.val (.ref a),.val (.int i),.val (pgD p)]) A D rfl rfl h1 h2;obtain⟨A2,F2⟩:=A1.walk D { w with O1:=TR.QY p w.aim,O7:=true } rfl rfl;refine⟨_,?_,A2,F1.trans F2⟩;refine QF (env:=[.val (.ref a),.val (.int i),.val (pgD p)]) ?_;refine(Qj e1).trans ((Qj (Jf (v:=.bl true) rfl (Qe rfl) A1.h3 wl)).trans ?_);exact QM (JA (Xu rfl (Qe rfl) (QK (Qe rfl) A2.h3 (qp ..))) (by simp))
theorem QgJ(A:At hp n k a f q S w)(D:Dif n k a f q)(hi:i < S.pg.length){x y:Int}(hd:w.O0=.put y x)(h1:p.ks.length<=90)(h2:p.ps.length=p.ks.length)(h3:S.O2 < (TR.QZ p w.aim x).ks.length->3<=(TR.QZ p w.aim x).ks.length)(h4:(TR.QZ p w.aim x).ks.length<=100)(hl:S.pg.length < 90000):
  ∃hp',XR [.ref a,.int i,pgD p] hp=some (.tup [.str "put", .int i,opt (TR.QY p w.aim),oN (TR.QG S { w with O1:=TR.QY p w.aim } i (TR.QZ p w.aim x)).1],hp')/\At hp' n k a f q (TR.QG S { w with O1:=TR.QY p w.aim } i (TR.QZ p w.aim x)).2.1 (TR.QG S { w with O1:=TR.QY p w.aim } i (TR.QZ p w.aim x)).2.2/\Fr hp hp' n k a f q:=by
 obtain⟨hp1,e1,A1,F1⟩:=Ur (env:=[.val (.ref a),.val (.int i),.val (pgD p),.un]) A D rfl rfl (by lia) h2
 obtain⟨hp2,e2,A2,F2⟩:=Kr A1 D hi (TR.QZ p w.aim x) h3 h4 hl;refine⟨hp2,?_,A2,F1.trans F2⟩;refine QF (env:=[.val (.ref a),.val (.int i),.val (pgD p),.val (oN (TR.QG S { w with O1:=TR.QY p w.aim } i (TR.QZ p w.aim x)).1)]) ?_;refine(Qj e1).trans ?_;have dx:ixG (Ze w.O0) (.int 2) hp1=some (.int x,hp1):=by rw[hd];exact Z1 (i:=2) rfl hp1
 refine(Qj (QB (Q3 (Qe rfl) A1.h3 (Qds ..) (Jb (Qe rfl) (ZD (Xu (Qe rfl) (QK (Qe rfl) A1.h3 (YN ..)) (Qi (QK (Qe rfl) A1.h3 (xN ..)) rfl dx)) rfl (Zt (Qep p w.aim x (by lia) (by lia)) hp1))) rfl e2))).trans ?_
 refine QM (JA (gS rfl (Qe rfl) (QK (Qe rfl) A2.h3 ((qp ..).trans ?_)) (Qe rfl)) (by simp))
 rw[GD]
theorem KO(A:At hp n k a f q S w)(D:Dif n k a f q)(hi:i < S.pg.length)(h1:p.ks.length<=100)(h2:p.ps.length=p.ks.length):
    ∃hp',Yh [.ref a,.int i,pgD p] hp=some (.tup [.str "cut", .int i,opt (TR.QY p w.aim)],hp')/\At hp' n k a f q (if (TR.QY p w.aim).isSome=true then { S with pg:=S.pg.set i (TR.without p w.aim),wr:=S.wr+1 } else S) { w with O1:=TR.QY p w.aim,O7:=true }/\Fr hp hp' n k a f q:=by
  obtain⟨hp1,e1,A1,F1⟩:=Ur (env:=[.val (.ref a),.val (.int i),.val (pgD p)]) A D rfl rfl h1 h2;have t:∀b:Bool,(TR.QY p w.aim).isSome=b->eB (Qk yb (QC "Walk" "worth" (Qb 0)) (eC .non)) [.val (.ref a),.val (.int i),.val (pgD p)] hp1=some (b,hp1):=λb hb=>QW (Qi (QK (Qe rfl) A1.h3 (qp ..)) rfl (by rw[uV,hb];rfl))
  cases hs:(TR.QY p w.aim).isSome with
  | true =>
    rw[Ec rfl];have wr:=Us (d:=pgD (TR.without p w.aim)) (i:=i) A1.h1 A1.h2 D.nk (by simpa using hi)
    rw[map_set] at wr;obtain⟨A2,F2⟩:=A1.shelf D { S with pg:=S.pg.set i (TR.without p w.aim),wr:=S.wr+1 } rfl;obtain⟨A3,F3⟩:=A2.walk D { w with O1:=TR.QY p w.aim,O7:=true } rfl rfl;refine⟨_,?_,A3,F1.trans (F2.trans F3)⟩;refine QF (env:=[.val (.ref a),.val (.int i),.val (pgD p)]) ?_;refine(Qj e1).trans ?_;refine(Qj ((Zz (t true hs)).trans (JL (Q3 (Xt A1 rfl) A1.h1 (zG ..) (Jb (Qe rfl) (ZD (Jb (Qe rfl) (QK (Qe rfl) A1.h3 (YN ..))) rfl (Zt (uZ p w.aim (by lia) (by lia)) hp1))) rfl wr)))).trans ?_
    refine(Qj (Jf (v:=.bl true) rfl (Qe rfl) A2.h3 wl)).trans ?_;exact QM (JA (Xu rfl (Qe rfl) (QK (Qe rfl) A3.h3 (qp ..))) (by simp))
  | false =>
    rw[Eb (by simp)]
    obtain⟨A3,F3⟩:=A1.walk D { w with O1:=TR.QY p w.aim,O7:=true } rfl rfl;refine⟨_,?_,A3,F1.trans F3⟩;refine QF (env:=[.val (.ref a),.val (.int i),.val (pgD p)]) ?_;refine(Qj e1).trans ?_;refine(Qj ((QS (t false hs)).trans QT)).trans ?_;refine(Qj (Jf (v:=.bl true) rfl (Qe rfl) A1.h3 wl)).trans ?_;exact QM (JA (Xu rfl (Qe rfl) (QK (Qe rfl) A3.h3 (qp ..))) (by simp))
theorem Qe1(A:At hp n k a f q S w)(D:Dif n k a f q)(hi:i < S.pg.length){c:Nat}(hw:w.Oz=some c)(h1:p.ks.length<=90)(h2:p.ps.length<=100)(h3:S.O2 < (TR.Zw p w.aim c).ks.length->3<=(TR.Zw p w.aim c).ks.length)(h4:(TR.Zw p w.aim c).ks.length<=100)(hl:S.pg.length < 90000):
  ∃hp',Xx [.ref a,.int i,pgD p] hp=some (.tup [.str "told", .int i,oN (TR.QG S w i (TR.Zw p w.aim c)).1],hp')/\At hp' n k a f q (TR.QG S w i (TR.Zw p w.aim c)).2.1 (TR.QG S w i (TR.Zw p w.aim c)).2.2/\Fr hp hp' n k a f q:=by
 obtain⟨hp2,e2,A2,F2⟩:=Kr A D hi (TR.Zw p w.aim c) h3 h4 hl;refine⟨hp2,?_,A2,F2⟩;refine QF (env:=[.val (.ref a),.val (.int i),.val (pgD p),.val (oN (TR.QG S w i (TR.Zw p w.aim c)).1)]) ?_;have nw:QC "Walk" "new_page" (Qb 0) [.val (.ref a),.val (.int i),.val (pgD p),.un] hp=some (.int c,hp):=QK (Qe rfl) A.h3 ((GI ..).trans (by rw[hw];rfl))
 refine(Qj (QB (Q3 (Qe rfl) A.h3 (Qds ..) (Jb (Qe rfl) (ZD (Xu (Qe rfl) (QK (Qe rfl) A.h3 (YN ..)) nw) rfl (Zt (uY p w.aim c (by lia) (by lia)) hp))) rfl e2))).trans ?_
 exact QM (JA (Xu rfl (Qe rfl) (Qe rfl)) (by simp))
end
section
variable{hp:Hs}{n k a f q:Nat}{S:TR.Sh}{w:TR.Wk}{i:Nat}{p:TR.Pg}
theorem QcH(A:At hp n k a f q S w){l h:Int}(hl:p.ks.length<=100):
  Jd [.val (.ref a),.val (.int i),.val (pgD p),.val (.int l),.val (.int h),.un] hp=some (.ref hp.length,hp++[OV.lst (prD (TR.QX p l h))]):=by
 have e0:Qb4 (Qk ixG (Qb 2) (eC (.int 1))) (Qk ixG (Qb 2) (eC (.int 2))) [.val (.ref a),.val (.int i),.val (pgD p),.val (.int l),.val (.int h),.un] hp=some (prD (p.ks.zip p.ps),hp):=by
  have x1:Qk ixG (Qb 2) (eC (.int 1)) [.val (.ref a),.val (.int i),.val (pgD p),.val (.int l),.val (.int h),.un] hp=some (.tup (p.ks.map .int),hp):=Qi (Qe rfl) rfl (uW p hp);have x2:Qk ixG (Qb 2) (eC (.int 2)) [.val (.ref a),.val (.int i),.val (pgD p),.val (.int l),.val (.int h),.un] hp=some (.tup (p.ps.map .int),hp):=Qi (Qe rfl) rfl (yo p hp);unfold Qb4;rw[Qf x1];show(gI (.tup (p.ks.map .int)) >>= _) hp=_;rw[show gI (.tup (p.ks.map .int))=pure (p.ks.map .int) from rfl,Ej,Qf x2,show gI (.tup (p.ps.map .int))=pure (p.ps.map .int) from rfl,Ej,Qan];rfl
 have e1:xOf (Qb4 (Qk ixG (Qb 2) (eC (.int 1))) (Qk ixG (Qb 2) (eC (.int 2)))) [.val (.ref a),.val (.int i),.val (pgD p),.val (.int l),.val (.int h),.un] hp=some (nxD (prD (p.ks.zip p.ps)),hp):=by
  unfold xOf;rw[Qf e0];rfl
 have hz:(p.ks.zip p.ps).length<=100:=by rw[List.length_zip];lia
 have e2:=QaB (hp:=hp) (t:=λd=>eB (Xk leD ltD (Qb 1) (Qk ixG (Qb 0) (eC (.int 0))) (Qb 2)) (cE [3,4] [.val (.ref a),.val (.int i),.val (pgD p),.val (.int l),.val (.int h),.un] d)) (f:=λd=>Qb 0 (cE [3,4] [.val (.ref a),.val (.int i),.val (pgD p),.val (.int l),.val (.int h),.un] d)) (p:=Qex l h) (prD (p.ks.zip p.ps)) (λd hd=>by
   obtain⟨z,_,rfl⟩:=C9.mp hd;have c:cE [3,4] [.val (.ref a),.val (.int i),.val (pgD p),.val (.int l),.val (.int h),.un] (.tup [.int z.1,.int z.2])=[.val (.tup [.int z.1,.int z.2]),.val (.int l),.val (.int h)]:=rfl;show eB (Xk leD ltD (Qb 1) (Qk ixG (Qb 0) (eC (.int 0))) (Qb 2)) (cE [3,4] [.val (.ref a),.val (.int i),.val (pgD p),.val (.int l),.val (.int h),.un] (.tup [.int z.1,.int z.2])) hp=_;rw[c];have x1:Qk ixG (Qb 0) (eC (.int 0)) [.val (.tup [.int z.1,.int z.2]),.val (.int l),.val (.int h)] hp=some (.int z.1,hp):=Qi (Qe rfl) rfl (Z1 (i:=0) rfl hp);by_cases q1:l<=z.1
   ·by_cases q2:z.1 < h<;>simp[eB,Xk,JK,run_pure,x1,Qb,JW,JC,asB,Qex,q1,q2]
   ·simp[eB,Xk,JK,run_pure,x1,Qb,JW,JC,asB,Qex,q1])
  (λd hd=>rfl) (by rw[Gp];lia)
 rw[gh] at e2;unfold Jd J1;rw[Qf e1,Qf (show JF _ _ _ lim 0 hp=_ from e2)];rfl
theorem UQ(A:At hp n k a f q S w)(D:Dif n k a f q){l h:Int}(hd:w.O0=.stretch l h)(h1:p.ks.length<=100)(hw:w.O5.length<=50000)(hlk:(p.hi=none/\p.sd=none)∨∃x s,p.hi=some x/\p.sd=some s):
  ∃hp',Xg [.ref a,.int i,pgD p] hp=some (Gv (TR.Jc S w i p).1,hp')/\At hp' n k a f q (TR.Jc S w i p).2.1 (TR.Jc S w i p).2.2/\Fr hp hp' n k a f q:=by
 have d1:ixG (Ze w.O0) (.int 1) hp=some (.int l,hp):=by rw[hd];exact Z1 (i:=1) rfl hp
 have d2:ixG (Ze w.O0) (.int 2) hp=some (.int h,hp):=by rw[hd];exact Z1 (i:=2) rfl hp
 obtain⟨A1,F1⟩:=A.more (OV.lst (prD (TR.QX p l h)));obtain⟨A2,F2⟩:=A1.pair D { w with O5:=w.O5++TR.QX p l h } rfl rfl;have pl:(TR.QX p l h).length<=100:=by
  unfold TR.QX;refine Bk (Cb _ _) ?_;rw[List.length_zip];lia
 have gl:(hp++[OV.lst (prD (TR.QX p l h))])[hp.length]?=some (.lst (prD (TR.QX p l h))):=by simp
 have ql:q≠hp.length:=λe=>by
  have:=(Ad.mp A.h5).1;lia
 have ex:=QaJ (o:=QC "Walk" "pairs" (Qb 0)) (fa:=Qc (Qb 5) Qn) (env:=[.val (.ref a),.val (.int i),.val (pgD p),.val (.int l),.val (.int h),.val (.ref hp.length)]) (QK (Qe rfl) A1.h3 (Qbn ..)) A1.h5 (Zq (Qe rfl)) gl (by rw[Gp,Gp];lia)
 rw[Qew] at ex;have tw:∀{hpx:Hs}{env:En},hpx[hp.length]?=some (.lst (prD (TR.QX p l h)))->env[5]?=some (.val (.ref hp.length))->Zd Qbl (Qc (Qb 5) Qn) env hpx=some (.tup (prD (TR.QX p l h)),hpx):=λ{hpx env} hx he=>by
  unfold Zd;rw[Qf (Zq (Qe he))];show(ZX hp.length >>= _) hpx=_;rw[Qf (ZF hx)];rfl
 have gl2:((hp++[OV.lst (prD (TR.QX p l h))]).set q (OV.lst (prD (w.O5++TR.QX p l h))))[hp.length]?=some (.lst (prD (TR.QX p l h))):=gs ql gl;have al:a≠hp.length:=λe=>by
  have:=(Ad.mp A.h3).1;lia
 have start:∀(g:DSx)(r:(Fl×En)×Hs),g [.val (.ref a),.val (.int i),.val (pgD p),.val (.int l),.val (.int h),.val (.ref hp.length)] ((hp++[OV.lst (prD (TR.QX p l h))]).set q (OV.lst (prD (w.O5++TR.QX p l h))))=some r ->
   Qr (QA 3 (Qk ixG (QC "Walk" "deed" (Qb 0)) (eC (.int 1)))) (Qr (QA 4 (Qk ixG (QC "Walk" "deed" (Qb 0)) (eC (.int 2)))) (Qr (QA 5 Jd) (Qr (ZK (Xd "list" xk (QC "Walk" "pairs" (Qb 0)) (Qc (Qb 5) Qn))) g))) [.val (.ref a),.val (.int i),.val (pgD p),.un,.un,.un] hp=some r:=λg r hg=>by
  refine(Qj (QB (Qi (QK (Qe rfl) A.h3 (xN ..)) rfl d1))).trans ?_;refine(Qj (QB (Qi (QK (Qe rfl) A.h3 (xN ..)) rfl d2))).trans ?_;refine(Qj (QB (QcH A h1))).trans ?_;exact(Qj (JL ex)).trans hg
 have fin:∃hp',Qr (Q6 "Walk" "ended" (Qb 0) (eC (.bl true))) (QP (ZE (Qc (eC (.str "read")) (Qc (Qb 1) (Qc (Zd Qbl (Qc (Qb 5) Qn)) (Qc (eC .non) (Qc (eC .non) Qn))))))) [.val (.ref a),.val (.int i),.val (pgD p),.val (.int l),.val (.int h),.val (.ref hp.length)] ((hp++[OV.lst (prD (TR.QX p l h))]).set q (OV.lst (prD (w.O5++TR.QX p l h))))=some ((.rt (Gv (.read i (TR.QX p l h) none)),[.val (.ref a),.val (.int i),.val (pgD p),.val (.int l),.val (.int h),.val (.ref hp.length)]),hp')/\At hp' n k a f q S { w with O5:=w.O5++TR.QX p l h,O7:=true }/\Fr hp hp' n k a f q:=by
  obtain⟨A3,F3⟩:=A2.walk D { w with O5:=w.O5++TR.QX p l h,O7:=true } rfl rfl;refine⟨_,?_,A3,F1.trans (F2.trans F3)⟩;refine(Qj (Jf (v:=.bl true) rfl (Qe rfl) A2.h3 wl)).trans ?_;exact QM (JA (Qfd rfl (Qe rfl) (tw (gs al gl2) rfl) rfl rfl) (by simp))
 have hiE:∀hpx:Hs,Qk ixG (Qb 2) (eC (.int 3)) [.val (.ref a),.val (.int i),.val (pgD p),.val (.int l),.val (.int h),.val (.ref hp.length)] hpx=some (opt p.hi,hpx):=λhpx=>Qi (Qe rfl) rfl (Gn p hpx);have sdE:∀hpx:Hs,Qk ixG (Qb 2) (eC (.int 4)) [.val (.ref a),.val (.int i),.val (pgD p),.val (.int l),.val (.int h),.val (.ref hp.length)] hpx=some (oN p.sd,hpx):=λhpx=>Qi (Qe rfl) rfl (uX p hpx);rcases hlk with ⟨e1,e2⟩ | ⟨x,s,e1,e2⟩
 ·rw[QaU hd e1]
  obtain⟨hp',ef,Af,Ff⟩:=fin;refine⟨hp',QF (start _ _ (Zp ((Zz (hp1:=_) ?_).trans ef))),Af,Ff⟩;exact Qfj (QW (Qi (hiE _) rfl (by rw[zS,e1];rfl)))
 ·rw[Qch hd e1 e2]
  by_cases hx:h<=x
  ·rw[Ec hx]
   obtain⟨hp',ef,Af,Ff⟩:=fin;refine⟨hp',QF (start _ _ (Zp ((Zz (hp1:=_) ?_).trans ef))),Af,Ff⟩;exact(yC (QW (b:=false) (Qi (hiE _) rfl (by rw[zS,e1];rfl)))).trans (QW (Qi (hiE _) (Qe rfl) (by rw[e1];show geD (.int x) (.int h) _=_;rw[JT,Eg hx];rfl)))
  ·rw[Eb hx]
   obtain⟨A3,F3⟩:=A2.walk D { w with O5:=w.O5++TR.QX p l h,aim:=x } rfl rfl;obtain⟨A4,F4⟩:=A3.walk D { w with O5:=w.O5++TR.QX p l h,aim:=x,O6:=some s } rfl rfl;refine⟨_,QF (env:=[.val (.ref a),.val (.int i),.val (pgD p),.val (.int l),.val (.int h),.val (.ref hp.length)]) (start _ _ ?_),A4,F1.trans (F2.trans (F3.trans F4))⟩;refine(Qj ((QS ((yC (QW (b:=false) (Qi (hiE _) rfl (by rw[zS,e1];rfl)))).trans (QW (b:=false) (Qi (hiE _) (Qe rfl) (by rw[e1];show geD (.int x) (.int h) _=_;rw[JT,Ei hx];rfl))))).trans QT)).trans ?_
   refine(Qj (Jf (v:=.int x) ((hiE _).trans (by rw[e1];rfl)) (Qe rfl) A2.h3 wl)).trans ?_
   refine(Qj (Jf (v:=.int s) ((sdE _).trans (by rw[e2];rfl)) (Qe rfl) A3.h3 wl)).trans ?_
   exact QM (JA (Qfd rfl (Qe rfl) (tw (gs al (gs al gl2)) rfl) (QK (Qe rfl) A4.h3 (qo ..)) (QK (Qe rfl) A4.h3 (YN ..))) (by simp))
end
section
variable{hp:Hs}{n k a f q:Nat}{S:TR.Sh}{w:TR.Wk}{i:Nat}{p:TR.Pg}
theorem zI:PyData.strOk "find" = true:=by decide +kernel
theorem xJ:PyData.strOk "put" = true:=by decide +kernel
theorem xI:PyData.strOk "cut" = true:=by decide +kernel
theorem GF:PyData.strOk "stretch" = true:=by decide +kernel
def Vw:TR.Deed->Str
 | .find _ => "find"
 | .put _ _ => "put"
 | .cut _ => "cut"
 | .stretch _ _ => "stretch"
theorem QaF(d:TR.Deed)(hp:Hs):ixG (Ze d) (.int 0) hp=some (.str (Vw d),hp):=by cases d<;>exact Z1 (i:=0) rfl hp
theorem uG(A:At hp n k a f q S w)(D:Dif n k a f q)(hi:i < S.pg.length)(h1:p.ks.length<=90)(h2:p.ps.length=p.ks.length)(h3:∀x,S.O2 < (TR.QZ p w.aim x).ks.length->3<=(TR.QZ p w.aim x).ks.length)(h4:∀x,(TR.QZ p w.aim x).ks.length<=100)(hl:S.pg.length < 90000)(hw:w.O5.length<=50000)(hlk:(p.hi=none/\p.sd=none)∨∃x s,p.hi=some x/\p.sd=some s):
    ∃hp',Yi [.ref a,.int i,pgD p] hp=some (Gv (TR.Jc S w i p).1,hp')/\At hp' n k a f q (TR.Jc S w i p).2.1 (TR.Jc S w i p).2.2/\Fr hp hp' n k a f q:=by
  have s0:QA 3 (Qk ixG (QC "Walk" "deed" (Qb 0)) (eC (.int 0))) [.val (.ref a),.val (.int i),.val (pgD p),.un] hp=some ((.nx,[.val (.ref a),.val (.int i),.val (pgD p),.val (.str (Vw w.O0))]),hp):=QB (Qi (QK (Qe rfl) A.h3 (xN ..)) rfl (QaF w.O0 hp));have tst:∀(x:Str)(b:Bool),PyData.strOk (Vw w.O0)=true->PyData.strOk x=true->(Vw w.O0==x)=b->eB (Qk eqG (Qb 3) (eC (.str x))) [.val (.ref a),.val (.int i),.val (pgD p),.val (.str (Vw w.O0))] hp=some (b,hp):=λx b o1 o2 e=>QW (Qi (Qe rfl) rfl (eqS hp o1 o2 e));have ag:∀(nm:Str) (fn:Et) (d:DV) (hp':Hs),List.lookup nm (wkF n f q (Ze w.O0) (.int w.aim) (.int w.O4) (oN w.O6) (oN w.Oz) (opt w.O1) (.bl w.O7))=none->fn [.ref a,.int i,pgD p] hp=some (d,hp')->QP (Qv "Walk" nm 3 fn (Qb 0) (Qc (Qb 1) (Qc (Qb 2) Qn))) [.val (.ref a),.val (.int i),.val (pgD p),.val (.str (Vw w.O0))] hp=some ((.rt d,[.val (.ref a),.val (.int i),.val (pgD p),.val (.str (Vw w.O0))]),hp'):=λnm fn d hp' e1 e2=>QM (Q3 (Qe rfl) A.h3 e1 (Jb (Qe rfl) (Qe rfl)) rfl e2);cases hd:w.O0 with
  | find y =>
    obtain⟨hp',e,A',F'⟩:=QdS (i:=i) A D (by lia) h2
    refine⟨hp',?_,by rw[VM hd];exact A',F'⟩
    rw[VM hd];have t:=tst "find" true (by rw[hd];exact zI) zI (by rw[hd];show(("find" : Str)==("find" : Str))=true;decide)
    exact QF ((Qj s0).trans (Zp ((Zz t).trans (ag _ _ _ _ (Qg4 ..) e))))
  | put y x =>
    obtain⟨hp',e,A',F'⟩:=QgJ (i:=i) A D hi hd h1 h2 (h3 x) (h4 x) hl;refine⟨hp',?_,by rw[Kh hd];exact A',F'⟩
    rw[Kh hd];have t1:=tst "find" false (by rw[hd];exact xJ) zI (by rw[hd];show(("put" : Str)==("find" : Str))=false;decide)
    have t2:=tst "put" true (by rw[hd];exact xJ) xJ (by rw[hd];show(("put" : Str)==("put" : Str))=true;decide)
    exact QF ((Qj s0).trans ((Qj ((QS t1).trans QT)).trans (Zp ((Zz t2).trans (ag _ _ _ _ (Qg5 ..) e)))))
  | cut y =>
    obtain⟨hp',e,A',F'⟩:=KO (i:=i) A D hi (by lia) h2
    refine⟨hp',?_,by rw[Kg hd];exact A',F'⟩
    rw[Kg hd];have t1:=tst "find" false (by rw[hd];exact xI) zI (by rw[hd];show(("cut" : Str)==("find" : Str))=false;decide)
    have t2:=tst "put" false (by rw[hd];exact xI) xJ (by rw[hd];show(("cut" : Str)==("put" : Str))=false;decide)
    have t3:=tst "cut" true (by rw[hd];exact xI) xI (by rw[hd];show(("cut" : Str)==("cut" : Str))=true;decide)
    exact QF ((Qj s0).trans ((Qj ((QS t1).trans QT)).trans ((Qj ((QS t2).trans QT)).trans (Zp ((Zz t3).trans (ag _ _ _ _ (Qg6 ..) e))))))
  | stretch l h =>
    obtain⟨hp',e,A',F'⟩:=UQ (i:=i) A D hd (by lia) hw hlk
    refine⟨hp',?_,A',F'⟩;have t1:=tst "find" false (by rw[hd];exact GF) zI (by rw[hd];show(("stretch" : Str)==("find" : Str))=false;decide)
    have t2:=tst "put" false (by rw[hd];exact GF) xJ (by rw[hd];show(("stretch" : Str)==("put" : Str))=false;decide)
    have t3:=tst "cut" false (by rw[hd];exact GF) xI (by rw[hd];show(("stretch" : Str)==("cut" : Str))=false;decide)
    exact QF ((Qj s0).trans ((Qj ((QS t1).trans QT)).trans ((Qj ((QS t2).trans QT)).trans ((Qj ((QS t3).trans QT)).trans (ag _ _ _ _ (Qg7 ..) e)))))
theorem QeX{r:TR.Row}(T:TR.Tree S bg)(W:TR.WOk S bg w)(hr:S.O2<=50)(A:At hp n k a f q S w)(D:Dif n k a f q)(hl:S.pg.length < 90000)(hf:w.O3.length < 5000)(hw:w.O5.length<=50000)(hs:TR.JZ S w=some (r,S',w')):
    ∃hp',Yy [.ref a] hp=some (Gv r,hp')/\At hp' n k a f q S' w'/\Fr hp hp' n k a f q:=by
  have env0:([DV.ref a].map Sl.val++List.replicate (3 - [DV.ref a].length) Sl.un)=[.val (.ref a),.un,.un]:=rfl;cases he:w.O7 with
  | true =>
    unfold TR.JZ at hs;rw[Ec he] at hs;cases hs;refine⟨hp,?_,A,Fr.refl⟩;exact QF (env:=[.val (.ref a),.un,.un]) (Zp ((Zz (QW (QK (Qe rfl) A.h3 ((yx ..).trans (by rw[he]))))).trans (QM (d:=.non) rfl)))
  | false =>
    obtain⟨m,hm0,hpl⟩:∃m,w.O6.getD S.top=m/\(w.O6=some m∨(w.O6=none/\m=S.top)):=by
      cases e:w.O6 with
      | none=>exact⟨S.top,rfl,.inr ⟨rfl,rfl⟩⟩
      | some m=>exact⟨m,rfl,.inl rfl⟩
    unfold TR.JZ at hs;rw[Eb (by rw[he];simp),hm0] at hs
    cases hg:S.pg[m]? with
    | none=>rw[hg] at hs;cases hs
    | some p =>
      rw[hg] at hs;simp only at hs;have ok:=T.page m p hg;have hml:m < S.pg.length:=(Ad.mp hg).1;have hps:p.ps.length<=100:=by have a1:=ok.parts;have a2:=ok.few;split at a1<;>lia
      have hks:p.ks.length<=90:=by have a2:=ok.few;lia
      have r2:=T.room2;have st0:sIf (eB (QC "Walk" "ended" (Qb 0))) (QP (eC .non)) Zi [.val (.ref a),.un,.un] hp=some ((.nx,[.val (.ref a),.un,.un]),hp):=(QS (QW (QK (Qe rfl) A.h3 ((yx ..).trans (by rw[he]))))).trans QT
      have num:eIf (eB (Qk isD (QC "Walk" "place" (Qb 0)) (eC .non))) (Qv "Shelf" "root" 1 Zh (QC "Walk" "shelf" (Qb 0)) Qn) (QC "Walk" "place" (Qb 0)) [.val (.ref a),.un,.un] hp=some (.int m,hp):=by
        rcases hpl with e | ⟨e,rfl⟩
        . exact(Qhr (QW (b:=false) (Qi (QK (Qe rfl) A.h3 (qo ..)) rfl (by rw[xm,e];rfl)))).trans (QK (Qe rfl) A.h3 ((qo ..).trans (by rw[e];rfl)))
        . exact(Qhs (QW (Qi (QK (Qe rfl) A.h3 (qo ..)) rfl (by rw[xm,e];rfl)))).trans (Q3 (Xt A rfl) A.h1 (jH ..) qJ rfl (Gu A.h1))
      have rd:=Qaa (i:=m) (d:=pgD p) A.h1 A.h2 D.nk (by rw[Bv,hg];rfl)
      obtain⟨A1,F1⟩:=A.count D { S with rd:=S.rd+1 } rfl rfl;have st1:=QB (i:=1) num;have st2:QA 2 (Qv "Shelf" "read" 2 QN (QC "Walk" "shelf" (Qb 0)) (Qc (Qb 1) Qn)) [.val (.ref a),.val (.int m),.un] hp=some ((.nx,[.val (.ref a),.val (.int m),.val (pgD p)]),(hp.set n (.ins "Shelf" (shF S.O2 k S.top (S.rd+1) S.wr)))):=QB (Q3 (Xt A rfl) A.h1 (Ug ..) (Zq (Qe rfl)) rfl rd);have lvE:∀hpx:Hs,Qk ixG (Qb 2) (eC (.int 0)) [.val (.ref a),.val (.int m),.val (pgD p)] hpx=some (.int p.lv,hpx):=λhpx=>Qi (Qe rfl) rfl (Go p hpx);have plE:eB (Qk isD (QC "Walk" "place" (Qb 0)) (eC .non)) [.val (.ref a),.val (.int m),.val (pgD p)] (hp.set n (.ins "Shelf" (shF S.O2 k S.top (S.rd+1) S.wr)))=some (w.O6.isNone,(hp.set n (.ins "Shelf" (shF S.O2 k S.top (S.rd+1) S.wr)))):=QW (Qi (QK (Qe rfl) A1.h3 (qo ..)) rfl (by rw[xm];rfl))
      have glE:QC "Walk" "goal" (Qb 0) [.val (.ref a),.val (.int m),.val (pgD p)] (hp.set n (.ins "Shelf" (shF S.O2 k S.top (S.rd+1) S.wr)))=some (.int w.O4,(hp.set n (.ins "Shelf" (shF S.O2 k S.top (S.rd+1) S.wr)))):=QK (Qe rfl) A1.h3 (ue ..);have t1:X5 (eB (Qk isD (QC "Walk" "place" (Qb 0)) (eC .non))) (eB (Qk ltD (Qk ixG (Qb 2) (eC (.int 0))) (QC "Walk" "goal" (Qb 0)))) [.val (.ref a),.val (.int m),.val (pgD p)] (hp.set n (.ins "Shelf" (shF S.O2 k S.top (S.rd+1) S.wr)))=some (decide (w.O6=none/\p.lv < w.O4),(hp.set n (.ins "Shelf" (shF S.O2 k S.top (S.rd+1) S.wr)))):=by
        cases hp0:w.O6 with
        | none =>
          rw[hp0] at plE;refine(KW plE).trans (QW (Qi (lvE _) glE ?_));rw[JC];show some (DV.bl _,_)=_;congr 3;by_cases z:p.lv < w.O4
          . rw[Eg (show(p.lv:Int) < w.O4 by lia),Eg (show(none:Option Nat)=none/\p.lv < w.O4 from⟨rfl,z⟩)]
          . rw[Ei (show ¬ (p.lv:Int) < w.O4 by lia),Ei (λh=>z h.2)]
        | some z =>
          rw[hp0] at plE;rw[Ei (λh=>by cases h.1)]
          exact KU plE
      have go:∀(g:DSx) (x:(Fl×En)×Hs),g [.val (.ref a),.val (.int m),.val (pgD p)] (hp.set n (.ins "Shelf" (shF S.O2 k S.top (S.rd+1) S.wr)))=some x->Qr (sIf (eB (QC "Walk" "ended" (Qb 0))) (QP (eC .non)) Zi) (Qr (QA 1 (eIf (eB (Qk isD (QC "Walk" "place" (Qb 0)) (eC .non))) (Qv "Shelf" "root" 1 Zh (QC "Walk" "shelf" (Qb 0)) Qn) (QC "Walk" "place" (Qb 0)))) (Qr (QA 2 (Qv "Shelf" "read" 2 QN (QC "Walk" "shelf" (Qb 0)) (Qc (Qb 1) Qn))) g)) [.val (.ref a),.un,.un] hp=some x:=λg x hg=>(Qj st0).trans ((Qj st1).trans ((Qj st2).trans hg));by_cases hr1:w.O6=none/\p.lv < w.O4
      . rw[Ec hr1] at hs
        rw[Eg hr1] at t1;cases hn:w.Oz with
        | none=>rw[hn] at hs;cases hs
        | some c =>
          rw[hn] at hs;simp only[Option.some.injEq,Bq] at hs;obtain⟨rfl,rfl,rfl⟩:=hs;have htop:m=S.top:=by
            rcases hpl with e | ⟨_,e⟩
            . rw[hr1.1] at e;cases e
            . exact e
          subst htop;obtain⟨c',z,b1,b2,_⟩:=W.tell (by lia)
          rw[hn] at b1;cases b1;obtain⟨hp',e,A',F'⟩:=UO (i:=S.top) A1 D hn (Ad.mp b2).1 hg hl;rw[hn] at A';refine⟨hp',?_,A',F1.trans F'⟩;exact QF (go _ _ (Zp ((Zz t1).trans (QM (Q3 (Qe rfl) A1.h3 (Qg3 ..) (Zq (Qe rfl)) rfl e)))))
      . rw[Eb hr1] at hs
        rw[Ei hr1] at t1;have t2:eB (QH 2 YZ (Qc (Qb 2) (Qc (QC "Walk" "aim" (Qb 0)) Qn))) [.val (.ref a),.val (.int m),.val (pgD p)] (hp.set n (.ins "Shelf" (shF S.O2 k S.top (S.rd+1) S.wr)))=some (TR.JP p w.aim,(hp.set n (.ins "Shelf" (shF S.O2 k S.top (S.rd+1) S.wr)))):=QW (ZD (Jb (Qe rfl) (QK (Qe rfl) A1.h3 (YN ..))) rfl (Zt (Qa9 p w.aim) _));have go2:∀(g:DSx) (x:(Fl×En)×Hs),g [.val (.ref a),.val (.int m),.val (pgD p)] (hp.set n (.ins "Shelf" (shF S.O2 k S.top (S.rd+1) S.wr)))=some x->Qr (sIf (X5 (eB (Qk isD (QC "Walk" "place" (Qb 0)) (eC .non))) (eB (Qk ltD (Qk ixG (Qb 2) (eC (.int 0))) (QC "Walk" "goal" (Qb 0))))) (QP (Qv "Walk" "raise_root_over" 2 ZQ (Qb 0) (Qc (Qb 1) Qn))) Zi) g [.val (.ref a),.val (.int m),.val (pgD p)] (hp.set n (.ins "Shelf" (shF S.O2 k S.top (S.rd+1) S.wr)))=some x:=λg x hg=>(Qj ((QS t1).trans QT)).trans hg;cases hb:TR.JP p w.aim with
        | true =>
          rw[hb,Ec rfl] at hs;rw[hb] at t2;cases hsd:p.sd with
          | none=>rw[hsd] at hs;cases hs
          | some s =>
            rw[hsd] at hs;simp only[Option.some.injEq,Bq] at hs;obtain⟨rfl,rfl,rfl⟩:=hs;obtain⟨hp',e,A',F'⟩:=vm (i:=m) A1 D "side" (some s);refine⟨hp',?_,A',F1.trans F'⟩;refine QF (go _ _ (go2 _ _ (Zp ((Zz t2).trans (QM (Q3 (Qe rfl) A1.h3 (Qdr ..) (Xu rfl (Qe rfl) (Qi (Qe rfl) rfl (uX p _))) rfl ?_))))));rw[hsd];exact e
        | false =>
          rw[hb,Eb (by simp)] at hs
          rw[hb] at t2;have t3:eB (Qk gtD (Qk ixG (Qb 2) (eC (.int 0))) (QC "Walk" "goal" (Qb 0))) [.val (.ref a),.val (.int m),.val (pgD p)] (hp.set n (.ins "Shelf" (shF S.O2 k S.top (S.rd+1) S.wr)))=some (decide (w.O4 < p.lv),(hp.set n (.ins "Shelf" (shF S.O2 k S.top (S.rd+1) S.wr)))):=QW (Qi (lvE _) glE (by
            rw[ZJ];show some (DV.bl _,_)=_;congr 3;by_cases z:w.O4 < p.lv
            . rw[Eg z,Eg (by lia)]
            . rw[Ei z,Ei (by lia)]))
          by_cases hd:w.O4 < p.lv
          . rw[Ec hd] at hs
            rw[Eg hd] at t3;cases hc:p.ps[TR.cLe p.ks w.aim]? with
            | none=>rw[hc] at hs;cases hs
            | some c =>
              rw[hc] at hs;simp only[Option.some.injEq,Bq] at hs;obtain⟨rfl,rfl,rfl⟩:=hs;have pl:=ok.parts;rw[Eb (by lia)] at pl
              obtain⟨c',z,b1,b2,_⟩:=T.kid m p hg (by lia) _ _ hc
              subst b1;obtain⟨A2,F2⟩:=A1.fork D { w with O3:=TR.zC w.O3 p.lv m } rfl rfl;obtain⟨hp',e,A',F'⟩:=vm (i:=m) A2 D "down" (some c');refine⟨hp',?_,by rw[B7];exact A',F1.trans (F2.trans F')⟩
              have ke:=Qgy p w.aim c' (by lia) pl hc
              have pt:Yb (Qb 1) (gSb (QC "Walk" "forks" (Qb 0)) (Qk ixG (Qb 2) (eC (.int 0)))) [.val (.ref a),.val (.int m),.val (pgD p)] (hp.set n (.ins "Shelf" (shF S.O2 k S.top (S.rd+1) S.wr)))=some ((.nx,[.val (.ref a),.val (.int m),.val (pgD p)]),(hp.set n (.ins "Shelf" (shF S.O2 k S.top (S.rd+1) S.wr))).set f (.dic (fkD (TR.zC w.O3 p.lv m)))):=QgP (Qe rfl) (QK (Qe rfl) A1.h3 (KC ..)) (lvE _) A1.h4 hf;refine QF (go _ _ (go2 _ _ ((Qj ((QS t2).trans QT)).trans (Zp ((Zz t3).trans ((Qj pt).trans (QM (Q3 (Qe rfl) A2.h3 (Qdr ..) (Xu rfl (Qe rfl) (ZD (Jb (Qe rfl) (QK (Qe rfl) A2.h3 (YN ..))) rfl (Zt ke _))) rfl ?_))))))));rw[show Gv (TR.Row.down m (c':Int).toNat)=.tup [.str "down", .int m,.int c'] from by rw[B7];rfl]
              exact e
          . rw[Eb hd] at hs
            rw[Ei hd] at t3;have go3:∀(g:DSx) (x:(Fl×En)×Hs),g [.val (.ref a),.val (.int m),.val (pgD p)] (hp.set n (.ins "Shelf" (shF S.O2 k S.top (S.rd+1) S.wr)))=some x->Qr (sIf (eB (QH 2 YZ (Qc (Qb 2) (Qc (QC "Walk" "aim" (Qb 0)) Qn)))) (QP (Qv "Walk" "go_on" 4 JN (Qb 0) (Qc (eC (.str "side")) (Qc (Qb 1) (Qc (Qk ixG (Qb 2) (eC (.int 4))) Qn))))) Zi) (Qr (sIf (eB (Qk gtD (Qk ixG (Qb 2) (eC (.int 0))) (QC "Walk" "goal" (Qb 0)))) (Qr (Yb (Qb 1) (gSb (QC "Walk" "forks" (Qb 0)) (Qk ixG (Qb 2) (eC (.int 0))))) (QP (Qv "Walk" "go_on" 4 JN (Qb 0) (Qc (eC (.str "down")) (Qc (Qb 1) (Qc (QH 2 Y4 (Qc (Qb 2) (Qc (QC "Walk" "aim" (Qb 0)) Qn))) Qn)))))) Zi) g) [.val (.ref a),.val (.int m),.val (pgD p)] (hp.set n (.ins "Shelf" (shF S.O2 k S.top (S.rd+1) S.wr)))=some x:=λg x hg=>(Qj ((QS t2).trans QT)).trans ((Qj ((QS t3).trans QT)).trans hg);have t4:eB (Qk gtD (QC "Walk" "goal" (Qb 0)) (eC (.int 0))) [.val (.ref a),.val (.int m),.val (pgD p)] (hp.set n (.ins "Shelf" (shF S.O2 k S.top (S.rd+1) S.wr)))=some (decide (0 < w.O4),(hp.set n (.ins "Shelf" (shF S.O2 k S.top (S.rd+1) S.wr)))):=QW (Qi glE rfl (by
              rw[ZJ];show some (DV.bl _,_)=_;congr 3;by_cases z:0 < w.O4
              . rw[Eg z,Eg (by lia)]
              . rw[Ei z,Ei (by lia)]))
            have glv:w.O4<=p.lv:=by
              rcases hpl with e | ⟨e,_⟩
              . obtain⟨p',b1,b2,_⟩:=W.at_ m e
                rw[hg] at b1;cases b1;exact b2
              . exact Nat.le_of_not_lt λh=>hr1 ⟨e,h⟩
            by_cases h0:0 < w.O4
            . rw[Ec h0] at hs
              rw[Eg h0] at t4;cases hn:w.Oz with
              | none=>rw[hn] at hs;cases hs
              | some c =>
                rw[hn] at hs;simp only[Option.some.injEq,Bq] at hs;obtain⟨rfl,rfl,rfl⟩:=hs;have kl:=TR.yT ok (k:=w.aim) (c:=c);obtain⟨hp',e,A',F'⟩:=Qe1 (i:=m) (p:=p) A1 D hml hn hks hps (λz=>by have:S.O2 < (TR.Zw p w.aim c).ks.length:=z;lia) (by lia) hl
                refine⟨hp',?_,A',F1.trans F'⟩;exact QF (go _ _ (go2 _ _ (go3 _ _ (Zp ((Zz t4).trans (QM (Q3 (Qe rfl) A1.h3 (Qg2 ..) (Jb (Qe rfl) (Qe rfl)) rfl e)))))))
            . rw[Eb h0] at hs
              rw[Ei h0] at t4;have hz:p.lv=0:=by lia
              have pl:=ok.parts;rw[Ec hz] at pl;have kl:∀x,(TR.QZ p w.aim x).ks.length<=S.O2+1:=λx=>TR.xM ok;obtain⟨hp',e,A',F'⟩:=uG (i:=m) (p:=p) A1 D hml hks (by lia) (λx z=>by have:S.O2 < (TR.QZ p w.aim x).ks.length:=z;lia) (λx=>by have:=kl x;lia) hl hw ((T.link m p hg).imp id λ⟨x,s,_,b1,b2,_⟩=>⟨x,s,b1,b2⟩)
              have hs':=Am hs;refine⟨hp',?_,?_,F1.trans F'⟩
              . rw[show r=(TR.Jc { S with rd:=S.rd+1 } w m p).1 by rw[hs']]
                exact QF (go _ _ (go2 _ _ (go3 _ _ ((Qj ((QS t4).trans QT)).trans (QM (Q3 (Qe rfl) A1.h3 (Qg1 ..) (Jb (Qe rfl) (Qe rfl)) rfl e))))))
              . rw[show S'=(TR.Jc { S with rd:=S.rd+1 } w m p).2.1 by rw[hs'],show w'=(TR.Jc { S with rd:=S.rd+1 } w m p).2.2 by rw[hs']]
                exact A'
end
theorem Qdq(n:Nat)(d:TR.Deed)(hp:Hs):Jp [.ref hp.length,.ref n,Ze d] (hp++[.ins "Walk" []])=some (.non,hp++[wkO n (hp.length+1) (hp.length+2) (TR.fresh d),.dic [],.lst []]):=by
 have st:∀(nm:Str) (e:DEx) (v:DV) (fs:List (Str×DV)) (t t':Hs),e [.val (.ref hp.length),.val (.ref n),.val (Ze d)] (hp++.ins "Walk" fs::t)=some (v,hp++.ins "Walk" fs::t')->fs.length < 1000->Q6 "Walk" nm (Qb 0) e [.val (.ref hp.length),.val (.ref n),.val (Ze d)] (hp++.ins "Walk" fs::t)=some ((.nx,[.val (.ref hp.length),.val (.ref n),.val (Ze d)]),hp++.ins "Walk" (JJ nm v fs)::t'):=λnm e v fs t t' he hl=>by
  rw[Jf he (Qe rfl) (QbZ hp _ _) hl,Qc7]
 have a1:∀fs,Xn [.val (.ref hp.length),.val (.ref n),.val (Ze d)] (hp++.ins "Walk" fs::[])=some (.ref (hp.length+1),hp++.ins "Walk" fs::[.dic []]):=λfs=>by
  show some (DV.ref (hp++[OV.ins "Walk" fs]).length,(hp++[OV.ins "Walk" fs])++[OV.dic []])=_;simp
 have a2:∀fs,Xo Qn [.val (.ref hp.length),.val (.ref n),.val (Ze d)] (hp++.ins "Walk" fs::[.dic []])=some (.ref (hp.length+2),hp++.ins "Walk" fs::[.dic [],.lst []]):=λfs=>by
  show some (DV.ref (hp++[OV.ins "Walk" fs,OV.dic []]).length,(hp++[OV.ins "Walk" fs,OV.dic []])++[OV.lst []])=_;simp
 refine Qaf (env:=[.val (.ref hp.length),.val (.ref n),.val (Ze d)]) ?_;refine(Qj (st "shelf" _ (.ref n) [] [] [] (Qe rfl) (By (m:=20) (by repeat (first | exact Bf _ | refine J4 ?_)) (by decide)))).trans ?_
 refine(Qj (st "deed" _ (Ze d) _ [] [] (Qe rfl) (By (m:=20) (by repeat (first | exact Bf _ | refine J4 ?_)) (by decide)))).trans ?_
 refine(Qj (st "aim" _ (.int d.key) _ [] [] (Qi (Qe rfl) rfl (QbH d _)) (By (m:=20) (by repeat (first | exact Bf _ | refine J4 ?_)) (by decide)))).trans ?_
 refine(Qj (st "goal" _ (.int 0) _ [] [] rfl (By (m:=20) (by repeat (first | exact Bf _ | refine J4 ?_)) (by decide)))).trans ?_
 refine(Qj (st "place" _ .non _ [] [] rfl (By (m:=20) (by repeat (first | exact Bf _ | refine J4 ?_)) (by decide)))).trans ?_
 refine(Qj (st "forks" _ (.ref (hp.length+1)) _ [] [.dic []] (a1 _) (By (m:=20) (by repeat (first | exact Bf _ | refine J4 ?_)) (by decide)))).trans ?_
 refine(Qj (st "new_page" _ .non _ [.dic []] [.dic []] rfl (By (m:=20) (by repeat (first | exact Bf _ | refine J4 ?_)) (by decide)))).trans ?_
 refine(Qj (st "worth" _ .non _ [.dic []] [.dic []] rfl (By (m:=20) (by repeat (first | exact Bf _ | refine J4 ?_)) (by decide)))).trans ?_
 refine(Qj (st "pairs" _ (.ref (hp.length+2)) _ [.dic []] [.dic [],.lst []] (a2 _) (By (m:=20) (by repeat (first | exact Bf _ | refine J4 ?_)) (by decide)))).trans ?_
 exact st "ended" _ (.bl false) _ [.dic [],.lst []] [.dic [],.lst []] rfl (By (m:=20) (by repeat (first | exact Bf _ | refine J4 ?_)) (by decide))
theorem Qdt{n:Nat}{d:TR.Deed}{fa:DAx}{hp0 hp:Hs}(ha:fa env hp0=some ([.ref n,Ze d],hp)):Xm "Walk" 3 Jp fa env hp0=some (.ref hp.length,hp++[wkO n (hp.length+1) (hp.length+2) (TR.fresh d),.dic [],.lst []]):=by
 unfold Xm;rw[Qf ha];have al:XT (.ins "Walk" []) hp=some (.ref hp.length,hp++[.ins "Walk" []]):=rfl;have gd:Qy (decide ([DV.ref n,Ze d].length+1=3)) hp=some ((),hp):=rfl;rw[Qf gd,Qf al,Qf (Qdq n d hp)];rfl
def Qeh{hp:Hs}{n f q a:Nat}{w:TR.Wk}(h:hp[a]?=some (wkO n f q w)):XJ [.ref a] hp=some (.bl w.O7,hp):=QF (QM (QK (Qe rfl) h (yx ..)))
def emp:DV:=.tup [.int 0,.tup [],.tup [],.non,.non]
theorem pf0(d:DV):JJ ("page_room" : Str) d []=[(("page_room" : Str),d)]:=by rfl
theorem pf1(x d:DV):JJ ("kept" : Str) d [(("page_room" : Str),x)]=[(("page_room" : Str),x),(("kept" : Str),d)]:=by rfl
theorem pf2(x y d:DV):JJ ("top" : Str) d [(("page_room" : Str),x),(("kept" : Str),y)]=[(("page_room" : Str),x),(("kept" : Str),y),(("top" : Str),d)]:=by rfl
theorem pf3(x y z d:DV):JJ ("read_count" : Str) d [(("page_room" : Str),x),(("kept" : Str),y),(("top" : Str),z)]=[(("page_room" : Str),x),(("kept" : Str),y),(("top" : Str),z),(("read_count" : Str),d)]:=by rfl
theorem pf4(x y z u d:DV):JJ ("write_count" : Str) d [(("page_room" : Str),x),(("kept" : Str),y),(("top" : Str),z),(("read_count" : Str),u)]=[(("page_room" : Str),x),(("kept" : Str),y),(("top" : Str),z),(("read_count" : Str),u),(("write_count" : Str),d)]:=by rfl
theorem QdZ(r:Int)(hp:Hs):Ji [.ref hp.length,.int r] (hp++[.ins "Shelf" []])=some (.non,hp++[.ins "Shelf" (shF r (hp.length+1) 0 0 0),.lst [emp]]):=by
 simp[Ji,Y6,Q8,Qr,QA,QP,zD,sIf,Zi,V2,y6,V0,V1,Qk,Qb,eC,eB,asB,X5,eOr,Xe,Xv,Y8,Ym,eIf,qR,Qn,Qc,ZE,Xl,QH,Zd,Qy,gN,Jr,JM,ZJ,JC,JW,JT,JI,qN,zB,VX,Z9,Xp,ZK,Q6,X2,Gx,Yb,gSb,yp,Xd,X0,QC,ju,jF,onI,onL,onD,ZG,X7,xj,YF,ixG,Z4,qC,jb,Yw,za,asI,qX,GG,Qv,Xm,Xo,Xn,jY,evP,JK,X9,run_pure,Xr,JX,X8,run_set,Ya,Zo,QI,Jm,QbZ,Qc7,pf0,pf1,pf2,pf3,pf4,YM,lim,shF,emp]
theorem Qdk{f g:DEx}{ds:List DV}{a:Nat}(hf:f env hp=some (.tup ds,hp))(hg:g env hp=some (.int (a:Int),hp)):eSl f (ZO g) ZN env hp=some (.tup (ds.drop a),hp):=by
 unfold eSl ZO ZN;rw[Qf hf];have e1:(do let i <- asI (<- g env);pure (some i):M (Option Int)) hp=some (some (a:Int),hp):=by rw[Qf hg];rfl
 rw[Qf e1,Qf (rfl:(pure none:M (Option Int)) hp=some (none,hp)),<- G3 ds a];rfl
theorem zP{f g:DEx}{b:Bool}(h:f env hp=some (.bl b,hp1)):Y8 f g env hp=if b=true then some (.bl true,hp1) else g env hp1:=by
 unfold Y8;rw[Qf h];cases b<;>rfl
theorem Qbx:∀ds:List DV,blM (ds.map λ_=>.bl true)=some (ds.map λ_=>true)
  | []=>rfl
  | _::ds=>by
    show(blM (ds.map λ_=>.bl true)).map (true :: ·)=_;rw[Qbx ds];rfl
section
end
theorem QbA{g g':DV->DV->M DV}{fa fb fc:DEx}{b b':Bool}(ha:fa env hp=some (x,hp))(hb:fb env hp=some (y,hp))(hc:fc env hp=some (z,hp))(h1:g x y=pure (.bl b))(h2:g' y z=pure (.bl b')):Xk g g' fa fb fc env hp=some (.bl (b&&b'),hp):=by
  unfold Xk;rw[Qf ha,Qf hb,h1,Ej];show((if b=true then _ else _:M DV)) hp=_
  cases b with
  | false=>rfl
  | true =>
    show(fc env >>= λw=>g' y w) hp=_;rw[Qf hc,h2];cases b'<;>rfl
def wvF(t:Int):List (Str×DV):=[("shelf", .ref 0),("deeds", .ref 3),("taken", .int t),("held", .ref 4),("done", .ref 5)]
theorem Qdy(t:Int):List.lookup ("shelf" : Str) (wvF t)=some (DV.ref 0):=by rfl
theorem qq(t:Int):List.lookup ("deeds" : Str) (wvF t)=some (DV.ref 3):=by rfl
theorem zK(t:Int):List.lookup ("taken" : Str) (wvF t)=some (DV.int t):=by rfl
theorem qI(t:Int):List.lookup ("held" : Str) (wvF t)=some (DV.ref 4):=by rfl
theorem Qe8(t:Int):List.lookup ("done" : Str) (wvF t)=some (DV.ref 5):=by rfl
theorem Qg8(t u:Int):JJ ("taken" : Str) (.int u) (wvF t)=wvF u:=by rfl
theorem Qim(t:Int):List.lookup ("step_walk" : Str) (wvF t)=none:=by rfl
theorem Qin(t:Int):List.lookup ("take_deed" : Str) (wvF t)=none:=by rfl
theorem QfB(t:Int):List.lookup ("move" : Str) (wvF t)=none:=by rfl
theorem QfC(t:Int):List.lookup ("idle" : Str) (wvF t)=none:=by rfl
theorem QfD(t:Int):List.lookup ("hand_in" : Str) (wvF t)=none:=by rfl
theorem Qio(t:Int):List.lookup ("finish" : Str) (wvF t)=none:=by rfl
theorem kZ{e f g:DEx}{w w1:Hs}{a i:Nat}{ds:List DV}(he:e env w=some (d,w1))(hf:f env w1=some (.ref a,w1))(ha:w1[a]?=some (.lst ds))(hg:g env w1=some (.int (i:Int),w1))(hl:i < ds.length):Yb e (gSb f g) env w=some ((.nx,env),w1.set a (.lst (ds.set i d))):=by
 refine Gw he ?_;unfold gSb;rw[Qf hf,Qf hg];have:yp (.ref a) (.int (i:Int)) d w1=some ((),w1.set a (.lst (ds.set i d))):=by
  show(ZX a >>= _) w1=_;rw[Qf (ZF ha)];show(asI (.int (i:Int)) >>= λk=>match ixN ds.length k with | some j=>xE a (.lst (ds.set j d)) | none=>failure) w1=_
  rw[Qf (rfl:asI (.int (i:Int)) w1=some ((i:Int),w1)),kK hl];rfl
 rw[Qf this];rfl
theorem QdW{c f:Str}{o e:DEx}{hp:Hs}{a:Nat}{fs:List (Str×DV)}{x y:Int}(ho:o env hp=some (.ref a,hp))(h:hp[a]?=some (.ins c fs))(hf:fs.lookup f=some (.int x))(he:e env hp=some (.int y,hp))(hl:fs.length < 1000):X2 c f qX o e env hp=some ((.nx,env),hp.set a (.ins c (JJ f (.int (x+y)) fs))):=by
 unfold X2;have e1:ju c f (.ref a) hp=some (.int x,hp):=by unfold ju;rw[xo h,hf];rfl
 have e2:jF c f (.ref a) (.int (x+y)) hp=some ((),hp.set a (.ins c (JJ f (.int (x+y)) fs))):=by unfold jF;rw[xo h,Eg hl];rfl
 rw[Qf ho,Qf e1,Qf he,Qf (rfl:qX (.int x) (.int y) hp=some (.int (x+y),hp)),Qf e2];rfl
section
variable{hp:Hs}{t h m:Nat}{hs ds ys:List DV}
theorem QgU(h2:hp[2]?=some (.ins "Weaver" (wvF t)))(h3:hp[3]?=some (.lst ds))(h4:hp[4]?=some (.lst hs))(hl:h < hs.length){d:TR.Deed}(hd:ds[t]?=some (Ze d)):
  Jk [.ref 2,.int h] hp=some (.tup [.str "take", .int h,.int t],((hp++[wkO 0 (hp.length+1) (hp.length+2) (TR.fresh d),.dic [],.lst []]).set 4 (.lst (hs.set h (.tup [.int t,.ref hp.length])))).set 2 (.ins "Weaver" (wvF (t+1)))):=by
 let E:En:=[.val (.ref 2),.val (.int h),.val (.int t)]
 let w1:Hs:=hp++[wkO 0 (hp.length+1) (hp.length+2) (TR.fresh d),.dic [],.lst []]
 have g:∀{i:Nat}{o:OV},hp[i]?=some o->w1[i]?=some o:=λ{i o} e=>(Ai (Ad.mp e).1).trans e
 let w2:Hs:=w1.set 4 (.lst (hs.set h (.tup [.int t,.ref hp.length])))
 have h2':w2[2]?=some (.ins "Weaver" (wvF t)):=(QI _ _ _ _ (by decide)).trans (g h2)
 have mk:Xm "Walk" 3 Jp (Qc (QC "Weaver" "shelf" (Qb 0)) (Qc (Qk ixG (QC "Weaver" "deeds" (Qb 0)) (Qb 2)) (Qn))) E hp=some (.ref hp.length,w1):=Qdt (d:=d) (Jb (QK (Qe rfl) h2 (Qdy _)) (Qi (QK (Qe rfl) h2 (qq _)) (Qe rfl) (Vh h3 hd)));refine QF (env:=E) ((Qj (env1:=E) (QB (QK (Qe rfl) h2 (zK _)))).trans ?_);refine(Qj (env1:=E) (hp1:=w2) (kZ (JA (Jb (Qe rfl) mk) (by simp)) (QK (Qe rfl) (g h2) (qI _)) (g h4) (Qe rfl) hl)).trans ?_
 refine(Qj (env1:=E) (hp1:=w2.set 2 (.ins "Weaver" (wvF (t+1)))) ((QdW (Qe rfl) h2' (zK _) rfl (show(5:Nat) < 1000 by decide)).trans (by rw[Qg8]))).trans ?_
 exact QM (JA (Xu rfl (Qe rfl) (Qe rfl)) (by simp))
end
theorem uC{nxt:NX}{t:DV->M Bool}{f:DV->M DV}{g:DV->DV}(ds:List DV)(hx:∀i,i<=ds.length->nxt i hp=some (ds[i]?,hp))(ht:∀d∈ds,t d hp=some (true,hp))(hf:∀d∈ds,f d hp=some (g d,hp))(hl:ds.length < 100000):JF nxt t f 100000 0 hp=some (ds.map g,hp):=by
  suffices h:∀(m i n:Nat),m+i=ds.length->m < n->JF nxt t f n i hp=some ((ds.drop i).map g,hp) by simpa using h ds.length 0 100000 rfl hl
  intro m;induction m with
  | zero =>
    intro i n e hn';obtain⟨n,rfl⟩:∃k,n=k+1:=⟨n - 1,by lia⟩
    have:i=ds.length:=by lia
    subst this;have e1:=hx ds.length (Ag _);rw[show ds[ds.length]?=none by simp] at e1
    rw[JF,Qf e1,List.drop_length];rfl
  | succ m ih =>
    intro i n e hn';obtain⟨n,rfl⟩:∃k,n=k+1:=⟨n - 1,by lia⟩
    have hlt:i < ds.length:=by lia
    have e1:=hx i (by lia)
    rw[Ac hlt] at e1;rw[JF,Qf e1];simp only;rw[Qf (ht ds[i] (B9 hlt)),Bj hlt];simp only[if_true];rw[Qf (hf ds[i] (B9 hlt)),Qf (ih (i+1) n (by lia) (by lia))];rfl
theorem Vn{f:DEx}{hp:Hs}{n:Nat}(h:f env hp=some (.ref n,hp))(hn:hp[n]?=some (.lst ds)):xLs f env hp=some (nxW n,hp):=by
 unfold xLs;rw[Qf h];show(ZX n >>= _) hp=_;rw[Qf (ZF hn)];rfl
theorem YV{hp:Hs}{n:Nat}{ds:List DV}(hn:hp[n]?=some (.lst ds))(i:Nat):nxW n i hp=some (ds[i]?,hp):=by
 unfold nxW;rw[Qf (ZF hn)];rfl
theorem gX(p:DV->Bool):∀ds:List DV,blM (ds.map λd=>.bl (p d))=some (ds.map p)
 | []=>rfl
 | d::r=>by rw[Bc,blM,gX p r];rfl
section
variable{hp:Hs}{t h:Nat}{hs ds:List DV}{x:Int}
theorem QfT(h2:hp[2]?=some (.ins "Weaver" (wvF t)))(h3:hp[3]?=some (.lst ds))(h4:hp[4]?=some (.lst hs))(hl:hs.length < 1000):J3 [.ref 2] hp=some (.bl (((t:Int)==(ds.length:Int))&&hs.all isN),hp):=by
  let E:En:=[.val (.ref 2)]
  have cm:XQ E hp=some (.lst (hs.map λd=>.bl (isN d)),hp):=by
    unfold XQ J1;rw[Qf (Vn (QK (Qe rfl) h2 (qI _)) h4)];have c:=uC (nxt:=nxW 4) (t:=λd=>gH (cE [] E d)) (f:=λd=>Qk isD (Qb 0) (eC .non) (cE [] E d)) (g:=λd=>.bl (isN d)) (hp:=hp) hs (λi _=>YV h4 i) (λd _=>rfl) (λd _=>Qi (Qe rfl) rfl rfl) (by lia)
    rw[show lim=100000 from rfl,Qf c];rfl
  refine QF (env:=E) (QM ?_);rw[vb (Qi (QK (Qe rfl) h2 (zK _)) (qD (QK (Qe rfl) h2 (qq _)) h3) (eqI _ _ _))];cases ((t:Int)==(ds.length:Int)) with
  | false=>rfl
  | true =>
    rw[Ec rfl];refine XA (Zq cm) ?_;show(lsG (.lst (hs.map λd=>.bl (isN d))) >>= _) hp=_;rw[Qf (rfl:lsG (.lst (hs.map λd=>DV.bl (isN d))) hp=some (hs.map λd=>.bl (isN d),hp)),gX];show some (DV.bl ((hs.map isN).all id),hp)=_;rw[List.all_map];rfl
theorem Qb2(h2:hp[2]?=some (.ins "Weaver" (wvF t)))(h3:hp[3]?=some (.lst ds))(hl:ds.length < 1000):ZW [.ref 2,d] hp=some (.int ds.length,hp.set 3 (.lst (ds++[d]))):=by
 have h2':(hp.set 3 (.lst (ds++[d])))[2]?=some (.ins "Weaver" (wvF t)):=(QI _ _ _ _ (by decide)).trans h2
 have h3':(hp.set 3 (.lst (ds++[d])))[3]?=some (.lst (ds++[d])):=Zo _ _ _ (by rw[h3];rfl)
 refine QF (env:=[.val (.ref 2),.val d]) ((Qj (JL (xQ (QK (Qe rfl) h2 (qq _)) h3 (Qe rfl) (by lia)))).trans (QM (Qi (qD (QK (Qe rfl) h2' (qq _)) h3') rfl ?_)))
 show some (DV.int (((ds++[d]).length:Int) - 1),_)=_;rw[Ao];simp
theorem Qhn(h2:hp[2]?=some (.ins "Weaver" (wvF t)))(h4:hp[4]?=some (.lst hs)):Xe (eB (Xk leD ltD (eC (.int 0)) (Qb 1) (Zd Z4 (Qc (QC "Weaver" "held" (Qb 0)) (Qn))))) [.val (.ref 2),.val (.int x)] hp=some (!(decide (0<=x)&&decide (x < hs.length)),hp) :=
 X6 (QW (QbA rfl (Qe rfl) (qD (QK (Qe rfl) h2 (qI _)) h4) rfl rfl))
theorem uA(h2:hp[2]?=some (.ins "Weaver" (wvF t)))(h4:hp[4]?=some (.lst hs))(hl:h < hs.length):Xe (eB (Xk leD ltD (eC (.int 0)) (Qb 1) (Zd Z4 (Qc (QC "Weaver" "held" (Qb 0)) (Qn))))) [.val (.ref 2),.val (.int h)] hp=some (false,hp):=by
 rw[Qhn h2 h4,Eg (p:=(0:Int)<=h) (by lia),Eg (p:=(h:Int) < hs.length) (by lia)];rfl
theorem Qb8(h2:hp[2]?=some (.ins "Weaver" (wvF t)))(h4:hp[4]?=some (.lst hs))(hd:hs[h]?=some d):eB (Qk yb (Qk ixG (QC "Weaver" "held" (Qb 0)) (Qb 1)) (eC .non)) [.val (.ref 2),.val (.int h)] hp=some (!isN d,hp) :=
 QW (Qi (Qi (QK (Qe rfl) h2 (qI _)) (Qe rfl) (Vh h4 hd)) rfl rfl)
theorem Qft(h2:hp[2]?=some (.ins "Weaver" (wvF t)))(h4:hp[4]?=some (.lst hs))(hd:hs[h]?=some d)(hn:isN d=false)(e:J7 [.ref 2,.int h] hp=some (r,hp')):ZC [.ref 2,.int h] hp=some (r,hp') :=
 QF (env:=[.val (.ref 2),.val (.int h)]) ((Qj ((QS (uA h2 h4 (Ad.mp hd).1)).trans QT)).trans (Zp ((Zz ((Qb8 h2 h4 hd).trans (by rw[hn];rfl))).trans (QM (Q3 (Qe rfl) h2 (Qim _) (Zq (Qe rfl)) rfl e)))))
theorem QhJ(h2:hp[2]?=some (.ins "Weaver" (wvF t)))(h3:hp[3]?=some (.lst ds))(h4:hp[4]?=some (.lst hs))(hd:hs[h]?=some d)(hn:isN d=true)(ht:t < ds.length)(e:Jk [.ref 2,.int h] hp=some (r,hp')):ZC [.ref 2,.int h] hp=some (r,hp') :=
 QF (env:=[.val (.ref 2),.val (.int h)]) ((Qj ((QS (uA h2 h4 (Ad.mp hd).1)).trans QT)).trans ((Qj ((QS ((Qb8 h2 h4 hd).trans (by rw[hn];rfl))).trans QT)).trans (Zp ((Zz (QW (Qi (QK (Qe rfl) h2 (zK _)) (qD (QK (Qe rfl) h2 (qq _)) h3) (show some (DV.bl (decide ((t:Int) < ds.length)),hp)=some (.bl true,hp) by rw[Eg (by lia)])))).trans (QM (Q3 (Qe rfl) h2 (Qin _) (Zq (Qe rfl)) rfl e))))))
theorem QhI(h2:hp[2]?=some (.ins "Weaver" (wvF t)))(h3:hp[3]?=some (.lst ds))(h4:hp[4]?=some (.lst hs))(hd:hs[h]?=some d)(hn:isN d=true)(ht:¬ t < ds.length):ZC [.ref 2,.int h] hp=some (.tup [.str "rest", .int h],hp) :=
 QF (env:=[.val (.ref 2),.val (.int h)]) ((Qj ((QS (uA h2 h4 (Ad.mp hd).1)).trans QT)).trans ((Qj ((QS ((Qb8 h2 h4 hd).trans (by rw[hn];rfl))).trans QT)).trans ((Qj ((QS (QW (Qi (QK (Qe rfl) h2 (zK _)) (qD (QK (Qe rfl) h2 (qq _)) h3) (show some (DV.bl (decide ((t:Int) < ds.length)),hp)=some (.bl false,hp) by rw[Ei (by lia)])))).trans QT)).trans (QM (JA (Jb rfl (Qe rfl)) (by simp))))))
end
def hdD(v:TR.Wk)(n a:Nat):DV:=if v.O7=true then .non else .tup [.int n,.ref a]
def Qhp(i n:Nat):DV->DV
 | .tup (x::xs)=>.tup ([x,.int i,.int n]++xs)
 | _=>.non
def vH(i:Nat):TR.Out->DV
 | .rest=>.tup [.str "rest", .int i]
 | .take n=>.tup [.str "take", .int i,.int n]
 | .did n r=>Qhp i n (Gv r)
structure WB(w:Hs)(ds:List TR.Deed)(s:TR.St)(L:Nat->Nat):Prop where
 h1:w[0]?=some (.ins "Shelf" (shF s.S.O2 1 s.S.top s.S.rd s.S.wr))
 h2:w[1]?=some (.lst (s.S.pg.map pgD))
 hv:w[2]?=some (.ins "Weaver" (wvF s.tk))
 hd:w[3]?=some (.lst (ds.map Ze))
 hh:∃hs,w[4]?=some (.lst hs)/\hs.length=s.ws.length/\∀(i:Nat)(v:TR.Wk),s.ws[i]?=some v->hs[i]?=some (hdD v (s.ns.getD i 0) (L i))
 hn:∃ys,w[5]?=some (.lst ys)/\ys.length+TR.lc s.ws<=s.tk
 ob:∀(i:Nat)(v:TR.Wk),s.ws[i]?=some v->v.O7=false->w[L i]?=some (wkO 0 (L i+1) (L i+2) v)/\w[L i+1]?=some (.dic (fkD v.O3))/\w[L i+2]?=some (.lst (prD v.O5))/\5 < L i
 dj:∀(i j:Nat)(v u:TR.Wk),i≠j->s.ws[i]?=some v->v.O7=false->s.ws[j]?=some u->u.O7=false->L i+2 < L j∨L j+2 < L i
structure Fw(C:Nat->Prop)(w:Hs)(s:TR.St)(L:Nat->Nat)(w':Hs)(s':TR.St)(L':Nat->Nat):Prop where
 len:w.length<=w'.length
 own:∀(i:Nat)(v:TR.Wk),s'.ws[i]?=some v->v.O7=false->(∃u,s.ws[i]?=some u/\u.O7=false/\L' i=L i)∨w.length<=L' i
 old:∀x,x < w.length->¬ C x->(∀(i:Nat)(u:TR.Wk),s.ws[i]?=some u->u.O7=false->x < L i∨L i+2 < x)->w'[x]?=w[x]?
def CW(x:Nat):Prop:=x=0∨x=1∨x=2∨x=4∨x=5
section
variable{C:Nat->Prop}{w w1 w2:Hs}{s s1 s2:TR.St}{L L1 L2:Nat->Nat}{ds:List TR.Deed}{bg:TR.Bg}{b:Nat->Nat}
def Fw.refl:Fw C w s L w s L:=⟨Ag _,λi v h e=>.inl ⟨v,h,e,rfl⟩,λ_ _ _ _=>rfl⟩
theorem Fw.trans(a:Fw C w s L w1 s1 L1)(c:Fw C w1 s1 L1 w2 s2 L2):Fw C w s L w2 s2 L2:=by
 have l1:=a.len;refine⟨Bk a.len c.len,λi v h e=>?_,λx hx hC hL=>?_⟩
 ·rcases c.own i v h e with ⟨u,h1,e1,q⟩ | q
  ·rw[q];exact a.own i u h1 e1
  ·exact .inr (by lia)
 ·rw[c.old x (by lia) hC λi u h e=>?_]
  ·exact a.old x hx hC hL
  ·rcases a.own i u h e with ⟨v,h1,e1,q⟩ | q
   ·rw[q];exact hL i v h1 e1
   ·exact .inl (by lia)
theorem kG{v:TR.Wk}{n a:Nat}(h:v.O7=true):hdD v n a=.non:=by unfold hdD;rw[Ec h]
theorem kF{v:TR.Wk}{n a:Nat}(h:v.O7=false):hdD v n a=.tup [.int n,.ref a]:=by unfold hdD;rw[Eb (by rw[h];simp)]
theorem vQ{v v':TR.Wk}{r:TR.Row}(h:TR.JZ S v=some (r,S',v'))(he:v.O7=false)(T:TR.Tree S bg)(W:TR.WOk S bg v):∃x xs,Gv r=.tup (x::xs)/\xs.length<=10:=by
  cases r with
  | non =>
    exfalso;unfold TR.JZ at h;rw[Eb (by rw[he];simp)] at h
    split at h
    . cases h
    . split at h
      . split at h<;>cases h
      . split at h
        . split at h<;>cases h
        . split at h
          . split at h<;>cases h
          . split at h
            . split at h
              . cases h
              . cases h
            . have e:=Am h
              unfold TR.Jc at e;split at e
              . cases e
              . cases e
              . cases e
              . split at e
                . split at e<;>cases e
                . cases e
  | side n t=>exact⟨_,_,rfl,Nat.le_of_ble_eq_true rfl⟩
  | down n t=>exact⟨_,_,rfl,Nat.le_of_ble_eq_true rfl⟩
  | found n t=>exact⟨_,_,rfl,Nat.le_of_ble_eq_true rfl⟩
  | put n t k=>exact⟨_,_,rfl,Nat.le_of_ble_eq_true rfl⟩
  | cut n t=>exact⟨_,_,rfl,Nat.le_of_ble_eq_true rfl⟩
  | read n ps t=>cases t with
    | none=>exact⟨_,_,rfl,Nat.le_of_ble_eq_true rfl⟩
    | some t=>obtain⟨t,a⟩:=t;exact⟨_,_,rfl,Nat.le_of_ble_eq_true rfl⟩
  | told n k=>exact⟨_,_,rfl,Nat.le_of_ble_eq_true rfl⟩
  | raised n t=>exact⟨_,_,rfl,Nat.le_of_ble_eq_true rfl⟩
theorem Qcg{v v':TR.Wk}{ws:List TR.Wk}{i:Nat}(h:ws[i]?=some v):TR.lc (ws.set i v')+(if v.O7=false then 1 else 0)=TR.lc ws+(if v'.O7=false then 1 else 0):=by
 have:=TR.jV TR.lf ws i v v' h;unfold TR.lf at this;unfold TR.lc TR.lf;simpa using this
theorem Qcu(A:WB w ds s L)(Y:TR.StOk ds s bg b){i:Nat}(hi:i < s.ws.length)(h48:ds.length<=60)(h11:5 < w.length)(hb:b i<=9000){o:TR.Out}{s':TR.St}(hm:TR.mv ds s i=some (o,s')):∃w' L',ZC [.ref 2,.int i] w=some (vH i o,w')/\WB w' ds s' L'/\Fw CW w s L w' s' L':=by
  obtain⟨hs,k6,hsl,hsi⟩:=A.hh;obtain⟨ys,k7,hyl⟩:=A.hn;have tkl:=Y.tk;have hw:=Ac hi;generalize s.ws[i]=v at hw;have hvi:=hsi i v hw;unfold TR.mv at hm;rw[hw] at hm;dsimp only at hm;cases he:v.O7 with
  | true =>
    rw[he,Ec rfl] at hm;rw[kG he] at hvi;cases hd:ds[s.tk]? with
    | none =>
      rw[hd] at hm;cases hm;have le:ds.length<=s.tk:=by simpa using hd
      exact⟨w,L,QhI A.hv A.hd k6 hvi rfl (by rw[Bt];lia),A,Fw.refl⟩
    | some d =>
      rw[hd] at hm;cases hm;have lt:s.tk < ds.length:=(Ad.mp hd).1;have e:=QgU (h:=i) A.hv A.hd k6 (by lia) (d:=d) (by rw[Bv,hd];rfl)
      have l7:5 < w.length:=(Ad.mp k7).1;have old:∀{x:Nat} {z:OV},x≠2->x≠4->w[x]?=some z->(((w++[wkO 0 (w.length+1) (w.length+2) (TR.fresh d),.dic [],.lst []]).set 4 (.lst (hs.set i (.tup [.int s.tk,.ref w.length])))).set 2 (.ins "Weaver" (wvF (s.tk+1))))[x]?=some z:=λ{x z} n4 n6 hx=>gs (Ne.symm n4) (gs (Ne.symm n6) ((Ai (Ad.mp hx).1).trans hx));have gap:∀j x,[wkO 0 (w.length+1) (w.length+2) (TR.fresh d),.dic [],.lst []][j]?=some x->(w++[wkO 0 (w.length+1) (w.length+2) (TR.fresh d),.dic [],.lst []])[w.length+j]?=some x:=λj x h=>by rw[Ar (by lia),Nat.add_sub_cancel_left];exact h
      have lcs:=Qcg (v':=TR.fresh d) hw;rw[Eb (by rw[he];simp),Ec (show(TR.fresh d).O7=false from rfl)] at lcs
      refine⟨_,λj=>if j=i then w.length else L j,QhJ A.hv A.hd k6 hvi rfl (by rw[Bt];exact lt) e,⟨old (by decide) (by decide) A.h1,old (by decide) (by decide) A.h2,gss (gs (by decide) ((Ai (by lia)).trans A.hv)),old (by decide) (by decide) A.hd,⟨hs.set i (.tup [.int s.tk,.ref w.length]),gs (by decide) (gss ((Ai (by lia)).trans k6)),by simp[hsl],λj u hj=>?_⟩,⟨ys,old (by decide) (by decide) k7,by show ys.length+TR.lc (s.ws.set i (TR.fresh d))<=s.tk+1;lia⟩,λj u hj hu=>?_,λj j' u u' hne hj hu hj' hu'=>?_⟩,⟨by simp,λj u hj hu=>?_,λx hx hC _=>?_⟩⟩
      . rcases TR.Q2 hj with ⟨rfl,e2,_⟩ | ⟨ne,hj⟩
        . rw[e2,Av (by lia)]
          show _=some (hdD (TR.fresh d) ((s.ns.set j s.tk).getD j 0) (if j=j then w.length else L j))
          rw[Ec rfl,kF rfl,Cq,Av (by rw[Y.len];lia)];rfl
        . rw[An (Ne.symm ne)]
          show _=some (hdD u ((s.ns.set i s.tk).getD j 0) (if j=i then w.length else L j))
          rw[Eb ne,Cq,An (Ne.symm ne),<- Cq];exact hsi j u hj
      . rcases TR.Q2 hj with ⟨rfl,e2,_⟩ | ⟨ne,hj⟩
        . rw[e2,Ec rfl]
          exact⟨gs (by lia) (gs (by lia) (gap 0 _ rfl)),gs (by lia) (gs (by lia) (gap 1 _ rfl)),gs (by lia) (gs (by lia) (gap 2 _ rfl)),h11⟩
        . rw[Eb ne]
          obtain⟨o1,o2,o3,o4⟩:=A.ob j u hj hu;exact⟨old (by lia) (by lia) o1,old (by lia) (by lia) o2,old (by lia) (by lia) o3,o4⟩
      . have small:∀(j:Nat)(u:TR.Wk),s.ws[j]?=some u->u.O7=false->L j+2 < w.length:=λj u hj hu=>(Ad.mp (A.ob j u hj hu).2.2.1).1
        rcases TR.Q2 hj with ⟨rfl,e2,_⟩ | ⟨ne,hj2⟩
        . rcases TR.Q2 hj' with ⟨rfl,e3,_⟩ | ⟨ne',hj3⟩
          . exact absurd rfl hne
          . rw[Ec rfl,Eb ne'];exact .inr (small _ _ hj3 hu')
        . rcases TR.Q2 hj' with ⟨rfl,e3,_⟩ | ⟨ne',hj3⟩
          . rw[Eb ne,Ec rfl];exact .inl (small _ _ hj2 hu)
          . rw[Eb ne,Eb ne'];exact A.dj j j' u u' hne hj2 hu hj3 hu'
      . rcases TR.Q2 hj with ⟨rfl,e2,_⟩ | ⟨ne,hj⟩
        . rw[Ec rfl];exact .inr (Ag _)
        . rw[Eb ne];exact .inl ⟨u,hj,hu,rfl⟩
      . rw[QI _ _ _ _ (λh=>hC (by unfold CW;lia)),QI _ _ _ _ (λh=>hC (by unfold CW;lia)),Ai hx]
  | false =>
    rw[he,Eb (by simp)] at hm
    have W:=Y.A.ok i v hw he;cases es:TR.JZ s.S v with
    | none=>rw[es] at hm;cases hm
    | some q =>
      obtain⟨r,S2,v2⟩:=q;rw[es] at hm;cases hm;rw[kF he] at hvi;obtain⟨o1,o2,o3,o4⟩:=A.ob i v hw he;have D:Dif 0 1 (L i) (L i+1) (L i+2):=⟨by decide,by lia,by lia,by lia,by lia,by lia,by lia,by lia,by lia,by lia⟩
      have pg:=Y.pages;have fl:=(Y.fk i v hw he).len Y.T;have pl:=Y.pr i v hw he;obtain⟨w1,e1,A1,F1⟩:=QeX Y.T W (Bk Y.rm (by decide)) ⟨A.h1,A.h2,o1,o2,o3⟩ D (by lia) (by lia) (by lia) es
      obtain⟨x,xs,ex,xl⟩:=vQ es he Y.T W;have k:∀{j:Nat}{z:OV},j≠0->j≠1->(j < L i∨L i+2 < j)->w[j]?=some z->w1[j]?=some z:=λ{j z} n2 n3 nL hj=>(F1.2 j (Ad.mp hj).1 n2 n3 (by lia) (by lia) (by lia)).trans hj
      have hv1:=k (by decide) (by decide) (.inl (by lia)) A.hv
      have k61:=k (by decide) (by decide) (.inl (by lia)) k6
      have k71:=k (by decide) (by decide) (.inl (by lia)) k7
      let n:=s.ns.getD i 0
      let Hd:DV:=.tup [.int n,.ref (L i)]
      let E:Sl->Sl->Sl->En:=λx y z=>[.val (.ref 2),.val (.int i),x,y,z]
      let E5:En:=E (.val Hd) (.val (.ref (L i))) (.val (Gv r))
      have u1:QA 2 (Qk ixG (QC "Weaver" "held" (Qb 0)) (Qb 1)) (E .un .un .un) w=some ((.nx,E (.val Hd) .un .un),w):=QB (Qi (QK (Qe rfl) A.hv (qI _)) (Qe rfl) (Vh k6 hvi));have u2:QA 3 (Qk ixG (Qb 2) (eC (.int 1))) (E (.val Hd) .un .un) w=some ((.nx,E (.val Hd) (.val (.ref (L i))) .un),w):=QB (Qi (x:=Hd) (Qe rfl) rfl (Z1 (i:=1) rfl w));have u3:QA 4 (Qv "Walk" "step" 1 Yy (Qb 3) Qn) (E (.val Hd) (.val (.ref (L i))) .un) w=some ((.nx,E5),w1):=QB (Q3 (Qe rfl) o1 (Qe6 ..) qJ rfl e1);have ovr:eB (Qv "Walk" "over" 1 XJ (Qb 3) Qn) E5 w1=some (v2.O7,w1):=QW (Q3 (Qe rfl) A1.h3 (Qe7 ..) qJ rfl (Qeh A1.h3));have ret:∀w':Hs,QP (Qk ZL (ZE (Qc (Qk ixG (Qb 4) (eC (.int 0))) (Qc (Qb 1) (Qc (Qk ixG (Qb 2) (eC (.int 0))) (Qn))))) (eSl (Qb 4) (ZO (eC (.int 1))) (ZN))) E5 w'=some ((.rt (Qhp i n (Gv r)),E5),w'):=λw'=>by
        have e0:Qb 4 E5 w'=some (.tup (x::xs),w'):=by rw[<- ex];exact Qe rfl
        refine QM (Qi (JA (Xu (Qi e0 rfl (Z1 (i:=0) rfl w')) (Qe rfl) (Qi (x:=Hd) (Qe rfl) rfl (Z1 (i:=0) rfl w'))) (by simp)) (Qdk (a:=1) e0 rfl) ?_)
        rw[ex];show(Qy (YM ([x,.int i,.int n]++xs)) >>= λ_=>pure (DV.tup ([x,.int i,.int n]++xs))) w'=_;rw[Xb (by simp;lia)];rfl
      have lcs:=Qcg (v':=v2) hw;rw[Ec he] at lcs;have hil:i < hs.length:=by lia
      have back:∀(w':Hs)(hs' ys':List DV),(∀(j:Nat)(z:OV),j≠4->j≠5->w1[j]?=some z->w'[j]?=some z)->w1.length<=w'.length->(∀j,j < w1.length->j≠4->j≠5->w'[j]?=w1[j]?)->w'[4]?=some (.lst hs')->hs'.length=hs.length->(∀j,j≠i->hs'[j]?=hs[j]?)->hs'[i]?=some (hdD v2 n (L i))->w'[5]?=some (.lst ys')->ys'.length+TR.lc (s.ws.set i v2)<=s.tk->WB w' ds { s with S:=S2,ws:=s.ws.set i v2 } L/\Fw CW w s L w' { s with S:=S2,ws:=s.ws.set i v2 } L:=by
        intro w' hs' ys' gg ll fr g6 hl6 hj6 hi6 g7 hl7;refine⟨⟨gg 0 _ (by decide) (by decide) A1.h1,gg 1 _ (by decide) (by decide) A1.h2,gg 2 _ (by decide) (by decide) hv1,gg 3 _ (by decide) (by decide) (k (by decide) (by decide) (.inl (by lia)) A.hd),⟨hs',g6,by simp[hl6,hsl],λj u hj=>?_⟩,⟨ys',g7,hl7⟩,λj u hj hu=>?_,λj j' u u' hne hj hu hj' hu'=>?_⟩,⟨Bk F1.1 ll,λj u hj hu=>?_,λy hy hC hL=>?_⟩⟩
        . rcases TR.Q2 hj with ⟨rfl,e2,_⟩ | ⟨ne,hj⟩
          . rw[e2];exact hi6
          . rw[hj6 j ne];exact hsi j u hj
        . rcases TR.Q2 hj with ⟨rfl,e2,_⟩ | ⟨ne,hj⟩
          . rw[e2];exact⟨gg _ _ (by lia) (by lia) A1.h3,gg _ _ (by lia) (by lia) A1.h4,gg _ _ (by lia) (by lia) A1.h5,o4⟩
          . obtain⟨p1,p2,p3,p4⟩:=A.ob j u hj hu
            have dd:=A.dj i j v u (Ne.symm ne) hw he hj hu;exact⟨gg _ _ (by lia) (by lia) (k (by lia) (by lia) (by lia) p1),gg _ _ (by lia) (by lia) (k (by lia) (by lia) (by lia) p2),gg _ _ (by lia) (by lia) (k (by lia) (by lia) (by lia) p3),p4⟩
        . have lv:∀(j:Nat)(u:TR.Wk),(s.ws.set i v2)[j]?=some u->u.O7=false->∃u0,s.ws[j]?=some u0/\u0.O7=false:=λj u hj hu=>by
            rcases TR.Q2 hj with ⟨rfl,e2,_⟩ | ⟨ne,hj⟩
            . exact⟨v,hw,he⟩
            . exact⟨u,hj,hu⟩
          obtain⟨u0,a1,a2⟩:=lv j u hj hu;obtain⟨u1,a3,a4⟩:=lv j' u' hj' hu';exact A.dj j j' u0 u1 hne a1 a2 a3 a4
        . rcases TR.Q2 hj with ⟨rfl,e2,_⟩ | ⟨ne,hj⟩
          . exact .inl ⟨v,hw,he,rfl⟩
          . exact .inl ⟨u,hj,hu,rfl⟩
        . have q:=hL i v hw he
          have l1:=F1.1;rw[fr y (by lia) (λh=>hC (by unfold CW;lia)) (λh=>hC (by unfold CW;lia))]
          exact F1.2 y hy (λh=>hC (by unfold CW;lia)) (λh=>hC (by unfold CW;lia)) (by lia) (by lia) (by lia)
      cases hv2:v2.O7 with
      | false =>
        rw[hv2] at ovr;rw[Ec hv2] at lcs;obtain⟨b1,b2⟩:=back w1 hs ys (λ_ _ _ _ h=>h) (Ag _) (λ_ _ _ _=>rfl) k61 rfl (λ_ _=>rfl) (by rw[kF hv2];exact hvi) k71 (by lia)
        exact⟨w1,L,Qft A.hv k6 hvi rfl (QF (env:=E5) ((Qj u1).trans ((Qj u2).trans ((Qj u3).trans ((Qj ((QS ovr).trans QT)).trans (ret w1)))))),b1,b2⟩
      | true =>
        rw[hv2] at ovr;rw[Eb (by rw[hv2];simp)] at lcs
        let w2:Hs:=w1.set 4 (.lst (hs.set i .non))
        have hv2':w2[2]?=some (.ins "Weaver" (wvF s.tk)):=gs (by decide) hv1
        have k72:w2[5]?=some (.lst ys):=gs (by decide) k71
        let w3:Hs:=w2.set 5 (.lst (ys++[Hd]))
        have u4:sIf (eB (Qv "Walk" "over" 1 XJ (Qb 3) Qn)) (Qr (Yb (eC .non) (gSb (QC "Weaver" "held" (Qb 0)) (Qb 1))) (ZK (Xd "list" ZG (QC "Weaver" "done" (Qb 0)) (Qc (Qb 2) (Qn))))) (Zi) E5 w1=some ((.nx,E5),w3):=(Zz ovr).trans ((Qj (env1:=E5) (hp1:=w2) (kZ rfl (QK (Qe rfl) hv1 (qI _)) k61 (Qe rfl) hil)).trans (JL (xQ (QK (Qe rfl) hv2' (Qe8 _)) k72 (Qe rfl) (by lia))))
        obtain⟨b1,b2⟩:=back w3 (hs.set i .non) (ys++[Hd]) (λj z n6 n7 h=>gs (Ne.symm n7) (gs (Ne.symm n6) h)) (by show w1.length<=((w1.set 4 _).set 5 _).length;simp) (λj _ n6 n7=>(QI _ _ _ _ (Ne.symm n7)).trans (QI _ _ _ _ (Ne.symm n6))) (gs (by decide) (gss k61)) (by simp) (λj hj=>An (Ne.symm hj)) (by rw[kG hv2];exact Av hil) (gss k72) (by simp;lia)
        exact⟨w3,L,Qft A.hv k6 hvi rfl (QF (env:=E5) ((Qj u1).trans ((Qj u2).trans ((Qj u3).trans ((Qj u4).trans (ret w3)))))),b1,b2⟩
end
theorem QdE{o e:DEx}{hp hp1:Hs}{a:Nat}{cs ds:List DV}(ho:o env hp=some (.ref a,hp))(h0:hp[a]?=some (.lst cs))(he:e env hp=some (d,hp1))(h:hp1[a]?=some (.lst ds))(hl:ds.length < 100000):Xd "list" ZG o (Qc e Qn) env hp=some (.non,hp1.set a (.lst (ds++[d]))):=by
 unfold Xd;rw[Qf ho];have e2:X0 "list" (.ref a) hp=some ((),hp):=by
  show(ZX a >>= _) hp=_;rw[Qf (ZF h0)];rfl
 rw[Qf e2,Qf (Zq he)];show(ZX a >>= _) hp1=_;rw[Qf (ZF h)];show(Qy (decide (ds.length < lim)) >>= _) hp1=_;rw[Eg (by unfold lim;exact hl)];rfl
theorem QdD{hs:List DV}{ws:List TR.Wk}(hl:hs.length=ws.length)(h:∀(i:Nat)(v:TR.Wk),ws[i]?=some v->∃d,hs[i]?=some d/\isN d=v.O7):hs.all isN=ws.all (·.O7):=by
 rw[Bool.eq_iff_iff,List.all_eq_true,List.all_eq_true];constructor
 ·intro a v hv
  obtain⟨i,hi⟩:=List.getElem?_of_mem hv;obtain⟨d,h1,h2⟩:=h i v hi;rw[<- h2];exact a d (Ax h1)
 ·intro a d hd
  obtain⟨i,hi⟩:=List.getElem?_of_mem hd;have li:=(Ad.mp hi).1;have hv:ws[i]?=some ws[i]:=Ac (by lia)
  obtain⟨d',h1,h2⟩:=h i _ hv;rw[hi] at h1;cases h1;rw[h2];exact a _ (Ax hv)
section
variable{w w1 w2:Hs}{s s1 s2:TR.St}{L L1 L2:Nat->Nat}{ds:List TR.Deed}{bg:TR.Bg}{b:Nat->Nat}
theorem Qfn(A:WB w ds s L)(hl:s.ws.length < 1000):J3 [.ref 2] w=some (.bl (TR.still ds s),w):=by
 obtain⟨hs,k6,hsl,hsi⟩:=A.hh;rw[QfT A.hv A.hd k6 (by lia),QdD hsl λi v hi=>⟨_,hsi i v hi,by
  cases he:v.O7 with
  | true=>rw[kG he];rfl
  | false=>rw[kF he];rfl⟩]
 congr 2;unfold TR.still;rw[Bt];congr 1;have:((s.tk:Int)==(ds.length:Int))=decide (s.tk=ds.length):=by
  by_cases e:s.tk=ds.length
  ·rw[e];simp
  ·rw[Ei e,beq_eq_false_iff_ne];lia
 rw[this]
def Qfy(H:Nat):Nat->List TR.Out->List DV
 | _,[]=>[]
 | h,o::os=>vH h o::Qfy H ((h+1) % H) os
theorem QbV{H f:Nat}(h60:ds.length<=60)(hf:5 < f)(hH0:0 < H)(hH8:H<=8){h:Nat}{os:List TR.Out}(R:TR.Run ds H 9000 h s os s2):∀(w:Hs)(L:Nat->Nat)(rs:List DV)(fuel:Nat),TR.still ds s2=true->s.ws.length=H->WB w ds s L->w[f]?=some (.lst rs)->(∀(i:Nat)(v:TR.Wk),s.ws[i]?=some v->v.O7=false->f < L i∨L i+2 < f)->rs.length+os.length < 90000->os.length < fuel ->
    ∃w' L' h',J2 (Xe (eB (Qv "Weaver" "idle" 1 J3 (Qb 0) Qn))) (YE) fuel [.val (.ref 2),.val (.ref f),.val (.int h)] w=some ((.nx,[.val (.ref 2),.val (.ref f),.val (.int h')]),w')/\WB w' ds s2 L'/\w'[f]?=some (.lst (rs++Qfy H h os))/\Fw (λx=>CW x∨x=f) w s L w' s2 L':=by
  induction R with
  | nil h s =>
    intro w L rs fuel hs hl A gf hL hn hu;obtain⟨g,rfl⟩:∃g,fuel=g+1:=⟨fuel - 1,by lia⟩
    refine⟨w,L,h,Qe2 (X6 (b:=true) (QW ((Q3 (Qe rfl) A.hv (QfC _) qJ rfl (Qfn A (by lia))).trans (by rw[hs])))),A,by show _=some (OV.lst (rs++[]));rw[Bu];exact gf,Fw.refl⟩
  | @cons h s s1 s2 o os hs0 hlt yy em R ih =>
    intro w L rs fuel hs hl A gf hL hn hu;obtain⟨g,rfl⟩:∃g,fuel=g+1:=⟨fuel - 1,by lia⟩
    obtain⟨bg,b,Y,hb⟩:=yy;have lf:f < w.length:=(Ad.mp gf).1;obtain⟨w1,L1,e1,A1,F1⟩:=Qcu A Y hlt h60 (by lia) (hb h) em
    have gf1:w1[f]?=some (.lst rs):=(F1.old f lf (by unfold CW;lia) hL).trans gf
    obtain⟨_,s1',_,em',_,l1,_⟩:=TR.Qcx Y hlt;rw[em] at em';cases em';obtain⟨hs6,k6,hsl,_⟩:=A1.hh;simp only[Bb] at hn hu
    let w2:Hs:=w1.set f (.lst (rs++[vH h o]))
    have gg:∀{j:Nat}{z:OV},j≠f->w1[j]?=some z->w2[j]?=some z:=λ{j z} n hj=>gs (Ne.symm n) hj;have hL1:∀(i:Nat)(v:TR.Wk),s1.ws[i]?=some v->v.O7=false->f < L1 i∨L1 i+2 < f:=λi v hi hv=>by
      rcases F1.own i v hi hv with ⟨u,a1,a2,a3⟩ | q
      . rw[a3];exact hL i u a1 a2
      . exact .inl (by lia)
    have A2:WB w2 ds s1 L1:=⟨gg (by lia) A1.h1,gg (by lia) A1.h2,gg (by lia) A1.hv,gg (by lia) A1.hd,(by obtain⟨a,b1,c1⟩:=A1.hh;exact⟨a,gg (by lia) b1,c1⟩),(by obtain⟨a,b1,c1⟩:=A1.hn;exact⟨a,gg (by lia) b1,c1⟩),λi v hi hv=>by
      obtain⟨p1,p2,p3,p4⟩:=A1.ob i v hi hv;have q:=hL1 i v hi hv;exact⟨gg (by lia) p1,gg (by lia) p2,gg (by lia) p3,p4⟩,A1.dj⟩
    let E:En:=[.val (.ref 2),.val (.ref f),.val (.int h)]
    have u1:ZK (Xd "list" ZG (Qb 1) (Qc (Qv "Weaver" "move" 2 ZC (Qb 0) (Qc (Qb 2) (Qn))) (Qn))) E w=some ((.nx,E),w2):=JL (QdE (Qe rfl) gf (Q3 (Qe rfl) A.hv (QfB _) (Zq (Qe rfl)) rfl e1) gf1 (by lia))
    have md:(((h:Int)+1) % ((H:Nat):Int))=(((h+1) % H:Nat):Int):=by rw[Int.natCast_emod,Int.natCast_add];rfl
    have u2:QA 2 (Qk XN (Qk ZL (Qb 2) (eC (.int 1))) (Zd Z4 (Qc (QC "Weaver" "held" (Qb 0)) (Qn)))) E w2=some ((.nx,[.val (.ref 2),.val (.ref f),.val (.int ((h+1) % H:Nat))]),w2):=QB (Qi (x:=.int ((h:Int)+1)) (y:=.int (H:Nat)) (Qi (Qe rfl) rfl rfl) ((qD (QK (Qe rfl) A2.hv (qI _)) (gg (by lia) k6)).trans (by rw[hsl,l1,hl])) ((Zt (Ju _ _ (by lia)) w2).trans (by rw[md])))
    obtain⟨w3,L3,h3,e3,A3,g3,F3⟩:=ih w2 L1 (rs++[vH h o]) g hs (by rw[l1];exact hl) A2 (gss gf1) hL1 (by simp;lia) (by lia)
    refine⟨w3,L3,h3,(Qam (X6 (b:=false) (QW ((Q3 (Qe rfl) A.hv (QfC _) qJ rfl (Qfn A (by lia))).trans (by rw[hs0])))) ((Qj u1).trans u2)).trans e3,A3,by rw[g3,A9];rfl,?_⟩
    . refine Fw.trans (w1:=w2) (s1:=s1) (L1:=L1) ⟨by show w.length<=(w1.set f _).length;rw[List.length_set];exact F1.len,F1.own,λx hx hC hx2=>?_⟩ F3
      show(w1.set f _)[x]?=_;rw[QI _ _ _ _ (λe=>hC (.inr e.symm))];exact F1.old x hx (λc=>hC (.inl c)) hx2
end
theorem Qc2{f g:DSx}(h:f env hp=some ((.bk,env1),hp1)):Qr f g env hp=some ((.bk,env1),hp1):=by
 unfold Qr;rw[Qf h];rfl
structure Sx(s:TR.St)(w v:Hs):Prop where
 h1:∃x,v[0]?=some (.ins "Shelf" (shF s.S.O2 1 s.S.top x s.S.wr))
 h2:v[1]?=some (.lst (s.S.pg.map pgD))
 ln:w.length<=v.length
 ok:∀j,j < w.length->j≠0->v[j]?=w[j]?
section
variable{w v:Hs}{s:TR.St}{bg:TR.Bg}{n a:Nat}{p:TR.Pg}
theorem Sx.read(A:Sx s w v)(hn:s.S.pg[n]?=some p):∃v',QN [.ref 0,.int n] v=some (pgD p,v')/\Sx s w v'/\v'.length=v.length/\∀j,j≠0->v'[j]?=v[j]?:=by
 obtain⟨x,h1⟩:=A.h1;have r:=Qaa (i:=n) (d:=pgD p) h1 A.h2 (by decide) (by rw[Bv,hn];rfl)
 exact⟨_,r,⟨⟨_,gss h1⟩,gs (by decide) A.h2,by rw[List.length_set];exact A.ln,λj hj h0=>(QI _ _ _ _ (Ne.symm h0)).trans (A.ok j hj h0)⟩,List.length_set,λj h0=>QI _ _ _ _ (Ne.symm h0)⟩
theorem Sx.meth(A:Sx s w v)(hn:s.S.pg[n]?=some p){f:DEx}{env:En}(h0:env[0]?=some (.val (.ref 0)))(hf:f env v=some (.int n,v)):∃v',Qv "Shelf" "read" 2 QN (Qb 0) (Qc f Qn) env v=some (pgD p,v')/\Sx s w v'/\v'.length=v.length/\∀j,j≠0->v'[j]?=v[j]?:=by
 obtain⟨x,h1⟩:=A.h1;obtain⟨v',e,r⟩:=A.read hn;exact⟨v',Q3 (Qe h0) h1 (Ug ..) (Zq hf) rfl e,r⟩
theorem Sx.pages(A:Sx s w v){env:En}(h0:env[0]?=some (.val (.ref 0))):Qv "Shelf" "pages" 1 Zr (Qb 0) Qn env v=some (.int (s.S.pg.length:Nat),v):=by
 obtain⟨x,h1⟩:=A.h1;exact(Q3 (Qe h0) h1 (yS ..) qJ rfl (vI h1 A.h2)).trans (by rw[Bt])
theorem Sx.put(A:Sx s w v)(ha:w.length<=a)(h1:1 < w.length):Sx s w (v.set a o):=by
 obtain⟨x,h⟩:=A.h1;exact⟨⟨x,gs (by lia) h⟩,gs (by lia) A.h2,by rw[List.length_set];exact A.ln,λj hj h0=>(QI _ _ _ _ (by lia)).trans (A.ok j hj h0)⟩
theorem Sx.app(A:Sx s w v):Sx s w (v++[o]):=by
 obtain⟨x,h⟩:=A.h1;have g:∀{j:Nat}{z:OV},v[j]?=some z->(v++[o])[j]?=some z:=λ{j z} e=>(Ai (Ad.mp e).1).trans e;have:=A.ln;exact⟨⟨x,g h⟩,g A.h2,by simp;lia,λj hj h0=>(Ai (by lia)).trans (A.ok j hj h0)⟩
theorem QaV(h1:1 < w.length)(ha:w.length<=a){r:List Nat}(c:TR.Chain s.S n r):∀(i fuel:Nat)(v:Hs)(F:List Nat)(e2 z4:Sl),Sx s w v->v[a]?=some (.lst (nD F))->(F++r).Nodup->i+r.length<=s.S.pg.length->s.S.pg.length - i < fuel->(F++r).length < 90000 ->
    ∃v' z4',Jl (nxD (Zc 0 s.S.pg.length)) (λd env=>gN 4 d env >>= λenv'=>Jo env') fuel i [.val (.ref 0),.val (.int n),e2,.val (.ref a),z4] v=some ((.nx,[.val (.ref 0),.val .non,e2,.val (.ref a),z4']),v')/\Sx s w v'/\v'.length=v.length/\v'[a]?=some (.lst (nD (F++r)))/\∀j,j≠0->j≠a->v'[j]?=v[j]?:=by
  have nxt:∀(i:Nat)(v:Hs),i < s.S.pg.length->nxD (Zc 0 s.S.pg.length) i v=some (some (.int (i:Int)),v):=λi v hi=>by
    have e1:=zA (Zc 0 s.S.pg.length) i (by rw[Ja];lia) v
    have gi:=Ac (l:=Zc 0 s.S.pg.length) (i:=i) (by rw[Ja];lia)
    rw[gi,(xt gi).2] at e1;exact e1
  have turn:∀(n:Nat)(p:TR.Pg)(i:Nat)(v:Hs)(F:List Nat)(e2:Sl),s.S.pg[n]?=some p->Sx s w v->v[a]?=some (.lst (nD F))->n∉F->F.length < 90000->∃v',Jo [.val (.ref 0),.val (.int n),e2,.val (.ref a),.val (.int (i:Int))] v=some ((.nx,[.val (.ref 0),.val (oN p.sd),e2,.val (.ref a),.val (.int (i:Int))]),v')/\Sx s w v'/\v'.length=v.length/\v'[a]?=some (.lst (nD (F++[n])))/\∀j,j≠0->j≠a->v'[j]?=v[j]?:=by
    intro n p i v F e2 hn A gf nm hl
    let E:Sl->En:=λz=>[.val (.ref 0),z,e2,.val (.ref a),.val (.int (i:Int))]
    have t:eOr (eB (Qk isD (Qb 1) (eC .non))) (eB (Qk inG (Qb 1) (Qb 3))) (E (.val (.int n))) v=some (false,v):=(yC (QW rfl)).trans (QW (Qi (Qe rfl) (Qe rfl) ((QhA gf).trans (by rw[Ei nm]))))
    have s2:ZK (Xd "list" ZG (Qb 3) (Qc (Qb 1) (Qn))) (E (.val (.int n))) v=some ((.nx,E (.val (.int n))),v.set a (.lst (nD F++[.int n]))):=JL (xQ (Qe rfl) gf (Qe rfl) (by unfold nD;rw[Bt];lia))
    have A1:Sx s w (v.set a (.lst (nD F++[.int n]))):=A.put ha h1;obtain⟨v',e,A2,l2,o2⟩:=A1.meth hn (f:=Qb 1) (env:=E (.val (.int n))) rfl (Qe rfl);have s3:QA 1 (Qk ixG (Qv "Shelf" "read" 2 QN (Qb 0) (Qc (Qb 1) (Qn))) (eC (.int 4))) (E (.val (.int n))) (v.set a (.lst (nD F++[.int n])))=some ((.nx,E (.val (oN p.sd))),v'):=QB (Qi e rfl (Z1 (i:=4) rfl v'));refine⟨v',(Qj ((QS t).trans QT)).trans ((Qj s2).trans s3),A2,by rw[l2,List.length_set],?_,λj h0 hj=>(o2 j h0).trans (QI _ _ _ _ (Ne.symm hj))⟩
    rw[o2 a (by lia),gss gf]
    unfold nD;rw[List.map_append];rfl
  induction c with
  | @last n p hn hs =>
    intro i fuel v F e2 z4 A gf nd hi hf hl;obtain⟨g,rfl⟩:∃g,fuel=g+1:=⟨fuel - 1,by lia⟩
    have hi':i+1<=s.S.pg.length:=hi;have nm:n∉F:=λh=>(List.nodup_append.mp nd).2.2 n h n (by simp) rfl
    obtain⟨v',b,A',l',gf',o'⟩:=turn n p i v F e2 hn A gf nm (by simp at hl;lia)
    rw[hs] at b;have bb:(gN 4 (.int (i:Int)) [.val (.ref 0),.val (.int n),e2,.val (.ref a),z4] >>= λenv'=>Jo env') v=some ((.nx,[.val (.ref 0),.val .non,e2,.val (.ref a),.val (.int (i:Int))]),v'):=b;obtain⟨g',rfl⟩:∃g',g=g'+1:=⟨g - 1,by lia⟩
    by_cases e:i+1=s.S.pg.length
    . refine⟨v',.val (.int i),?_,A',l',gf',o'⟩
      have e2':=zA (Zc 0 s.S.pg.length) (i+1) (by rw[Ja];lia) v'
      rw[Cz (by rw[Ja];lia)] at e2'
      rw[Jl,Qf (nxt i v (by lia))]
      simp only;rw[Qf bb];show Jl _ _ (g'+1) (i+1) _ _=_;rw[Jl,Qf e2'];rfl
    . let E:En:=[.val (.ref 0),.val .non,e2,.val (.ref a),.val (.int ((i+1:Nat):Int))]
      have b2:Jo E v'=some ((.bk,E),v'):=Qc2 ((Zz (Qfj (QW rfl))).trans rfl);have bb2:(gN 4 (.int ((i+1:Nat):Int)) [.val (.ref 0),.val .non,e2,.val (.ref a),.val (.int (i:Int))] >>= λenv'=>Jo env') v'=some ((.bk,E),v'):=b2;refine⟨v',.val (.int ((i+1:Nat):Int)),?_,A',l',gf',o'⟩;rw[Jl,Qf (nxt i v (by lia))]
      simp only;rw[Qf bb];show Jl _ _ (g'+1) (i+1) _ _=_;rw[Jl,Qf (nxt (i+1) v' (by lia))]
      simp only;rw[Qf bb2];rfl
  | @next n p s' r hn hs c ih =>
    intro i fuel v F e2 z4 A gf nd hi hf hl;obtain⟨g,rfl⟩:∃g,fuel=g+1:=⟨fuel - 1,by lia⟩
    simp only[Bb] at hi;have nm:n∉F:=λh=>(List.nodup_append.mp nd).2.2 n h n (by simp) rfl
    obtain⟨v',b,A',l',gf',o'⟩:=turn n p i v F e2 hn A gf nm (by simp at hl;lia)
    rw[hs] at b;have bb:(gN 4 (.int (i:Int)) [.val (.ref 0),.val (.int n),e2,.val (.ref a),z4] >>= λenv'=>Jo env') v=some ((.nx,[.val (.ref 0),.val (.int s'),e2,.val (.ref a),.val (.int (i:Int))]),v'):=b;obtain⟨v2,z,e,A2,l2,gf2,o2⟩:=ih (i+1) g v' (F++[n]) e2 (.val (.int i)) A' gf' (by rw[A9];exact nd) (by lia) (by lia) (by rw[A9];exact hl)
    refine⟨v2,z,?_,A2,by lia,by rw[gf2,A9];rfl,λj h0 hj=>(o2 j h0 hj).trans (o' j h0 hj)⟩
    rw[Jl,Qf (nxt i v (by lia))]
    simp only;rw[Qf bb];exact e
theorem Qcm(A:Sx s w v)(h1:1 < w.length){r:List Nat}(c:TR.Chain s.S n r)(nd:r.Nodup)(hr:r.length<=s.S.pg.length)(hl:s.S.pg.length < 80000)(l:DV):∃v',Xz [.ref 0,.int n,l] v=some (.ref v.length,v')/\Sx s w v'/\v.length < v'.length/\v'[v.length]?=some (.lst (nD r))/\∀j,j < v.length->j≠0->v'[j]?=v[j]?:=by
 let E:Sl->En:=λz=>[.val (.ref 0),.val (.int n),.val l,z,.un]
 have s1:QA 3 (Xo (Qn)) (E .un) v=some ((.nx,E (.val (.ref v.length))),v++[.lst []]):=QB rfl;have A1:Sx s w (v++[OV.lst []]):=A.app;obtain⟨v',z,e,A2,l2,g2,o2⟩:=QaV (a:=v.length) h1 A.ln c 0 100000 (v++[.lst []]) [] (.val l) .un A1 (by simp;rfl) (by simpa using nd) (by lia) (by lia) (by simp;lia)
 have src:xOf (VG (Qc (Qv "Shelf" "pages" 1 Zr (Qb 0) Qn) (Qn))) (E (.val (.ref v.length))) (v++[.lst []])=some (nxD (Zc 0 s.S.pg.length),v++[.lst []]):=jJ (zQ (m:=s.S.pg.length) (Zq (A1.pages rfl)) (by lia))
 have s2:qv (E (.val (.ref v.length))) (v++[.lst []])=some ((.nx,[.val (.ref 0),.val .non,.val l,.val (.ref v.length),z]),v'):=by
  unfold qv J5;rw[Qf src];exact e
 refine⟨v',QF (env:=[.val (.ref 0),.val .non,.val l,.val (.ref v.length),z]) ((Qj s1).trans ((Qj s2).trans ((Qj ((QS (QW rfl)).trans QT)).trans (QM (Qe rfl))))),A2,by rw[l2];simp,g2,λj hj h0=>(o2 j h0 (by lia)).trans (Ai hj)⟩
end
section
variable{w v:Hs}{s:TR.St}{bg:TR.Bg}{n a:Nat}{p:TR.Pg}
theorem Qgo{O2:Nat}{b:Option Int}{p:TR.Pg}(ok:TR.Jy O2 b p)(hk:(p.hi=none/\p.sd=none)∨∃x s,p.hi=some x/\p.sd=some s)(hr:O2<=50)(hp:Hs):JO [pgD p,.int p.lv,opt b,.int O2] hp=some (.bl true,hp):=by
  have few:=ok.few
  let E:Sl->Sl->Sl->En:=λz4 z5 z6=>[.val (pgD p),.val (.int p.lv),.val (opt b),.val (.int O2),z4,z5,z6]
  have ks:∀z4 z5 z6,Qk ixG (Qb 0) (eC (.int 1)) (E z4 z5 z6) hp=some (.tup (p.ks.map .int),hp):=λ_ _ _=>Qi (Qe rfl) rfl (uW p hp);have lk:∀z4 z5 z6,Zd Z4 (Qc (Qk ixG (Qb 0) (eC (.int 1))) Qn) (E z4 z5 z6) hp=some (.int p.ks.length,hp):=λ_ _ _=>(XA (Zq (ks _ _ _)) (VN _ hp)).trans (by rw[Bt])
  have lp:Zd Z4 (Qc (Qk ixG (Qb 0) (eC (.int 2))) Qn) (E .un .un .un) hp=some (.int p.ps.length,hp):=(XA (Zq (Qi (Qe rfl) rfl (yo p hp))) (VN _ hp)).trans (by rw[Bt])
  have t1:eOr (eB (Qk neG (Qk ixG (Qb 0) (eC (.int 0))) (Qb 1))) (eOr (eB (Qk gtD (Zd Z4 (Qc (Qk ixG (Qb 0) (eC (.int 1))) (Qn))) (Qb 3))) (eB (Qk neG (Zd Z4 (Qc (Qk ixG (Qb 0) (eC (.int 2))) (Qn))) (Qk ZL (Zd Z4 (Qc (Qk ixG (Qb 0) (eC (.int 1))) (Qn))) (Zd Qb6 (Qc (Qk gtD (Qb 1) (eC (.int 0))) (Qn))))))) (E .un .un .un) hp=some (false,hp):=by
    refine(yC (QW (Qi (Qi (Qe rfl) rfl (Go p hp)) (Qe rfl) (QhK _ hp)))).trans ?_;have gt0:gtD (.int p.ks.length) (.int O2) hp=some (.bl false,hp):=by rw[ZJ,Ei (by lia)];rfl
    refine(yC (QW (b:=false) (Qi (lk _ _ _) (Qe rfl) gt0))).trans ?_;have gl:Qk gtD (Qb 1) (eC (.int 0)) (E .un .un .un) hp=some (.bl (decide (0 < p.lv)),hp):=Qi (Qe rfl) rfl (by
      rw[ZJ];show some (DV.bl _,_)=_;congr 3;by_cases q:0 < p.lv
      . rw[Eg q,Eg (by lia)]
      . rw[Ei q,Ei (by lia)])
    have pl:=ok.parts;have iv:Zd Qb6 (Qc (Qk gtD (Qb 1) (eC (.int 0))) Qn) (E .un .un .un) hp=some (.int (if decide (0 < p.lv)=true then 1 else 0),hp):=XA (Zq gl) (by cases decide (0 < p.lv)<;>rfl)
    refine QW (Qi lp (Qi (d:=.int p.ps.length) (lk _ _ _) iv ?_) (QhK _ hp));show some (DV.int _,_)=_;congr 3;rw[pl];by_cases q:p.lv=0
    . simp[q]
    . have:0 < p.lv:=by lia
      simp[q,this]
  have t2:eB (Qk neG (Qk isD (Qk ixG (Qb 0) (eC (.int 3))) (eC .non)) (Qk isD (Qk ixG (Qb 0) (eC (.int 4))) (eC .non))) (E .un .un .un) hp=some (false,hp):=by
    refine QW (Qi (x:=.bl p.hi.isNone) (y:=.bl p.hi.isNone) (Qi (Qi (Qe rfl) rfl (Gn p hp)) rfl (by rw[zS];rfl)) (Qi (Qi (Qe rfl) rfl (uX p hp)) rfl ?_) (QiD _ hp))
    rw[xm];rcases hk with ⟨a,c⟩ | ⟨x,s,a,c⟩<;>rw[a,c]<;>rfl
  have s3:QA 4 (Qb 2) (E .un .un .un) hp=some ((.nx,E (.val (opt b)) .un .un),hp):=QB (Qe rfl)
  let lst:Nat->Option Int:=λi=>match i with | 0=>b | i+1=>p.ks[i]?
  have so:=ok.sorted;rw[Cr] at so;have W:WP (Jl (nxD (Zc 0 p.ks.length)) (λd env=>do let env' <- gN 5 d env;Yq env') 100000 0 (E (.val (opt b)) .un .un)) hp λq u=>(∃z5 z6,q=(.nx,E (.val (opt (lst p.ks.length))) z5 z6))/\u=hp:=by
    refine Vo (Zc 0 p.ks.length) (λi env u=>(∃z5 z6,env=E (.val (opt (lst i))) z5 z6)/\u=hp) (by rw[Ja];lia) ⟨⟨_,_,rfl⟩,rfl⟩ (λi d hd env u h=>?_) (λenv u h=>by rw[Ja] at h;obtain⟨⟨z5,z6,e⟩,q⟩:=h;exact⟨⟨z5,z6,by rw[e]⟩,q⟩)
    obtain⟨⟨z5,z6,rfl⟩,rfl⟩:=h;obtain⟨hi,rfl⟩:=xt hd;have gk:p.ks[i]?=some p.ks[i]:=Ac hi;have km:=Ax gk;have k1:QA 6 (Qk ixG (Qk ixG (Qb 0) (eC (.int 1))) (Qb 5)) (E (.val (opt (lst i))) (.val (.int (i:Int))) z6) u=some ((.nx,E (.val (opt (lst i))) (.val (.int (i:Int))) (.val (.int p.ks[i]))),u):=QB (Qi (ks _ _ _) (Qe rfl) (Z1 (i:=i) (by rw[Bv,gk];rfl) u))
    have t:X5 (eB (Qk yb (Qb 4) (eC .non))) (eOr (eB (Qk ltD (Qb 6) (Qb 4))) (X5 (eB (Qk gtD (Qb 5) (eC (.int 0)))) (eB (Qk eqG (Qb 6) (Qb 4))))) (E (.val (opt (lst i))) (.val (.int (i:Int))) (.val (.int p.ks[i]))) u=some (false,u):=by
      cases hx:lst i with
      | none=>exact KU (QW rfl)
      | some x =>
        have ge:x<=p.ks[i]/\(0 < i->x < p.ks[i]):=by
          cases i with
          | zero=>exact⟨ok.low _ km x hx,λh=>absurd h (by decide)⟩
          | succ j =>
            have hx':p.ks[j]?=some x:=hx;have hj:j < p.ks.length:=by lia
            rw[Ac hj] at hx';have:=so j (j+1) hj hi (by lia)
            have hx2:=Am hx';exact⟨by lia,λ_=>by lia⟩
        have lx:ltD (.int p.ks[i]) (.int x) u=some (.bl false,u):=by
          show some (DV.bl (decide (p.ks[i] < x)),u)=_;rw[Ei (by lia)]
        have gx:∀c,decide (0 < i)=c->gtD (.int (i:Int)) (.int 0) u=some (.bl c,u):=λc hc=>by
          rw[ZJ];show some (DV.bl (decide ((i:Int) > 0)),u)=_;rw[<- hc];by_cases q:0 < i
          . rw[Eg q,Eg (by lia)]
          . rw[Ei q,Ei (by lia)]
        refine(KW (hp1:=u) (QW rfl)).trans ((yC (hp1:=u) (QW (Qi (x:=.int p.ks[i]) (y:=.int x) (d:=.bl false) (Qe rfl) (Qe rfl) lx))).trans ?_)
        . by_cases i0:0 < i
          . refine(KW (hp1:=u) (QW (Qi (x:=.int (i:Int)) (y:=.int 0) (Qe rfl) rfl (gx true (Eg i0))))).trans (QW (Qi (x:=.int p.ks[i]) (y:=.int x) (d:=.bl false) (Qe rfl) (Qe rfl) ?_))
            rw[eqI];have:=ge.2 i0;rw[beq_eq_false_iff_ne.mpr (by lia)]
          . exact KU (QW (Qi (x:=.int (i:Int)) (y:=.int 0) (Qe rfl) rfl (gx false (Ei i0))))
    have k3:QA 4 (Qb 6) (E (.val (opt (lst i))) (.val (.int (i:Int))) (.val (.int p.ks[i]))) u=some ((.nx,E (.val (.int p.ks[i])) (.val (.int (i:Int))) (.val (.int p.ks[i]))),u):=QB (Qe rfl);have eo:opt (lst (i+1))=.int p.ks[i]:=by show opt (p.ks[i]?)=_;rw[gk];rfl
    exact⟨_,_,(Qj k1).trans ((Qj ((QS t).trans QT)).trans k3),⟨_,_,by rw[eo]⟩,rfl⟩
  obtain⟨q,u,e,⟨z5,z6,rfl⟩,rfl⟩:=W;have s4:J9 (E (.val (opt b)) .un .un) u=some ((.nx,E (.val (opt (lst p.ks.length))) z5 z6),u):=by
    unfold J9 J5;rw[Qf (jJ (zQ (m:=p.ks.length) (Zq (lk _ _ _)) (by lia)))];exact e
  have hi3:Qk ixG (Qb 0) (eC (.int 3)) (E (.val (opt (lst p.ks.length))) z5 z6) u=some (opt p.hi,u):=Qi (Qe rfl) rfl (Gn p u);have s5:Y8 (Qk isD (Qk ixG (Qb 0) (eC (.int 3))) (eC .non)) (Y8 (Qk isD (Qb 4) (eC .non)) (Qk gtD (Qk ixG (Qb 0) (eC (.int 3))) (Qb 4))) (E (.val (opt (lst p.ks.length))) z5 z6) u=some (.bl true,u):=by
    cases hh:p.hi with
    | none =>
      rw[hh] at hi3;exact(zP (b:=true) (Qi hi3 rfl rfl)).trans (Ec rfl)
    | some h =>
      rw[hh] at hi3;refine(zP (b:=false) (Qi hi3 rfl rfl)).trans ((Eb (by simp)).trans ?_)
      cases hx:lst p.ks.length with
      | none=>exact(zP (b:=true) (Qi (Qe rfl) rfl rfl)).trans (Ec rfl)
      | some x =>
        have lt:x < h:=by
          cases hn:p.ks.length with
          | zero=>rw[hn] at hx;exact ok.wide h hh x hx
          | succ j =>
            rw[hn] at hx;exact ok.high x (Ax (show p.ks[j]?=some x from hx)) h hh
        rw[hx] at hi3;refine(zP (b:=false) (Qi (Qe rfl) rfl rfl)).trans ((Eb (by simp)).trans (Qi hi3 (Qe rfl) ?_))
        show gtD (.int h) (.int x) u=_;rw[ZJ,Eg lt];rfl
  exact QF (env:=E (.val (opt (lst p.ks.length))) z5 z6) ((Qj ((QS t1).trans QT)).trans ((Qj ((QS t2).trans QT)).trans ((Qj s3).trans ((Qj s4).trans (QM s5)))))
end
section
variable{w v:Hs}{s:TR.St}{bg:TR.Bg}{n a b d:Nat}{p:TR.Pg}
theorem QaY(T:TR.Tree s.S bg)(h1:1 < w.length)(hd:w.length<=d)(hb:b≠0)(hbd:b≠d){r:List Nat}(c:TR.Chain s.S n r):∀(v:Hs)(pre:List Nat)(fuel:Nat)(e1 e2 e3 e4 z7 e8 e9 e10:Sl),Sx s w v->v[b]?=some (.lst (nD (pre++r)))->v[d]?=some (.dic (bgD bg pre))->(pre++r).Nodup->r.length < fuel->(pre++r).length < 90000 ->
    ∃v' z6 z7',Jl (nxW b) (λd env=>gN 7 d env >>= λenv'=>Zy env') fuel pre.length [.val (.ref 0),e1,e2,e3,e4,.val (.ref d),.val (opt (bg n)),z7,e8,e9,e10] v=some ((.nx,[.val (.ref 0),e1,e2,e3,e4,.val (.ref d),z6,z7',e8,e9,e10]),v')/\Sx s w v'/\v'.length=v.length/\v'[d]?=some (.dic (bgD bg (pre++r)))/\∀j,j≠0->j≠d->v'[j]?=v[j]?:=by
  have turn:∀(n:Nat)(p:TR.Pg)(v:Hs)(pre r:List Nat)(e1 e2 e3 e4 e8 e9 e10:Sl),s.S.pg[n]?=some p->Sx s w v->v[d]?=some (.dic (bgD bg pre))->n∉pre->pre.length < 90000->∃v',Zy [.val (.ref 0),e1,e2,e3,e4,.val (.ref d),.val (opt (bg n)),.val (.int n),e8,e9,e10] v=some ((.nx,[.val (.ref 0),e1,e2,e3,e4,.val (.ref d),.val (opt p.hi),.val (.int n),e8,e9,e10]),v')/\Sx s w v'/\v'.length=v.length/\v'[d]?=some (.dic (bgD bg (pre++[n])))/\∀j,j≠0->j≠d->v'[j]?=v[j]?:=by
    intro n p v pre r e1 e2 e3 e4 e8 e9 e10 hn A gd nm hl
    let E:Sl->En:=λz=>[.val (.ref 0),e1,e2,e3,e4,.val (.ref d),z,.val (.int n),e8,e9,e10]
    have s1:Yb (Qb 6) (gSb (Qb 5) (Qb 7)) (E (.val (opt (bg n)))) v=some ((.nx,E (.val (opt (bg n)))),v.set d (.dic (bgD bg (pre++[n])))):=by
      rw[<- QdG bg nm];exact QeE (Qe rfl) (Qe rfl) (Qe rfl) gd (by unfold bgD;rw[Bt];lia)
    have A1:Sx s w (v.set d (.dic (bgD bg (pre++[n])))):=A.put hd h1;obtain⟨v',e,A2,l2,o2⟩:=A1.meth hn (f:=Qb 7) (env:=E (.val (opt (bg n)))) rfl (Qe rfl);have s2:QA 6 (Qk ixG (Qv "Shelf" "read" 2 QN (Qb 0) (Qc (Qb 7) (Qn))) (eC (.int 3))) (E (.val (opt (bg n)))) (v.set d (.dic (bgD bg (pre++[n]))))=some ((.nx,E (.val (opt p.hi))),v'):=QB (Qi e rfl (Z1 (i:=3) rfl v'));exact⟨v',(Qj s1).trans s2,A2,by rw[l2,List.length_set],by rw[o2 d (by lia),gss gd],λj h0 hj=>(o2 j h0).trans (QI _ _ _ _ (Ne.symm hj))⟩
  have item:∀(v:Hs)(pre r:List Nat)(n:Nat),v[b]?=some (.lst (nD (pre++n::r)))->nxW b pre.length v=some (some (.int (n:Int)),v):=λv pre r n h=>by
    have x:=YV h pre.length;rw[uS (n:=n) (by rw[Ar (Ag _),Nat.sub_self];rfl)] at x
    exact x
  induction c with
  | @last n p hn hs =>
    intro v pre fuel e1 e2 e3 e4 z7 e8 e9 e10 A gb gd nd hf hl;obtain⟨g,rfl⟩:∃g,fuel=g+1:=⟨fuel - 1,by lia⟩
    have nm:n∉pre:=λh=>(List.nodup_append.mp nd).2.2 n h n (by simp) rfl
    obtain⟨v',e,A',l',g',o'⟩:=turn n p v pre [] e1 e2 e3 e4 e8 e9 e10 hn A gd nm (by simp at hl;lia)
    have bb:(gN 7 (.int (n:Int)) [.val (.ref 0),e1,e2,e3,e4,.val (.ref d),.val (opt (bg n)),z7,e8,e9,e10] >>= λenv'=>Zy env') v=some ((.nx,[.val (.ref 0),e1,e2,e3,e4,.val (.ref d),.val (opt p.hi),.val (.int n),e8,e9,e10]),v'):=e;obtain⟨g2,rfl⟩:∃g2,g=g2+1:=⟨g - 1,by simp at hf;lia⟩
    have x:=YV ((o' b hb hbd).trans gb) (pre.length+1);rw[Cz (by unfold nD;simp)] at x
    refine⟨v',.val (opt p.hi),.val (.int n),?_,A',l',g',o'⟩;rw[Jl,Qf (item v pre [] n gb)];simp only;rw[Qf bb];show Jl _ _ (g2+1) (pre.length+1) _ _=_;rw[Jl,Qf x];rfl
  | @next n p s' r hn hs c ih =>
    intro v pre fuel e1 e2 e3 e4 z7 e8 e9 e10 A gb gd nd hf hl;obtain⟨g,rfl⟩:∃g,fuel=g+1:=⟨fuel - 1,by lia⟩
    have nm:n∉pre:=λh=>(List.nodup_append.mp nd).2.2 n h n (by simp) rfl
    obtain⟨v',e,A',l',g',o'⟩:=turn n p v pre r e1 e2 e3 e4 e8 e9 e10 hn A gd nm (by simp at hl;lia)
    rw[TR.GY T hn hs] at e;have bb:(gN 7 (.int (n:Int)) [.val (.ref 0),e1,e2,e3,e4,.val (.ref d),.val (opt (bg n)),z7,e8,e9,e10] >>= λenv'=>Zy env') v=some ((.nx,[.val (.ref 0),e1,e2,e3,e4,.val (.ref d),.val (opt (bg s')),.val (.int n),e8,e9,e10]),v'):=e;have ap:pre++n::r=(pre++[n])++r:=by simp
    rw[ap] at nd hl;obtain⟨v2,z6,z7',e',A2,l2,g2,o2⟩:=ih v' (pre++[n]) g e1 e2 e3 e4 (.val (.int n)) e8 e9 e10 A' (by rw[<- ap];exact(o' b hb hbd).trans gb) g' nd (by simp at hf;lia) hl
    refine⟨v2,z6,z7',?_,A2,by lia,by rw[ap];exact g2,λj h0 hj=>(o2 j h0 hj).trans (o' j h0 hj)⟩
    rw[Jl,Qf (item v pre r n gb)];simp only;rw[Qf bb];rw[Ao] at e';exact e'
theorem Qa5(T:TR.Tree s.S bg)(h1:1 < w.length)(hr:s.S.O2<=5)(hd:w.length<=d)(ha:a≠0){l:Nat}{rb:List Nat}(hrb:0 < l->∀(m:Nat)(q:TR.Pg),s.S.pg[m]?=some q->q.lv+1=l->m∈rb){r:List Nat}(c:TR.Chain s.S n r):∀(v:Hs)(pre:List Nat)(fuel:Nat)(e1 e3 e6 z7 z8 z9 z10:Sl),Sx s w v->v[a]?=some (.lst (nD (pre++r)))->v[d]?=some (.dic (bgD bg rb))->(∀m∈r,∃q,s.S.pg[m]?=some q/\q.lv=l)->r.length < fuel ->
    ∃v' z4 z7' z8' z9' z10',Jl (nxW a) (λd env=>gN 7 d env >>= λenv'=>Zx env') fuel pre.length [.val (.ref 0),e1,.val (.int l),e3,.val (opt (bg n)),.val (.ref d),e6,z7,z8,z9,z10] v=some ((.nx,[.val (.ref 0),e1,.val (.int l),e3,z4,.val (.ref d),e6,z7',z8',z9',z10']),v')/\Sx s w v'/\v'.length=v.length/\∀j,j≠0->v'[j]?=v[j]?:=by
  have turn:∀(n:Nat)(p:TR.Pg)(v:Hs)(e1 e3 e6 z8 z9 z10:Sl),s.S.pg[n]?=some p->p.lv=l->Sx s w v->v[d]?=some (.dic (bgD bg rb))->∃v' z9' z10',Zx [.val (.ref 0),e1,.val (.int l),e3,.val (opt (bg n)),.val (.ref d),e6,.val (.int n),z8,z9,z10] v=some ((.nx,[.val (.ref 0),e1,.val (.int l),e3,.val (opt p.hi),.val (.ref d),e6,.val (.int n),.val (pgD p),z9',z10']),v')/\Sx s w v'/\v'.length=v.length/\∀j,j≠0->v'[j]?=v[j]?:=by
    intro n p v e1 e3 e6 z8 z9 z10 hn hl A gd;have ok:=T.page n p hn;have few:=ok.few
    let E:Sl->Sl->Sl->Sl->En:=λz4 z8 z9 z10=>[.val (.ref 0),e1,.val (.int l),e3,z4,.val (.ref d),e6,.val (.int n),z8,z9,z10]
    obtain⟨u,e,A2,l2,o2⟩:=A.meth hn (f:=Qb 7) (env:=E (.val (opt (bg n))) z8 z9 z10) rfl (Qe rfl);have s1:QA 8 (Qv "Shelf" "read" 2 QN (Qb 0) (Qc (Qb 7) (Qn))) (E (.val (opt (bg n))) z8 z9 z10) v=some ((.nx,E (.val (opt (bg n))) (.val (pgD p)) z9 z10),u):=QB e;obtain⟨x,hx⟩:=A2.h1;have ps:=Qgo ok (by
      rcases T.link n p hn with q | ⟨x,s',_,q1,q2,_⟩
      . exact .inl q
      . exact .inr ⟨x,s',q1,q2⟩) (by lia) u
    rw[hl] at ps;have s2:sIf (Xe (eB (QH 4 JO (Qc (Qb 8) (Qc (Qb 2) (Qc (Qb 4) (Qc (Qv "Shelf" "room" 1 ZP (Qb 0) Qn) (Qn)))))))) (QP (eC (.bl false))) (Zi) (E (.val (opt (bg n))) (.val (pgD p)) z9 z10) u=some ((.nx,E (.val (opt (bg n))) (.val (pgD p)) z9 z10),u):=(QS (X6 (b:=true) (QW (ZD (gS (Qe rfl) (Qe rfl) (Qe rfl) (Q3 (Qe rfl) hx (vX ..) qJ rfl (Qae hx))) rfl ps)))).trans QT;have gu:u[d]?=some (.dic (bgD bg rb)):=(o2 d (by lia)).trans gd
    have s4:∀z9 z10,QA 4 (Qk ixG (Qb 8) (eC (.int 3))) (E (.val (opt (bg n))) (.val (pgD p)) z9 z10) u=some ((.nx,E (.val (opt p.hi)) (.val (pgD p)) z9 z10),u):=λ_ _=>QB (Qi (Qe rfl) rfl (Gn p u));have tl:∀c,decide (0 < l)=c->eB (Qk gtD (Qb 2) (eC (.int 0))) (E (.val (opt (bg n))) (.val (pgD p)) z9 z10) u=some (c,u):=λc hc=>QW (Qi (Qe rfl) rfl (by
      rw[ZJ];show some (DV.bl (decide ((l:Int) > 0)),u)=_;rw[<- hc];by_cases q:0 < l
      . rw[Eg q,Eg (by lia)]
      . rw[Ei q,Ei (by lia)]))
    by_cases l0:0 < l
    . have pt:=ok.parts
      rw[Eb (by lia)] at pt
      let Bd:DV:=.lst (opt (bg n)::p.ks.map .int)
      have b1:Qk ZL (Xl (Qc (Qb 4) Qn)) (Zd QaZ (Qc (Qk ixG (Qb 8) (eC (.int 1))) Qn)) (E (.val (opt (bg n))) (.val (pgD p)) z9 z10) u=some (Bd,u):=by
        refine Qi (x:=.lst [opt (bg n)]) (y:=.lst (p.ks.map .int)) (by cases bg n<;>rfl) (XA (Zq (Qi (Qe rfl) rfl (uW p u))) (vz _ u)) ?_
        show(Qy (YM ([opt (bg n)]++p.ks.map .int)) >>= λ_=>pure (DV.lst ([opt (bg n)]++p.ks.map .int))) u=_;rw[Xb (by simp;lia)];rfl
      have s3:QA 9 (Qk ZL (Xl (Qc (Qb 4) Qn)) (Zd QaZ (Qc (Qk ixG (Qb 8) (eC (.int 1))) Qn))) (E (.val (opt (bg n))) (.val (pgD p)) z9 z10) u=some ((.nx,E (.val (opt (bg n))) (.val (pgD p)) (.val Bd) z10),u):=QB b1;have st:∀j,j < p.ps.length->ixG Bd (.int (j:Int)) u=some (opt (TR.Zj (bg n) p.ks j),u):=λj hj=>by
        show ixD (.lst (opt (bg n)::p.ks.map .int)) (.int (j:Int)) u=_;have:(opt (bg n)::p.ks.map DV.int)[j]?=some (opt (TR.Zj (bg n) p.ks j)):=by
          cases j with
          | zero=>rfl
          | succ i =>
            have hi:i < p.ks.length:=by lia
            rw[List.getElem?_cons_succ,Bv,Ac hi];show some (DV.int p.ks[i])=some (opt (p.ks[i]?));rw[Ac hi];rfl
        simp only[ixD,asI,Ej,Yz this];rfl
      have W:WP (Jl (nxD (Zc 0 p.ps.length)) (λd env=>do let env' <- gN 10 d env;X1 env') 100000 0 (E (.val (opt (bg n))) (.val (pgD p)) (.val Bd) z10)) u λq u'=>(∃z,q=(.nx,E (.val (opt (bg n))) (.val (pgD p)) (.val Bd) z))/\u'=u:=by
        refine Vo (Zc 0 p.ps.length) (λi env u'=>(∃z,env=E (.val (opt (bg n))) (.val (pgD p)) (.val Bd) z)/\u'=u) (by rw[Ja];lia) ⟨⟨_,rfl⟩,rfl⟩ (λi d0 hd0 env u' h=>?_) (λenv u' h=>by obtain⟨⟨z,e⟩,q⟩:=h;exact⟨⟨z,by rw[e]⟩,q⟩)
        obtain⟨⟨z,rfl⟩,rfl⟩:=h;obtain⟨hi,rfl⟩:=xt hd0;obtain⟨c,q,c1,c2,c3,c4⟩:=T.kid n p hn (by lia) i _ (Ac hi)
        have vd:Yx (bgD bg rb) (.inl (c:Int))=some (opt (TR.Zj (bg n) p.ks i)):=by rw[<- c4];exact QdH bg (hrb l0 c q c2 (by lia))
        have kd:Qk ixG (Qk ixG (Qb 8) (eC (.int 2))) (Qb 10) (E (.val (opt (bg n))) (.val (pgD p)) (.val Bd) (.val (.int (i:Int)))) u'=some (.int (c:Int),u'):=Qi (Qi (Qe rfl) rfl (yo p u')) (Qe rfl) (Z1 (i:=i) (by rw[Bv,Ac hi,c1];rfl) u')
        refine⟨_,_,(QS ((yC (QW (b:=false) (Qi kd (Qe rfl) (Qea gu vd)))).trans (QW (b:=false) (Qi (Qi (Qe rfl) kd (QfX gu vd)) (Qi (Qe rfl) (Qe rfl) (st i hi)) ((neO _ _ u').trans (by simp)))))).trans QT,⟨_,rfl⟩,rfl⟩
      obtain⟨q,u',ew,⟨z,rfl⟩,rfl⟩:=W;have L:J0 (E (.val (opt (bg n))) (.val (pgD p)) (.val Bd) z10) u'=some ((.nx,E (.val (opt (bg n))) (.val (pgD p)) (.val Bd) z),u'):=by
        have hl1:Zd Z4 (Qc (Qk ixG (Qb 8) (eC (.int 2))) Qn) (E (.val (opt (bg n))) (.val (pgD p)) (.val Bd) z10) u'=some (.int p.ps.length,u'):=(XA (Zq (Qi (Qe rfl) rfl (yo p u'))) (VN _ u')).trans (by rw[Bt])
        unfold J0 J5;rw[Qf (jJ (zQ (m:=p.ps.length) (Zq hl1) (by lia)))];exact ew
      exact⟨u',.val Bd,z,(Qj s1).trans ((Qj s2).trans ((Qj ((Zz (tl true (Eg l0))).trans ((Qj s3).trans L))).trans (s4 _ _))),A2,l2,o2⟩
    . exact⟨u,z9,z10,(Qj s1).trans ((Qj s2).trans ((Qj ((QS (tl false (Ei l0))).trans QT)).trans (s4 _ _))),A2,l2,o2⟩
  have item:∀(v:Hs)(pre r:List Nat)(n:Nat),v[a]?=some (.lst (nD (pre++n::r)))->nxW a pre.length v=some (some (.int (n:Int)),v):=λv pre r n h=>by
    have x:=YV h pre.length;rw[uS (n:=n) (by rw[Ar (Ag _),Nat.sub_self];rfl)] at x
    exact x
  induction c with
  | @last n p hn hs =>
    intro v pre fuel e1 e3 e6 z7 z8 z9 z10 A ga gd hm hf;obtain⟨g,rfl⟩:∃g,fuel=g+1:=⟨fuel - 1,by lia⟩
    obtain⟨q,q1,q2⟩:=hm n (by simp)
    rw[hn] at q1;cases q1;obtain⟨v',y9,y10,e,A',l',o'⟩:=turn n p v e1 e3 e6 z8 z9 z10 hn q2 A gd;have bb:(gN 7 (.int (n:Int)) [.val (.ref 0),e1,.val (.int l),e3,.val (opt (bg n)),.val (.ref d),e6,z7,z8,z9,z10] >>= λenv'=>Zx env') v=some ((.nx,[.val (.ref 0),e1,.val (.int l),e3,.val (opt p.hi),.val (.ref d),e6,.val (.int n),.val (pgD p),y9,y10]),v'):=e;obtain⟨g2,rfl⟩:∃g2,g=g2+1:=⟨g - 1,by simp at hf;lia⟩
    have x:=YV ((o' a ha).trans ga) (pre.length+1);rw[Cz (by unfold nD;simp)] at x
    refine⟨v',.val (opt p.hi),.val (.int n),.val (pgD p),y9,y10,?_,A',l',o'⟩;rw[Jl,Qf (item v pre [] n ga)];simp only;rw[Qf bb];show Jl _ _ (g2+1) (pre.length+1) _ _=_;rw[Jl,Qf x];rfl
  | @next n p s' r hn hs c ih =>
    intro v pre fuel e1 e3 e6 z7 z8 z9 z10 A ga gd hm hf;obtain⟨g,rfl⟩:∃g,fuel=g+1:=⟨fuel - 1,by lia⟩
    obtain⟨q,q1,q2⟩:=hm n (by simp)
    rw[hn] at q1;cases q1;obtain⟨v',y9,y10,e,A',l',o'⟩:=turn n p v e1 e3 e6 z8 z9 z10 hn q2 A gd;rw[TR.GY T hn hs] at e;have bb:(gN 7 (.int (n:Int)) [.val (.ref 0),e1,.val (.int l),e3,.val (opt (bg n)),.val (.ref d),e6,z7,z8,z9,z10] >>= λenv'=>Zx env') v=some ((.nx,[.val (.ref 0),e1,.val (.int l),e3,.val (opt (bg s')),.val (.ref d),e6,.val (.int n),.val (pgD p),y9,y10]),v'):=e;have ap:pre++n::r=(pre++[n])++r:=by simp
    obtain⟨v2,x4,x7,x8,x9,x10,e',A2,l2,o2⟩:=ih v' (pre++[n]) g e1 e3 e6 (.val (.int n)) (.val (pgD p)) y9 y10 A' (by rw[<- ap];exact(o' a ha).trans ga) ((o' d (by lia)).trans gd) (λm h=>hm m (Ay _ h)) (by simp at hf;lia)
    refine⟨v2,x4,x7,x8,x9,x10,?_,A2,by lia,λj h0=>(o2 j h0).trans (o' j h0)⟩
    rw[Jl,Qf (item v pre r n ga)];simp only;rw[Qf bb];rw[Ao] at e';exact e'
end
section
variable{w v:Hs}{s:TR.St}{bg:TR.Bg}{n a b d:Nat}{p:TR.Pg}
theorem kP(T:TR.Tree s.S bg)(A:Sx s w v)(h1:1 < w.length)(hr5:s.S.O2<=5){l:Nat}{r rb:List Nat}(c:TR.Chain s.S n r)(nd:r.Nodup)(hb:bg n=none)(hm:∀m∈r,∃q,s.S.pg[m]?=some q/\q.lv=l)(hl:r.length < 80000)(ga:v[a]?=some (.lst (nD r)))(ha:w.length<=a)(B:DV)(hB:(∃b cn,B=.ref b/\w.length<=b/\v[b]?=some (.lst (nD rb))/\TR.Chain s.S cn rb/\rb.Nodup/\bg cn=none/\rb.length < 80000)∨(B=.lst []/\rb=[]))(hrb:0 < l->∀(m:Nat)(q:TR.Pg),s.S.pg[m]?=some q->q.lv+1=l->m∈rb):
  ∃v',Z6 [.ref 0,.ref a,.int l,B] v=some (.bl true,v')/\Sx s w v'/\v.length<=v'.length/\∀j,j < v.length->j≠0->v'[j]?=v[j]?:=by
 have wl:=A.ln
 let E:Sl->Sl->Sl->Sl->En:=λz4 z5 z6 z7=>[.val (.ref 0),.val (.ref a),.val (.int l),.val B,z4,z5,z6,z7,.un,.un,.un]
 let v1:Hs:=v++[OV.dic []]
 have s1:QA 4 (eC .non) (E .un .un .un .un) v=some ((.nx,E (.val .non) .un .un .un),v):=QB rfl;have s2:QA 5 (Xn) (E (.val .non) .un .un .un) v=some ((.nx,E (.val .non) (.val (.ref v.length)) .un .un),v1):=QB rfl;have s3:QA 6 (eC .non) (E (.val .non) (.val (.ref v.length)) .un .un) v1=some ((.nx,E (.val .non) (.val (.ref v.length)) (.val .non) .un),v1):=QB rfl;have A1:Sx s w v1:=A.app;have up:∀{j:Nat}{z:OV},v[j]?=some z->v1[j]?=some z:=λ{j z} e=>(Ai (Ad.mp e).1).trans e;have la:=(Ad.mp ga).1;have g1:v1[v.length]?=some (.dic (bgD bg [])):=List.getElem?_concat_length ..;obtain⟨v2,z6,z7,s4,A2,l2,g2,o2⟩:∃v2 z6 z7,XY (E (.val .non) (.val (.ref v.length)) (.val .non) .un) v1=some ((.nx,E (.val .non) (.val (.ref v.length)) z6 z7),v2)/\Sx s w v2/\v2.length=v1.length/\v2[v.length]?=some (.dic (bgD bg rb))/\∀j,j≠0->j≠v.length->v2[j]?=v1[j]?:=by
  rcases hB with ⟨b,cn,rfl,b1,b2,b3,b4,b5,b6⟩ | ⟨rfl,rfl⟩
  ·have lb:=(Ad.mp b2).1
   obtain⟨v2,z6,z7,e,q⟩:=QaY (d:=v.length) (b:=b) T h1 A.ln (by lia) (by lia) b3 v1 [] 100000 (.val (.ref a)) (.val (.int l)) (.val (.ref b)) (.val .non) .un .un .un .un A1 (up b2) g1 b4 (by lia) (by simp;lia)
   rw[b5] at e;refine⟨v2,z6,z7,?_,q⟩;show J5 (xLs (Qb 3)) (gN 7) (Zy) _ v1=_;unfold J5;rw[Qf (Vn (n:=b) (Qe rfl) (up b2))];exact e
  ·exact⟨v1,.val .non,.un,rfl,A1,rfl,g1,λ_ _ _=>rfl⟩
 obtain⟨v3,x4,x7,x8,x9,x10,e,A3,l3,o3⟩:=Qa5 (d:=v.length) (a:=a) T h1 hr5 A.ln (by lia) hrb c v2 [] 100000 (.val (.ref a)) (.val B) z6 z7 .un .un .un A2 ((o2 a (by lia) (by lia)).trans (up ga)) g2 hm (by lia)
 rw[hb] at e;have s5:XX (E (.val .non) (.val (.ref v.length)) z6 z7) v2=some ((.nx,[.val (.ref 0),.val (.ref a),.val (.int l),.val B,x4,.val (.ref v.length),z6,x7,x8,x9,x10]),v3):=by
  show J5 (xLs (Qb 1)) (gN 7) (Zx) _ v2=_;unfold J5;rw[Qf (Vn (n:=a) (Qe rfl) ((o2 a (by lia) (by lia)).trans (up ga)))];exact e
 refine⟨v3,QF (env:=[.val (.ref 0),.val (.ref a),.val (.int l),.val B,x4,.val (.ref v.length),z6,x7,x8,x9,x10]) ((Qj s1).trans ((Qj s2).trans ((Qj s3).trans ((Qj s4).trans ((Qj s5).trans (QM rfl)))))),A3,?_,λj hj h0=>?_⟩
 ·rw[l3,l2];show v.length<=(v++[OV.dic []]).length;simp
 ·rw[o3 j h0,o2 j h0 (by lia)];exact Ai hj
theorem yd(T:TR.Tree s.S bg)(hr:s.S.O2<=5):∀ls:List Nat,(TR.Jj s.S ls).length<=6 * ls.length
  | []=>Ag _
  | n::ls=>by
    have ih:=yd T hr ls;have:(TR.zq s.S n).length<=6:=by
      unfold TR.zq;cases e:s.S.pg[n]? with
      | none=>exact Bf _
      | some p =>
        dsimp only;have ok:=T.page n p e;have:=ok.few;have:=ok.parts;split
        . rename_i h
          rw[Eb (by lia)] at this;lia
        . exact Bf _
    unfold TR.Jj at ih ⊢;rw[List.flatMap_cons,Ao,Bb];lia
theorem QaR(T:TR.Tree s.S bg)(hr:s.S.O2<=5)(ha:a≠0){l:Nat}(hl:0 < l){r:List Nat}(c:TR.Chain s.S n r):∀(v:Hs)(pre ab:List Nat)(fuel:Nat)(e1 z2 e3 e4 e5 e7 e8:Sl),Sx s w v->v[a]?=some (.lst (nD (pre++r)))->(∀m∈r,∃q,s.S.pg[m]?=some q/\q.lv=l)->r.length < fuel->(ab++r).length < 10000 ->
    ∃v' z2',Jl (nxW a) (λd env=>gN 2 d env >>= λenv'=>Jx env') fuel pre.length [.val (.ref 0),e1,z2,e3,e4,e5,.val (.lst ((TR.Jj s.S ab).map .int)),e7,e8] v=some ((.nx,[.val (.ref 0),e1,z2',e3,e4,e5,.val (.lst ((TR.Jj s.S (ab++r)).map .int)),e7,e8]),v')/\Sx s w v'/\v'.length=v.length/\∀j,j≠0->v'[j]?=v[j]?:=by
  have turn:∀(n:Nat)(p:TR.Pg)(v:Hs)(ab:List Nat)(e1 e3 e4 e5 e7 e8:Sl),s.S.pg[n]?=some p->p.lv=l->Sx s w v->ab.length < 10000->∃v',Jx [.val (.ref 0),e1,.val (.int n),e3,e4,e5,.val (.lst ((TR.Jj s.S ab).map .int)),e7,e8] v=some ((.nx,[.val (.ref 0),e1,.val (.int n),e3,e4,e5,.val (.lst ((TR.Jj s.S (ab++[n])).map .int)),e7,e8]),v')/\Sx s w v'/\v'.length=v.length/\∀j,j≠0->v'[j]?=v[j]?:=by
    intro n p v ab e1 e3 e4 e5 e7 e8 hn hlv A hab
    let E:Sl->En:=λz=>[.val (.ref 0),e1,.val (.int n),e3,e4,e5,z,e7,e8]
    obtain⟨u,e,A2,l2,o2⟩:=A.meth hn (f:=Qb 2) (env:=E (.val (.lst ((TR.Jj s.S ab).map .int)))) rfl (Qe rfl);have kl:=yd T hr ab;have ok:=T.page n p hn;have few:=ok.few;have pt:=ok.parts;rw[Eb (by lia)] at pt
    have kk:TR.Jj s.S (ab++[n])=TR.Jj s.S ab++p.ps:=by
      unfold TR.Jj;rw[List.flatMap_append,List.flatMap_cons,List.flatMap_nil,Bu];unfold TR.zq;rw[hn];dsimp only;rw[Ec (by lia)]
    refine⟨u,QB (Qi (Qe rfl) (XA (Zq (Qi e rfl (yo p u))) (vz _ u)) ?_),A2,l2,o2⟩;show(Qy (YM ((TR.Jj s.S ab).map .int++p.ps.map .int)) >>= λ_=>pure (DV.lst ((TR.Jj s.S ab).map .int++p.ps.map .int))) u=_;rw[Xb (by simp;lia),kk,List.map_append];rfl
  have item:∀(v:Hs)(pre r:List Nat)(n:Nat),v[a]?=some (.lst (nD (pre++n::r)))->nxW a pre.length v=some (some (.int (n:Int)),v):=λv pre r n h=>by
    have x:=YV h pre.length;rw[uS (n:=n) (by rw[Ar (Ag _),Nat.sub_self];rfl)] at x
    exact x
  induction c with
  | @last n p hn hs =>
    intro v pre ab fuel e1 z2 e3 e4 e5 e7 e8 A ga hm hf hab;obtain⟨g,rfl⟩:∃g,fuel=g+1:=⟨fuel - 1,by lia⟩
    obtain⟨q,q1,q2⟩:=hm n (by simp)
    rw[hn] at q1;cases q1;obtain⟨v',e,A',l',o'⟩:=turn n p v ab e1 e3 e4 e5 e7 e8 hn q2 A (by simp at hab;lia)
    have bb:(gN 2 (.int (n:Int)) [.val (.ref 0),e1,z2,e3,e4,e5,.val (.lst ((TR.Jj s.S ab).map .int)),e7,e8] >>= λenv'=>Jx env') v=some ((.nx,[.val (.ref 0),e1,.val (.int n),e3,e4,e5,.val (.lst ((TR.Jj s.S (ab++[n])).map .int)),e7,e8]),v'):=e;obtain⟨g2,rfl⟩:∃g2,g=g2+1:=⟨g - 1,by simp at hf;lia⟩
    have x:=YV ((o' a ha).trans ga) (pre.length+1);rw[Cz (by unfold nD;simp)] at x
    refine⟨v',.val (.int n),?_,A',l',o'⟩;rw[Jl,Qf (item v pre [] n ga)];simp only;rw[Qf bb];show Jl _ _ (g2+1) (pre.length+1) _ _=_;rw[Jl,Qf x];rfl
  | @next n p s' r hn hs c ih =>
    intro v pre ab fuel e1 z2 e3 e4 e5 e7 e8 A ga hm hf hab;obtain⟨g,rfl⟩:∃g,fuel=g+1:=⟨fuel - 1,by lia⟩
    obtain⟨q,q1,q2⟩:=hm n (by simp)
    rw[hn] at q1;cases q1;obtain⟨v',e,A',l',o'⟩:=turn n p v ab e1 e3 e4 e5 e7 e8 hn q2 A (by simp at hab;lia)
    have bb:(gN 2 (.int (n:Int)) [.val (.ref 0),e1,z2,e3,e4,e5,.val (.lst ((TR.Jj s.S ab).map .int)),e7,e8] >>= λenv'=>Jx env') v=some ((.nx,[.val (.ref 0),e1,.val (.int n),e3,e4,e5,.val (.lst ((TR.Jj s.S (ab++[n])).map .int)),e7,e8]),v'):=e;have ap:∀q:List Nat,q++n::r=(q++[n])++r:=λq=>by simp
    obtain⟨v2,z2',e',A2,l2,o2⟩:=ih v' (pre++[n]) (ab++[n]) g e1 (.val (.int n)) e3 e4 e5 e7 e8 A' (by rw[<- ap];exact(o' a ha).trans ga) (λm h=>hm m (Ay _ h)) (by simp at hf;lia) (by rw[<- ap];exact hab)
    refine⟨v2,z2',?_,A2,by lia,λj h0=>(o2 j h0).trans (o' j h0)⟩
    rw[Jl,Qf (item v pre r n ga)];simp only;rw[Qf bb];rw[Ao,<- ap] at e';exact e'
end
theorem zL:∀ns:List Int,qY (ns.map .int)=some ns
 | []=>rfl
 | n::ns=>by show(qY (ns.map .int)).map (n :: ·)=_;rw[zL ns];rfl
theorem Qdf{ns:List Int}{f:DEx}(hf:f env hp=some (.lst (ns.map .int),hp)):Zd Qde (Qc f Qn) env hp=some (.lst ((srt ns).map .int),hp):=by
 refine XA (Zq hf) ?_;show(Qb7 (.lst (ns.map .int)) >>= _) hp=_;have e:Qb7 (.lst (ns.map .int)) hp=some (ns,hp):=by
  show uU (qY (ns.map .int)) hp=_;rw[zL];rfl
 rw[Qf e];rfl
theorem QeV{ks:List Int}{n:Nat}(nd:ks.Nodup)(h:∀x,x∈ks↔∃c:Nat,c < n/\x=c):srt ks=(List.range n).map λ(x:Nat)=>(x:Int):=by
 have nd2:((List.range n).map λ(x:Nat)=>(x:Int)).Nodup:=by
  unfold List.Nodup;rw[List.pairwise_map];exact List.nodup_range.imp λh e=>h (by lia)
 have p:((List.range n).map λ(x:Nat)=>(x:Int)).Perm ks:=by
  rw[List.perm_iff_count];intro x;rw[nd2.count,nd.count];have:x∈((List.range n).map λ(x:Nat)=>(x:Int))↔x∈ks:=by
   rw[h,C9];constructor
   ·rintro⟨c,h1,h2⟩;exact⟨c,Ch.mp h1,h2.symm⟩
   ·rintro⟨c,h1,h2⟩;exact⟨c,Ch.mpr h1,h2.symm⟩
  by_cases q:x∈ks
  ·rw[Ec q,Ec (this.mpr q)]
  ·rw[Eb q,Eb (λz=>q (this.mp z))]
 refine(Um p ?_).symm;rw[List.pairwise_map];exact List.Pairwise.imp (λh=>by lia) (List.pairwise_lt_range (n:=n))
theorem VW(ks:List Int):Pl 1 (.lst (ks.map .int)):=λd hd=>by
 obtain⟨k,_,rfl⟩:=C9.mp hd;exact QgB _ _
theorem Qe3{c:DTx}{b:DSx}{n:Nat}(h:c env hp=some (true,hp1))(hb:b env hp1=some ((.rt x,env1),hp2)):J2 c b (n+1) env hp=some ((.rt x,env1),hp2):=by
 rw[J2,Qf h];show(b env >>= _) hp1=_;rw[Qf hb];rfl
section
variable{w v:Hs}{s:TR.St}{bg:TR.Bg}{n a b d:Nat}{p:TR.Pg}
def eQ(S:TR.Sh)(st:Bool)(l a:Nat)(m:Nat)(q:List Nat)(z2 z7 z8:Sl):En:=[.val (.ref 0),.val (.bl st),z2,.val (.int l),.val (.ref a),.val (.int (m:Int)),.val (.lst ((TR.Jj S q).map .int)),z7,z8]
theorem Kz{st:Bool}{l m:Nat}{q r:List Nat}(ga:v[a]?=some (.lst (nD r)))(rest:DSx):Qr (QA 5 (Qk ZL (Qb 5) (Zd Z4 (Qc (Qb 4) (Qn))))) (Qr (QA 7 (Xl (Qn))) rest) (eQ s.S st l a m q z2 z7 z8) v=rest (eQ s.S st l a (m+r.length) q z2 (.val (.lst [])) z8) v:=by
 have u1:QA 5 (Qk ZL (Qb 5) (Zd Z4 (Qc (Qb 4) (Qn)))) (eQ s.S st l a m q z2 z7 z8) v=some ((.nx,eQ s.S st l a (m+r.length) q z2 z7 z8),v):=QB (Qi (x:=.int m) (y:=.int r.length) (Qe rfl) ((qD (Qe rfl) ga).trans (by unfold nD;rw[Bt])) (by show some (DV.int (_+_),v)=some (DV.int _,v);rw[Int.natCast_add]))
 exact(Qj u1).trans (Qj (QB rfl))
theorem Qcl{st:Bool}{l m:Nat}{q:List Nat}(c:Bool)(hc:decide (0 < l)=c):eB (Qk gtD (Qb 3) (eC (.int 0))) (eQ s.S st l a m q z2 z7 z8) v=some (c,v):=QW (Qi (Qe rfl) rfl (by
 rw[ZJ];show some (DV.bl (decide ((l:Int) > 0)),v)=_;rw[<- hc];by_cases q:0 < l
 ·rw[Eg q,Eg (by lia)]
 ·rw[Ei q,Ei (by lia)]))
def Ki{st:Bool}{l m:Nat}{q:List Nat}(hB:isD B .non v=some (.bl false,v))(e:Z6 [.ref 0,.ref a,.int l,B] v=some (.bl true,v1)):sIf (eOr (eB (Qk isD (Qb 7) (eC .non))) (Xe (eB (QH 4 Z6 (Qc (Qb 0) (Qc (Qb 4) (Qc (Qb 3) (Qc (Qb 7) (Qn))))))))) (QP (eC (.bl false))) (Zi) (eQ s.S st l a m q z2 (.val B) z8) v=some ((.nx,eQ s.S st l a m q z2 (.val B) z8),v1):=(QS ((yC (hp1:=v) (QW (Qi (Qe rfl) rfl hB))).trans (X6 (b:=true) (QW (ZD (gS (Qe rfl) (Qe rfl) (Qe rfl) (Qe rfl)) rfl e))))).trans QT
theorem gD(T:TR.Tree s.S bg)(h1:1 < w.length)(hr5:s.S.O2<=5)(hpg:s.S.pg.length < 5000){st:Bool}(hst:st=true->∀c,c < s.S.pg.length->c≠s.S.top->TR.Kd s.S c){r ab:List Nat}(hb:bg n=none)(c:TR.Chain s.S n r)(nd:r.Nodup)(hm:∀m,m∈r↔∃q,s.S.pg[m]?=some q/\q.lv=0)(Ab:TR.Abv s.S 0 ab)(al:ab.length<=s.S.pg.length)(A:Sx s w v)(ga:v[a]?=some (.lst (nD r)))(ha:w.length<=a):∃v' env,XH (eQ s.S st 0 a ab.length ab z2 z7 z8) v=some ((.rt (.bl true),env),v')/\Sx s w v':=by
  have rl:=TR.Chain.len T nd hm;obtain⟨v1,e1,A1,l1,o1⟩:=kP T A h1 hr5 (l:=0) (rb:=[]) c nd hb (λm h=>(hm m).mp h) (by lia) ga ha (.lst []) (.inr ⟨rfl,rfl⟩) (λh=>absurd h (by decide))
  have kl:=yd T hr5 ab;obtain⟨x,hx⟩:=A1.h1;have er:Xl (Qc (Qv "Shelf" "root" 1 Zh (Qb 0) Qn) (Qn)) (eQ s.S st 0 a (ab.length+r.length) ab z2 (.val (.lst [])) z8) v1=some (.lst [.int s.S.top],v1):=by
    have a1:Qc (Qv "Shelf" "root" 1 Zh (Qb 0) Qn) Qn (eQ s.S st 0 a (ab.length+r.length) ab z2 (.val (.lst [])) z8) v1=some ([.int s.S.top],v1):=Zq (Q3 (Qe rfl) hx (jH ..) qJ rfl (Gu hx));unfold Xl;rw[Qf a1];rfl
  have ea:Qk ZL (Qb 6) (Xl (Qc (Qv "Shelf" "root" 1 Zh (Qb 0) Qn) (Qn))) (eQ s.S st 0 a (ab.length+r.length) ab z2 (.val (.lst [])) z8) v1=some (.lst ((TR.Jj s.S ab++[(s.S.top:Int)]).map .int),v1):=by
    refine Qi (y:=.lst [.int s.S.top]) (Qe rfl) er ?_;show(Qy (YM ((TR.Jj s.S ab).map .int++[.int (s.S.top:Int)])) >>= λ_=>pure (DV.lst ((TR.Jj s.S ab).map .int++[.int (s.S.top:Int)]))) v1=_;rw[Xb (by simp;lia),List.map_append];rfl
  have c2:YO (eQ s.S st 0 a (ab.length+r.length) ab z2 (.val (.lst [])) z8) v1=some (.lst (((List.range s.S.pg.length).map λ(x:Nat)=>(x:Int)).map .int),v1):=by
    have cx:=U6 (hp:=v1) (t:=λd=>gH (cE [] (eQ s.S st 0 a (ab.length+r.length) ab z2 (.val (.lst [])) z8) d)) (f:=λd=>Qb 0 (cE [] (eQ s.S st 0 a (ab.length+r.length) ab z2 (.val (.lst [])) z8) d)) (g:=λd=>d) (Zc 0 s.S.pg.length) (λ_ _=>rfl) (λ_ _=>rfl) (by rw[Ja];lia)
    have e:(Zc 0 s.S.pg.length).map (λd=>d)=((List.range s.S.pg.length).map λ(x:Nat)=>(x:Int)).map DV.int:=by
      unfold Zc;rw[List.map_map,List.map_map];apply List.map_congr_left;intro x _;show DV.int (0+(x:Int))=DV.int (x:Int);rw[Int.zero_add]
    rw[e] at cx;unfold YO J1;rw[Qf (jJ (zQ (m:=s.S.pg.length) (Zq (A1.pages rfl)) (by lia))),Qf (show JF _ _ _ lim 0 v1=_ from cx)];rfl
  obtain⟨wh,ew,hw⟩:∃wh:Bool,eqG (.lst ((srt (TR.Jj s.S ab++[(s.S.top:Int)])).map .int)) (.lst (((List.range s.S.pg.length).map λ(x:Nat)=>(x:Int)).map .int)) v1=some (.bl wh,v1)/\(st=true->wh=true):=by
    cases hs:st with
    | true =>
      obtain⟨q1,q2⟩:=TR.Abv.whole T (hst hs) Ab;rw[QeV q1 q2];exact⟨true,QbP (VW _) (by decide) v1,λ_=>rfl⟩
    | false =>
      refine⟨PyData.eqv (toP (.lst ((srt (TR.Jj s.S ab++[(s.S.top:Int)])).map .int))) (toP (.lst (((List.range s.S.pg.length).map λ(x:Nat)=>(x:Int)).map .int))),?_,λh=>by cases h⟩
      unfold eqG;rw[Qf (U8 (VW _) (VW _) (by decide) (by decide) v1)];rfl
  have all:=Ab.all nd hm;have sq:eqG (.int ((ab.length+r.length:Nat):Int)) (.int (s.S.pg.length:Nat)) v1=some (.bl true,v1):=by rw[all,eqI];simp
  have u6:Xv (Qk eqG (Qb 5) (Qv "Shelf" "pages" 1 Zr (Qb 0) Qn)) (Y8 (Qb 8) (Ym (Qb 1))) (eQ s.S st 0 a (ab.length+r.length) ab z2 (.val (.lst [])) (.val (.bl wh))) v1=some (.bl true,v1):=by
    refine(vb (b:=true) (hp1:=v1) (Qi (x:=.int ((ab.length+r.length:Nat):Int)) (Qe rfl) (A1.pages rfl) sq)).trans ((Ec rfl).trans ?_);cases hwh:wh with
    | true=>exact(zP (b:=true) (Qe rfl)).trans (Ec rfl)
    | false =>
      have sf:st=false:=by
        cases hs:st with
        | false=>rfl
        | true=>rw[hw hs] at hwh;cases hwh
      subst sf;refine(zP (b:=false) (Qe rfl)).trans ((Eb (by simp)).trans ?_)
      unfold Ym;rw[Qf (show Qb 1 (eQ s.S false 0 a (ab.length+r.length) ab z2 (.val (.lst [])) (.val (.bl false))) v1=some (.bl false,v1) from Qe rfl)];rfl
  exact⟨v1,_,(Kz ga _).trans ((Qj ((QS (Qcl false rfl)).trans QT)).trans ((Qj (Ki rfl e1)).trans (Zp ((Zz (QW (Qi (x:=.int ((0:Nat):Int)) (y:=.int 0) (d:=.bl true) (Qe rfl) rfl (eqI _ _ v1)))).trans ((Qj (QB (Qi (Qdf ea) c2 ew))).trans (QM u6)))))),A1⟩
theorem gC(T:TR.Tree s.S bg)(h1:1 < w.length)(hr5:s.S.O2<=5)(hpg:s.S.pg.length < 5000){st:Bool}{l:Nat}{r ab:List Nat}{z2 z7 z8:Sl}(hn:s.S.pg[n]?=some p)(hl:p.lv=l+1)(hb:bg n=none)(c:TR.Chain s.S n r)(nd:r.Nodup)(hm:∀m,m∈r↔∃q,s.S.pg[m]?=some q/\q.lv=l+1)(al:ab.length<=s.S.pg.length)(A:Sx s w v)(ga:v[a]?=some (.lst (nD r)))(ha:w.length<=a):
  ∃v' a' c1 q rb z2',XH (eQ s.S st (l+1) a ab.length ab z2 z7 z8) v=some ((.nx,eQ s.S st l a' (ab++r).length (ab++r) z2' (.val (.ref a')) z8),v')/\Sx s w v'/\s.S.pg[c1]?=some q/\q.lv=l/\bg c1=none/\TR.Chain s.S c1 rb/\rb.Nodup/\(∀m,m∈rb↔∃q,s.S.pg[m]?=some q/\q.lv=l)/\v'[a']?=some (.lst (nD rb))/\w.length<=a':=by
 have rl:=TR.Chain.len T nd hm;have hm':∀m∈r,∃q,s.S.pg[m]?=some q/\q.lv=l+1:=λm h=>(hm m).mp h;obtain⟨c1,q,k1,k2,k3,k4⟩:=TR.Qci T hn hb (by lia)
 obtain⟨rb,cb,ndb,mb⟩:=TR.QcX T k2 k4;have ql:q.lv=l:=by lia
 rw[ql] at mb;have rbl:=TR.Chain.len T ndb mb;have head:(nD r)[0]?=some (.int (n:Int)):=by
  cases c with
  | last _ _=>rfl
  | next _ _ _=>rfl
 have p0:Qk ixG (Qb 4) (eC (.int 0)) (eQ s.S st (l+1) a (ab.length+r.length) ab z2 (.val (.lst [])) z8) v=some (.int (n:Int),v):=Qi (Qe rfl) rfl (Vh (i:=0) ga head);obtain⟨v1,er,A1,l1,o1⟩:=A.meth hn (env:=eQ s.S st (l+1) a (ab.length+r.length) ab z2 (.val (.lst [])) z8) rfl p0;have fk:Qk ixG (Qk ixG (Qv "Shelf" "read" 2 QN (Qb 0) (Qc (Qk ixG (Qb 4) (eC (.int 0))) (Qn))) (eC (.int 2))) (eC (.int 0)) (eQ s.S st (l+1) a (ab.length+r.length) ab z2 (.val (.lst [])) z8) v=some (.int (c1:Int),v1):=Qi (Qi er rfl (yo p v1)) rfl (Z1 (i:=0) (by rw[Bv,k1];rfl) v1)
 have sub:∀u,qU (.int ((l+1:Nat):Int)) (.int 1) u=some (.int (l:Int),u):=λu=>by
  show some (DV.int (_ - _),u)=some (DV.int _,u);rw[show((l+1:Nat):Int) - 1=(l:Int) by lia]
 obtain⟨v2,e2,A2,l2,g2,o2⟩:=Qcm A1 h1 cb ndb rbl (by lia) (.int (l:Int))
 have w3:QA 7 (QH 3 Xz (Qc (Qb 0) (Qc (Qk ixG (Qk ixG (Qv "Shelf" "read" 2 QN (Qb 0) (Qc (Qk ixG (Qb 4) (eC (.int 0))) (Qn))) (eC (.int 2))) (eC (.int 0))) (Qc (Qk qU (Qb 3) (eC (.int 1))) (Qn))))) (eQ s.S st (l+1) a (ab.length+r.length) ab z2 (.val (.lst [])) z8) v=some ((.nx,eQ s.S st (l+1) a (ab.length+r.length) ab z2 (.val (.ref v1.length)) z8),v2):=QB (ZD (Xu (Qe rfl) fk (Qi (Qe rfl) rfl (sub v1))) rfl e2);have la:=(Ad.mp ga).1;have ga2:v2[a]?=some (.lst (nD r)):=(o2 a (by lia) (by lia)).trans ((o1 a (by lia)).trans ga)
 obtain⟨v3,z2',e3,A3,l3,o3⟩:=QaR T hr5 (by lia) (Nat.succ_pos l) c v2 [] ab 100000 (.val (.bl st)) z2 (.val (.int ((l+1:Nat):Int))) (.val (.ref a)) (.val (.int ((ab.length+r.length:Nat):Int))) (.val (.ref v1.length)) z8 A2 ga2 hm' (by lia) (by simp;lia)
 have w4:jd (eQ s.S st (l+1) a (ab.length+r.length) ab z2 (.val (.ref v1.length)) z8) v2=some ((.nx,eQ s.S st (l+1) a (ab.length+r.length) (ab++r) z2' (.val (.ref v1.length)) z8),v3):=by
  show J5 (xLs (Qb 4)) (gN 2) (Jx) _ v2=_;unfold J5;rw[Qf (Vn (n:=a) (Qe rfl) ga2)];exact e3
 have wl:=A1.ln;obtain⟨v4,e4,A4,l4,o4⟩:=kP T A3 h1 hr5 (rb:=rb) c nd hb hm' (by lia) ((o3 a (by lia)).trans ga2) ha (.ref v1.length) (.inl ⟨v1.length,c1,rfl,A1.ln,(o3 _ (by lia)).trans g2,cb,ndb,k4,by lia⟩) (λ_ m q' h h'=>(mb m).mpr ⟨q',h,by lia⟩)
 have l1b:v1.length < v3.length:=by lia
 refine⟨v4,v1.length,c1,q,rb,z2',(Kz ga _).trans ((Qj ((Zz (Qcl true (Eg (Nat.succ_pos l)))).trans ((Qj w3).trans w4))).trans ((Qj (Ki rfl e4)).trans ((Qj ((QS (QW (Qi (x:=.int ((l+1:Nat):Int)) (y:=.int 0) (d:=.bl false) (Qe rfl) rfl ((eqI _ _ v4).trans (by rw[beq_eq_false_iff_ne.mpr (by lia)]))))).trans QT)).trans ((Qj (QB (Qe rfl))).trans ((QB (Qi (x:=.int ((l+1:Nat):Int)) (y:=.int 1) (Qe rfl) rfl (sub v4))).trans ?_))))),A4,k2,ql,k4,cb,ndb,mb,(o4 _ l1b (by lia)).trans ((o3 _ (by lia)).trans g2),A1.ln⟩
 rw[Ao];rfl
theorem gB(T:TR.Tree s.S bg)(h1:1 < w.length)(hr5:s.S.O2<=5)(hpg:s.S.pg.length < 5000)(st:Bool)(hst:st=true->∀c,c < s.S.pg.length->c≠s.S.top->TR.Kd s.S c):∀(l n:Nat)(p:TR.Pg)(r ab:List Nat)(v:Hs)(a fuel:Nat)(z2 z7 z8:Sl),s.S.pg[n]?=some p->p.lv=l->bg n=none->TR.Chain s.S n r->r.Nodup->(∀m,m∈r↔∃q,s.S.pg[m]?=some q/\q.lv=l)->TR.Abv s.S l ab->Sx s w v->v[a]?=some (.lst (nD r))->w.length<=a->l < fuel ->
    ∃v' env,J2 (eB (Qk yb (Qb 4) (eC .non))) (XH) fuel (eQ s.S st l a ab.length ab z2 z7 z8) v=some ((.rt (.bl true),env),v')/\Sx s w v':=by
  have abl:∀{l:Nat}{ab:List Nat},TR.Abv s.S l ab->ab.length<=s.S.pg.length:=λ{l ab} Ab=>by
    have:=TR.ZV Ab.1 (m:=List.range s.S.pg.length) λx hx=>by
      obtain⟨q,q1,_⟩:=(Ab.2 x).mp hx;exact Ch.mpr (TR.Qx q1)
    rwa [List.length_range] at this
  intro l;induction l with
  | zero =>
    intro n p r ab v a fuel z2 z7 z8 hn hl hb c nd hm Ab A ga ha hf;obtain⟨g,rfl⟩:∃g,fuel=g+1:=⟨fuel - 1,by lia⟩
    obtain⟨v',env,e,A'⟩:=gD T h1 hr5 hpg hst (z2:=z2) (z7:=z7) (z8:=z8) hb c nd hm Ab (abl Ab) A ga ha;exact⟨v',env,Qe3 (QW rfl) e,A'⟩
  | succ l ih =>
    intro n p r ab v a fuel z2 z7 z8 hn hl hb c nd hm Ab A ga ha hf;obtain⟨g,rfl⟩:∃g,fuel=g+1:=⟨fuel - 1,by lia⟩
    obtain⟨v1,a1,c1,q,rb,z2',e,A1,k1,k2,k3,k4,k5,k6,k7,k8⟩:=gC T h1 hr5 hpg (st:=st) (z2:=z2) (z7:=z7) (z8:=z8) hn hl hb c nd hm (abl Ab) A ga ha;obtain⟨v5,env,e5,A5⟩:=ih c1 q rb (ab++r) v1 a1 g z2' (.val (.ref a1)) z8 k1 k2 k3 k4 k5 k6 (Ab.next nd hm) A1 k7 k8 (by lia)
    exact⟨v5,env,(Qam (QW rfl) e).trans e5,A5⟩
theorem QeU(T:TR.Tree s.S bg)(K0:TR.Fk s.S)(h1:w[0]?=some (.ins "Shelf" (shF s.S.O2 1 s.S.top s.S.rd s.S.wr)))(h2:w[1]?=some (.lst (s.S.pg.map pgD)))(hr5:s.S.O2<=5)(hpg:s.S.pg.length < 5000)(st:Bool)(hst:st=true->∀c,c < s.S.pg.length->c≠s.S.top->TR.Kd s.S c):∃v',Z7 [.ref 0,.bl st] w=some (.bl true,v')/\Sx s w v':=by
 have A:Sx s w w:=⟨⟨_,h1⟩,h2,Ag _,λ_ _ _=>rfl⟩;have wl:1 < w.length:=(Ad.mp h2).1;obtain⟨r,r1,r2⟩:=T.root;obtain⟨ro,cr,ndr,mr⟩:=TR.QcX T r1 T.rbg;have rl:=TR.Chain.len T ndr mr
 let E:Sl->Sl->Sl->Sl->Sl->En:=λz2 z3 z4 z5 z6=>[.val (.ref 0),.val (.bl st),z2,z3,z4,z5,z6,.un,.un]
 have s1:QA 2 (Qv "Shelf" "root" 1 Zh (Qb 0) Qn) (E .un .un .un .un .un) w=some ((.nx,E (.val (.int s.S.top)) .un .un .un .un),w):=QB (Q3 (Qe rfl) h1 (jH ..) qJ rfl (Gu h1));obtain⟨v1,e1,A1,l1,o1⟩:=A.meth r1 (f:=Qb 2) (env:=E (.val (.int s.S.top)) .un .un .un .un) rfl (Qe rfl);have s2:QA 3 (Qk ixG (Qv "Shelf" "read" 2 QN (Qb 0) (Qc (Qb 2) (Qn))) (eC (.int 0))) (E (.val (.int s.S.top)) .un .un .un .un) w=some ((.nx,E (.val (.int s.S.top)) (.val (.int r.lv)) .un .un .un),v1):=QB (Qi e1 rfl (Go r v1));obtain⟨v2,e2,A2,l2,g2,o2⟩:=Qcm A1 wl cr ndr rl (by lia) (.int (r.lv:Int))
 have s3:QA 4 (QH 3 Xz (Qc (Qb 0) (Qc (Qb 2) (Qc (Qb 3) (Qn))))) (E (.val (.int s.S.top)) (.val (.int r.lv)) .un .un .un) v1=some ((.nx,E (.val (.int s.S.top)) (.val (.int r.lv)) (.val (.ref v1.length)) .un .un),v2):=QB (ZD (Xu (Qe rfl) (Qe rfl) (Qe rfl)) rfl e2);have s4:QA 5 (eC (.int 0)) (E (.val (.int s.S.top)) (.val (.int r.lv)) (.val (.ref v1.length)) .un .un) v2=some ((.nx,E (.val (.int s.S.top)) (.val (.int r.lv)) (.val (.ref v1.length)) (.val (.int 0)) .un),v2):=QB rfl;have s5:QA 6 (Xl (Qn)) (E (.val (.int s.S.top)) (.val (.int r.lv)) (.val (.ref v1.length)) (.val (.int 0)) .un) v2=some ((.nx,E (.val (.int s.S.top)) (.val (.int r.lv)) (.val (.ref v1.length)) (.val (.int 0)) (.val (.lst []))),v2):=QB rfl;have rb:r.lv < 100000:=by
  have K:r.lv < s.S.pg.length:=by
   have h:=TR.Tree.pages_two T K0 r1 λj a b=>T.levels j a (by rw[TR.ZM r1];exact b)
   lia
  lia
 obtain⟨v3,env,e3,A3⟩:=gB T wl hr5 hpg st hst r.lv s.S.top r ro [] v2 v1.length 100000 (.val (.int s.S.top)) .un .un r1 rfl T.rbg cr ndr mr ⟨List.nodup_nil,λm=>⟨λh=>(by cases h),λ⟨q,q1,q2⟩=>by have:=r2 m q q1;lia⟩⟩ A2 g2 A1.ln rb
 exact⟨v3,QF ((Qj s1).trans ((Qj s2).trans ((Qj s3).trans ((Qj s4).trans ((Qj s5).trans (Zp e3)))))),A3⟩
end
theorem QdL(ns:List Int)(k:Nat)(hl:ns.length<=63):∃x,Jw [.lst (ns.map .int),.int k]=pure (.int x):=by
 by_cases h:k < ns.length
 ·have a:=Yz (xs:=ns.map DV.int) (j:=k) (v:=.int ns[k]) (by simp[h])
  refine⟨ns[k],?_⟩;have h':(k:Int) < (ns.length:Int):=by lia
  simp[Jw,YR,Q8,Qr,QA,QP,zD,sIf,Zi,V2,y6,V0,V1,Qk,Qb,eC,eB,asB,X5,eOr,Xe,Xv,Y8,Ym,eIf,qR,Qn,Qc,ZE,Xl,QH,Zd,Qy,gN,Jr,JM,ZJ,JC,JW,JT,JI,qN,zB,VX,Z9,Xp,qC,ixD,asI,a,h']
 ·have h':¬ (k:Int) < (ns.length:Int):=by lia
  exact⟨0,by simp[Jw,YR,Q8,Qr,QA,QP,zD,sIf,Zi,V2,y6,V0,V1,Qk,Qb,eC,eB,asB,X5,eOr,Xe,Xv,Y8,Ym,eIf,qR,Qn,Qc,ZE,Xl,QH,Zd,Qy,gN,Jr,JM,ZJ,JC,JW,JT,JI,qN,zB,VX,Z9,Xp,qC,h']⟩
theorem qx{c k:Int}(h:Jz c)(hk:0 < k):Jz (c / k):=Qaw (by
 have:=PySem.natAbs_fdiv_le c k
 rwa [Int.fdiv_eq_ediv_of_nonneg _ (by lia)] at this) h
theorem Qd8{x y:Int}(hx:Jz x)(hy:Jz y):Qd7 (.int x) (.int y)=pure (.int (x * y)):=by
 have:Qfe x y=true:=Eg ⟨hx,hy⟩;simp[Qd7,qA,this]
def QiF:YW (.int 1000000007) (.int 3)=pure (.int 1000000021000000147000000343):=rfl
theorem Qca(c:Int)(h:Jz c)(hp:Hs):∃k,Xy [.int c] hp=some (.int k,hp):=by
  have d6:=Zt (Xj c 6 (by decide) (by decide)) hp
  have m6:=Zt (Ju c 6 (by decide)) hp
  let E:En:=[.val (.int c),.val (.int (c / 6))]
  have s1:QA 1 (Qk Yv (Qb 0) (eC (.int 6))) [.val (.int c),.un] hp=some ((.nx,E),hp):=QB (Qi (Qe rfl) rfl d6);have t:∀i:Int,eB (Qk eqD (Qk XN (Qb 0) (eC (.int 6))) (eC (.int i))) E hp=some (c % 6==i,hp):=λi=>QW (Qi (Qi (Qe rfl) rfl m6) rfl (Zt (Z9 _ _) _));have p30:Qk YW (eC (.int 10)) (eC (.int 30)) E hp=some (.int 1000000000000000000000000000000,hp):=Qi rfl rfl (Zt qN _);have hb:Jz (1000000021000000147000000343:Int):=by decide
  have m1:=Zt (Qd8 (qx h (k:=6) (by decide)) hb) hp
  have m2:=Zt (Ju (c / 6 * 1000000021000000147000000343) (2 * 1000000000000000000000000000000+1) (by decide)) hp
  have m3:=Zt (Qcv 2 1000000000000000000000000000000 (by decide) (by decide)) hp
  have m4:=Zt (Ju (c / 6) 4 (by decide)) hp
  have m17:=Zt (Ju (c / 6) 17 (by decide)) hp
  cases h0:(c % 6==0) with
  | true =>
    exact⟨_,QF (env:=E) ((Qj s1).trans (Zp ((Zz ((t 0).trans (by rw[h0]))).trans (QM (Qi (Qi (Qi (Qe rfl) (Qi rfl rfl (Zt QiF _)) m1) (Qi (Qi rfl p30 m3) rfl rfl) m2) p30 rfl)))))⟩
  | false =>
    cases h1:(c % 6==1) with
    | true =>
      have g0:0<=c / 6 % 4:=Int.emod_nonneg _ (by decide)
      have g1:c / 6 % 4 < 4:=Int.emod_lt_of_pos _ (by decide)
      have nn:qR (Qk YW (eC (.int 10)) (eC (.int 30))) E hp=some (.int (-1000000000000000000000000000000),hp):=rfl;obtain⟨v,hv⟩:∃v:Int,ixD (.lst [.int 1000000000000000000000000000000,.int (-1000000000000000000000000000000),.int (1000000000000000000000000000000 - 1),.int (1 - 1000000000000000000000000000000)]) (.int (c / 6 % 4)) hp=some (.int v,hp):=by
        rcases(by lia:c / 6 % 4=0∨c / 6 % 4=1∨c / 6 % 4=2∨c / 6 % 4=3) with q | q | q | q<;>rw[q]<;>exact⟨_,rfl⟩
      have ls:Xl (Qc (Qk YW (eC (.int 10)) (eC (.int 30))) (Qc (qR (Qk YW (eC (.int 10)) (eC (.int 30)))) (Qc (Qk qU (Qk YW (eC (.int 10)) (eC (.int 30))) (eC (.int 1))) (Qc (Qk qU (eC (.int 1)) (Qk YW (eC (.int 10)) (eC (.int 30)))) (Qn))))) E hp=some (.lst [.int 1000000000000000000000000000000,.int (-1000000000000000000000000000000),.int (1000000000000000000000000000000 - 1),.int (1 - 1000000000000000000000000000000)],hp):=rfl;exact⟨v,QF (env:=E) ((Qj s1).trans ((Qj ((QS ((t 0).trans (by rw[h0]))).trans QT)).trans (Zp ((Zz ((t 1).trans (by rw[h1]))).trans (QM (Qi ls (Qi (Qe rfl) rfl m4) hv))))))⟩
    | false =>
      exact⟨_,QF (env:=E) ((Qj s1).trans ((Qj ((QS ((t 0).trans (by rw[h0]))).trans QT)).trans ((Qj ((QS ((t 1).trans (by rw[h1]))).trans QT)).trans (QM (Qi (Qi (Qe rfl) rfl m17) rfl rfl)))))⟩
theorem Qdm(r:Nat)(h:2<=r):TR.Tree ⟨r,[⟨0,[],[],none,none⟩],0,0,0⟩ (λ_=>none):=by
 have one:∀(n:Nat)(p:TR.Pg),([⟨0,[],[],none,none⟩]:List TR.Pg)[n]?=some p->n=0/\p=⟨0,[],[],none,none⟩:=λn p hp=>by
  match n,hp with
  | 0,hp=>cases hp;exact⟨rfl,rfl⟩
  | n+1,hp=>simp at hp
 refine⟨h,⟨_,rfl,λn p hp=>?_⟩,rfl,λn p hp=>?_,λn p hp=>?_,λn p hp h0=>?_,λn m p q hn hm _ e=>?_,λn p hp v hv=>(by cases hv)⟩
 ·rw[(one n p hp).2];exact Ag _
 ·rw[(one n p hp).2]
  exact⟨List.Pairwise.nil,Bf _,rfl,λk hk=>(by cases hk),λ_ k hk=>(by cases hk),λk hk=>(by cases hk),λh hh=>(by cases hh)⟩
 ·rw[(one n p hp).2];exact .inl ⟨rfl,rfl⟩
 ·rw[(one n p hp).2] at h0;exact absurd h0 (by decide)
 ·exact absurd ((one n p hn).1.trans (one m q hm).1.symm) e
theorem QfN(c:Int)(h:Jz c)(hp:Hs):∃d,Yj [.int c] hp=some (Ze d,hp):=by
  have m9:=Zt (Ju c 9 (by decide)) hp
  have d9:=Zt (Xj c 9 (by decide) (by decide)) hp
  have d37:=Zt (Xj c 37 (by decide) (by decide)) hp
  have d131:=Zt (Xj c 131 (by decide) (by decide)) hp
  obtain⟨k,ke⟩:=Qca (c / 9) (qx h (by decide)) hp
  obtain⟨x,xe⟩:=Qca (c / 37) (qx h (by decide)) hp
  obtain⟨y,ye⟩:=Qca (c / 131) (qx h (by decide)) hp
  let E:Sl->En:=λz=>[.val (.int c),.val (.int (c % 9)),.val (.int k),z]
  have s1:QA 1 (Qk XN (Qb 0) (eC (.int 9))) [.val (.int c),.un,.un,.un] hp=some ((.nx,[.val (.int c),.val (.int (c % 9)),.un,.un]),hp):=QB (Qi (Qe rfl) rfl m9);have s2:QA 2 (QH 1 Xy (Qc (Qk Yv (Qb 0) (eC (.int 9))) (Qn))) [.val (.int c),.val (.int (c % 9)),.un,.un] hp=some ((.nx,E .un),hp):=QB (ZD (Zq (Qi (Qe rfl) rfl d9)) rfl ke);have t0:eB (Qk eqD (Qb 1) (eC (.int 0))) (E .un) hp=some (c % 9==0,hp):=QW (Qi (Qe rfl) rfl (Zt (Z9 _ _) _));have tl:∀i:Int,eB (Qk ltD (Qb 1) (eC (.int i))) (E .un) hp=some (decide (c % 9 < i),hp):=λi=>QW (Qi (Qe rfl) rfl rfl);cases h0:(c % 9==0) with
  | true=>exact⟨.find k,QF (env:=E .un) ((Qj s1).trans ((Qj s2).trans (Zp ((Zz (t0.trans (by rw[h0]))).trans (QM (JA (Jb rfl (Qe rfl)) (by simp)))))))⟩
  | false =>
    cases h5:decide (c % 9 < 5) with
    | true=>exact⟨.put k x,QF (env:=E .un) ((Qj s1).trans ((Qj s2).trans ((Qj ((QS (t0.trans (by rw[h0]))).trans QT)).trans (Zp ((Zz ((tl 5).trans (by rw[h5]))).trans (QM (JA (Xu rfl (Qe rfl) (ZD (Zq (Qi (Qe rfl) rfl d37)) rfl xe)) (by simp))))))))⟩
    | false =>
      cases h7:decide (c % 9 < 7) with
      | true=>exact⟨.cut k,QF (env:=E .un) ((Qj s1).trans ((Qj s2).trans ((Qj ((QS (t0.trans (by rw[h0]))).trans QT)).trans ((Qj ((QS ((tl 5).trans (by rw[h5]))).trans QT)).trans (Zp ((Zz ((tl 7).trans (by rw[h7]))).trans (QM (JA (Jb rfl (Qe rfl)) (by simp)))))))))⟩
      | false =>
        have s3:QA 3 (QH 1 Xy (Qc (Qk Yv (Qb 0) (eC (.int 131))) (Qn))) (E .un) hp=some ((.nx,E (.val (.int y))),hp):=QB (ZD (Zq (Qi (Qe rfl) rfl d131)) rfl ye);obtain⟨y1,s4⟩:∃y1:Int,sIf (eB (Qk eqD (Qb 3) (Qb 2))) (QA 3 (Qk qU (Qb 2) (eC (.int 1)))) (Zi) (E (.val (.int y))) hp=some ((.nx,E (.val (.int y1))),hp):=by
          have t:eB (Qk eqD (Qb 3) (Qb 2)) (E (.val (.int y))) hp=some (y==k,hp):=QW (Qi (Qe rfl) (Qe rfl) (Zt (Z9 _ _) _));cases e:(y==k) with
          | true=>exact⟨k - 1,(Zz (t.trans (by rw[e]))).trans (QB (Qi (Qe rfl) rfl rfl))⟩
          | false=>exact⟨y,(QS (t.trans (by rw[e]))).trans QT⟩
        obtain⟨y2,s5⟩:∃y2:Int,sIf (eB (Qk ltD (Qb 3) (qR (Qk YW (eC (.int 10)) (eC (.int 30)))))) (QA 3 (Qk ZL (Qb 2) (eC (.int 1)))) (Zi) (E (.val (.int y1))) hp=some ((.nx,E (.val (.int y2))),hp):=by
          have t:eB (Qk ltD (Qb 3) (qR (Qk YW (eC (.int 10)) (eC (.int 30))))) (E (.val (.int y1))) hp=some (decide (y1 < -1000000000000000000000000000000),hp):=QW (Qi (y:=.int (-1000000000000000000000000000000)) (Qe rfl) rfl rfl);cases e:decide (y1 < -1000000000000000000000000000000) with
          | true=>exact⟨k+1,(Zz (t.trans (by rw[e]))).trans (QB (Qi (Qe rfl) rfl rfl))⟩
          | false=>exact⟨y1,(QS (t.trans (by rw[e]))).trans QT⟩
        obtain⟨lo,hlo⟩:∃m:Int,Qd6 [.int k,.int y2]=pure (.int m):=⟨_,rfl⟩;obtain⟨hi,hhi⟩:∃m:Int,Qd5 [.int k,.int y2]=pure (.int m):=⟨_,rfl⟩;exact⟨.stretch lo hi,QF (env:=E (.val (.int y2))) ((Qj s1).trans ((Qj s2).trans ((Qj ((QS (t0.trans (by rw[h0]))).trans QT)).trans ((Qj ((QS ((tl 5).trans (by rw[h5]))).trans QT)).trans ((Qj ((QS ((tl 7).trans (by rw[h7]))).trans QT)).trans ((Qj s3).trans ((Qj s4).trans ((Qj s5).trans (QM (JA (Xu rfl (XA (Jb (Qe rfl) (Qe rfl)) (Zt hlo _)) (XA (Jb (Qe rfl) (Qe rfl)) (Zt hhi _))) (by simp)))))))))))⟩
def ahD(st:Int)(n:Nat):List TR.Deed:=(List.range n).map λj:Nat=>.put ((j:Int) * st % 47 - 9) (100+j)
theorem QdC(c:Int)(hp:Hs):∃ds:List TR.Deed,ds.length<=23/\XL [.int c] hp=some (.ref hp.length,hp++[.lst (ds.map Ze)]):=by
 have d24:=Zt (Xj c 24 (by decide) (by decide)) hp
 have m5:=Zt (Ju (c / 24) 5 (by decide)) hp
 have m24:=Zt (Ju c 24 (by decide)) hp
 have g0:0<=c / 24 % 5:=Int.emod_nonneg _ (by decide)
 have g1:c / 24 % 5 < 5:=Int.emod_lt_of_pos _ (by decide)
 have g2:0<=c % 24:=Int.emod_nonneg _ (by decide)
 have g3:c % 24 < 24:=Int.emod_lt_of_pos _ (by decide)
 obtain⟨n,hn⟩:=Qcy g2;obtain⟨st,hst,s0,s1⟩:∃st:Int,ixG (.lst [.int 7,.int 11,.int 23,.int 1,.int 46]) (.int (c / 24 % 5)) hp=some (.int st,hp)/\0<=st/\st<=46:=by
  rcases(by lia:c / 24 % 5=0∨c / 24 % 5=1∨c / 24 % 5=2∨c / 24 % 5=3∨c / 24 % 5=4) with q | q | q | q | q<;>rw[q]<;>exact⟨_,rfl,by decide,by decide⟩
 let E:En:=[.val (.int c),.val (.int st)]
 have u1:QA 1 (Qk ixG (Xl (Qc (eC (.int 7)) (Qc (eC (.int 11)) (Qc (eC (.int 23)) (Qc (eC (.int 1)) (Qc (eC (.int 46)) (Qn))))))) (Qk XN (Qk Yv (Qb 0) (eC (.int 24))) (eC (.int 5)))) [.val (.int c),.un] hp=some ((.nx,E),hp):=QB (Qi rfl (Qi (Qi (Qe rfl) rfl d24) rfl m5) hst)
 let g:DV->DV:=λd=>match d with | .int j=>.tup [.str "put", .int (j * st % 47 - 9),.int (100+j)] | _=>.non
 have cx:=U6 (hp:=hp) (t:=λd=>gH (cE [1] E d)) (f:=λd=>ZE (Qc (eC (.str "put")) (Qc (Qk qU (Qk XN (Qk Qa1 (Qb 0) (Qb 1)) (eC (.int 47))) (eC (.int 9))) (Qc (Qk ZL (eC (.int 100)) (Qb 0)) (Qn)))) (cE [1] E d)) (g:=g) (Zc 0 n) (λ_ _=>rfl) (λd hd=>by
  obtain⟨j,hj⟩:=List.getElem?_of_mem hd;obtain⟨j1,rfl⟩:=xt hj;exact JA (Xu rfl (Qi (Qi (Qi (x:=.int (j:Int)) (y:=.int st) rfl rfl (Zt (Qcv (j:Int) st (by lia) (by lia)) hp)) rfl (Zt (Ju _ 47 (by decide)) hp)) rfl rfl) (Qi rfl rfl rfl)) (by simp)) (by rw[Ja];lia)
 have e:(Zc 0 n).map g=(ahD st n).map Ze:=by
  unfold ahD Zc;rw[List.map_map,List.map_map];apply List.map_congr_left;intro j _;show g (.int ((0:Nat)+(j:Int)))=Ze (.put ((j:Int) * st % 47 - 9) (100+j));simp[g,Ze]
 rw[e] at cx;refine⟨ahD st n,by unfold ahD;simp;lia,QF (env:=E) ((Qj u1).trans (QM ?_))⟩
 unfold jc J1;rw[Qf (jJ (zQ (m:=n) (Zq ((Qi (Qe rfl) rfl m24).trans (by rw[hn]))) (by lia))),Qf (show JF _ _ _ lim 0 hp=_ from cx)];rfl
theorem Qe4(S P:OV)(n:Nat)(hn:n<=8):JB [.ref 2,.ref 0,.int n] [S,P,.ins "Weaver" []]=some (.non,[S,P,.ins "Weaver" (wvF 0),.lst [],.lst (List.replicate n .non),.lst []]):=by
 let E:En:=[.val (.ref 2),.val (.ref 0),.val (.int n)]
 let w:List (Str×DV)->Hs->Hs:=λfs t=>S::P::.ins "Weaver" fs::t
 have st:∀(nm:Str) (e:DEx) (v:DV) (fs:List (Str×DV)) (t t':Hs),e E (w fs t)=some (v,w fs t')->fs.length < 1000->Q6 "Weaver" nm (Qb 0) e E (w fs t)=some ((.nx,E),w (JJ nm v fs) t'):=λnm e v fs t t' he hl=>by
  rw[Jf he (Qe rfl) rfl hl];rfl
 have ml:Qk Qcw (Xl (Qc (eC .non) (Qn))) (Qb 2) E (w [("shelf", .ref 0),("deeds", .ref 3),("taken", .int 0)] [.lst []])=some (.ref 4,w [("shelf", .ref 0),("deeds", .ref 3),("taken", .int 0)] [.lst [],.lst (List.replicate n .non)]):=by
  refine Qi (x:=.lst [.non]) (y:=.int n) rfl (Qe rfl) ?_;unfold Qcw;show(Qy (decide (0<=(n:Int)/\(n:Int).toNat<=100000)) >>= λ_=>XT (.lst (List.replicate (n:Int).toNat .non)):M DV) _=_;rw[Eg ⟨by lia,by lia⟩];rfl
 refine Qaf (env:=E) ?_;refine(Qj (st "shelf" _ (.ref 0) [] [] [] (Qe rfl) (by decide))).trans ?_
 refine(Qj (st "deeds" _ (.ref 3) [("shelf", .ref 0)] [] [.lst []] rfl (show(1:Nat) < 1000 by decide))).trans ?_
 refine(Qj (st "taken" _ (.int 0) [("shelf", .ref 0),("deeds", .ref 3)] [.lst []] [.lst []] rfl (show(2:Nat) < 1000 by decide))).trans ?_
 refine(Qj (st "held" _ (.ref 4) [("shelf", .ref 0),("deeds", .ref 3),("taken", .int 0)] [.lst []] [.lst [],.lst (List.replicate n .non)] ml (show(3:Nat) < 1000 by decide))).trans ?_
 exact st "done" _ (.ref 5) [("shelf", .ref 0),("deeds", .ref 3),("taken", .int 0),("held", .ref 4)] [.lst [],.lst (List.replicate n .non)] [.lst [],.lst (List.replicate n .non),.lst []] rfl (show(4:Nat) < 1000 by decide)
section
variable{w w1:Hs}{s s' s2:TR.St}{L:Nat->Nat}{ds:List TR.Deed}{bg:TR.Bg}{b:Nat->Nat}{B H:Nat}{o:TR.Out}
theorem WB.gen{x:Int}{es:List TR.Deed}(A:WB w ds s L)(h:∀j,j < w.length->j≠0->j≠3->w1[j]?=w[j]?)(h0:w1[0]?=some (.ins "Shelf" (shF s.S.O2 1 s.S.top x s.S.wr)))(h3:w1[3]?=some (.lst (es.map Ze))):WB w1 es (TR.rdS s x) L:=by
 have g:∀{j:Nat}{z:OV},(j≠0/\j≠3)->w[j]?=some z->w1[j]?=some z:=λ{j z} n e=>(h j (Ad.mp e).1 n.1 n.2).trans e;obtain⟨a,b1,c1⟩:=A.hh;obtain⟨y,b2,c2⟩:=A.hn;exact⟨h0,g (by decide) A.h2,g (by decide) A.hv,h3,⟨a,g (by decide) b1,c1⟩,⟨y,g (by decide) b2,c2⟩,λi v hi hv=>by
  obtain⟨p1,p2,p3,p4⟩:=A.ob i v hi hv;exact⟨g (by lia) p1,g (by lia) p2,g (by lia) p3,p4⟩,A.dj⟩
theorem WB.hand(A:WB w ds s L)(d:TR.Deed):WB (w.set 3 (.lst ((ds++[d]).map Ze))) (ds++[d]) s L :=
 A.gen (λj _ _ h=>QI _ _ _ _ (Ne.symm h)) (gs (by decide) A.h1) (gss A.hd)
def WB.small(A:WB w ds s L)(i:Nat)(v:TR.Wk)(h:s.ws[i]?=some v)(e:v.O7=false):L i+2 < w.length:=(Ad.mp (A.ob i v h e).2.2.1).1
theorem QbW{H:Nat}(A:WB w ds s L)(h60:ds.length<=60)(h5:5 < w.length)(hH0:0 < H)(hH8:H<=8){os:List TR.Out}(R:TR.Run ds H 9000 0 s os s2)(hs:TR.still ds s2=true)(hl:s.ws.length=H)(ho:os.length < 90000):∃w' L',Jq [.ref 2] w=some (.ref w.length,w')/\WB w' ds s2 L':=by
 let f:=w.length
 let w0:Hs:=w++[OV.lst []]
 have ap:∀x,x < w.length->w0[x]?=w[x]?:=λx hx=>Ai hx;have A0:WB w0 ds s L:=A.gen (λx hx _ _=>ap x hx) ((ap 0 (by lia)).trans A.h1) ((ap 3 (by lia)).trans A.hd)
 obtain⟨w',L',h',e,A',gf,F⟩:=QbV h60 (f:=f) h5 hH0 hH8 R w0 L [] 100000 hs hl A0 (by show(w++[OV.lst []])[w.length]?=_;simp) (λi v hi hv=>.inr (A.small i v hi hv)) (by simp;lia) (by lia)
 have u1:QA 1 (Xo Qn) [.val (.ref 2),.un,.un] w=some ((.nx,[.val (.ref 2),.val (.ref f),.un]),w0):=QB rfl;have u2:QA 2 (eC (.int 0)) [.val (.ref 2),.val (.ref f),.un] w0=some ((.nx,[.val (.ref 2),.val (.ref f),.val (.int 0)]),w0):=QB rfl;exact⟨w',L',QF (env:=[.val (.ref 2),.val (.ref f),.val (.int h')]) ((Qj u1).trans ((Qj u2).trans ((Qj e).trans (QM (Qe rfl))))),A'⟩
theorem QhS(Y:TR.StOk ds s bg b){i:Nat}(hi:i < s.ws.length)(hm:TR.mv ds s i=some (o,s')):∃x xs c,vH i o=.tup (.str x::xs)/\∀w,inG (.str x) (.tup [.str "put", .str "cut", .str "told", .str "raised"]) w=some (.bl c,w):=by
  have hw:=Ac hi;generalize s.ws[i]=v at hw;unfold TR.mv at hm;rw[hw] at hm;dsimp only at hm;cases he:v.O7 with
  | true =>
    rw[he,Ec rfl] at hm;cases hd:ds[s.tk]? with
    | none=>rw[hd] at hm;cases hm;exact⟨_,_,false,rfl,λ_=>rfl⟩
    | some d=>rw[hd] at hm;cases hm;exact⟨_,_,false,rfl,λ_=>rfl⟩
  | false =>
    rw[he,Eb (by simp)] at hm
    cases es:TR.JZ s.S v with
    | none=>rw[es] at hm;cases hm
    | some q =>
      obtain⟨r,S2,v2⟩:=q;rw[es] at hm;cases hm;obtain⟨x,xs,ex,_⟩:=vQ es he Y.T (Y.A.ok i v hw he);cases r with
      | non=>cases ex
      | read a ps t=>cases t with
        | none=>exact⟨_,_,false,rfl,λ_=>rfl⟩
        | some y=>obtain⟨y1,y2⟩:=y;exact⟨_,_,false,rfl,λ_=>rfl⟩
      | side a b=>exact⟨_,_,false,rfl,λ_=>rfl⟩
      | down a b=>exact⟨_,_,false,rfl,λ_=>rfl⟩
      | found a x=>exact⟨_,_,false,rfl,λ_=>rfl⟩
      | told a b=>exact⟨_,_,true,rfl,λ_=>rfl⟩
      | raised a b=>exact⟨_,_,true,rfl,λ_=>rfl⟩
      | put a x b=>exact⟨_,_,true,rfl,λ_=>rfl⟩
      | cut a x=>exact⟨_,_,true,rfl,λ_=>rfl⟩
theorem Qcn(A:WB w ds s L)(Y:TR.StOk ds s bg b)(h60:ds.length<=60)(st:Bool)(hst:st=true->TR.still ds s=true):∃w' x,Z7 [.ref 0,.bl st] w=some (.bl true,w')/\WB w' ds (TR.rdS s x) L:=by
 have pg:=Y.pages;have tk:=Y.tk;obtain⟨w',e,X⟩:=QeU Y.T Y.K A.h1 A.h2 Y.rm (by lia) st (λh c hc ht=>by
  rcases Y.D c hc ht with q | ⟨i,u,q1,q2,_⟩
  ·exact q
  ·rw[(TR.yv (hst h)).2 i u q1] at q2;cases q2)
 obtain⟨x,hx⟩:=X.h1;exact⟨w',x,e,A.gen (λj hj h0 _=>X.ok j hj h0) hx ((X.ok 3 (Ad.mp A.hd).1 (by decide)).trans A.hd)⟩
theorem Kb:∀(rest pre:List TR.Deed) (fuel:Nat) (w:Hs) (e0 e1 e2 e3 z5 e6 e7:Sl),w[6]?=some (.lst ((pre++rest).map Ze))->w[2]?=some (.ins "Weaver" (wvF 0))->w[3]?=some (.lst (pre.map Ze))->(pre++rest).length<=60->rest.length < fuel ->
    ∃y5,Jl (nxW 6) (λd env=>gN 5 d env >>= λenv'=>xg env') fuel pre.length [e0,e1,e2,e3,.val (.ref 2),z5,e6,e7] w=some ((.nx,[e0,e1,e2,e3,.val (.ref 2),y5,e6,e7]),w.set 3 (.lst ((pre++rest).map Ze)))
  | [],pre,fuel,w,e0,e1,e2,e3,z5,e6,e7,h6,h2,h3,hl,hf=>by
    obtain⟨g,rfl⟩:∃g,fuel=g+1:=⟨fuel - 1,by lia⟩
    have x:=YV h6 pre.length;rw[Cz (by simp)] at x
    refine⟨z5,?_⟩;rw[Jl,Qf x,Bu,QeQ h3];rfl
  | d::rest,pre,fuel,w,e0,e1,e2,e3,z5,e6,e7,h6,h2,h3,hl,hf=>by
    obtain⟨g,rfl⟩:∃g,fuel=g+1:=⟨fuel - 1,by lia⟩
    have x:=YV h6 pre.length;rw[Bv,Ar (Ag _),Nat.sub_self] at x;have hl':pre.length+(rest.length+1)<=60:=by simpa using hl
    let E:Sl->En:=λz=>[e0,e1,e2,e3,.val (.ref 2),z,e6,e7]
    have hd:=Qb2 (d:=Ze d) h2 h3 (by rw[Bt];lia)
    have b:xg (E (.val (Ze d))) w=some ((.nx,E (.val (Ze d))),w.set 3 (.lst ((pre++[d]).map Ze))):=(JL (Q3 (Qe rfl) h2 (QfD _) (Zq (Qe rfl)) rfl hd)).trans (by rw[List.map_append];rfl)
    obtain⟨y5,e⟩:=Kb rest (pre++[d]) g (w.set 3 (.lst ((pre++[d]).map Ze))) e0 e1 e2 e3 (.val (Ze d)) e6 e7 (by rw[A9];exact gs (by decide) h6) (gs (by decide) h2) (gss h3) (by rw[A9];exact hl) (by simp at hf;lia)
    refine⟨y5,?_⟩;rw[Jl,Qf x];simp only[List.getElem?_cons_zero,Option.map_some];have bb:(gN 5 (Ze d) [e0,e1,e2,e3,.val (.ref 2),z5,e6,e7] >>= λenv'=>xg env') w=some ((.nx,E (.val (Ze d))),w.set 3 (.lst ((pre++[d]).map Ze))):=b;rw[Qf bb];rw[Ao,List.set_set,A9] at e;exact e
theorem QfJ(A:WB w ds s L)(Y:TR.StOk ds s bg (λ_=>B))(h5:5 < w.length)(hH0:0 < H)(hH8:H<=8)(hl:s.ws.length=H)(hB:B<=8000)(ns:List Int){k:Nat}{cc:Int}(hk:ns[k]?=some cc)(hc:Jz cc)(hd:ds.length<=47)(hdk:k < 24->ds.length<=46)(e1 e5 z7:Sl):
    ∃w' ds' s' L' bg' y7, Gb [.val (.lst (ns.map .int)), e1, .val (.int (H : Nat)), .val (.ref 0), .val (.ref 2), e5, .val (.int k), z7] w = some ((.nx, [.val (.lst (ns.map .int)), e1, .val (.int (H : Nat)), .val (.ref 0), .val (.ref 2), e5, .val (.int k), y7]), w') /\
      WB w' ds' s' L'/\TR.StOk ds' s' bg' (λ_=>B+1)/\5 < w'.length/\s'.ws.length=H/\ds'.length=ds.length+(if k < 24 then 1 else 0)/\ds'.length - s'.tk<=ds.length - s.tk+(if k < 24 then 1 else 0):=by
  let E:Sl->En:=λz=>[.val (.lst (ns.map .int)),e1,.val (.int (H:Nat)),.val (.ref 0),.val (.ref 2),e5,.val (.int k),z]
  have sc:∀(z:Sl)(w:Hs),Qk ixG (Qb 0) (Qb 6) (E z) w=some (.int cc,w):=λz w=>by
    refine Qi (x:=.lst (ns.map .int)) (y:=.int (k:Int)) (Qe rfl) (Qe rfl) ?_;have a:=Yz (xs:=ns.map DV.int) (j:=k) (v:=.int cc) (by rw[Bv,hk];rfl)
    show(ixD (.lst (ns.map .int)) (.int (k:Int))) w=_;simp only[ixD,asI,Ej,a];rfl
  obtain⟨w1,ds',u1,A1,Y1,l5,dl⟩:∃w1 ds',sIf (eB (Qk ltD (Qb 6) (eC (.int 24)))) (ZK (Qv "Weaver" "hand_in" 2 ZW (Qb 4) (Qc (QH 1 Yj (Qc (Qk ixG (Qb 0) (Qb 6)) (Qn))) (Qn)))) (Zi) (E z7) w=some ((.nx,E z7),w1)/\WB w1 ds' s L/\TR.StOk ds' s bg (λ_=>B)/\5 < w1.length/\ds'.length=ds.length+(if k < 24 then 1 else 0):=by
    by_cases h24:k < 24
    . obtain⟨d,de⟩:=QfN cc hc w
      have t:eB (Qk ltD (Qb 6) (eC (.int 24))) (E z7) w=some (true,w):=QW (Qi (x:=.int (k:Int)) (Qe rfl) rfl (show some (DV.bl (decide ((k:Int) < 24)),w)=_ by rw[Eg (by lia)]))
      have hn:=Qb2 (d:=Ze d) A.hv A.hd (by rw[Bt];lia)
      have a2:Qv "Weaver" "hand_in" 2 ZW (Qb 4) (Qc (QH 1 Yj (Qc (Qk ixG (Qb 0) (Qb 6)) (Qn))) (Qn)) (E z7) w=some (.int (ds.length:Nat),w.set 3 (.lst ((ds++[d]).map Ze))):=(Q3 (Qe rfl) A.hv (QfD _) (Zq (ZD (Zq (sc _ _)) rfl de)) rfl hn).trans (by rw[Bt,List.map_append];rfl)
      exact⟨_,ds++[d],(Zz t).trans (JL a2),A.hand d,Y.more d,by rw[List.length_set];exact h5,by rw[Ec h24];simp⟩
    . have t:eB (Qk ltD (Qb 6) (eC (.int 24))) (E z7) w=some (false,w):=QW (Qi (x:=.int (k:Int)) (Qe rfl) rfl (show some (DV.bl (decide ((k:Int) < 24)),w)=_ by rw[Ei (by lia)]))
      exact⟨w,ds,(QS t).trans QT,A,Y,h5,by rw[Eb h24];lia⟩
  have hd60:ds'.length<=60:=by rw[dl];split<;>lia
  have g0:0<=cc / 3 % (H:Int):=Int.emod_nonneg _ (by lia)
  have g1:cc / 3 % (H:Int) < H:=Int.emod_lt_of_pos _ (by lia)
  obtain⟨i,hi⟩:=Qcy g0;rw[hi] at g1;have hiH:i < s.ws.length:=by lia
  have d3:=Zt (Xj cc 3 (by decide) (by decide)) w1
  have mH:=Zt (Ju (cc / 3) (H:Int) (by lia)) w1
  rw[hi] at mH;have ei:Qk XN (Qk Yv (Qk ixG (Qb 0) (Qb 6)) (eC (.int 3))) (Qb 2) (E z7) w1=some (.int (i:Int),w1):=Qi (Qi (sc _ _) rfl d3) (Qe rfl) mH;obtain⟨o,s',bg',em,Y2,l2,t2,_⟩:=TR.Qcx Y1 hiH;obtain⟨w2,L2,e2,A2,F2⟩:=Qcu A1 Y1 hiH hd60 l5 (by show B<=9000;lia) em
  obtain⟨x,xs,c,eo,hx⟩:=QhS Y1 hiH em;have u2:QA 7 (Qv "Weaver" "move" 2 ZC (Qb 4) (Qc (Qk XN (Qk Yv (Qk ixG (Qb 0) (Qb 6)) (eC (.int 3))) (Qb 2)) (Qn))) (E z7) w1=some ((.nx,E (.val (vH i o))),w2):=QB (Q3 (Qe rfl) A1.hv (QfB _) (Zq ei) rfl e2);have l52:5 < w2.length:=Az l5 F2.len;have Y3:TR.StOk ds' s' bg' (λ_=>B+1):=Y2.mono λj _=>by
    show(if j=i then B+1 else B)<=B+1
    split<;>lia
  have t:eB (Qk inG (Qk ixG (Qb 7) (eC (.int 0))) (ZE (Qc (eC (.str "put")) (Qc (eC (.str "cut")) (Qc (eC (.str "told")) (Qc (eC (.str "raised")) (Qn))))))) (E (.val (vH i o))) w2=some (c,w2):=by
    have v1:Qb 7 (E (.val (vH i o))) w2=some (.tup (.str x::xs),w2):=by rw[<- eo];exact Qe rfl
    exact QW (Qi (Qi v1 rfl (Z1 (i:=0) rfl w2)) rfl (hx w2))
  have dw:ds'.length - s'.tk<=ds.length - s.tk+(if k < 24 then 1 else 0):=by rw[dl];split<;>lia
  cases c with
  | false=>exact⟨w2,ds',s',L2,bg',_,(Qj u1).trans ((Qj u2).trans ((QS (KU t)).trans QT)),A2,Y3,l52,by rw[l2];exact hl,dl,dw⟩
  | true =>
    obtain⟨w3,y,e3,A3⟩:=Qcn A2 Y3 hd60 false (λh=>by cases h)
    have l53:5 < w3.length:=by
      obtain⟨ys,y1,_⟩:=A3.hn;exact(Ad.mp y1).1
    exact⟨w3,ds',TR.rdS s' y,L2,bg',_,(Qj u1).trans ((Qj u2).trans ((QS ((KW t).trans (X6 (b:=true) (QW (ZD (Jb (Qe rfl) rfl) rfl e3))))).trans QT)),A3,Y3.rd y,l53,by show s'.ws.length=H;rw[l2];exact hl,dl,dw⟩
end
theorem Qce(ns:List Int)(h:ns.length<=63)(hb:∀x∈ns,Jz x):∃hp,GM [.lst (ns.map .int)] []=some (.bl true,hp):=by
 let X:DV:=.lst (ns.map .int)
 obtain⟨c0,e0⟩:=QdL ns 0 h;have e0':=Zt e0;simp only[Int.natCast_zero] at e0';have g0:0<=c0 % 8:=Int.emod_nonneg _ (by decide)
 have g1:c0 % 8 < 8:=Int.emod_lt_of_pos _ (by decide)
 obtain⟨H,hn,n1,n8⟩:∃n:Nat,1+c0 % 8=(n:Int)/\1<=n/\n<=8:=⟨(1+c0 % 8).toNat,by lia,by lia,by lia⟩
 have q0:0<=c0 / 8 % 4:=Int.emod_nonneg _ (by decide)
 have q1:c0 / 8 % 4 < 4:=Int.emod_lt_of_pos _ (by decide)
 obtain⟨r,hr,r2,r5⟩:∃n:Nat,2+c0 / 8 % 4=(n:Int)/\2<=n/\n<=5:=⟨(2+c0 / 8 % 4).toNat,by lia,by lia,by lia⟩
 have m8:=Zt (Ju c0 8 (by decide)) ([]:Hs)
 have d8:=Zt (Xj c0 8 (by decide) (by decide)) ([]:Hs)
 have m4:=Zt (Ju (c0 / 8) 4 (by decide)) ([]:Hs)
 let S:OV:=.ins "Shelf" (shF r 1 0 0 0)
 let P:OV:=.lst [emp]
 let w6:Hs:=[S,P,.ins "Weaver" (wvF 0),.lst [],.lst (List.replicate H .non),.lst []]
 let E:Sl->Sl->Sl->Sl->En:=λz1 z2 z3 z4=>[.val X,z1,z2,z3,z4,.un,.un,.un]
 have s1:QA 1 (QH 2 Jw (Qc (Qb 0) (Qc (eC (.int 0)) (Qn)))) (E .un .un .un .un) []=some ((.nx,E (.val (.int c0)) .un .un .un),[]):=QB (ZD (Jb (Qe rfl) rfl) rfl (e0' _));have s2:QA 2 (Qk ZL (eC (.int 1)) (Qk XN (Qb 1) (eC (.int 8)))) (E (.val (.int c0)) .un .un .un) []=some ((.nx,E (.val (.int c0)) (.val (.int H)) .un .un),[]):=QB (Qi rfl (Qi (Qe rfl) rfl m8) (show some (DV.int (1+c0 % 8),[])=some (DV.int H,[]) by rw[hn]))
 let E3:Sl->Sl->En:=λz3 z4=>E (.val (.int c0)) (.val (.int H)) z3 z4
 have er:Qk ZL (eC (.int 2)) (Qk XN (Qk Yv (Qb 1) (eC (.int 8))) (eC (.int 4))) (E3 .un .un) []=some (.int r,[]):=Qi rfl (Qi (Qi (Qe rfl) rfl d8) rfl m4) (show some (DV.int (2+c0 / 8 % 4),[])=some (DV.int r,[]) by rw[hr])
 have s3:QA 3 (Xm "Shelf" 2 Ji (Qc (Qk ZL (eC (.int 2)) (Qk XN (Qk Yv (Qb 1) (eC (.int 8))) (eC (.int 4)))) (Qn))) (E3 .un .un) []=some ((.nx,E3 (.val (.ref 0)) .un),[S,P]):=by
  refine QB ?_;unfold Xm;have al:XT (.ins "Shelf" []) ([]:Hs)=some (.ref 0,[.ins "Shelf" []]):=rfl;have gd:Qy (decide ([DV.int r].length+1=2)) ([]:Hs)=some ((),[]):=rfl;rw[Qf (Zq er),Qf gd,Qf al];have ii:=QdZ r [];exact(Qf ii).trans rfl
 have s4:QA 4 (Xm "Weaver" 3 JB (Qc (Qb 3) (Qc (Qb 2) (Qn)))) (E3 (.val (.ref 0)) .un) [S,P]=some ((.nx,E3 (.val (.ref 0)) (.val (.ref 2))),w6):=by
  refine QB ?_;have al:XT (.ins "Weaver" []) [S,P]=some (.ref 2,[S,P,.ins "Weaver" []]):=rfl;have gd:Qy (decide ([DV.ref 0,DV.int H].length+1=3)) [S,P]=some ((),[S,P]):=rfl;have aa:Qc (Qb 3) (Qc (Qb 2) (Qn)) (E3 (.val (.ref 0)) .un) [S,P]=some ([.ref 0,.int H],[S,P]):=Jb (Qe rfl) (Qe rfl);show(Qc _ _ _ >>= _) _=_;rw[Qf aa,Qf gd,Qf al,Qf (Qe4 S P H n8)];rfl
 obtain⟨ds,dl,ea⟩:=QdC (c0 / 32) w6;have d32:=Zt (Xj c0 32 (by decide) (by decide)) w6
 let w7:Hs:=w6++[OV.lst (ds.map Ze)]
 have k6:w7[6]?=some (.lst (([]++ds).map Ze)):=rfl;obtain⟨y5,el⟩:=Kb ds [] 100000 w7 (.val X) (.val (.int c0)) (.val (.int H)) (.val (.ref 0)) .un .un .un k6 rfl rfl (by simp;lia) (by lia)
 let EX:Sl->Sl->En:=λz6 z7=>[.val X,.val (.int c0),.val (.int H),.val (.ref 0),.val (.ref 2),y5,z6,z7]
 let wA:Hs:=[S,P,.ins "Weaver" (wvF 0),.lst (ds.map Ze),.lst (List.replicate H .non),.lst [],.lst (ds.map Ze)]
 have s5:gP (E3 (.val (.ref 0)) (.val (.ref 2))) w6=some ((.nx,EX .un .un),wA):=by
  have xx:xLs (QH 1 XL (Qc (Qk Yv (Qb 1) (eC (.int 32))) (Qn))) (E3 (.val (.ref 0)) (.val (.ref 2))) w6=some (nxW 6,w7):=by
   have c1:QH 1 XL (Qc (Qk Yv (Qb 1) (eC (.int 32))) (Qn)) (E3 (.val (.ref 0)) (.val (.ref 2))) w6=some (.ref 6,w7):=ZD (Zq (Qi (Qe rfl) rfl d32)) rfl ea;unfold xLs;rw[Qf c1];show(ZX 6 >>= _) w7=_;rw[Qf (ZF k6)];rfl
  show J5 _ (gN 5) (xg) _ w6=_;unfold J5;rw[Qf xx];exact el
 let d0:TR.Wk:=⟨.find 0,0,0,none,[],none,none,[],true⟩
 let S0:TR.Sh:=⟨r,[⟨0,[],[],none,none⟩],0,0,0⟩
 let s0:TR.St:=⟨S0,List.replicate H d0,List.replicate H 0,0⟩
 have dead:∀(i:Nat)(v:TR.Wk),(List.replicate H d0)[i]?=some v->v.O7=true:=λi v hv=>by rw[List.eq_of_mem_replicate (Ax hv)]
 have no:∀(i:Nat)(v:TR.Wk),s0.ws[i]?=some v->v.O7=false->False:=λi v hv he=>by rw[dead i v hv] at he;cases he
 have Y0:TR.StOk ds s0 (λ_=>none) (λ_=>0):=by
  refine⟨Qdm r r2,⟨λi v hv he=>(no i v hv he).elim,λi v c hv he=>(no i v hv he).elim,λi j v u c _ hv _ he=>(no i v hv he).elim⟩,λn p hp hlv=>?_,λn hn' ht=>?_,r5,by show(List.replicate H 0).length=(List.replicate H d0).length;simp,Bf _,?_,λi v hv he=>(no i v hv he).elim,λi v hv he=>(no i v hv he).elim⟩
  ·have:p=⟨0,[],[],none,none⟩:=by
    match n,hp with
    | 0,hp=>cases hp;rfl
    | n+1,hp=>simp[s0,S0] at hp
   rw[this] at hlv;exact absurd hlv (by decide)
  ·have hn2:n < 1:=hn'
   exact absurd (show n=0 by lia) ht
  ·have z0:TR.zc (List.replicate H d0)=0:=by
    unfold TR.zc;rw[C4.mpr λv hv=>?_]
    ·rfl
    ·rw[List.eq_of_mem_replicate hv];decide
   show TR.Xc S0 0+TR.zc (List.replicate H d0)<=1+0;rw[z0];exact Ag 1
 have lw:s0.ws.length=H:=by show(List.replicate H d0).length=H;simp
 have gr:∀{α:Type}(x:α)(i:Nat),i < H->(List.replicate H x)[i]?=some x:=λx i hi=>by rw[List.getElem?_replicate,Ec hi]
 have lcz:TR.lc s0.ws=0:=by
  show TR.lc (List.replicate H d0)=0;unfold TR.lc;rw[C4.mpr λv hv=>?_]
  ·rfl
  ·rw[List.eq_of_mem_replicate hv];decide
 have W0:WB wA ds s0 (λ_=>0):=⟨rfl,rfl,rfl,rfl,⟨List.replicate H .non,rfl,by rw[lw];simp,λi v hi=>by
   have li:i < H:=by rw[<- lw];exact(Ad.mp hi).1
   rw[kG (dead i v hi),gr _ i li]⟩,⟨[],rfl,by rw[lcz];exact Ag _⟩,λi v hv he=>(no i v hv he).elim,λi j v u _ hv he=>(no i v hv he).elim⟩
 have fin:∀{w:Hs} {es:List TR.Deed} {s:TR.St} {L:Nat->Nat} {bg:TR.Bg} {B:Nat} (z6 z7:Sl),WB w es s L->TR.StOk es s bg (λ_=>B)->5 < w.length->s.ws.length=H->es.length<=47->es.length - s.tk<=24->B<=100->∃w' w'' s' L' bg',ZK (Qv "Weaver" "finish" 1 Jq (Qb 4) Qn) (EX z6 z7) w=some ((.nx,EX z6 z7),w')/\Z7 [.ref 0,.bl true] w'=some (.bl true,w'')/\WB w'' es s' L'/\TR.StOk es s' bg' (λ_=>0)/\5 < w''.length/\s'.ws.length=H/\s'.tk=es.length:=by
  intro w es s L bg B z6 z7 A Y h5 hl h47 h24 hB;have pg:=Y.pages;have tk:=Y.tk;obtain⟨os,s',bg',R,q2,q3,q4,Y'⟩:=TR.runs (H:=H) (K:=9000) (C:=218) (by lia) (by lia) 5474 218 B s bg hl Y (λi v hi hv=>by
   have:=TR.Lim.first Y.T Y.K Y.T.levels s.ws i v hi hv;dsimp only at this ⊢;rw[hl] at this;lia) (by lia) (by lia)
  have ol:os.length<=43792:=by
   have:H * 5474<=8 * 5474:=Nat.mul_le_mul_right _ n8;lia
  obtain⟨w',L',e,A'⟩:=QbW A (by lia) h5 (by lia) n8 R q2 hl (by lia)
  obtain⟨w'',x,e2,A2⟩:=Qcn A' Y' (by lia) true (λ_=>q2)
  have l5:5 < w''.length:=by
   obtain⟨ys,y1,_⟩:=A2.hn;exact(Ad.mp y1).1
  exact⟨w',w'',TR.rdS s' x,L',bg',JL (Q3 (Qe rfl) A.hv (Qio _) qJ rfl e),e2,A2,Y'.rd x,l5,q4,(TR.yv q2).1⟩
 obtain⟨wD,wE,s1',L1,bg1,f1,f1',A1,Y1,l51,l1,tk1⟩:=fin .un .un W0 Y0 (by show 5 < 7;decide) lw (by lia) (by show ds.length - 0<=24;lia) (Bf _)
 have s7:sIf (Xe (eB (QH 2 Z7 (Qc (Qb 3) (Qc (eC (.bl true)) (Qn)))))) (QP (eC (.bl false))) (Zi) (EX .un .un) wD=some ((.nx,EX .un .un),wE):=(QS (X6 (b:=true) (QW (ZD (Jb (Qe rfl) rfl) rfl f1')))).trans QT;have MM:WP (Jl (nxD (Zc 0 ns.length)) (λd env=>do let env' <- gN 6 d env;Gb env') 100000 0 (EX .un .un)) wE λq w=>∃es s L bg z6 z7,q=(.nx,EX z6 z7)/\WB w es s L/\TR.StOk es s bg (λ_=>63)/\5 < w.length/\s.ws.length=H/\es.length<=47/\es.length - s.tk<=24:=by
  refine Vo (Zc 0 ns.length) (λj env w=>∃es s L bg z6 z7,env=EX z6 z7/\WB w es s L/\TR.StOk es s bg (λ_=>j)/\5 < w.length/\s.ws.length=H/\es.length<=47/\(j<=24->es.length<=23+j)/\es.length - s.tk<=24/\(j<=24->es.length - s.tk<=j)/\j<=63) (by rw[Ja];lia) ⟨ds,s1',L1,bg1,_,_,rfl,A1,Y1,l51,l1,by lia,λ_=>by lia,by lia,λ_=>by lia,by lia⟩ (λj d0 hd0 env w zz=>?_) (λenv w zz=>?_)
  ·obtain⟨es,s,L,bg,z6,z7,rfl,A,Y,h5,hl,h47,h23,hw,hw2,h63⟩:=zz
   obtain⟨hj,rfl⟩:=xt hd0;have hk:ns[j]?=some ns[j]:=Ac hj;have hc:=hb ns[j] (B9 hj);obtain⟨w',es',s',L',bg',y7,e,A',Y',h5',l',dl',dw'⟩:=QfJ A Y h5 (by lia) n8 hl (by lia) ns hk hc h47 (λhj24=>by have:=h23 (by lia);lia) (.val (.int c0)) y5 z7
   refine⟨_,_,e,es',s',L',bg',_,_,rfl,A',Y',h5',l',?_,?_,?_,?_,by lia⟩
   ·rw[dl']
    by_cases hj24:j < 24
    ·have:=h23 (by lia);rw[Ec hj24];lia
    ·rw[Eb hj24];lia
   ·intro hj24
    have:=h23 (by lia);rw[dl',Ec (by lia)];lia
   ·by_cases hj24:j < 24
    ·have:=hw2 (by lia);rw[Ec hj24] at dw';lia
    ·rw[Eb hj24] at dw';lia
   ·intro hj24
    have:=hw2 (by lia);rw[Ec (by lia)] at dw';lia
  ·obtain⟨es,s,L,bg,z6,z7,rfl,A,Y,h5,hl,h47,h23,hw,hw2,h63⟩:=zz
   exact⟨es,s,L,bg,z6,z7,rfl,A,Y.mono λi _=>h63,h5,hl,h47,hw⟩
 obtain⟨q,wF,eM,es,s2',L2,bg2,z6,z7,rfl,A2,Y2,l52,l2,h47,hw24⟩:=MM;have s8:KE (EX .un .un) wE=some ((.nx,EX z6 z7),wF):=by
  have x9:xOf (VG (Qc (Zd Z4 (Qc (Qb 0) (Qn))) (Qn))) (EX .un .un) wE=some (nxD (Zc 0 ns.length),wE):=jJ (zQ (m:=ns.length) (Zq ((XA (ds:=[X]) (hp1:=wE) (Zq (Qe rfl)) (show Z4 [X] wE=some (.int (ns.length:Nat),wE) by show qC [X] wE=_;simp[qC,X];rfl)))) (by lia))
  unfold KE J5;rw[Qf x9];exact eM
 obtain⟨wG,wH,s3',L3,bg3,f2,f2',A3,Y3,l53,l3,tk3⟩:=fin z6 z7 A2 Y2 l52 l2 h47 hw24 (by lia)
 have s10:QP (QH 2 Z7 (Qc (Qb 3) (Qc (eC (.bl true)) (Qn)))) (EX z6 z7) wG=some ((.rt (.bl true),EX z6 z7),wH):=QM (ZD (Jb (Qe rfl) rfl) rfl f2');exact⟨wH,QF ((Qj s1).trans ((Qj s2).trans ((Qj s3).trans ((Qj s4).trans ((Qj s5).trans ((Qj f1).trans ((Qj s7).trans ((Qj s8).trans ((Qj f2).trans s10)))))))))⟩
def UX{K:Aa}{a0 a1 a2:Addr}{d0 d1 d2:Option Addr}{n0 n1 n2:Nat}{s0 s1 s2:Array (Option Value)}{t1:Tok}(l0:K.lookup a0=some ⟨.type "tuple", d0,.seq #[.int 0 t1,.ref a1,.ref a2,.none,.none] n0,s0⟩)(l2:K.lookup a2=some ⟨.type "tuple", d2,.seq #[] n2,s2⟩)(l1:K.lookup a1=some ⟨.type "tuple", d1,.seq #[] n1,s1⟩):KRep K (.tup [.int 0,.tup [],.tup [],.non,.non]) (.ref a0):=(uM (xs:=[.int 0,.ref a1,.ref a2,.non,.non]) l0 (Nat.le_of_ble_eq_true rfl) (.cons ⟨_,rfl⟩ (.cons rfl (.cons rfl (.cons rfl (.cons rfl .nil))))) (zr Qf4 (zr (uM (xs:=[]) l1 (Nat.le_of_ble_eq_true rfl) .nil K9) (zr (uM (xs:=[]) l2 (Nat.le_of_ble_eq_true rfl) .nil K9) (zr Qcc (zr Qcc K9))))))
theorem Qf5{P:Program}{w:World}{K:Aa}{h:Heap}{mg:Eo}{fa f:Addr}{oc kV dc pm cd ct:Value}{od an:Option Addr}{sl:Array (Option Value)}(X:K.In h)(G:h.Ns mainGlobals mg)(hfa:mg "law" = some (.ref fa))(Z:Al K mg)(n:PySem.W.nsIn K mainGlobals "law" = some (some (.ref f)))(l:K.lookup f=some ⟨oc,od,.func (PySem.W.fnOf "law" "law" (JQ yN) (ZH yN) (Qo yN) .none kV dc pm an cd ct),sl⟩)(c:PySem.W.codeIn K cd "law" = true)(k:PySem.W.keepIn K (.ref f)=true):∃fd:FuncData,(∀(s:Shared) (v:Value),BindsTo s fd ⟨[v],[]⟩ [("script", v)])/\∀O8:Heap,K.In O8->O8.Ns mainGlobals mg->qW P w K mg O8 CX0 10 fa fd ["script"] (spD K 1 GM):=by
 cases hfa.symm.trans (PySem.W.mg_of X G n);exact⟨PySem.W.fnOf "law" "law" (JQ yN) (ZH yN) (Qo yN) .none kV dc pm an cd ct,λs v=>.of_eq rfl,λO8 _ _=>law_fn Z (KZ l c k)⟩
theorem walk{l:PySem.W.OpenLaw}{q:Program}{loose:List Str}{XP:(Eo)->Heap->Prop}{YP:World->Heap->Prop}{d:DefRec}{K:Params->Aa}(hn:l.most=some 63)(hdf:d.params.defaults=[])
  (hY:∀(w:World)(h:Heap),YP w h->(K w.params).In h)
  (F:∀(w:World)(mg:Eo)(fa:Addr)(h:Heap),(K w.params).In h->h.Ns mainGlobals mg->mg d.name=some (.ref fa) ->
   ∃fd:FuncData,(∀(s:Shared) (u:Value),BindsTo s fd ⟨[u],[]⟩ [("script", u)])/\∀O8:Heap,(K w.params).In O8->O8.Ns mainGlobals mg->qW l.prog w (K w.params) mg O8 CX0 10 fa fd ["script"] (spD (K w.params) 1 GM)) :
  PySem.W.WalkO q loose XP YP l.row.toRowW d [] (λf vs=>PySem.call f vs) :=
 L2.Qdp (n:=63) (k:=10) (x := "script") (CX:=λ_=>CX0) (sp:=λw=>spD (K w.params) 1 GM) hn (by decide) hdf ⟨rfl,by decide,by decide⟩ hY F (λw _ a ns hl hb _ hS=>Qf6 (Qce ns hl hb) hS) λ_ _ _ _ _ z=>z
end K35
namespace PySem.W.Fast
def tw8858181439499729368:=0
def tw4226482580094624400:=0
def tw4257405170157338695:=0
def tw6524659301339750162:=0
def tw736508505747350215:=0
def tw13517271202162323573:=0
def tw343020435017563190:=0
def tw16968008011643648650:=0
def tw12224973087108569734:=0
def tw1040998893091537204:=0
def tw3009346911131692226:=0
def tw15687650769200401483:=0
def tw3280908825518381127:=0
def tw16058723283302977844:=0
def tw11684578087850866213:=0
def tw4791576091638488990:=0
def tw7462811407282922061:=0
def tw12063594189556729590:=0
def tw17715266919127801041:=0
def tw11898787774882746250:=0
def tw17515823300290247876:=0
def tw7629920601071070132:=0
def tw2183190924930783104:=0
def tw3195988426988941490:=0
def tw14899028946274324802:=0
def tw11893659419256417090:=0
def tw15287224153523713476:=0
def tw13876623350086671242:=0
def tw18072522244175903924:=0
def tw10903682644078040867:=0
def tw2203476917952522265:=0
def tw9110304251939845145:=0
def tw9169691663353260900:=0
def tw7563853675930011561:=0
def tw14908564848217420875:=0
def tw5024166068585425109:=0
def tw7039398177159335780:=0
def tw3194775661915023817:=0
def tw11608177825890507086:=0
def tw11211092745342821492:=0
def tw16091695331286592593:=0
def tw6261503394003962636:=0
def tw10702519211460024786:=0
def tw6553775983361089967:=0
def tw13543085459534327538:=0
def tw14987048497723585037:=0
def tw3880999221421693727:=0
def tw9376128583374058613:=0
def tw43324777299252133:=0
def tw12478582769250593828:=0
def tw18208862132267892776:=0
def tw8848877353664729470:=0
def tw14048548462616076807:=0
def tw3742946247978419263:=0
def tw14853519257583541617:=0
def tw1582342399939254627:=0
def tw9423659053724642872:=0
def tw1456718769339396665:=0
def tw4935254503743364718:=0
def tw789261074228950853:=0
def tw12587859108935162840:=0
def tw6649278950018779027:=0
def tw8761800607592552690:=0
def tw1742981554217511609:=0
def tw18299139398324005292:=0
def tw4950039546907355463:=0
def tw4812325490728226873:=0
def tw14608471428430990268:=0
def tw18043915971681770747:=0
def tw11052764895622648352:=0
def tw6958521447965261429:=0
def tw17895880506992641894:=0
def tw2733953122444551440:=0
def tw16392567313263545028:=0
def tw7256906767932780028:=0
def tw775247444075154644:=0
def tw13761330578770097209:=0
def tw11602427102689715601:=0
def tw11593731917550526717:=0
def tw4992523267496981819:=0
def tw11223436751228876106:=0
def tw5248126970158663235:=0
def tw14066067818264470609:=0
def tw15851999953711642434:=0
def tw4562758928009534111:=0
def tw18165971227691376243:=0
def tw1648492807788476081:=0
def tw13973714664502409426:=0
def tw11438282692339267910:=0
def tw8941150301975914693:=0
def tw3358400093279322516:=0
def tw16058045996590088310:=0
def tw1234277924253065755:=0
def tw12963492445000835050:=0
def tw14539550499277583599:=0
def tw11900182771120414726:=0
def tw16572318082956486995:=0
def tw9826120964837165234:=0
def tw5876997138248109420:=0
def tw9675010746571510805:=0
def tw4097431891597921576:=0
def tw12255281852080816928:=0
def tw9903829977654867953:=0
def tw6697582333655290989:=0
def tw8897742201140194217:=0
def tw14482491076389152529:=0
def tw7312093181764660522:=0
def tw4721576131617394926:=0
def tw12836509284298919205:=0
def tw16562297357534933000:=0
def tw16262139549741132679:=0
def tw14377399773950704293:=0
def tw17152818879648360368:=0
def tw2922539127259550426:=0
def tw13538497644979955520:=0
def tw11106406135410477734:=0
def tw8602449864911760148:=0
def tw712644104692290662:=0
def tw11100701086164731376:=0
def tw7083286071180544603:=0
def tw8472602569119779902:=0
def tw8195088007528532433:=0
def tw9109932639509606443:=0
def tw1314291623826739876:=0
def tw4774484569882021630:=0
def tw36758366056853390:=0
def tw4821080843242214532:=0
def tw9797403078373655184:=0
def tw10488726703887515705:=0
def tw3498273682947479808:=0
def tw18347158008579667489:=0
def tw2847020230950965470:=0
def tw4459452944058652609:=0
def tw17606311993177755700:=0
def tw18149908724415955637:=0
def tw2742362328477025228:=0
def tw547246819496352624:=0
def tw11200365422483734511:=0
def tw8663228056873672792:=0
def tw1661829934923792586:=0
def tw8678286616860293661:=0
def tw7503211732987000861:=0
def tw6720449369835086532:=0
def tw5982558568296558786:=0
def tw8592739513710686975:=0
def tw3756868564431847642:=0
def tw9163847954691874213:=0
def tw7872129226763244380:=0
def tw17430836196131659371:=0
def tw2811310465756449587:=0
def tw2136174741732307818:=0
def tw6461412201535717003:=0
def tw1049918309699908945:=0
def tw9203235132227439379:=0
def tw15773110123025799886:=0
def tw6177987024626751997:=0
def tw18291481009290934419:=0
def tw2915872596928477651:=0
def tw646904837962112960:=0
def tw1450702559189337985:=0
def tw18026714395681723419:=0
def tw2103325128233298242:=0
def tw399990213466049739:=0
def tw11999335550529834235:=0
def tw14551207793043370634:=0
def tw8743090908199194349:=0
def tw7486277852919427888:=0
def tw16352298503309219439:=0
def tw7130761487070782713:=0
def tw8932044919949175128:=0
def tw10316051416324541986:=0
def tw14047606727799796862:=0
def tw7867215719976716208:=0
def tw5696132189082584145:=0
def tw9715020770995579051:=0
def tw10001359472055769977:=0
def tw14794750665794527957:=0
def tw8726886616725004512:=0
def tw14575230963801428830:=0
def tw10681842437760318637:=0
def tw1195141623795802250:=0
def tw18052043977995138165:=0
def tw10522050861364120419:=0
def tw11062584756383568937:=0
def tw8776916662615155822:=0
def tw14799927417893861157:=0
def tw8041251951237328367:=0
def tw6138112149701217484:=0
def tw4775819862906113288:=0
def tw13108462387128785121:=0
def tw7625647260143001889:=0
def tw7013943718586935594:=0
def tw3799360538615394115:=0
def tw11026090466241123389:=0
def tw14821692832632423085:=0
def tw17218896784287334715:=0
def tw1116408231001445861:=0
def tw12774554636981260035:=0
def tw14957347794847992621:=0
def tw13891553864368255934:=0
def tw10450009022900478978:=0
def tw18011908788058880546:=0
def tw10778768592963366185:=0
def tw14030958529698918724:=0
def tw10623066727903545758:=0
def tw9051108835148432836:=0
def tw15308988392422030808:=0
def tw8917236952225113298:=0
def tw8931618778268018472:=0
def tw4372515461720054620:=0
def tw1634300195875882415:=0
def tw3194871754602699309:=0
def tw8786400625547422597:=0
def tw14043953645538822578:=0
def tw11584437819194327917:=0
def tw14665499692482084029:=0
def tw406251578741427877:=0
def tw16137255517687172061:=0
def tw5048617072931964134:=0
def tw9156213250192547194:=0
def tw2522269415831678513:=0
def tw1805108288661329904:=0
def tw264168038380044165:=0
def tw10782309045904572808:=0
def tw2411408605000950819:=0
def tw5195483824895624318:=0
def tw1618730930687852068:=0
def tw9880157911908537488:=0
def tw12538083918202245509:=0
def tw12219423509315476110:=0
def tw5570771573191963987:=0
def tw363063389747211961:=0
def tw7560177358698598194:=0
def tw13049339902804706576:=0
def tw5578664026990167622:=0
def tw17680804218588487490:=0
def tw3100322251078055003:=0
def tw8899062766118132322:=0
def tw1618797014479987552:=0
def tw17819296371088064783:=0
def tw10673699408678722001:=0
def tw17633239842536583472:=0
def tw7463513617410789029:=0
def tw7135522253760338525:=0
def tw7524350920362155411:=0
def tw1876020372606374189:=0
def tw12672234897026196273:=0
def tw17868394872945902974:=0
def tw11736913487820801754:=0
def tw16990028224360611032:=0
def tw10514110849996029502:=0
def tw17009956132053640704:=0
def tw9679742917412659437:=0
def tw1140587629186021133:=0
def tw16729653050326176746:=0
def tw13664185325231634150:=0
def tw3360281071826538868:=0
def tw2696512677953987575:=0
def tw1986109101847440013:=0
def tw3744761647319505405:=0
def tw17956961676318802196:=0
def tw12204584681125504471:=0
def tw5270015367848730149:=0
def tw5215981145844321211:=0
def tw6451739271420022213:=0
def tw2624150028011403184:=0
def tw5178029104679421288:=0
def tw8735708045411600223:=0
def tw8025746360186871828:=0
def tw11185800733805659756:=0
def tw2581224661420524469:=0
def tw17593962906174728467:=0
def tw15412753282803861946:=0
def tw3715816998659604340:=0
def tw7040410054938126158:=0
def tw3650550592555575628:=0
def tw4077015242341043379:=0
def tw2639653488723303814:=0
def tw9637531663993921953:=0
def tw4049696439448033266:=0
def tw12344353713104120843:=0
def tw16247077899206379212:=0
def tw16478729180766642118:=0
def tw7335862474393700068:=0
def tw5768795266637848995:=0
def tw14088313105044496054:=0
def tw1005037654783393669:=0
def tw14102162764149882529:=0
def tw9513657476634391744:=0
def tw1126000668228628126:=0
def tw432570891289414467:=0
def tw8661727955933864317:=0
def tw17975313625889221495:=0
def tw2081407096916272825:=0
def tw5503935705117618025:=0
def tw7671562409374787039:=0
def tw12212076622676700301:=0
def tw890112279515560535:=0
def tw10174354352163942533:=0
def tw14014358759074927679:=0
def tw6584552997639516278:=0
def tw9323344890390783904:=0
def tw16408656034878139425:=0
def tw16300401101263817668:=0
def tw9058598698775249408:=0
def tw5431554356952568614:=0
def tw6297281823960334324:=0
def tw3360697981562695597:=0
def tw10771702831455053763:=0
def tw10315505883487752135:=0
def tw11865412987294577778:=0
def tw17107142995987040170:=0
def tw4063345338820213855:=0
def tw240927272908628935:=0
def tw9109448870433950797:=0
def tw17852102867115284755:=0
def tw629521174781656470:=0
def tw14635620467190756728:=0
def tw10922788638824998894:=0
def tw4448593387194661410:=0
def tw14709078257547548549:=0
def tw2585681831223220047:=0
def tw9939591004419273922:=0
def tw12250582705581287017:=0
def tw9696965108681620307:=0
def tw8035662666019006200:=0
def tw15811111314257884778:=0
def tw13390065458463457959:=0
def tw2241237027539393170:=0
def tw6737505814832397373:=0
def tw4217221070270531548:=0
def tw3337936067638395517:=0
def tw13894791392817082749:=0
def tw3594164929480183310:=0
def tw3185965559143462135:=0
def tw7982496315222117845:=0
def tw14983298753880121094:=0
def tw15214952000075520034:=0
def tw8274502851573895931:=0
def tw13204169537585639921:=0
def tw12887317199167601712:=0
def tw11473964664622718586:=0
def tw4332120596271509160:=0
def tw5978108274298693073:=0
def tw13767809087799258231:=0
def tw17894081662065517396:=0
def tw3286302336372504803:=0
def tw5130987970090174868:=0
def tw984730462393354056:=0
def tw10783911344639712438:=0
def tw15955466419630488751:=0
def tw2996922584325258359:=0
def tw8992052344757435800:=0
def tw15835019273457721820:=0
def tw14228102208941487740:=0
def tw14899189556374213976:=0
def tw6305818840237184387:=0
def tw3954445146204405954:=0
def tw5518316245320169932:=0
def tw14071752716163481235:=0
def tw3317235272878349395:=0
def tw9911595362373709774:=0
def tw9118289255632303823:=0
def tw11042918627896230738:=0
def tw8843522960728045333:=0
def tw12593660866850273078:=0
def tw14002786162881696691:=0
def tw11731942242706435050:=0
def tw1861857106119386147:=0
def tw10999973902207919759:=0
def tw1963497336573647693:=0
def tw14231487249155348729:=0
def tw2842540491109923226:=0
def tw1537167252049675872:=0
def tw9442120630353095606:=0
def tw5659306397518238204:=0
def tw9198519734856130756:=0
def tw1028170569728074277:=0
def tw5016672381771595920:=0
def tw9870518526271048090:=0
def tw9558568032106542553:=0
def tw13578348886418304443:=0
def tw8859811175195666731:=0
def tw15341741093342506413:=0
def tw2621347713674298237:=0
def tw16073973301107475784:=0
def tw82974732807359779:=0
def tw1059290181448815716:=0
def tw14453510516269067818:=0
def tw77834073198966967:=0
def tw7992407783054106598:=0
def tw8003077363316510427:=0
def tw10105260094581009414:=0
def tw8385528241755776254:=0
def tw2003823212606480673:=0
def tw8896951157418413257:=0
def tw9695361206496147044:=0
def tw1570002886541696188:=0
def tw17554948732720739038:=0
def tw13351725267602802241:=0
def tw11949131355459620858:=0
def tw7503169853942836289:=0
def tw18075011606908556812:=0
def tw1761244712406413581:=0
def tw3366186951781971987:=0
def tw3758409360794925654:=0
end PySem.W.Fast
open PySem PySem.W PyProof.Rows
open D in
set_option maxRecDepth 100000 in
set_option maxHeartbeats 0 in
theorem PySem.Challenge.cw_sidelink_k35_whole_sound_at_each_moment_holds : PySem.Challenge.rw_sidelink_k35_whole_sound_at_each_moment.Holds := by
 w_on;o_law;k_head;(case hw=>w_witness2)
 k_fill
 refine K35.walk (l:=PySem.Challenge.rw_sidelink_k35_whole_sound_at_each_moment) rfl rfl (fun w h Y=>PySem.W.kIn_of Y) ?F
 case F =>
  intro w mg fa h KX G hmg;have c0:UC _ "Shelf" := uc KX (by k_is) (by k_is) (by k_is) (by k_is) (by k_is)
  have c1:UC _ "Weaver" := uc KX (by k_is) (by k_is) (by k_is) (by k_is) (by k_is)
  have c2:UC _ "Walk" := uc KX (by k_is) (by k_is) (by k_is) (by k_is) (by k_is)
  exact K35.Qf5 KX G hmg (by constructor;all_goals first | exact PySem.W.mg_none_of KX G (by k_is) | exact uf KX G (by k_is) (by k_is) (by k_is) (by k_is) | exact ug KX G (by k_is) | exact ut KX G (by k_is) (K35.UX (by k_is) (by k_is) (by k_is)) | exact uk KX c0 (by k_is) (by k_is) | exact um KX c0 (by k_is) (by k_is) (by k_is) (by k_is) (by k_is) (by k_is) | exact uk KX c1 (by k_is) (by k_is) | exact um KX c1 (by k_is) (by k_is) (by k_is) (by k_is) (by k_is) (by k_is) | exact uk KX c2 (by k_is) (by k_is) | exact um KX c2 (by k_is) (by k_is) (by k_is) (by k_is) (by k_is) (by k_is) | exact ui KX G (by k_is) (by k_is) (by k_is) (by k_is) (by k_is) (by k_is) (by k_is) (by k_is)) (by k_is) (by k_is) (by k_is) (by k_is)

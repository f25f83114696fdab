import PyProof.Rows.All
import Wide.All
import OpenK.AllK
import Wide.FinOn
import Lean
import PyProof.EqAt
import PyProof.EqKinds
import PyProof.TupleCall
import PySem.Challenge.RW_sidelink_k72_rows_refused
local macro_rules|`(⋯)=>`(by lia)
local macro_rules|`(command|$d:definition)=>`(command|noncomputable $d:definition)
local macro_rules|`(command|$d:abbrev)=>`(command|noncomputable $d:abbrev)
noncomputable section
section
open PySem PySem.Spec PyProof.Rows
abbrev Ae:=PySem.W.Frag
def Af:=@List.getElem?_eq_getElem
def Ag:=@List.getElem?_eq_some_iff
def Ah:=@Heap.get?_push_of_some
def Ai:=@Nat.le_refl
def Aj:=@List.getElem?_append_left
def Ak:=@List.mem_append
def Am:=@List.mem_append_right
def An:=@Option.some.inj
def Ao:=@List.getElem?_set_ne
def Ap:=@List.length_append
def Aq:=@List.size_toArray
def Ar:=@Heap.lt_size
def As:=@List.getElem?_append_right
def Au:=@List.mem_singleton
def Av:=@List.getElem?_set_self
def Aw:=@Heap.get?_push_size
def Ax:=@List.mem_of_getElem?
def Ay:=@List.mem_cons_of_mem
def Az:=@Nat.lt_of_lt_of_le
def A0:=@List.append_assoc
def Be:=@List.length_cons
def Bf:=@List.map_cons
def Bg:=@Bool.and_eq_true
def Bh:=@Nat.zero_le
def Bi:=@Nat.ne_of_lt
def Bj:=@Nat.le_trans
def Bk:=@List.mem_cons
def Bm:=@List.length_map
def Bo:=@List.append_nil
def Bp:=@List.getElem?_map
def Bq:=@Nat.lt_of_le_of_lt
def Br:=@Bool.false_ne_true
def Bs:=@Int.toNat_natCast
def Bt:=@List.find?_cons
def Bu:=@List.not_mem_nil
def Bv:=@Option.map_eq_some_iff
def Bw:=@List.prefix_rfl
def Bx:=@Heap.size_push
def By:=@Bool.not_eq_true'
def Bz:=@List.any_cons
def B0:=@Nat.lt_irrefl
def Ca:=@Nat.lt_succ_self
def Cb:=@List.all_cons
def Cc:=@Nat.ne_of_gt
def Cd:=@wpAny_bind
def Ce:=@if_neg
def Cf:=@if_pos
def Cg:=@wpAny_pure
def Ch:=@decide_eq_true
def Ci:=@of_decide_eq_true
def Cj:=@decide_eq_false
def Ck:=@pure_bind
abbrev Cm:=Value->Shared->Prop
abbrev Cn:=List (Addr×Obj)
abbrev Co:=Str->Option Value
abbrev Cq:=Addr->Prop
abbrev Cr:=List Addr
end
-- CHANGE: your row's module here,as the last of these rows
set_option Elab.async false
set_option linter.all false
set_option maxRecDepth 100000
namespace L2
open PySem PySem.Spec PyProof.Rows
abbrev Key:=Sum Int Str
def vR:Key->Value->Bool
 |.inl k,v=>Value.isInt k v
 |.inr x,v=>Value.isStrOf x v
def x_(w:World):Key->Int
 |.inl k=>hashInt k
 |.inr x=>hashStr w x
theorem Ji:∀{k:Key}{v:Value},vR k v=true->(∃i t,k=Sum.inl i/\v=Value.int i t)∨(∃x t,k=Sum.inr x/\v=Value.str x t)
  |.inl i,v,h=>by obtain⟨t,e⟩:=Value.isInt_shape (k:=i) (v:=v) h;exact .inl ⟨i,t,rfl,e⟩
  |.inr x,v,h=>by obtain⟨t,e⟩:=Value.isStrOf_shape (x:=x) (v:=v) h;exact .inr ⟨x,t,rfl,e⟩
theorem Qdy(i:Int)(t:Tok):vR (.inl i) (.int i t)=true:=by simp[vR,Value.isInt]
theorem Qdz(x:Str)(t:Tok):vR (.inr x) (.str x t)=true:=by simp[vR,Value.isStrOf]
theorem RU(a b:Int):decide ((Sum.inl a:Key)=Sum.inl b)=(a==b):=by
 by_cases e:a=b
 ·subst e;simp
 ·have h:¬ (Sum.inl a:Key)=Sum.inl b:=λq=>e (Sum.inl.inj q);rw[Cj h];exact(beq_eq_false_iff_ne.mpr e).symm
theorem RI(a b:Str):decide ((Sum.inr a:Key)=Sum.inr b)=decide (a=b):=by
 by_cases e:a=b
 ·subst e;simp
 ·have h:¬ (Sum.inr a:Key)=Sum.inr b:=λq=>e (Sum.inr.inj q);rw[Cj h,Cj e]
def RR(a:Int)(b:Str):decide ((Sum.inl a:Key)=Sum.inr b)=false:=Cj (λq=>nomatch q)
def RO(a:Str)(b:Int):decide ((Sum.inr a:Key)=Sum.inl b)=false:=Cj (λq=>nomatch q)
def ZR(prog:Program)(w:World):PySem.KeyKind prog w Key where
 is:=vR
 hash:=x_ w
 inj:=λv a b ha m=>by
  rcases Ji ha with ⟨i,t,rfl,rfl⟩|⟨x,t,rfl,rfl⟩
  ·rcases Ji m with ⟨j,u,rfl,e⟩|⟨y,u,rfl,e⟩
   ·injection e with c _;rw[c]
   ·exact nomatch e
  ·rcases Ji m with ⟨j,u,rfl,e⟩|⟨y,u,rfl,e⟩
   ·exact nomatch e
   ·injection e with c _;rw[c]
 byValue:=λk v h=>by rcases Ji h with ⟨i,t,rfl,rfl⟩|⟨x,t,rfl,rfl⟩<;>rfl
 pyHash:=λd h=>by
  rcases Ji d with ⟨i,t,rfl,rfl⟩|⟨x,t,rfl,rfl⟩
  ·exact wpAny_pyHash_int h
  ·exact wpAny_pyHash_str h
 eqBool:=λn d h=>by
  rcases Ji n with ⟨i,t,rfl,rfl⟩|⟨x,t,rfl,rfl⟩
  ·rcases Ji d with ⟨j,u,rfl,rfl⟩|⟨y,u,rfl,rfl⟩
   ·rw[RU]at h;exact wpAny_eqBool_int h
   ·rw[RR]at h;exact SeqAt.EqAt.int_str i t y u _ _ _ _ h
  ·rcases Ji d with ⟨j,u,rfl,rfl⟩|⟨y,u,rfl,rfl⟩
   ·rw[RO]at h;exact SeqAt.EqAt.str_int x t j u _ _ _ _ h
   ·rw[RI]at h;exact wpAny_eqBool_str h
 «strs»:=λk x t v h=>by
  rcases Ji h with ⟨i,u,rfl,e⟩|⟨y,u,rfl,e⟩
  ·exact nomatch e
  ·injection e with c _;subst c;cases v<;>rfl
def Qai(prog:Program)(w:World)(i:Int)(t:Tok):(ZR prog w).is (.inl i) (.int i t)=true:=Qdy i t
def Qaj(prog:Program)(w:World)(x:Str)(t:Tok):(ZR prog w).is (.inr x) (.str x t)=true:=Qdz x t
inductive V where
 |non|bl (b:Bool)|int (i:Int)|str (x:Str)|byt (b:Array UInt8)|flt (b:UInt64)|ref (a:Addr)|ty (n:String)
 deriving DecidableEq
def RelV:V->Value->Prop
 |.non,u=>u=Value.none
 |.bl b,u=>u=Value.bool b
 |.int i,u=>∃t,u=Value.int i t
 |.str x,u=>∃t,u=Value.str x t
 |.byt b,u=>∃t,u=Value.bytes b t
 |.flt b,u=>∃t,u=Value.float b t
 |.ref a,u=>u=Value.ref a
 |.ty n,u=>u=Value.type n
abbrev Vals:List V->List Value->Prop:=Paired RelV
def Vals.length{xs:List V}{us:List Value}(r:Vals xs us):xs.length=us.length:=Paired.length r
theorem Vals.get:∀{xs:List V}{us:List Value}{i:Nat}{x:V},Vals xs us->xs[i]?=some x->∃u,us[i]?=some u/\RelV x u
  |_,_,_,_,.nil,e=>by simp at e
  |_,_,0,_,.cons r _,e=>by simp at e;subst e;exact⟨_,rfl,r⟩
  |_,_,i+1,x,.cons _ t,e=>by obtain⟨u,h1,h2⟩:=Vals.get (i:=i) (x:=x) t (by simpa using e);exact⟨u,by simpa using h1,h2⟩
theorem Vals.set{x:V}{u:Value}(r:RelV x u):∀{xs:List V}{us:List Value}(i:Nat),Vals xs us->Vals (xs.set i x) (us.set i u)
 |_,_,_,.nil=>.nil
 |_,_,0,.cons _ t=>.cons r t
 |_,_,i+1,.cons q t=>.cons q (Vals.set r i t)
theorem Vals.append:∀{xs ys:List V}{us a:List Value},Vals xs us->Vals ys a->Vals (xs++ys) (us++a)
 |_,_,_,_,.nil,s=>s
 |_,_,_,_,.cons r t,s=>.cons r (Vals.append t s)
theorem Vals.take:∀{xs:List V}{us:List Value}(n:Nat),Vals xs us->Vals (xs.take n) (us.take n)
 |_,_,0,_=>.nil
 |_,_,_+1,.nil=>.nil
 |_,_,n+1,.cons r t=>.cons r (Vals.take n t)
theorem Vals.drop:∀{xs:List V}{us:List Value}(n:Nat),Vals xs us->Vals (xs.drop n) (us.drop n)
 |_,_,0,r=>r
 |_,_,_+1,.nil=>.nil
 |_,_,n+1,.cons _ t=>Vals.drop n t
def RelO:Option V->Option Value->Prop
 |some v,some u=>RelV v u
 |none,none=>True
 |_,_=>False
def KV{κ:Type}:List (κ×V)->List (κ×Value)->Prop:=Paired λ(p:κ×V)(q:κ×Value)=>p.1=q.1/\RelV p.2 q.2
def kV:Key->V
 |.inl i=>.int i
 |.inr x=>.str x
inductive HO where
  |lst (xs:List V)
  |tup (xs:List V)
  |dK (kvs:List (Key×V))|dT (kvs:List (List Key×V))
  |set (S:Int->Bool) (n:Nat)
  |ins (C dx:Addr) (fs:List (Str×V))
  |own (x:Addr)
  |xd (fs:List (Str×V))
  |met (f x:Addr)
  |rng (lo hi:Int)
  |frz (o:Obj) (u:HO)
  |tbl (ps:Array Value)
  |ext (φ:Heap->Prop)
abbrev Hp:=Addr->Option HO
def upd(H:Hp)(a:Addr)(o:HO):Hp:=λb=>if b=a then some o else H b
theorem QU{H:Hp}{a:Addr}{o:HO}:upd H a o a=some o:=by unfold upd;rw[Cf rfl]
theorem QS{H:Hp}{a b:Addr}{o:HO}(h:b≠a):upd H a o b=H b:=by unfold upd;rw[Ce h]
theorem MW{H:Hp}{a b:Addr}{o u:HO}(h:H a=some o)(h':H b=some u)(d:o≠u):a≠b:=by intro e;subst e;rw[h]at h';exact d (An h')
theorem Zz{H:Hp}{a b:Addr}{o:HO}(h:H a=some o)(h':H b=none):a≠b:=by intro e;subst e;rw[h]at h';cases h'
section
variable(P:Program)(w:World)
def ObjOk(H:Hp)(h:Heap)(a:Addr):HO->Prop
 |.lst xs=>xs.length<=sizeLine/\∃(c:List Value) (n:Nat),Vals xs c/\h.get? a=some { cls:=.type "list", data:=.seq c.toArray n }
 |.tup xs=>xs.length<=sizeLine/\∃c:List Value,Vals xs c/\IsTup h a c.toArray
 |.dK kvs=>kvs.length<=sizeLine/\(a==sysModules)=false/\∃vs,KV kvs vs/\h.DictOf (ZR P w) a vs
 |.dT kvs=>kvs.length<=sizeLine/\(a==sysModules)=false/\∃xs:List (List Key×Addr×Value),
   Paired (λ(p:List Key×V)(q:List Key×Addr×Value)=>p.1=q.1/\H q.2.1=some (.tup (p.1.map kV))/\RelV p.2 q.2.2) kvs xs /\
   ∃o es i,h.get? a=some o/\o.ExactDict/\o.data=.dict es i/\es.toList=xs.map (entryOfKey (tupleKind (ZR P w)))/\(xs.map (·.1)).Nodup
 |.set S n=>h.SetOf (intKind P w) a S n
 |.ins C e fs=>H e=some (.own a)/\fs.length<=1000/\e≠a/\h.get? a=some (PySem.W.instObj C e) /\
   ∃d,h.Ns1 e d/\(∀f,RelO (fs.lookup f) (d f))/\PySem.Within d (fs.map (·.1))
 |.own _=>∃o,h.get? a=some o
 |.xd fs=>∃d,h.Ns1 a d/\∀f,RelO (fs.lookup f) (d f)
 |.rng lo hi=>∃t u v,h.get? a=some { cls:=.type "range", data:=.fields #[.int lo t,.int hi u,.int 1 v] }
 |.frz o u=>h.get? a=some o/\ObjOk H h a u
 |.tbl ps=>h.get? a=some { cls:=.none,data:=.fields ps }
 |.met f x=>h.get? a=some (PySem.W.methodObj (.ref f) (.ref x))
 |.ext φ=>φ h/\(∃o,h.get? a=some o)/\∀h1 h2:Heap,φ h1->(∀o,h1.get? a=some o->h2.get? a=some o)->φ h2
def HOk(H:Hp)(h:Heap):Prop:=∀a o,H a=some o->ObjOk P w H h a o
end
section
variable{P:Program}{w:World}{H H':Hp}{h h':Heap}{a:Addr}{o:HO}
theorem ObjOk.lt(x:ObjOk P w H h a o):a<h.objs.size:=by
 cases o with
 |lst xs=>obtain⟨_,_,_,_,e⟩:=x;exact Ar e
 |tup xs=>obtain⟨_,_,_,p⟩:=x;exact p.lt
 |dK kvs=>obtain⟨_,_,_,_,o,_,_,e,_⟩:=x;exact Ar e
 |dT kvs=>obtain⟨_,_,_,_,o,_,_,e,_⟩:=x;exact Ar e
 |set S n=>obtain⟨o,_,_,_,e,_⟩:=x;exact Ar e
 |ins C c fs=>obtain⟨_,_,_,e,_⟩:=x;exact Ar e
 |own y=>obtain⟨_,e⟩:=x;exact Ar e
 |xd fs=>obtain⟨_,⟨_,_,_,e,_⟩,_⟩:=x;exact Ar e
 |rng lo hi=>obtain⟨_,_,_,e⟩:=x;exact Ar e
 |frz ob u=>obtain⟨e,_⟩:=x;exact Ar e
 |tbl ps=>exact Ar (show h.get? a=some _ from x)
 |met f y=>exact Ar (show h.get? a=some _ from x)
 |ext φ=>obtain⟨_,⟨_,e⟩,_⟩:=x;exact Ar e
theorem Paired.mapP{α β:Type}{F G:α->β->Prop}:∀{l₁:List α}{l₂:List β},Paired F l₁ l₂->(∀a b,F a b->G a b)->Paired G l₁ l₂
 |_,_,.nil,_=>.nil
 |_,_,.cons r t,f=>.cons (f _ _ r) (Paired.mapP t f)
theorem ObjOk.stay(x:ObjOk P w H h a o)(k:∀b u,(b=a∨H b=some (.own a))->h.get? b=some u->h'.get? b=some u)
    (ho:∀b,H b=some (.own a)->H' b=some (.own a)) (ht:∀b xs,H b=some (.tup xs)->H' b=some (.tup xs)):ObjOk P w H' h' a o:=by
  induction o with
  |lst xs=>obtain⟨z,j,n,r,e⟩:=x;exact⟨z,j,n,r,k _ _ (.inl rfl) e⟩
  |tup xs=>obtain⟨z,j,r,ob,e,c⟩:=x;exact⟨z,j,r,ob,k _ _ (.inl rfl) e,c⟩
  |dK kvs=>obtain⟨z,y,vs,r,ob,es,i,e,c⟩:=x;exact⟨z,y,vs,r,ob,es,i,k _ _ (.inl rfl) e,c⟩
  |dT kvs=>obtain⟨z,y,xs,r,ob,es,i,e,c⟩:=x;exact⟨z,y,xs,Paired.mapP r λp q z=>⟨z.1,ht _ _ z.2.1,z.2.2⟩,ob,es,i,k _ _ (.inl rfl) e,c⟩
  |set S n=>obtain⟨ob,es,i,t,e,c⟩:=x;exact⟨ob,es,i,t,k _ _ (.inl rfl) e,c⟩
  |ins C G fs=>obtain⟨d,z,ne,e,m,⟨od,es,i,E,c⟩,r⟩:=x;exact⟨ho _ d,z,ne,k _ _ (.inl rfl) e,m,⟨od,es,i,k _ _ (.inr d) E,c⟩,r⟩
  |own y=>obtain⟨ob,e⟩:=x;exact⟨ob,k _ _ (.inl rfl) e⟩
  |xd fs=>obtain⟨m,⟨od,es,i,e,c⟩,r⟩:=x;exact⟨m,⟨od,es,i,k _ _ (.inl rfl) e,c⟩,r⟩
  |rng lo hi=>obtain⟨t,u,v,e⟩:=x;exact⟨t,u,v,k _ _ (.inl rfl) e⟩
  |frz ob u F=>obtain⟨e,q⟩:=x;exact⟨k _ _ (.inl rfl) e,F q⟩
  |tbl ps=>have e:h.get? a=some { cls:=.none,data:=.fields ps }:=x;show h'.get? a=some { cls:=.none,data:=.fields ps };exact k a _ (.inl rfl) e
  |met f y=>have e:h.get? a=some (PySem.W.methodObj (.ref f) (.ref y)):=x;show h'.get? a=some (PySem.W.methodObj (.ref f) (.ref y));exact k a _ (.inl rfl) e
  |ext φ=>obtain⟨p,⟨o,e⟩,st⟩:=x;exact⟨st _ _ p λo q=>k _ _ (.inl rfl) q,⟨o,k _ _ (.inl rfl) e⟩,st⟩
def HOk.lt(x:HOk P w H h)(e:H a=some o):a<h.objs.size:=(x a o e).lt
theorem HOk.fresh(x:HOk P w H h)(e:h.objs.size<=a):H a=none:=by
 cases q:H a with
 |none=>rfl
 |some u=>exact absurd (Az (x.lt q) e) (B0 _)
theorem HOk.kept(x:HOk P w H h)(k:∀b u,h.get? b=some u->h'.get? b=some u):HOk P w H h':=λa o e =>
 (x a o e).stay (λb u _ q=>k b u q) (λ_ q=>q) λ_ _ q=>q
theorem HOk.laid(x:HOk P w H h)(k:∀b u,h.get? b=some u->h'.get? b=some u)(hp:h.objs.size<=a)(new:ObjOk P w (upd H a o) h' a o):HOk P w (upd H a o) h':=λb u e=>by
 have hn:=x.fresh hp;by_cases d:b=a
 ·subst d;rw[QU]at e;cases e;exact new
 ·rw[QS d]at e;exact(x b u e).stay (λc v _ q=>k c v q) (λc q=>by rw[QS (Zz q hn)];exact q) λc xs q=>by rw[QS (Zz q hn)];exact q
end
def Rd(H:Hp)(a:Addr)(u:HO):Prop:=H a=some u∨∃o,H a=some (.frz o u)
theorem Rd.ok{P:Program}{w:World}{H:Hp}{h:Heap}{a:Addr}{u:HO}(r:Rd H a u)(x:HOk P w H h):ObjOk P w H h a u:=by
 rcases r with r|⟨o,r⟩
 ·exact x a u r
 ·obtain⟨_,q⟩:=x a _ r;exact q
def Mut:Option HO->Prop
 |some (.lst _)=>True
 |some (.dK _)=>True
 |some (.dT _)=>True
 |some (.set _ _)=>True
 |some (.ins _ _ _)=>True
 |some (.ext _)=>True
 |_=>False
section
variable{P:Program}{w:World}{H:Hp}{h h':Heap}{x e:Addr}{o':HO}
theorem HOk.write(ok:HOk P w H h)(n:Mut (H x))(C:e=x∨H e=some (.own x))(k:∀b u,b≠e->h.get? b=some u->h'.get? b=some u)(o:∃u,h'.get? e=some u)
  (new:ObjOk P w (upd H x o') h' x o'):HOk P w (upd H x o') h':=λb u q=>by
 have d:∀c y,H c=some (.own y)->c≠x:=λc y r z=>by subst z;rw[r]at n;exact n
 have i:∀c xs,H c=some (.tup xs)->c≠x:=λc xs r z=>by subst z;rw[r]at n;exact n
 by_cases j:b=x
 ·subst j;rw[QU]at q;cases q;exact new
 ·rw[QS j]at q;by_cases a:b=e
  ·have E:H b=some (.own x):=by
    rcases C with z|z
    ·exact absurd (a.trans z) j
    ·rw[a];exact z
   rw[q]at E;cases E;obtain⟨v,F⟩:=o;exact⟨v,by rw[a];exact F⟩
  ·refine(ok b u q).stay (λc v m r=>k c v ?_ r) (λc r=>by rw[QS (d c b r)];exact r) λc xs r=>by rw[QS (i c xs r)];exact r
   rcases m with rfl|m
   ·exact a
   ·rintro rfl;rcases C with z|z
    ·exact d c b m z
    ·rw[m]at z;cases z;exact j rfl
end
structure Un(fs ex:Cr)(H H':Hp)(h h':Heap):Prop where
 keep:∀b o,h.get? b=some o->H b=none->b∉fs->b∉ex->h'.get? b=some o
 slot:∀b o,h.get? b=some o->H b=none->b∈fs->b∉ex->∃sl,h'.get? b=some { o with slots:=sl }
 free:∀b o,h.get? b=some o->H b=none->b∉ex->H' b=none
 there:∀b o,h.get? b=some o->b∉ex->∃o',h'.get? b=some o'
 tups:∀b xs,H b=some (.tup xs)->H' b=some (.tup xs)
 frzs:∀b o u,H b=some (.frz o u)->H' b=some (.frz o u)
 tbls:∀b ps,H b=some (.tbl ps)->∃more,H' b=some (.tbl (ps++more))
section
variable{fs fs' ex ex':Cr}{H H1 H2:Hp}{h h1 h2 h':Heap}{a x e:Addr}{o:HO}
theorem Un.any(u:Un fs ex H H1 h h1){b:Addr}{ob:Obj}(q:h.get? b=some ob)(n:H b=none)(hx:b∉ex):∃d,h1.get? b=some { ob with slots:=d }:=by
 by_cases c:b∈fs
 ·exact u.slot b ob q n c hx
 ·exact⟨ob.slots,u.keep b ob q n c hx⟩
theorem Un.kept(k:∀b u,h.get? b=some u->h'.get? b=some u):Un fs ex H H h h' :=
 ⟨λb ob q _ _ _=>k b ob q,λb ob q _ _ _=>⟨ob.slots,k b ob q⟩,λ_ _ _ n _=>n,λb ob q _=>⟨ob,k b ob q⟩,λ_ _ q=>q,λ_ _ _ q=>q,λ_ ps q=>⟨#[],by rw[q];simp⟩⟩
def Un.refl:Un fs ex H H h h:=Un.kept λ_ _ q=>q
theorem Un.laid(k:∀b u,h.get? b=some u->h'.get? b=some u)(hp:h.objs.size<=a)(hn:H a=none):Un fs ex H (upd H a o) h h' where
 keep:=λb u q _ _ _=>k b u q
 slot:=λb u q _ _ _=>⟨u.slots,k b u q⟩
 free:=λb u q n _=>by rw[QS (Bi (Az (Ar q) hp))];exact n
 there:=λb u q _=>⟨u,k b u q⟩
 tups:=λb xs q=>by rw[QS (Zz q hn)];exact q
 frzs:=λb u xs q=>by rw[QS (Zz q hn)];exact q
 tbls:=λb ps q=>⟨#[],by rw[QS (Zz q hn),q];simp⟩
theorem Un.write(d:Mut (H x))(m:e=x∨H e=some (.own x))(k:∀b u,b≠e->h.get? b=some u->h'.get? b=some u)(i:∃u,h'.get? e=some u):Un fs ex H (upd H x o) h h':=by
 have hx:∀b,H b=none->b≠x:=λb n z=>by subst z;rw[n]at d;exact d
 have j:∀b,H b=none->b≠e:=λb n z=>by
  subst z;rcases m with r|r
  ·exact hx b n r
  ·rw[n]at r;cases r
 have hm:∀b u,H b=some u->¬ Mut (some u)->b≠x:=λb u q nm z=>by subst z;rw[q]at d;exact nm d
 refine⟨λb u q n _ _=>k b u (j b n) q,λb u q n _ _=>⟨u.slots,k b u (j b n) q⟩,λb u q n _=>by rw[QS (hx b n)];exact n,λb u q _=>?_,
  λb xs q=>by rw[QS (hm b _ q λz=>z)];exact q,λb u xs q=>by rw[QS (hm b _ q λz=>z)];exact q,λb ps q=>⟨#[],by rw[QS (hm b _ q λz=>z),q];simp⟩⟩
 by_cases c:b=e
 ·subst c;exact i
 ·exact⟨u,k b u c q⟩
end
def trk(h:Heap)(H:Hp):List Addr:=(List.range h.objs.size).filter λa=>(H a).isSome
def gq(h:Heap)(H:Hp):Heap:=PySem.W.hideAll h (trk h H)
def Qdu(h:Heap)(H:Hp):(gq h H).objs.size=h.objs.size:=PySem.W.hideAll_size _ _
theorem Qe0{h:Heap}{H:Hp}{b:Addr}{o:Obj}(e:h.get? b=some o)(n:H b=none):(gq h H).get? b=some o :=
 PySem.W.hideAll_get _ e λhm=>by have q:(H b).isSome=true:=(List.mem_filter.mp hm).2;rw[n]at q;simp at q
theorem Qhl{h:Heap}{H:Hp}{b:Addr}{o:Obj}(e:(gq h H).get? b=some o):h.get? b=some o/\H b=none:=by
  have a:h.get? b=some o:=PySem.W.of_hideAll (trk h H) e;refine⟨a,?_⟩;cases q:H b with
  |none=>rfl
  |some x=>have hm:b∈trk h H:=List.mem_filter.mpr ⟨List.mem_range.mpr (Ar a),by simp[q]⟩;have z:(gq h H).get? b=none:=PySem.W.hideAll_none (trk h H) hm;rw[z]at e;cases e
def uL(g h:Heap)(L:Addr):List (Addr×Obj):=(List.range h.objs.size).filterMap λa=>if a=L∨(g.get? a).isSome=true then none else (h.get? a).map λo=>(a,o)
theorem KW{g h:Heap}{L:Addr}{p:Addr×Obj}(hp:p∈uL g h L):p.1≠L/\g.get? p.1=none/\h.get? p.1=some p.2:=by
  obtain⟨b,_,e⟩:=List.mem_filterMap.mp hp;split at e
  . cases e
  . rename_i hn
    cases q:h.get? b with
    |none=>rw[q]at e;simp at e
    |some u =>
      rw[q]at e;simp only[Option.map_some,Option.some.injEq]at e;subst e;refine⟨λz=>hn (.inl z),?_,q⟩;show g.get? b=none;cases r:g.get? b with
      |none=>rfl
      |some v=>exact(hn (.inr (by simp[r]))).elim
def rest(g h:Heap)(L d:Addr):List (Addr×Obj):=(uL g h L).filter λp=>decide (p.1≠d)
def Qfm{g h:Heap}{L:Addr}:News g L h (uL g h L):=λp hp=>let ⟨a,b,c⟩:=KW hp;⟨c,a,b⟩
structure Mod(K:Ae)(mg:Co)(O8:Heap):Prop where
 kin:K.In O8
 glob:O8.Ns mainGlobals mg
 blt:∃mb,O8.Ns builtinsNs mb/\∀x:Str,x ≠ "__name__" -> mb x=bootBuiltins x
 nolimit:O8.NoLimit
structure Cx where
 prog:Program
 w:World
 K:Ae
 mg:Str->Option Value
 O8:Heap
 A:Around
 N:List Str
 s₀:Shared
 H₀:Hp
 env:Env
 outer:List Env
 stack:List Env
 ex:List Addr
 fn:Str->Bool
 calm:Bool
 pn:List (Addr×Obj)
 xe:Value->Shared->Prop
def frs(l:List Env):List Addr:=l.filterMap (·.frame)
abbrev Cx.fs(X:Cx):List Addr:=frs X.outer
def Vis(a:Scope)(x:Str):Prop:=a.names.lookup x=some .local∨a.names.lookup x=some .cell∨a.names.lookup x=some .free
def Loc(a:Scope)(x:Str):Prop:=a.names.lookup x=some .local∨a.names.lookup x=some .cell
def HV(env:Env)(h:Heap)(m:Co)(x:Str)(u:Value):Prop :=
 (env.kindOf x=some .local/\m x=some u)∨((env.kindOf x=some .cell∨env.kindOf x=some .free)/\∃c,env.cells.lookup x=some c/\h.IsCell c (some u))
structure Cx.Ok(X:Cx):Prop where
 mod:Mod X.K X.mg X.O8
 kind:X.env.scope.kind=.function
 glob:X.env.globals=mainGlobals
 blt:X.env.builtins=builtinsNs
 above:X.s₀.heap.objs.size<=X.env.locals
 inj:∀x y c,X.env.cells.lookup x=some c->X.env.cells.lookup y=some c->x=y
 has:∀x,(X.env.kindOf x=some .cell∨X.env.kindOf x=some .free)->∃c,X.env.cells.lookup x=some c
 cab:∀x c,X.fn x=true->X.env.cells.lookup x=some c->X.s₀.heap.objs.size<=c
 hd:X.calm=true->X.A.handled=none
 frames:X.A.frames=some X.stack
 stk:X.stack=X.outer∨(X.stack=X.env::X.outer/\X.env.frame=some X.env.locals)
 exf:∀b∈X.ex,b≠X.env.locals/\∀x c,X.env.cells.lookup x=some c->c≠b
 bs:∀b o,X.O8.get? b=some o->X.s₀.heap.get? b=some o/\X.H₀ b=none
 bsz:X.O8.objs.size<=X.s₀.heap.objs.size
 noex:∀b o,X.O8.get? b=some o->b∉X.ex
 exfs:∀b∈X.ex,b∉X.fs
 funs:X.s₀.heap.FunFrames X.O8 X.outer
 frf:∀b∈X.fs,X.H₀ b=none
structure Inv(X:Cx)(O9:Cn)(σ:List (Option V))(H:Hp)(s:Shared):Prop where
 ok:X.Ok
 os:s.os=X.s₀.os
 bare:AllBare s.gens
 O8:Un X.fs X.ex X.H₀ H X.s₀.heap s.heap
 loc:∃m,s.heap.Ns X.env.locals m/\∀(i:Nat)(x:Str)(v:V),X.N[i]?=some x->σ[i]?=some (some v)->Vis X.env.scope x->∃u,RelV v u/\HV X.env s.heap m x u
 cell:∀x c,X.env.cells.lookup x=some c->∃v,s.heap.IsCell c v
 free:H X.env.locals=none
 freeC:∀x c,X.env.cells.lookup x=some c->H c=none
 pin:∀p∈X.pn++O9,s.heap.get? p.1=some p.2/\H p.1=none/\p.1≠X.env.locals/\p.1∉X.fs/\∀v,p.2.data≠.cell v
 hok:HOk X.prog X.w H s.heap
 len:σ.length=X.N.length
section
variable{X:Cx}{O9:Cn}{σ:List (Option V)}{H H':Hp}{s:Shared}{h':Heap}
theorem Cx.Ok.nofr(ok:X.Ok){b:Addr}{o:Obj}(e:X.O8.get? b=some o):b∉X.fs:=λa=>by have:=(ok.funs.mem a).1;rw[e]at this;cases this
theorem Inv.bs(I:Inv X O9 σ H s):∀b o,X.O8.get? b=some o->s.heap.get? b=some o/\H b=none:=λb o e =>
 ⟨I.O8.keep b o (I.ok.bs b o e).1 (I.ok.bs b o e).2 (I.ok.nofr e) (I.ok.noex b o e),I.O8.free b o (I.ok.bs b o e).1 (I.ok.bs b o e).2 (I.ok.noex b o e)⟩
def Inv.bk(I:Inv X O9 σ H s):∀b o,X.O8.get? b=some o->s.heap.get? b=some o:=λb o e=>(I.bs b o e).1
def Inv.mod(I:Inv X O9 σ H s):Mod X.K X.mg X.O8:=I.ok.mod
def Inv.kIn(I:Inv X O9 σ H s):X.K.In s.heap:=I.ok.mod.kin.keeps I.bk
theorem Inv.fr(I:Inv X O9 σ H s):∃m,Fr X.O8 X.env.locals s.heap m :=
 let ⟨m,hn,_⟩:=I.loc
 ⟨m,hn,I.bk,Bj I.ok.bsz I.ok.above⟩
def Inv.lt(I:Inv X O9 σ H s):X.env.locals<s.heap.objs.size:=let ⟨_,hn,_⟩:=I.loc;hn.lt
def Inv.sz(I:Inv X O9 σ H s):X.s₀.heap.objs.size<=s.heap.objs.size:=Bj I.ok.above (Nat.le_of_lt I.lt)
theorem Inv.nofs(I:Inv X O9 σ H s){a:Addr}(h:s.heap.objs.size<=a):a∉X.fs:=λc=>by obtain⟨_,o,d,_⟩:=I.ok.funs.mem c;exact absurd (Az (Ar d) (Bj I.sz h)) (B0 _)
theorem Inv.cne(I:Inv X O9 σ H s):∀x c,X.env.cells.lookup x=some c->c≠X.env.locals:=λx c e z=>by obtain⟨v,o,i,hd⟩:=I.cell x c e;obtain⟨m,⟨o',es,j,d,a,_⟩,_⟩:=I.loc;rw[z,d]at i;cases i;rw[a]at hd;cases hd
theorem Inv.funs(I:Inv X O9 σ H s):s.heap.FunFrames X.O8 X.outer:=by
  have all:∀(l:List Env),(∀b∈frs l,b∈X.fs)->X.s₀.heap.FunFrames X.O8 l->s.heap.FunFrames X.O8 l:=by
    intro l;induction l with
    |nil=>intro _ _;trivial
    |cons env r n=>intro hs i;obtain⟨d,⟨L,o,hf,hn,j,hd⟩,m⟩:=i;have a:L∈X.fs:=hs L (by unfold frs;rw[List.filterMap_cons,hf];exact List.mem_cons_self);obtain⟨q,e⟩:=I.O8.slot L o j (I.ok.frf L a) a λz=>I.ok.exfs L z a;exact⟨d,⟨L,_,hf,hn,e,hd⟩,n (λb c=>hs b (by unfold frs;rw[List.filterMap_cons,hf];exact Ay _ c)) m⟩
  exact all X.outer (λ_ c=>c) I.ok.funs
theorem Inv.stack(I:Inv X O9 σ H s):s.heap.FunFrames X.O8 X.stack:=by
 rcases I.ok.stk with e|⟨e,hf⟩
 ·rw[e];exact I.funs
 ·rw[e];obtain⟨m,hn,_⟩:=I.loc;refine .cons (by rw[I.ok.kind];decide) hf hn ?_ I.funs;exact Heap.get?_none_of_le (Bj I.ok.bsz I.ok.above)
theorem Inv.stkSub(I:Inv X O9 σ H s):∀b∈frs X.stack,b∈X.env.locals::X.fs:=λb a=>by
 rcases I.ok.stk with e|⟨e,hf⟩
 ·rw[e]at a;exact Ay _ a
 ·rw[e]at a;unfold frs at a;rw[List.filterMap_cons,hf]at a;exact a
theorem Inv.stkFree(I:Inv X O9 σ H s):∀b∈frs X.stack,H b=none:=λb a=>by
 rcases Bk.mp (I.stkSub b a)with e|a
 ·rw[e];exact I.free
 ·obtain⟨_,o,c,_⟩:=I.ok.funs.mem a;exact I.O8.free b o c (I.ok.frf b a) λz=>I.ok.exfs b z a
theorem Inv.step{g':Array GenState}{t':Nat}{d':Drawn}{ch:Cr}(I:Inv X O9 σ H s)
  (hch:∀b∈ch,(b∈X.ex∨X.s₀.heap.objs.size<=b)/\b≠X.env.locals/\(∀x c,X.env.cells.lookup x=some c->c≠b)/\∀p∈X.pn++O9,p.1≠b)
  (keep:∀b o,b≠X.env.locals->b∉X.fs->b∉ch->s.heap.get? b=some o->H b=none->h'.get? b=some o)
  (slot:∀b o,b≠X.env.locals->b∈X.fs->b∉ch->s.heap.get? b=some o->H b=none->∃J,h'.get? b=some { o with slots:=J }) (free:∀b o,b∉ch->s.heap.get? b=some o->H b=none->H' b=none)
  (there:∀b o,b∉ch->s.heap.get? b=some o->∃o',h'.get? b=some o')
  (tups:∀b xs,H b=some (.tup xs)->H' b=some (.tup xs)) (frzs:∀b o u,H b=some (.frz o u)->H' b=some (.frz o u)) (tbls:∀b ps,H b=some (.tbl ps)->∃more,H' b=some (.tbl (ps++more)))
  (ns:∀m,s.heap.Ns X.env.locals m->h'.Ns X.env.locals m) (hok:HOk X.prog X.w H' h') (hg:AllBare g') :
  Inv X O9 σ H' { s with heap:=h',gens:=g',drawn:=d',toks:=t' }:=by
 have G:∀b o,X.s₀.heap.get? b=some o->b≠X.env.locals:=λb o e=>Bi (Az (Ar e) I.ok.above);have y:∀b o,X.s₀.heap.get? b=some o->b∉X.ex->b∉ch:=λb o e hx C=>by
  rcases(hch b C).1 with z|z
  ·exact hx z
  ·exact absurd (Az (Ar e) z) (B0 _)
 have cellK:∀x c,X.env.cells.lookup x=some c->∀v,s.heap.IsCell c v->h'.IsCell c v:=λx c e v ⟨o,E,hd⟩=>by
  have a:c∉ch:=λz=>(hch c z).2.2.1 x c e rfl;by_cases O:c∈X.fs
  ·obtain⟨J,q⟩:=slot c o (I.cne x c e) O a E (I.freeC x c e);exact⟨_,q,hd⟩
  ·exact⟨o,keep c o (I.cne x c e) O a E (I.freeC x c e),hd⟩
 refine⟨I.ok,I.os,hg,⟨λb o e n C hx=>?_,λb o e n C hx=>?_,λb o e n hx=>?_,λb o e hx=>?_,λb xs e=>tups b xs (I.O8.tups b xs e),λb o xs e=>frzs b o xs (I.O8.frzs b o xs e),λb ps e=>?_⟩,?_,λx c e=>?_,?_,λx c e=>?_,λp hp=>?_,hok,I.len⟩
 ·exact keep b o (G b o e) C (y b o e hx) (I.O8.keep b o e n C hx) (I.O8.free b o e n hx)
 ·obtain⟨J,j⟩:=I.O8.slot b o e n C hx;obtain⟨L,F⟩:=slot b _ (G b o e) C (y b o e hx) j (I.O8.free b o e n hx);exact⟨L,F⟩
 ·obtain⟨o',j⟩:=I.O8.there b o e hx;exact free b o' (y b o e hx) j (I.O8.free b o e n hx)
 ·obtain⟨o',j⟩:=I.O8.there b o e hx;exact there b o' (y b o e hx) j
 ·obtain⟨R,j⟩:=I.O8.tbls b ps e;obtain⟨S,F⟩:=tbls b _ j;exact⟨R++S,by rw[F,Array.append_assoc]⟩
 ·obtain⟨m,hn,Q⟩:=I.loc;refine⟨m,ns m hn,λi x v j F P=>?_⟩;obtain⟨u,r,l⟩:=Q i x v j F P;refine⟨u,r,?_⟩;rcases l with l|⟨k,c,e,z⟩
  ·exact .inl l
  ·exact .inr ⟨k,c,e,cellK x c e _ z⟩
 ·obtain⟨v,z⟩:=I.cell x c e;exact⟨v,cellK x c e v z⟩
 ·obtain⟨m,⟨o,_,_,E,_⟩,_⟩:=I.loc;exact free _ o (λz=>(hch _ z).2.1 rfl) E I.free
 ·obtain⟨v,o,E,hd⟩:=I.cell x c e;exact free c o (λz=>(hch c z).2.2.1 x c e rfl) E (I.freeC x c e)
 ·obtain⟨e,n,ne,nf,d⟩:=I.pin p hp;have a:p.1∉ch:=λz=>(hch p.1 z).2.2.2 p hp rfl;exact⟨keep p.1 p.2 ne nf a e n,free p.1 p.2 a e n,ne,nf,d⟩
theorem Inv.un{t':Nat}(I:Inv X O9 σ H s)(u:Un X.fs [] H H' s.heap h')(hok:HOk X.prog X.w H' h'):Inv X O9 σ H' { s with heap:=h',toks:=t' }:=by
 obtain⟨m,⟨o,es,x,j,r⟩,_⟩:=id I.loc;obtain⟨C,q⟩:=u.any j I.free (by simp);exact I.step (g':=s.gens) (d':=s.drawn) (ch:=[]) (λ_ z=>nomatch z) (λb o _ i _ e n=>u.keep b o e n i (by simp)) (λb o _ i _ e n=>u.slot b o e n i (by simp)) (λb o _ e n=>u.free b o e n (by simp)) (λb o _ e=>u.there b o e (by simp)) u.tups u.frzs u.tbls (λy hm=>by obtain⟨o',d,c,a,v⟩:=hm;rw[j]at a;cases a;exact⟨_,d,c,q,v⟩) hok I.bare
theorem Inv.call{g':Array GenState}{t':Nat}{d':Drawn}{ch:Cr}(I:Inv X O9 σ H s)(u:Un (frs X.stack) ch H H' s.heap h')(hok:HOk X.prog X.w H' h')(C:AllBare g')
  (hch:∀b∈ch,(b∈X.ex∨X.s₀.heap.objs.size<=b)/\b≠X.env.locals/\(∀x c,X.env.cells.lookup x=some c->c≠b)/\∀p∈X.pn++O9,p.1≠b) :
  Inv X O9 σ H' { s with heap:=h',gens:=g',drawn:=d',toks:=t' }:=by
 obtain⟨m,⟨o,es,F,v,r⟩,_⟩:=id I.loc;obtain⟨J,q⟩:=u.any v I.free λz=>(hch _ z).2.1 rfl;exact I.step (ch:=ch) hch (λb o q y a e n=>u.keep b o e n (λz=>(Bk.mp (I.stkSub b z)).elim q y) a) (λb o _ _ a e n=>u.any e n a) (λb o a e n=>u.free b o e n a) (λb o a e=>u.there b o e a) u.tups u.frzs u.tbls (λG hm=>by obtain⟨o',j,i,d,E⟩:=hm;rw[v]at d;cases d;exact⟨_,j,i,q,E⟩) hok C
theorem Inv.turned{t':Nat}{a:Addr}(I:Inv X O9 σ H s)(k:∀b o,b≠a->s.heap.get? b=some o->h'.get? b=some o)(hn:H a=none)(j:a≠X.env.locals)
  (h1:a∈X.ex∨X.s₀.heap.objs.size<=a) (h2:∀x c,X.env.cells.lookup x=some c->c≠a) (h3:∀p∈X.pn++O9,p.1≠a):Inv X O9 σ H { s with heap:=h',toks:=t' }:=by
 have i:∀b u,H b=some u->b≠a:=λb u e z=>by rw[z,hn]at e;cases e
 refine I.step (g':=s.gens) (d':=s.drawn) (ch:=[a]) (λb C=>?_) (λb o _ _ d e _=>k b o (λz=>d (by simp[z])) e) (λb o _ _ d e _=>⟨o.slots,k b o (λz=>d (by simp[z])) e⟩) (λ_ _ _ _ n=>n)
  (λb o d e=>⟨o,k b o (λz=>d (by simp[z])) e⟩) (λ_ _ e=>e) (λ_ _ _ e=>e) (λb ps e=>⟨#[],by rw[e];simp⟩) (λm hm=>?_) (λb u e=>?_) I.bare
 ·have e:b=a:=by simpa using C
  subst e;exact⟨h1,j,h2,h3⟩
 ·obtain⟨o,es,y,E,r⟩:=hm;exact⟨o,es,y,k _ o (Ne.symm j) E,r⟩
 ·refine(I.hok b u e).stay (λc v d q=>k c v ?_ q) (λ_ q=>q) λ_ _ q=>q;rcases d with z|z
  ·rw[z];exact i b u e
  ·exact i c _ z
def Inv.tok(I:Inv X O9 σ H s)(t:Nat):Inv X O9 σ H { s with toks:=t }:=I.un (h':=s.heap) (t':=t) Un.refl I.hok
def Inv.kept{t':Nat}(I:Inv X O9 σ H s)(k:∀b u,s.heap.get? b=some u->h'.get? b=some u):Inv X O9 σ H { s with heap:=h',toks:=t' }:=I.un (Un.kept k) (I.hok.kept k)
theorem Inv.laid{a:Addr}{o:HO}{t':Nat}(I:Inv X O9 σ H s)(k:∀b u,s.heap.get? b=some u->h'.get? b=some u)(hp:s.heap.objs.size<=a)(new:ObjOk X.prog X.w (upd H a o) h' a o) :
  Inv X O9 σ (upd H a o) { s with heap:=h',toks:=t' }:=I.un (Un.laid k hp (I.hok.fresh hp)) (I.hok.laid k hp new)
theorem Inv.write{x e:Addr}{o:HO}{t':Nat}(I:Inv X O9 σ H s)(d:Mut (H x))(c:e=x∨H e=some (.own x))(k:∀b u,b≠e->s.heap.get? b=some u->h'.get? b=some u)(a:∃u,h'.get? e=some u)
  (new:ObjOk X.prog X.w (upd H x o) h' x o):Inv X O9 σ (upd H x o) { s with heap:=h',toks:=t' }:=I.un (Un.write d c k a) (I.hok.write d c k a new)
theorem Inv.pins_of{a:Cn}(I:Inv X O9 σ H s)(h:∀p∈a,s.heap.get? p.1=some p.2/\H p.1=none/\p.1≠X.env.locals/\p.1∉X.fs/\∀v,p.2.data≠.cell v):Inv X a σ H s :=
 ⟨I.ok,I.os,I.bare,I.O8,I.loc,I.cell,I.free,I.freeC,λp hp=>(Ak.mp hp).elim (λz=>I.pin p (List.mem_append_left _ z)) (h p),I.hok,I.len⟩
theorem KS{N:List Str}(e:N.Nodup){i j:Nat}{x:Str}(a:N[i]?=some x)(b:N[j]?=some x):i=j:=by obtain⟨h1,c⟩:=Ag.mp a;obtain⟨h2,d⟩:=Ag.mp b;exact(List.getElem_inj e).mp (c.trans d.symm)
theorem v9{M:Model}{A:Around}{E:Cm}{i:Nat}{x:Str}{v:V}{u:Value}{Q:Unit->Shared->Prop}(I:Inv X O9 σ H s)(hN:X.N.Nodup)(hi:X.N[i]?=some x)(hx:Loc X.env.scope x)(r:RelV v u)
  (h:∀s',Inv X O9 (σ.set i (some v)) H s'->(∃a,Heap.SameBut a s.heap s'.heap/\(a=X.env.locals∨X.env.cells.lookup x=some a))->Q () s') (hf:X.fn x=true∨X.env.scope.names.lookup x=some .local:=by first|exact .inl rfl|exact .inr rfl|assumption):wpAny M A (storeName X.env x u) Q E s:=by
 obtain⟨m,hn,hl⟩:=id I.loc;have U:(X.env.scope.kind==.class||(X.env.scope.kind==.module&&X.env.locals != X.env.globals))=false:=by rw[I.ok.kind];rfl
 have hiσ:i<σ.length:=by rw[I.len];exact(Ag.mp hi).1
 have cne:=I.cne;have tracked:∀{a:Addr}{h':Heap},(∃o,s.heap.get? a=some o/\H a=none)->Heap.SameBut a s.heap h'->HOk X.prog X.w H h':=λ{a h'} ha hs b ob e=>by
  obtain⟨_,_,G⟩:=ha;refine(I.hok b ob e).stay (λc w' F q=>(hs.2 c ?_).trans q) (λ_ q=>q) λ_ _ q=>q;rintro rfl;rcases F with rfl|F
  ·rw[G]at e;cases e
  ·rw[G]at F;cases F
 rcases hx with L|L
 ·refine wpAny_storeName_local L hn (λh' a6 hs=>?_) U;obtain⟨oL,_,_,a7,_⟩:=id hn;refine h _ ⟨I.ok,I.os,I.bare,⟨λb o e n O hx=>?_,λb o e n O hx=>?_,I.O8.free,λb o e hx=>?_,I.O8.tups,I.O8.frzs,I.O8.tbls⟩,⟨_,a6,λj y v' C J e3=>?_⟩,λy c e=>?_,I.free,I.freeC,λp hp=>?_,tracked ⟨oL,a7,I.free⟩ hs,by simpa using I.len⟩ ⟨_,hs,.inl rfl⟩
  ·exact(hs.2 b (Bi (Az (Ar e) I.ok.above))).trans (I.O8.keep b o e n O hx)
  ·obtain⟨sl,C⟩:=I.O8.slot b o e n O hx;exact⟨sl,(hs.2 b (Bi (Az (Ar e) I.ok.above))).trans C⟩
  ·obtain⟨o',C⟩:=I.O8.there b o e hx;exact⟨o',(hs.2 b (Bi (Az (Ar e) I.ok.above))).trans C⟩
  ·by_cases R:j=i
   ·subst R;rw[hi]at C;cases C;rw[Av hiσ]at J;cases J;exact⟨u,r,.inl ⟨L,by simp⟩⟩
   ·rw[Ao (Ne.symm R)]at J;obtain⟨u',r',q⟩:=hl j y v' C J e3;refine⟨u',r',?_⟩;rcases q with ⟨k,e⟩|⟨k,c,e,z⟩
    ·refine .inl ⟨k,?_⟩;have:y≠x:=λe=>R (KS hN C (e▸hi));simp[this,e]
    ·exact .inr ⟨k,c,e,z.sameBut hs (cne y c e)⟩
  ·obtain⟨w',z⟩:=I.cell y c e;exact⟨w',z.sameBut hs (cne y c e)⟩
  ·obtain⟨e,n,ne,nf,d⟩:=I.pin p hp;exact⟨(hs.2 p.1 ne).trans e,n,ne,nf,d⟩
 ·have P:X.fn x=true:=by
   rcases hf with z|z
   ·exact z
   ·rw[z]at L;cases L
  obtain⟨c,F⟩:=I.ok.has x (.inl L);obtain⟨w',z⟩:=I.cell x c F;refine wpAny_storeName_cell I.ok.kind L F z (λh' S hs=>?_);obtain⟨oc,Y,Z⟩:=id z;refine h { s with heap:=h' } ⟨I.ok,I.os,I.bare,⟨λb o e n O hx=>?_,λb o e n O hx=>?_,I.O8.free,λb o e hx=>?_,I.O8.tups,I.O8.frzs,I.O8.tbls⟩,⟨m,hn.sameBut hs (Ne.symm (cne x c F)),λj y v' C J e3=>?_⟩,λy c' e=>?_,I.free,I.freeC,λp hp=>?_,tracked ⟨oc,Y,I.freeC x c F⟩ hs,by simpa using I.len⟩ ⟨c,hs,.inr F⟩
  ·exact(hs.2 b (Bi (Az (Ar e) (I.ok.cab x c P F)))).trans (I.O8.keep b o e n O hx)
  ·obtain⟨sl,C⟩:=I.O8.slot b o e n O hx;exact⟨sl,(hs.2 b (Bi (Az (Ar e) (I.ok.cab x c P F)))).trans C⟩
  ·obtain⟨o',C⟩:=I.O8.there b o e hx;exact⟨o',(hs.2 b (Bi (Az (Ar e) (I.ok.cab x c P F)))).trans C⟩
  ·by_cases R:j=i
   ·subst R;rw[hi]at C;cases C;rw[Av hiσ]at J;cases J;exact⟨u,r,.inr ⟨.inl L,c,F,S⟩⟩
   ·rw[Ao (Ne.symm R)]at J;obtain⟨u',r',q⟩:=hl j y v' C J e3;refine⟨u',r',?_⟩;rcases q with q|⟨k,c',e,z'⟩
    ·exact .inl q
    ·refine .inr ⟨k,c',e,z'.sameBut hs ?_⟩;rintro rfl;exact R (KS hN C (I.ok.inj _ _ _ e F▸hi))
  ·by_cases T:c'=c
   ·subst T;exact⟨_,S⟩
   ·obtain⟨w2,z2⟩:=I.cell y c' e;exact⟨w2,z2.sameBut hs T⟩
  ·obtain⟨e,n,ne,nf,d⟩:=I.pin p hp;refine⟨(hs.2 p.1 ?_).trans e,n,ne,nf,d⟩;intro q;rw[q,Y]at e;have q':oc=p.2:=An e;exact d w' (by rw[<- q'];exact Z)
theorem Vn{M:Model}{A:Around}{E:Cm}{i:Nat}{x:Str}{v:V}{u:Value}{Q:Unit->Shared->Prop}(I:Inv X O9 σ H s)(a:X.N.Nodup)(hi:X.N[i]?=some x)(hx:Loc X.env.scope x)(r:RelV v u)
  (h:∀s',Inv X O9 (σ.set i (some v)) H s'->Q () s') (hf:X.fn x=true∨X.env.scope.names.lookup x=some .local:=by first|exact .inl rfl|exact .inr rfl|assumption):wpAny M A (storeName X.env x u) Q E s :=
 v9 I a hi hx r (λs' I' _=>h s' I') hf
theorem Inv.call'{s':Shared}{ch:Cr}(I:Inv X O9 σ H s)(d:s'.os=s.os)(u:Un (frs X.stack) ch H H' s.heap s'.heap)(hok:HOk X.prog X.w H' s'.heap)(a:AllBare s'.gens)
  (hch:∀b∈ch,(b∈X.ex∨X.s₀.heap.objs.size<=b)/\b≠X.env.locals/\(∀x c,X.env.cells.lookup x=some c->c≠b)/\∀p∈X.pn++O9,p.1≠b):Inv X O9 σ H' s':=by
 obtain⟨h',g',d',t',o'⟩:=s';have e:o'=s.os:=d;subst e;exact I.call (g':=g') (t':=t') (d':=d') u hok a hch
end
abbrev XK:=Value->Option Addr->Hp->Prop
abbrev St:=List (Option V)
abbrev VK:=V->Hp->Prop
abbrev TE:=St->Hp->VK->Prop
abbrev TT:=St->Hp->(Bool->Hp->Prop)->Prop
abbrev TA:=St->Hp->(List V->Hp->Prop)->Prop
structure U2 where
 nx:St->Hp->Prop
 rt:VK
 bk:St->Hp->Prop:=λ_ _=>False
 ct:St->Hp->Prop:=λ_ _=>False
abbrev TS:=U2->St->Hp->Prop
def EP(X:Cx)(a:Cn)(σ:St)(Q:VK)(u:Value)(s':Shared):Prop:=∃v H',Inv X a σ H' s'/\RelV v u/\Q v H'
def TP(X:Cx)(c:Cn)(σ:St)(Q:Bool->Hp->Prop)(b:Bool)(s':Shared):Prop:=∃a,Inv X c σ a s'/\Q b a
def AP(X:Cx)(a:Cn)(σ:St)(Q:List V->Hp->Prop)(us:List Value)(s':Shared):Prop:=∃vs H',Inv X a σ H' s'/\Vals vs us/\Q vs H'
def SP(X:Cx)(a:Cn)(D:U2)(f:Flow)(s':Shared):Prop :=
 match f with
 |.next=>∃σ' H',Inv X a σ' H' s'/\D.nx σ' H'
 |.brk=>∃σ' H',Inv X a σ' H' s'/\D.bk σ' H'
 |.cont=>∃σ' H',Inv X a σ' H' s'/\D.ct σ' H'
 |.ret u=>∃v σ' H',Inv X a σ' H' s'/\RelV v u/\D.rt v H'
def PE(X:Cx)(e:Expr)(t:TE):Prop :=
 ∀(a:Cn)(s:Shared)(σ:St)(H:Hp)(Q:VK),Inv X a σ H s->t σ H Q->wpAny (model X.prog X.w) X.A (eval e X.env) (EP X a σ Q) X.xe s
def PT(X:Cx)(e:Expr)(t:TT):Prop :=
 ∀(O9:Cn)(s:Shared)(σ:St)(H:Hp)(Q:Bool->Hp->Prop),Inv X O9 σ H s->t σ H Q->wpAny (model X.prog X.w) X.A (isTrue e X.env (eval e X.env)) (TP X O9 σ Q) X.xe s
def PW(X:Cx)(e:Expr)(t:TT):Prop :=
 ∀(whole:Sem Value)(O9:Cn)(s:Shared)(σ:St)(H:Hp)(Q:Bool->Hp->Prop),Inv X O9 σ H s->t σ H Q->wpAny (model X.prog X.w) X.A (isTrue e X.env whole) (TP X O9 σ Q) X.xe s
def PA(X:Cx)(es:List Expr)(t:TA):Prop :=
 ∀(pos:Pos)(O9:Cn)(s:Shared)(σ:St)(H:Hp)(Q:List V->Hp->Prop),Inv X O9 σ H s->t σ H Q->wpAny (model X.prog X.w) X.A (spliced (backTo pos (starEach es X.env))) (AP X O9 σ Q) X.xe s
def PS(X:Cx)(st:Stmt)(t:TS):Prop :=
 ∀(a:Cn)(s:Shared)(σ:St)(H:Hp)(D:U2),Inv X a σ H s->t D σ H->wpAny (model X.prog X.w) X.A (exec st X.env) (SP X a D) X.xe s
def PSs(X:Cx)(st:List Stmt)(t:TS):Prop :=
 ∀(a:Cn)(s:Shared)(σ:St)(H:Hp)(D:U2),Inv X a σ H s->t D σ H->wpAny (model X.prog X.w) X.A (execs st X.env) (SP X a D) X.xe s
def thn{α:Type}{t:Sem α}{Q Q':α->Shared->Prop}{M:Model}{A:Around}{E:Cm}{s:Shared}(h:wpAny M A t Q E s)(c:∀a s,Q a s->Q' a s):wpAny M A t Q' E s:=wpAny_mono h c λ_ _ x=>x
section
variable{X:Cx}
theorem bin{a b:Expr}{j tb:TE}(ha:PE X a j)(m:PE X b tb){d:Cn}{s:Shared}{σ:St}{H:Hp}{R:V->V->Hp->Prop}(I:Inv X d σ H s)(h:j σ H λx i=>tb σ i λy c=>R x y c)
  {α:Type} {Q:α->Shared->Prop} {f:Value->Value->Sem α}
  (hf:∀v u e x y c,Inv X d σ c e->RelV x v->RelV y u->R x y c->wpAny (model X.prog X.w) X.A (f v u) Q X.xe e) :
  wpAny (model X.prog X.w) X.A (eval a X.env) (λv s₁=>wpAny (model X.prog X.w) X.A (eval b X.env) (λu s₂=>wpAny (model X.prog X.w) X.A (f v u) Q X.xe s₂) X.xe s₁) X.xe s:=by
 refine thn (ha d s σ H _ I h) λv n ⟨x,i,I1,r1,q1⟩=>?_;refine thn (m d n σ i _ I1 q1) λu e ⟨y,c,I2,r2,q2⟩=>?_;exact hf v u e x y c I2 r1 r2 q2
def Hv(i:Nat):TE:=λσ H Q=>∃v,σ[i]?=some (some v)/\Q v H
def tC(v:V):TE:=λ_ H Q=>Q v H
theorem DY{i:Nat}{x:Str}{o:Pos}(z:X.N[i]?=some x)(E:Vis X.env.scope x)(hd:(x==("__debug__" : Str))=false:=by decide)(n:(x==("__classdict__" : Str))=false:=by decide):PE X (.Name x o) (Hv i):=by
 intro y s σ H Q I h;obtain⟨v,e,h⟩:=h;obtain⟨m,hn,C⟩:=I.loc;obtain⟨u,r,l⟩:=C i x v z e E;have d:EP X y σ Q u s:=⟨v,H,I,r,h⟩;rcases l with ⟨j,hm⟩|⟨j,c,q,a⟩
 ·exact wpAny_Name (wpAny_loadName_local I.ok.kind j hn hm d) hd
 ·rcases j with j|j
  ·exact wpAny_Name (wpAny_loadName_cell I.ok.kind j q a d) hd
  ·exact wpAny_Name (wpAny_loadName_free I.ok.kind j q a d n) hd
def SA{i j pos}:PE X (.Constant (.int i) j pos) (tC (.int i)):=λ_ _ _ H _ I h=>wpAny_Constant_int ⟨.int i,H,I.tok _,⟨_,rfl⟩,h⟩
def ME{b j pos}:PE X (.Constant (.bool b) j pos) (tC (.bl b)):=λ_ _ _ H _ I h=>Constant_bool ⟨.bl b,H,I,rfl,h⟩
def Sz{j pos}:PE X (.Constant .none j pos) (tC .non):=λ_ _ _ H _ I h=>Constant_none ⟨.non,H,I,rfl,h⟩
def Ms{x j pos}:PE X (.Constant (.str x) j pos) (tC (.str x)):=λ_ _ _ H _ I h=>Calls.Constant_str ⟨.str x,H,I.tok _,⟨_,rfl⟩,h⟩
def Gl(X:Cx)(x:Str):Prop:=X.env.kindOf x=some .globalImplicit
theorem zE{E:Cm}{c:Cn}{s:Shared}{σ:St}{H:Hp}{x:Str}{u:Value}{a:Pos}{Q:Cm}(I:Inv X c σ H s)(d:Gl X x)(hm:X.mg x=some u)(h:Q u s)
  (hd:(x==("__debug__" : Str))=false:=by decide):wpAny (model X.prog X.w) X.A (eval (.Name x a) X.env) Q E s :=
 Calls.Name_function_global I.ok.kind d (Calls.loadGlobal_global (by rw[I.ok.glob];exact I.mod.glob.keeps I.bk) hm h) hd
theorem qH{E:Cm}{c:Cn}{s:Shared}{σ:St}{H:Hp}{x:Str}{u:Value}{a:Pos}{Q:Cm}(I:Inv X c σ H s)(d:Gl X x)(hm:X.mg x=none)(e:bootBuiltins x=some u)(h:Q u s)
  (hn:x ≠ "__name__" := by decide) (hd:(x==("__debug__" : Str))=false:=by decide):wpAny (model X.prog X.w) X.A (eval (.Name x a) X.env) Q E s:=by
 obtain⟨i,h1,h2⟩:=I.mod.blt;exact Calls.Name_function_global I.ok.kind d (Calls.loadGlobal_builtin (by rw[I.ok.glob];exact I.mod.glob.keeps I.bk) hm (by rw[I.ok.blt];exact h1.keeps I.bk) ((h2 x hn).trans e) h) hd
theorem gL{x:Str}{v:V}{u:Value}{a:Pos}(c:Gl X x)(hm:X.mg x=some u)(r:RelV v u)(hd:(x==("__debug__" : Str))=false:=by decide):PE X (.Name x a) (tC v) :=
 λ_ _ _ H _ I h=>zE I c hm ⟨v,H,I,r,h⟩ hd
theorem gI{x:Str}{v:V}{u:Value}{a:Pos}(c:Gl X x)(hm:X.mg x=none)(d:bootBuiltins x=some u)(r:RelV v u)(hn:x ≠ "__name__" := by decide)(hd:(x==("__debug__" : Str))=false:=by decide):PE X (.Name x a) (tC v) :=
 λ_ _ _ H _ I h=>qH I c hm d ⟨v,H,I,r,h⟩ hn hd
variable{a b:Expr}{ta tb:TE}{pos:Pos}
def PC(X:Cx)(d:CmpOp)(a b:Expr)(t:TE):Prop :=
  ∀(c : List (Addr × Obj))(s : Shared)(σ : St)(H : Hp)(Q : VK), Inv X c σ H s -> t σ H Q ->
    wpAny (model X.prog X.w) X.A (eval a X.env) (λv s₁=>wpAny (model X.prog X.w) X.A (eval b X.env) (λu s₂=>wpAny (model X.prog X.w) X.A (compareOp d v u) (EP X c σ Q) X.xe s₂) X.xe s₁) X.xe s
theorem Qfn(b:Expr){c:CmpOp}(h:c≠.In)(h2:c≠.NotIn):behindInMarks c b=false:=by
 have d:(c==CmpOp.In)=false:=by cases c<;>first|rfl|exact absurd rfl h
 have e:(c==CmpOp.NotIn)=false:=by cases c<;>first|rfl|exact absurd rfl h2
 cases b<;>simp[behindInMarks,d,e]
def tB(t:TE):TT:=λσ H Q=>t σ H λx H1=>∃c,x=.bl c/\Q c H1
theorem Qmo{e:CmpOp}{t:TE}(h:PC X e a b t)(h1:behindInMarks e b=false:=by first|exact Qfn _ (by decide) (by decide)|rfl):PT X (.Compare a [e] [b] pos) (tB t):=by intro i s σ H Q I hw;refine wpAny_isTrue_Compare1 (thn (h i s σ H _ I hw) λv j h1=>thn h1 λu m h2=>thn h2 λc n ⟨x,H1,I1,r1,q1⟩=>?_) h1;obtain⟨d,rfl,q⟩:=q1;cases r1;exact wpAny_truthy_bool ⟨H1,I1,q⟩
theorem Qj9{e:Expr}{t:TE}(h:PE X e t)(i:∀whole,isTrue e X.env whole=(do let v <- whole;standAt e.pos;holding [v] (truthy v)):=by intro _;rfl):PT X e (tB t):=by intro c s σ H Q I hw;refine isTrue_plain (thn (h c s σ H _ I hw) λv j ⟨x,H1,I1,r1,q1⟩=>?_) (i _);obtain⟨d,rfl,q⟩:=q1;cases r1;exact wpAny_truthy_bool ⟨H1,I1,q⟩
variable{tA tB':TT}{rest:List Expr}
def WU(t u:TT):TT:=λσ H Q=>t σ H λc H1=>if c=true then u σ H1 Q else Q false H1
def tOr(t u:TT):TT:=λσ H Q=>t σ H λc H1=>if c=true then Q true H1 else u σ H1 Q
def WJ(t:TT):TT:=λσ H Q=>t σ H λc H1=>Q (!c) H1
theorem QhI(ha:PT X a tA):PW X (.BoolOp .And [a] pos) tA:=by
 intro i O9 s σ H Q I h;refine isTrue_and (thn (ha O9 s σ H Q I h) λc d e=>?_);cases c with
 |true=>exact isTrue_and_nil e
 |false=>exact e
theorem Dp(ha:PT X a tA):PW X (.BoolOp .Or [a] pos) tA:=by
 intro i O9 s σ H Q I h;refine isTrue_or (thn (ha O9 s σ H Q I h) λc d e=>?_);cases c with
 |false=>exact isTrue_or_nil e
 |true=>exact e
theorem Dx(ha:PT X a tA)(e:PW X (.BoolOp .And (b::rest) pos) tB'):PW X (.BoolOp .And (a::b::rest) pos) (WU tA tB'):=by
 intro j O9 s σ H Q I h;refine isTrue_and (thn (ha O9 s σ H _ I h) λc i ⟨d,I1,q1⟩=>?_);cases c with
 |true=>exact e j O9 i σ d Q I1 q1
 |false=>exact⟨d,I1,q1⟩
theorem MC(ha:PT X a tA)(e:PW X (.BoolOp .Or (b::rest) pos) tB'):PW X (.BoolOp .Or (a::b::rest) pos) (tOr tA tB'):=by
 intro j O9 s σ H Q I h;refine isTrue_or (thn (ha O9 s σ H _ I h) λc i ⟨d,I1,q1⟩=>?_);cases c with
 |true=>exact⟨d,I1,q1⟩
 |false=>exact e j O9 i σ d Q I1 q1
theorem Qj8(ha:PT X a tA):PT X (.UnaryOp .Not a pos) (WJ tA):=by intro d s σ H Q I h;exact isTrue_not (ha d s σ H (λc H1=>Q (!c) H1) I h)
def HG(ta tb:TE):TE:=λσ H Q=>ta σ H λx H1=>∃c,x=.bl c/\if c=true then tb σ H1 Q else Q (.bl false) H1
def WI(ta tb:TE):TE:=λσ H Q=>ta σ H λx H1=>∃c,x=.bl c/\if c=true then Q (.bl true) H1 else tb σ H1 Q
def Hm(ta:TE):TE:=λσ H Q=>ta σ H λx H1=>∃c,x=.bl c/\Q (.bl (!c)) H1
def Mt{op}{t:TE}(h:PE X a t):PE X (.BoolOp op [a] pos) t:=λc s σ H Q I d=>BoolOp_one (h c s σ H Q I d)
theorem LK(ha:PE X a ta)(i:PE X (.BoolOp .And (b::rest) pos) tb):PE X (.BoolOp .And (a::b::rest) pos) (HG ta tb):=by
 intro e s σ H Q I h;refine BoolOp_and (thn (ha e s σ H _ I h) λv j ⟨x,H1,I1,r1,d⟩=>?_);obtain⟨c,rfl,d⟩:=d;cases r1;refine wpAny_truthy_bool ?_;cases c with
 |true=>exact i e j σ H1 Q I1 d
 |false=>exact⟨.bl false,H1,I1,rfl,d⟩
theorem Dg(ha:PE X a ta)(i:PE X (.BoolOp .Or (b::rest) pos) tb):PE X (.BoolOp .Or (a::b::rest) pos) (WI ta tb):=by
 intro e s σ H Q I h;refine BoolOp_or (thn (ha e s σ H _ I h) λv j ⟨x,H1,I1,r1,d⟩=>?_);obtain⟨c,rfl,d⟩:=d;cases r1;refine wpAny_truthy_bool ?_;cases c with
 |false=>exact i e j σ H1 Q I1 d
 |true=>exact⟨.bl true,H1,I1,rfl,d⟩
theorem Su(ha:PE X a ta):PE X (.UnaryOp .Not a pos) (Hm ta):=by intro e s σ H Q I h;refine UnaryOp_ (thn (ha e s σ H _ I h) λv i ⟨x,H1,I1,r1,d⟩=>?_);obtain⟨c,rfl,d⟩:=d;cases r1;exact not_of (wpAny_truthy_bool ⟨.bl (!c),H1,I1,rfl,d⟩)
def tIf(t:TT)(ta tb:TE):TE:=λσ H Q=>t σ H λc H1=>if c=true then ta σ H1 Q else tb σ H1 Q
theorem QfA{c:Expr}(n:PT X c tA)(ha:PE X a ta)(m:PE X b tb):PE X (.IfExp c a b pos) (tIf tA ta tb):=by
 intro e s σ H Q I h;refine wpAny_IfExp (thn (n e s σ H _ I h) λd j ⟨i,I1,q1⟩=>?_);cases d with
 |true=>exact ha e j σ i Q I1 q1
 |false=>exact m e j σ i Q I1 q1
end
def SqL(K:Ae)(H:Hp)(a:Addr)(xs:List V):Prop :=
 Rd H a (.lst xs) ∨
  ∃(o:Obj) (c:Array Value) (n:Nat),K.lookup a=some o/\o.cls=.type "list" /\ o.dict=none/\o.data=.seq c n/\c.size<=sizeLine/\Vals xs c.toList
def SqT(K:Ae)(H:Hp)(a:Addr)(xs:List V):Prop :=
 Rd H a (.tup xs) ∨
  ∃(o:Obj) (c:Array Value) (n:Nat),K.lookup a=some o/\o.cls=.type "tuple" /\ o.data=.seq c n/\c.size<=sizeLine/\Vals xs c.toList
def HR:Value->Option V
 |.none=>some .non
 |.bool b=>some (.bl b)
 |.int i _=>some (.int i)
 |.str x _=>some (.str x)
 |.bytes b _=>some (.byt b)
 |.float b _=>some (.flt b)
 |.ref a=>some (.ref a)
 |.type n=>some (.ty n)
 |_=>none
theorem RelV.abs{x:V}{u:Value}(r:RelV x u):HR u=some x:=by
 cases x with
 |non=>cases r;rfl
 |bl _=>cases r;rfl
 |int _=>obtain⟨t,rfl⟩:=r;rfl
 |str _=>obtain⟨t,rfl⟩:=r;rfl
 |byt _=>obtain⟨t,rfl⟩:=r;rfl
 |flt _=>obtain⟨t,rfl⟩:=r;rfl
 |ref _=>cases r;rfl
 |ty _=>cases r;rfl
def RelV.inj{x y:V}{u:Value}(r:RelV x u)(q:RelV y u):x=y:=An (r.abs.symm.trans q.abs)
theorem Vals.inj:∀{xs ys:List V}{us:List Value},Vals xs us->Vals ys us->xs=ys
 |_,_,_,.nil,.nil=>rfl
 |_,_,_,.cons r t,.cons a t'=>by rw[r.inj a,Vals.inj t t']
section
variable{X:Cx}{O9:Cn}{σ:St}{H:Hp}{s:Shared}{a:Addr}{xs ys:List V}
def SqL.of{K:Ae}(h:H a=some (.lst xs)):SqL K H a xs:=.inl (.inl h)
def SqT.of{K:Ae}(h:H a=some (.tup xs)):SqT K H a xs:=.inl (.inl h)
theorem Inv.list(I:Inv X O9 σ H s)(h:SqL X.K H a xs):∃c:List Value,Vals xs c/\PlainL s.heap a c.toArray/\xs.length<=sizeLine:=by
 rcases h with h|⟨o,c,n,i,d,hd,hs,hz,r⟩
 ·obtain⟨z,c,n,r,e⟩:=h.ok I.hok;exact⟨c,r,⟨_,n,e,rfl,rfl,rfl⟩,z⟩
 ·refine⟨c.toList,r,⟨o,n,I.kIn a o i,d,hd,by simpa using hs⟩,?_⟩;have e:=r.length;simp only[Array.length_toList]at e;lia
theorem Inv.tuple(I:Inv X O9 σ H s)(h:SqT X.K H a xs):∃c:List Value,Vals xs c/\IsTup s.heap a c.toArray/\xs.length<=sizeLine:=by
 rcases h with h|⟨o,c,n,i,d,hs,hz,r⟩
 ·obtain⟨z,c,r,p⟩:=h.ok I.hok;exact⟨c,r,p,z⟩
 ·refine⟨c.toList,r,⟨o,I.kIn a o i,d,n,by simpa using hs⟩,?_⟩;have e:=r.length;simp only[Array.length_toList]at e;lia
theorem Inv.list_inj(I:Inv X O9 σ H s)(h:SqL X.K H a xs)(h':SqL X.K H a ys):xs=ys:=by
 obtain⟨c,r,⟨o,n,e,_,_,d⟩,_⟩:=I.list h;obtain⟨its',j,⟨o',m,i,_,_,d'⟩,_⟩:=I.list h';rw[e]at i;cases i;rw[d]at d';injection d' with d1 _;have:c=its':=by simpa using congrArg Array.toList d1
 subst this;exact r.inj j
theorem Inv.tuple_inj(I:Inv X O9 σ H s)(h:SqT X.K H a xs)(h':SqT X.K H a ys):xs=ys:=by
 obtain⟨c,r,⟨o,e,_,n,d⟩,_⟩:=I.tuple h;obtain⟨its',j,⟨o',i,_,m,d'⟩,_⟩:=I.tuple h';rw[e]at i;cases i;rw[d]at d';injection d' with d1 _;have:c=its':=by simpa using congrArg Array.toList d1
 subst this;exact r.inj j
end
abbrev Cx.wish(X:Cx)(E:Cm):Cx:={ X with xe:=E }
abbrev Cx.nox(X:Cx):Cx:=X.wish λ_ _=>False
theorem Cx.Ok.wish{X:Cx}(ok:X.Ok)(E:Cm):(X.wish E).Ok :=
 ⟨ok.mod,ok.kind,ok.glob,ok.blt,ok.above,ok.inj,ok.has,ok.cab,ok.hd,ok.frames,ok.stk,ok.exf,ok.bs,ok.bsz,ok.noex,ok.exfs,ok.funs,ok.frf⟩
theorem Cx.Ok.unwish{X:Cx}{E:Cm}(ok:(X.wish E).Ok):X.Ok :=
 ⟨ok.mod,ok.kind,ok.glob,ok.blt,ok.above,ok.inj,ok.has,ok.cab,ok.hd,ok.frames,ok.stk,ok.exf,ok.bs,ok.bsz,ok.noex,ok.exfs,ok.funs,ok.frf⟩
section
variable{X:Cx}{O9:Cn}{σ:St}{H:Hp}{s:Shared}{E:Cm}
def Inv.wish(I:Inv X O9 σ H s)(E:Cm):Inv (X.wish E) O9 σ H s:=⟨I.ok.wish E,I.os,I.bare,I.O8,I.loc,I.cell,I.free,I.freeC,I.pin,I.hok,I.len⟩
def Inv.unwish(I:Inv (X.wish E) O9 σ H s):Inv X O9 σ H s:=⟨I.ok.unwish,I.os,I.bare,I.O8,I.loc,I.cell,I.free,I.freeC,I.pin,I.hok,I.len⟩
theorem SP.unwish{D:U2}{f:Flow}{s':Shared}(h:SP (X.wish E) O9 D f s'):SP X O9 D f s':=by
 cases f with
 |next=>obtain⟨σ',a,I,q⟩:=h;exact⟨σ',a,I.unwish,q⟩
 |brk=>obtain⟨σ',a,I,q⟩:=h;exact⟨σ',a,I.unwish,q⟩
 |cont=>obtain⟨σ',a,I,q⟩:=h;exact⟨σ',a,I.unwish,q⟩
 |ret u=>obtain⟨v,σ',a,I,r,q⟩:=h;exact⟨v,σ',a,I.unwish,r,q⟩
theorem PSs.nox{st:List Stmt}{t:TS}(h:PSs X.nox st t):PSs X st t:=λO9 s σ H D I a =>
 wpAny_mono (h O9 s σ H D (I.wish _) a) (λ_ _ q=>q.unwish) λ_ _ z=>False.elim z
end
section
variable{X:Cx}{st:Stmt}{rest:List Stmt}{t u:TS}{e:Expr}{te:TE}{pos:Pos}
def Hn:TS:=λD σ H=>D.nx σ H
def Hw(t u:TS):TS:=λD σ H=>t { D with nx:=u D } σ H
def pss_nil:PSs X [] Hn:=λ_ _ σ H _ I h=>wpAny_execs_nil ⟨σ,H,I,h⟩
theorem yZ(h1:PS X st t)(h2:PSs X rest u):PSs X (st::rest) (Hw t u):=by
  intro a s σ H D I h;refine wpAny_execs_cons (thn (h1 a s σ H { D with nx:=u D } I h) λf i q=>?_);cases f with
  |next=>obtain⟨σ',c,d,q⟩:=q;exact h2 a i σ' c D d q
  |ret v=>exact q
  |brk=>exact q
  |cont=>exact q
theorem Pa(h1:PS X st t):PSs X [st] t:=by
 intro a s σ H D I h;refine wpAny_execs_cons (thn (h1 a s σ H D I h) λf c q=>?_);cases f with
 |next=>exact wpAny_execs_nil q
 |ret v=>exact q
 |brk=>exact q
 |cont=>exact q
theorem Inv.quiet{a:Cn}{σ:St}{H:Hp}{s:Shared}(I:Inv X a σ H s):interactive X.env=false:=by simp[interactive,I.ok.kind]
def Lf(te:TE):TS:=λD σ H=>te σ H λ_ H1=>D.nx σ H1
theorem Pb(c:PE X e te)(hs:swapsWith e none pos.line X.env=pure false:=by rfl):PS X (.Expr e pos) (Lf te):=by intro a s σ H D I h;exact wpAny_Expr_any (thn (c a s σ H _ I h) λv d ⟨x,H1,I1,r1,q1⟩=>⟨σ,H1,I1,q1⟩) I.quiet hs
def WF(te:TE):TS:=λD σ H=>te σ H D.rt
theorem Mp(c:PE X e te):PS X (.Return (some e) pos) (WF te):=by intro a s σ H D I h;exact wpAny_Return_some (thn (c a s σ H _ I h) λv d ⟨x,H1,I1,r1,q1⟩=>⟨x,σ,H1,I1,r1,q1⟩)
def WO(c:TT)(t u:TS):TS:=λD σ H=>c σ H λb H1=>if b=true then t D σ H1 else u D σ H1
theorem Lk{c:Expr}{a b:List Stmt}{n:TT}(q:PT X c n)(ha:PSs X a t)(o:PSs X b u):PS X (.If c a b pos) (WO n t u):=by
 intro i s σ H D I h;refine wpAny_If (thn (q i s σ H _ I h) λd m ⟨j,I1,q1⟩=>?_);cases d with
 |true=>exact ha i m σ j D I1 q1
 |false=>exact o i m σ j D I1 q1
def BU:TS:=λ_ _ _=>False
def QfJ:PS X st BU:=λ_ _ _ _ _ _ h=>h.elim
end
abbrev TG:=V->St->Hp->(St->Hp->Prop)->Prop
abbrev TGs:=List V->St->Hp->(St->Hp->Prop)->Prop
def PG(X:Cx)(target:Expr)(t:TG):Prop :=
  ∀(O9 : List (Addr × Obj))(s : Shared)(σ : St)(H : Hp)(v : V)(u : Value)(Q : St -> Hp -> Prop), Inv X O9 σ H s -> RelV v u -> t v σ H Q ->
    wpAny (model X.prog X.w) X.A (assign target X.env u) (λ_ s'=>∃σ' H',Inv X O9 σ' H' s'/\Q σ' H') X.xe s
def PGs(X:Cx)(ts:List Expr)(t:TGs):Prop :=
  ∀(O9 : List (Addr × Obj))(s : Shared)(σ : St)(H : Hp)(vs : List V)(us : List Value)(Q : St -> Hp -> Prop), Inv X O9 σ H s -> Vals vs us -> t vs σ H Q ->
    wpAny (model X.prog X.w) X.A (assignInOrder ((assignEach ts X.env).map (·.2)) us) (λ_ s'=>∃σ' H',Inv X O9 σ' H' s'/\Q σ' H') X.xe s
abbrev sW:=V->V->V->Hp->(Hp->Prop)->Prop
def sX(X:Cx)(t:sW):Prop :=
  ∀(O9 : List (Addr × Obj))(s : Shared)(σ : St)(H : Hp)(o i v : V)(ov iv u : Value)(Q : Hp -> Prop), Inv X O9 σ H s -> RelV o ov -> RelV i iv -> RelV v u -> t o i v H Q ->
    wpAny (model X.prog X.w) X.A (setItem ov iv u) (λ_ s'=>∃a,Inv X O9 σ a s'/\Q a) X.xe s
abbrev TIp:=V->V->Hp->VK->Prop
def PIp(X:Cx)(c:Operator)(t:TIp):Prop :=
  ∀(a : List (Addr × Obj))(s : Shared)(σ : St)(H : Hp)(x y : V)(v u : Value)(Q : VK), Inv X a σ H s -> RelV x v -> RelV y u -> t x y H Q ->
    wpAny (model X.prog X.w) X.A (inplaceOp c v u) (EP X a σ Q) X.xe s
section
variable{X:Cx}{pos:Pos}
def tH(i:Nat):TG:=λv σ H Q=>Q (σ.set i (some v)) H
theorem UR{i:Nat}{x:Str}(c:X.N.Nodup)(hi:X.N[i]?=some x)(hx:Loc X.env.scope x)(hf:X.fn x=true∨X.env.scope.names.lookup x=some .local:=by first|exact .inl rfl|exact .inr rfl|assumption):PG X (.Name x pos) (tH i):=by intro d s σ H v u Q I r h;exact wpAny_assign_Name (Vn I c hi hx r (λs' a=>⟨_,H,a,h⟩) hf)
def WC:TGs:=λvs σ H Q=>vs=[]/\Q σ H
def DJ(t:TG)(u:TGs):TGs:=λvs σ H Q=>∃v r,vs=v::r/\t v σ H λσ' H'=>u r σ' H' Q
theorem QhA:PGs X [] WC:=by intro a s σ H vs us Q I r h;obtain⟨e,h⟩:=h;subst e;cases r;exact assignInOrder_nil ⟨σ,H,I,h⟩
theorem QfH{e:Expr}{es:List Expr}{t:TG}{u:TGs}(h1:PG X e t)(h2:PGs X es u)
    (hs:(assignEach (e::es) X.env).map (·.2)=assign e X.env::(assignEach es X.env).map (·.2):=by rfl):PGs X (e::es) (DJ t u):=by
  intro a s σ H vs us Q I r h;obtain⟨v,j,c,h⟩:=h;subst c;cases r with
  |cons r d=>rw[hs];refine assignInOrder_cons (thn (h1 a s σ H _ _ _ I r h) λ_ i ⟨σ1,H1,I1,q1⟩=>?_);exact h2 a i σ1 H1 _ _ Q I1 d q1
def WA(K:Ae)(n:Nat)(t:TGs):TG:=λv σ H Q=>∃a xs,v=.ref a/\SqT K H a xs/\xs.length=n/\t xs σ H Q
theorem Qj0{es:List Expr}{k:Nat}{t:TGs}{n:Nat}(q:X.calm=true)(h:PGs X es t)
  (hn:(assignEach es X.env).length=n:=by rfl) (hst:(assignEach es X.env).findIdx? (·.1)=none:=by rfl):PG X (.Tuple es k pos) (WA X.K n t):=by
 intro d s σ H v u Q I r c;obtain⟨a,xs,m,y,x,c⟩:=c;subst m;cases r;obtain⟨C,i,z,hz⟩:=I.tuple y;refine assign_Tuple_tuple (I.ok.hd q) z (by simp[hn,<- x,i.length]) hst λh' hx=>?_;have j:Inv X d σ H { s with heap:=h' }:=I.kept (t':=s.toks) λb o e=>hx b o (Bi (Ar e)) e;exact h d _ σ H xs _ Q j (by simpa using i) c
def WB(to c:TE)(t:sW):TG:=λv σ H Q=>to σ H λo H1=>c σ H1 λi H2=>t o i v H2 λa=>Q σ a
theorem Sr{o i:Expr}{to e:TE}{t:sW}(m:PE X o to)(hi:PE X i e)(hs:sX X t)
  (ha:∀v,assign (.Subscript o i pos) X.env v=(do
   let a <- holding [v] (eval o X.env)
   let c <- holding [v,a] (eval i X.env)
   standAt pos
   holding [v,a,c] (setItem a c v)
   release [v,a,c] []):=by intro _;rfl):PG X (.Subscript o i pos) (WB to e t):=by
 intro d s σ H v u Q I r h;rw[ha];refine Cd (wpAny_holding (thn (m d s σ H _ I h) λa n ⟨x,H1,I1,r1,q1⟩=>?_));refine Cd (wpAny_holding (thn (hi d n σ H1 _ I1 q1) λc q ⟨y,H2,I2,r2,q2⟩=>?_));refine Cd (wpAny_standAt (Cd (wpAny_holding (thn (hs d q σ H2 x y v a c u _ I2 r1 r2 r q2) λ_ z ⟨j,I3,q3⟩=>?_))));exact wpAny_release ⟨σ,j,I3,q3⟩
def sV(te:TE)(g:TG):TS:=λD σ H=>te σ H λx H1=>g x σ H1 D.nx
theorem Qj3{a e:Expr}{te:TE}{g:TG}(d:PE X e te)(i:PG X a g)(hs:swapsWithSole [a] e pos.line X.env=pure false:=by rfl)(j:swappedStores [a] e X.env=pure none:=by rfl)
  (h1:(assignEach [a] X.env).map (·.2)=[assign a X.env]:=by rfl):PS X (.Assign [a] e pos) (sV te g):=by
 intro c s σ H D I h;refine wpAny_Assign_stores (thn (d c s σ H _ I h) λv m ⟨x,H1,I1,r1,q1⟩=>?_) hs j;rw[h1];exact thn (i c m σ H1 x v _ I1 r1 q1) λ_ n q=>q
theorem K4{i:Nat}{x:Str}{e:Expr}{te:TE}{a:Pos}(j:X.N.Nodup)(hi:X.N[i]?=some x)(hx:Loc X.env.scope x)(m:PE X e te)(hs:swapsWith e (some (.Name x a)) pos.line X.env=pure false:=by rfl)(hf:X.fn x=true∨X.env.scope.names.lookup x=some .local:=by first|exact .inl rfl|exact .inr rfl|assumption) :
  PS X (.Assign [.Name x a] e pos) (sV te (tH i)):=by
 intro d s σ H D I h;refine wpAny_Assign_Name (thn (m d s σ H _ I h) λv n ⟨y,H1,I1,r1,q1⟩=>?_) hs;exact Vn I1 j hi hx r1 (λo c=>⟨_,H1,c,q1⟩) hf
def Hy(i:Nat)(te:TE)(a:TIp):TS:=λD σ H=>∃x,σ[i]?=some (some x)/\te σ H λy H1=>a x y H1 λz H2=>D.nx (σ.set i (some z)) H2
theorem Qj4{i:Nat}{x:Str}{e:Expr}{te:TE}{o:Operator}{C:TIp}{j:Pos}(G:X.N.Nodup)(hi:X.N[i]?=some x)(hx:Loc X.env.scope x)(L:PE X e te)(P:PIp X o C)(hf:X.fn x=true∨X.env.scope.names.lookup x=some .local:=by first|exact .inl rfl|exact .inr rfl|assumption) :
  PS X (.AugAssign (.Name x j) o e pos) (Hy i te C):=by
 intro n s σ H D I h;obtain⟨v,F,h⟩:=h;obtain⟨m,hn,O⟩:=I.loc;have q:Vis X.env.scope x:=by rcases hx with k|k;exact .inl k;exact .inr (.inl k)
 obtain⟨u,r,l⟩:=O i x v hi F q;refine wpAny_AugAssign_Name ?_;have go:wpAny (model X.prog X.w) X.A (eval e X.env) (λw s₂=>wpAny (model X.prog X.w) X.A (inplaceOp o u w) (λr s₃=>wpAny (model X.prog X.w) X.A (storeName X.env x r) (λ_=>SP X n D .next) X.xe s₃) X.xe s₂) X.xe s:=by refine thn (L n s σ H _ I h) λw Q ⟨y,H1,I1,r1,q1⟩=>?_;refine thn (P n Q σ H1 v y u w _ I1 r r1 q1) λz R ⟨T,H2,I2,r2,q2⟩=>?_;exact Vn I2 G hi hx r2 (λS E=>⟨_,H2,E,q2⟩) hf
 rcases l with ⟨a,hm⟩|⟨a,c,J,d⟩
 ·exact wpAny_loadName_local I.ok.kind a hn hm go
 ·rcases a with a|a
  ·exact wpAny_loadName_cell I.ok.kind a J d go
  ·rcases hx with k|k
   ·have:X.env.scope.names.lookup x=some .free:=a;rw[k]at this;cases this
   ·have:X.env.scope.names.lookup x=some .free:=a;rw[k]at this;cases this
def ipI(f:Int->Int->Int):TIp:=λx y H Q=>∃i j,x=.int i/\y=.int j/\Q (.int (f i j)) H
theorem Sj:PIp X .Add (ipI λi j=>i+j):=by intro d s σ H x y v u Q I r1 r2 h;obtain⟨i,j,a,c,q⟩:=h;subst a;subst c;obtain⟨t,rfl⟩:=r1;obtain⟨t',rfl⟩:=r2;exact iadd_int ⟨.int _,H,I.tok _,⟨_,rfl⟩,q⟩
end
section
variable{X:Cx}{pos:Pos}
def BT(c:TT)(tb:TS):TS:=λD σ H=>∃W:Nat->St->Hp->Prop,(∃m,W m σ H)/\∀m σ H,W m σ H ->
 c σ H λb H1=>if b=true then ∃N:St->Hp->Prop,(∀σ' H',N σ' H'->∃a,a<m/\W a σ' H')/\tb { D with nx:=N,ct:=N,bk:=D.nx } σ H1 else D.nx σ H1
theorem QfM{c:Expr}{a:List Stmt}{z:TT}{tb:TS}(hp:PassesOwn (model X.prog X.w) X.A X.env X.xe)(E:PT X c z)(C:PSs X a tb):PS X (.While c a [] pos) (BT z tb):=by
  intro o s σ H D I h;obtain⟨W,⟨F,L⟩,e⟩:=h;refine wpAny_While (codeAny_whileLoop (λn s'=>∃σ' H',Inv X o σ' H' s'/\W n σ' H') ?_ F ⟨σ,H,I,L⟩);rintro n G ⟨σ1,H1,I1,w1⟩;refine wpAny_passesOwn hp (thn (E o G σ1 H1 _ I1 (e n σ1 H1 w1)) λb J ⟨x,I2,i⟩=>?_);cases b with
  |true =>
    obtain⟨N,y,i⟩:=i;rw[Cf rfl];refine wpAny_passesOwn hp (thn (C o J σ1 x _ I2 i) λf O j=>?_);cases f with
    |next=>obtain⟨σ3,d,m,r⟩:=j;obtain⟨q,hm,u⟩:=y σ3 d r;exact⟨q,hm,σ3,d,m,u⟩
    |cont=>obtain⟨σ3,d,m,r⟩:=j;obtain⟨q,hm,u⟩:=y σ3 d r;exact⟨q,hm,σ3,d,m,u⟩
    |brk=>exact j
    |ret v=>exact j
  |false=>rw[Ce Br];exact wpAny_execs_nil ⟨σ1,x,I2,i⟩
end
structure It where
 go:Nat->Hp->Prop
 yld:Nat->Hp->V->Hp->Prop
 stop:Nat->Hp->Prop
def Vq(X:Cx)(a:Cn)(H:Hp)(b:Addr):Prop :=
 H b=none/\b≠X.env.locals/\b∉X.fs/\(b∈X.ex∨X.s₀.heap.objs.size<=b)/\(∀x c,X.env.cells.lookup x=some c->c≠b)/\∀p∈X.pn++a,p.1≠b
theorem Inv.fpOk{X:Cx}{d:Cn}{σ:St}{H H':Hp}{s:Shared}{b:Addr}(I:Inv X d σ H s)(a:s.heap.objs.size<=b)(hn:H' b=none):Vq X d H' b:=by
 refine⟨hn,Cc (Az I.lt a),I.nofs a,.inr (Bj I.sz a),λx c e z=>?_,λp hp z=>?_⟩
 ·obtain⟨v,q⟩:=I.cell x c e;exact absurd (Az q.lt (by rw[z];exact a)) (B0 _)
 ·exact absurd (Az (Ar (I.pin p hp).1) (by rw[z];exact a)) (B0 _)
structure m7(P:Program)(w:World)(K:Ae)(tg:Expr)(J:It)(fp:Cr)(it:Addr)(tn:Nat->Heap->Prop):Prop where
 mem:it∈fp
 obj:∀i h,tn i h->∀b∈fp,∃o,h.get? b=some o/\∀v,o.data≠.cell v
 keep:∀i h h',tn i h->(∀b∈fp,∀o,h.get? b=some o->h'.get? b=some o)->tn i h'
 item:∀(X:Cx),X.prog=P->X.w=w->X.K=K->X.calm=true->∀(i:Nat)(O9:Cn)(s:Shared)(σ:St)(H:Hp)(E:Cm),Inv X O9 σ H s->(∀b∈fp,Vq X O9 H b)->tn i s.heap->J.go i H ->
  wpAny (model P w) X.A (pyNext (.ref it)) (λr s1=>∃u,r=some u /\
   wpAny (model P w) X.A (letOwnedTupleGo tg (.ref it) u) (λ_ s2=>∃x H',Inv X O9 σ H' s2/\RelV x u/\J.yld i H x H'/\tn (i+1) s2.heap/\∀b∈fp,H' b=none) E s1) E s
 done:∀(X:Cx),X.prog=P->X.w=w->X.K=K->X.calm=true->∀(i:Nat)(O9:Cn)(s:Shared)(σ:St)(H:Hp)(E:Cm),Inv X O9 σ H s->(∀b∈fp,Vq X O9 H b)->tn i s.heap->J.stop i H ->
  wpAny (model P w) X.A (pyNext (.ref it)) (λr s1=>r=none/\Inv X O9 σ H s1) E s
 self:∀(A:Around)(i:Nat)(s:Shared)(Q:Cm)(E:Cm),tn i s.heap->Q (.ref it) s->wpAny (model P w) A (pyIter (.ref it)) Q E s
abbrev TI:=St->Hp->(It->Hp->Prop)->Prop
def PIE(X:Cx)(c:Cn)(σ:St)(e:Expr)(R:It->Hp->Prop)(a:Value)(d:Shared):Prop :=
 ∃(it:Addr)(fp:Cr)(tn:Nat->Heap->Prop)(J:It)(H':Hp),a=.ref it/\Inv X c σ H' d/\m7 X.prog X.w X.K e J fp it tn/\tn 0 d.heap/\(∀b∈fp,Vq X c H' b)/\R J H'
def PI(X:Cx)(d a:Expr)(wi:TI):Prop :=
  ∀(O9 : List (Addr × Obj))(s : Shared)(σ : St)(H : Hp)(R : It -> Hp -> Prop), Inv X O9 σ H s -> wi σ H R ->
    wpAny (model X.prog X.w) X.A (eval a X.env) (λv c=>wpAny (model X.prog X.w) X.A (pyIter v) (PIE X O9 σ d R) X.xe c) X.xe s
theorem pX{M:Model}{A:Around}{E:Cm}{s:Shared}{c:Expr}{a:Addr}{u:Value}{o:Obj}{n:String}{vs:Array Value}{Q:Unit->Shared->Prop}(e:s.heap.get? a=some o)(d:o.cls=.type n)(hd:o.data=.fields vs)
    (hn:["enumerate", "zip", "dict_itemiterator", "dict_reverseitemiterator", "odict_iterator", "itertools.zip_longest", "itertools.pairwise"].contains n=false) (hQ:Q () s):wpAny M A (letOwnedTupleGo c (.ref a) u) Q E s:=by
  unfold letOwnedTupleGo;cases c<;>first
    |exact Cg hQ
    | (cases u<;>first
        |exact Cg hQ
        | (refine Cd (wpAny_load e ?_)
           rw[d,hd];show wpAny M A (if (["enumerate", "zip", "dict_itemiterator", "dict_reverseitemiterator", "odict_iterator", "itertools.zip_longest", "itertools.pairwise"].contains n&&vs[0]?==some (rawInt _))=true then _ else _) Q E s;rw[Ce (by intro h;rw[hn,Bool.false_and]at h;cases h)];exact Cg hQ))
def Itl(K:Ae)(a:Addr):It :=
 ⟨λi H=>∃xs x,SqL K H a xs/\xs[i]?=some x,λi H x H'=>H'=H/\∀xs,SqL K H a xs->xs[i]?=some x,λi H=>∃xs,SqL K H a xs/\xs.length<=i⟩
def Itt(K:Ae)(a:Addr):It :=
 ⟨λi H=>∃xs x,SqT K H a xs/\xs[i]?=some x,λi H x H'=>H'=H/\∀xs,SqT K H a xs->xs[i]?=some x,λi H=>∃xs,SqT K H a xs/\xs.length<=i⟩
def Itr(lo:Int)(n:Nat):It:=⟨λi _=>i<n,λi H x H'=>H'=H/\x=.int (lo+i),λi _=>n<=i⟩
theorem Qd7{P:Program}{w:World}{K:Ae}{tg:Expr}(a m:Addr):m7 P w K tg (Itl K a) [m] m (λi h=>h.IsListIter m a i) where
 mem:=by simp
 obj:=λi h st b j=>by
  have e:b=m:=by simpa using j
  subst e;obtain⟨o,e,c,d⟩:=st;exact⟨o,e,λv z=>by rw[d]at z;cases z⟩
 keep:=λi h h' st k=>st.at λo e=>k m (by simp) o e
 item:=by intro X L O J S i O9 s σ H E I hf st hg;subst L O J;obtain⟨xs,x,q,hx⟩:=hg;obtain⟨Q,R,p,hz⟩:=I.list q;obtain⟨u,Z,ru⟩:=R.get hx;obtain⟨r,y,Y,C,F,G⟩:=hf m (by simp);refine wpAny_pyNext_list_item st p.isList (x:=u) (by simpa using Z) λh' n sb=>?_;have T:Inv X O9 σ H { s with heap:=h' }:=I.turned (t':=s.toks) (λb o j e=>(sb.2 b j).trans e) r y C F G;obtain⟨o,e,c,d⟩:=id n;exact⟨u,rfl,pX (s:={ s with heap:=h' }) e c d (by decide) ⟨x,H,T,ru,⟨rfl,λys hy=>by rw[I.list_inj hy q];exact hx⟩,n,λb j=>(hf b j).1⟩⟩
 done:=by intro X L O J S i O9 s σ H E I hf st hg;subst L O J;obtain⟨xs,q,hx⟩:=hg;obtain⟨Q,R,p,hz⟩:=I.list q;obtain⟨r,y,Y,C,F,G⟩:=hf m (by simp);have hl:=R.length;exact wpAny_pyNext_list_end (I.ok.hd S) st p.isList (by simp;lia) λh' U=>⟨rfl,I.turned (t':=s.toks) (λb o j e=>U b o j e) r y C F G⟩
 self:=λ_ _ _ _ _ st h=>wpAny_pyIter_listiter st h
theorem QbZ{P:Program}{w:World}{K:Ae}{tg:Expr}(a m:Addr):m7 P w K tg (Itt K a) [m] m (λi h=>h.IsTupleIter m a i) where
 mem:=by simp
 obj:=λi h st b j=>by
  have e:b=m:=by simpa using j
  subst e;obtain⟨o,e,c,d⟩:=st;exact⟨o,e,λv z=>by rw[d]at z;cases z⟩
 keep:=λi h h' st k=>st.at λo e=>k m (by simp) o e
 item:=by intro X O Q L S i O9 s σ H E I hf st hg;subst O Q L;obtain⟨xs,x,r,hx⟩:=hg;obtain⟨n,R,p,hz⟩:=I.tuple r;obtain⟨u,Z,ru⟩:=R.get hx;obtain⟨y,C,Y,F,G,J⟩:=hf m (by simp);refine wpAny_pyNext_tuple_item st (show s.heap.IsTuple a n.toArray from p) (x:=u) (by simpa using Z) λh' q sb=>?_;have T:Inv X O9 σ H { s with heap:=h' }:=I.turned (t':=s.toks) (λb o j e=>(sb.2 b j).trans e) y C F G J;obtain⟨o,e,c,d⟩:=id q;exact⟨u,rfl,pX (s:={ s with heap:=h' }) e c d (by decide) ⟨x,H,T,ru,⟨rfl,λys hy=>by rw[I.tuple_inj hy r];exact hx⟩,q,λb j=>(hf b j).1⟩⟩
 done:=by intro X O Q L S i O9 s σ H E I hf st hg;subst O Q L;obtain⟨xs,r,hx⟩:=hg;obtain⟨n,R,p,hz⟩:=I.tuple r;obtain⟨y,C,Y,F,G,J⟩:=hf m (by simp);have hl:=R.length;exact wpAny_pyNext_tuple_end (I.ok.hd S) st (show s.heap.IsTuple a n.toArray from p) (by simp;lia) λh' U=>⟨rfl,I.turned (t':=s.toks) (λb o j e=>U b o j e) y C F G J⟩
 self:=λ_ _ _ _ _ st h=>wpAny_pyIter_tupleiter st h
theorem QbY{P:Program}{w:World}{K:Ae}{R:Expr}(a:Addr)(lo:Int)(n:Nat):m7 P w K R (Itr lo n) [a] a (λi h=>IsRangeIter h a (lo+(i:Nat) * 1) ((n:Int)-(i:Nat)) 1) where
 mem:=by simp
 obj:=λi h st b c=>by
  have e:b=a:=by simpa using c
  subst e;exact⟨_,st,λv z=>by have S:Data.fields _=Data.cell v:=z;cases S⟩
 keep:=λi h h' st k=>k a (by simp) _ st
 item:=by intro X y F x C i O9 s σ H E I hf st hg;subst y F x;obtain⟨j,m,L,q,r,u⟩:=hf a (by simp);have W:=Walks.range (prog:=X.prog) (w:=X.w) (I.ok.hd C) a lo 1 n;refine W.item i s _ _ hg st λv h' tk O d Q=>?_;obtain⟨t,rfl⟩:=O;have G:Inv X O9 σ H { s with heap:=h',toks:=tk }:=I.turned (λb o c e=>Q b o (by simpa using c) e) j m q r u;refine⟨_,rfl,pX (s:={ s with heap:=h',toks:=tk }) (n := "range_iterator") d rfl rfl (by decide) ⟨.int (lo+i),H,G,⟨t,?_⟩,⟨rfl,rfl⟩,d,λb c=>(hf b c).1⟩⟩;rw[Int.mul_one]
 done:=by intro X y F x C i O9 s σ H E I hf st hg;subst y F x;obtain⟨j,m,L,q,r,u⟩:=hf a (by simp);exact wpAny_pyNext_range_end (I.ok.hd C) st (by have:n<=i:=hg;lia) λh' J=>⟨rfl,I.turned (t':=s.toks) (λb o c e=>J b o c e) j m q r u⟩
 self:=λ_ _ _ _ _ st h=>wpAny_pyIter_rangeiter st h
section
variable{X:Cx}{tg:Expr}
def Ir(K:Ae)(c:TE):TI:=λσ H R=>c σ H λx H1=>∃a,x=.ref a/\(∃xs,SqL K H1 a xs)/\R (Itl K a) H1
def y_(K:Ae)(c:TE):TI:=λσ H R=>c σ H λx H1=>∃a,x=.ref a/\(∃xs,SqT K H1 a xs)/\R (Itt K a) H1
theorem gO{l:Expr}{d:TE}(m:PE X l d):PI X tg l (Ir X.K d):=by
 intro i s σ H R I h;refine thn (m i s σ H _ I h) λv c ⟨x,H1,I1,r1,q1⟩=>?_;obtain⟨a,e,⟨xs,n⟩,q⟩:=q1;subst e;cases r1;obtain⟨r,u,p,hz⟩:=I1.list n;refine wpAny_pyIter_list p.isList ?_;refine⟨c.heap.objs.size,[c.heap.objs.size],_,_,H1,rfl,I1.kept (t':=c.toks) λb o e=>Ah _ e,Qd7 a _,⟨_,Aw _ rfl,rfl,rfl⟩,λb j=>?_,q⟩;have e:b=c.heap.objs.size:=by simpa using j
 subst e;exact I1.fpOk (Ai _) (I1.hok.fresh (Ai _))
theorem Qj2{l:Expr}{i:TE}(n:PE X l i):PI X tg l (y_ X.K i):=by
 intro j s σ H R I h;refine thn (n j s σ H _ I h) λv c ⟨x,H1,I1,r1,q1⟩=>?_;obtain⟨a,e,⟨xs,r⟩,q⟩:=q1;subst e;cases r1;obtain⟨d,u,p,hz⟩:=I1.tuple r;refine wpAny_pyIter_tuple (show c.heap.IsTuple a d.toArray from p) ?_;refine⟨c.heap.objs.size,[c.heap.objs.size],_,_,H1,rfl,I1.kept (t':=c.toks) λb o e=>Ah _ e,QbZ a _,⟨_,Aw _ rfl,rfl,rfl⟩,λb m=>?_,q⟩;have e:b=c.heap.objs.size:=by simpa using m
 subst e;exact I1.fpOk (Ai _) (I1.hok.fresh (Ai _))
theorem QfS{c:Cn}{σ:St}{H:Hp}{s:Shared}{R:It->Hp->Prop}{E:Cm}{lo hi:Int}{t u v:Tok}{tk:Nat}(I:Inv X c σ H s)(h1:-(2 ^ 62)<=lo)(h2:lo<2 ^ 62)(h3:-(2 ^ 62)<=hi)(h4:hi<2 ^ 62)
  (q:R (Itr lo (hi-lo).toNat) H):wpAny (model X.prog X.w) X.A (pyIter (.ref s.heap.objs.size)) (PIE X c σ tg R) E { s with heap:=s.heap.push { cls:=.type "range", data:=.fields #[.int lo t,.int hi u,.int 1 v] },toks:=tk }:=by
 refine wpAny_pyIter_range (IsRange.new ..) (small_one h1 h2 h3 h4) ?_;have a:Inv X c σ H { s with heap:=s.heap.push { cls:=.type "range", data:=.fields #[.int lo t,.int hi u,.int 1 v] },toks:=tk }:=I.kept λb o e=>Ah _ e;refine⟨(s.heap.push { cls:=.type "range", data:=.fields #[.int lo t,.int hi u,.int 1 v] }).objs.size,[(s.heap.push { cls:=.type "range", data:=.fields #[.int lo t,.int hi u,.int 1 v] }).objs.size],_,_,H,rfl,
  a.kept (t':=tk) λb o e=>Ah _ e,QbY _ lo (hi-lo).toNat,?_,λb j=>?_,q⟩
 ·have d:lo+((0:Nat):Int) * 1=lo:=by simp
  have i:(((hi-lo).toNat:Nat):Int)-((0:Nat):Int)=Builtin.Range.rangeSize lo hi 1:=by rw[rangeSize_one];split<;>lia
  show IsRangeIter _ _ (lo+((0:Nat):Int) * 1) ((((hi-lo).toNat:Nat):Int)-((0:Nat):Int)) 1;rw[d,i];exact Aw _ rfl
 ·have e:b=(s.heap.push { cls:=.type "range", data:=.fields #[.int lo t,.int hi u,.int 1 v] }).objs.size:=by simpa using j
  subst e;exact a.fpOk (Ai _) (a.hok.fresh (Ai _))
def DH(a:TA):TI:=λσ H R=>a σ H λvs H1=>∃j:Int,vs=[.int j] /\ -(2 ^ 62)<=j/\j<2 ^ 62/\R (Itr 0 j.toNat) H1
theorem QdL{a:Expr}{i:TA}{p c:Pos}(n:Gl X "range")(hm:X.mg "range" = none)(ha:PA X [a] i)(hs:starEach [a] X.env=[(false,eval a X.env)]:=by rfl):PI X tg (.Call (.Name "range" p) [a] [] c) (DH i):=by
  intro m s σ H R I h;refine Call_ (qH I n hm boot_range (PyProof.Rows.callWith_type1 (thn (ha c m s σ H _ I h) λus v ⟨vs,H1,I1,r1,d⟩=>?_) hs rfl));obtain⟨j,e,d,o,q⟩:=d;subst e;cases r1 with
  |cons r u=>cases u;obtain⟨t,rfl⟩:=r;exact call_range_1 (QfS I1 ⋯ ⋯ d o (by simpa using q))
def WP(wi:TI)(g:TG)(tb:TS):TS:=λD σ H=>wi σ H λJ H1=>∃W:Nat->Nat->St->Hp->Prop,(∃m,W 0 m σ H1)/\∀i m σ H,W i m σ H ->
 (J.stop i H/\D.nx σ H)∨(J.go i H/\∃N:St->Hp->Prop,(∀σ' H',N σ' H'->∃a,a<m/\W (i+1) a σ' H')/\∀x H',J.yld i H x H'->g x σ H' λσ2 H2=>tb { D with nx:=N,ct:=N,bk:=D.nx } σ2 H2)
def VI(a:Cr)(h:Heap):List (Addr×Obj):=a.filterMap λb=>(h.get? b).map λo=>(b,o)
theorem X9{a:Cr}{h:Heap}{b:Addr}{o:Obj}(c:b∈a)(e:h.get? b=some o):(b,o)∈VI a h:=List.mem_filterMap.mpr ⟨b,c,by rw[e];rfl⟩
theorem QdF{a:Cr}{h:Heap}{p:Addr×Obj}(hp:p∈VI a h):p.1∈a/\h.get? p.1=some p.2:=by
  obtain⟨b,d,e⟩:=List.mem_filterMap.mp hp;cases q:h.get? b with
  |none=>rw[q]at e;cases e
  |some o=>rw[q]at e;have c:(b,o)=p:=An e;subst c;exact⟨d,q⟩
theorem Inv.pinned{a:Cn}{σ:St}{H:Hp}{s:Shared}{c:Cr}(I:Inv X a σ H s)(hf:∀b∈c,Vq X a H b)(r:∀b∈c,∃o,s.heap.get? b=some o/\∀v,o.data≠.cell v):Inv X (a++VI c s.heap) σ H s :=
 I.pins_of λp hp=>(Ak.mp hp).elim (λz=>I.pin p (Am _ z)) λz=>by obtain⟨j,e⟩:=QdF z;obtain⟨m,n,q,_⟩:=hf p.1 j;obtain⟨o,i,d⟩:=r p.1 j;rw[e]at i;cases i;exact⟨e,m,n,q,d⟩
def Inv.unpinned{a pl:Cn}{σ:St}{H:Hp}{s:Shared}(I:Inv X (a++pl) σ H s):Inv X a σ H s:=I.pins_of λp hp=>I.pin p (Am _ (List.mem_append_left _ hp))
theorem Qj6{q:Expr}{C:List Stmt}{wi:TI}{g:TG}{tb:TS}{R:Pos}(hp:PassesOwn (model X.prog X.w) X.A X.env X.xe)(Z:X.calm=true)(hi:PI X tg q wi)(hg:PG X tg g)(j:PSs X C tb)
  (hs:∀x,foldedSetIterable q X.env x=pure x:=by intro _;rfl):PS X (.For tg q C [] R) (WP wi g tb):=by
 intro F s σ H D I h;refine wpAny_For (thn (hi F s σ H _ I h) λv s1 h1=>thn h1 λa6 s2 h2=>?_) hs;obtain⟨it,G,tn,J,H2,e,I2,T,U,Y,W,⟨m0,w0⟩,O⟩:=h2;subst e;have y:∀{z:Hp},(∀b∈G,z b=none)->∀b∈G,Vq X F z b:=λhn b j=>⟨hn b j,(Y b j).2⟩;refine codeAny_forLoop_any (λn s'=>∃i σ' z,Inv X F σ' z s'/\tn i s'.heap/\(∀b∈G,z b=none)/\W i n σ' z) ?_ m0 ⟨0,σ,H2,I2,U,λb j=>(Y b j).1,w0⟩;rintro n s3 ⟨i,σ3,H3,I3,st3,fr3,w3⟩;rcases O i n σ3 H3 w3 with ⟨stop,qn⟩|⟨go,N,hN,step⟩
 ·refine wpAny_passesOwn hp (thn (T.done X rfl rfl rfl Z i F s3 σ3 H3 X.xe I3 (y fr3) st3 stop) λr s4 ⟨Q,I4⟩=>?_);subst Q;exact wpAny_execs_nil ⟨σ3,H3,I4,qn⟩
 ·refine wpAny_passesOwn hp (thn (T.item X rfl rfl rfl Z i F s3 σ3 H3 X.xe I3 (y fr3) st3 go) λr s4 ⟨u,Q,h4⟩=>?_);subst Q;refine wpAny_passesOwn hp (thn h4 λ_ s5 ⟨x,H5,I5,r5,y5,st5,fr5⟩=>?_);have P:=I5.pinned (y fr5) (T.obj _ _ st5);refine wpAny_passesOwn hp (thn (hg _ s5 σ3 H5 x u _ P r5 (step x H5 y5)) λ_ s6 ⟨σ6,H6,I6,q6⟩=>?_);refine wpAny_passesOwn hp (thn (j _ s6 σ6 H6 _ I6 q6) λf S E=>?_);have again:∀{σ7:St}{a:Hp},Inv X (F++VI G s5.heap) σ7 a S->N σ7 a->∃m,m<n/\∃i σ' z,Inv X F σ' z S/\tn i S.heap/\(∀b∈G,z b=none)/\W i m σ' z:=λ{σ7 a} c L=>by obtain⟨m',hm,w7⟩:=hN σ7 a L;refine⟨m',hm,i+1,σ7,a,c.unpinned,T.keep _ _ _ st5 λb j o e=>(c.pin (b,o) (Am _ (Am _ (X9 j e)))).1,λb j=>?_,w7⟩;obtain⟨o,e,d⟩:=T.obj _ _ st5 b j;exact(c.pin (b,o) (Am _ (Am _ (X9 j e)))).2.1
  cases f with
  |next=>obtain⟨σ7,a,c,L⟩:=E;exact again c L
  |cont=>obtain⟨σ7,a,c,L⟩:=E;exact again c L
  |brk=>obtain⟨σ7,a,c,E⟩:=E;exact⟨σ7,a,c.unpinned,E⟩
  |ret v=>obtain⟨x7,σ7,a,c,r7,E⟩:=E;exact⟨x7,σ7,a,c.unpinned,r7,E⟩
end
abbrev R2:=V->V->Hp->VK->Prop
def OpR(X:Cx)(f:Value->Value->Sem Value)(r:R2):Prop :=
  ∀(a : List (Addr × Obj))(s : Shared)(σ : St)(H : Hp)(x y : V)(v u : Value)(Q : VK), Inv X a σ H s -> RelV x v -> RelV y u -> r x y H Q ->
    wpAny (model X.prog X.w) X.A (f v u) (EP X a σ Q) X.xe s
def UnR(X:Cx)(f:Value->Sem Value)(r:V->Hp->VK->Prop):Prop :=
  ∀(a : List (Addr × Obj))(s : Shared)(σ : St)(H : Hp)(x : V)(v : Value)(Q : VK), Inv X a σ H s -> RelV x v -> r x H Q ->
    wpAny (model X.prog X.w) X.A (f v) (EP X a σ Q) X.xe s
def CallR(X:Cx)(f:Value)(r:List V->Hp->VK->Prop):Prop :=
  ∀(a : List (Addr × Obj))(s : Shared)(σ : St)(H : Hp)(xs : List V)(us : List Value)(Q : VK), Inv X a σ H s -> Vals xs us -> r xs H Q ->
    wpAny (model X.prog X.w) X.A (call f us) (EP X a σ Q) X.xe s
def HU(X:Cx)(r:V->Hp->(Bool->Hp->Prop)->Prop):Prop :=
  ∀(O9 : List (Addr × Obj))(s : Shared)(σ : St)(H : Hp)(x : V)(v : Value)(Q : Bool -> Hp -> Prop), Inv X O9 σ H s -> RelV x v -> r x H Q ->
    wpAny (model X.prog X.w) X.A (truthy v) (TP X O9 σ Q) X.xe s
def tOp(r:R2)(a tb:TE):TE:=λσ H Q=>a σ H λx H1=>tb σ H1 λy H2=>r x y H2 Q
def tUn(r:V->Hp->VK->Prop)(a:TE):TE:=λσ H Q=>a σ H λx H1=>r x H1 Q
def rI(C:Int->Int->Prop)(g:Int->Int->V):R2:=λx y H Q=>∃i j,x=.int i/\y=.int j/\C i j/\Q (g i j) H
def rI0(g:Int->Int->V):R2:=λx y H Q=>∃i j,x=.int i/\y=.int j/\Q (g i j) H
def rU(g:Int->V):V->Hp->VK->Prop:=λx H Q=>∃i,x=.int i/\Q (g i) H
section
variable{X:Cx}{a b c:Expr}{ta tb tc:TE}{pos:Pos}
theorem CG(ha:PE X a ta)(m:PE X b tb){e:Cn}{s:Shared}{σ:St}{H:Hp}{R:V->V->Hp->Prop}(I:Inv X e σ H s)
  (h:ta σ H λx j=>tb σ j λy d=>R x y d) {Q:Cm} {f:Value->Value->Sem Value}
  (hf:∀v u i x y d,Inv X e σ d i->RelV x v->RelV y u->R x y d->wpAny (model X.prog X.w) X.A (f v u) Q X.xe i) :
  wpAny (model X.prog X.w) X.A (eval a X.env) (λv s₁=>wpAny (model X.prog X.w) X.A (eval b X.env) (λu s₂=>wpAny (model X.prog X.w) X.A (f v u) Q X.xe s₂) X.xe s₁) X.xe s:=by
 refine thn (ha e s σ H _ I h) λv n ⟨x,j,I1,r1,q1⟩=>?_;refine thn (m e n σ j _ I1 q1) λu i ⟨y,d,I2,r2,q2⟩=>?_;exact hf v u i x y d I2 r1 r2 q2
theorem Lp{d:Operator}{r:R2}(j:OpR X (binaryOp d) r)(ha:PE X a ta)(i:PE X b tb):PE X (.BinOp a d b pos) (tOp r ta tb):=by intro e s σ H Q I h;exact wpAny_BinOp (CG ha i I h λv u o x y H2 I2 m n q=>j e o σ H2 x y v u Q I2 m n q)
theorem MD{e:UnaryOp}{r:V->Hp->VK->Prop}(i:UnR X (unaryOp e) r)(ha:PE X a ta):PE X (.UnaryOp e a pos) (tUn r ta):=by intro d s σ H Q I h;exact UnaryOp_ (thn (ha d s σ H _ I h) λv j ⟨x,H1,I1,r1,q1⟩=>i d j σ H1 x v Q I1 r1 q1)
theorem opI{f:Value->Value->Sem Value}{C:Int->Int->Prop}{g:Int->Int->Int}
  (rule:∀(i j:Int)(t u:Tok)(s:Shared)(Q:Cm)(E:Cm),C i j->Q (.int (g i j) s.toks) { s with toks:=s.toks+1 }->wpAny (model X.prog X.w) X.A (f (.int i t) (.int j u)) Q E s) :
  OpR X f (rI C λi j=>.int (g i j)):=by
 intro e s σ H x y v u Q I rx ry h;obtain⟨i,j,rfl,rfl,d,q⟩:=h;obtain⟨t,rfl⟩:=rx;obtain⟨t',rfl⟩:=ry;exact rule i j t t' s _ _ d ⟨.int (g i j),H,I.tok _,⟨_,rfl⟩,q⟩
theorem Ht{f:Value->Value->Sem Value}{g:Int->Int->Int}
  (rule:∀(i j:Int)(t u:Tok)(s:Shared)(Q:Cm)(E:Cm),Q (.int (g i j) s.toks) { s with toks:=s.toks+1 }->wpAny (model X.prog X.w) X.A (f (.int i t) (.int j u)) Q E s) :
  OpR X f (rI0 λi j=>.int (g i j)):=by
 intro d s σ H x y v u Q I rx ry h;obtain⟨i,j,rfl,rfl,q⟩:=h;obtain⟨t,rfl⟩:=rx;obtain⟨t',rfl⟩:=ry;exact rule i j t t' s _ _ ⟨.int (g i j),H,I.tok _,⟨_,rfl⟩,q⟩
theorem sH{f:Value->Value->Sem Value}{g:Int->Int->Bool}
  (rule:∀(i j:Int)(t u:Tok)(s:Shared)(Q:Cm)(E:Cm),Q (.bool (g i j)) s->wpAny (model X.prog X.w) X.A (f (.int i t) (.int j u)) Q E s) :
  OpR X f (rI0 λi j=>.bl (g i j)):=by
 intro d s σ H x y v u Q I rx ry h;obtain⟨i,j,rfl,rfl,q⟩:=h;obtain⟨t,rfl⟩:=rx;obtain⟨t',rfl⟩:=ry;exact rule i j t t' s _ _ ⟨.bl (g i j),H,I,rfl,q⟩
def BB(i j:Int):Prop:=0<j/\j<1073741824
def BA(i j:Int):Prop:=0<=j/\j<=1000000/\i.natAbs<2 ^ 64
def CMul(i j:Int):Prop:=(-(2 ^ 64)<i/\i<2 ^ 64)∨(-(2 ^ 64)<j/\j<2 ^ 64)
theorem CMul.ok{i j:Int}(h:CMul i j):IntMulOk i j:=by
 rcases h with ⟨h1,h2⟩|⟨h1,h2⟩
 ·exact .of_left (intBits_le_64 h1 h2)
 ·exact .of_right (intBits_le_64 h1 h2)
def SW:OpR X (binaryOp .Add) (rI0 λi j=>.int (i+j)):=Ht λ_ _ _ _ _ _ _ q=>add_int q
def SR:OpR X (binaryOp .Sub) (rI0 λi j=>.int (i-j)):=Ht λ_ _ _ _ _ _ _ q=>sub_int q
def ST:OpR X (binaryOp .Mult) (rI CMul λi j=>.int (i * j)):=opI λ_ _ _ _ _ _ _ d q=>mul_int q d.ok
theorem Qho:OpR X (binaryOp .FloorDiv) (rI BB λi j=>.int (i / j)):=opI λi j _ _ _ _ _ d q=>by have h1:(0:Int)<j:=d.1;have h2:j<1073741824:=d.2;exact floordiv_int ⋯ (by rw[Int.fdiv_eq_ediv_of_nonneg i ⋯];exact q) (.inl (PyProof.noPylong_small ⋯))
theorem SU:OpR X (binaryOp .Mod) (rI (λ_ j=>0<j) λi j=>.int (i % j)):=opI λi j _ _ _ _ _ d q=>by have h1:(0:Int)<j:=d;exact mod_int' ⋯ (by rw[Int.fmod_eq_emod_of_nonneg i ⋯];exact q)
def SS:OpR X (binaryOp .Pow) (rI BA λi j=>.int (i ^ j.toNat)):=opI λ_ _ _ _ _ _ _ d q=>pow_int_small d.1 d.2.1 d.2.2 q
theorem unI{f:Value->Sem Value}{g:Int->Int}
  (rule:∀(i:Int)(t:Tok)(s:Shared)(Q:Cm)(E:Cm),Q (.int (g i) s.toks) { s with toks:=s.toks+1 }->wpAny (model X.prog X.w) X.A (f (.int i t)) Q E s) :
  UnR X f (rU λi=>.int (g i)):=by
 intro d s σ H x v Q I rx h;obtain⟨i,rfl,q⟩:=h;obtain⟨t,rfl⟩:=rx;exact rule i t s _ _ ⟨.int (g i),H,I.tok _,⟨_,rfl⟩,q⟩
def BM:UnR X (unaryOp .USub) (rU λi=>.int (-i)):=unI λ_ _ _ _ _ q=>neg_int q
end
section
variable{X:Cx}{a b c:Expr}{ta tb tc:TE}{pos:Pos}
theorem M5{d:Cn}{σ:St}{H:Hp}{s:Shared}{Q:VK}{k i:Bool}(I:Inv X d σ H s)(q:Q (.bl k) H)(e:k=i):EP X d σ Q (.bool i) s:=by subst e;exact⟨.bl k,H,I,rfl,q⟩
def MR:OpR X (compareOp .Lt) (rI0 λi j=>.bl (decide (i<j))):=sH λ_ _ _ _ _ _ _ q=>lt_int q
def MS:OpR X (compareOp .LtE) (rI0 λi j=>.bl (decide (i<=j))):=sH λ_ _ _ _ _ _ _ q=>le_int q
def MT:OpR X (compareOp .Gt) (rI0 λi j=>.bl (decide (j<i))):=sH λ_ _ _ _ _ _ _ q=>gt_int q
def MU:OpR X (compareOp .GtE) (rI0 λi j=>.bl (decide (j<=i))):=sH λ_ _ _ _ _ _ _ q=>ge_int q
theorem SV:OpR X (compareOp .Is) (λx y H Q=>y=.non/\Q (.bl (decide (x=.non))) H):=by
 intro d s σ H x y v u Q I rx ry h;obtain⟨rfl,q⟩:=h;cases ry;refine is_none_gen (M5 I q ?_);cases x<;>first
  | (cases rx;rfl)
  | (obtain⟨t,rfl⟩:=rx;rfl)
theorem Qhp:OpR X (compareOp .IsNot) (λx y H Q=>y=.non/\Q (.bl (!decide (x=.non))) H):=by
 intro d s σ H x y v u Q I rx ry h;obtain⟨rfl,q⟩:=h;cases ry;refine isnot_none_gen (M5 I q ?_);cases x<;>first
  | (cases rx;rfl)
  | (obtain⟨t,rfl⟩:=rx;rfl)
theorem QC(b:Expr){d:CmpOp}(h:d≠.In:=by decide)(h2:d≠.NotIn:=by decide):behindInMarks d b=false:=by
 have e:(d==CmpOp.In)=false:=by cases d<;>first|rfl|exact absurd rfl h
 have i:(d==CmpOp.NotIn)=false:=by cases d<;>first|rfl|exact absurd rfl h2
 cases b<;>simp[behindInMarks,e,i]
theorem Qhu{d:CmpOp}{r:R2}(j:OpR X (compareOp d) r)(ha:PE X a ta)(i:PE X b tb)(hm:behindInMarks d b=false):PE X (.Compare a [d] [b] pos) (tOp r ta tb):=by intro e s σ H Q I h;exact wpAny_Compare1 (CG ha i I h λv u o x y H2 I2 m n q=>j e o σ H2 x y v u Q I2 m n q) hm
def Le(t:TE):TT:=λσ H Q=>t σ H λx H'=>∃k,x=.bl k/\Q k H'
theorem QhG{i:CmpOp}{r:R2}(m:OpR X (compareOp i) r)(ha:PE X a ta)(j:PE X b tb)(hm:behindInMarks i b=false):PT X (.Compare a [i] [b] pos) (Le (tOp r ta tb)):=by
 intro d s σ H Q I h;refine wpAny_isTrue_Compare1 (thn (ha d s σ H _ I h) λv n ⟨x,H1,I1,r1,q1⟩=>thn (j d n σ H1 _ I1 q1) λu o ⟨y,H2,I2,r2,q2⟩ =>
  thn (m d o σ H2 x y v u _ I2 r1 r2 q2) λc q ⟨z,H3,I3,r3,k,e,q3⟩=>?_) hm
 subst e;cases r3;exact wpAny_truthy_bool ⟨H3,I3,q3⟩
def LC(r d:R2)(ta tb tc:TE):TE:=λσ H Q=>ta σ H λx H1=>tb σ H1 λy H2=>r x y H2 λz H3=>∃k,z=.bl k /\
 (if k=true then tc σ H3 λe H4=>d y e H4 Q else Q (.bl false) H3)
theorem QfN{n i:CmpOp}{r o:R2}(F:OpR X (compareOp n) r)(m:OpR X (compareOp i) o)(ha:PE X a ta)(C:PE X b tb)(E:PE X c tc)
    (hm:lastMarks [n,i] [b,c]=false:=by with_unfolding_all rfl):PT X (.Compare a [n,i] [b,c] pos) (Le (LC r o ta tb tc)):=by
  intro j s σ H Q I h;refine isTrue_chain (thn (ha j s σ H _ I h) λv J ⟨x,H1,I1,r1,q1⟩=>test_link (thn (C j J σ H1 _ I1 q1) λu L ⟨y,H2,I2,r2,q2⟩ =>
    thn (F j L σ H2 x y v u _ I2 r1 r2 q2) λd O ⟨z,H3,I3,r3,k,e,q3⟩=>?_)) hm
  subst e;cases r3;refine wpAny_truthy_bool ?_;cases k with
  |false=>obtain⟨T,q,G⟩:=q3;cases q;exact ite_ff ⟨H3,I3,G⟩
  |true=>refine ite_tt (test_last (thn (E j O σ H3 _ I3 q3) λR P ⟨S,H4,I4,r4,q4⟩=>thn (m j P σ H4 y S u R _ I4 r2 r4 q4) λd' U ⟨z2,H5,I5,r5,k2,e2,q5⟩=>?_));subst e2;cases r5;exact wpAny_truthy_bool ⟨H5,I5,q5⟩
def CN(K:Ae)(x:V)(H:Hp)(k:Bool):Prop :=
 match x with
 |.non=>k=false
 |.bl b=>k=b
 |.int i=>k=(i != 0)
 |.str y=>y.length<=sizeLine/\k=((y.length:Int) != 0)
 |.byt y=>y.size<=sizeLine/\k=((y.size:Int) != 0)
 |.ref p=>(∃xs,SqL K H p xs/\k=!xs.isEmpty)∨(∃xs,SqT K H p xs/\k=!xs.isEmpty)∨∃kvs,H p=some (.dK kvs)/\k=!kvs.isEmpty
 |_=>False
theorem Qbw{κ:Type}{kvs:List (κ×V)}{vs:List (κ×Value)}(r:KV kvs vs):(!vs.isEmpty)=!kvs.isEmpty:=by cases r<;>rfl
theorem KG{xs:List V}{d:List Value}(r:Vals xs d):(!d.toArray.isEmpty)=!xs.isEmpty:=by cases r<;>simp
theorem KP:(sizeLine:Nat)<2 ^ 63:=by rw[sizeLine_eq];decide
theorem BO:HU X (λx H Q=>∃k,CN X.K x H k/\Q k H):=by
  intro z s σ H x v Q I rx h;obtain⟨k,e,q⟩:=h;have C:=KP;have hs:sizeLine=16777216:=sizeLine_eq;cases x with
  |non=>cases rx;have d:k=false:=e;subst d;exact truthy_none ⟨H,I,q⟩
  |bl b=>cases rx;have d:k=b:=e;subst d;exact wpAny_truthy_bool ⟨H,I,q⟩
  |int i=>obtain⟨t,rfl⟩:=rx;have d:k=(i != 0):=e;subst d;exact PySem.P.truthy_int ⟨H,I,q⟩
  |str y=>obtain⟨t,rfl⟩:=rx;obtain⟨u,d⟩:y.length<=sizeLine/\k=((y.length:Int) != 0):=e;subst d;exact PySem.P.truthy_str ⋯ ⟨H,I.tok _,q⟩
  |byt y=>obtain⟨t,rfl⟩:=rx;obtain⟨u,d⟩:y.size<=sizeLine/\k=((y.size:Int) != 0):=e;subst d;exact PySem.W.truthy_bytes ⋯ ⟨H,I.tok _,q⟩
  |ref p =>
    cases rx;have d:(∃xs,SqL X.K H p xs/\k=!xs.isEmpty)∨(∃xs,SqT X.K H p xs/\k=!xs.isEmpty)∨∃kvs,H p=some (.dK kvs)/\k=!kvs.isEmpty:=e;rcases d with ⟨xs,hx,d⟩|⟨xs,hx,d⟩|⟨kvs,hx,d⟩
    . subst d
      obtain⟨n,r,pl,hz⟩:=I.list hx;have j:=r.length;exact wpAny_truthy_list pl.isList (by simp only[Aq];lia) ⟨H,I.tok _,by rw[KG r];exact q⟩
    . subst d
      obtain⟨n,r,pl,hz⟩:=I.tuple hx;have j:=r.length;exact truthy_tuple pl (by simp only[Aq];lia) ⟨H,I.tok _,by rw[KG r];exact q⟩
    . subst d
      obtain⟨hz,o,vs,r,m⟩:kvs.length<=sizeLine/\(p==sysModules)=false/\∃vs,KV kvs vs/\s.heap.DictOf (ZR X.prog X.w) p vs:=I.hok p _ hx;have j:kvs.length=vs.length:=Paired.length r;exact wpAny_truthy_dict o m ⋯ ⟨H,I.tok _,by rw[Qbw r];exact q⟩
  |_=>exact(show False from e).elim
theorem QfO(ha:PE X a ta)(e:∀whole,isTrue a X.env whole=(do let v <- whole;standAt a.pos;holding [v] (truthy v))) :
  PT X a (λσ H Q=>ta σ H λx H'=>∃k,CN X.K x H' k/\Q k H'):=by
 intro d s σ H Q I h;exact isTrue_plain (thn (ha d s σ H _ I h) λv i ⟨x,H1,I1,r1,q1⟩=>BO d i σ H1 x v Q I1 r1 q1) (e _)
theorem Y3{x:V}{us:List Value}(r:Vals [x] us):∃u,us=[u]/\RelV x u:=by
 cases r with
 |cons d e=>cases e;exact⟨_,rfl,d⟩
theorem tV{x y:V}{us:List Value}(r:Vals [x,y] us):∃u d,us=[u,d]/\RelV x u/\RelV y d:=by
  cases r with
  |cons e i =>
    cases i with
    |cons j m=>cases m;exact⟨_,_,rfl,e,j⟩
theorem Qer:CallR X (.builtin "abs") (λxs H Q=>∃i,xs=[.int i]/\Q (.int (if i<0 then -i else i)) H):=by intro d s σ H xs us Q I r h;obtain⟨i,rfl,q⟩:=h;obtain⟨u,rfl,t,rfl⟩:=Y3 r;exact call_abs_int λu tk=>⟨.int (if i<0 then -i else i),H,I.tok _,⟨_,rfl⟩,q⟩
end
structure ObjM(h:Heap)(x dx C:Addr)(mA:Co):Prop where
 obj:h.get? x=some (PySem.W.instObj C dx)
 ns:h.Ns1 dx mA
 ne:dx≠x
theorem QdB{h:Heap}{d:Addr}{i:Co}(n:h.Ns1 d i):∃od,h.get? d=some od/\∀name,PySem.W.lookIn name od=some (i name):=by
 obtain⟨o,es,v,r,hd,m,_,hm⟩:=n;refine⟨o,r,λname=>?_⟩;have e:=hm name;unfold nsFind findBy at e;rw[<- Array.find?_toList]at e;unfold PySem.W.lookIn;rw[hd];dsimp only;split
 ·rename_i y q;rw[q]at e;exact congrArg some e
 ·rename_i q;rw[q]at e;have a:es.toList.any (·.refKey)=false:=by rw[List.any_eq_false];intro y u;obtain⟨z,t,c⟩:=m y (Array.mem_toList_iff.mp u);simp[DictEntry.refKey,c]
  have j:¬ es.toList.any (·.refKey)=true:=by rw[a];exact Br
  rw[Ce j];exact congrArg some e
theorem ObjM.look{h:Heap}{x a C:Addr}{c:Co}(I:ObjM h x a C c):∃od,PySem.W.InstAt h x (PySem.W.instObj C a) C (some od)/\∀name,PySem.W.lookIn name od=some (c name) :=
 let ⟨od,e,d⟩:=QdB I.ns
 ⟨od,⟨I.obj,rfl,rfl,e⟩,d⟩
section
variable{prog:Program}{w:World}{A:Around}{E:Cm}{s:Shared}{K:Ae}{x dx C f:Addr}{mA:Co}{name:Str}{v:Value}
theorem Qg5{a:Bool}{Q:Cm}(X:K.In s.heap)(I:ObjM s.heap x dx C mA)(c:PySem.W.plainGet K C name=true)(d:PySem.W.hasDictIn K C=true)
  (ha:PySem.W.findIn K (.ref C) name=some none) (hv:mA name=some v) (hv':PySem.W.handedIn v=true) (h:Q v { s with toks:=s.toks+1 }) :
  wpAny (model prog w) A (getAttr (.ref x) name a) Q E s:=by
 obtain⟨od,J,e⟩:=I.look;exact PySem.W.get_value X J (PySem.W.plainGet_of c).1 (PySem.W.findObj_own d ha rfl (by rw[e,hv])) hv' h
theorem QeZ{pl:Sem Bool}{Q:Value×List Value->Shared->Prop}(X:K.In s.heap)(I:ObjM s.heap x dx C mA)(a:PySem.W.plainGet K C name=true)
  (hf:PySem.W.findIn K (.ref C) name=some (some (.ref f))) (ht:PySem.W.isFn K (.ref f)=true) (hv:mA name=none) (h:Q (.ref f,[.ref x]) s) :
  wpAny (model prog w) A (getMethod (.ref x) name pl) Q E s:=by
 obtain⟨od,J,c⟩:=I.look;exact PySem.W.method_fn X J (PySem.W.plainGet_of a).1 (PySem.W.plainGet_of a).2 hf (beq_iff_eq.mp ht) (by show(PySem.W.lookIn name od).map (·.isSome)=some false;rw[c,hv];rfl) h
theorem QhW{ns:List Str}{Q:Unit->Shared->Prop}(X:K.In s.heap)(I:ObjM s.heap x dx C mA)
  (hs:PySem.W.findIn K (.ref C) "__setattr__" = some (some (.builtin "object.__setattr__"))) (hp:PySem.W.plainOver K C=true) (ht:PySem.W.takerIn K C name=some none) (hh:PySem.W.hasDictIn K C=true)
  (hw:PySem.Within mA ns) (hsz:ns.length<=sizeLine)
  (h:∀h',ObjM h' x dx C (λy=>if y=name then some v else mA y)->Heap.SameBut dx s.heap h'->Q () { s with heap:=h',toks:=s.toks+2 }) :
  wpAny (model prog w) A (setAttr (.ref x) name v) Q E s:=by
 obtain⟨od,J,z⟩:=I.look;refine PySem.W.set_plain X J hs (PySem.W.osa_open (s:={ s with toks:=s.toks+1 }) (r:=none) X J hp ht λb=>?_);obtain⟨u,q,i⟩:=PySem.W.any_some hh;have hx:s.heap.get? x=some ⟨.ref C,some dx,.plain,#[]⟩:=I.obj;refine Cd (Cg (Cd (Cd (wpAny_loadPart hx (Cd (PySem.W.Looks.here (s:={ s with toks:=s.toks+1 }) (PySem.W.looks_clsIn X q) ?_))))));rw[i];refine Cg (a:=some dx) (Cd (Cg (Cd ?_)));refine wpAny_nsSet1 (s:={ s with toks:=s.toks+1 }) I.ns λh' c d=>?_;obtain⟨F,o,n,m,j,e⟩:=c.count (PySem.Within.cons name v hw);refine Cd (wpAny_lookBehind m (by rw[j];exact pastItsLine_dict (Bj e (by rw[Be];lia))) ?_);exact Cg (h _ ⟨(d.2 _ (Ne.symm I.ne)).trans I.obj,c,I.ne⟩ d)
theorem Qfi{R:Result->Shared->Prop}{vs:List Value}{a:List (Str×Value)}(X:K.In s.heap)(hm:PySem.W.makesIn K C=true)
  (hi:PySem.W.findIn K (.ref C) "__init__" = some (some (.ref f))) (hf:PySem.W.typeIn K (.ref f)=some (.type "function"))
  (h:codeAny (model prog w) (A.under (.builtin "type.__call__" ⟨.ref C::vs,a⟩)) (.call (.ref f) ⟨.ref (s.heap.objs.size+1)::vs,a⟩) (PySem.W.InitBack (s.heap.objs.size+1) R)
   { s with heap:=(s.heap.push PySem.W.emptyDict).push (PySem.W.instObj C s.heap.objs.size) }) :
  codeAny (model prog w) A (.call (.ref C) ⟨vs,a⟩) R s:=by
 obtain⟨c,g,d,t,os⟩:=s;exact PySem.W.make_core (PySem.W.makes_of X hm) (PySem.W.looks_findIn X hi) (λself=>PySem.W.bind_fn X self hf) (.inl rfl) h
end
def qJ(f:Str)(v:V):List (Str×V)->List (Str×V)
 | []=>[(f,v)]
 | (g,x)::r=>if g=f then (g,v)::r else (g,x)::qJ f v r
theorem V5(f g:Str)(v:V):∀fs:List (Str×V),(qJ f v fs).lookup g=if g=f then some v else fs.lookup g
  | []=>by
    show List.lookup g [(f,v)]=_;by_cases h:g=f
    . have a:(g==f)=true:=beq_iff_eq.mpr h
      simp only[List.lookup,a,Cf h]
    . have a:(g==f)=false:=beq_eq_false_iff_ne.mpr h
      simp only[List.lookup,a,Ce h]
  | (k,x)::r=>by
    have d:=V5 f g v r;rw[show qJ f v ((k,x)::r)=(if k=f then (k,v)::r else (k,x)::qJ f v r)from rfl];by_cases c:k=f
    . rw[Cf c]
      by_cases h:g=k
      . have a:(g==k)=true:=beq_iff_eq.mpr h
        simp only[List.lookup,a,Cf (h.trans c)]
      . have a:(g==k)=false:=beq_eq_false_iff_ne.mpr h
        simp only[List.lookup,a,Ce (λe:g=f=>h (e.trans c.symm))]
    . rw[Ce c]
      by_cases h:g=k
      . have a:(g==k)=true:=beq_iff_eq.mpr h
        simp only[List.lookup,a,Ce (λe:g=f=>c (h.symm.trans e))]
      . have a:(g==k)=false:=beq_eq_false_iff_ne.mpr h
        simp only[List.lookup,a];exact d
theorem VC(f:Str)(v:V):∀fs:List (Str×V),f∈(qJ f v fs).map (·.1)/\∀g,g∈fs.map (·.1)->g∈(qJ f v fs).map (·.1)
  | []=>⟨by simp[qJ],λg h=>by simp at h⟩
  | (k,x)::r=>by
    obtain⟨c,d⟩:=VC f v r;rw[show qJ f v ((k,x)::r)=(if k=f then (k,v)::r else (k,x)::qJ f v r)from rfl];by_cases a:k=f
    . rw[Cf a]
      subst a;exact⟨by simp,λg h=>by simpa using h⟩
    . rw[Ce a]
      refine⟨?_,λg h=>?_⟩
      . rw[Bf]
        exact Ay _ c
      . rw[Bf]at h ⊢
        rcases Bk.mp h with e|e
        . exact Bk.mpr (.inl e)
        . exact Ay _ (d g e)
theorem V4(f:Str)(v:V):∀fs:List (Str×V),(qJ f v fs).length<=fs.length+1
  | []=>by simp[qJ]
  | (k,x)::r=>by
    have c:=V4 f v r;rw[show qJ f v ((k,x)::r)=(if k=f then (k,v)::r else (k,x)::qJ f v r)from rfl];by_cases a:k=f
    . rw[Cf a,Be,Be];lia
    . rw[Ce a,Be,Be];lia
theorem RelO.some_of{v:V}{o:Option Value}(r:RelO (some v) o):∃u,o=some u/\RelV v u:=by
 cases o with
 |none=>exact(show False from r).elim
 |some u=>exact⟨u,rfl,r⟩
theorem RelO.none_of{o:Option Value}(r:RelO none o):o=none:=by
 cases o with
 |none=>rfl
 |some u=>exact(show False from r).elim
theorem Qdt{v:V}{u:Value}(r:RelV v u):PySem.W.handedIn u=true:=by
 cases v with
 |non=>cases (show u=Value.none from r);rfl
 |bl b=>cases (show u=Value.bool b from r);rfl
 |int i=>obtain⟨t,e⟩:=(show ∃t,u=Value.int i t from r);cases e;rfl
 |str x=>obtain⟨t,e⟩:=(show ∃t,u=Value.str x t from r);cases e;rfl
 |byt b=>obtain⟨t,e⟩:=(show ∃t,u=Value.bytes b t from r);cases e;rfl
 |flt b=>obtain⟨t,e⟩:=(show ∃t,u=Value.float b t from r);cases e;rfl
 |ref a=>cases (show u=Value.ref a from r);rfl
 |ty n=>cases (show u=Value.type n from r);rfl
section
variable{P:Program}{w:World}{H H':Hp}{h h':Heap}{a C dx:Addr}{fs fs':List (Str×V)}
theorem gw(hok:HOk P w H h)(e:H a=some (.ins C dx fs)):∃c,ObjM h a dx C c/\(∀f,RelO (fs.lookup f) (c f))/\PySem.Within c (fs.map (·.1))/\fs.length<=1000/\H dx=some (.own a):=by obtain⟨d,z,ne,ob,c,n,r,q⟩:=(show ObjOk P w H h a (.ins C dx fs)from hok a _ e);exact⟨c,⟨ob,n,ne⟩,r,q,z,d⟩
end
structure Cls(K:Ae)(C:Addr):Prop where
 pg:PySem.W.plainGet K C Str.empty=true
 hd:PySem.W.hasDictIn K C=true
 po:PySem.W.plainOver K C=true
 sa:PySem.W.findIn K (.ref C) "__setattr__" = some (some (.builtin "object.__setattr__"))
def Cls.get{K:Ae}{C:Addr}(c:Cls K C)(f:Str):PySem.W.plainGet K C f=true:=c.pg
def NoAttr(K:Ae)(C:Addr)(f:Str):Prop:=PySem.W.findIn K (.ref C) f=some none
theorem NoAttr.taker{K:Ae}{C:Addr}{f:Str}(n:NoAttr K C f):PySem.W.takerIn K C f=some none:=by unfold PySem.W.takerIn;rw[show PySem.W.findIn K (.ref C) f=some none from n];rfl
structure uH(K:Ae)(C:Addr)(m:Str)(f:Addr):Prop where
 at_:PySem.W.findIn K (.ref C) m=some (some (.ref f))
 fn:PySem.W.isFn K (.ref f)=true
 kp:PySem.W.keepIn K (.ref f)=true
section
variable{X:Cx}{O9:Cn}{σ:St}{H:Hp}{s:Shared}{a C dx:Addr}{fs:List (Str×V)}{f:Str}{v:V}{A:Around}{E:Cm}
theorem Ku{b:Bool}{Q:Cm}(I:Inv X O9 σ H s)(e:H a=some (.ins C dx fs))(c:Cls X.K C)(n:NoAttr X.K C f)(l:fs.lookup f=some v)
  (h:∀u s',Inv X O9 σ H s'->RelV v u->Q u s'):wpAny (model X.prog X.w) A (getAttr (.ref a) f b) Q E s:=by
 obtain⟨j,O,r,_,_,_⟩:=gw I.hok e;obtain⟨u,i,d⟩:=RelO.some_of (v:=v) (o:=j f) (by rw[<- l];exact r f);exact Qg5 I.kIn O (c.get f) c.hd n i (Qdt d) (h u _ (I.tok _) d)
theorem zA{m:Str}{g:Addr}{pl:Sem Bool}{Q:Value×List Value->Shared->Prop}(I:Inv X O9 σ H s)(e:H a=some (.ins C dx fs))(c:Cls X.K C)(k:uH X.K C m g)(l:fs.lookup m=none)
  (h:Q (.ref g,[.ref a]) s):wpAny (model X.prog X.w) A (getMethod (.ref a) m pl) Q E s:=by
 obtain⟨d,O,r,_,_,_⟩:=gw I.hok e;have hn:d m=none:=RelO.none_of (by rw[<- l];exact r m);exact QeZ I.kIn O (c.get m) k.at_ k.fn hn h
theorem GC{y:V}{u:Value}{Q:Unit->Shared->Prop}(I:Inv X O9 σ H s)(e:H a=some (.ins C dx fs))(c:Cls X.K C)(n:NoAttr X.K C f)(J:fs.length<1000)(G:RelV y u)
  (h:∀s',Inv X O9 σ (upd H a (.ins C dx (qJ f y fs))) s'->Q () s'):wpAny (model X.prog X.w) A (setAttr (.ref a) f u) Q E s:=by
 obtain⟨i,O,r,wi,_,d⟩:=gw I.hok e;have hz:(fs.map (·.1)).length<=sizeLine:=by rw[Bm,sizeLine_eq];lia
 refine QhW I.kIn O c.sa c.po n.taker c.hd wi hz λh' O' sb=>h _ ?_;have hd:∃o,h'.get? dx=some o:=let ⟨o,_,_,j,_⟩:=O'.ns;⟨o,j⟩;refine I.write (x:=a) (e:=dx) (by rw[e];exact True.intro) (.inr d) (λb q m z=>(sb.2 b m).trans z) hd ?_;refine⟨by rw[QS O.ne];exact d,?_,O.ne,O'.obj,_,O'.ns,λg=>?_,λg F=>?_⟩
 ·have:=V4 f y fs;lia
 ·show RelO ((qJ f y fs).lookup g) (if g=f then some u else i g);rw[V5];by_cases q:g=f
  ·rw[Cf q,Cf q];exact G
  ·rw[Ce q,Ce q];exact r g
 ·by_cases q:g=f
  ·rw[q];exact(VC f y fs).1
  ·refine(VC f y fs).2 g (wi g λz=>F ?_);show(if g=f then some u else i g)=none;rw[Ce q];exact z
theorem Inv.made(I:Inv X O9 σ H s):Inv X O9 σ (upd (upd H s.heap.objs.size (.own (s.heap.objs.size+1))) (s.heap.objs.size+1) (.ins C s.heap.objs.size []))
  { s with heap:=(s.heap.push PySem.W.emptyDict).push (PySem.W.instObj C s.heap.objs.size) }:=by
 have c:(s.heap.push PySem.W.emptyDict).get? s.heap.objs.size=some PySem.W.emptyDict:=Aw s.heap rfl;have i:((s.heap.push PySem.W.emptyDict).push (PySem.W.instObj C s.heap.objs.size)).get? (s.heap.objs.size+1)=some (PySem.W.instObj C s.heap.objs.size):=by
  have:=Aw (s.heap.push PySem.W.emptyDict) (o:=PySem.W.instObj C s.heap.objs.size) rfl
  rwa [Bx]at this
 have j:(s.heap.push PySem.W.emptyDict).Ns s.heap.objs.size (λ_=>none):=⟨PySem.W.emptyDict,#[],_,c,rfl,(λe m=>absurd m (by simp)),λ_=>rfl⟩;have d:=I.laid (a:=s.heap.objs.size) (o:=.own (s.heap.objs.size+1)) (h':=s.heap.push PySem.W.emptyDict) (t':=s.toks) (λb u q=>Ah _ q) (Ai _) ⟨_,c⟩;refine d.laid (a:=s.heap.objs.size+1) (o:=.ins C s.heap.objs.size []) (t':=s.toks) (λb u q=>Ah _ q) (Nat.le_of_eq (Bx _ _)) ?_;have ne:s.heap.objs.size≠s.heap.objs.size+1:=Bi (Ca _);refine⟨by rw[QS ne,QU],Bh _,ne,i,λ_=>none,(Heap.Ns1.of_empty j).at λo q=>Ah _ q,λ_=>True.intro,λy n=>absurd rfl n⟩
theorem QgB{prog:Program}{w:World}{env:Env}{e:Expr}{f:Str}{c:Pos}{s:Shared}{Q:Cm}(d:attributeBase e f env (eval e env)=eval e env)
  (h:wpAny (model prog w) A (eval e env) (λo s₁=>wpAny (model prog w) A (getAttr o f true) Q E s₁) E s):wpAny (model prog w) A (eval (.Attribute e f c) env) Q E s :=
 Attribute_any_ h (by rw[arm_eval_Attribute,d])
end
def WS(K:Ae)(d:TE)(f:Str):TE:=λσ H Q=>d σ H λx H1=>∃a C c fs v,x=.ref a/\H1 a=some (.ins C c fs)/\Cls K C/\NoAttr K C f/\fs.lookup f=some v/\Q v H1
def WZ(K:Ae)(d e:TE)(f:Str):TS:=λD σ H=>e σ H λy H1=>d σ H1 λx H2=>∃a C c fs,x=.ref a/\H2 a=some (.ins C c fs)/\Cls K C/\NoAttr K C f/\fs.length<1000 /\
 D.nx σ (upd H2 a (.ins C c (qJ f y fs)))
def HJ(X:Cx)(c:Operator)(rd:V->V->Hp->VK->Prop):Prop :=
 ∀(a:Cn)(s:Shared)(σ:St)(H:Hp)(x y:V)(u v:Value)(Q:VK),Inv X a σ H s->RelV x u->RelV y v->rd x y H Q->wpAny (model X.prog X.w) X.A (inplaceOp c u v) (EP X a σ Q) X.xe s
def QhT(K:Ae)(j m:TE)(rd:V->V->Hp->VK->Prop)(f:Str):TS:=λD σ H=>j σ H λx H1=>∃a C i fs v,x=.ref a/\H1 a=some (.ins C i fs)/\Cls K C/\NoAttr K C f/\fs.lookup f=some v /\
 m σ H1 λy H2=>rd v y H2 λz e=>∃d c,e a=some (.ins C d c)/\c.length<1000/\D.nx σ (upd e a (.ins C d (qJ f z c)))
section
variable{X:Cx}{o e value:Expr}{f:Str}{pos pos' tpos:Pos}{ta tv:TE}
theorem SE(E:PE X e ta)(z:attributeBase e f X.env (eval e X.env)=eval e X.env):PE X (.Attribute e f pos) (WS X.K ta f):=by intro m s σ H Q I h;refine QgB z (thn (E m s σ H _ I h) λu L r=>?_);obtain⟨x,d,i,G,a,C,J,fs,v,ex,y,c,n,l,q⟩:=r;subst ex;obtain rfl:u=Value.ref a:=G;exact Ku i y c n l λP O j F=>⟨v,d,j,F,q⟩
theorem Qj5(ha:PE X o ta)(v:PE X value tv)(hs:swapsWith value (some (.Attribute o f pos')) pos.line X.env=pure false):PS X (.Assign [.Attribute o f pos'] value pos) (WZ X.K ta tv f):=by intro d s σ H D I h;refine plainObj_wpAny_Assign_Attribute (thn (v d s σ H _ I h) λu G ⟨y,H1,I1,ry,q⟩=>thn (ha d G σ H1 _ I1 q) λz O m=>?_) hs;obtain⟨x,J,i,F,a,C,L,fs,ex,r,c,n,l,E⟩:=m;subst ex;obtain rfl:z=Value.ref a:=F;exact GC i r c n l ry λP j=>⟨σ,_,j,E⟩
theorem QdO{r:Operator}{rd:V->V->Hp->VK->Prop}(ha:PE X o ta)(Q:PE X value tv)(m:HJ X r rd):PS X (.AugAssign (.Attribute o f tpos) r value pos) (QhT X.K ta tv rd f):=by intro d s σ H D I h;refine wpAny_AugAssign_AttributeAny (thn (ha d s σ H _ I h) λS s1 i=>?_);obtain⟨x,E,F,Y,a,C,dx,fs,v,ex,O,c,n,l,q⟩:=i;subst ex;obtain rfl:S=Value.ref a:=Y;refine Ku F O c n l λu s2 I2 U=>thn (Q d s2 σ E _ I2 q) λw3 s3 ⟨y,H2,I3,ry,q3⟩=>thn (m d s3 σ H2 v y u w3 _ I3 U ry q3) λw4 s4 i=>?_;obtain⟨z,H3,G,Z,L,P,j,R,T⟩:=i;exact GC G j c n R Z λs5 J=>⟨σ,_,J,T⟩
def W8:V->V->Hp->VK->Prop:=λx y H Q=>∃i j,x=.int i/\y=.int j/\Q (.int (i+j)) H
theorem Sk:HJ X .Add W8:=by rintro a s σ H x y u v Q I rx ry ⟨i,j,rfl,rfl,q⟩;obtain⟨t,rfl⟩:=(show ∃t,u=Value.int i t from rx);obtain⟨t',rfl⟩:=(show ∃t',v=Value.int j t' from ry);exact PyProof.Rows.iadd_int ⟨.int (i+j),H,I.tok _,⟨_,rfl⟩,q⟩
theorem Qiy{pl:Sem Bool}{m:Str}{d:Pos}{args:List Expr}{n:Cn}{s:Shared}{σ:St}{H:Hp}{Q:Cm}{te:TE}(E:PE X e te)(I:Inv X n σ H s)
  (h:te σ H λx j=>∃a C v fs g,x=.ref a/\j a=some (.ins C v fs)/\Cls X.K C/\uH X.K C m g/\fs.lookup m=none /\
   ∀i,Inv X n σ j i->wpAny (model X.prog X.w) X.A (callWith pos (.ref g) [.ref a] (backTo pos (starEach args X.env)) (backToKw pos (keywordEach [] X.env))) Q X.xe i)
  (ht:eval (.Call (.Attribute e m d) args [] pos) X.env=(do
   let ov <- eval e X.env
   standAt d.atName
   let (f,first) <- holding [ov] (getMethod ov m pl)
   callWith pos f first (backTo pos (starEach args X.env)) (backToKw pos (keywordEach [] X.env)))) :
  wpAny (model X.prog X.w) X.A (eval (.Call (.Attribute e m d) args [] pos) X.env) Q X.xe s:=by
 refine PySem.W.methodCall_KW (pl:=pl) (thn (E n s σ H _ I h) λu i y=>?_) ht;obtain⟨x,j,r,F,a,C,v,fs,g,ex,z,c,k,l,q⟩:=y;subst ex;obtain rfl:u=Value.ref a:=F;exact zA r z c k l (q i r)
end
section
variable{X:Cx}{O9:Cn}{σ:St}{H:Hp}{s:Shared}{A:Around}{E:Cm}{Q:Cm}{c:Value}{b:Bool}
end
structure Room(k:Nat)(A:Around):Prop where
 hd:A.handled=none
 dp:A.depth+3 * k+5<recursionLimit
 un:A.units+16 * k+200<cLine
theorem Room.mono{j k:Nat}{A:Around}(r:Room k A)(h:j<=k):Room j A:=⟨r.hd,by have:=r.dp;lia,by have:=r.un;lia⟩
theorem Room.deeper{k:Nat}{A:Around}(r:Room (k+1) A)(env:Env):Room k (A.deeper env) :=
 ⟨r.hd,by have:=r.dp;show A.depth+1+3 * k+5<_;lia,by have:=r.un;show A.units+3+16 * k+200<_;lia⟩
theorem QbB{A:Around}{C:Addr}{us:List Value}{a:List (Str×Value)}:(A.under (.builtin "type.__call__" ⟨.ref C::us,a⟩)).depth=A.depth+1:=by
 first|rfl|simp[Around.under,Code.weight,Code.isCreation,Code.isGuard,Code.isCaller,Code.frames,Code.isFrame,guardIds]
theorem QbC{A:Around}{C:Addr}{us:List Value}{a:List (Str×Value)}:(A.under (.builtin "type.__call__" ⟨.ref C::us,a⟩)).units=A.units+1:=by
 first|rfl|simp[Around.under,Code.cUnits,Code.frames,Code.isFrame]
theorem Room.make{k:Nat}{A:Around}(r:Room (k+1) A)(C:Addr)(us:List Value)(a:List (Str×Value)):Room k (A.under (.builtin "type.__call__" ⟨.ref C::us,a⟩)) :=
 ⟨r.hd,by have:=r.dp;rw[QbB];lia,by have:=r.un;rw[QbC];lia⟩
theorem Room.depth{k:Nat}{A:Around}(r:Room k A):A.depth<recursionLimit:=by have:=r.dp;lia
theorem Room.units{k:Nat}{A:Around}(r:Room k A):A.units+64<cLine:=by have:=r.un;lia
def Hx:TA:=λ_ H Q=>Q [] H
def HA(a:TE)(c:TA):TA:=λσ H Q=>a σ H λx H1=>c σ H1 λxs H2=>Q (x::xs) H2
section
variable{X:Cx}{e:Expr}{es:List Expr}{te:TE}{t:TA}{pos:Pos}
def pa_nil:PA X [] Hx:=λ_ _ _ _ H Q I h=>Calls.spliced_nil ⟨[],H,I,.nil,h⟩
theorem ZT(ha:PE X e te)(a:PA X es t)(hs:starEach (e::es) X.env=(false,eval e X.env)::starEach es X.env:=by rfl):PA X (e::es) (HA te t):=by intro pos O9 s σ H Q I h;rw[hs];show wpAny _ _ (spliced ((false,eval e X.env)::backTo pos (starEach es X.env))) _ _ s;refine Calls.spliced_cons (thn (ha O9 s σ H _ I h) λu c ⟨x,H1,I1,r1,q1⟩=>?_);exact thn (a pos O9 c σ H1 _ I1 q1) λus d ⟨xs,H2,I2,r2,q2⟩=>⟨x::xs,H2,I2,.cons r1 r2,q2⟩
def WE(t:TA):TE:=λσ H Q=>t σ H λxs a=>xs.length<=sizeLine/\∀p,a p=none->Q (.ref p) (upd a p (.tup xs))
def WN(t:TA):TE:=λσ H Q=>t σ H λxs a=>xs.length<=sizeLine/\∀p,a p=none->Q (.ref p) (upd a p (.lst xs))
theorem Mr{x1}(h:PA X es t):PE X (.Tuple es x1 pos) (WE t):=by intro c s σ H Q I hq;refine wpAny_Tuple_spliced (thn (h pos c s σ H _ I hq) λus a ⟨xs,H1,I1,r,z,q⟩=>⟨by rw[<- r.length];exact z,?_⟩);have hf:H1 a.heap.objs.size=none:=I1.hok.fresh (Ai _);refine⟨.ref a.heap.objs.size,upd H1 a.heap.objs.size (.tup xs),I1.laid (t':=a.toks) (λb u e=>Ah _ e) (Ai _) ?_,rfl,q _ hf⟩;exact⟨z,us,r,⟨_,Aw _ rfl,rfl,_,rfl⟩⟩
theorem gM(h:PA X es t):PE X (.List es pos) (WN t):=by intro c s σ H Q I hq;refine wpAny_List_spliced (thn (h pos c s σ H _ I hq) λus a ⟨xs,H1,I1,r,z,q⟩=>⟨by rw[<- r.length];exact z,?_⟩);have hf:H1 a.heap.objs.size=none:=I1.hok.fresh (Ai _);refine⟨.ref a.heap.objs.size,upd H1 a.heap.objs.size (.lst xs),I1.laid (t':=a.toks) (λb u e=>Ah _ e) (Ai _) ?_,rfl,q _ hf⟩;exact⟨z,us,0,r,Aw _ rfl⟩
end
abbrev Sp:=List V->Hp->VK->XK->Prop
abbrev CXT:=List Env->Hp->Shared->XK->Value->Shared->Prop
structure Env0(P:Program)(w:World)(K:Ae)(mg:Co)(O8:Heap)(A:Around)(outer:List Env)(s:Shared)(H:Hp):Prop where
 frames:A.frames=some outer
 mod:Mod K mg O8
 bs:∀b o,O8.get? b=some o->s.heap.get? b=some o/\H b=none
 bsz:O8.objs.size<=s.heap.objs.size
 funs:s.heap.FunFrames O8 outer
 frf:∀b∈frs outer,H b=none
 hok:HOk P w H s.heap
 bare:AllBare s.gens
def CE(outer:List Env)(P:Program)(w:World)(H:Hp)(s:Shared)(Q:VK)(u:Value)(s':Shared):Prop :=
 ∃v H',s'.os=s.os/\AllBare s'.gens/\Un (frs outer) [] H H' s.heap s'.heap/\HOk P w H' s'.heap/\RelV v u/\Q v H'
def CR(CX:CXT)(outer:List Env)(P:Program)(w:World)(H:Hp)(s:Shared)(Q:VK)(E:XK)(r:Result)(s':Shared):Prop :=
 match r with
 |.ok (.ret u)=>CE outer P w H s Q u s'
 |.ok _=>False
 |.error e=>CX outer H s E e s'
structure Y4(P:Program)(w:World)(K:Ae)(mg:Co)(O8:Heap)(CX:CXT)(k:Nat)(f:Addr)(fd:FuncData)(ps:List Str)(sp:Sp):Prop where
 len:∀vs H Q E,sp vs H Q E->vs.length=ps.length
 run:∀(A:Around)(outer:List Env)(s:Shared)(H:Hp)(args:Args)(us:List Value)(vs:List V)(Q:VK)(E:XK),Room k A->Env0 P w K mg O8 A outer s H->BindsTo s fd args (ps.zip us)->Vals vs us->sp vs H Q E ->
  codeAny (model P w) A (.call (.ref f) args) (CR CX outer P w H s Q E) s
theorem Env0.make{P:Program}{w:World}{K:Ae}{mg:Co}{O8:Heap}{A:Around}{outer:List Env}{s:Shared}{H:Hp}(e:Env0 P w K mg O8 A outer s H)(C:Addr)(us:List Value)(a:List (Str×Value)) :
  Env0 P w K mg O8 (A.under (.builtin "type.__call__" ⟨.ref C::us,a⟩)) outer s H:=⟨by first|exact e.frames|(simpa [Around.under,Code.envs,Code.isFrame,pushEnvs]using e.frames),e.mod,e.bs,e.bsz,e.funs,e.frf,e.hok,e.bare⟩
section
variable{X:Cx}{O9:Cn}{σ:St}{H:Hp}{s s':Shared}
theorem Inv.env0(I:Inv X O9 σ H s):Env0 X.prog X.w X.K X.mg X.O8 X.A X.stack s H :=
 ⟨I.ok.frames,I.ok.mod,I.bs,Bj I.ok.bsz I.sz,I.stack,I.stkFree,I.hok,I.bare⟩
theorem Inv.after{Q:VK}{u:Value}(I:Inv X O9 σ H s)(h:CE X.stack X.prog X.w H s Q u s'):EP X O9 σ Q u s':=by obtain⟨v,c,os,bare,un,hok,r,q⟩:=h;obtain⟨e,g,d,t,a⟩:=s';obtain rfl:a=s.os:=os;exact⟨v,c,I.call (h':=e) (g':=g) (d':=d) (t':=t) (ch:=[]) un hok bare (λb z=>absurd z (by simp)),r,q⟩
end
def HE(sp:Sp)(a:List V)(E:XK)(t:TA):TE:=λσ H Q=>t σ H λvs H1=>sp (vs++a) H1 Q E
def tO(C:Addr)(m:Str)(sp:Sp)(c:List V)(E:XK)(e:TE)(t:TA):TE:=λσ H Q=>e σ H λx H1=>∃a d fs,x=.ref a/\H1 a=some (.ins C d fs)/\fs.lookup m=none /\
 t σ H1 λvs H2=>sp (x::(vs++c)) H2 Q E
def Binds(K:Ae)(fd:FuncData)(ps:List Str)(ds:List Value):Prop :=
 ∀(s:Shared)(us:List Value),K.In s.heap->(us++ds).length=ps.length->BindsTo s fd ⟨us,[]⟩ (ps.zip (us++ds))
theorem Binds.all{K:Ae}{fd:FuncData}{ps:List Str}(h:∀us:List Value,us.length=ps.length->bindArgs fd ⟨us,[]⟩=pure (ps.zip us)):Binds K fd ps []:=λs us _ a=>by rw[Bo]at a ⊢;exact .of_eq (h us a)
def Xs(CX:CXT)(X:Cx)(E:XK):Prop:=∀(a:Cn)(σ:St)(H:Hp)(s:Shared)(e:Value)(s':Shared),Inv X a σ H s->CX X.stack H s E e s'->X.xe e s'
section
variable{X:Cx}{CX:CXT}{k:Nat}{f C:Addr}{fd:FuncData}{ps:List Str}{sp:Sp}{dvs:List V}{ds:List Value}{E:XK}{x m:Str}{p pos apos:Pos}{e o:Expr}{es:List Expr}{ta:TE}{t:TA}
theorem DP{c:Cn}{σ:St}{H:Hp}{s:Shared}{Q:VK}{us:List Value}{vs:List V}(F:Y4 X.prog X.w X.K X.mg X.O8 CX k f fd ps sp)(n:Room k X.A)(i:Binds X.K fd ps ds)(hd:Vals dvs ds)(hx:Xs CX X E)
    (I:Inv X c σ H s) (r:Vals vs us) (h:sp (vs++dvs) H Q E):wpAny (model X.prog X.w) X.A (call (.ref f) us) (EP X c σ Q) X.xe s:=by
  have d:Vals (vs++dvs) (us++ds):=r.append hd;have j:(us++ds).length=ps.length:=by rw[<- d.length];exact F.len _ _ _ _ h
  refine wpAny_call (codeAny_mono (F.run X.A X.stack s H ⟨us,[]⟩ (us++ds) (vs++dvs) Q E n I.env0 (i s us I.kIn j) d h) λr s' a=>?_);cases r with
  |error e=>exact hx c σ H s e s' I a
  |ok fl =>
    cases fl with
    |ret u=>exact I.after a
    |next=>exact False.elim a
    |brk=>exact False.elim a
    |cont=>exact False.elim a
theorem gJ(F:Y4 X.prog X.w X.K X.mg X.O8 CX k f fd ps sp)(j:Room k X.A)(d:Gl X x)(hm:X.mg x=some (.ref f))(i:PySem.W.keepIn X.K (.ref f)=true)(c:Binds X.K fd ps ds)(hd:Vals dvs ds)(hx:Xs CX X E)
  (ha:PA X (e::es) t) (hdb:(x==("__debug__" : Str))=false:=by decide) (he:starEach (e::es) X.env=(false,eval e X.env)::starEach es X.env:=by rfl) (hpl:(backTo pos (starEach es X.env)).any (·.1)=false:=by rfl) :
  PE X (.Call (.Name x p) (e::es) [] pos) (HE sp dvs E t):=by
 intro a s σ H Q I h;refine wpAny_Call_Name_kw (zE I d hm ?_ hdb);refine PySem.W.callWith_K (h₀:=X.O8) I.ok.mod.kin i (thn (ha pos a s σ H _ I h) λus n ⟨vs,H1,I1,r,q⟩=>⟨I1.kIn,?_⟩) he hpl;exact DP F j c hd hx I1 r q
theorem Pj{pl:Sem Bool}(z:PE X o ta)(c:Cls X.K C)(hm:uH X.K C m f)(F:Y4 X.prog X.w X.K X.mg X.O8 CX k f fd ps sp)(G:Room k X.A)(y:Binds X.K fd ps ds)(hd:Vals dvs ds)(hx:Xs CX X E)(ha:PA X (e::es) t)
  (hst:starEach (e::es) X.env=(false,eval e X.env)::starEach es X.env:=by rfl) (hpl:(backTo pos (starEach es X.env)).any (·.1)=false:=by rfl)
  (ht:eval (.Call (.Attribute o m apos) (e::es) [] pos) X.env=(do
   let ov <- eval o X.env
   standAt apos.atName
   let (f,first) <- holding [ov] (getMethod ov m pl)
   callWith pos f first (backTo pos (starEach (e::es) X.env)) (backToKw pos (keywordEach [] X.env))):=by rfl) :
  PE X (.Call (.Attribute o m apos) (e::es) [] pos) (tO C m sp dvs E ta t):=by
 intro i s σ H Q I h;refine PySem.W.methodCall_KW (pl:=pl) (thn (z i s σ H _ I h) λu L n=>?_) ht;obtain⟨x,j,d,J,a,O,fs,ex,v,l,q⟩:=n;subst ex;obtain rfl:u=Value.ref a:=J;refine zA d v c hm l ?_;refine PySem.W.callWith_K (first:=[.ref a]) (h₀:=X.O8) I.ok.mod.kin hm.kp (thn (ha pos i L σ j _ d q) λus P ⟨vs,H2,I2,r,q2⟩=>⟨I2.kIn,?_⟩) hst hpl;exact DP (us:=.ref a::us) (vs:=.ref a::vs) F G y hd hx I2 (.cons rfl r) q2
theorem Ro{pl:Sem Bool}(v:PE X o ta)(c:Cls X.K C)(hm:uH X.K C m f)(F:Y4 X.prog X.w X.K X.mg X.O8 CX k f fd ps sp)(y:Room k X.A)(r:Binds X.K fd ps ds)(hd:Vals dvs ds)(hx:Xs CX X E)
  (ht:eval (.Call (.Attribute o m apos) [] [] pos) X.env=(do
   let ov <- eval o X.env
   standAt apos.atName
   let (f,first) <- holding [ov] (getMethod ov m pl)
   callWith pos f first (backTo pos (starEach [] X.env)) (backToKw pos (keywordEach [] X.env))):=by rfl) :
  PE X (.Call (.Attribute o m apos) [] [] pos) (tO C m sp dvs E ta Hx):=by
 intro i s σ H Q I h;refine PySem.W.methodCall_KW (pl:=pl) (thn (v i s σ H _ I h) λu L j=>?_) ht;obtain⟨x,G,d,z,a,J,fs,ex,n,l,q⟩:=j;subst ex;obtain rfl:u=Value.ref a:=z;refine zA d n c hm l ?_;exact PySem.W.callWith_K0 (first:=[.ref a]) d.kIn hm.kp (DP (us:=[.ref a]) (vs:=[.ref a]) F y r hd hx d (.cons rfl .nil) q)
structure Mk(K:Ae)(C f:Addr):Prop where
 makes:PySem.W.makesIn K C=true
 init:PySem.W.findIn K (.ref C) "__init__" = some (some (.ref f))
 fn:PySem.W.isFn K (.ref f)=true
 kp:PySem.W.keepIn K (.ref C)=true
end
section
variable{X:Cx}{CX:CXT}{k:Nat}{f C:Addr}{fd:FuncData}{ps ks:List Str}{sp:Sp}{E:XK}{x m:Str}{p pos apos kpos:Pos}{e o:Expr}{es:List Expr}{kws:List Keyword}{te ta:TE}{t tk:TA}{nm:Option Str}
variable{g:List Value->List Value->List Value}{gV:List V->List V->List V}
end
structure Qu(N P:List Str)(sc:Scope):Prop where
 kind:sc.kind=.function
 co:sc.isCoroutine=false
 gen:sc.isGenerator=false
 nd:N.Nodup
 pre:N.take P.length=P
 par:∀x∈P,sc.names.lookup x=some .local∨sc.names.lookup x=some .cell
 nofree:∀y∈sc.names,y.2≠.free
theorem vJ{kindOf:Str->Option NameKind}{x:Str}:∀{binds:List (Str×Value)}{m:Co},(∀v,(x,v)∉binds)->bindL kindOf binds m x=m x
  | [],_,_=>rfl
  | (n,v)::r,m,h=>by
    unfold bindL;rw[vJ λw a=>h w (Ay _ a)];split
    . have:x≠n:=by rintro rfl;exact h v List.mem_cons_self
      simp[this]
    . rfl
theorem vG{kindOf:Str->Option NameKind}{x:Str}:∀{binds:List (Str×Value)}{m:Co},(∀v,(x,v)∉binds)->bindC kindOf binds m x=m x
  | [],_,_=>rfl
  | (n,v)::r,m,h=>by
    unfold bindC;rw[vG λw a=>h w (Ay _ a)];split
    . rfl
    . have:x≠n:=by rintro rfl;exact h v List.mem_cons_self
      simp[this]
theorem vH{kindOf:Str->Option NameKind}{x:Str}{v:Value}:∀{P:List Str}{vs:List Value}{i:Nat}{m:Co},P.Nodup->P[i]?=some x->vs[i]?=some v->kindOf x=some .local ->
    bindL kindOf (P.zip vs) m x=some v
  | [],_,_,_,_,h,_,_=>by simp at h
  |_::_,[],_,_,_,_,h,_=>by simp at h
  |p::P,w::vs,0,m,nd,h1,h2,a=>by simp at h1 h2;subst h1;subst h2;show bindL kindOf ((p,w)::P.zip vs) m p=_;unfold bindL;rw[vJ λv c=>(List.nodup_cons.mp nd).1 (List.of_mem_zip c).1,Cf a];simp
  |p::P,w::vs,i+1,m,nd,h1,h2,a=>by show bindL kindOf ((p,w)::P.zip vs) m x=_;unfold bindL;exact vH (i:=i) (List.nodup_cons.mp nd).2 (by simpa using h1) (by simpa using h2) a
theorem vF{kindOf:Str->Option NameKind}{x:Str}{v:Value}:∀{P:List Str}{vs:List Value}{i:Nat}{m:Co},P.Nodup->P[i]?=some x->vs[i]?=some v->kindOf x≠some .local ->
    bindC kindOf (P.zip vs) m x=some v
  | [],_,_,_,_,h,_,_=>by simp at h
  |_::_,[],_,_,_,_,h,_=>by simp at h
  |p::P,w::vs,0,m,nd,h1,h2,a=>by simp at h1 h2;subst h1;subst h2;show bindC kindOf ((p,w)::P.zip vs) m p=_;unfold bindC;rw[vG λv c=>(List.nodup_cons.mp nd).1 (List.of_mem_zip c).1,Ce a];simp
  |p::P,w::vs,i+1,m,nd,h1,h2,a=>by show bindC kindOf ((p,w)::P.zip vs) m x=_;unfold bindC;exact vF (i:=i) (List.nodup_cons.mp nd).2 (by simpa using h1) (by simpa using h2) a
def start(N:List Str)(vs:List V):St:=vs.map some++List.replicate (N.length-vs.length) none
def qF(CX:CXT)(P:Program)(w:World)(K:Ae)(mg:Co)(O8:Heap)(N:List Str)(a:Str)(scope:Scope)(f:Addr)(d:Value)(A:Around)(outer:List Env)(s:Shared)(H:Hp)(E:XK):Cx where
 prog:=P
 w:=w
 K:=K
 mg:=mg
 O8:=O8
 A:=A.deeper (envOfC a scope s.heap.objs.size f d)
 N:=N
 s₀:=s
 H₀:=H
 env:=envOfC a scope s.heap.objs.size f d
 outer:=outer
 stack:=envOfC a scope s.heap.objs.size f d::outer
 ex:=[]
 calm:=true
 fn:=λ_=>true
 pn:=[]
 xe:=λe s'=>wpAny (model P w) (A.deeper (envOfC a scope s.heap.objs.size f d)) (leaving (envOfC a scope s.heap.objs.size f d) e) (λ_ c=>CX outer H s E e c) (λi c=>CX outer H s E i c) s'
theorem kL{a:Scope}{n:Nat}{x:Str}(h:a.names.lookup x=some .cell):∃c,(cellsFrom n a.names []).lookup x=some c:=by have q:=PySem.W.cellsFrom_some a.names n [] (.inl h);exact Option.isSome_iff_exists.mp q
theorem Qdw{CX:CXT}{P:Program}{w:World}{K:Ae}{mg:Co}{O8:Heap}{N ps:List Str}{d:Str}{scope:Scope}{f:Addr}{C:Value}{A:Around}{outer:List Env}{s I:Shared}{H:Hp}{E:XK}{us:List Value}{vs:List V}
  (S:Qu N ps scope) (hd:A.handled=none) (e0:Env0 P w K mg O8 A outer s H) (hl:vs.length=ps.length) (r:Vals vs us)
  (x:InCallC s s.heap.objs.size (bindL (envOfC d scope s.heap.objs.size f C).kindOf (ps.zip us) λ_=>none) (cellsFrom (s.heap.objs.size+1) scope.names []) (bindC (envOfC d scope s.heap.objs.size f C).kindOf (ps.zip us) λ_=>none) I) :
  Inv (qF CX P w K mg O8 N d scope f C A outer s H E) [] (start N vs) H I:=by
 have J:ps.length<=N.length:=by have:=congrArg List.length S.pre;rw[List.length_take]at this;lia
 obtain⟨h1,tk,rfl,F⟩:=x.done;have m:∀b:Addr,b∉(qF CX P w K mg O8 N d scope f C A outer s H E).ex:=λb z=>absurd (show b∈([]:Cr)from z) (by simp);refine⟨⟨e0.mod,S.kind,rfl,rfl,Ai _,λy z c h1 h2=>?_,λy j=>?_,λy c _ h=>?_,λ_=>hd,Around.frames_deeper e0.frames,.inr ⟨rfl,rfl⟩,λb z=>absurd z (m b),e0.bs,e0.bsz,λb _ _=>m b,λb z=>absurd z (m b),e0.funs,e0.frf⟩,
  rfl,e0.bare,Un.kept F,⟨_,x.toInCall.ns,λi y v h1 h2 h3=>?_⟩,λy c h=>⟨_,x.cell y c h⟩,e0.hok.fresh (Ai _),λy c h=>?_,λp hp=>absurd (show p∈([]:Cn)from hp) (by simp),e0.hok.kept F,?_⟩
 ·exact name_of_addr x.apart (PySem.mem_of_lookup h1) (PySem.mem_of_lookup h2)
 ·have j:scope.names.lookup y=some .cell∨scope.names.lookup y=some .free:=j;rcases j with j|j
  ·exact kL j
  ·exact absurd rfl (S.nofree _ (PySem.mem_of_lookup j))
 ·exact Nat.le_of_lt (x.above y c (PySem.mem_of_lookup h))
 ·have hi:i<vs.length:=by
   unfold start at h2;by_cases hi:i<vs.length
   ·exact hi
   ·rw[As (by simpa using hi)]at h2;rw[List.getElem?_replicate]at h2;split at h2<;>cases h2
  have ha:vs[i]?=some v:=by
   unfold start at h2;rw[Aj (by simpa using hi),Bp]at h2;cases e:vs[i]? with
   |none=>rw[e]at h2;cases h2
   |some a=>rw[e]at h2;cases h2;rfl
  obtain⟨u,G,L⟩:=r.get ha;have hp:ps[i]?=some y:=by rw[<- S.pre,List.getElem?_take_of_lt ⋯];exact h1
  have o:ps.Nodup:=by rw[<- S.pre];exact S.nd.sublist (List.take_sublist _ _)
  refine⟨u,L,?_⟩;rcases S.par y (Ax hp)with k|k
  ·exact .inl ⟨k,vH o hp G k⟩
  ·obtain⟨c,e⟩:=kL (n:=s.heap.objs.size+1) k;refine .inr ⟨.inl k,c,e,?_⟩;have q:=x.cell y c e;rw[vF o hp G (by show scope.names.lookup y≠_;rw[k];decide)]at q;exact q
 ·exact e0.hok.fresh (Nat.le_of_lt (x.above y c (PySem.mem_of_lookup h)))
 ·unfold start;show _=N.length;rw[Ap,Bm,List.length_replicate];lia
theorem Iu{CX:CXT}{P:Program}{w:World}{K:Ae}{mg:Co}{O8:Heap}{k:Nat}{f:Addr}{name a:Str}{params:Arguments}{d:List Stmt}{scope:Scope}{T kV m U c ct oc:Value}{R od:Option Addr}
    {osl:Array (Option Value)} {N ps:List Str} {sp:Sp} (lk:K.lookup f=some ⟨oc,od,.func (PySem.W.fnOf name a params d scope T kV m U R c ct),osl⟩) (hcd:PySem.W.codeIn K c a=true) (S:Qu N ps scope)
    (len:∀vs H Q E,sp vs H Q E->vs.length=ps.length)
    (hbody:∀(A:Around)(outer:List Env)(s:Shared)(H:Hp)(vs:List V)(Q:VK)(E:XK),Room k (A.deeper (envOfC a scope s.heap.objs.size f c))->sp vs H Q E ->
      ∃t,PSs (qF CX P w K mg O8 N a scope f c A outer s H E) d t/\t { nx:=λ_ i=>Q .non i,rt:=Q } (start N vs) H) :
    Y4 P w K mg O8 CX (k+1) f (PySem.W.fnOf name a params d scope T kV m U R c ct) ps sp:=by
  refine⟨len,λA outer s H args us vs Q E G z Y r F=>?_⟩;have hl:=len _ _ _ _ F;have O:K.In s.heap:=z.mod.kin.keeps λb o e=>(z.bs b o e).1;have lim:s.heap.NoLimit:=z.mod.nolimit.keeps λb o e=>(z.bs b o e).1;have j:∀y∈ps.zip us,scope.names.lookup y.1=some .local∨(scope.names.lookup y.1=some .cell/\((cellsFrom (s.heap.objs.size+1) scope.names []).lookup y.1).isSome=true):=λ⟨n,v⟩ hy=>by
    rcases S.par n (List.of_mem_zip hy).1 with q|q
    . exact .inl q
    . exact .inr ⟨q,PySem.W.cellsFrom_some _ _ _ (.inl q)⟩
  refine codeAny_call_function G.depth (O _ _ lk) rfl S.co S.gen rfl (PySem.W.codeRec_of O hcd) (Y _ _ _ _ ?_);refine wpAny_newFunctionEnv_cells S.kind j λenv Z X x=>?_;subst Z;refine⟨lim.keeps x.toInCall.keep,codeAny_func ?_⟩;obtain⟨t,ht,hq⟩:=hbody A outer s H vs Q E (G.deeper _) F;have I:Inv (qF CX P w K mg O8 N a scope f c A outer s H E) [] (start N vs) H X:=Qdw S G.hd z hl r x;refine wpAny_mono (ht [] X (start N vs) H _ I hq) (λfl s' hs=>?_) λe s' hs=>hs;have C:∀{σ':St}{i:Hp}{v:V}{u:Value},Inv (qF CX P w K mg O8 N a scope f c A outer s H E) [] σ' i s'->RelV v u->Q v i->CE outer P w H s Q u s' :=
    λ{σ' i v u} J L q=>⟨v,i,J.os,J.bare,J.O8,J.hok,L,q⟩
  cases fl with
  |ret u=>obtain⟨v,σ',i,J,L,q⟩:=hs;exact C J L q
  |next=>obtain⟨σ',i,J,q⟩:=hs;exact C (v:=V.non) (u:=Value.none) J rfl q
  |brk=>obtain⟨_,_,_,q⟩:=hs;exact False.elim q
  |cont=>obtain⟨_,_,_,q⟩:=hs;exact False.elim q
section
variable{X:Cx}{x:Str}{p pos:Pos}{e:Expr}{es:List Expr}{t:TA}{id T:String}{r:List V->Hp->VK->Prop}
def tCB(r:List V->Hp->VK->Prop)(t:TA):TE:=λσ H Q=>t σ H λvs H1=>r vs H1 Q
theorem yY(d:CallR X (.builtin id) r)(i:Gl X x)(hm:X.mg x=none)(j:bootBuiltins x=some (.builtin id))(ha:PA X (e::es) t)(hn:x ≠ "__name__" := by decide)(a:(x==("__debug__" : Str))=false:=by decide)
  (he:starEach (e::es) X.env=(false,eval e X.env)::starEach es X.env:=by rfl) (hpl:(backTo pos (starEach es X.env)).any (·.1)=false:=by rfl):PE X (.Call (.Name x p) (e::es) [] pos) (tCB r t):=by
 intro c s σ H Q I h;refine wpAny_Call_Name_kw (qH I i hm j ?_ hn a);exact PyProof.Rows.callWith_builtin1 (thn (ha pos c s σ H _ I h) λus m ⟨vs,H1,I1,r1,q1⟩=>d c m σ H1 vs us Q I1 r1 q1) he hpl
theorem vU(d:CallR X (.type T) r)(i:Gl X x)(hm:X.mg x=none)(j:bootBuiltins x=some (.type T))(ha:PA X (e::es) t)(hn:x ≠ "__name__" := by decide)(a:(x==("__debug__" : Str))=false:=by decide)
  (he:starEach (e::es) X.env=(false,eval e X.env)::starEach es X.env:=by rfl) (hpl:(backTo pos (starEach es X.env)).any (·.1)=false:=by rfl):PE X (.Call (.Name x p) (e::es) [] pos) (tCB r t):=by
 intro c s σ H Q I h;refine wpAny_Call_Name_kw (qH I i hm j ?_ hn a);exact PyProof.Rows.callWith_type1 (thn (ha pos c s σ H _ I h) λus m ⟨vs,H1,I1,r1,q1⟩=>d c m σ H1 vs us Q I1 r1 q1) he hpl
end
end L2
namespace HT
open PySem PyProof.Rows
section
open PySem.SeqAt
open PySem.AutoSeq1 (wpAny_loadPart')
open PySem.MeetsSeq PySem.MeetsSeq2 PySem.MeetsSeq3
end
section
variable{prog:Program}{w:World}{A:Around}{E:Cm}{s:Shared}
theorem cat_tup{t b:Addr}{vs a:List Value}{Q:Cm}(C:IsTup s.heap t vs.toArray)(z:IsTup s.heap b a.toArray)(v:vs≠[])
  (h1:a=[]->Q (.ref t) s) (h2:a≠[]->Q (.ref s.heap.objs.size) { s with heap:=s.heap.push { cls:=.type "tuple", data:=.seq (vs++a).toArray } })
  (hsz:vs.length+a.length<=sizeLine):wpAny (model prog w) A (binaryOp .Add (.ref t) (.ref b)) Q E s:=by
 obtain⟨⟨cls,dd,data,y⟩,o,u,n,hd⟩:=id C;obtain⟨⟨r,d,data2,m⟩,c,i,x,j⟩:=id z;simp only at u hd i j;subst u hd i j;have e:vs.toArray++a.toArray=(vs++a).toArray:=by simp
 by_cases q:a=[]
 ·exact concat_meets ⟨_,o,rfl⟩ ⟨_,c,rfl⟩ noFill_tuple_add seq_tuple_add PySem.F.slot_tuple_add PySem.F.entry_tuple_add (PySem.F.args_tuple_add_2 _ _)
   (tuple_addW1 t b vs.toArray a.toArray n x dd d y m (by simpa using v) (by simp[q])) ⟨o,c,h1 q⟩
 ·refine concat_meets ⟨_,o,rfl⟩ ⟨_,c,rfl⟩ noFill_tuple_add seq_tuple_add PySem.F.slot_tuple_add PySem.F.entry_tuple_add (PySem.F.args_tuple_add_2 _ _)
   (tuple_addW2 t b vs.toArray a.toArray n x dd d y m (by simpa using v) (by simpa using q) (by rw[Aq,Aq];exact hsz)) ⟨o,c,?_⟩
  rw[e];exact h2 q
def sIx(n d:Nat):Option Int->Nat
 |none=>d
 |some v=>if v<0 then (v+(n:Int)).toNat else min v.toNat n
theorem sIx_nat(n d k:Nat):sIx n d (some (k:Int))=min k n:=by show(if (k:Int)<0 then ((k:Int)+(n:Int)).toNat else min (k:Int).toNat n)=min k n;rw[Ce ⋯,Bs]
theorem Do(n d:Nat)(hd:d<=n)(o:Option Int):sIx n d o<=n:=by
  cases o with
  |none=>exact hd
  |some v =>
    show(if v<0 then (v+(n:Int)).toNat else min v.toNat n)<=n;by_cases a:v<0
    . rw[Cf a];lia
    . rw[Ce a];exact Nat.min_le_right _ _
theorem Od(v:Int)(n d:Nat):(if v<0 then max (v+(n:Int)) 0 else min v (n:Int))=((sIx n d (some v):Nat):Int):=by
 show(if v<0 then max (v+(n:Int)) 0 else min v (n:Int))=(((if v<0 then (v+(n:Int)).toNat else min v.toNat n):Nat):Int);by_cases a:v<0
 ·simp only[Cf a];lia
 ·simp only[Ce a];lia
theorem Qa5(lo hi:Option Int)(n:Nat):Builtin.Slice.sliceAdjust lo hi 1 (n:Int)=(((sIx n 0 lo:Nat):Int),((sIx n n hi:Nat):Int)):=by
 have h1:¬ ((1:Int)<0):=⋯
 unfold Builtin.Slice.sliceAdjust;simp only[h1,if_false];refine Prod.ext ?_ ?_
 ·cases lo with
  |none=>rfl
  |some v=>exact Od v n 0
 ·cases hi with
  |none=>rfl
  |some v=>exact Od v n n
theorem QbJ(i j:Nat):Builtin.Slice.slicePlaces (i:Int) (j:Int) 1=j-i:=by
 unfold Builtin.Slice.slicePlaces;have h1:(1:Int) > 0:=⋯
 simp only[h1,if_true,Int.ediv_one];split<;>lia
theorem GG{v:Value}{o:Option Int}{Q:Option Int->Shared->Prop}(p:IsPart v o)(h:Q o s):wpAny (model prog w) A (Builtin.Slice.slicePartIndex v) Q E s:=by
 cases p with
 |none=>exact slicePart_none h
 |int i t=>exact slicePart_int h
theorem sliceApplied_gen{i:Addr}{d e:Value}{lo hi:Option Int}{n:Nat}{Q:Int×Int×Nat->Shared->Prop}(hs:s.heap.IsSliceOf i d e .none)(pl:IsPart d lo)(m:IsPart e hi)
  (h:Q (((sIx n 0 lo:Nat):Int),1,sIx n n hi-sIx n 0 lo) s):wpAny (model prog w) A (Builtin.Slice.sliceApplied (.ref i) (pure (n:Int))) Q E s:=by
 obtain⟨os,c,j,a⟩:=id hs;unfold Builtin.Slice.sliceApplied Builtin.Slice.sliceFields;refine Cd (Cd (wpAny_field c a (x:=d) rfl (Cd (wpAny_field c a (x:=e) rfl (Cd (wpAny_field c a (x:=.none) rfl (Cg ?_)))))));refine Cd (slicePart_none ?_);show wpAny _ _ (if ((1:Int)==0)=true then _ else _) _ _ s;rw[Ce (by decide)];refine Cd (GG pl (Cd (GG m (Cd (Cg ?_)))));show wpAny _ _ (match Builtin.Slice.sliceAdjust lo hi 1 (n:Int)with|(lo,hi)=>pure (lo,(1:Int),Builtin.Slice.slicePlaces lo hi 1)) _ _ s;rw[Qa5 lo hi n];show wpAny _ _ (pure (((sIx n 0 lo:Nat):Int),(1:Int),Builtin.Slice.slicePlaces ((sIx n 0 lo:Nat):Int) ((sIx n n hi:Nat):Int) 1)) _ _ s;rw[QbJ];exact Cg h
theorem QfI(xs:Array Value)(i k:Nat):((List.range k).filterMap λ(m:Nat)=>xs[((i:Int)+(m:Int) * 1).toNat]?).toArray=((xs.toList.drop i).take k).toArray:=by
 have e:(λ(m:Nat)=>xs[((i:Int)+(m:Int) * 1).toNat]?)=λm=>xs[i+m]?:=by
  funext m;have:((i:Int)+(m:Int) * 1).toNat=i+m:=⋯
  rw[this]
 rw[e];have:=pick_run xs i k;rw[List.filterMap_map]at this;have a:((λx=>xs[x]?)∘λx=>i+x)=λm=>xs[i+m]?:=rfl;rw[a]at this;rw[this]
theorem getItem_tuple_cut{t n:Addr}{items:Array Value}{o r:Value}{lo hi:Option Int}{Q:Cm}(c:IsTup s.heap t items)(hs:s.heap.IsSliceOf n o r .none)(pl:IsPart o lo)(v:IsPart r hi)
  (hw:¬ (sIx items.size 0 lo=0/\sIx items.size items.size hi=items.size))
  (h:Q (.ref s.heap.objs.size) { s with heap:=s.heap.push { cls:=.type "tuple", data:=.seq ((items.toList.drop (sIx items.size 0 lo)).take (sIx items.size items.size hi-sIx items.size 0 lo)).toArray } })
  (hsz:items.size<=sizeLine):wpAny (model prog w) A (getItem (.ref t) (.ref n)) Q E s:=by
 have a:sizeOk (.seq ((items.toList.drop (sIx items.size 0 lo)).take (sIx items.size items.size hi-sIx items.size 0 lo)).toArray):=by show((items.toList.drop (sIx items.size 0 lo)).take (sIx items.size items.size hi-sIx items.size 0 lo)).toArray.size<=sizeLine;rw[Aq,List.length_take,List.length_drop,Array.length_toList];lia
 have x:sIx items.size items.size hi<=items.size:=Do _ _ (Ai _) hi;obtain⟨os,j,e,u⟩:=id hs;have d:s.TypeIs (.ref n) "slice" := ⟨os,j,e⟩;unfold getItem
 try with_reducible refine wpAny_holding ?_
 first|refine Cd (Cg ?_)|skip
 refine Cd (wpAny_sequenceKey c.typeIs (by decide) ?_);refine Cd (wpAny_callSpecial?_slot (name:=Str.ofString "__getitem__") c.typeIs PyProof.Rows.slot_tuple_getitem
  (wpAny_call_entry PyProof.Rows.slot_tuple_getitem c.typeIs entry_tuple_getitem ?_ (args_tuple_getitem _ _)))
 show wpAny _ _ (Builtin.Tuple.tupleItemsOf (.ref t) >>= _) _ _ s;refine Cd (tupleItemsOf_ c ?_);refine Cd (wpAny_typeOf d ?_);rw[Cf (by decide)];refine Cd (sliceApplied_gen hs pl v ?_);have i:¬ ((((sIx items.size 0 lo:Nat):Int)==0&&(1:Int)==1&&(sIx items.size items.size hi-sIx items.size 0 lo)==items.size)=true):=by intro q;rw[Bg,Bg]at q;have y:((sIx items.size 0 lo:Nat):Int)=0:=eq_of_beq q.1.1;have z:sIx items.size items.size hi-sIx items.size 0 lo=items.size:=eq_of_beq q.2;exact hw ⟨⋯,⋯⟩
 show wpAny _ _ (if (((sIx items.size 0 lo:Nat):Int)==0&&(1:Int)==1&&(sIx items.size items.size hi-sIx items.size 0 lo)==items.size)=true then _ else _) _ _ s;rw[Ce i,QfI]
 first
  |exact Cd (m:=Builtin.Tuple.tupleExact _) (wpAny_newObj_type (Cg ⟨_,rfl,Cg h⟩) a)
  |exact Cd (m:=Builtin.Tuple.tupleExact _) (wpAny_newObj_type (Cd (Cg (Cg ⟨_,rfl,Cg h⟩))) a)
  |exact Cd (Cd (m:=Builtin.Tuple.tupleExact _) (wpAny_newObj_type (Cg (Cg ⟨_,rfl,Cg h⟩)) a))
  |exact Cd (Cd (m:=Builtin.Tuple.tupleExact _) (wpAny_newObj_type (Cg ⟨_,rfl,Cg h⟩) a))
end
end HT
namespace L2
open PySem PySem.Spec PyProof.Rows
abbrev TO:=St->Hp->(Option Int->Hp->Prop)->Prop
def PO(X:Cx)(e:Option Expr)(t:TO):Prop :=
  ∀(O9 : List (Addr × Obj))(s : Shared)(σ : St)(H : Hp)(Q : Option Int -> Hp -> Prop), Inv X O9 σ H s -> t σ H Q ->
    wpAny (model X.prog X.w) X.A (evalPart e X.env) (λu s'=>∃o H',Inv X O9 σ H' s'/\IsPart u o/\Q o H') X.xe s
def Qh4:TO:=λ_ H Q=>Q none H
def Hk(t:TE):TO:=λσ H Q=>t σ H λx H1=>∃i,x=.int i/\Q (some i) H1
section
variable{X:Cx}{e:Expr}{te:TE}{lo hi:Option Expr}{tl th:TO}{pos p2:Pos}
theorem QhC:PO X none Qh4:=by intro a s σ H Q I h;rw[evalPart_none];exact Cg ⟨none,H,I,.none,h⟩
theorem QhD(h:PE X e te):PO X (some e) (Hk te):=by intro a s σ H Q I hw;rw[evalPart_some];refine thn (h a s σ H _ I hw) λu c ⟨x,H1,I1,r1,q1⟩=>?_;obtain⟨i,rfl,q⟩:=q1;obtain⟨t,rfl⟩:=r1;exact⟨some i,H1,I1,.int i t,q⟩
def SlR(X:Cx)(r:V->Option Int->Option Int->Hp->VK->Prop):Prop :=
  ∀(a : List (Addr × Obj))(s : Shared)(σ : St)(H : Hp)(x : V)(v d i : Value)(lo hi : Option Int)(c : Addr)(Q : VK), Inv X a σ H s -> RelV x v -> s.heap.IsSliceOf c d i .none -> IsPart d lo -> IsPart i hi -> r x lo hi H Q ->
    ∃T id,typeLookup (.type T) "__getitem__" = pure (some (.builtin id))/\s.TypeIs v T/\wpAny (model X.prog X.w) X.A (getItem v (.ref c)) (EP X a σ Q) X.xe s
def tSl(r:V->Option Int->Option Int->Hp->VK->Prop)(te:TE)(tl th:TO):TE:=λσ H Q=>te σ H λx H1=>tl σ H1 λl H2=>th σ H2 λu H3=>r x l u H3 Q
theorem K0{r:V->Option Int->Option Int->Hp->VK->Prop}(z:SlR X r)(n:PE X e te)(y:PO X lo tl)(E:PO X hi th):PE X (.Subscript e (.Slice lo hi none p2) pos) (tSl r te tl th):=by intro c s σ H Q I h;refine Subscript_ (thn (n c s σ H _ I h) λv F ⟨x,H1,I1,r1,q1⟩=>?_);refine wpAny_Slice (thn (y c F σ H1 _ I1 q1) λd G ⟨l,H2,I2,pl,q2⟩=>thn (E c G σ H2 _ I2 q2) λi a ⟨u,H3,I3,pu,q3⟩=>?_);rw[evalPart_none];refine Cg ?_;have j:Inv X c σ H3 { a with heap:=a.heap.push { cls:=.type "slice", data:=.fields #[d,i,.none] } }:=I3.kept (t':=a.toks) λb ob q=>Ah _ q;obtain⟨T,id,m,C,o⟩:=z c { a with heap:=a.heap.push { cls:=.type "slice", data:=.fields #[d,i,.none] } } σ H3 x v d i l u a.heap.objs.size Q j r1 (Heap.IsSliceOf.new ..) pl pu q3;show wpAny (model X.prog X.w) X.A (subscriptTail e (.Slice lo hi none p2) v (.ref a.heap.objs.size)) (EP X c σ Q) X.xe { a with heap:=a.heap.push { cls:=.type "slice", data:=.fields #[d,i,.none] } };exact tail_any (ops:=[.ref a.heap.objs.size,v]) C m o (by with_unfolding_all rfl)
def kN(xs:List V)(lo hi:Option Int):List V:=(xs.drop (HT.sIx xs.length 0 lo)).take (HT.sIx xs.length xs.length hi-HT.sIx xs.length 0 lo)
theorem V0(xs:List V)(lo hi:Option Int):(kN xs lo hi).length<=xs.length:=by unfold kN;rw[List.length_take,List.length_drop];lia
def WT(K:Ae):V->Option Int->Option Int->Hp->VK->Prop:=λx lo hi H Q=>∃a xs,x=.ref a/\SqT K H a xs /\
 ¬ (HT.sIx xs.length 0 lo=0/\HT.sIx xs.length xs.length hi=xs.length)/\∀p,H p=none->Q (.ref p) (upd H p (.tup (kN xs lo hi)))
theorem Db:SlR X (WT X.K):=by
 intro m s σ H x v vl vu lo hi sl Q I rx hs pl pu h;obtain⟨a,xs,rfl,hx,j,q⟩:=h;cases rx;obtain⟨d,r,i,hz⟩:=I.tuple hx;have c:d.toArray.size=xs.length:=by rw[Aq];exact r.length.symm
 refine⟨"tuple", _,PyProof.Rows.slot_tuple_getitem.lookup,i.typeIs,?_⟩;refine HT.getItem_tuple_cut i hs pl pu (by rw[c];exact j) ?_ (by rw[c];exact hz);rw[c];refine⟨.ref s.heap.objs.size,_,I.laid (t':=s.toks) (o:=.tup (kN xs lo hi)) (λb ob q=>Ah _ q) (Ai _) ?_,rfl,q _ (I.hok.fresh (Ai _))⟩;exact⟨Bj (V0 xs lo hi) hz,_,(r.drop (HT.sIx xs.length 0 lo)).take (HT.sIx xs.length xs.length hi-HT.sIx xs.length 0 lo),IsTup.new _ _⟩
def MB(K:Ae):R2:=λx y H Q=>∃a b xs ys,x=.ref a/\y=.ref b/\SqT K H a xs/\SqT K H b ys/\xs≠[]/\xs.length+ys.length<=sizeLine /\
 (ys=[]->Q (.ref a) H)/\(ys≠[]->∀p,H p=none->Q (.ref p) (upd H p (.tup (xs++ys))))
theorem Vals.nil_iff{xs:List V}{us:List Value}(r:Vals xs us):us=[]↔xs=[]:=by
 cases r with
 |nil=>simp
 |cons _ _=>simp
theorem Qhn:OpR X (binaryOp .Add) (MB X.K):=by intro E s σ H x y v u Q I rx ry h;obtain⟨a,b,xs,ys,rfl,rfl,ha,j,hx,hz,r,C⟩:=h;cases rx;cases ry;obtain⟨m,d,n,_⟩:=I.tuple ha;obtain⟨i,c,p2,_⟩:=I.tuple j;refine HT.cat_tup n p2 (λz=>hx (d.nil_iff.mp z)) (λz=>⟨.ref a,H,I,rfl,r (c.nil_iff.mp z)⟩) (λz=>?_) (by rw[<- d.length,<- c.length];exact hz);refine⟨.ref s.heap.objs.size,_,I.laid (t':=s.toks) (o:=.tup (xs++ys)) (λb ob q=>Ah _ q) (Ai _) ?_,rfl,C (λw=>z (c.nil_iff.mpr w)) _ (I.hok.fresh (Ai _))⟩;exact⟨by rw[Ap];exact hz,_,d.append c,IsTup.new _ _⟩
end
def ixN(n:Nat)(i:Int):Option Nat:=if 0<=i then (if i<n then some i.toNat else none)else if -(n:Int)<=i then some (i+n).toNat else none
def atI{α:Type}(xs:List α)(i:Int):Option α:=(ixN xs.length i).bind λj=>xs[j]?
theorem Ny{n:Nat}{i:Int}{j:Nat}(h:ixN n i=some j):seqIndex? i n=some j/\j<n /\ -(n:Int)<=i/\i<n:=by
 unfold ixN at h;by_cases a:0<=i
 ·rw[Cf a]at h;by_cases h1:i<n
  ·rw[Cf h1]at h;have e:i.toNat=j:=An h;exact⟨by rw[seqIndex_of a h1,e],⋯,⋯,h1⟩
  ·rw[Ce h1]at h;cases h
 ·rw[Ce a]at h;by_cases h1:-(n:Int)<=i
  ·rw[Cf h1]at h;have e:(i+n).toNat=j:=An h;exact⟨by rw[seqIndex_neg ⋯ h1,e],⋯,h1,⋯⟩
  ·rw[Ce h1]at h;cases h
theorem P_{α:Type}{xs:List α}{i:Int}{v:α}(h:atI xs i=some v):∃j,seqIndex? i xs.length=some j/\xs[j]?=some v/\j<xs.length /\ -(xs.length:Int)<=i/\i<xs.length:=by
  unfold atI at h;cases e:ixN xs.length i with
  |none=>rw[e]at h;cases h
  |some j=>rw[e]at h;obtain⟨h1,h2,h3,h4⟩:=Ny e;exact⟨j,h1,h,h2,h3,h4⟩
theorem jO{α:Type}{xs:List α}{j:Nat}{v:α}(h:xs[j]?=some v):atI xs (j:Int)=some v:=by
 have a:j<xs.length:=(Ag.mp h).1;have e:ixN xs.length (j:Int)=some j:=by unfold ixN;rw[Cf ⋯,Cf ⋯];simp
 unfold atI;rw[e];exact h
def uJ(b:Expr):Prop:=∀o i,subscripted b false o i=operate [o,i] (getItem o i)
def IxR(X:Cx)(r:R2):Prop :=
  ∀(value slice : Expr)(a : List (Addr × Obj))(s : Shared)(σ : St)(H : Hp)(x y : V)(v u : Value)(Q : VK), Inv X a σ H s -> RelV x v -> RelV y u -> r x y H Q ->
    subscripted slice false v u=operate [v,u] (getItem v u)->wpAny (model X.prog X.w) X.A (subscriptTail value slice v u) (EP X a σ Q) X.xe s
def MtR(X:Cx)(id:String)(r:V->List V->Hp->VK->Prop):Prop :=
  ∀(a : List (Addr × Obj))(s : Shared)(σ : St)(H : Hp)(x : V)(xs : List V)(v : Value)(us : List Value)(Q : VK), Inv X a σ H s -> RelV x v -> Vals xs us -> r x xs H Q ->
    wpAny (model X.prog X.w) X.A (call (.builtin id) (v::us)) (EP X a σ Q) X.xe s
section
variable{X:Cx}{a b:Expr}{ta tb:TE}{pos:Pos}
theorem Lq{r:R2}(e:IxR X r)(ha:PE X a ta)(d:PE X b tb)(hs:uJ b):PE X (.Subscript a b pos) (tOp r ta tb):=by intro c s σ H Q I h;exact Subscript_ (CG ha d I h λv u m x y H2 I2 i j q=>e a b c m σ H2 x y v u Q I2 i j q (hs _ _))
def WY(K:Ae):R2:=λx y H Q=>∃p xs i v,x=.ref p/\y=.int i/\SqL K H p xs/\atI xs i=some v/\Q v H
def WX(K:Ae):R2:=λx y H Q=>∃p xs i v,x=.ref p/\y=.int i/\SqT K H p xs/\atI xs i=some v/\Q v H
theorem Nx:IxR X (WY X.K):=by
 intro value slice O9 s σ H x y v u Q I rx ry h hs;obtain⟨p,xs,i,z,rfl,rfl,F,C,q⟩:=h;cases rx;obtain⟨t,rfl⟩:=ry;obtain⟨e,r,pl,hz⟩:=I.list F;obtain⟨j,h1,h2,h3,h4,h5⟩:=P_ C;obtain⟨w,n,m⟩:=r.get h2;have E:=r.length;have hn:=KP;have c:EP X O9 σ Q w s:=⟨z,H,I,m,q⟩;by_cases o:0<=i
 ·have d:i.toNat=j:=by rw[seqIndex_of o h5]at h1;exact An h1
  exact item_listR pl.isList o ⋯ (by rw[d];simpa using n) c hs
 ·have d:(i+(e.toArray.size:Int)).toNat=j:=by rw[seqIndex_neg ⋯ h4]at h1;rw[Aq,<- E];exact An h1
  exact subscriptTail_builtinR (x:=w) pl.isList.typeIs slot_list_getitem.lookup
   (wpAny_getItem_list_neg (Q:=λr s'=>r=w/\EP X O9 σ Q r s') pl.isList ⋯ (by rw[Aq]<;>lia) ⋯ (by rw[d];simpa using n) ⟨rfl,c⟩) hs
theorem Sa:IxR X (WX X.K):=by
 intro value slice O9 s σ H x y v u Q I rx ry h hs;obtain⟨p,xs,i,z,rfl,rfl,o,m,q⟩:=h;cases rx;obtain⟨t,rfl⟩:=ry;obtain⟨C,r,pl,hz⟩:=I.tuple o;obtain⟨j,h1,h2,h3,h4,h5⟩:=P_ m;obtain⟨w,e,d⟩:=r.get h2;have n:=r.length;have hn:=KP;have c:EP X O9 σ Q w s:=⟨z,H,I,d,q⟩;exact subscriptTail_builtinR (x:=w) pl.typeIs slot_tuple_getitem.lookup
  (getItem_tuple (j:=j) (Q:=λr s'=>r=w/\EP X O9 σ Q r s') pl ⋯ ⋯ (by rw[Aq,<- n];exact h1) (by simpa using e) ⟨rfl,c⟩) hs
theorem QbD(c:List Value)(n j:Nat)(u:Value):Obj.mapSeq (·.setIfInBounds j u) { cls:=.type "list", data:=.seq c.toArray n }={ cls:=.type "list", data:=.seq (c.set j u).toArray n }:=by simp[Obj.mapSeq]
theorem Inv.lst{d:Cn}{σ:St}{H:Hp}{s:Shared}{p:Addr}{xs:List V}(I:Inv X d σ H s)(h:H p=some (.lst xs)) :
  ∃(c:List Value) (n:Nat),Vals xs c/\s.heap.get? p=some { cls:=.type "list", data:=.seq c.toArray n }/\xs.length<=sizeLine:=by
 obtain⟨z,c,n,r,e⟩:=I.hok p _ h;exact⟨c,n,r,e,z⟩
theorem Inv.lstUpd{i:Cn}{σ:St}{H:Hp}{s:Shared}{p:Addr}{xs ys:List V}{c its':List Value}{n d:Nat}{f:Obj->Obj}(I:Inv X i σ H s)(h:H p=some (.lst xs))
  (ho:s.heap.get? p=some { cls:=.type "list", data:=.seq c.toArray n }) (hf:f { cls:=.type "list", data:=.seq c.toArray n }={ cls:=.type "list", data:=.seq its'.toArray d }) (r:Vals ys its') (hz:ys.length<=sizeLine) (t:Nat) :
  Inv X i σ (upd H p (.lst ys)) { s with heap:=s.heap.update p f,toks:=t }:=by
 have e:(s.heap.update p f).get? p=some { cls:=.type "list", data:=.seq its'.toArray d }:=by rw[Heap.get?_update_self f ho (by rw[hf]<;>rfl),hf]
 refine I.write (x:=p) (e:=p) (by rw[h];trivial) (.inl rfl) (λb u j q=>(Heap.get?_update_other _ _ (Ne.symm j)).trans q) ⟨_,e⟩ ?_;exact⟨hz,its',d,r,e⟩
def Mn:V->V->V->Hp->(Hp->Prop)->Prop:=λo i v H Q=>∃p xs k j,o=.ref p/\i=.int k/\H p=some (.lst xs)/\ixN xs.length k=some j/\Q (upd H p (.lst (xs.set j v)))
theorem Qf8:sX X Mn:=by
 intro z s σ H o i v ov iv u Q I ro ri rv h;obtain⟨p,xs,k,j,rfl,rfl,hp,C,q⟩:=h;cases ro;obtain⟨t,rfl⟩:=ri;obtain⟨c,n,r,m,hz⟩:=I.lst hp;obtain⟨h1,h2,h3,h4⟩:=Ny C;have e:=r.length;have hn:=KP;have x:Inv X z σ (upd H p (.lst (xs.set j v))) { s with heap:=s.heap.update p (Obj.mapSeq (·.setIfInBounds j u)) } :=
  I.lstUpd hp m (QbD c n j u) (r.set rv j) (by rw[List.length_set];exact hz) s.toks
 by_cases y:0<=k
 ·have d:k.toNat=j:=by rw[seqIndex_of y h4]at h1;exact An h1
  exact PySem.W.ki_setAt m y ⋯ (by rw[Aq,<- e];exact h4) (by rw[d];exact⟨_,x,q⟩)
 ·have d:(k+(c.toArray.size:Int)).toNat=j:=by rw[seqIndex_neg ⋯ h3]at h1;rw[Aq,<- e];exact An h1
  exact PySem.W.ki_setBack m ⋯ (by rw[Aq,<- e];exact h3) ⋯ (by rw[d];exact⟨_,x,q⟩)
theorem ki(lo hi:Option Int)(n:Nat):(sliceBounds lo hi none n).1=((HT.sIx n 0 lo:Nat):Int)/\(sliceBounds lo hi none n).2.1=((HT.sIx n n hi:Nat):Int)/\(sliceBounds lo hi none n).2.2=1:=by
  refine⟨?_,?_,rfl⟩
  . cases lo with
    |none=>simp[sliceBounds,HT.sIx]
    |some i =>
      simp only[sliceBounds,HT.sIx,Option.getD_none,show(1:Int) > 0 by decide,if_true];by_cases h:i<0
      . simp only[h,if_true]<;>lia
      . simp only[h,if_false]<;>lia
  . cases hi with
    |none=>simp[sliceBounds,HT.sIx]
    |some i =>
      simp only[sliceBounds,HT.sIx,Option.getD_none,show(1:Int) > 0 by decide,if_true];by_cases h:i<0
      . simp only[h,if_true]<;>lia
      . simp only[h,if_false]<;>lia
theorem vC(c:List Value)(lo hi:Option Int):slicePick c.toArray lo hi none=((c.drop (HT.sIx c.length 0 lo)).take (HT.sIx c.length c.length hi-HT.sIx c.length 0 lo)).toArray:=by obtain⟨h1,h2,h3⟩:=ki lo hi c.toArray.size;unfold slicePick;rw[h1,h2,h3];simp only[sliceRange_one,pick_run,Aq]<;>rfl
def WW(K:Ae):V->Option Int->Option Int->Hp->VK->Prop:=λx lo hi H Q=>∃a xs,x=.ref a/\SqL K H a xs/\∀p,H p=none->Q (.ref p) (upd H p (.lst (kN xs lo hi)))
theorem Oh:SlR X (WW X.K):=by
 intro i s σ H x v vl vu lo hi sl Q I rx hs pl pu h;obtain⟨a,xs,rfl,hx,q⟩:=h;cases rx;obtain⟨e,r,d,hz⟩:=I.list hx;have c:=r.length;refine⟨"list", _,slot_list_getitem.lookup,d.isList.typeIs,?_⟩;refine wpAny_getItem_list_slice d.isList hs pl pu .none (by simp) ?_ (by rw[Aq]<;>lia)
 rw[vC,<- c];refine⟨.ref s.heap.objs.size,_,I.laid (t':=s.toks) (o:=.lst (kN xs lo hi)) (λb ob q=>Ah _ q) (Ai _) ?_,rfl,q _ (I.hok.fresh (Ai _))⟩;exact⟨Bj (V0 xs lo hi) hz,_,0,(r.drop (HT.sIx xs.length 0 lo)).take (HT.sIx xs.length xs.length hi-HT.sIx xs.length 0 lo),Aw _ rfl⟩
def qi:V->Bool
 |.non=>true
 |.bl _=>true
 |.int _=>true
 |.str _=>true
 |_=>false
def eqV:V->V->Bool
 |.non,.non=>true
 |.bl a,.bl b=>a==b
 |.bl a,.int b=>(if a then 1 else 0)==b
 |.int a,.bl b=>a==(if b then 1 else 0)
 |.int a,.int b=>a==b
 |.str a,.str b=>a==b
 |_,_=>false
theorem Qi8{A:Around}{s:Shared}{y x:V}{u v:Value}(e:RelV y u)(c:RelV x v)(i:qi y=true)(d:qi x=true):SeqAt.EqAt A s u v (eqV y x):=by
  cases y with
  |non =>
    cases e;cases x with
    |non=>cases c;exact SeqAt.EqAt.same _
    |bl b=>cases c;exact SeqAt.EqAt.none_bool b
    |int b=>obtain⟨t,rfl⟩:=c;exact SeqAt.EqAt.none_int b t
    |str b=>obtain⟨t,rfl⟩:=c;exact SeqAt.EqAt.none_str b t
    |_=>exact absurd (show false=true from d) Br
  |bl a =>
    cases e;cases x with
    |non=>cases c;exact SeqAt.EqAt.bool_none a
    |bl b=>cases c;exact SeqAt.EqAt.bool_bool a b
    |int b=>obtain⟨t,rfl⟩:=c;exact SeqAt.EqAt.bool_int a b t
    |str b=>obtain⟨t,rfl⟩:=c;exact SeqAt.EqAt.bool_str a b t
    |_=>exact absurd (show false=true from d) Br
  |int a =>
    obtain⟨t',rfl⟩:=e;cases x with
    |non=>cases c;exact SeqAt.EqAt.int_none a t'
    |bl b=>cases c;exact SeqAt.EqAt.int_bool a t' b
    |int b=>obtain⟨t,rfl⟩:=c;exact SeqAt.EqAt.int_int a t' b t
    |str b=>obtain⟨t,rfl⟩:=c;exact SeqAt.EqAt.int_str a t' b t
    |_=>exact absurd (show false=true from d) Br
  |str a =>
    obtain⟨t',rfl⟩:=e;cases x with
    |non=>cases c;exact SeqAt.EqAt.str_none a t'
    |bl b=>cases c;exact SeqAt.EqAt.str_bool a t' b
    |int b=>obtain⟨t,rfl⟩:=c;exact SeqAt.EqAt.str_int a t' b t
    |str b=>obtain⟨t,rfl⟩:=c;exact SeqAt.EqAt.str_str a t' b t
    |_=>exact absurd (show false=true from d) Br
  |_=>exact absurd (show false=true from i) Br
def eqU(x:V)(u:Value):Bool:=match u with
 |.none=>eqV .non x
 |.bool b=>eqV (.bl b) x
 |.int i _=>eqV (.int i) x
 |.str z _=>eqV (.str z) x
 |_=>false
theorem M6{x y:V}{u:Value}(r:RelV y u)(f:qi y=true):eqU x u=eqV y x:=by
 cases y with
 |non=>cases r;rfl
 |bl b=>cases r;rfl
 |int i=>obtain⟨t,rfl⟩:=r;rfl
 |str z=>obtain⟨t,rfl⟩:=r;rfl
 |_=>exact absurd (show false=true from f) Br
theorem uM{x:V}:∀{xs:List V}{us:List Value},Vals xs us->xs.all qi=true->us.any (eqU x)=xs.any λy=>eqV y x
  |_,_,.nil,_=>rfl
  |y::xs,u::us,.cons r t,f=>by rw[Cb,Bg]at f;rw[Bz,Bz,M6 r f.1,uM t f.2]
theorem KR{A:Around}{s:Shared}{x:V}{v:Value}(e:RelV x v)(d:qi x=true):∀{xs:List V}{us:List Value},Vals xs us->xs.all qi=true->∀u∈us,SeqAt.EqAt A s u v (eqU x u)
  |_,_,.nil,_=>λu c=>by cases c
  |y::xs,u::us,.cons r t,f=>λi c=>by
    rw[Cb,Bg]at f;rcases Bk.mp c with rfl|c
    . rw[M6 r f.1];exact Qi8 r e f.1 d
    . exact KR e d t f.2 i c
def inV(x:V)(xs:List V):Bool:=xs.any λy=>eqV y x
def rIn(K:Ae)(c:Bool):R2:=λx y H Q=>∃p xs,y=.ref p/\(SqL K H p xs∨SqT K H p xs)/\qi x=true/\xs.all qi=true/\Q (.bl (if c then !inV x xs else inV x xs)) H
theorem gF:OpR X (compareOp .NotIn) (rIn X.K true):=by
 intro j s σ H x y v u Q I rx ry h;obtain⟨p,xs,rfl,d,i,fs,q⟩:=h;cases ry;rcases d with d|d
 ·obtain⟨c,r,pl,hz⟩:=I.list d;refine SeqAt.notIn_listAt (eqU x) pl.isList (λw e=>KR rx i r fs w (by simpa using e)) ⟨.bl _,H,I,rfl,?_⟩;rw[show c.toArray.any (eqU x)=c.any (eqU x)by simp,uM r fs];exact q
 ·obtain⟨c,r,pl,hz⟩:=I.tuple d;refine SeqAt.notIn_tupleAt (eqU x) pl (λw e=>KR rx i r fs w (by simpa using e)) ⟨.bl _,H,I,rfl,?_⟩;rw[show c.toArray.any (eqU x)=c.any (eqU x)by simp,uM r fs];exact q
theorem zw:CallR X (.builtin "len") (λxs H Q=>∃p ys,xs=[.ref p]/\(SqL X.K H p ys∨SqT X.K H p ys)/\Q (.int ys.length) H):=by
 intro m s σ H xs us Q I r h;obtain⟨p,ys,rfl,d,q⟩:=h;obtain⟨u,rfl,j⟩:=Y3 r;cases j;have hn:=KP;rcases d with d|d
 ·obtain⟨e,i,pl,hz⟩:=I.list d;have c:=i.length;exact Calls.call_len_list pl.isList (by simp only[Aq]<;>lia) ⟨.int ys.length,H,I.tok _,⟨s.toks+1,by rw[Aq,c]⟩,q⟩
 ·obtain⟨e,i,pl,hz⟩:=I.tuple d;have c:=i.length;exact len_tuple pl (by simp only[Aq]<;>lia) ⟨.int ys.length,H,I.tok _,⟨s.toks+1,by rw[Aq,c]⟩,q⟩
theorem call_list_of:CallR X (.type "list") (λxs H Q=>∃p ys,xs=[.ref p]/\(SqL X.K H p ys∨SqT X.K H p ys)/\∀l,H l=none->Q (.ref l) (upd H l (.lst ys))):=by
 intro z s σ H xs us Q I r h;obtain⟨p,ys,rfl,v,q⟩:=h;obtain⟨u,rfl,C⟩:=Y3 r;cases C;have j:∀(c:List Value),Vals ys c->ys.length<=sizeLine->∀(h':Heap)(d:Nat),(∀b o',s.heap.get? b=some o'->h'.get? b=some o') ->
   h'.get? s.heap.objs.size=some { cls:=.type "list", dict:=none,data:=.seq c.toArray d,slots:=#[] }->EP X z σ Q (.ref s.heap.objs.size) { s with heap:=h' }:=λc i hz h' d kp e =>
  ⟨.ref s.heap.objs.size,_,I.laid (t':=s.toks) kp (Ai _) (show ObjOk X.prog X.w _ h' _ (.lst ys)from⟨hz,c,d,i,e⟩),rfl,q _ (I.hok.fresh (Ai _))⟩
 rcases v with v|v
 ·obtain⟨c,i,pl,hz⟩:=I.list v;have m:=i.length;obtain⟨o,y,x,n,hd⟩:=pl.isList;exact call_list_seq p (.inl rfl) y x hd (λh' d kp e=>j c i hz h' d kp e) (by simp only[Aq]<;>lia)
 ·obtain⟨c,i,pl,hz⟩:=I.tuple v;have m:=i.length;obtain⟨o,y,x,n,hd⟩:=pl;exact call_list_seq p (.inr rfl) y x hd (λh' d kp e=>j c i hz h' d kp e) (by simp only[Aq]<;>lia)
theorem qE:CallR X (.type "tuple") (λxs H Q=>∃p ys,xs=[.ref p]/\((SqL X.K H p ys/\∀l,H l=none->Q (.ref l) (upd H l (.tup ys)))∨(SqT X.K H p ys/\Q (.ref p) H))):=by
 intro m s σ H xs us Q I r h;obtain⟨p,ys,rfl,h⟩:=h;obtain⟨u,rfl,x⟩:=Y3 r;cases x;rcases h with ⟨d,q⟩|⟨d,q⟩
 ·obtain⟨c,i,pl,hz⟩:=I.list d;have n:=i.length;refine call_tuple_list pl.isList (λh' kp=>?_) (by simp only[Aq]<;>lia)
  have j:Inv X m σ H { s with heap:=h' }:=I.kept (t':=s.toks) kp;have v:Inv X m σ (upd H h'.objs.size (.tup ys)) { s with heap:=h'.push { cls:=.type "tuple", data:=.seq c.toArray } } :=
   j.laid (t':=s.toks) (λb o e=>Ah _ e) (Ai _) (show ObjOk X.prog X.w _ _ _ (.tup ys)from⟨hz,c,i,IsTup.new _ _⟩)
  exact⟨.ref h'.objs.size,_,v,rfl,q _ (j.hok.fresh (Ai _))⟩
 ·obtain⟨c,i,pl,hz⟩:=I.tuple d;exact call_tuple_same pl ⟨.ref p,H,I,rfl,q⟩
def tyV(K:Ae)(T:String)(x:V)(H:Hp):Prop:=match x with
 |.str _=>T = "str"
 |.int _=>T = "int"
 |.ref p=>(T = "list" /\ ∃xs,SqL K H p xs)∨(T = "tuple" /\ ∃o,K.lookup p=some o/\o.cls=.type "tuple" /\ o.dict=none) ∨
   (T = "dict" /\ ((∃kvs,H p=some (.dK kvs))∨∃kvs,H p=some (.dT kvs)))∨(T = "set" /\ ∃S n,H p=some (.set S n))
 |_=>False
theorem BN{m:Cn}{σ:St}{H:Hp}{s:Shared}{T:String}{x:V}{v:Value}(I:Inv X m σ H s)(r:RelV x v)(ty:tyV X.K T x H) :
    s.TypeIs v T/\∀a,v=.ref a->∃ob,s.heap.get? a=some ob/\ob.dict=none:=by
  cases x with
  |str z =>obtain⟨t,rfl⟩:=r;cases (show T = "str" from ty);exact⟨typeIs_str s z t,λ_ e=>nomatch e⟩
  |int i =>obtain⟨t,rfl⟩:=r;cases (show T = "int" from ty);exact⟨typeIs_int s i t,λ_ e=>nomatch e⟩
  |ref p =>
    cases r;rcases ty with ⟨rfl,xs,u⟩|⟨rfl,o,d,q,hd⟩|⟨rfl,d⟩|⟨rfl,S,n,d⟩
    . obtain⟨y,_,pl,_⟩:=I.list u
      refine⟨pl.isList.typeIs,λa e=>?_⟩;cases e;obtain⟨o,n,e,c,hd,_⟩:=pl;exact⟨o,e,hd⟩
    . refine⟨⟨o,I.kIn p o d,q⟩,λa e=>?_⟩
      cases e;exact⟨o,I.kIn _ o d,hd⟩
    . have z:∃o,s.heap.get? p=some o/\o.ExactDict:=by
        rcases d with ⟨kvs,d⟩|⟨kvs,d⟩
        . obtain⟨_,_,_,_,o,_,_,e,ex,_⟩:=I.hok p _ d
          exact⟨o,e,ex⟩
        . obtain⟨_,_,_,_,o,_,_,e,ex,_⟩:=I.hok p _ d
          exact⟨o,e,ex⟩
      obtain⟨o,e,ex⟩:=z;refine⟨⟨o,e,ex.1⟩,λa j=>?_⟩;cases j;exact⟨o,e,ex.2.1⟩
    . obtain⟨o,_,_,_,e,ex,_⟩:=I.hok p _ d
      refine⟨⟨o,e,ex.1⟩,λa j=>?_⟩;cases j;exact⟨o,e,ex.2.1⟩
  |_=>exact False.elim ty
def tBM(K:Ae)(T:String)(r:V->List V->Hp->VK->Prop)(to:TE)(t:TA):TE:=λσ H Q=>to σ H λx H1=>tyV K T x H1/\t σ H1 λxs H2=>r x xs H2 Q
variable{o e:Expr}{es:List Expr}{to:TE}{t:TA}{name:Str}{apos cpos:Pos}{T id:String}{r:V->List V->Hp->VK->Prop}
theorem CW(m:PlainAttrs T)(slot:Slot T name id)(d:typeOf (.builtin id)=pure (.type "method_descriptor"))(hm:MtR X id r)(j:PE X o to)(ha:PA X (e::es) t)
  (hbase:attributeBase o name X.env (eval o X.env)=eval o X.env:=by rfl)
  (hfew:((backTo cpos (starEach (e::es) X.env)).all (λx=>!x.1)&&(backToKw cpos (keywordEach [] X.env)).all (λx=>x.1.isSome)
   && decide ((e::es).length+([]:List Keyword).length+(if ([]:List Keyword).isEmpty then 0 else 1)<30))=true:=by rfl)
  (hline:(apos.endLine==cpos.line)=true:=by rfl) (hs:starEach (e::es) X.env=(false,eval e X.env)::starEach es X.env:=by rfl) (hplain:(backTo cpos (starEach es X.env)).any (·.1)=false:=by rfl) :
  PE X (.Call (.Attribute o name apos) (e::es) [] cpos) (tBM X.K T r to t):=by
 intro c s σ H Q I h;refine wpAny_Call_method_late hbase hfew hline rfl (thn (j c s σ H _ I h) λv n ⟨x,H1,I1,r1,ty,q1⟩=>?_);obtain⟨h1,h2⟩:=BN I1 r1 ty;refine⟨T,id,m,slot,d,h1,h2,?_⟩;have i:=ha cpos c n σ H1 _ I1 q1;rw[hs]at i ⊢;refine Calls.callWith_builtin (by show(false||(backTo cpos (starEach es X.env)).any (·.1))=false;rw[hplain]<;>rfl) (Calls.evalArgs_plain ?_)
 exact thn i λus q ⟨vs,H2,I2,r2,q2⟩=>hm c q σ H2 x vs v us Q I2 r1 r2 q2
/- xs.append(e),list.index on a module's tuple .. are MtR facts of 06m -/
end
def MtM(X:Cx)(id:String)(r:V->List V->Hp->VK->Prop):Prop :=
  ∀(a : List (Addr × Obj))(s : Shared)(σ : St)(H : Hp)(x : V)(xs : List V)(v : Value)(us : List Value)(Q : VK), Inv X a σ H s -> RelV x v -> Vals xs us -> r x xs H Q ->
    wpAny (model X.prog X.w) X.A (call (.builtin id) (v::us)) (EP X a σ Q) X.xe s
theorem Vals.one:∀{x:V}{us:List Value},Vals [x] us->∃u,us=[u]/\RelV x u
 |_,_,.cons r .nil=>⟨_,rfl,r⟩
theorem Vals.dropLast{xs:List V}{us:List Value}(h:Vals xs us):Vals xs.dropLast us.dropLast:=by
  induction h with
  |nil=>exact .nil
  |cons r t a =>
    cases t with
    |nil=>exact .nil
    |cons q t'=>exact .cons r a
section
variable{X:Cx}{O9:Cn}{σ:St}{H:Hp}{s:Shared}{l b:Addr}{xs ys zs:List V}
theorem Inv.lset{a its':List Value}{n:Nat}{f:Array Value->Array Value}{t':Nat}(I:Inv X O9 σ H s)(c:H l=some (.lst xs))
  (e:s.heap.get? l=some { cls:=.type "list", data:=.seq a.toArray n }) (hf:f a.toArray=its'.toArray) (hv:Vals ys its') (hz:ys.length<=sizeLine) :
  Inv X O9 σ (upd H l (.lst ys)) { s with heap:=s.heap.update l (Obj.mapSeq f),toks:=t' }:=by
 have q:=PySem.IsL.update e f;rw[hf]at q;refine I.write (x:=l) (e:=l) (by rw[c];exact trivial) (.inl rfl) (λb' u d i=>(Heap.get?_update_other s.heap (Obj.mapSeq f) (Ne.symm d)).trans i) ⟨_,q⟩ ?_;exact⟨hz,its',_,hv,q⟩
theorem Inv.lnew{a:List Value}{t':Nat}(I:Inv X O9 σ H s)(c:Vals ys a)(hz:ys.length<=sizeLine) :
  Inv X O9 σ (upd H s.heap.objs.size (.lst ys)) { s with heap:=s.heap.push { cls:=.type "list", data:=.seq a.toArray },toks:=t' } :=
 I.laid (λ_ _ q=>Ah _ q) (Ai _) ⟨hz,a,0,c,Aw _ rfl⟩
def Inv.fresh(I:Inv X O9 σ H s):H s.heap.objs.size=none:=I.hok.fresh (Ai _)
theorem Inv.lstM(I:Inv X O9 σ H s)(c:H l=some (.lst xs)):xs.length<=sizeLine/\∃(a:List Value) (n:Nat),Vals xs a/\xs.length=a.length/\s.heap.get? l=some { cls:=.type "list", data:=.seq a.toArray n }:=by obtain⟨z,a,n,r,e⟩:=I.hok l _ c;exact⟨z,a,n,r,r.length,e⟩
theorem Qfo{n:Nat}(h:n<=sizeLine):Builtin.List.listTooLong n=false:=by unfold Builtin.List.listTooLong;exact Cj ⋯
end
section
variable{X:Cx}
def Oz:V->List V->Hp->VK->Prop:=λx vs H Q=>∃l xs y,x=.ref l/\vs=[y]/\H l=some (.lst xs)/\xs.length<sizeLine/\Q .non (upd H l (.lst (xs++[y])))
theorem jW:MtM X "list.append" Oz:=by intro i s σ H x vs v us Q I rx rv h;obtain⟨l,xs,y,rfl,rfl,c,hz,q⟩:=h;cases rx;obtain⟨u,rfl,d⟩:=rv.one;obtain⟨z,a,n,r,j,e⟩:=I.lstM c;refine call_meets F.slot_list_append ⟨_,e,rfl⟩ F.entry_list_append (F.args_list_append_2 _ _) (PySem.list_append l a.toArray n u (by rw[Aq];lia)) ⟨e,?_⟩;refine⟨.non,_,I.lset (its':=a++[u]) c e (by simp) (r.append (.cons d .nil)) ?_,rfl,q⟩;rw[Ap,List.length_singleton];lia
def QhK:V->List V->Hp->VK->Prop:=λx vs H Q=>∃l b xs a,x=.ref l/\vs=[.ref b]/\H l=some (.lst xs)/\H b=some (.lst a)/\xs.length+a.length<=sizeLine/\Q .non (upd H l (.lst (xs++a)))
theorem QdE:MtM X "list.extend" QhK:=by
 intro G s σ H x vs v us Q I rx rv h;obtain⟨l,b,xs,L,rfl,rfl,i,m,hz,q⟩:=h;cases rx;obtain⟨u,rfl,E⟩:=rv.one;cases E;obtain⟨z,c,n,r,J,e⟩:=I.lstM i;obtain⟨z2,a,y,C,o,j⟩:=I.lstM m;have hsz:c.toArray.size+a.toArray.size<=sizeLine:=by rw[Aq,Aq];lia
 have d:¬ (!c.toArray.isEmpty&&Builtin.List.listTooLong (c.toArray.size+a.toArray.size))=true:=by rw[Qfo hsz,Bool.and_false];exact Br
 refine call_meets F.slot_list_extend ⟨_,e,rfl⟩ F.entry_list_extend (F.args_list_extend_2 _ _)
  (AutoSeq1.list_extend_list_list_0 l c.toArray n b a.toArray y d (by rw[Aq];lia) ⋯) ⟨e,j,?_⟩
 refine⟨.non,_,I.lset (its':=c++a) i e (by simp) (r.append C) ?_,rfl,q⟩;rw[Ap];lia
end
section
variable{prog:Program}{w:World}{A:Around}{E:Cm}{s:Shared}
end
section
variable{X:Cx}
end
end L2
namespace Att
open PySem PySem.W PySem.Calls PyProof.Rows
theorem UB{P:Params}{h:Heap}:∀(ns:List Int)(vs:List Value),WellAll P h vs (ns.map WData.int)->IntsAre vs ns:=by
  intro ns;induction ns with
  |nil=>intro vs w;rw[List.map_nil]at w;cases w;exact .nil
  |cons n ns c =>
    intro vs w;rw[Bf]at w;cases w with
    |cons a b=>cases a;exact .cons _ _ (c _ b)
theorem Qd2{l:OpenLaw}{n:Nat}(hn:l.most=some n){P:Params}{h:Heap}{args:List WData}{c:List Value}
    (hpre:l.row.toRowW.claim.pre args=true) (hwl:WellAll P h c args) :
    ∃a vs ns,c=[Value.ref a]/\args=[WData.list (ns.map WData.int)]/\h.get? a=some { cls:=.type "list", data:=.seq vs.toArray }/\IntsAre vs ns/\ns.length<=n:=by
  have j:WShape.hasAll [] args [.list .int]=true:=(pre_splitW hpre).1;have m:l.pre.holds [] { args:=args }=true:=(pre_splitW hpre).2;obtain⟨d,r,rfl,h1,h2⟩:=hasAllW_cons j;obtain rfl:=hasAllW_nil h2;obtain⟨xs,rfl,h3⟩:=hasW_list h1;obtain⟨ns,rfl⟩:=items_int h3;have i:ns.length<=n:=by
    unfold OpenLaw.pre at m;have h4:(WTm.not (.lt (.lit (.int (n:Int))) (.len (.arg 0)))).holds [] { args:=[.list (ns.map .int)] }=true:=by have h4:=(holds_andW m).1;rw[hn]at h4;exact h4
    have h5:=condW_of h4 (w_not (w_lt w_lit (w_len_list (w_arg rfl))));rw[Bm]at h5;refine Nat.le_of_not_lt λq=>?_;have u:(n:Int)<((ns.length:Nat):Int):=⋯
    first
      | (rw[Ch u] at h5;exact absurd h5 (by decide))
      | (simp at h5;lia)
  cases hwl with
  |cons v x =>
    cases x;cases v with
    |list o e=>exact⟨_,_,ns,rfl,rfl,o,UB ns _ e,i⟩
theorem QdN(l:OpenLaw)(args:List WData):l.row.toRowW.claim.post args (.bool true) args=true :=
 postW_of (r:=l.row.toRowW) (X:=(true==true))
  (show WShape.has [] (.bool true) .bool=true by first|rfl|decide|simp[WShape.has,WShape.arms,WShape.armsAll])
  (show(WTm.eq .res (.lit (.bool true))).value [] { args:=args,res:=some (.bool true),after:=args }=some (.bool (true==true))from w_eq_bool (w_res rfl) w_lit) rfl
theorem attach_call{l:OpenLaw}{n:Nat}{q:Program}{c:List Str}{y:(Co)->Heap->Prop}{z:World->Heap->Prop}{d:DefRec}
  (hn:l.most=some n) (hdf:d.params.defaults=[])
  (call:∀(w:World)(s₀ s₁:Shared)(mg v:Co)(fa:Addr)(o:Obj)(x u e:Value)(a:Addr)(vs:List Value)(ns:List Int),
   Ground q c [] y w s₀ mg v s₁.heap->z w s₁.heap ->
   s₁.heap.get? fa=some o->o.data=.func (docDef d.name d.params d.body d.scope x u e)->s₁.heap.CodeRec u d.name->mg d.name=some (.ref fa) ->
   s₁.heap.get? a=some { cls:=.type "list", data:=.seq vs.toArray }->IntsAre vs ns->ns.length<=n->s₁.gens = #[] ->
   codeAny (model l.prog w) callerA (.call (.ref fa) ⟨[.ref a],[]⟩) (λr s'=>r=.ok (.ret (.bool true))/\OldK s₁.heap s'.heap/\s'.os=s₁.os/\AllBare s'.gens) s₁) :
  WalkO q c y z l.row.toRowW d [] (λf vs=>PySem.call f vs):=by
 intro w s₀ s₁ mg v G Y fa o x u e dV kV ho hd hcd hD hmg hg args vals as hpre hlay hrd hwl hlo;obtain rfl:dV=.none:=Dflts.none hD hdf;obtain rfl:kV=.none:=Dflts.noKw hD;obtain⟨a,vs,ns,rfl,rfl,m,i,j⟩:=Qd2 hn hpre hwl;refine enter_call (codeAny_mono (call w s₀ s₁ mg v fa o x u e a vs ns G Y ho (fd_plain hd) hcd hmg m i j hg) λr s' C=>?_);obtain⟨rfl,h2,h3,h4⟩:=C;exact⟨.inl ⟨.bool true,.bool true,[],rfl,λ_=>rfl,.bool true,QdN l _,λ_=>⟨List.Pairwise.nil,λ_ hm=>(nomatch hm)⟩⟩,h2,h3,h4⟩
section
variable{prog:Program}{w:World}{A:Around}{E:Cm}{s:Shared}{K:Frag}
def Qmk(h:Heap)(L d:Addr):List (Addr×Obj):=(List.range h.objs.size).filterMap λa=>if a=L∨a=d then none else (h.get? a).map λo=>(a,o)
end
end Att
namespace L2
open PySem PySem.Spec PyProof.Rows
theorem uw:∀{vs:List Value}{ns:List Int},IntsAre vs ns->Vals (ns.map V.int) vs
 |_,_,.nil=>.nil
 |_,_,.cons n t h=>.cons ⟨t,rfl⟩ (uw h)
def CP(H:Hp):Prop:=∀b,H b=none∨∃o xs,H b=some (.frz o (.lst xs))
theorem Qfa{P:Program}{w:World}{K:Ae}{mg S:Co}{CX:CXT}{k:Nat}{fa a:Addr}{fd:FuncData}{x:Str}{sp:Sp}{s₁:Shared}{vs:List Value}{ns:List Int}
    (KX:K.In s₁.heap) (G:s₁.heap.Ns mainGlobals mg) (i:s₁.heap.Ns builtinsNs S) (Q:∀x:Str,x ≠ "__name__" -> S x=bootBuiltins x) (hlim:s₁.heap.NoLimit) (hg:s₁.gens = #[])
    (ha:s₁.heap.get? a=some { cls:=.type "list", data:=.seq vs.toArray }) (hi:IntsAre vs ns) (hl:ns.length<=sizeLine) (hr:Room k callerA)
    (F:∀O8:Heap,K.In O8->O8.Ns mainGlobals mg->Y4 P w K mg O8 CX k fa fd [x] sp) (hbind:∀(s:Shared)(u:Value),BindsTo s fd ⟨[u],[]⟩ [(x,u)])
    (hsp:∀H:Hp,CP H->SqL K H a (ns.map V.int)->sp [.ref a] H (λv _=>v=.bl true) λ_ _ _=>False)
    (hCX:∀H e s',CX [] H s₁ (λ_ _ _=>False) e s'->False) :
    codeAny (model P w) callerA (.call (.ref fa) ⟨[.ref a],[]⟩) (λr s'=>r=.ok (.ret (.bool true))/\OldK s₁.heap s'.heap/\s'.os=s₁.os/\AllBare s'.gens) s₁:=by
  have Z:=uw hi;have J:=hi.length;have y:∀H:Hp,CP H->SqL K H a (ns.map V.int)->HOk P w H s₁.heap->(∀b,H b≠none->b=a)->(H a≠none->K.lookup a=none) ->
      codeAny (model P w) callerA (.call (.ref fa) ⟨[.ref a],[]⟩) (λr s'=>r=.ok (.ret (.bool true))/\OldK s₁.heap s'.heap/\s'.os=s₁.os/\AllBare s'.gens) s₁:=by
    intro H Y hS hok X hK;have c:∀{b:Addr}{o:Obj},s₁.heap.get? b=some o->H b=none->(gq s₁.heap H).get? b=some o:=λe n=>Qe0 e n;have T:∀{b:Addr}{o:Obj}{es:Array DictEntry}{C:Nat},s₁.heap.get? b=some o->o.data=.dict es C->H b=none:=λ{b o es C} e d=>by
      cases q:H b with
      |none=>rfl
      |some u=>have O:b=a:=X b (by rw[q];simp);subst O;rw[ha]at e;cases e;have d':Data.seq vs.toArray _=Data.dict es C:=d;cases d'
    have j:∀{b:Addr}{m:Co},s₁.heap.Ns b m->(gq s₁.heap H).Ns b m:=λ{b m} ⟨o,es,C,e,d,r⟩=>⟨o,es,C,c e (T e d),d,r⟩;have E:K.In (gq s₁.heap H):=λb o e=>c (KX b o e) (by
      cases q:H b with
      |none=>rfl
      |some u=>have O:b=a:=X b (by rw[q];simp);subst O;rw[hK (by rw[q];simp)]at e;cases e)
    have hM:Mod K mg (gq s₁.heap H):=⟨E,j G,⟨S,j i,Q⟩,let ⟨mc,h1,h2⟩:=hlim;⟨mc,j h1,h2⟩⟩;have e0:Env0 P w K mg (gq s₁.heap H) callerA [] s₁ H:=⟨rfl,hM,λb o e=>Qhl e,Nat.le_of_eq (Qdu _ _),trivial,λb i=>absurd (show b∈([]:Cr)from i) (by simp),hok,.of_eq hg⟩;refine codeAny_mono ((F _ E (j G)).run callerA [] s₁ H ⟨[.ref a],[]⟩ [.ref a] [.ref a] _ _ hr e0 (hbind s₁ (.ref a)) (.cons rfl .nil) (hsp H Y hS)) λr s' h=>?_;cases r with
    |error e=>exact(hCX H e s' h).elim
    |ok fl =>
      cases fl with
      |next=>exact False.elim h
      |brk=>exact False.elim h
      |cont=>exact False.elim h
      |ret u =>
        obtain⟨v,H',os,bare,un,I,r',q⟩:=h;have q':v=.bl true:=q;subst q';obtain rfl:u=Value.bool true:=r';refine⟨rfl,OldK.of_keep λb o e=>?_,os,bare⟩;cases q:H b with
        |none=>exact un.keep b o e q (by intro z;exact absurd (show b∈([]:Cr)from z) (by simp)) (by simp)
        |some u =>
          rcases Y b with z|⟨ob,xs,z⟩
          . rw[q]at z;cases z
          . have z2:=un.frzs b ob _ z
            obtain⟨U,_⟩:=hok b _ z;obtain⟨e2,_⟩:=I b _ z2;rw[e]at U;cases U;exact e2
  cases R:K.lookup a with
  |some o=>have e:=KX a o R;rw[ha]at e;cases e;refine y (λ_=>none) (λ_=>.inl rfl) (.inr ⟨_,vs.toArray,_,R,rfl,rfl,rfl,by rw[Aq,J];exact hl,by simpa using Z⟩) (λb u z=>by have L:(none:Option HO)=some u:=z;cases L) (λb z=>absurd rfl z) λz=>absurd rfl z
  |none =>
    refine y (λb=>if b=a then some (.frz { cls:=.type "list", data:=.seq vs.toArray } (.lst (ns.map V.int)))else none) (λb=>?_) (.inl (.inr ⟨{ cls:=.type "list", data:=.seq vs.toArray },Cf rfl⟩)) (λb u z=>?_) (λb z=>?_) λ_=>R
    . by_cases i:b=a
      . exact .inr ⟨_,_,Cf i⟩
      . exact .inl (Ce i)
    . by_cases i:b=a
      . have L:=(Cf i).symm.trans z
        cases L;subst i;exact⟨ha,by rw[Bm];exact hl,vs,_,Z,ha⟩
      . have L:=(Ce i).symm.trans z
        cases L
    . by_cases i:b=a
      . exact i
      . exact absurd (Ce i) z
theorem Qc6{l:PySem.W.OpenLaw}{n k:Nat}{q:Program}{j:List Str}{C:(Co)->Heap->Prop}{z:World->Heap->Prop}{d:DefRec}{K:Params->Ae}{CX:World->CXT}{sp:World->Sp}{x:Str}
    (hn:l.most=some n) (hn2:n<=sizeLine) (hdf:d.params.defaults=[]) (hr:Room k callerA)
    (hY:∀(w:World)(h:Heap),z w h->(K w.params).In h)
    (F:∀(w:World)(mg:Co)(fa:Addr)(h:Heap),(K w.params).In h->h.Ns mainGlobals mg->mg d.name=some (.ref fa) ->
      ∃fd : FuncData, (∀(s : Shared)(u : Value), BindsTo s fd ⟨[u], []⟩ [(x, u)]) /\
        ∀O8:Heap,(K w.params).In O8->O8.Ns mainGlobals mg->Y4 l.prog w (K w.params) mg O8 (CX w) k fa fd [x] (sp w))
    (hsp:∀(w:World)(H:Hp)(a:Addr)(ns:List Int),ns.length<=n->CP H->SqL (K w.params) H a (ns.map V.int)->sp w [.ref a] H (λv _=>v=.bl true) λ_ _ _=>False)
    (hCX:∀(w:World)(H:Hp)(s:Shared)(e:Value)(s':Shared),CX w [] H s (λ_ _ _=>False) e s'->False) :
    PySem.W.WalkO q j C z l.row.toRowW d [] (λf vs=>PySem.call f vs):=by
  refine Att.attach_call hn hdf λw s₀ s₁ mg U fa o X R E a vs ns G Y S hd P r m i c Q=>?_;have y:=hY w _ Y;obtain⟨fd,O,I⟩:=F w mg fa _ y G.T.g r;exact Qfa y G.T.g G.T.b G.T.builtins G.T.nolimit Q m i (Bj c hn2) hr I O (λH J L=>hsp w H a ns c J L) λH e s'=>hCX w H s₁ e s'
end L2
/- THE LAST THEOREM (shape; LID, My.* are yours):
   My.Adr: a structure of the addresses that your layer names (classes,functions);My.Txt K t: a structure (Prop) of the equations over K;
   My.txt_mk:{K} {implicit addresses ..} (e1:nsIn K mainGlobals "law" = some (some (.ref f))) (e2:K.lookup f=some ⟨oc,od,.func (fnOf "law" "law" params body scope dV kV doc pm an cdv ct),sl⟩) (e3:codeIn K cdv "law" = true) ..:∃t,My.Txt K t
set_option maxRecDepth 100000 in
set_option maxHeartbeats 0 in
theorem PySem.Challenge.cw_LID_holds : PySem.Challenge.rw_LID.Holds := by
 w_on;o_law;k_head;(case hw=>w_witness2)
 k_fill
 refine L2.Qc6 (l:=PySem.Challenge.rw_LID) (n:=63) (k:=40) (x := "script") (CX:=fun w=>..) (sp:=fun _=>My.sp_law) rfl (by decide) rfl ⟨rfl,by decide,by decide⟩ (fun w h Y=>PySem.W.kIn_of Y) ?F ?S ?C
 case F =>
  intro w mg fa h KX G hmg;have T:∃t,My.Txt (L2.KOf KX) t:=by
   dsimp only[L2.KOf]                          -- K must stand as «<heap const> w.params» for k_is
   refine' My.txt_mk ?e1 ?e2 ?e3 ..
   (case e1=>PySem.W.k_is)                    -- in the order: a name->its address->its object->its parts
   (case e2=>PySem.W.k_is)
   ..
  obtain⟨t,T⟩:=T;have e0:=hmg.symm.trans (PySem.W.mg_of KX G T.law);cases e0                                       -- fa is the law's own address;exact⟨_,λs u=>.of_eq rfl,λO8 kb nb=>My.law_fn T kb nb⟩     -- if «.of_eq rfl» comes too early: refine' ⟨_,?b,λO8 kb nb=>My.law_fn T kb nb⟩;exact λs u=>.of_eq rfl
 case S=>exact λw H a ns hl hO hS=>..
 case C=>exact ..
(the tactic k_is has no namespace: write k_is) -/
namespace L2
open PySem PySem.Spec PyProof.Rows
def Zc(s:Stmt)(j:Nat):Stmt:=match s with
 |.ClassDef _ _ _ a _ _ _ _ _ _ _=>a.getD j (.Pass ⟨0,0,0,0⟩)
 |_=>.Pass ⟨0,0,0,0⟩
def J5(s:Stmt):Arguments:=match s with
 |.FunctionDef _ a _ _ _ _ _ _ _ _=>a
 |_=>{ posonlyargs:=[],args:=[],vararg:=none,kwonlyargs:=[],kw_defaults:=[],kwarg:=none,defaults:=[] }
def ZM(s:Stmt):List Stmt:=match s with
 |.FunctionDef _ _ b _ _ _ _ _ _ _=>b
 |_=>[]
def Qp(s:Stmt):Scope:=match s with
 |.FunctionDef _ _ _ _ _ _ a _ _ _=>a
 |_=>{ kind:=.function,names:=[],isGenerator:=false,isCoroutine:=false }
abbrev CX0:CXT:=λ_ _ _ _ _ _=>False
abbrev E0:XK:=λ_ _ _=>False
def QA{X:Cx}:Xs CX0 X E0:=λ_ _ _ _ _ _ _ h=>h.elim
structure Fun(K:Ae)(x qual:Str)(st:Stmt)(f:Addr)(fd:FuncData):Prop where
 ex:∃(oc:Value)(od:Option Addr)(kV doc pm:Value)(an:Option Addr)(cdv ct:Value)(osl:Array (Option Value)),
  fd=PySem.W.fnOf x qual (J5 st) (ZM st) (Qp st) .none kV doc pm an cdv ct/\K.lookup f=some ⟨oc,od,.func fd,osl⟩/\PySem.W.codeIn K cdv qual=true
 kp:PySem.W.keepIn K (.ref f)=true
section
variable{P:Program}{w:World}{K:Ae}{mg:Co}{O8:Heap}
theorem Fun.ok{x a:Str}{st:Stmt}{f:Addr}{fd:FuncData}{N ps:List Str}{k:Nat}{sp:Sp}(F:Fun K x a st f fd)(S:Qu N ps (Qp st))(len:∀vs H Q E,sp vs H Q E->vs.length=ps.length)
  (hbody:∀(c:Value)(A:Around)(outer:List Env)(s:Shared)(H:Hp)(vs:List V)(Q:VK)(E:XK),Room k (A.deeper (envOfC a (Qp st) s.heap.objs.size f c))->sp vs H Q E ->
   ∃t,PSs (qF CX0 P w K mg O8 N a (Qp st) f c A outer s H E).nox (ZM st) t/\t { nx:=λ_ H'=>Q .non H',rt:=Q } (start N vs) H):Y4 P w K mg O8 CX0 (k+1) f fd ps sp:=by
 obtain⟨r,od,kV,i,u,o,c,ct,n,rfl,m,d⟩:=F.ex;refine Iu m d S len λA outer s H vs Q E j e=>?_;obtain⟨t,h,q⟩:=hbody c A outer s H vs Q E j e;exact⟨t,h.nox,q⟩
theorem Fun.binds{x a:Str}{st:Stmt}{f:Addr}{fd:FuncData}{ps:List Str}(F:Fun K x a st f fd)
  (h:∀(kV d i:Value)(e:Option Addr)(c ct:Value)(us:List Value),us.length=ps.length->bindArgs (PySem.W.fnOf x a (J5 st) (ZM st) (Qp st) .none kV d i e c ct) ⟨us,[]⟩=pure (ps.zip us)):Binds K fd ps []:=by
 obtain⟨o,od,kV,d,i,e,c,ct,m,rfl,n,j⟩:=F.ex;exact .all (h kV d i e c ct)
theorem gf{x a:Str}{st:Stmt}{f:Addr}{n:Value}{od j:Option Addr}{i:Array (Option Value)}{kV e m d ct:Value}(l:K.lookup f=some ⟨n,od,.func (PySem.W.fnOf x a (J5 st) (ZM st) (Qp st) .none kV e m j d ct),i⟩)
  (c:PySem.W.codeIn K d a=true) (k:PySem.W.keepIn K (.ref f)=true):Fun K x a st f (PySem.W.fnOf x a (J5 st) (ZM st) (Qp st) .none kV e m j d ct):=⟨⟨n,od,kV,e,m,j,d,ct,i,rfl,l,c⟩,k⟩
end
theorem QO{A:Around}{k:Nat}(a:Room k A):A.units+1<cLine:=Bq (Nat.add_le_add_left (by decide:1<=64) _) a.units
section
variable{X:Cx}
end
theorem vj{A B:Prop}(h:B):if false=true then A else B:=by rw[Ce Br];exact h
theorem KH{A B:Prop}(h:A):if true=true then A else B:=by rw[Cf rfl];exact h
end L2
set_option maxHeartbeats 4000000
namespace L2
open PySem PySem.Spec PyProof.Rows
section
variable{κ:Type}[DecidableEq κ]
def zg(kvs:List (κ×V))(k:κ):Option V:=(kvs.find? λa=>decide (a.1=k)).map (·.2)
def jh(kvs:List (κ×V))(k:κ)(v:V):List (κ×V) :=
 if (kvs.any λa=>decide (a.1=k))=true then kvs.map (λa=>if a.1=k then (a.1,v)else a)else kvs++[(k,v)]
theorem GJ{p:κ×V}{r:List (κ×V)}{k:κ}(e:p.1=k):zg (p::r) k=some p.2:=by simp[zg,Bt,e]
theorem GI{p:κ×V}{r:List (κ×V)}{k:κ}(e:¬ p.1=k):zg (p::r) k=zg r k:=by simp[zg,Bt,e]
theorem Ry(k:κ):∀kvs:List (κ×V),(kvs.any λa=>decide (a.1=k))=(zg kvs k).isSome
  | []=>rfl
  |p::r=>by
    rw[Bz];by_cases e:p.1=k
    . simp only[GJ e,Ch e,Bool.true_or,Option.isSome_some]
    . rw[GI e,Cj e,Bool.false_or];exact Ry k r
theorem jA(kvs:List (κ×V))(k:κ)(v:V):(jh kvs k v).length<=kvs.length+1:=by
 unfold jh;split
 ·rw[Bm];lia
 ·rw[Ap,Be,List.length_nil];lia
theorem RelO.isSome_eq{o:Option V}{u:Option Value}(r:RelO o u):o.isSome=u.isSome:=by
  cases o with
  |none=>cases u with
    |none=>rfl
    |some _=>exact(show False from r).elim
  |some _=>cases u with
    |none=>exact(show False from r).elim
    |some _=>rfl
theorem RelO.getD{o:Option V}{u:Option Value}{d:V}{d':Value}(r:RelO o u)(rd:RelV d d'):RelV (o.getD d) (u.getD d'):=by
  cases o with
  |none=>cases u with
    |none=>exact rd
    |some _=>exact(show False from r).elim
  |some _=>cases u with
    |none=>exact(show False from r).elim
    |some _=>exact r
theorem KV.val{kvs:List (κ×V)}{vs:List (κ×Value)}(r:KV kvs vs)(k:κ):RelO (zg kvs k) (valueAt vs k):=by
  unfold KV at r;induction r with
  |nil=>exact True.intro
  |@cons p q ps c h t d =>
    obtain⟨h1,h2⟩:=h;by_cases e:p.1=k
    . have a:q.1=k:=h1.symm.trans e
      have b:valueAt (q::c) k=some q.2:=by simp[valueAt,Bt,a]
      rw[GJ e,b];exact h2
    . have a:¬ q.1=k:=λz=>e (h1.trans z)
      have b:valueAt (q::c) k=valueAt c k:=by simp[valueAt,Bt,a]
      rw[GI e,b];exact d
theorem KV.any{kvs:List (κ×V)}{vs:List (κ×Value)}(r:KV kvs vs)(k:κ):(kvs.any λa=>decide (a.1=k))=vs.any λa=>decide (a.1=k):=by
 unfold KV at r;induction r with
 |nil=>rfl
 |cons h t c=>rw[Bz,Bz,c,h.1]
theorem KV.repl{kvs:List (κ×V)}{vs:List (κ×Value)}(r:KV kvs vs)(k:κ){y:V}{u:Value}(d:RelV y u) :
    KV (kvs.map λa=>if a.1=k then (a.1,y)else a) (vs.map λa=>if a.1=k then (a.1,u)else a):=by
  unfold KV at r ⊢;induction r with
  |nil=>exact .nil
  |@cons p q ps i h t c =>
    rw[Bf,Bf];refine .cons ?_ c;obtain⟨h1,h2⟩:=h;by_cases e:p.1=k
    . rw[Cf e,Cf (h1.symm.trans e)];exact⟨h1,d⟩
    . rw[Ce e,Ce (λz=>e (h1.trans z))];exact⟨h1,h2⟩
theorem KV.put{kvs:List (κ×V)}{vs:List (κ×Value)}(r:KV kvs vs)(k:κ){y:V}{u:Value}(a:RelV y u):KV (jh kvs k y) (stored vs k u):=by
 unfold jh stored;rw[r.any k];by_cases e:(vs.any λc=>decide (c.1=k))=true
 ·rw[Cf e,Cf e];exact r.repl k a
 ·rw[Ce e,Ce e];exact Paired.snoc r ⟨rfl,a⟩
def KV.length{kvs:List (κ×V)}{vs:List (κ×Value)}(r:KV kvs vs):kvs.length=vs.length:=Paired.length r
end
theorem KI{P:Program}{w:World}{k:Key}{u:Value}(r:RelV (kV k) u):(ZR P w).is k u=true:=by
 cases k with
 |inl i=>obtain⟨t,e⟩:=(show ∃t,u=Value.int i t from r);subst e;exact Qai P w i t
 |inr x=>obtain⟨t,e⟩:=(show ∃t,u=Value.str x t from r);subst e;exact Qaj P w x t
theorem vQ{P:Program}{w:World}:∀{ks:List Key}{us:List Value},Vals (ks.map kV) us->ItemsAre (ZR P w) ks us
  | [],_,r=>by rw[List.map_nil]at r;cases r;exact .nil
  |k::ks,_,r=>by
    rw[Bf]at r;cases r with
    |cons h t=>exact .cons (KI h) (vQ t)
abbrev KT(H:Hp):List (List Key×V)->List (List Key×Addr×Value)->Prop:=Paired λp q=>p.1=q.1/\H q.2.1=some (.tup (p.1.map kV))/\RelV p.2 q.2.2
theorem KT.val{H:Hp}{kvs:List (List Key×V)}{xs:List (List Key×Addr×Value)}(r:KT H kvs xs)(k:List Key):RelO (zg kvs k) ((atKey xs k).map (·.2)):=by
  induction r with
  |nil=>exact True.intro
  |@cons p q ps c h t d =>
    obtain⟨h1,_,h2⟩:=h;by_cases e:p.1=k
    . have a:q.1=k:=h1.symm.trans e
      have b:atKey (q::c) k=some q.2:=by simp[atKey,Bt,a]
      rw[GJ e,b];exact h2
    . have a:¬ q.1=k:=λz=>e (h1.trans z)
      have b:atKey (q::c) k=atKey c k:=by simp[atKey,Bt,a]
      rw[GI e,b];exact d
theorem KT.repl{H:Hp}{kvs:List (List Key×V)}{xs:List (List Key×Addr×Value)}(r:KT H kvs xs)(k:List Key){y:V}{u:Value}(d:RelV y u) :
    KT H (kvs.map λa=>if a.1=k then (a.1,y)else a) (xs.map (putAt k u)):=by
  induction r with
  |nil=>exact .nil
  |@cons p q ps i h t c =>
    rw[Bf,Bf];refine .cons ?_ c;obtain⟨h1,h2,h3⟩:=h;unfold putAt;by_cases e:p.1=k
    . rw[Cf e,Cf (h1.symm.trans e)];exact⟨h1,h2,d⟩
    . rw[Ce e,Ce (λz=>e (h1.trans z))];exact⟨h1,h2,h3⟩
theorem KT.put{H:Hp}{kvs:List (List Key×V)}{xs:List (List Key×Addr×Value)}(r:KT H kvs xs)(k:List Key){b:Addr}{y:V}{u:Value}(c:H b=some (.tup (k.map kV)))(a:RelV y u) :
  KT H (jh kvs k y) (storedH xs k b u):=by
 have e:(kvs.any λd=>decide (d.1=k))=(atKey xs k).isSome:=by rw[Ry,(r.val k).isSome_eq,Option.isSome_map]
 unfold jh storedH;rw[e];by_cases q:(atKey xs k).isSome=true
 ·rw[Cf q,Cf q];exact r.repl k a
 ·rw[Ce q,Ce q];exact Paired.snoc r ⟨rfl,c,a⟩
theorem KT.keeps{H H':Hp}{kvs:List (List Key×V)}{xs:List (List Key×Addr×Value)}(r:KT H kvs xs)(a:∀b ys,H b=some (.tup ys)->H' b=some (.tup ys)):KT H' kvs xs :=
 Paired.mapP r λ_ _ z=>⟨z.1,a _ _ z.2.1,z.2.2⟩
section
variable{P:Program}{w:World}{H:Hp}{h:Heap}{a:Addr}
def Lh{u:HO}(ok:HOk P w H h)(e:Rd H a u):ObjOk P w H h a u:=e.ok ok
theorem Ko{kvs:List (Key×V)}(ok:HOk P w H h)(e:Rd H a (.dK kvs)):kvs.length<=sizeLine/\(a==sysModules)=false/\∃vs,KV kvs vs/\h.DictOf (ZR P w) a vs :=
 show ObjOk P w H h a (.dK kvs)from Lh ok e
def D0{kvs:List (Key×V)}(ok:HOk P w H h)(e:H a=some (.dK kvs)):kvs.length<=sizeLine/\(a==sysModules)=false/\∃vs,KV kvs vs/\h.DictOf (ZR P w) a vs:=Ko ok (.inl e)
theorem VB{ks:List Key}(ok:HOk P w H h)(e:H a=some (.tup (ks.map kV))):(tupleKind (ZR P w)).is h ks a:=by obtain⟨_,c,r,o,h1,h2,n,h3⟩:=(show ObjOk P w H h a (.tup (ks.map kV))from ok a _ e);exact⟨o,c.toArray,n,h1,h2,h3,by simpa using vQ r⟩
theorem vM{kvs:List (List Key×V)}(ok:HOk P w H h)(e:Rd H a (.dT kvs)):kvs.length<=sizeLine/\(a==sysModules)=false /\
    ∃xs,KT H kvs xs/\h.DictOfH (tupleKind (ZR P w)) a xs:=by
  obtain⟨z,y,xs,r,o,es,d,h1,h2,h3,h4,h5⟩:=(show ObjOk P w H h a (.dT kvs)from Lh ok e);refine⟨z,y,xs,r,o,es,d,h1,h2,h3,h4,λx hx=>?_,h5⟩;have all:∀{l:List (List Key×V)}{m:List (List Key×Addr×Value)},KT H l m->∀x∈m,(tupleKind (ZR P w)).is h x.1 x.2.1:=by
    intro l m q;induction q with
    |nil=>intro x hx;exact nomatch hx
    |@cons p q ps j c t i =>
      intro x hx;rcases Bk.mp hx with e|hx
      . subst e
        exact VB ok (by rw[<- c.1];exact c.2.1)
      . exact i x hx
  exact all r x hx
theorem Z7{kvs:List (List Key×V)}(ok:HOk P w H h)(e:H a=some (.dT kvs)):kvs.length<=sizeLine/\(a==sysModules)=false /\
  ∃xs,KT H kvs xs/\h.DictOfH (tupleKind (ZR P w)) a xs:=vM ok (.inl e)
end
def DGet(H:Hp)(a:Addr)(y:V)(r:Option V):Prop :=
 (∃kvs k,Rd H a (.dK kvs)/\y=kV k/\r=zg kvs k)∨∃kvs k b,Rd H a (.dT kvs)/\y=.ref b/\H b=some (.tup (k.map kV))/\r=zg kvs k
def DPut(H:Hp)(a:Addr)(y v:V)(c:Hp):Prop :=
 (∃kvs k,H a=some (.dK kvs)/\y=kV k/\kvs.length<sizeLine/\c=upd H a (.dK (jh kvs k v))) ∨
 ∃kvs k b,H a=some (.dT kvs)/\y=.ref b/\H b=some (.tup (k.map kV))/\kvs.length<sizeLine/\c=upd H a (.dT (jh kvs k v))
def DGet.k{H:Hp}{a:Addr}{kvs:List (Key×V)}{k:Key}(e:H a=some (.dK kvs)):DGet H a (kV k) (zg kvs k):=.inl ⟨kvs,k,.inl e,rfl,rfl⟩
def DPut.k{H:Hp}{a:Addr}{kvs:List (Key×V)}{k:Key}{v:V}(e:H a=some (.dK kvs))(c:kvs.length<sizeLine):DPut H a (kV k) v (upd H a (.dK (jh kvs k v))):=.inl ⟨kvs,k,e,rfl,c,rfl⟩
section
variable{X:Cx}{O9:Cn}{σ:St}{H:Hp}{s:Shared}{a:Addr}{y v:V}{u r:Value}{o:Option V}{A:Around}{E:Cm}
theorem Inv.big(I:Inv X O9 σ H s):sysModules<s.heap.objs.size:=by have h:mainGlobals<s.heap.objs.size:=(I.mod.glob.keeps I.bk).lt;exact Nat.lt_trans (by decide) h
theorem Qdj{Q:Cm}(C:A.units+1<cLine)(I:Inv X O9 σ H s)(g:DGet H a y (some v))(q:RelV y u)(h:∀i s',Inv X O9 σ H s'->RelV v i->Q i s') :
  wpAny (model X.prog X.w) A (getItem (.ref a) u) Q E s:=by
 rcases g with ⟨kvs,k,e,j,l⟩|⟨kvs,k,b,e,j,x,l⟩
 ·subst j;obtain⟨z,hd,vs,c,dd⟩:=Ko I.hok e;obtain⟨i,n,d⟩:=RelO.some_of (v:=v) (o:=valueAt vs k) (by rw[l];exact c.val k);exact wpAny_getItem_of (KI q) dd.mapOf n (h i _ (I.tok _) d)
 ·subst j;cases (show u=Value.ref b from q);obtain⟨z,hd,xs,c,dd⟩:=vM I.hok e;obtain⟨i,n,d⟩:=RelO.some_of (v:=v) (o:=(atKey xs k).map (·.2)) (by rw[l];exact c.val k);obtain⟨p,hp,m⟩:=Bv.mp n;refine wpAny_getItem_heap (tupleKind_room_in1 C) (VB I.hok x) dd hp ?_;rw[m];exact h i _ (I.tok _) d
theorem QgN{Q:Cm}(m:A.units+1<cLine)(I:Inv X O9 σ H s)(g:DGet H a y o)(i:RelV y u)(h:∀s',Inv X O9 σ H s'->Q (.bool (!o.isSome)) s') :
  wpAny (model X.prog X.w) A (compareOp .NotIn u (.ref a)) Q E s:=by
 rcases g with ⟨kvs,k,e,d,l⟩|⟨kvs,k,b,e,d,j,l⟩
 ·subst d;obtain⟨z,hd,vs,c,dd⟩:=Ko I.hok e;refine wpAny_notIn_of (KI i) hd dd.mapOf ?_;rw[<- (c.val k).isSome_eq,<- l];exact h _ (I.tok _)
 ·subst d;cases (show u=Value.ref b from i);obtain⟨z,hd,xs,c,dd⟩:=vM I.hok e;refine wpAny_notIn_heap (tupleKind_room_in1 m) (VB I.hok j) hd dd ?_;have q:=(c.val k).isSome_eq;rw[Option.isSome_map]at q;rw[<- q,<- l];exact h _ (I.tok _)
theorem Ob{h':Heap}{t':Nat}{ob:HO}(I:Inv X O9 σ H s)(i:Mut (H a))(hs:Heap.SameBut a s.heap h')(d:∃q,h'.get? a=some q)(new:ObjOk X.prog X.w (upd H a ob) h' a ob) :
  Inv X O9 σ (upd H a ob) { s with heap:=h',toks:=t' } :=
 I.write (x:=a) (e:=a) i (.inl rfl) (λb q c z=>(hs.2 b c).trans z) d new
theorem Ng{P:Program}{w:World}{d:Hp}{h':Heap}{kvs:List (Key×V)}{vs:List (Key×Value)}(z:kvs.length<=sizeLine)(hd:(a==sysModules)=false)(c:KV kvs vs)(dd:h'.DictOf (ZR P w) a vs) :
  ObjOk P w d h' a (.dK kvs):=⟨z,hd,vs,c,dd⟩
theorem Qdk{C:Hp}{Q:Unit->Shared->Prop}(R:A.units+1<cLine)(I:Inv X O9 σ H s)(g:DPut H a y v C)(L:RelV y u)(J:RelV v r)(h:∀s',Inv X O9 σ C s'->Q () s') :
  wpAny (model X.prog X.w) A (setItem (.ref a) u r) Q E s:=by
 rcases g with ⟨kvs,k,e,n,l,m⟩|⟨kvs,k,b,e,n,F,l,m⟩
 ·subst n m;obtain⟨z,hd,vs,d,dd⟩:=D0 I.hok e;have hz:vs.length<=sizeLine:=by rw[<- d.length];exact z
  have x:(jh kvs k v).length<=sizeLine:=by have:=jA kvs k v;lia
  refine wpAny_setItem_pairs (hsz:=hz) (KI L) dd λh' i hs=>h _ ?_;have P:∃q,h'.get? a=some q:=let ⟨q,_,_,j,_⟩:=i;⟨q,j⟩;exact Ob I (by rw[e];exact True.intro) hs P (Ng x hd (d.put k J) i)
 ·subst n m;cases (show u=Value.ref b from L);obtain⟨z,hd,xs,d,dd⟩:=Z7 I.hok e;have hz:xs.length<=sizeLine:=by rw[<- Paired.length d];exact z
  have x:(jh kvs k v).length<=sizeLine:=by have:=jA kvs k v;lia
  refine wpAny_setItem_heap (hsz:=hz) (tupleKind_room_in1 R) (VB I.hok F) dd λh' i hs=>h _ ?_;obtain⟨q,es,O,j,h2,h3,h4,_,h5⟩:=i;refine Ob I (by rw[e];exact True.intro) hs ⟨q,j⟩ ⟨x,hd,_,(d.put k F J).keeps λc ys G=>?_,q,es,O,j,h2,h3,h4,h5⟩;rw[QS (MW G e (λz=>nomatch z))];exact G
end
section
variable{X:Cx}{O9:Cn}{σ:St}{H:Hp}{s:Shared}{a:Addr}{kvs:List (Key×V)}{k:Key}{u:Value}{A:Around}{E:Cm}
theorem D5{Q:Cm}(I:Inv X O9 σ H s)(e:Rd H a (.dK kvs))(h:∀t s',Inv X O9 σ H s'->Q (.int kvs.length t) s'):wpAny (model X.prog X.w) A (call (.builtin "len") [.ref a]) Q E s:=by obtain⟨z,hd,vs,c,dd⟩:=Ko I.hok e;refine call_len_dict hd dd (by rw[<- c.length];rw[sizeLine_eq]at z;lia) ?_;rw[<- c.length];exact h _ _ (I.tok _)
end
theorem kO{X:Cx}{c:Cn}{σ:St}{H:Hp}{s:Shared}{a:Addr}{y:V}{o:Option V}(I:Inv X c σ H s)(g:DGet H a y o):s.TypeIs (.ref a) "dict" := by
 rcases g with ⟨kvs,k,e,_,_⟩|⟨kvs,k,b,e,_,_,_⟩
 ·obtain⟨_,_,vs,_,dd⟩:=Ko I.hok e;exact dd.typeIs
 ·obtain⟨_,_,xs,_,dd⟩:=vM I.hok e;exact dd.typeIs
section
variable{X:Cx}{o i e value:Expr}{pos pos' tpos:Pos}{td ty tv:TE}
end
theorem QeC{P:Program}{w:World}{H:Hp}(h:Heap)(a:sysModules<h.objs.size):ObjOk P w H (h.push { cls:=.type "dict", data:=.dict #[] }) h.objs.size (.dK []) :=
 ⟨Bh _,beq_eq_false_iff_ne.mpr (Ne.symm (Bi a)),[],.nil,Heap.DictOf.new h⟩
section
variable{X:Cx}{pos:Pos}
end
def jC(kvs more:List (Key×V)):List (Key×V):=more.foldl (λacc a=>jh acc a.1 a.2) kvs
theorem KV.merge:∀{more:List (Key×V)}{a:List (Key×Value)}{kvs:List (Key×V)}{vs:List (Key×Value)},KV more a->KV kvs vs->KV (jC kvs more) (merged vs a):=by
  intro more a kvs vs r;unfold KV at r;induction r generalizing kvs vs with
  |nil=>intro q;exact q
  |@cons p q ps i h t c =>
    intro d;have e:KV (jh kvs p.1 p.2) (stored vs q.1 q.2):=by have:=d.put p.1 h.2;rw[<- h.1];exact this
    exact c e
theorem xJ:∀(more kvs:List (Key×V)),(jC kvs more).length<=kvs.length+more.length
  | [],kvs=>by show kvs.length<=kvs.length+0;lia
  |p::r,kvs=>by have h1:=xJ r (jh kvs p.1 p.2);have h2:=jA kvs p.1 p.2;show(jC (jh kvs p.1 p.2) r).length<=_;rw[Be];lia
structure M1(X:Cx)(o:Expr)(m:Str)(apos:Pos)(e:Expr)(cpos:Pos):Prop where
 O8:attributeBase o m X.env (eval o X.env)=eval o X.env
 few:((backTo cpos (starEach [e] X.env)).all (λx=>!x.1)&&(backToKw cpos (keywordEach [] X.env)).all (λx=>x.1.isSome)
  && decide (([e]:List Expr).length+([]:List Keyword).length+(if ([]:List Keyword).isEmpty then 0 else 1)<30))=true
 line:(apos.endLine==cpos.line)=true
 trees:backTo cpos (starEach [e] X.env)=[(false,eval e X.env)]
section
variable{X:Cx}{O9:Cn}{σ:St}{H:Hp}{s:Shared}{a:Addr}{y d:V}{u r:Value}{o:Option V}{A:Around}{E:Cm}
theorem Qi1{Q:Cm}(q:A.units+1<cLine)(I:Inv X O9 σ H s)(g:DGet H a y o)(j:RelV y u)(h:∀m s',Inv X O9 σ H s'->RelV (o.getD .non) m->Q m s') :
  wpAny (model X.prog X.w) A (call (.builtin "dict.get") [.ref a,u]) Q E s:=by
 rcases g with ⟨kvs,k,e,i,l⟩|⟨kvs,k,b,e,i,n,l⟩
 ·subst i;obtain⟨z,hd,vs,c,dd⟩:=Ko I.hok e;refine call_meetsIn PySem.F.slot_dict_get dd.typeIs PySem.F.entry_dict_get (PySem.F.args_dict_get_2 _ _) (meets_dict_get (ZR X.prog X.w) a (KI j) hd) ⟨_,dd.mapOf,h _ _ (I.tok _) ?_⟩;rw[l];exact(c.val k).getD rfl
 ·subst i;cases (show u=Value.ref b from j);obtain⟨z,hd,xs,c,dd⟩:=vM I.hok e;refine call_meetsIn PySem.F.slot_dict_get dd.typeIs PySem.F.entry_dict_get (PySem.F.args_dict_get_2 _ _) (meetsH_dict_get (tupleKind (ZR X.prog X.w)) a b hd) ⟨tupleKind_room_in1 q,k,xs,VB I.hok n,dd,h _ _ (I.tok _) ?_⟩;rw[l];exact(c.val k).getD rfl
theorem Qi2{Q:Cm}(q:A.units+1<cLine)(I:Inv X O9 σ H s)(g:DGet H a y o)(j:RelV y u)(rd:RelV d r)(h:∀m s',Inv X O9 σ H s'->RelV (o.getD d) m->Q m s') :
  wpAny (model X.prog X.w) A (call (.builtin "dict.get") [.ref a,u,r]) Q E s:=by
 rcases g with ⟨kvs,k,e,i,l⟩|⟨kvs,k,b,e,i,n,l⟩
 ·subst i;obtain⟨z,hd,vs,c,dd⟩:=Ko I.hok e;refine call_meetsIn PySem.F.slot_dict_get dd.typeIs PySem.F.entry_dict_get (PySem.F.args_dict_get_3 _ _ _) (meets_dict_get_default (ZR X.prog X.w) a (KI j) hd r) ⟨_,dd.mapOf,h _ _ (I.tok _) ?_⟩;rw[l];exact(c.val k).getD rd
 ·subst i;cases (show u=Value.ref b from j);obtain⟨z,hd,xs,c,dd⟩:=vM I.hok e;refine call_meetsIn PySem.F.slot_dict_get dd.typeIs PySem.F.entry_dict_get (PySem.F.args_dict_get_3 _ _ _) (meetsH_dict_get_default (tupleKind (ZR X.prog X.w)) a b hd r) ⟨tupleKind_room_in1 q,k,xs,VB I.hok n,dd,h _ _ (I.tok _) ?_⟩;rw[l];exact(c.val k).getD rd
end
section
variable{X:Cx}{o e f:Expr}{apos cpos:Pos}{td ty tx:TE}
end
section
variable{X:Cx}{O9:Cn}{σ:St}{H:Hp}{s:Shared}{a:Addr}{kvs:List (Key×V)}{A:Around}{E:Cm}
end
section
variable{X:Cx}{O9:Cn}{σ:St}{H:Hp}{s:Shared}{a:Addr}{y:V}{u:Value}{A:Around}{E:Cm}
end
section
variable{X:Cx}
theorem Qdh:CallR X (.builtin "len") (λxs H Q=>∃a kvs,xs=[V.ref a]/\H a=some (.dK kvs)/\Q (.int kvs.length) H):=by intro e s σ H xs us Q I r h;obtain⟨a,kvs,rfl,ha,q⟩:=h;obtain⟨u,rfl,d⟩:=Y3 r;cases d;exact D5 I (.inl ha) λt s' c=>⟨.int kvs.length,H,c,⟨t,rfl⟩,q⟩
end
section
variable{κ:Type}[DecidableEq κ]
end
end L2
namespace D
open PySem PySem.Spec PyProof.Rows L2
abbrev St:=L2.St
inductive DV where
 |non|bl (b:Bool)|int (i:Int)|str (x:Str)|tup (xs:List DV)|lst (xs:List DV)|ref (i:Nat)
inductive OV where
 |lst (xs:List DV)
 |aH (kvs:List (Key×DV))
 |ins (c:Str) (fs:List (Str×DV))
abbrev Hs:=List OV
abbrev M:=StateT Hs Option
abbrev Cs:=List DV->M DV
mutual
def au(K:Ae)(ρ:Cr)(B:Cq)(H:Hp):DV->V->Prop
 |.non,v=>v=.non
 |.bl b,v=>v=.bl b
 |.int i,v=>v=.int i
 |.str x,v=>v=.str x
 |.tup ds,v=>∃a xs,v=.ref a/\¬ B a/\SqT K H a xs/\ak K ρ B H ds xs
 |.lst ds,v=>∃a xs,v=.ref a/\¬ B a/\SqL K H a xs/\ak K ρ B H ds xs
 |.ref i,v=>∃a,v=.ref a/\ρ[i]?=some a
def ak(K:Ae)(ρ:Cr)(B:Cq)(H:Hp):List DV->List V->Prop
 | [],xs=>xs=[]
 |d::ds,xs=>∃x r,xs=x::r/\au K ρ B H d x/\ak K ρ B H ds r
end
def aP(K:Ae)(ρ:Cr)(B:Cq)(H:Hp)(a:Addr):OV->Prop
 |.lst ds=>∃xs,H a=some (.lst xs)/\ak K ρ B H ds xs
 |.aH kvs=>∃xs:List (Key×V),H a=some (.dK xs)/\xs.map (·.1)=kvs.map (·.1)/\ak K ρ B H (kvs.map (·.2)) (xs.map (·.2))
 |.ins c fs=>∃(C d:Addr)(xs:List (Str×V)),PySem.W.nsIn K mainGlobals c=some (some (.ref C))/\H a=some (.ins C d xs)/\xs.map (·.1)=fs.map (·.1)/\ak K ρ B H (fs.map (·.2)) (xs.map (·.2))
structure Gr(K:Ae)(ρ:Cr)(B:Cq)(H:Hp)(ρ':Cr)(B':Cq)(H':Hp):Prop where
 pre:ρ <+: ρ'
 ban:∀a,B a->B' a
 new:∀a,B' a->B a∨(H a=none/\K.lookup a=none)
 bF:∀a∈ρ',a∈ρ∨H a=none
 keep:∀a o,a∉ρ->H a=some o->H' a=some o
 trk:∀a,H' a=none->H a=none
structure aM(K:Ae)(ρ:Cr)(B:Cq)(hp:Hs)(H:Hp):Prop where
 len:ρ.length=hp.length
 nd:ρ.Nodup
 obj:∀(i:Nat)(a:Addr)(o:OV),ρ[i]?=some a->hp[i]?=some o->aP K ρ B H a o
 rb:∀a∈ρ,B a
 bt:∀a,B a->H a≠none
 bk:∀a,B a->K.lookup a=none
section
variable{K:Ae}{ρ ρ' ρ'':Cr}{B B' B'':Cq}{H H' m9:Hp}
def Gr.refl:Gr K ρ B H ρ B H:=⟨Bw,λ_ h=>h,λ_ h=>.inl h,λ_ h=>.inl h,λ_ _ _ h=>h,λ_ h=>h⟩
theorem Gr.trans(a:Gr K ρ B H ρ' B' H')(b:Gr K ρ' B' H' ρ'' B'' m9):Gr K ρ B H ρ'' B'' m9 where
 pre:=a.pre.trans b.pre
 ban:=λx h=>b.ban x (a.ban x h)
 new:=λx h=>(b.new x h).elim (a.new x) λz=>.inr ⟨a.trk x z.1,z.2⟩
 bF:=λx h=>(b.bF x h).elim (a.bF x) λz=>.inr (a.trk x z)
 keep:=λx o hn h=>b.keep x o (λz=>(a.bF x z).elim hn (λz=>by rw[h]at z;cases z)) (a.keep x o hn h)
 trk:=λx h=>a.trk x (b.trk x h)
structure Gs(K:Ae)(ρ:Cr)(B:Cq)(H:Hp)(ρ':Cr)(B':Cq)(H':Hp):Prop where
 pre:ρ <+: ρ'
 new:∀a,B' a->B a∨(H a=none/\K.lookup a=none)
 keep:∀a o,¬ B a->H a=some o->H' a=some o
 trk:∀a,H' a=none->H a=none
def Gr.gs(rb:∀a∈ρ,B a)(g:Gr K ρ B H ρ' B' H'):Gs K ρ B H ρ' B' H':=⟨g.pre,g.new,λa o c h=>g.keep a o (λz=>c (rb a z)) h,g.trk⟩
def Gs.refl:Gs K ρ B H ρ B H:=⟨Bw,λ_ h=>.inl h,λ_ _ _ h=>h,λ_ h=>h⟩
theorem Gs.trans(a:Gs K ρ B H ρ' B' H')(b:Gs K ρ' B' H' ρ'' B'' m9):Gs K ρ B H ρ'' B'' m9 where
 pre:=a.pre.trans b.pre
 new:=λx h=>(b.new x h).elim (a.new x) λz=>.inr ⟨a.trk x z.1,z.2⟩
 keep:=λx o c h=>b.keep x o (λz=>(a.new x z).elim c λq=>by rw[h]at q;cases q.1) (a.keep x o c h)
 trk:=λx h=>a.trk x (b.trk x h)
theorem SqT.trk{a:Addr}{xs:List V}(h:SqT K H a xs):H a≠none∨∃o,K.lookup a=some o:=by
 rcases h with (h|⟨o,h⟩)|⟨o,_,_,h,_⟩
 ·exact .inl (by rw[h];simp)
 ·exact .inl (by rw[h];simp)
 ·exact .inr ⟨o,h⟩
theorem SqL.trk{a:Addr}{xs:List V}(h:SqL K H a xs):H a≠none∨∃o,K.lookup a=some o:=by
 rcases h with (h|⟨o,h⟩)|⟨o,_,_,h,_⟩
 ·exact .inl (by rw[h];simp)
 ·exact .inl (by rw[h];simp)
 ·exact .inr ⟨o,h⟩
theorem Gs.ok{a:Addr}(g:Gs K ρ B H ρ' B' H')(c:¬ B a)(t:H a≠none∨∃o,K.lookup a=some o):¬ B' a:=λz =>
 (g.new a z).elim c λ⟨n,k⟩=>t.elim (λq=>q n) λ⟨o,q⟩=>by rw[k]at q;cases q
theorem Gs.rH{a:Addr}{xs:List V}(g:Gs K ρ B H ρ' B' H')(c:¬ B a)(h:SqT K H a xs):SqT K H' a xs:=by
 rcases h with (h|⟨o,h⟩)|h
 ·exact .inl (.inl (g.keep _ _ c h))
 ·exact .inl (.inr ⟨o,g.keep _ _ c h⟩)
 ·exact .inr h
theorem Gs.Fg{a:Addr}{xs:List V}(g:Gs K ρ B H ρ' B' H')(c:¬ B a)(h:SqL K H a xs):SqL K H' a xs:=by
 rcases h with (h|⟨o,h⟩)|h
 ·exact .inl (.inl (g.keep _ _ c h))
 ·exact .inl (.inr ⟨o,g.keep _ _ c h⟩)
 ·exact .inr h
theorem Ph{i:Nat}{a:Addr}(p:ρ <+: ρ')(h:ρ[i]?=some a):ρ'[i]?=some a:=by obtain⟨t,rfl⟩:=p;rw[Aj (Ag.mp h).1];exact h
mutual
theorem au.gs(g:Gs K ρ B H ρ' B' H'):∀(d:DV)(v:V),au K ρ B H d v->au K ρ' B' H' d v
  |.non,_,h=>by unfold au at h ⊢;exact h
  |.bl _,_,h=>by unfold au at h ⊢;exact h
  |.int _,_,h=>by unfold au at h ⊢;exact h
  |.str _,_,h=>by unfold au at h ⊢;exact h
  |.ref _,_,h=>by unfold au at h ⊢;obtain⟨a,e,h⟩:=h;exact⟨a,e,Ph g.pre h⟩
  |.tup ds,_,h=>by unfold au at h ⊢;obtain⟨a,xs,e,c,i,j⟩:=h;exact⟨a,xs,e,g.ok c (SqT.trk i),g.rH c i,ak.gs g ds xs j⟩
  |.lst ds,_,h=>by unfold au at h ⊢;obtain⟨a,xs,e,c,i,j⟩:=h;exact⟨a,xs,e,g.ok c (SqL.trk i),g.Fg c i,ak.gs g ds xs j⟩
theorem ak.gs(g:Gs K ρ B H ρ' B' H'):∀(ds:List DV)(xs:List V),ak K ρ B H ds xs->ak K ρ' B' H' ds xs
  | [],_,h=>by unfold ak at h ⊢;exact h
  |d::ds,_,h=>by unfold ak at h ⊢;obtain⟨x,r,e,h1,h2⟩:=h;exact⟨x,r,e,au.gs g d x h1,ak.gs g ds r h2⟩
end
def au.grow(rb:∀a∈ρ,B a)(g:Gr K ρ B H ρ' B' H')(d:DV)(v:V)(h:au K ρ B H d v):au K ρ' B' H' d v:=au.gs (g.gs rb) d v h
def ak.grow(rb:∀a∈ρ,B a)(g:Gr K ρ B H ρ' B' H')(ds:List DV)(xs:List V)(h:ak K ρ B H ds xs):ak K ρ' B' H' ds xs:=ak.gs (g.gs rb) ds xs h
theorem ak.length:∀{ds:List DV}{xs:List V},ak K ρ B H ds xs->ds.length=xs.length
  | [],_,h=>by unfold ak at h;subst h;rfl
  |d::ds,_,h=>by unfold ak at h;obtain⟨x,r,rfl,_,h2⟩:=h;simp[ak.length h2]
theorem ak.get:∀{ds:List DV}{xs:List V}{i:Nat}{d:DV},ak K ρ B H ds xs->ds[i]?=some d->∃x,xs[i]?=some x/\au K ρ B H d x
  | [],_,_,_,_,e=>by simp at e
  |d::ds,_,0,_,h,e=>by unfold ak at h;obtain⟨x,r,rfl,h1,_⟩:=h;simp at e;subst e;exact⟨x,rfl,h1⟩
  |d::ds,_,i+1,_,h,e=>by unfold ak at h;obtain⟨x,r,rfl,_,h2⟩:=h;obtain⟨y,h3,h4⟩:=ak.get h2 (by simpa using e);exact⟨y,by simpa using h3,h4⟩
theorem ak.nil:ak K ρ B H [] []:=by unfold ak;rfl
theorem ak.cons{d:DV}{x:V}{ds:List DV}{xs:List V}(h:au K ρ B H d x)(t:ak K ρ B H ds xs):ak K ρ B H (d::ds) (x::xs):=by unfold ak;exact⟨x,xs,rfl,h,t⟩
theorem ak.append:∀{ds es:List DV}{xs ys:List V},ak K ρ B H ds xs->ak K ρ B H es ys->ak K ρ B H (ds++es) (xs++ys)
  | [],_,_,_,h,t=>by unfold ak at h;subst h;exact t
  |d::ds,_,_,_,h,t=>by unfold ak at h;obtain⟨x,r,rfl,h1,h2⟩:=h;exact ak.cons h1 (ak.append h2 t)
def ak.one{d:DV}{x:V}(h:au K ρ B H d x):ak K ρ B H [d] [x]:=ak.cons h ak.nil
theorem ak.take:∀(n:Nat){ds:List DV}{xs:List V},ak K ρ B H ds xs->ak K ρ B H (ds.take n) (xs.take n)
  |0,_,_,_=>by simp;exact ak.nil
  |_+1,[],_,h=>by unfold ak at h;subst h;simp;exact ak.nil
  |n+1,d::ds,_,h=>by unfold ak at h;obtain⟨x,r,rfl,h1,h2⟩:=h;exact ak.cons h1 (ak.take n h2)
theorem ak.drop:∀(n:Nat){ds:List DV}{xs:List V},ak K ρ B H ds xs->ak K ρ B H (ds.drop n) (xs.drop n)
  |0,_,_,h=>h
  |_+1,[],_,h=>by unfold ak at h;subst h;simp;exact ak.nil
  |n+1,d::ds,_,h=>by unfold ak at h;obtain⟨x,r,rfl,h1,h2⟩:=h;exact ak.drop n h2
theorem Gr.laid{p:Addr}{o:HO}(h:H p=none):Gr K ρ B H ρ B (upd H p o) where
 pre:=Bw
 ban:=λ_ h=>h
 new:=λ_ h=>.inl h
 bF:=λ_ h=>.inl h
 keep:=λa u _ q=>by rw[QS (Zz q h)];exact q
 trk:=λa q=>by
  by_cases e:a=p
  ·subst e;rw[QU]at q;cases q
  ·rw[QS e]at q;exact q
theorem aP.gs{a:Addr}{o:OV}(g:Gs K ρ B H ρ' B' H')(j:H' a=H a)(h:aP K ρ B H a o):aP K ρ' B' H' a o:=by
  cases o with
  |lst ds=>obtain⟨xs,e,d⟩:=h;exact⟨xs,j.trans e,ak.gs g _ _ d⟩
  |aH kvs=>obtain⟨xs,e,i,d⟩:=h;exact⟨xs,j.trans e,i,ak.gs g _ _ d⟩
  |ins c fs=>obtain⟨C,m,xs,n,e,i,d⟩:=h;exact⟨C,m,xs,n,j.trans e,i,ak.gs g _ _ d⟩
theorem aM.laid{hp:Hs}{p:Addr}{o:HO}(W:aM K ρ B hp H)(h:H p=none):aM K ρ B hp (upd H p o) where
 len:=W.len
 nd:=W.nd
 obj:=λi a u e q=>aP.gs ((Gr.laid h).gs W.rb) (by have c:=W.bt a (W.rb a (Ax e));exact QS (λz=>c (z▸h))) (W.obj i a u e q)
 rb:=W.rb
 bt:=λa z q=>W.bt a z ((Gr.laid (K:=K) (ρ:=ρ) (B:=B) h).trk a q)
 bk:=W.bk
end
inductive Sl where
 |un|val (d:DV)|acc (ds:List DV)
abbrev En:=List Sl
structure Ent where
 ρ:List Addr
 B:Addr->Prop
 H:Hp
structure bw(K:Ae)(Z:Ent)(env:En)(σ:St)(ρ:Cr)(B:Cq)(hp:Hs)(H:Hp):Prop where
 gr:Gr K Z.ρ Z.B Z.H ρ B H
 zb:∀a,Z.B a->Z.H a≠none
 wo:aM K ρ B hp H
 slot:∀(i:Nat)(d:DV),env[i]?=some (.val d)->∃v,σ[i]?=some (some v)/\au K ρ B H d v
 cB:∀(i:Nat)(ds:List DV),env[i]?=some (.acc ds)->∃a xs,σ[i]?=some (some (.ref a))/\H a=some (.lst xs)/\Z.H a=none/\B a/\a∉ρ/\ak K ρ B H ds xs
 cP:∀(i j:Nat)(ds es:List DV)(a:Addr),env[i]?=some (.acc ds)->env[j]?=some (.acc es)->σ[i]?=some (some (.ref a))->σ[j]?=some (some (.ref a))->i=j
 len:σ.length=env.length
theorem bw.grow{K:Ae}{Z:Ent}{env:En}{σ:St}{ρ ρ':Cr}{B B':Cq}{hp c:Hs}{H H':Hp}(S:bw K Z env σ ρ B hp H)(g:Gr K ρ B H ρ' B' H')(W:aM K ρ' B' c H'):bw K Z env σ ρ' B' c H' where
 gr:=S.gr.trans g
 zb:=S.zb
 wo:=W
 slot:=λi d e=>let ⟨v,h1,h2⟩:=S.slot i d e;⟨v,h1,au.grow S.wo.rb g d v h2⟩
 cB:=λi ds e=>by
  obtain⟨a,xs,h1,h2,h3,h4,h5,j⟩:=S.cB i ds e;refine⟨a,xs,h1,g.keep a _ h5 h2,h3,g.ban a h4,λz=>?_,ak.grow S.wo.rb g ds xs j⟩;rcases g.bF a z with q|q
  ·exact h5 q
  ·rw[h2]at q;cases q
 cP:=S.cP
 len:=S.len
abbrev aD:=En->M DV
abbrev bH:=En->M Bool
abbrev aW:=En->M (List DV)
inductive Fl where
 |nx|rt (d:DV)|bk|ct
abbrev aB:=En->M (Fl×En)
def fu(K:Ae)(ρ:Cr)(B:Cq)(H:Hp)(d:DV)(a:Hs)(Q:VK):Prop :=
 ∀v ρ' B' H',Gr K ρ B H ρ' B' H'->aM K ρ' B' a H'->au K ρ' B' H' d v->Q v H'
def HN(K:Ae)(ρ:Cr)(B:Cq)(H:Hp)(a:Hs)(Q:Hp->Prop):Prop :=
 ∀ρ' B' H',Gr K ρ B H ρ' B' H'->aM K ρ' B' a H'->Q H'
def HZ(K:Ae)(ρ:Cr)(B:Cq)(H:Hp)(ds:List DV)(a:Hs)(Q:List V->Hp->Prop):Prop :=
 ∀vs ρ' B' H',Gr K ρ B H ρ' B' H'->aM K ρ' B' a H'->ak K ρ' B' H' ds vs->Q vs H'
def tD(K:Ae)(f:aD):TE:=λσ H Q=>∃Z env ρ B hp d a,bw K Z env σ ρ B hp H/\f env hp=some (d,a)/\fu K ρ B H d a Q
def cX(K:Ae)(f:bH):TT:=λσ H Q=>∃Z env ρ B hp d a,bw K Z env σ ρ B hp H/\f env hp=some (d,a)/\HN K ρ B H a (Q d)
def cY(K:Ae)(f:aW):TA:=λσ H Q=>∃Z env ρ B hp ds a,bw K Z env σ ρ B hp H/\f env hp=some (ds,a)/\HZ K ρ B H ds a Q
def DE(X:Cx)(e:Expr)(f:aD):Prop:=PE X e (tD X.K f)
def DT(X:Cx)(e:Expr)(f:bH):Prop:=PT X e (cX X.K f)
def DW(X:Cx)(e:Expr)(f:bH):Prop:=PW X e (cX X.K f)
def DA(X:Cx)(es:List Expr)(f:aW):Prop:=PA X es (cY X.K f)
def lA(K:Ae)(Z:Ent)(ρ:Cr)(B:Cq)(H:Hp)(fl:Fl)(a:En)(c:Hs)(D:U2):Prop :=
  ∀σ' ρ' B' H', Gs K ρ B H ρ' B' H' -> bw K Z a σ' ρ' B' c H' -> match fl with
    |.nx=>D.nx σ' H'
    |.bk=>D.bk σ' H'
    |.ct=>D.ct σ' H'
    |.rt d=>∀v,au K ρ' B' H' d v->D.rt v H'
def iW(K:Ae)(f:aB):TS:=λD σ H=>∃Z env ρ B hp fl a c,bw K Z env σ ρ B hp H/\f env hp=some ((fl,a),c)/\lA K Z ρ B H fl a c D
def DS(X:Cx)(st:Stmt)(f:aB):Prop:=PS X st (iW X.K f)
def fL(X:Cx)(st:List Stmt)(f:aB):Prop:=PSs X st (iW X.K f)
section
variable{X:Cx}
def _root_.L2.PE.imp{e:Expr}{t t':TE}(h:PE X e t)(i:∀σ H Q,t' σ H Q->t σ H Q):PE X e t':=λa s σ H Q I q=>h a s σ H Q I (i σ H Q q)
def _root_.L2.PT.imp{e:Expr}{t t':TT}(h:PT X e t)(i:∀σ H Q,t' σ H Q->t σ H Q):PT X e t':=λa s σ H Q I q=>h a s σ H Q I (i σ H Q q)
def _root_.L2.PW.imp{e:Expr}{t t':TT}(h:PW X e t)(i:∀σ H Q,t' σ H Q->t σ H Q):PW X e t':=λa O9 s σ H Q I q=>h a O9 s σ H Q I (i σ H Q q)
def _root_.L2.PA.imp{es:List Expr}{t t':TA}(h:PA X es t)(i:∀σ H Q,t' σ H Q->t σ H Q):PA X es t':=λa O9 s σ H Q I q=>h a O9 s σ H Q I (i σ H Q q)
def _root_.L2.PS.imp{st:Stmt}{t t':TS}(h:PS X st t)(i:∀a σ H,t' a σ H->t a σ H):PS X st t':=λc s σ H a I q=>h c s σ H a I (i a σ H q)
def _root_.L2.PSs.imp{st:List Stmt}{t t':TS}(h:PSs X st t)(i:∀a σ H,t' a σ H->t a σ H):PSs X st t':=λc s σ H a I q=>h c s σ H a I (i a σ H q)
def kC(K:Ae)(H:Hp):Prop:=∀a o,H a=some o->K.lookup a=none
theorem Inv.iC{c:Cn}{σ:St}{H:Hp}{s:Shared}(I:Inv X c σ H s):kC X.K H:=λa o e=>by
  cases q:X.K.lookup a with
  |none=>rfl
  |some ob=>have:=(I.bs a ob (I.ok.mod.kin a ob q)).2;rw[e]at this;cases this
theorem _root_.L2.PE.kf{e:Expr}{t:TE}(h:PE X e t):PE X e (λσ H Q=>t σ H λv a=>kC X.K a->Q v a):=λc s σ H Q I q =>
 thn (h c s σ H _ I q) λu s' ⟨v,a,I',r,z⟩=>⟨v,a,I',r,z (Inv.iC I')⟩
theorem Qg{α β:Type}{f:M α}{g:α->M β}{hp a:Hs}{y:β}(h:(f >>= g) hp=some (y,a)):∃x hp1,f hp=some (x,hp1)/\g x hp1=some (y,a):=by
 change (f hp).bind (λp=>g p.1 p.2)=some (y,a)at h;cases q:f hp with
 |none=>rw[q]at h;cases h
 |some p=>rw[q]at h;exact⟨p.1,p.2,rfl,h⟩
theorem Qm{α:Type}{x y:α}{hp a:Hs}(h:(pure x:M α) hp=some (y,a)):x=y/\hp=a:=by change some (x,hp)=some (y,a)at h;cases h;exact⟨rfl,rfl⟩
theorem tD.run{K:Ae}{f:aD}{Z:Ent}{env:En}{σ:St}{ρ:Cr}{B:Cq}{hp hp1:Hs}{H:Hp}{d:DV}{Q:VK}(S:bw K Z env σ ρ B hp H)(e:f env hp=some (d,hp1))
  (k:∀v ρ' B' H',Gr K ρ B H ρ' B' H'->bw K Z env σ ρ' B' hp1 H'->au K ρ' B' H' d v->Q v H'):tD K f σ H Q :=
 ⟨Z,env,ρ,B,hp,d,hp1,S,e,λv ρ' B' H' g W r=>k v ρ' B' H' g (S.grow g W) r⟩
def Qb(i:Nat):aD:=λenv=>match env[i]? with
 |some (.val d)=>pure d
 |_=>failure
def eC(d:DV):aD:=λ_=>pure d
theorem Qdr{i:Nat}{env:En}{hp a:Hs}{d:DV}(h:Qb i env hp=some (d,a)):env[i]?=some (.val d)/\hp=a:=by
  unfold Qb at h;cases q:env[i]? with
  |none=>rw[q]at h;cases h
  |some z =>
    rw[q]at h;cases z with
    |val x=>obtain⟨rfl,rfl⟩:=Qm h;exact⟨rfl,rfl⟩
    |un=>cases h
    |acc _=>cases h
theorem Qa(i:Nat){x:Str}{a:Pos}(m:X.N[i]?=some x:=by rfl)(o:Vis X.env.scope x:=by first|exact Or.inl rfl|exact Or.inr (Or.inl rfl)|exact Or.inr (Or.inr rfl))(hd:(x==("__debug__" : Str))=false:=by decide)
  (hcd:(x==("__classdict__" : Str))=false:=by decide):DE X (.Name x a) (Qb i) :=
 (DY m o hd hcd).imp λσ H Q c=>by obtain⟨Z,env,ρ,B,hp,d,n,S,e,k⟩:=c;obtain⟨j,rfl⟩:=Qdr e;obtain⟨v,h1,h2⟩:=S.slot i d j;exact⟨v,h1,k v ρ B H Gr.refl S.wo h2⟩
theorem jp{e:Expr}{d:DV}{v:V}(h:PE X e (tC v))(r:∀K ρ B H,au K ρ B H d v):DE X e (eC d) :=
 h.imp λσ H Q a=>by obtain⟨Z,env,ρ,B,hp,d',c,S,e,k⟩:=a;obtain⟨rfl,rfl⟩:=Qm e;exact k v ρ B H Gr.refl S.wo (r _ _ _ _)
theorem Qq{i:Int}{j pos}:DE X (.Constant (.int i) j pos) (eC (.int i)):=jp SA λ_ _ _ _=>by unfold au;rfl
theorem xC{b:Bool}{j pos}:DE X (.Constant (.bool b) j pos) (eC (.bl b)):=jp ME λ_ _ _ _=>by unfold au;rfl
theorem ZJ{j pos}:DE X (.Constant .none j pos) (eC .non):=jp Sz λ_ _ _ _=>by unfold au;rfl
theorem Qw{x:Str}{j pos}:DE X (.Constant (.str x) j pos) (eC (.str x)):=jp Ms λ_ _ _ _=>by unfold au;rfl
theorem QgO{x:Str}{i:Int}{t:Tok}{a:Pos}(c:Gl X x)(hm:X.mg x=some (.int i t))(hd:(x==("__debug__" : Str))=false:=by decide):DE X (.Name x a) (eC (.int i)) :=
 jp (gL (v:=.int i) c hm ⟨t,rfl⟩ hd) λ_ _ _ _=>by unfold au;rfl
def nu(K:Ae)(g:DV->DV->M DV):R2:=λx y H Q=>∃ρ B hp c e d a,aM K ρ B hp H/\au K ρ B H c x/\au K ρ B H e y/\g c e hp=some (d,a)/\fu K ρ B H d a Q
def P2(X:Cx)(f:Value->Value->Sem Value)(g:DV->DV->M DV):Prop:=OpR X f (nu X.K g)
def Qi(g:DV->DV->M DV)(a b:aD):aD:=λenv=>do let x <- a env;let y <- b env;g x y
variable{a b c:Expr}{fa fb fc:aD}{pos:Pos}
theorem jq{K:Ae}{g:DV->DV->M DV}{σ:St}{H:Hp}{Q:VK}(h:tD K (Qi g fa fb) σ H Q):tOp (nu K g) (tD K fa) (tD K fb) σ H Q:=by obtain⟨Z,env,ρ,B,hp,d,i,S,e,k⟩:=h;obtain⟨x,hp1,n,o⟩:=Qg e;obtain⟨y,j,q,z⟩:=Qg o;refine tD.run S n λv ρ1 B1 H1 g1 S1 C=>tD.run S1 q λu ρ2 m H2 g2 S2 E=>?_;exact⟨ρ2,m,j,x,y,d,i,S2.wo,au.grow S1.wo.rb g2 _ _ C,E,z,λw ρ' B' H' g W r=>k w ρ' B' H' (g1.trans (g2.trans g)) W r⟩
theorem Qs{d:Operator}{g:DV->DV->M DV}(i:P2 X (binaryOp d) g)(ha:DE X a fa)(e:DE X b fb):DE X (.BinOp a d b pos) (Qi g fa fb) :=
 (Lp i ha e).imp λ_ _ _ h=>jq h
theorem ZZ{d:CmpOp}{g:DV->DV->M DV}(i:P2 X (compareOp d) g)(ha:DE X a fa)(e:DE X b fb)(hm:behindInMarks d b=false):DE X (.Compare a [d] [b] pos) (Qi g fa fb) :=
 (Qhu i ha e hm).imp λ_ _ _ h=>jq h
def c7:DV->M Bool
 |.bl b=>pure b
 |_=>failure
def eB(f:aD):bH:=λenv=>do c7 (<- f env)
theorem qM{d:DV}{c:Bool}{hp e:Hs}(h:c7 d hp=some (c,e)):d=.bl c/\hp=e:=by
 cases d with
 |bl b=>obtain⟨rfl,rfl⟩:=Qm h;exact⟨rfl,rfl⟩
 |_=>cases h
theorem au.eU{K:Ae}{ρ:Cr}{B:Cq}{H:Hp}{b:Bool}{v:V}(h:au K ρ B H (.bl b) v):v=.bl b:=by unfold au at h;exact h
theorem au.aN{K:Ae}{ρ:Cr}{B:Cq}{H:Hp}{b:Int}{v:V}(h:au K ρ B H (.int b) v):v=.int b:=by unfold au at h;exact h
theorem au.aZ{K:Ae}{ρ:Cr}{B:Cq}{H:Hp}{b:Str}{v:V}(h:au K ρ B H (.str b) v):v=.str b:=by unfold au at h;exact h
theorem au.dZ{K:Ae}{ρ:Cr}{B:Cq}{H:Hp}{v:V}(h:au K ρ B H .non v):v=.non:=by unfold au at h;exact h
theorem au.tupI{K:Ae}{ρ:Cr}{B:Cq}{H:Hp}{ds:List DV}{v:V}(h:au K ρ B H (.tup ds) v):∃a xs,v=.ref a/\¬ B a/\SqT K H a xs/\ak K ρ B H ds xs:=by unfold au at h;exact h
theorem au.bQ{K:Ae}{ρ:Cr}{B:Cq}{H:Hp}{ds:List DV}{v:V}(h:au K ρ B H (.lst ds) v):∃a xs,v=.ref a/\¬ B a/\SqL K H a xs/\ak K ρ B H ds xs:=by unfold au at h;exact h
theorem au.oK{K:Ae}{ρ:Cr}{B:Cq}{H:Hp}{i:Nat}{v:V}(h:au K ρ B H (.ref i) v):∃a,v=.ref a/\ρ[i]?=some a:=by unfold au at h;exact h
section
variable{K:Ae}{ρ:Cr}{B:Cq}{H:Hp}
theorem ZW{b:Bool}:au K ρ B H (.bl b) (.bl b):=by unfold au;rfl
theorem Z6{b:Int}:au K ρ B H (.int b) (.int b):=by unfold au;rfl
theorem qr{b:Str}:au K ρ B H (.str b) (.str b):=by unfold au;rfl
theorem j9:au K ρ B H .non .non:=by unfold au;rfl
theorem zH{a:Addr}{ds:List DV}{xs:List V}(h1:¬ B a)(h2:SqT K H a xs)(h3:ak K ρ B H ds xs):au K ρ B H (.tup ds) (.ref a):=by unfold au;exact⟨a,xs,rfl,h1,h2,h3⟩
theorem j8{a:Addr}{ds:List DV}{xs:List V}(h1:¬ B a)(h2:SqL K H a xs)(h3:ak K ρ B H ds xs):au K ρ B H (.lst ds) (.ref a):=by unfold au;exact⟨a,xs,rfl,h1,h2,h3⟩
end
theorem Z7{e:Expr}{f:aD}(h:DE X e f)(n:∀whole,isTrue e X.env whole=(do let v <- whole;standAt e.pos;holding [v] (truthy v)):=by intro _;rfl):DT X e (eB f) :=
 (Qj9 h n).imp λσ H Q i=>by obtain⟨Z,env,ρ,B,hp,d,o,S,e,k⟩:=i;obtain⟨x,hp1,j,m⟩:=Qg e;obtain⟨rfl,rfl⟩:=qM m;exact tD.run S j λv ρ1 B1 H1 g1 S1 q=>⟨d,q.eU,k ρ1 B1 H1 g1 S1.wo⟩
theorem QN{i:CmpOp}{g:DV->DV->M DV}(q:P2 X (compareOp i) g)(ha:DE X a fa)(o:DE X b fb)(hm:behindInMarks i b=false):DT X (.Compare a [i] [b] pos) (eB (Qi g fa fb)) :=
 (QhG q ha o hm).imp λσ H Q j=>by obtain⟨Z,env,ρ,B,hp,d,r,S,e,k⟩:=j;obtain⟨x,hp1,m,n⟩:=Qg e;obtain⟨rfl,rfl⟩:=qM n;exact jq (tD.run S m λv ρ1 B1 H1 g1 S1 u=>⟨d,u.eU,k ρ1 B1 H1 g1 S1.wo⟩)
def XC(f g:bH):bH:=λenv=>do if <- f env then g env else pure false
def cJ(f g:bH):bH:=λenv=>do if <- f env then pure true else g env
def Z2(f:bH):bH:=λenv=>do let b <- f env;pure (!b)
def XZ(f g:aD):aD:=λenv=>do if <- c7 (<- f env)then g env else pure (.bl false)
def yI(f g:aD):aD:=λenv=>do if <- c7 (<- f env)then pure (.bl true)else g env
def jr(f:aD):aD:=λenv=>do let b <- c7 (<- f env);pure (.bl (!b))
def b_(c:bH)(f g:aD):aD:=λenv=>do if <- c env then f env else g env
theorem cX.run{K:Ae}{f:bH}{Z:Ent}{env:En}{σ:St}{ρ:Cr}{B:Cq}{hp hp1:Hs}{H:Hp}{d:Bool}{Q:Bool->Hp->Prop}(S:bw K Z env σ ρ B hp H)(e:f env hp=some (d,hp1))
  (k:∀ρ' B' H',Gr K ρ B H ρ' B' H'->bw K Z env σ ρ' B' hp1 H'->Q d H'):cX K f σ H Q :=
 ⟨Z,env,ρ,B,hp,d,hp1,S,e,λρ' B' H' g W=>k ρ' B' H' g (S.grow g W)⟩
variable{ca cb:bH}{rest:List Expr}
def qh(h:DT X a ca):DW X (.BoolOp .And [a] pos) ca:=QhI h
def ya(h:DT X a ca):DW X (.BoolOp .Or [a] pos) ca:=Dp h
theorem zy(ha:DT X a ca)(n:DW X (.BoolOp .And (b::rest) pos) cb):DW X (.BoolOp .And (a::b::rest) pos) (XC ca cb) :=
  (Dx ha n).imp λσ H Q j=>by
    obtain⟨Z,env,ρ,B,hp,d,o,S,e,k⟩:=j;obtain⟨x,hp1,m,i⟩:=Qg e;refine cX.run S m λρ1 B1 H1 g1 S1=>?_;cases x with
    |true=>exact KH (cX.run S1 i λρ2 B2 H2 g2 S2=>k ρ2 B2 H2 (g1.trans g2) S2.wo)
    |false=>obtain⟨rfl,rfl⟩:=Qm i;exact vj (k ρ1 B1 H1 g1 S1.wo)
theorem V1(ha:DT X a ca)(n:DW X (.BoolOp .Or (b::rest) pos) cb):DW X (.BoolOp .Or (a::b::rest) pos) (cJ ca cb) :=
  (MC ha n).imp λσ H Q j=>by
    obtain⟨Z,env,ρ,B,hp,d,o,S,e,k⟩:=j;obtain⟨x,hp1,m,i⟩:=Qg e;refine cX.run S m λρ1 B1 H1 g1 S1=>?_;cases x with
    |false=>exact vj (cX.run S1 i λρ2 B2 H2 g2 S2=>k ρ2 B2 H2 (g1.trans g2) S2.wo)
    |true=>obtain⟨rfl,rfl⟩:=Qm i;exact KH (k ρ1 B1 H1 g1 S1.wo)
def DW.pt{e:Expr}{f:bH}(h:DW X e f):DT X e f:=h _
theorem Z1(h:DT X a ca):DT X (.UnaryOp .Not a pos) (Z2 ca) :=
 (Qj8 h).imp λσ H Q i=>by obtain⟨Z,env,ρ,B,hp,d,n,S,e,k⟩:=i;obtain⟨x,hp1,j,m⟩:=Qg e;obtain⟨rfl,rfl⟩:=Qm m;exact cX.run S j λρ1 B1 H1 g1 S1=>k ρ1 B1 H1 g1 S1.wo
def uV{d:BoolOp}(h:DE X a fa):DE X (.BoolOp d [a] pos) fa:=Mt h
theorem Dy(ha:DE X a fa)(q:DE X (.BoolOp .And (b::rest) pos) fb):DE X (.BoolOp .And (a::b::rest) pos) (XZ fa fb) :=
  (LK ha q).imp λσ H Q j=>by
    obtain⟨Z,env,ρ,B,hp,d,r,S,e,k⟩:=j;obtain⟨x,hp1,m,n⟩:=Qg e;obtain⟨c,u,o,i⟩:=Qg n;obtain⟨rfl,rfl⟩:=qM o;refine tD.run S m λv ρ1 B1 H1 g1 S1 y=>⟨c,y.eU,?_⟩;cases c with
    |true=>exact KH (tD.run S1 i λv ρ2 B2 H2 g2 S2 z=>k v ρ2 B2 H2 (g1.trans g2) S2.wo z)
    |false=>obtain⟨rfl,rfl⟩:=Qm i;exact vj (k _ ρ1 B1 H1 g1 S1.wo ZW)
theorem I_(ha:DE X a fa)(q:DE X (.BoolOp .Or (b::rest) pos) fb):DE X (.BoolOp .Or (a::b::rest) pos) (yI fa fb) :=
  (Dg ha q).imp λσ H Q j=>by
    obtain⟨Z,env,ρ,B,hp,d,r,S,e,k⟩:=j;obtain⟨x,hp1,m,n⟩:=Qg e;obtain⟨c,u,o,i⟩:=Qg n;obtain⟨rfl,rfl⟩:=qM o;refine tD.run S m λv ρ1 B1 H1 g1 S1 y=>⟨c,y.eU,?_⟩;cases c with
    |false=>exact vj (tD.run S1 i λv ρ2 B2 H2 g2 S2 z=>k v ρ2 B2 H2 (g1.trans g2) S2.wo z)
    |true=>obtain⟨rfl,rfl⟩:=Qm i;exact KH (k _ ρ1 B1 H1 g1 S1.wo ZW)
theorem zN(q:DT X c ca)(ha:DE X a fa)(o:DE X b fb):DE X (.IfExp c a b pos) (b_ ca fa fb) :=
 (QfA q ha o).imp λσ H Q m=>by
  obtain⟨Z,env,ρ,B,hp,d,r,S,e,k⟩:=m;obtain⟨x,hp1,n,j⟩:=Qg e;refine cX.run S n λρ1 B1 H1 g1 S1=>?_;cases x with
  |true=>exact KH (tD.run S1 j λv ρ2 B2 H2 g2 S2 i=>k v ρ2 B2 H2 (g1.trans g2) S2.wo i)
  |false=>exact vj (tD.run S1 j λv ρ2 B2 H2 g2 S2 i=>k v ρ2 B2 H2 (g1.trans g2) S2.wo i)
def Qk:aW:=λ_=>pure []
def Qc(f:aD)(g:aW):aW:=λenv=>do let x <- f env;let xs <- g env;pure (x::xs)
theorem cY.run{K:Ae}{f:aW}{Z:Ent}{env:En}{σ:St}{ρ:Cr}{B:Cq}{hp hp1:Hs}{H:Hp}{ds:List DV}{Q:List V->Hp->Prop}(S:bw K Z env σ ρ B hp H)(e:f env hp=some (ds,hp1))
  (k:∀vs ρ' B' H',Gr K ρ B H ρ' B' H'->bw K Z env σ ρ' B' hp1 H'->ak K ρ' B' H' ds vs->Q vs H'):cY K f σ H Q :=
 ⟨Z,env,ρ,B,hp,ds,hp1,S,e,λvs ρ' B' H' g W r=>k vs ρ' B' H' g (S.grow g W) r⟩
theorem Qh:DA X [] Qk:=pa_nil.imp λσ H Q d=>by obtain⟨Z,env,ρ,B,hp,ds,i,S,e,k⟩:=d;obtain⟨rfl,rfl⟩:=Qm e;exact k [] ρ B H Gr.refl S.wo ak.nil
theorem Qd{e:Expr}{es:List Expr}{f:aD}{g:aW}(ha:DE X e f)(r:DA X es g)(hs:starEach (e::es) X.env=(false,eval e X.env)::starEach es X.env:=by rfl):DA X (e::es) (Qc f g) :=
 (ZT ha r hs).imp λσ H Q d=>by obtain⟨Z,env,ρ,B,hp,ds,o,S,e,k⟩:=d;obtain⟨x,hp1,i,j⟩:=Qg e;obtain⟨xs,q,m,n⟩:=Qg j;obtain⟨rfl,rfl⟩:=Qm n;exact tD.run S i λv ρ1 B1 H1 g1 S1 u=>cY.run S1 m λvs ρ2 B2 H2 g2 S2 y=>k _ ρ2 B2 H2 (g1.trans g2) S2.wo (ak.cons (au.grow S1.wo.rb g2 _ _ u) y)
def lim:Nat:=100000
theorem KN:lim<=sizeLine:=by decide
def Qy(c:Bool):M Unit:=if c then pure ()else failure
theorem Qz{c:Bool}{hp d:Hs}{u:Unit}(h:Qy c hp=some (u,d)):c=true/\hp=d:=by
 cases c with
 |true=>obtain⟨_,rfl⟩:=Qm (show(pure ():M Unit) hp=some (u,d)from h);exact⟨rfl,rfl⟩
 |false=>cases h
def X3(ds:List DV):Bool:=decide (ds.length<=lim)
def ze{ds:List DV}(h:X3 ds=true):ds.length<=sizeLine:=Bj (Ci h) KN
def ZD(f:aW):aD:=λenv=>do let xs <- f env;Qy (X3 xs);pure (.tup xs)
def Ja(f:aW):aD:=λenv=>do let xs <- f env;Qy (X3 xs);pure (.lst xs)
theorem jU{K:Ae}{ρ:Cr}{B:Cq}{H:Hp}{hp:Hs}{ds:List DV}{xs:List V}{Q:VK}(W:aM K ρ B hp H)(r:ak K ρ B H ds xs)(k:fu K ρ B H (.tup ds) hp Q):∀p,H p=none->Q (.ref p) (upd H p (.tup xs)):=λp d =>
 k _ ρ B _ (Gr.laid d) (W.laid d) (zH (λz=>W.bt p z d) (SqT.of QU) (ak.grow W.rb (Gr.laid d) _ _ r))
theorem qj{K:Ae}{ρ:Cr}{B:Cq}{H:Hp}{hp:Hs}{ds:List DV}{xs:List V}{Q:VK}(W:aM K ρ B hp H)(r:ak K ρ B H ds xs)(k:fu K ρ B H (.lst ds) hp Q):∀p,H p=none->Q (.ref p) (upd H p (.lst xs)):=λp d =>
 k _ ρ B _ (Gr.laid d) (W.laid d) (j8 (λz=>W.bt p z d) (SqL.of QU) (ak.grow W.rb (Gr.laid d) _ _ r))
def fu.after{K:Ae}{ρ ρ1:Cr}{B B1:Cq}{H H1:Hp}{e:Hs}{d:DV}{Q:VK}(g:Gr K ρ B H ρ1 B1 H1)(k:fu K ρ B H d e Q):fu K ρ1 B1 H1 d e Q:=λv ρ' B' H' g' W r=>k v ρ' B' H' (g.trans g') W r
theorem Zj{es:List Expr}{f:aW}{x1}(h:DA X es f):DE X (.Tuple es x1 pos) (ZD f) :=
 (Mr h).imp λσ H Q j=>by obtain⟨Z,env,ρ,B,hp,d,r,S,e,k⟩:=j;obtain⟨xs,hp1,m,n⟩:=Qg e;obtain⟨_,u,o,q⟩:=Qg n;obtain⟨hs,rfl⟩:=Qz o;obtain⟨rfl,rfl⟩:=Qm q;exact cY.run S m λvs ρ1 B1 H1 g1 S1 i=>⟨by rw[<- i.length];exact ze hs,jU S1.wo i (k.after g1)⟩
theorem YM{es:List Expr}{f:aW}(h:DA X es f):DE X (.List es pos) (Ja f) :=
 (gM h).imp λσ H Q j=>by obtain⟨Z,env,ρ,B,hp,d,r,S,e,k⟩:=j;obtain⟨xs,hp1,m,n⟩:=Qg e;obtain⟨_,u,o,q⟩:=Qg n;obtain⟨hs,rfl⟩:=Qz o;obtain⟨rfl,rfl⟩:=Qm q;exact cY.run S m λvs ρ1 B1 H1 g1 S1 i=>⟨by rw[<- i.length];exact ze hs,qj S1.wo i (k.after g1)⟩
end
end D
namespace L2
open PySem PySem.Spec PyProof.Rows
def Jx(X:Cx)(scope:Scope)(cl:List (Str×Addr))(C:Addr)(N:List Str)(s₀:Shared)(H₀:Hp)(ex:Cr):Cx where
 prog:=X.prog
 w:=X.w
 K:=X.K
 mg:=X.mg
 O8:=X.O8
 A:=X.A
 N:=N
 s₀:=s₀
 H₀:=H₀
 env:=compEnvC scope cl C X.env
 outer:=X.stack
 stack:=X.stack
 ex:=ex
 fn:=λ_=>false
 calm:=X.calm
 pn:=[]
 xe:=λ_ _=>False
def AllP{α:Type}(P:α->Prop):List α->Prop
 | []=>True
 |x::r=>P x/\AllP P r
theorem AllP.mem{α:Type}{P:α->Prop}:∀{l:List α}{x:α},AllP P l->x∈l->P x
 | [],_,_,h=>nomatch h
 |y::r,x,⟨h1,h2⟩,h=>(Bk.mp h).elim (λe=>e▸h1) λe=>AllP.mem h2 e
def cR(X:Cx)(scope:Scope)(cl:List (Str×Addr)):List Str->List Nat->Prop
  | [],[]=>True
  | y :: ys, i :: a => X.N[i]? = some y /\ (X.env.kindOf y = some .cell ∨ X.env.kindOf y = some .free) /\ (∃c, cl.lookup y = some c) /\
      (relabel scope X.env).names.lookup y≠some .local/\cR X scope cl ys a
  |_,_=>False
theorem cR.get{X:Cx}{scope:Scope}{cl:List (Str×Addr)}:∀{ys:List Str}{d:List Nat}{j:Nat}{y:Str},cR X scope cl ys d->ys[j]?=some y ->
    ∃i,d[j]?=some i/\X.N[i]?=some y/\(X.env.kindOf y=some .cell∨X.env.kindOf y=some .free)/\(∃c,cl.lookup y=some c)/\(relabel scope X.env).names.lookup y≠some .local
  | [],_,_,_,_,h=>by simp at h
  |y::ys,[],_,_,h,_=>by simp[cR]at h
  |y::ys,i::d,0,z,⟨h1,h2,h3,h4,_⟩,h=>by simp at h;subst h;exact⟨i,rfl,h1,h2,h3,h4⟩
  |y::ys,i::d,j+1,z,⟨_,_,_,_,h5⟩,h=>by obtain⟨k,a,b⟩:=cR.get h5 (by simpa using h);exact⟨k,by simpa using a,b⟩
theorem cR.length{X:Cx}{scope:Scope}{cl:List (Str×Addr)}:∀{ys:List Str}{a:List Nat},cR X scope cl ys a->ys.length=a.length
 | [],[],_=>rfl
 | [],_::_,h=>by simp[cR]at h
 |_::_,[],h=>by simp[cR]at h
 |_::ys,_::a,⟨_,_,_,_,h⟩=>by simp[cR.length h]
structure yp(X:Cx)(x:Str)(scope:Scope)(cl:List (Str×Addr))(caps:List Str)(idx:List Nat):Prop where
 clos:closureFor scope X.env=pure cl
 cell:∀y∈scope.names,y.2≠.cell
 kind:scope.kind=.function
 names:∀y∈scope.names,y.2=.local->scope.names.lookup y.1=some .local
 hx:scope.names.lookup x=some .local
 cls:AllP (λp:Str×Addr=>X.env.cells.lookup p.1=some p.2) cl
 has:((relabel scope X.env).names.all λp=>!(p.2==.cell||p.2==.free)||(cl.lookup p.1).isSome)=true
 cps:cR X scope cl caps idx
 nd:(x::caps).Nodup
def cσ(idx:List Nat)(σ:St)(o:Option V):St:=o::idx.map λi=>(σ[i]?).join
def n_(X:Cx)(a:List Expr)(t:TT):Prop :=
  ∀(O9 : List (Addr × Obj))(s : Shared)(σ : St)(H : Hp)(Q : Bool -> Hp -> Prop), Inv X O9 σ H s -> t σ H Q ->
    wpAny (model X.prog X.w) X.A (forIn a true λc r=>if r=true then do let ok <- isTrue c X.env (eval c X.env);pure (ForInStep.yield ok)else pure (ForInStep.yield r)) (TP X O9 σ Q) X.xe s
def O_{X:Cx}:n_ X [] (λ_ H Q=>Q true H):=λa s σ H Q I h=>wpAny_tests_nil ⟨H,I,h⟩
def QhH{X:Cx}{c:Expr}{t:TT}(h:PT X c t):n_ X [c] t:=λa s σ H Q I q=>wpAny_tests_one (h a s σ H Q I q)
section
variable{prog:Program}{w:World}{A:Around}{R:Result->Shared->Prop}{s:Shared}
theorem uU{d target a:Expr}{e:List Expr}{scope:Scope}{i:Pos}{j acc:Value}{env:Env}(I:Nat->Shared->Prop)
    (turn:∀n s,I n s->wpAny (model prog w) A (pyNext j) (λr s₁=>match r with
      |none=>R (.ok .next) s₁
      |some v=>wpAny (model prog w) A (letOwnedTupleGo target j v) (λ_ s₁'=>wpAny (model prog w) A (assign target env v) (λ_ s₂ =>
          wpAny (model prog w) A (forIn e true λc r=>if r=true then do let ok <- isTrue c env (eval c env);pure (ForInStep.yield ok)else pure (ForInStep.yield r)) (λok s₃ =>
            if ok=true then wpAny (model prog w) A (eval d env) (λx s₄ =>
              wpAny (model prog w) A (call (.builtin "list.append") [acc,x]) (λ_ s₅=>∃m,m<n/\I m s₅) (λ_ _=>False) s₄) (λ_ _=>False) s₃
            else ∃m,m<n/\I m s₃) (λ_ _=>False) s₂) (λ_ _=>False) s₁') (λ_ _=>False) s₁) (λ_ _=>False) s)
    (n:Nat) (h:I n s) :
    codeAny (model prog w) A (.compLoop (.ListComp d [⟨target,a,e,0⟩] scope i) 0 j acc env) R s:=by
  refine codeAny_loop rfl I (λn s hI=>?_) n h;show wpAny _ A ((compTurn (.ListComp d [⟨target,a,e,0⟩] scope i) 0 j acc env).onRaise (λx=>do noteFrame x env;theTreesLotGoes x)) _ _ s;refine wpAny_noted ?_;rw[compTurn_list];refine Cd (wpAny_standAt (Cd (wpAny_mono (turn n s hI) (λr s₁ h₁=>?_) λ_ _ h'=>h'.elim)));cases r with
  |none=>exact Cg h₁
  |some v =>
    refine Cd (wpAny_mono h₁ (λ_ s₁' h₁'=>?_) λ_ _ h'=>h'.elim);refine Cd (wpAny_mono h₁' (λ_ s₂ h₂=>Cd (wpAny_mono h₂ (λok s₃ h₃=>?_) λ_ _ h'=>h'.elim)) λ_ _ h'=>h'.elim);cases ok with
    |false=>exact Cg ⟨rfl,h₃⟩
    |true=>exact Cd (Cd (wpAny_mono h₃ (λx s₄ h₄=>Cd (wpAny_mono h₄ (λ_ s₅ h₅=>Cg (Cg ⟨rfl,h₅⟩)) λ_ _ h'=>h'.elim)) λ_ _ h'=>h'.elim))
end
def pY(K:Ae)(wi:TI)(tt:TT)(te:TE)(idx:List Nat):TE:=λσ H Q=>wi σ H λJ d=>∀D,d D=none->K.lookup D=none->∃W:Nat->Nat->List V->Hp->Prop,(∃m,W 0 m [] (upd d D (.lst []))) /\
  ∀i m ys H, W i m ys H -> H D = some (.lst ys) /\ ((J.stop i H /\ Q (.ref D) H) ∨ (J.go i H /\ ∀x H', J.yld i H x H' -> tt (cσ idx σ (some x)) H' λb H2 =>
    if b=true then te (cσ idx σ (some x)) H2 λy H3=>H3 D=some (.lst ys)/\ys.length<sizeLine/\∃a,a<m/\W (i+1) a (ys++[y]) (upd H3 D (.lst (ys++[y])))
    else ∃a,a<m/\W (i+1) a ys H2))
section
variable{X:Cx}{elt iter:Expr}{x:Str}{px:Pos}{ifs:List Expr}{scope:Scope}{cl:List (Str×Addr)}{pos:Pos}{caps:List Str}{idx:List Nat}{wi:TI}{tt:TT}{te:TE}
theorem kM{E:Cm}{use:Option (Value->Sem Unit)}{QQ:Cm}{lY:Pos}(S:yp X x scope cl caps idx)(hc:X.calm=true)(hi:PI X (.Name x px) iter wi)
    (ht:∀C s₀ H₀ ex,n_ (Jx X scope cl C (x::caps) s₀ H₀ ex) ifs tt) (he:∀C s₀ H₀ ex,PE (Jx X scope cl C (x::caps) s₀ H₀ ex) elt te)
    {O9:Cn} {s:Shared} {σ:St} {H:Hp} {Q:VK} (I:Inv X O9 σ H s) (h:pY X.K wi tt te idx σ H Q)
    (hE:X.xe=E)
    (hend:∀(D C:Addr)(L:Hp)(s':Shared)(m:Co),Inv X O9 σ L s'->Q (.ref D) L->s'.heap.Ns C m->L C=none->C≠X.env.locals->X.s₀.heap.objs.size<=C->(∀x c,X.env.cells.lookup x=some c->c≠C)->(∀p∈X.pn++O9,p.1≠C) ->
      compPost (model X.prog X.w) X.A E use QQ (.ref D) C (.ok .next) s')
    (hs:∀x,foldedSetIterable iter X.env x=pure x:=by intro _;rfl) :
    wpAny (model X.prog X.w) X.A (comprehension (.ListComp elt [⟨.Name x px,iter,ifs,0⟩] scope pos) scope X.env lY (newList []) false (eval iter X.env) use) QQ E s:=by
  subst hE;refine wpAny_comprehension_free (use:=use) rfl hs S.clos S.kind S.names (thn (hi O9 s σ H _ I h) λxv s1 h1=>thn h1 λb8 O h2=>?_);obtain⟨it,P,tn,J,H2,rfl,I2,T,ae,Y,hQ⟩:=h2;refine wpAny_newObj_type (wpAny_newFunctionEnv S.cell (by intro y hy;simp at hy) (λh₁ a8₁ a9₁=>?_) S.kind);dsimp only at a8₁ a9₁ ⊢;generalize a7:O.heap.push { cls:=.type "list", dict:=none,data:=.seq ([]:List Value).toArray }=G at a8₁ a9₁ ⊢;have hC:G.objs.size=O.heap.objs.size+1:=by rw[<- a7,Bx]
  have cM:∀b o,O.heap.get? b=some o->G.get? b=some o:=λb o e=>a7▸Ah _ e;have av:H2 O.heap.objs.size=none:=I2.hok.fresh (Ai _);have F:Inv X O9 σ (upd H2 O.heap.objs.size (.lst [])) { O with heap:=G } :=
    I2.laid (t':=O.toks) cM (Ai _) ⟨Bh _,[],_,.nil,a7▸Aw _ rfl⟩
  have wR:X.K.lookup O.heap.objs.size=none:=by
    cases q:X.K.lookup O.heap.objs.size with
    |none=>rfl
    |some o=>exact absurd (Ar (I2.kIn _ o q)) (B0 _)
  obtain⟨W,⟨m0,w0⟩,ag⟩:=hQ _ av wR;generalize wU:O.heap.objs.size=D at *;generalize fX:G.objs.size=C at *;have iQ:∀b o,G.get? b=some o->b≠C:=λb o e=>by rw[<- fX];exact Bi (Ar e)
  have bZ:∀b o,G.get? b=some o->h₁.get? b=some o:=λb o e=>a9₁.extBut b o (iQ b o e) (Ah _ e);have u_:({ O with heap:=G }:Shared).heap.objs.size=C:=fX;have eZ:∀y c,cl.lookup y=some c->X.env.cells.lookup y=some c:=λy c e=>S.cls.mem (PySem.mem_of_lookup e);have iD:∀b∈P,∃o,O.heap.get? b=some o:=λb a=>let ⟨o,e,_⟩:=T.obj _ _ ae b a;⟨o,e⟩;have pC:∀b∈P,b≠C:=λb a=>let ⟨o,e⟩:=iD b a;iQ b o (cM b o e);have wX:∀b∈P,b≠D:=λb a=>let ⟨o,e⟩:=iD b a;by rw[<- wU];exact Bi (Ar e)
  have ar:∀b∈P,(upd H2 D (.lst [])) b=none:=λb a=>by rw[QS (wX b a)];exact(Y b a).1
  have fj:∀y c,X.env.cells.lookup y=some c->c≠C:=λy c e=>let ⟨v,o,ho,_⟩:=F.cell y c e;iQ c o ho;have d9:∀b∈P,b∉frs X.stack:=λb a z=>(Bk.mp (I2.stkSub b z)).elim (Y b a).2.1 (Y b a).2.2.1
  let R:=Jx X scope cl C (x::caps) { O with heap:=G } (upd H2 D (.lst [])) P
  have ax:R.Ok:=by
    refine⟨F.ok.mod,by show(relabel scope X.env).kind=_;exact S.kind,F.ok.glob,F.ok.blt,by show G.objs.size<=C;rw[fX];exact Ai _,λy z c h1 h2=>F.ok.inj y z c (eZ y c h1) (eZ z c h2),λy hy=>?_,
      λy c z=>(by cases z),F.ok.hd,F.ok.frames,.inl rfl,λb a=>⟨pC b a,λy c e=>(Y b a).2.2.2.2.1 y c (eZ y c e)⟩,F.bs,Bj F.ok.bsz F.sz,
      λb o e a=>?_,λb a=>d9 b a,F.stack,F.stkFree⟩
    . have aw:(relabel scope X.env).names.lookup y=some .cell∨(relabel scope X.env).names.lookup y=some .free:=hy
      have q:=S.has;rw[List.all_eq_true]at q;have:(cl.lookup y).isSome=true:=by
        rcases aw with z|z
        . have q:=q _ (PySem.mem_of_lookup z);simpa using q
        . have q:=q _ (PySem.mem_of_lookup z);simpa using q
      exact Option.isSome_iff_exists.mp this
    . have:=(Y b a).2.2.2.1
      have e3:=(I2.ok.bs b o e).1;rcases this with z|z
      . exact I2.ok.noex b o e z
      . exact absurd (Az (Ar e3) z) (B0 _)
  have dR:=S.cps.length;have I4:Inv R [] (cσ idx σ none) (upd H2 D (.lst [])) { O with heap:=h₁,toks:=O.toks+([]:List (Str×Value)).length }:=by
    refine⟨ax,rfl,F.bare,Un.kept bZ,⟨_,a8₁,λi y v e1 e2 e3=>?_⟩,λy c e=>?_,?_,λy c e=>F.freeC y c (eZ y c e),λp hp=>absurd (show p∈([]:Cn)from hp) (by simp),F.hok.kept bZ,?_⟩
    . cases i with
      |zero=>exact absurd e2 (by simp[cσ])
      |succ j =>
        obtain⟨k,h1,h2,h3,⟨c,h4⟩,h5⟩:=S.cps.get (show caps[j]?=some y by have ah:(x::caps)[j+1]?=some y:=e1;simpa using ah);have Z:(σ[k]?).join=some v:=by simpa [cσ,h1]using e2
        have mK:σ[k]?=some (some v):=by
          cases q:σ[k]? with
          |none=>rw[q]at Z;cases Z
          |some z=>rw[q]at Z;exact congrArg some Z
        obtain⟨mL,Wv,hl⟩:=F.loc;have b6:Vis X.env.scope y:=by rcases h3 with z|z;exact .inr (.inl z);exact .inr (.inr z)
        obtain⟨u,r,l⟩:=hl k y v h2 mK b6;refine⟨u,r,.inr ⟨?_,c,h4,?_⟩⟩
        . have ap:(relabel scope X.env).names.lookup y=some .local∨(relabel scope X.env).names.lookup y=some .cell∨(relabel scope X.env).names.lookup y=some .free:=e3
          rcases ap with z|z|z
          . exact absurd z h5
          . exact .inl z
          . exact .inr z
        . rcases l with ⟨z,_⟩|⟨_,c',e,z⟩
          . rcases h3 with q|q <;> · rw[q]at z;cases z
          . rw[eZ y c h4]at e;cases e
            obtain⟨o,ho,hd⟩:=z;exact⟨o,bZ _ _ ho,hd⟩
    . obtain⟨v,o,ho,hd⟩:=F.cell y c (eZ y c e)
      exact⟨v,o,bZ _ _ ho,hd⟩
    . exact F.hok.fresh (by show G.objs.size<=C;rw[fX];exact Ai _)
    . simp[cσ,R,Jx,dR]
  have oF:tn 0 h₁:=T.keep _ _ _ ae λb _ o e=>bZ b o (cM b o e);have nQ:∀{L:Hp}{U:Cn},(∀b∈P,L b=none)->(U=[])->∀b∈P,Vq R U L b:=λhn e b a=>by subst e;exact⟨hn b a,pC b a,d9 b a,.inl a,λy c e=>(Y b a).2.2.2.2.1 y c (eZ y c e),λp hp=>absurd (show p∈([]:Cn)from hp) (by simp)⟩
  have a6:∀s₃:Shared,s₃={ O with heap:=h₁,toks:=O.toks+([]:List (Str×Value)).length } ->
      codeAny (model X.prog X.w) X.A (.compLoop (.ListComp elt [⟨.Name x px,iter,ifs,0⟩] scope pos) 0 (.ref it) (.ref D) (compEnvC scope cl C X.env)) (compPost (model X.prog X.w) X.A X.xe use QQ (.ref D) C) s₃:=by
    rintro s₃ rfl;refine uU (λn s'=>∃i o L ys,Inv R [] (cσ idx σ o) L s'/\tn i s'.heap/\(∀b∈P,L b=none)/\W i n ys L) ?_ m0 ⟨0,none,_,[],I4,oF,ar,w0⟩;rintro n s5 ⟨i,o,H5,ys,I5,st5,fr5,w5⟩;obtain⟨hD,tw⟩:=ag i n ys H5 w5;rcases tw with ⟨stop,q⟩|⟨go,step⟩
    . refine thn (T.done R rfl rfl rfl hc i [] s5 _ H5 _ I5 (nQ fr5 rfl) st5 stop) λr s6 ⟨hr,I6⟩=>?_
      subst hr;obtain⟨m6,nO,_⟩:=I6.loc;have I7:Inv X O9 σ H5 s6:=F.call' (s':=s6) (ch:=P) I6.os I6.O8 I6.hok I6.bare λb a=>⟨(Y b a).2.2.2.1,(Y b a).2.1,(Y b a).2.2.2.2.1,(Y b a).2.2.2.2.2⟩;refine hend D C H5 s6 m6 I7 q nO I6.free ?_ ?_ fj λp hp=>?_
      . rw[<- fX];exact Cc F.lt
      . rw[<- fX];exact F.sz
      . exact iQ p.1 p.2 (F.pin p hp).1
    . refine thn (T.item R rfl rfl rfl hc i [] s5 _ H5 _ I5 (nQ fr5 rfl) st5 go) λr s6 ⟨u,hr,h6⟩=>?_
      subst hr;refine thn h6 λ_ s7 ⟨y,H7,I7,r7,y7,lU,wW⟩=>?_;have Ef:=I7.pinned (nQ wW rfl) (T.obj _ _ lU);refine thn (UR (X:=R) (i:=0) S.nd rfl (.inl (lookup_relabel_local S.hx)) (.inr (lookup_relabel_local S.hx)) _ s7 _ H7 y u (λσ' L=>σ'=cσ idx σ (some y)/\L=H7) Ef r7 ⟨rfl,rfl⟩) λ_ s8 ⟨σ8,H8,I8,e8,wZ⟩=>?_;subst e8;subst wZ;have again:∀{H9:Hp}{s9:Shared}{ac:List V},Inv R ([]++VI P s7.heap) (cσ idx σ (some y)) H9 s9->(∃m',m'<n/\W (i+1) m' ac H9) ->
          ∃m,m<n/\∃i o L ys,Inv R [] (cσ idx σ o) L s9/\tn i s9.heap/\(∀b∈P,L b=none)/\W i m ys L:=λ{H9 s9 ac} I9 ⟨m',hm,w9⟩=>by
        refine⟨m',hm,i+1,some y,H9,ac,I9.unpinned,T.keep _ _ _ lU λb a o e=>(I9.pin (b,o) (Am _ (Am _ (X9 a e)))).1,λb a=>?_,w9⟩;obtain⟨o,e,d⟩:=T.obj _ _ lU b a;exact(I9.pin (b,o) (Am _ (Am _ (X9 a e)))).2.1
      refine thn (ht _ _ _ _ _ s8 _ H8 _ I8 (step y H8 y7)) λok s9 ⟨H9,I9,q9⟩=>?_;cases ok with
      |false=>exact again I9 (by rw[Ce Br]at q9;exact q9)
      |true=>rw[Cf rfl]at q9 ⊢;refine thn (he _ _ _ _ _ s9 _ H9 _ I9 q9) λv nA aG=>?_;obtain⟨z,rA,rm,ay,mF,ad,m',hm,b7⟩:=aG;refine thn (jW (X:=R) _ nA _ rA (.ref D) [z] (.ref D) [v] (λ_ L=>L=upd rA D (.lst (ys++[z]))) rm rfl (.cons ay .nil) ⟨D,ys,z,rfl,rfl,mF,ad,rfl⟩) λ_ U_ ⟨_,H11,Eh,_,k_⟩=>?_;subst k_;exact again Eh ⟨m',hm,b7⟩
  exact codeAny_compStart_list (a6 _ rfl) (T.self X.A 0 _ _ _ oF (a6 _ rfl))
end
section
variable{X:Cx}{elt iter:Expr}{x:Str}{px:Pos}{ifs:List Expr}{scope:Scope}{cl:List (Str×Addr)}{pos:Pos}{caps:List Str}{idx:List Nat}{wi:TI}{tt:TT}{te:TE}
theorem gK(S:yp X x scope cl caps idx)(j:X.calm=true)(hi:PI X (.Name x px) iter wi)
  (ht:∀C s₀ H₀ ex,n_ (Jx X scope cl C (x::caps) s₀ H₀ ex) ifs tt) (he:∀C s₀ H₀ ex,PE (Jx X scope cl C (x::caps) s₀ H₀ ex) elt te)
  (hs:∀x,foldedSetIterable iter X.env x=pure x:=by intro _;rfl):PE X (.ListComp elt [⟨.Name x px,iter,ifs,0⟩] scope pos) (pY X.K wi tt te idx):=by
 intro c s σ H Q I h;rw[eval_ListComp];refine kM (use:=none) S j hi ht he I h rfl (λD C a s' m I' q hn d h1 h2 h3 h4=>?_) hs;show ∃m,s'.heap.Ns C m/\∀h',Heap.SameBut C s'.heap h'->EP X c σ Q (.ref D) { s' with heap:=h' };exact⟨m,hn,λh' hs=>⟨.ref D,a,I'.turned (t':=s'.toks) (λb o i e=>hs.extBut b o i e) d (Ne.symm (Ne.symm h1)) (.inr h2) h3 h4,rfl,q⟩⟩
theorem QhF{i:Nat}{y:Str}{j d:Pos}(S:yp X x scope cl caps idx)(G:X.calm=true)(hi:PI X (.Name x px) iter wi)
  (ht:∀C s₀ H₀ ex,n_ (Jx X scope cl C (x::caps) s₀ H₀ ex) ifs tt) (he:∀C s₀ H₀ ex,PE (Jx X scope cl C (x::caps) s₀ H₀ ex) elt te)
  (hN:X.N.Nodup) (hy:X.N[i]?=some y) (hx:Loc X.env.scope y) (hsw:swapsWith (.ListComp elt [⟨.Name x px,iter,ifs,0⟩] scope pos) (some (.Name y j)) d.line X.env=pure true)
  (hf:X.fn y=true∨X.env.scope.names.lookup y=some .local:=by first|exact .inl rfl|exact .inr rfl|assumption)
  (hs:∀x,foldedSetIterable iter X.env x=pure x:=by intro _;rfl):PS X (.Assign [.Name y j] (.ListComp elt [⟨.Name x px,iter,ifs,0⟩] scope pos) d) (sV (pY X.K wi tt te idx) (tH i)):=by
 intro u s σ H D I h;rw[exec_Assign_Name_used _ _ _ _ hsw];refine Cd (wpAny_standAt (Cd ?_));show wpAny _ X.A (do let _ <- comprehension (.ListComp elt [⟨.Name x px,iter,ifs,0⟩] scope pos) scope X.env _ (newList []) false (eval iter X.env) (some (assign (.Name y j) X.env))) _ _ s;refine Cd (wpAny_mono (kM (use:=some (assign (.Name y j) X.env)) (QQ:=λ_ s'=>SP X u D .next s') S G hi ht he I h rfl (λr C z s' m I' q hn E h1 h2 h3 h4=>?_) hs) (λ_ s' J=>Cg (Cg J)) λ_ _ e=>e);show wpAny _ X.A (assign (.Name y j) X.env (.ref r)) (λ_ c=>∃m,c.heap.Ns C m/\∀h',Heap.SameBut C c.heap h'->SP X u D .next { c with heap:=h' }) _ s';refine wpAny_assign_Name (v9 I' hN hy hx (v:=.ref r) rfl (λc I'' ⟨a,hs,ha⟩=>?_) hf);refine⟨m,hn.sameBut hs ?_,λh' n=>⟨_,z,I''.turned (t':=c.toks) (λb o F e=>n.extBut b o F e) E h1 (.inr h2) h3 h4,q⟩⟩;rcases ha with rfl|ha
 ·exact h1
 ·exact Ne.symm (h3 _ _ ha)
end
end L2
namespace D
open PySem PySem.Spec PyProof.Rows L2
section
variable{K:Ae}{Z:Ent}{env:En}{σ:St}{ρ ρ':Cr}{B B':Cq}{hp hp':Hs}{H H':Hp}
theorem bw.set{i:Nat}{d:DV}{v:V}(S:bw K Z env σ ρ B hp H)(r:au K ρ B H d v):bw K Z (env.set i (.val d)) (σ.set i (some v)) ρ B hp H where
 gr:=S.gr
 zb:=S.zb
 wo:=S.wo
 slot:=λj e h=>by
  by_cases c:j=i
  ·subst c;have m:j<env.length:=by have:=(Ag.mp h).1;simpa using this
   rw[Av m]at h;cases h;exact⟨v,Av (by rw[S.len];exact m),r⟩
  ·rw[Ao (Ne.symm c)]at h ⊢;exact S.slot j e h
 cB:=λj ds h=>by
  by_cases c:j=i
  ·subst c;have m:j<env.length:=by have:=(Ag.mp h).1;simpa using this
   rw[Av m]at h;cases h
  ·rw[Ao (Ne.symm c)]at h ⊢;exact S.cB j ds h
 cP:=λj k ds es a h1 h2 h3 h4=>by
  have n:∀{j:Nat}{ds:List DV},(env.set i (.val d))[j]?=some (.acc ds)->j≠i:=λ{j ds} h e=>by
   subst e;have m:j<env.length:=by have:=(Ag.mp h).1;simpa using this
   rw[Av m]at h;cases h
  have c:=n h1;have o:=n h2;rw[Ao (Ne.symm c)]at h1 h3;rw[Ao (Ne.symm o)]at h2 h4;exact S.cP j k ds es a h1 h2 h3 h4
 len:=by simp[S.len]
end
section
variable{X:Cx}{e a b c:Expr}{f fa fb:aD}{ca cb:bH}{pos:Pos}{st:Stmt}{sts rest:List Stmt}{s s':aB}
theorem lA.after{K:Ae}{Z:Ent}{ρ ρ1:Cr}{B B1:Cq}{H H1:Hp}{fl:Fl}{d:En}{i:Hs}{D:U2}(g:Gs K ρ B H ρ1 B1 H1)(k:lA K Z ρ B H fl d i D):lA K Z ρ1 B1 H1 fl d i D :=
 λσ' ρ' B' H' g' S=>k σ' ρ' B' H' (g.trans g') S
def Q7:aB:=λenv=>pure (.nx,env)
def Qr(f g:aB):aB:=λenv=>do
 let r <- f env
 match r.1 with
 |.nx=>g r.2
 |_=>pure r
def aJ(c:bH)(f g:aB):aB:=λenv=>do if <- c env then f env else g env
def QR(f:aD):aB:=λenv=>do let d <- f env;pure (.rt d,env)
def jH:aB:=λenv=>pure (.rt .non,env)
def Zd(f:aD):aB:=λenv=>do let _ <- f env;pure (.nx,env)
def QD(i:Nat)(f:aD):aB:=λenv=>do let d <- f env;pure (.nx,env.set i (.val d))
theorem QI:fL X [] Q7:=pss_nil.imp λD σ H i=>by obtain⟨Z,env,ρ,B,hp,fl,d,m,S,e,k⟩:=i;obtain⟨j,rfl⟩:=Qm e;cases j;exact k σ ρ B H Gs.refl S
theorem Qf3{K:Ae}{D:U2}{σ:St}{H:Hp}(h:iW K (Qr s s') D σ H):Hw (iW K s) (iW K s') D σ H:=by
 obtain⟨Z,env,ρ,B,hp,fl,i,o,S,e,k⟩:=h;obtain⟨⟨q,aA⟩,hp1,r,n⟩:=Qg e;refine⟨Z,env,ρ,B,hp,q,aA,hp1,S,r,λσ' ρ' j H' g m=>?_⟩;cases q with
 |nx=>exact⟨Z,aA,ρ',j,hp1,fl,i,o,m,n,k.after g⟩
 |rt d=>obtain⟨z,rfl⟩:=Qm n;cases z;exact k σ' ρ' j H' g m
 |bk=>obtain⟨z,rfl⟩:=Qm n;cases z;exact k σ' ρ' j H' g m
 |ct=>obtain⟨z,rfl⟩:=Qm n;cases z;exact k σ' ρ' j H' g m
def Qf(h1:DS X st s)(h2:fL X rest s'):fL X (st::rest) (Qr s s'):=(yZ h1 h2).imp λ_ _ _ h=>Qf3 h
def Qo(h1:DS X st s):fL X [st] s:=Pa h1
theorem Q4{x y:List Stmt}(r:DT X c ca)(h1:fL X x s)(h2:fL X y s'):DS X (.If c x y pos) (aJ ca s s') :=
 (Lk r h1 h2).imp λD σ H o=>by
  obtain⟨Z,env,ρ,B,hp,fl,d,i,S,e,k⟩:=o;obtain⟨x,hp1,q,n⟩:=Qg e;refine cX.run S q λρ1 j H1 g1 m=>?_;cases x with
  |true=>exact KH ⟨Z,env,ρ1,j,hp1,fl,d,i,m,n,k.after (g1.gs S.wo.rb)⟩
  |false=>exact vj ⟨Z,env,ρ1,j,hp1,fl,d,i,m,n,k.after (g1.gs S.wo.rb)⟩
theorem Qx(h:DE X e f):DS X (.Return (some e) pos) (QR f) :=
 (Mp h).imp λD σ H j=>by obtain⟨Z,env,ρ,B,hp,fl,i,o,S,e,k⟩:=j;obtain⟨d,hp1,m,n⟩:=Qg e;obtain⟨z,rfl⟩:=Qm n;cases z;exact tD.run S m λv ρ1 B1 H1 g1 S1 q=>k σ ρ1 B1 H1 (g1.gs S.wo.rb) S1 v q
theorem Zg(h:DE X e f)(hs:swapsWith e none pos.line X.env=pure false:=by rfl):DS X (.Expr e pos) (Zd f) :=
 (Pb h hs).imp λD σ H j=>by obtain⟨Z,env,ρ,B,hp,fl,i,o,S,e,k⟩:=j;obtain⟨d,hp1,m,n⟩:=Qg e;obtain⟨z,rfl⟩:=Qm n;cases z;exact tD.run S m λv ρ1 B1 H1 g1 S1 q=>k σ ρ1 B1 H1 (g1.gs S.wo.rb) S1
theorem Rk{K:Ae}{D:U2}{σ:St}{H:Hp}{i:Nat}{t:TE}(q:∀σ H Q,tD K f σ H Q->t σ H Q)(h:iW K (QD i f) D σ H):sV t (tH i) D σ H:=by obtain⟨Z,env,ρ,B,hp,fl,j,o,S,e,k⟩:=h;obtain⟨d,hp1,m,n⟩:=Qg e;obtain⟨z,rfl⟩:=Qm n;cases z;exact q _ _ _ (tD.run S m λv ρ1 B1 H1 g1 S1 r=>k _ ρ1 B1 H1 (g1.gs S.wo.rb) (S1.set r))
theorem Qt(i:Nat){x:Str}{d:Pos}(j:X.N.Nodup)(m:DE X e f)(hi:X.N[i]?=some x:=by rfl)(hx:Loc X.env.scope x:=by first|exact Or.inl rfl|exact Or.inr rfl)(hs:swapsWith e (some (.Name x d)) pos.line X.env=pure false:=by rfl)
  (hf:X.fn x=true∨X.env.scope.names.lookup x=some .local:=by first|exact .inl rfl|exact .inr rfl|assumption):DS X (.Assign [.Name x d] e pos) (QD i f) :=
 (K4 j hi hx m hs hf).imp λ_ _ _ h=>Rk (λ_ _ _ q=>q) h
abbrev iU:=DV->En->M En
def oA(K:Ae)(g:iU):TG:=λv σ H Q=>∃Z env ρ B hp d i j,bw K Z env σ ρ B hp H/\au K ρ B H d v/\g d env hp=some (i,j)/\∀σ' ρ' B' H',Gs K ρ B H ρ' B' H'->bw K Z i σ' ρ' B' j H'->Q σ' H'
def gN(i:Nat):iU:=λd env=>pure (env.set i (.val d))
theorem XH(i:Nat){x:Str}(n:X.N.Nodup)(hi:X.N[i]?=some x:=by rfl)(hx:Loc X.env.scope x:=by first|exact Or.inl rfl|exact Or.inr rfl)(hf:X.fn x=true∨X.env.scope.names.lookup x=some .local:=by first|exact .inl rfl|exact .inr rfl|assumption):PG X (.Name x pos) (oA X.K (gN i)):=by intro m s σ H v u Q I r h;refine UR n hi hx hf m s σ H v u Q I r ?_;obtain⟨Z,env,ρ,B,hp,d,j,o,S,rd,e,k⟩:=h;obtain⟨rfl,rfl⟩:=Qm e;exact k _ ρ B H Gs.refl (S.set rd)
def kA(K:Ae)(ρ:Cr)(B:Cq)(H:Hp)(ds:List DV)(J:It):Prop :=
 ∀ρ1 m j,Gs K ρ B H ρ1 m j->(∀b∈ρ1,m b)->(∀a,m a->j a≠none)->(∀(i:Nat)(d:DV),ds[i]?=some d->J.go i j/\∀x n,J.yld i j x n->au K ρ1 m n d x/\(n=j∨∃p o,j p=none/\n=upd j p o))/\J.stop ds.length j
abbrev fM:=En->M (List DV)
def tY(K:Ae)(f:fM):TI:=λσ H R=>∃Z env ρ B hp ds d,bw K Z env σ ρ B hp H/\f env hp=some (ds,d)/\∀J ρ' B' H',Gr K ρ B H ρ' B' H'->aM K ρ' B' d H'->kA K ρ' B' H' ds J->R J H'
def DI(X:Cx)(i d:Expr)(f:fM):Prop:=PI X i d (tY X.K f)
def Im:DV->M (List DV)
 |.lst ds=>pure ds
 |_=>failure
def pJ:DV->M (List DV)
 |.tup ds=>pure ds
 |_=>failure
def jf(f:aD):fM:=λenv=>do Im (<- f env)
def i_(f:aD):fM:=λenv=>do pJ (<- f env)
theorem QdD{d:DV}{ds:List DV}{hp i:Hs}(h:Im d hp=some (ds,i)):d=.lst ds/\hp=i:=by
 cases d with
 |lst xs=>obtain⟨rfl,rfl⟩:=Qm h;exact⟨rfl,rfl⟩
 |_=>cases h
theorem YI{d:DV}{ds:List DV}{hp i:Hs}(h:pJ d hp=some (ds,i)):d=.tup ds/\hp=i:=by
 cases d with
 |tup xs=>obtain⟨rfl,rfl⟩:=Qm h;exact⟨rfl,rfl⟩
 |_=>cases h
theorem NP{K:Ae}{ρ:Cr}{B:Cq}{H:Hp}{ds:List DV}{a:Addr}{xs:List V}(o:¬ B a)(v:SqL K H a xs)(u:ak K ρ B H ds xs):kA K ρ B H ds (Itl K a):=λρ1 B1 H1 g _ _=>by have j:=g.Fg o v;have m:=ak.gs g _ _ u;refine⟨λi d e=>?_,xs,j,by rw[m.length];exact Ai _⟩;obtain⟨x,hx,r⟩:=m.get e;refine⟨⟨xs,x,j,hx⟩,λy H' ⟨n,q⟩=>?_⟩;subst n;have:=q xs j;rw[hx]at this;cases this;exact⟨r,.inl rfl⟩
theorem Sf{K:Ae}{ρ:Cr}{B:Cq}{H:Hp}{ds:List DV}{a:Addr}{xs:List V}(o:¬ B a)(v:SqT K H a xs)(u:ak K ρ B H ds xs):kA K ρ B H ds (Itt K a):=λρ1 B1 H1 g _ _=>by have j:=g.rH o v;have m:=ak.gs g _ _ u;refine⟨λi d e=>?_,xs,j,by rw[m.length];exact Ai _⟩;obtain⟨x,hx,r⟩:=m.get e;refine⟨⟨xs,x,j,hx⟩,λy H' ⟨n,q⟩=>?_⟩;subst n;have:=q xs j;rw[hx]at this;cases this;exact⟨r,.inl rfl⟩
def Xv(lo:Int)(n:Nat):List DV:=(List.range n).map λ(i:Nat)=>.int (lo+(i:Int))
theorem Qe5{K:Ae}{ρ:Cr}{B:Cq}{H:Hp}{lo:Int}{n:Nat}:kA K ρ B H (Xv lo n) (Itr lo n):=λρ1 B1 H1 g _ _=>by
 refine⟨λi d e=>?_,by show n<=_;simp[Xv]⟩;have hi:i<n:=by have:=(Ag.mp e).1;simpa [Xv]using this
 refine⟨hi,λy H' ⟨j,q⟩=>?_⟩;subst j q;have:d=.int (lo+i):=by simp[Xv,hi]at e;exact e.symm
 subst this;exact⟨Z6,.inl rfl⟩
variable{tg iter:Expr}
def _root_.L2.PI.imp{wi d:TI}(h:PI X tg iter wi)(i:∀σ H R,d σ H R->wi σ H R):PI X tg iter d:=λj s σ H R I q=>h j s σ H R I (i σ H R q)
theorem jQ(h:DE X iter f):DI X tg iter (jf f):=(gO h).imp λσ H R j=>by obtain⟨Z,env,ρ,B,hp,ds,o,S,e,k⟩:=j;obtain⟨d,hp1,m,n⟩:=Qg e;obtain⟨rfl,rfl⟩:=QdD n;refine tD.run S m λv ρ1 B1 H1 g1 S1 r=>?_;obtain⟨a,xs,rfl,q,i,u⟩:=r.bQ;exact⟨a,rfl,⟨xs,i⟩,k _ ρ1 B1 H1 g1 S1.wo (NP q i u)⟩
theorem uW(h:DE X iter f):DI X tg iter (i_ f):=(Qj2 h).imp λσ H R j=>by obtain⟨Z,env,ρ,B,hp,ds,o,S,e,k⟩:=j;obtain⟨d,hp1,m,n⟩:=Qg e;obtain⟨rfl,rfl⟩:=YI n;refine tD.run S m λv ρ1 B1 H1 g1 S1 r=>?_;obtain⟨a,xs,rfl,q,i,u⟩:=r.tupI;exact⟨a,rfl,⟨xs,i⟩,k _ ρ1 B1 H1 g1 S1.wo (Sf q i u)⟩
def zL(j:Int):Bool:=decide (-(2 ^ 62)<=j/\j<2 ^ 62)
def nW:List DV->M (List DV)
 | [.int j]=>do Qy (zL j);pure (Xv 0 j.toNat)
 |_=>failure
def BP:List DV->M (List DV)
 | [.int i,.int j]=>do Qy (zL i&&zL j);pure (Xv i (j-i).toNat)
 |_=>failure
def vh(f:aW):fM:=λenv=>do nW (<- f env)
theorem QdS{ds i:List DV}{hp d:Hs}(h:nW ds hp=some (i,d)):∃j:Int,ds=[.int j]/\zL j=true/\i=Xv 0 j.toNat/\hp=d:=by
 unfold nW at h;split at h
 ·obtain⟨u,hp1,m,n⟩:=Qg h;obtain⟨h1,rfl⟩:=Qz m;obtain⟨rfl,rfl⟩:=Qm n;exact⟨_,rfl,h1,rfl,rfl⟩
 ·cases h
theorem QdT{ds m:List DV}{hp d:Hs}(h:BP ds hp=some (m,d)):∃i j:Int,ds=[.int i,.int j]/\zL i=true/\zL j=true/\m=Xv i (j-i).toNat/\hp=d:=by
 unfold BP at h;split at h
 ·obtain⟨u,hp1,n,o⟩:=Qg h;obtain⟨h1,rfl⟩:=Qz n;obtain⟨rfl,rfl⟩:=Qm o;rw[Bg]at h1;exact⟨_,_,rfl,h1.1,h1.2,rfl,rfl⟩
 ·cases h
theorem ak.ints1{K:Ae}{ρ:Cr}{B:Cq}{H:Hp}{j:Int}{vs:List V}(h:ak K ρ B H [.int j] vs):vs=[.int j]:=by unfold ak at h;obtain⟨x,r,rfl,h1,h2⟩:=h;unfold ak at h2;rw[h1.aN,h2]
theorem ak.ints2{K:Ae}{ρ:Cr}{B:Cq}{H:Hp}{i j:Int}{vs:List V}(h:ak K ρ B H [.int i,.int j] vs):vs=[.int i,.int j]:=by unfold ak at h;obtain⟨x,r,rfl,h1,h2⟩:=h;rw[h1.aN,h2.ints1]
theorem jR{x:Expr}{p:Pos}{f:aW}(q:Gl X "range")(hm:X.mg "range" = none)(ha:DA X [x] f)(hs:starEach [x] X.env=[(false,eval x X.env)]:=by rfl):DI X tg (.Call (.Name "range" p) [x] [] pos) (vh f) :=
 (QdL q hm ha hs).imp λσ H R m=>by obtain⟨Z,env,ρ,B,hp,ds,r,S,e,k⟩:=m;obtain⟨d,hp1,n,o⟩:=Qg e;obtain⟨j,rfl,h1,rfl,rfl⟩:=QdS o;refine cY.run S n λvs ρ1 B1 H1 g1 S1 u=>?_;have i:=Ci h1;exact⟨j,u.ints1,i.1,i.2,k _ ρ1 B1 H1 g1 S1.wo Qe5⟩
def H_(b:DV->aB):List DV->aB
  | [],env=>pure (.nx,env)
  |d::ds,env=>do
    let r <- b d env
    match r.1 with
    |.nx=>H_ b ds r.2
    |.ct=>H_ b ds r.2
    |.bk=>pure (.nx,r.2)
    |.rt x=>pure (.rt x,r.2)
def Lx{K:Ae}{ρ:Cr}{B:Cq}{H:Hp}{p:Addr}{o:HO}(rb:∀a∈ρ,B a)(h:H p=none):Gs K ρ B H ρ B (upd H p o):=(Gr.laid h).gs rb
def Xx(c:bH)(b:aB):Nat->aB
  |0,_=>failure
  |n+1,env=>do
    if <- c env then
      let r <- b env
      match r.1 with
      |.nx=>Xx c b n r.2
      |.ct=>Xx c b n r.2
      |.bk=>pure (.nx,r.2)
      |.rt x=>pure (.rt x,r.2)
    else pure (.nx,env)
theorem yF(n:Nat){i:List Stmt}{sb:aB}(hp:PassesOwn (model X.prog X.w) X.A X.env X.xe)(hc:DT X c ca)(Y:fL X i sb):DS X (.While c i [] pos) (Xx ca sb n) :=
  (QfM hp hc Y).imp λD σ H Q=>by
    obtain⟨Z,env,ρ,B,hp,fl,j,r,S,e,k⟩:=Q;refine⟨λm σ H1=>∃aA ρ1 o hp1,bw X.K Z aA σ ρ1 o hp1 H1/\Gs X.K ρ B H ρ1 o H1/\Xx ca sb m aA hp1=some ((fl,j),r),⟨n,env,ρ,B,hp,S,Gs.refl,e⟩,?_⟩;rintro m σ H1 ⟨aA,ρ1,o,hp1,S1,g1,e1⟩;cases m with
    |zero=>cases e1
    |succ m =>
      obtain⟨x,G,R,O⟩:=Qg e1;refine cX.run S1 R λρ2 I H2 g2 L=>?_;have J:=g1.trans (g2.gs S1.wo.rb);cases x with
      |false=>obtain⟨z,rfl⟩:=Qm O;cases z;exact vj (k σ ρ2 I H2 J L)
      |true =>
        obtain⟨⟨P,F⟩,E,T,C⟩:=Qg O;refine KH ⟨λσ' H'=>∃aA ρ1 o hp1,bw X.K Z aA σ' ρ1 o hp1 H'/\Gs X.K ρ B H ρ1 o H'/\Xx ca sb m aA hp1=some ((fl,j),r),λσ' H' q=>⟨m,Ca m,q⟩,?_⟩;refine⟨Z,aA,ρ2,I,G,P,F,E,L,T,λσ6 ρ6 u H6 U y=>?_⟩;have v:=J.trans U;cases P with
        |nx=>exact⟨F,ρ6,u,E,y,v,C⟩
        |ct=>exact⟨F,ρ6,u,E,y,v,C⟩
        |bk=>obtain⟨z,rfl⟩:=Qm C;cases z;exact k σ6 ρ6 u H6 v y
        |rt d=>obtain⟨z,rfl⟩:=Qm C;cases z;exact k σ6 ρ6 u H6 v y
end
section
variable{K:Ae}{Z:Ent}{env:En}{σ:St}{ρ ρ':Cr}{B B':Cq}{hp hp':Hs}{H H':Hp}
def zt(B:Cq)(p:Addr):Addr->Prop:=λa=>B a∨a=p
theorem Gr.banned{p:Addr}{o:HO}(h:H p=none)(kf:K.lookup p=none):Gr K ρ B H ρ (zt B p) (upd H p o) where
 pre:=Bw
 ban:=λ_ h=>.inl h
 new:=λa z=>z.elim .inl λe=>.inr (e▸⟨h,kf⟩)
 bF:=λ_ h=>.inl h
 keep:=λa u _ q=>by rw[QS (Zz q h)];exact q
 trk:=(Gr.laid (K:=K) (ρ:=ρ) (B:=B) h).trk
theorem aM.banned{p:Addr}{o:HO}(W:aM K ρ B hp H)(h:H p=none)(kf:K.lookup p=none):aM K ρ (zt B p) hp (upd H p o) where
 len:=W.len
 nd:=W.nd
 obj:=λi a u e q=>aP.gs ((Gr.banned h kf).gs W.rb) (QS (λz=>W.bt a (W.rb a (Ax e)) (z▸h))) (W.obj i a u e q)
 rb:=λa h=>.inl (W.rb a h)
 bt:=λa z q=>by
  have c:=(Gr.laid (K:=K) (ρ:=ρ) (B:=B) h).trk a q;rcases z with z|rfl
  ·exact W.bt a z c
  ·rw[QU]at q;cases q
 bk:=λa z=>z.elim (W.bk a) λe=>e▸kf
theorem bw.newAcc{i:Nat}{p:Addr}{ds:List DV}{xs:List V}(S:bw K Z env σ ρ B hp H)(h:H p=none)(kf:K.lookup p=none)(r:ak K ρ B H ds xs):bw K Z (env.set i (.acc ds)) (σ.set i (some (.ref p))) ρ (zt B p) hp (upd H p (.lst xs)):=by
 have g:Gr K ρ B H ρ (zt B p) (upd H p (.lst xs)):=Gr.banned h kf;have W:=S.wo.banned (o:=.lst xs) h kf;have u:=S.grow g W;have G:p∉ρ:=λz=>S.wo.bt p (S.wo.rb p z) h;refine⟨u.gr,S.zb,W,λj e q=>?_,λj es q=>?_,λj k es v a h1 h2 h3 h4=>?_,by simp[S.len]⟩
 ·by_cases c:j=i
  ·subst c;have n:j<env.length:=by have:=(Ag.mp q).1;simpa using this
   rw[Av n]at q;cases q
  ·rw[Ao (Ne.symm c)]at q ⊢;exact u.slot j e q
 ·by_cases c:j=i
  ·subst c;have n:j<env.length:=by have:=(Ag.mp q).1;simpa using this
   rw[Av n]at q;cases q;exact⟨p,xs,Av (by rw[S.len];exact n),QU,S.gr.trk p h,.inr rfl,G,ak.grow S.wo.rb g _ _ r⟩
  ·rw[Ao (Ne.symm c)]at q ⊢;exact u.cB j es q
 ·have C:∀{j:Nat}{es:List DV},(env.set i (.acc ds))[j]?=some (.acc es)->j=i∨(j≠i/\env[j]?=some (.acc es)):=λ{j es} q=>by
   by_cases c:j=i
   ·exact .inl c
   ·rw[Ao (Ne.symm c)]at q;exact .inr ⟨c,q⟩
  have x:∀{j:Nat}{es:List DV},j≠i->env[j]?=some (.acc es)->(σ.set i (some (.ref p)))[j]?=some (some (.ref a))->a≠p:=λ{j es} c q z=>by rw[Ao (Ne.symm c)]at z;obtain⟨J,I,d,m,_⟩:=S.cB j es q;rw[z]at d;cases d;exact Zz m h
  have y:∀{j:Nat}{es:List DV},j=i->(env.set i (.acc ds))[j]?=some (.acc es)->(σ.set i (some (.ref p)))[j]?=some (some (.ref a))->a=p:=λ{j es} e q z=>by
   subst e;have n:j<env.length:=by have:=(Ag.mp q).1;simpa using this
   rw[Av (by rw[S.len];exact n)]at z;cases z;rfl
  rcases C h1 with d|⟨d,E⟩<;>rcases C h2 with m|⟨m,F⟩
  ·rw[d,m]
  ·exact absurd (y d h1 h3) (x m F h4)
  ·exact absurd (y m h2 h4) (x d E h3)
  ·rw[Ao (Ne.symm d)]at h3;rw[Ao (Ne.symm m)]at h4;exact S.cP j k es v a E F h3 h4
theorem bw.lW{i:Nat}{a:Addr}{ds n:List DV}{c:List V}(S:bw K Z env σ ρ B hp H)(x:env[i]?=some (.acc ds))(hσ:σ[i]?=some (some (.ref a)))(r:ak K ρ B H n c) :
  Gs K ρ B H ρ B (upd H a (.lst c))/\bw K Z (env.set i (.acc n)) σ ρ B hp (upd H a (.lst c)):=by
 obtain⟨T,R,G,U,I,J,L,_⟩:=S.cB i ds x;rw[hσ]at G;cases G;have trk:∀b,(upd H a (.lst c)) b=none->H b=none:=λb q=>by
  by_cases e:b=a
  ·subst e;rw[QU]at q;cases q
  ·rw[QS e]at q;exact q
 have g:Gs K ρ B H ρ B (upd H a (.lst c)):=⟨Bw,λ_ h=>.inl h,λb o E h=>by rw[QS (show b≠a from λz=>E (by rw[z];exact J))];exact h,trk⟩;have O:i<env.length:=(Ag.mp x).1;refine⟨g,⟨⟨S.gr.pre,S.gr.ban,S.gr.new,S.gr.bF,λb o E h=>?_,λb q=>S.gr.trk b (trk b q)⟩,S.zb,⟨S.wo.len,S.wo.nd,λj b o y F=>?_,S.wo.rb,λb z q=>S.wo.bt b z (trk b q),S.wo.bk⟩,λj d q=>?_,λj es q=>?_,λj k es P b h1 h2 h3 h4=>?_,by simp[S.len]⟩⟩
 ·have C:b≠a:=λz=>by rw[z,I]at h;cases h
  rw[QS C];exact S.gr.keep b o E h
 ·exact aP.gs g (QS (show b≠a from λz=>L (by rw[<- z];exact Ax y))) (S.wo.obj j b o y F)
 ·have m:j≠i:=λz=>by subst z;rw[Av O]at q;cases q
  rw[Ao (Ne.symm m)]at q;obtain⟨v,h1,h2⟩:=S.slot j d q;exact⟨v,h1,au.gs g _ _ h2⟩
 ·by_cases m:j=i
  ·subst m;rw[Av O]at q;cases q;exact⟨a,c,hσ,QU,I,J,L,ak.gs g _ _ r⟩
  ·rw[Ao (Ne.symm m)]at q;obtain⟨b,ys,h1,h2,h3,h4,h5,Q⟩:=S.cB j es q;have C:b≠a:=λz=>m (S.cP j i es ds a q x (z▸h1) hσ);exact⟨b,ys,h1,by rw[QS C];exact h2,h3,h4,h5,ak.gs g _ _ Q⟩
 ·have u:∀{j:Nat}{es:List DV},(env.set i (.acc n))[j]?=some (.acc es)->∃es,env[j]?=some (.acc es):=λ{j es} q=>by
   by_cases m:j=i
   ·exact⟨ds,m▸x⟩
   ·rw[Ao (Ne.symm m)]at q;exact⟨es,q⟩
  obtain⟨_,y⟩:=u h1;obtain⟨_,F⟩:=u h2;exact S.cP j k _ _ b y F h3 h4
theorem bw.disown{i:Nat}{ds:List DV}(S:bw K Z env σ ρ B hp H)(e:env[i]?=some (.acc ds)):∃B',Gs K ρ B H ρ B' H/\bw K Z (env.set i (.val (.lst ds))) σ ρ B' hp H:=by
 obtain⟨a,xs,n,u,x,L,y,C⟩:=S.cB i ds e;have m:i<env.length:=(Ag.mp e).1;have g:Gs K ρ B H ρ (λb=>B b/\b≠a) H:=⟨Bw,λ_ h=>.inl h.1,λ_ _ _ h=>h,λ_ h=>h⟩;refine⟨λb=>B b/\b≠a,g,⟨⟨S.gr.pre,λb z=>⟨S.gr.ban b z,λq=>S.zb b z (q▸x)⟩,λb z=>S.gr.new b z.1,S.gr.bF,S.gr.keep,S.gr.trk⟩,S.zb,
  ⟨S.wo.len,S.wo.nd,λj b o I J=>aP.gs g rfl (S.wo.obj j b o I J),λb z=>⟨S.wo.rb b z,λq=>y (q▸z)⟩,λb z=>S.wo.bt b z.1,λb z=>S.wo.bk b z.1⟩,λj d q=>?_,λj es q=>?_,λj k es E b h1 h2 h3 h4=>?_,by simp[S.len]⟩⟩
 ·by_cases c:j=i
  ·subst c;rw[Av m]at q;cases q;exact⟨_,n,j8 (λz=>z.2 rfl) (SqL.of u) (ak.gs g _ _ C)⟩
  ·rw[Ao (Ne.symm c)]at q;obtain⟨v,h1,h2⟩:=S.slot j d q;exact⟨v,h1,au.gs g _ _ h2⟩
 ·have c:j≠i:=λz=>by subst z;rw[Av m]at q;cases q
  rw[Ao (Ne.symm c)]at q;obtain⟨b,ys,h1,h2,h3,h4,h5,F⟩:=S.cB j es q;have G:b≠a:=λz=>c (S.cP j i es ds a q e (z▸h1) n);exact⟨b,ys,h1,h2,h3,⟨h4,G⟩,h5,ak.gs g _ _ F⟩
 ·have r:∀{j:Nat}{es:List DV},(env.set i (.val (.lst ds)))[j]?=some (.acc es)->env[j]?=some (.acc es):=λ{j es} q=>by
   have c:j≠i:=λz=>by subst z;rw[Av m]at q;cases q
   rw[Ao (Ne.symm c)]at q;exact q
  exact S.cP j k _ _ b (r h1) (r h2) h3 h4
end
section
variable{X:Cx}{e a b c:Expr}{f fa fb:aD}{ca cb:bH}{pos:Pos}{st:Stmt}{sts rest:List Stmt}{s s':aB}
def y9(i:Nat):aB:=λenv=>pure (.nx,env.set i (.acc []))
theorem Nb(i:Nat){x:Str}{j d:Pos}(o:X.N.Nodup)(hi:X.N[i]?=some x:=by rfl)(hx:Loc X.env.scope x:=by first|exact Or.inl rfl|exact Or.inr rfl)(hs:swapsWith (.List [] d) (some (.Name x j)) pos.line X.env=pure false:=by rfl)
  (hf:X.fn x=true∨X.env.scope.names.lookup x=some .local:=by first|exact .inl rfl|exact .inr rfl|assumption):DS X (.Assign [.Name x j] (.List [] d) pos) (y9 i) :=
 (K4 o hi hx (gM pa_nil).kf hs hf).imp λD σ H n=>by obtain⟨Z,env,ρ,B,hp,fl,m,q,S,e,k⟩:=n;obtain⟨z,rfl⟩:=Qm e;cases z;refine⟨Bh _,λp h kf=>?_⟩;have kp:=kf p _ QU;exact k _ ρ _ _ ((Gr.banned h kp).gs S.wo.rb) (S.newAcc h kp ak.nil)
def xi(i:Nat)(env:En):En:=match env[i]? with
 |some (.acc ds)=>env.set i (.val (.lst ds))
 |_=>env
def zJ(i:Nat)(f:aB):aB:=λenv=>f (xi i env)
theorem Qf0{K:Ae}{i:Nat}{D:U2}{σ:St}{H:Hp}(h:iW K (zJ i s) D σ H):iW K s D σ H:=by
  obtain⟨Z,env,ρ,B,hp,fl,j,m,S,e,k⟩:=h;cases q:env[i]? with
  |none=>exact⟨Z,env,ρ,B,hp,fl,j,m,S,by simpa [zJ,xi,q]using e,k⟩
  |some z =>
    cases z with
    |un=>exact⟨Z,env,ρ,B,hp,fl,j,m,S,by simpa [zJ,xi,q]using e,k⟩
    |val d=>exact⟨Z,env,ρ,B,hp,fl,j,m,S,by simpa [zJ,xi,q]using e,k⟩
    |acc ds=>obtain⟨n,g,o⟩:=S.disown q;exact⟨Z,_,ρ,n,hp,fl,j,m,o,by simpa [zJ,xi,q]using e,k.after g⟩
def M7(i:Nat)(h:DS X st s):DS X st (zJ i s):=L2.PS.imp h λ_ _ _ q=>Qf0 q
def yg(i:Nat)(f:aD):aB:=λenv=>do
 let d <- f env
 match env[i]? with
 |some (.acc ds)=>if ds.length<lim then pure (.nx,env.set i (.acc (ds++[d])))else failure
 |_=>failure
theorem M_(i:Nat){x:Str}{r u:Pos}(Q:DE X e f)(hi:X.N[i]?=some x:=by rfl)(R:Vis X.env.scope x:=by first|exact Or.inl rfl|exact Or.inr (Or.inl rfl)|exact Or.inr (Or.inr rfl))
    (hd:(x==("__debug__" : Str))=false:=by decide) (hcd:(x==("__classdict__" : Str))=false:=by decide)
    (hs:∀t,PE X (.Call (.Attribute (.Name x r) "append" u) [e] [] pos) t->PS X (.Expr (.Call (.Attribute (.Name x r) "append" u) [e] [] pos) pos) (Lf t):=by intro _ h;exact Pb h)
    (hb:∀(t:TE) (J:TA),PE X (.Name x r) t->PA X [e] J->PE X (.Call (.Attribute (.Name x r) "append" u) [e] [] pos) (tBM X.K "list" Oz t J):=by intro _ _ h1 h2;exact CW PySem.F.plainAttrs_list PySem.F.slot_list_append PySem.F.type_list_append jW h1 h2)
    (hst:starEach [e] X.env=(false,eval e X.env)::starEach [] X.env:=by rfl):DS X (.Expr (.Call (.Attribute (.Name x r) "append" u) [e] [] pos) pos) (yg i f) :=
  L2.PS.imp (hs _ (hb _ _ (DY hi R hd hcd) (ZT Q pa_nil hst))) λD σ H O=>by
    obtain⟨Z,env,ρ,B,hp,fl,j,n,S,e,k⟩:=O;obtain⟨d,hp1,P,m⟩:=Qg e;cases q:env[i]? with
    |none=>rw[q]at m;cases m
    |some z =>
      rw[q]at m;cases z with
      |un=>cases m
      |val _=>cases m
      |acc ds =>
        by_cases E:ds.length<lim
        . have y:(pure (Fl.nx,env.set i (.acc (ds++[d]))):M (Fl×En)) hp1=some ((fl,j),n):=by
            have:(if ds.length<lim then pure (Fl.nx,env.set i (.acc (ds++[d])))else failure:M (Fl×En)) hp1=some ((fl,j),n):=m
            rwa [Cf E]at this
          obtain⟨z,rfl⟩:=Qm y;cases z;obtain⟨a,xs,h1,h2,_⟩:=S.cB i ds q;refine⟨_,h1,.inl ⟨rfl,xs,SqL.of h2⟩,?_⟩;refine tD.run S P λv ρ1 B1 H1 g1 S1 T=>?_;obtain⟨U,G,o,C,_,_,_,I⟩:=S1.cB i ds q;rw[h1]at o;cases o;obtain⟨g2,L⟩:=S1.lW q h1 (ak.append I (ak.one T));exact⟨a,G,v,rfl,rfl,C,by rw[<- I.length];exact Az E KN,k _ ρ1 B1 _ ((g1.gs S.wo.rb).trans g2) L⟩
        . have:(if ds.length<lim then pure (Fl.nx,env.set i (.acc (ds++[d])))else failure:M (Fl×En)) hp1=some ((fl,j),n):=m
          rw[Ce E]at this;cases this
def vK(g:DV->M Bool)(f:DV->M DV):List DV->M (List DV)
  | []=>pure []
  |d::ds=>do
    if <- g d then
      let y <- f d
      let ys <- vK g f ds
      pure (y::ys)
    else vK g f ds
def pN:Sl->Sl
 |.val d=>.val d
 |_=>.un
def cE(idx:List Nat)(env:En)(d:DV):En:=.val d::idx.map λi=>pN ((env[i]?).getD .un)
def X0(i:fM)(idx:List Nat)(t:bH)(f:aD):aD:=λenv=>do
 let ds <- i env
 Qy (X3 ds)
 let out <- vK (λd=>t (cE idx env d)) (λd=>f (cE idx env d)) ds
 pure (.lst out)
def Yb:bH:=λ_=>pure true
variable{elt iter:Expr}{x:Str}{px:Pos}{ifs:List Expr}{scope:Scope}{cl:List (Str×Addr)}{caps:List Str}{idx:List Nat}{src:fM}{te:bH}
theorem cσ_ok{K:Ae}{Z:Ent}{env:En}{σ:St}{ρ ρ1:Cr}{B m:Cq}{hp hp1:Hs}{H n:Hp}{d:DV}{v:V}(S:bw K Z env σ ρ B hp H)(g:Gs K ρ B H ρ1 m n)(W:aM K ρ1 m hp1 n)(r:au K ρ1 m n d v) :
    bw K ⟨ρ1,m,n⟩ (cE idx env d) (cσ idx σ (some v)) ρ1 m hp1 n:=by
  refine⟨Gr.refl,W.bt,W,λi e h=>?_,λi es h=>?_,λi j es y a h=>?_,by simp[cE,cσ]⟩
  . cases i with
    |zero =>
      have:d=e:=by simpa [cE]using h
      subst this;exact⟨v,by simp[cσ],r⟩
    |succ i =>
      cases q:idx[i]? with
      |none=>simp[cE,q]at h
      |some k =>
        have h':pN ((env[k]?).getD .un)=.val e:=by simpa [cE,q]using h
        cases z:env[k]? with
        |none=>rw[z]at h';cases h'
        |some C =>
          rw[z]at h';cases C with
          |un=>cases h'
          |acc _=>cases h'
          |val o =>
            have:o=e:=by simpa [pN]using h'
            subst this;obtain⟨u,h1,h2⟩:=S.slot k o z;exact⟨u,by simp[cσ,q,h1],au.gs g _ _ h2⟩
  . exfalso
    cases i with
    |zero=>simp[cE]at h
    |succ i =>
      cases q:idx[i]? with
      |none=>simp[cE,q]at h
      |some k =>
        have h':pN ((env[k]?).getD .un)=.acc es:=by simpa [cE,q]using h
        cases z:(env[k]?).getD .un with
        |un=>rw[z]at h';cases h'
        |acc _=>rw[z]at h';cases h'
        |val _=>rw[z]at h';cases h'
  . exfalso
    cases i with
    |zero=>simp[cE]at h
    |succ i =>
      cases q:idx[i]? with
      |none=>simp[cE,q]at h
      |some k =>
        have h':pN ((env[k]?).getD .un)=.acc es:=by simpa [cE,q]using h
        cases z:(env[k]?).getD .un with
        |un=>rw[z]at h';cases h'
        |acc _=>rw[z]at h';cases h'
        |val _=>rw[z]at h';cases h'
theorem Qdp{K:Ae}{σ:St}{H:Hp}{Q:VK}(h:tD K (X0 src idx te f) σ H Q):pY K (tY K src) (cX K te) (tD K f) idx σ H Q:=by
  obtain⟨Z,env,ρ,B,hp,d,a6,S,e,k⟩:=h;obtain⟨ds,hp1,e1,e2⟩:=Qg e;obtain⟨_,u,e3,e4⟩:=Qg e2;obtain⟨hs,rfl⟩:=Qz e3;obtain⟨O,T,e5,e6⟩:=Qg e4;obtain⟨rfl,rfl⟩:=Qm e6;refine⟨Z,env,ρ,B,hp,ds,hp1,S,e1,λJ ρ1 B1 H1 g1 W1 it D hD hK=>?_⟩;have pB:=g1.gs S.wo.rb;have dl:ds.length<sizeLine:=Bq (Ci hs) (by decide);refine⟨λi m ys H2=>m=ds.length-i/\i<=ds.length/\H2 D=some (.lst ys)/\∃ρ2 r u n E,Gr K ρ1 B1 H1 ρ2 r H2/\aM K ρ2 r u H2/\r D/\D∉ρ2/\ak K ρ2 r H2 n ys/\n.length<=i /\
    vK (λd=>te (cE idx env d)) (λd=>f (cE idx env d)) (ds.drop i) u=some (E,T)/\n++E=O,?_,?_⟩
  . exact⟨ds.length,rfl,Bh _,QU,ρ1,zt B1 D,hp1,[],O,Gr.banned hD hK,W1.banned hD hK,.inr rfl,λz=>W1.bt D (W1.rb D z) hD,ak.nil,Ai _,by simpa using e5,rfl⟩
  . rintro i m ys H2 ⟨rfl,hi,fW,ρ2,r,u,n,E,g2,W2,bD,nD,rd,dn,e7,e8⟩
    refine⟨fW,?_⟩;obtain⟨wN,U⟩:=it ρ2 r H2 (g2.gs W1.rb) W2.rb W2.bt;by_cases C:i<ds.length
    . have hd:ds[i]?=some ds[i]:=Af C
      obtain⟨go,yl⟩:=wN i _ hd;rw[List.drop_eq_getElem_cons C]at e7;obtain⟨b,cN,e9,I⟩:=Qg e7;refine .inr ⟨go,λx H3 y=>?_⟩;obtain⟨rx,hx⟩:=yl x H3 y;have G:Gr K ρ2 r H2 ρ2 r H3/\aM K ρ2 r u H3:=by
        rcases hx with rfl|⟨p,o,hn,rfl⟩
        . exact⟨Gr.refl,W2⟩
        . exact⟨Gr.laid hn,W2.laid hn⟩
      have g3:=g2.trans G.1;have C3:=cσ_ok (idx:=idx) S (pB.trans (g3.gs W1.rb)) G.2 rx;refine cX.run C3 e9 λρ4 B4 H4 g4 S4=>?_;have Y:H4 D=some (.lst ys):=g4.keep D _ nD (G.1.keep D _ nD fW);have mj:D∉ρ4:=λz=>(g4.bF D z).elim nD λq=>by rw[G.1.keep D _ nD fW]at q;cases q
      cases b with
      |false=>refine vj ⟨ds.length-(i+1),⋯,rfl,C,Y,ρ4,B4,cN,n,E,g3.trans g4,S4.wo,g4.ban D bD,mj,ak.grow W2.rb (G.1.trans g4) _ _ rd,⋯,I,e8⟩
      |true =>
        obtain⟨z,iu,k_,A_⟩:=Qg I;obtain⟨zs,Fz,pG,z_⟩:=Qg A_;obtain⟨rfl,rfl⟩:=Qm z_;refine KH (tD.run S4 k_ λv ρ5 P H5 L S5 r5=>?_);have pq:H5 D=some (.lst ys):=L.keep D _ mj Y;have lG:D∉ρ5:=λz=>(L.bF D z).elim mj λq=>by rw[Y]at q;cases q
        have lM:P D:=L.ban D (g4.ban D bD);have F:=g3.trans (g4.trans L);have lF:=ak.grow W2.rb (G.1.trans (g4.trans L)) _ _ rd;have trk:∀b,(upd H5 D (.lst (ys++[v]))) b=none->H5 b=none:=λb q=>by
          by_cases e:b=D
          . subst e;rw[QU]at q;cases q
          . rw[QS e]at q;exact q
        have g6:Gs K ρ5 P H5 ρ5 P (upd H5 D (.lst (ys++[v]))):=⟨Bw,λ_ h=>.inl h,λb o nb h=>by rw[QS (show b≠D from λz=>nb (by rw[z];exact lM))];exact h,trk⟩;refine⟨pq,by have:=lF.length;lia,ds.length-(i+1),⋯,rfl,C,QU,ρ5,P,iu,n++[z],zs,?_,?_,lM,lG,ak.gs g6 _ _ (ak.append lF (ak.one r5)),by simp;lia,pG,by rw[<- e8];simp⟩
        . exact⟨F.pre,F.ban,F.new,F.bF,λb o nb h=>by rw[QS (show b≠D from λq=>by rw[q,hD]at h;cases h)];exact F.keep b o nb h,λb q=>F.trk b (trk b q)⟩
        . exact⟨S5.wo.len,S5.wo.nd,λj b o R q2=>aP.gs g6 (QS (show b≠D from λz=>lG (by rw[<- z];exact Ax R))) (S5.wo.obj j b o R q2),S5.wo.rb,λb z q=>S5.wo.bt b z (trk b q),S5.wo.bk⟩
    . have e:i=ds.length:=⋯
      subst e;rw[List.drop_length]at e7;obtain⟨rfl,rfl⟩:=Qm e7;refine .inl ⟨U,?_⟩;have gU:Gs K ρ2 r H2 ρ2 (λb=>r b/\b≠D) H2:=⟨Bw,λ_ h=>.inl h.1,λ_ _ _ h=>h,λ_ h=>h⟩;refine k (.ref D) ρ2 (λb=>r b/\b≠D) H2 (g1.trans ⟨g2.pre,λb z=>⟨g2.ban b z,λq=>W1.bt b z (q▸hD)⟩,λb z=>g2.new b z.1,g2.bF,g2.keep,g2.trk⟩)
        ⟨W2.len,W2.nd,λj b o R q2=>aP.gs gU rfl (W2.obj j b o R q2),λb z=>⟨W2.rb b z,λq=>nD (q▸z)⟩,λb z=>W2.bt b z.1,λb z=>W2.bk b z.1⟩ (j8 (λz=>z.2 rfl) (SqL.of fW) ?_)
      rw[<- e8,Bo];exact ak.gs gU _ _ rd
def rB(X:Cx)(ifs:List Expr)(t:bH):Prop:=n_ X ifs (cX X.K t)
theorem Z4:rB X [] Yb:=λi s σ H Q I j=>by obtain⟨Z,env,ρ,B,hp,d,m,S,e,k⟩:=j;obtain⟨rfl,rfl⟩:=Qm e;exact O_ i s σ H Q I (k ρ B H Gr.refl S.wo)
def N7{c:Expr}(h:DT X c te):rB X [c] te:=QhH h
theorem zx(S:yp X x scope cl caps idx)(d:X.calm=true)(hi:DI X (.Name x px) iter src)
  (ht:∀C s₀ H₀ ex,rB (Jx X scope cl C (x::caps) s₀ H₀ ex) ifs te) (he:∀C s₀ H₀ ex,DE (Jx X scope cl C (x::caps) s₀ H₀ ex) elt f)
  (hs:∀x,foldedSetIterable iter X.env x=pure x:=by intro _;rfl):DE X (.ListComp elt [⟨.Name x px,iter,ifs,0⟩] scope pos) (X0 src idx te f) :=
 L2.PE.imp (gK (tt:=cX X.K te) (te:=tD X.K f) S d hi ht he hs) λ_ _ _ h=>Qdp h
def Q3(n:Nat)(i:aB):List DV->M DV:=λds=>do
 let r <- i (ds.map .val++List.replicate (n-ds.length) .un)
 match r.1 with
 |.nx=>pure .non
 |.rt d=>pure d
 |_=>failure
def f9(K:Ae)(n:Nat)(F:Cs):Sp:=λvs H Q _=>vs.length=n/\∃ρ B hp ds d i,aM K ρ B hp H/\ak K ρ B H ds vs/\F ds hp=some (d,i)/\fu K ρ B H d i Q
structure Has(P:Program)(w:World)(K:Ae)(mg:Co)(O8:Heap)(x:Str)(k n:Nat)(F:Cs):Prop where
 ex:∃(g:Addr)(fd:FuncData)(ps:List Str),Y4 P w K mg O8 CX0 k g fd ps (f9 K n F)/\Binds K fd ps []/\PySem.W.keepIn K (.ref g)=true/\mg x=some (.ref g)
theorem xa{K:Ae}{ρ:Cr}{B:Cq}{hp:Hs}{H:Hp}{ds:List DV}{vs:List V}{N:List Str}(W:aM K ρ B hp H)(r:ak K ρ B H ds vs) :
  bw K ⟨ρ,B,H⟩ (ds.map .val++List.replicate (N.length-ds.length) .un) (L2.start N vs) ρ B hp H:=by
 have n:=r.length;have at_:∀{i:Nat}{z:Sl},(ds.map Sl.val++List.replicate (N.length-ds.length) Sl.un)[i]?=some z->z=.un∨∃d,ds[i]?=some d/\z=.val d:=λ{i z} h=>by
  by_cases hi:i<ds.length
  ·rw[Aj (by simpa using hi),Bp,Af hi]at h;cases h;exact .inr ⟨_,Af hi,rfl⟩
  ·rw[As (by simpa using hi),List.getElem?_replicate]at h;split at h
   ·cases h;exact .inl rfl
   ·cases h
 refine⟨Gr.refl,W.bt,W,λi d h=>?_,λi es h=>?_,λi j es m a h=>?_,by unfold L2.start;simp;lia⟩
 ·rcases at_ h with z|⟨d',q,z⟩
  ·cases z
  ·cases z;obtain⟨v,h1,h2⟩:=r.get q;refine⟨v,?_,h2⟩;unfold L2.start;have hi:i<vs.length:=(Ag.mp h1).1;rw[Aj (by simpa using hi),Bp,h1];rfl
 ·rcases at_ h with z|⟨d',q,z⟩<;>cases z
 ·rcases at_ h with z|⟨d',q,z⟩<;>cases z
theorem Sn{P:Program}{w:World}{K:Ae}{mg:Co}{O8:Heap}{x:Str}{i:Stmt}{g:Addr}{fd:FuncData}{N ps:List Str}{k:Nat}{m:aB}(F:Fun K x x i g fd)(u:Qu N ps (Qp i))(hm:mg x=some (.ref g))
  (hb:∀(kV q I:Value)(y:Option Addr)(j ct:Value)(us:List Value),us.length=ps.length->bindArgs (PySem.W.fnOf x x (J5 i) (ZM i) (Qp i) .none kV q I y j ct) ⟨us,[]⟩=pure (ps.zip us))
  (h:∀(j:Value)(A:Around)(outer:List Env)(s:Shared)(H:Hp)(E:XK),Room k (A.deeper (envOfC x (Qp i) s.heap.objs.size g j))->fL (qF CX0 P w K mg O8 N x (Qp i) g j A outer s H E).nox (ZM i) m) :
  Has P w K mg O8 x (k+1) ps.length (Q3 N.length m):=by
 refine⟨g,fd,ps,F.ok u (λvs H Q E h=>h.1) (λj A outer s H vs Q E G sp=>?_),F.binds hb,F.kp,hm⟩;obtain⟨hn,ρ,B,hp,ds,d,C,W,r,e,k⟩:=sp;obtain⟨⟨fl,n⟩,hp1,z,o⟩:=Qg e;refine⟨_,h j A outer s H E G,⟨ρ,B,H⟩,_,ρ,B,hp,fl,n,hp1,xa W r,z,λσ' ρ' B' H' g' S'=>?_⟩;cases fl with
 |nx=>obtain⟨rfl,rfl⟩:=Qm o;exact k .non ρ' B' H' S'.gr S'.wo j9
 |rt x=>obtain⟨rfl,rfl⟩:=Qm o;exact λv J=>k v ρ' B' H' S'.gr S'.wo J
 |bk=>cases o
 |ct=>cases o
def QB(n:Nat)(F:Cs)(a:aW):aD:=λenv=>do
 let ds <- a env
 Qy (decide (ds.length=n))
 F ds
theorem QE{y:Str}{k j n:Nat}{F:Cs}{e:Expr}{es:List Expr}{fa:aW}{p:Pos}(h:Has X.prog X.w X.K X.mg X.O8 y j n F)(P:Room k X.A)(I:j<=k)(hx:Xs CX0 X E0)(ha:DA X (e::es) fa)(G:Gl X y:=by rfl)
  (hdb:(y==("__debug__" : Str))=false:=by decide) (he:starEach (e::es) X.env=(false,eval e X.env)::starEach es X.env:=by rfl) (hpl:(backTo pos (starEach es X.env)).any (·.1)=false:=by rfl):DE X (.Call (.Name y p) (e::es) [] pos) (QB n F fa):=by
 obtain⟨g,fd,ps,q,E,J,hm⟩:=h.ex;refine L2.PE.imp (gJ q (P.mono I) G hm J E .nil hx ha hdb he hpl) λσ H Q r=>?_;obtain⟨Z,env,ρ,B,hp,d,i,S,e,k⟩:=r;obtain⟨ds,hp1,u,v⟩:=Qg e;obtain⟨_,O,z,C⟩:=Qg v;obtain⟨L,rfl⟩:=Qz z;refine cY.run S u λvs ρ1 o H1 g1 S1 m=>?_;refine⟨by rw[Bo,<- m.length];exact Ci L,ρ1,o,hp1,ds,d,i,S1.wo,by rw[Bo];exact m,C,k.after g1⟩
end
section
variable{X:Cx}{e a b c:Expr}{f fa fb fc:aD}{ca cb:bH}{pos:Pos}
def xr(C:Int->Int->Bool)(g:Int->Int->DV):DV->DV->M DV
 |.int i,.int j=>if C i j then pure (g i j)else failure
 |_,_=>failure
theorem VA{C:Int->Int->Bool}{g:Int->Int->DV}{x y d:DV}{hp m:Hs}(h:xr C g x y hp=some (d,m)):∃i j,x=.int i/\y=.int j/\C i j=true/\d=g i j/\hp=m:=by
 unfold xr at h;split at h
 ·rename_i i j;by_cases n:C i j=true
  ·rw[Cf n]at h;obtain⟨rfl,rfl⟩:=Qm h;exact⟨i,j,rfl,rfl,n,rfl,rfl⟩
  ·rw[Ce n]at h;cases h
 ·cases h
theorem gG{g:Value->Value->Sem Value}{C:Int->Int->Bool}{P:Int->Int->Prop}{q:Int->Int->Int}(r:OpR X g (rI P λi j=>.int (q i j)))(n:∀i j,C i j=true->P i j):P2 X g (xr C λi j=>.int (q i j)):=by intro m s σ H x y v u Q I rx ry h;refine r m s σ H x y v u Q I rx ry ?_;obtain⟨ρ,B,hp,G,J,d,z,W,E,F,e,k⟩:=h;obtain⟨i,j,rfl,rfl,o,rfl,rfl⟩:=VA e;exact⟨i,j,E.aN,F.aN,n i j o,k _ ρ B H Gr.refl W Z6⟩
theorem Qhs{g:Value->Value->Sem Value}{q:Int->Int->Int}(n:OpR X g (rI0 λi j=>.int (q i j))):P2 X g (xr (λ_ _=>true) λi j=>.int (q i j)):=by intro m s σ H x y v u Q I rx ry h;refine n m s σ H x y v u Q I rx ry ?_;obtain⟨ρ,B,hp,C,E,d,o,W,r,z,e,k⟩:=h;obtain⟨i,j,rfl,rfl,F,rfl,rfl⟩:=VA e;exact⟨i,j,r.aN,z.aN,k _ ρ B H Gr.refl W Z6⟩
theorem UQ{g:Value->Value->Sem Value}{q:Int->Int->Bool}(n:OpR X g (rI0 λi j=>.bl (q i j))):P2 X g (xr (λ_ _=>true) λi j=>.bl (q i j)):=by intro m s σ H x y v u Q I rx ry h;refine n m s σ H x y v u Q I rx ry ?_;obtain⟨ρ,B,hp,C,E,d,o,W,r,z,e,k⟩:=h;obtain⟨i,j,rfl,rfl,F,rfl,rfl⟩:=VA e;exact⟨i,j,r.aN,z.aN,k _ ρ B H Gr.refl W ZW⟩
def HQ(i j:Int):Bool:=decide ((-(2 ^ 64)<i/\i<2 ^ 64)∨(-(2 ^ 64)<j/\j<2 ^ 64))
def Ih(_ j:Int):Bool:=decide (0<j/\j<1073741824)
def Ig(_ j:Int):Bool:=decide (0<j)
def HP(i j:Int):Bool:=decide (0<=j/\j<=1000000/\i.natAbs<2 ^ 64)
def VU:DV->DV->M DV:=xr (λ_ _=>true) λi j=>.int (i-j)
def Ij:DV->DV->M DV:=xr HQ λi j=>.int (i * j)
def Y5:DV->DV->M DV:=xr Ih λi j=>.int (i / j)
def Xg:DV->DV->M DV:=xr Ig λi j=>.int (i % j)
def mW:DV->DV->M DV:=xr HP λi j=>.int (i ^ j.toNat)
def cD:DV->DV->M DV:=xr (λ_ _=>true) λi j=>.bl (decide (i<j))
def dI:DV->DV->M DV:=xr (λ_ _=>true) λi j=>.bl (decide (i<=j))
def fJ:DV->DV->M DV:=xr (λ_ _=>true) λi j=>.bl (decide (j<i))
def lJ:DV->DV->M DV:=xr (λ_ _=>true) λi j=>.bl (decide (j<=i))
def V6:P2 X (binaryOp .Sub) VU:=Qhs SR
def MM:P2 X (binaryOp .Mult) Ij:=gG ST λi j h=>Ci (p:=(-(2 ^ 64)<i/\i<2 ^ 64)∨(-(2 ^ 64)<j/\j<2 ^ 64)) h
def xK:P2 X (binaryOp .FloorDiv) Y5:=gG Qho λi j h=>Ci (p:=0<j/\j<1073741824) h
def qq:P2 X (binaryOp .Mod) Xg:=gG SU λ_ _ h=>Ci h
def Io:P2 X (binaryOp .Pow) mW:=gG SS λi j h=>Ci (p:=0<=j/\j<=1000000/\i.natAbs<2 ^ 64) h
def jg:P2 X (compareOp .Lt) cD:=UQ MR
def vn:P2 X (compareOp .LtE) dI:=UQ MS
def gH:P2 X (compareOp .Gt) fJ:=UQ MT
def nY:P2 X (compareOp .GtE) lJ:=UQ MU
def Hu:DV->M DV
 |.int i=>pure (.int (-i))
 |_=>failure
def yb(f:aD):aD:=λenv=>do Hu (<- f env)
theorem Mx(h:DE X a f):DE X (.UnaryOp .USub a pos) (yb f):=L2.PE.imp (MD BM h) λσ H Q m=>by
 obtain⟨Z,env,ρ,B,hp,d,o,S,e,k⟩:=m;obtain⟨x,hp1,n,j⟩:=Qg e;refine tD.run S n λv ρ1 B1 H1 g1 S1 q=>?_;cases x with
 |int i=>obtain⟨rfl,rfl⟩:=Qm j;exact⟨i,q.aN,k _ ρ1 B1 H1 g1 S1.wo Z6⟩
 |_=>cases j
theorem Qfr:OpR X (binaryOp .Add) (λx y H Q=>∃a b ys,x=.ref a/\y=.ref b/\SqT X.K H a []/\SqT X.K H b ys/\ys.length<=sizeLine/\Q (.ref b) H):=by
 intro G s σ H x y v u Q I rx ry h;obtain⟨a,b,ys,rfl,rfl,ha,j,hz,q⟩:=h;cases rx;cases ry;obtain⟨d,C,o,_⟩:=I.tuple ha;obtain⟨i,E,r,_⟩:=I.tuple j;obtain⟨m,F⟩:=I.fr;have z:d=[]:=by cases C;rfl
 subst z;exact add_tuples F (Qfm (g:=X.O8) (L:=X.env.locals)) o r (λ_=>⟨.ref b,H,I,rfl,q⟩) (λn=>absurd rfl n) (λn=>absurd rfl n) (by have:=E.length;simp;lia)
def Zf:DV->DV->M DV
 |.int i,.int j=>pure (.int (i+j))
 |.tup xs,.tup ys=>do Qy (X3 (xs++ys));pure (.tup (xs++ys))
 |.lst xs,.lst ys=>do Qy (X3 (xs++ys));pure (.lst (xs++ys))
 |_,_=>failure
theorem Ox:OpR X (binaryOp .Add) (λx y H Q=>∃l b xs j,x=.ref l/\y=.ref b/\SqL X.K H l xs/\SqL X.K H b j/\xs.length+j.length<=sizeLine/\∀p,H p=none->Q (.ref p) (upd H p (.lst (xs++j)))):=by
 intro O9 s σ H x y v u Q I rx ry h;obtain⟨l,b,xs,j,rfl,rfl,U,S,hz,q⟩:=h;cases rx;cases ry;obtain⟨i,E,⟨⟨k1,WK,WL,n⟩,Y,z,c1,d1,J⟩,_⟩:=I.list U;obtain⟨d,G,⟨⟨k2,P,O,o⟩,Z,C,c2,r,L⟩,_⟩:=I.list S;simp only at c1 d1 J c2 r L;subst c1 d1 J c2 r L;have R:i.toArray++d.toArray=(i++d).toArray:=by simp
 have m:i.length+d.length<=sizeLine:=by rw[<- E.length,<- G.length];exact hz
 refine concat_meets (T := "list") ⟨_,z,rfl⟩ ⟨_,C,rfl⟩ noFill_list_add seq_list_add PySem.F.slot_list_add PySem.F.entry_list_add (PySem.F.args_list_add_2 _ _) (list_addW l b i.toArray d.toArray Y Z none none n o (by simpa using m)) ⟨z,C,?_⟩;rw[R];exact⟨.ref _,_,I.lnew (t':=s.toks) (E.append G) (by rw[Ap];exact hz),rfl,q _ I.fresh⟩
theorem Zu:P2 X (binaryOp .Add) Zf:=by
 intro q s σ H x y v u Q I rx ry h;obtain⟨ρ,B,hp,P,R,d,O,W,C,E,e,k⟩:=h;unfold Zf at e;split at e
 ·obtain⟨rfl,rfl⟩:=Qm e;exact SW q s σ H x y v u Q I rx ry ⟨_,_,C.aN,E.aN,k _ ρ B H Gr.refl W Z6⟩
 ·rename_i xs ys;obtain⟨_,hp1,r,z⟩:=Qg e;obtain⟨hs,rfl⟩:=Qz r;obtain⟨rfl,rfl⟩:=Qm z;obtain⟨a,vs,rfl,J,n,i⟩:=C.tupI;obtain⟨b,m,rfl,L,o,j⟩:=E.tupI;have hz:vs.length+m.length<=sizeLine:=by have:=ze hs;rw[Ap]at this;rw[<- i.length,<- j.length];exact this
  by_cases F:vs=[]
  ·subst F;have:xs=[]:=by have:=i.length;cases xs with|nil=>rfl|cons _ _=>simp at this
   subst this;exact Qfr q s σ H _ _ v u Q I rx ry ⟨a,b,m,rfl,rfl,n,o,by simp at hz;exact hz,k _ ρ B H Gr.refl W (zH L o j)⟩
  ·refine Qhn q s σ H _ _ v u Q I rx ry ⟨a,b,vs,m,rfl,rfl,n,o,F,hz,λG=>?_,λG=>jU W (ak.append i j) k⟩;subst G;have:ys=[]:=by have:=j.length;cases ys with|nil=>rfl|cons _ _=>simp at this
   subst this;rw[Bo]at k;exact k _ ρ B H Gr.refl W (zH J n i)
 ·rename_i xs ys;obtain⟨_,hp1,r,z⟩:=Qg e;obtain⟨hs,rfl⟩:=Qz r;obtain⟨rfl,rfl⟩:=Qm z;obtain⟨a,vs,rfl,J,n,i⟩:=C.bQ;obtain⟨b,m,rfl,L,o,j⟩:=E.bQ;have hz:vs.length+m.length<=sizeLine:=by have:=ze hs;rw[Ap]at this;rw[<- i.length,<- j.length];exact this
  exact Ox q s σ H _ _ v u Q I rx ry ⟨a,b,vs,m,rfl,rfl,n,o,hz,qj W (ak.append i j) k⟩
 ·cases e
def eO:DV->Bool
 |.non=>true
 |_=>false
theorem NQ{K:Ae}{ρ:Cr}{B:Cq}{H:Hp}{d:DV}{v:V}(r:au K ρ B H d v):decide (v=.non)=eO d:=by
 cases d with
 |non=>rw[r.dZ];rfl
 |bl b=>rw[r.eU];rfl
 |int b=>rw[r.aN];rfl
 |str b=>rw[r.aZ];rfl
 |tup b=>obtain⟨a,xs,rfl,_⟩:=r.tupI;rfl
 |lst b=>obtain⟨a,xs,rfl,_⟩:=r.bQ;rfl
 |ref b=>obtain⟨a,rfl,_⟩:=r.oK;rfl
def isD:DV->DV->M DV
 |x,.non=>pure (.bl (eO x))
 |.bl p,.bl q=>pure (.bl (p==q))
 |_,_=>failure
def vi:DV->DV->M DV
 |x,.non=>pure (.bl (!eO x))
 |.bl p,.bl q=>pure (.bl (p != q))
 |_,_=>failure
theorem lN:P2 X (compareOp .Is) isD:=by
 intro m s σ H x y v u Q I rx ry h;obtain⟨ρ,B,hp,o,q,d,n,W,i,j,e,k⟩:=h;unfold isD at e;split at e
 ·obtain⟨rfl,rfl⟩:=Qm e;refine SV m s σ H x y v u Q I rx ry ⟨j.dZ,?_⟩;rw[NQ i];exact k _ ρ B H Gr.refl W ZW
 ·obtain⟨rfl,rfl⟩:=Qm e;obtain rfl:=i.eU;obtain rfl:=j.eU;cases rx;cases ry;exact is_bool ⟨.bl _,H,I,rfl,k _ ρ B H Gr.refl W ZW⟩
 ·cases e
theorem pU:P2 X (compareOp .IsNot) vi:=by
 intro m s σ H x y v u Q I rx ry h;obtain⟨ρ,B,hp,o,q,d,n,W,i,j,e,k⟩:=h;unfold vi at e;split at e
 ·obtain⟨rfl,rfl⟩:=Qm e;refine Qhp m s σ H x y v u Q I rx ry ⟨j.dZ,?_⟩;rw[NQ i];exact k _ ρ B H Gr.refl W ZW
 ·obtain⟨rfl,rfl⟩:=Qm e;obtain rfl:=i.eU;obtain rfl:=j.eU;cases rx;cases ry;exact isnot_bool ⟨.bl _,H,I,rfl,k _ ρ B H Gr.refl W ZW⟩
 ·cases e
theorem uN{K:Ae}{ρ:Cr}{B:Cq}{H:Hp}{ds:List DV}{xs:List V}{i:Int}{d:DV}(r:ak K ρ B H ds xs)(h:atI ds i=some d):∃x,atI xs i=some x/\au K ρ B H d x:=by
  unfold atI at h ⊢;rw[<- r.length];cases q:ixN ds.length i with
  |none=>rw[q]at h;cases h
  |some j=>rw[q]at h;exact r.get h
def bR:DV->DV->M DV
  |.tup ds,.int i=>match atI ds i with
    |some d=>pure d
    |none=>failure
  |.lst ds,.int i=>match atI ds i with
    |some d=>pure d
    |none=>failure
  |_,_=>failure
theorem Hr:IxR X (nu X.K bR):=by
  intro value slice O9 s σ H x y v u Q I rx ry h hsub;obtain⟨ρ,B,hp,F,G,d,C,W,o,r,e,k⟩:=h;unfold bR at e;split at e
  . rename_i ds i
    cases q:atI ds i with
    |none=>rw[q]at e;cases e
    |some d' =>rw[q]at e;obtain⟨rfl,rfl⟩:=Qm e;obtain⟨a,xs,rfl,E,m,j⟩:=o.tupI;obtain⟨z,hz,n⟩:=uN j q;exact Sa value slice O9 s σ H _ _ v u Q I rx ry ⟨a,xs,i,z,rfl,r.aN,m,hz,k _ ρ B H Gr.refl W n⟩ hsub
  . rename_i ds i
    cases q:atI ds i with
    |none=>rw[q]at e;cases e
    |some d' =>rw[q]at e;obtain⟨rfl,rfl⟩:=Qm e;obtain⟨a,xs,rfl,E,m,j⟩:=o.bQ;obtain⟨z,hz,n⟩:=uN j q;exact Nx value slice O9 s σ H _ _ v u Q I rx ry ⟨a,xs,i,z,rfl,r.aN,m,hz,k _ ρ B H Gr.refl W n⟩ hsub
  . cases e
theorem JI(ha:DE X a fa)(d:DE X b fb)(hs:uJ b:=by intro _ _;rfl):DE X (.Subscript a b pos) (Qi bR fa fb):=L2.PE.imp (Lq Hr ha d hs) λ_ _ _ h=>jq h
end
mutual
def toP:DV->PyData
 |.non=>.none
 |.bl b=>.bool b
 |.int i=>.int i
 |.str x=>.str x
 |.tup xs=>.tuple (dG xs)
 |.lst xs=>.list (dG xs)
 |.ref _=>.none
def dG:List DV->List PyData
 | []=>[]
 |d::ds=>toP d::dG ds
end
mutual
def vS:DV->Bool
 |.ref _=>false
 |.tup xs=>cL xs
 |.lst xs=>cL xs
 |_=>true
def cL:List DV->Bool
 | []=>true
 |d::ds=>vS d&&cL ds
end
section
variable{X:Cx}{O9:Cn}{σ:St}{H:Hp}{s:Shared}{ρ:Cr}{B:Cq}
mutual
theorem jG(I:Inv X O9 σ H s):∀(d:DV)(v:V)(u:Value),au X.K ρ B H d v->RelV v u->vS d=true->∃as,Reads s.heap u (toP d) as
  |.non,_,_,r,c,_=>by obtain rfl:=r.dZ;cases c;exact⟨[],by unfold toP;exact .none⟩
  |.bl b,_,_,r,c,_=>by obtain rfl:=r.eU;cases c;exact⟨[],by unfold toP;exact .bool b⟩
  |.int i,_,_,r,c,_=>by obtain rfl:=r.aN;obtain⟨t,rfl⟩:=c;exact⟨[],by unfold toP;exact .int i t⟩
  |.str x,_,_,r,c,_=>by obtain rfl:=r.aZ;obtain⟨t,rfl⟩:=c;exact⟨[],by unfold toP;exact .str x t⟩
  |.ref _,_,_,_,_,n=>by cases n
  |.tup ds,_,_,r,c,n=>by obtain⟨a,xs,rfl,_,C,y⟩:=r.tupI;cases c;obtain⟨j,z,⟨o,e,m,k,hd⟩,_⟩:=I.tuple C;obtain⟨as,q⟩:=cF I ds xs j y z (by unfold vS at n;exact n);exact⟨_,by unfold toP;exact reads_tuple_at e m hd (by simpa using q)⟩
  |.lst ds,_,_,r,c,n=>by obtain⟨a,xs,rfl,_,C,y⟩:=r.bQ;cases c;obtain⟨j,z,⟨o,k,e,m,_,hd⟩,_⟩:=I.list C;obtain⟨as,q⟩:=cF I ds xs j y z (by unfold vS at n;exact n);exact⟨_,by unfold toP;exact reads_list_at e m hd (by simpa using q)⟩
theorem cF(I:Inv X O9 σ H s):∀(ds:List DV)(xs:List V)(us:List Value),ak X.K ρ B H ds xs->Vals xs us->cL ds=true->∃as,ReadsAll s.heap us (dG ds) as
  | [],_,_,r,a,_=>by unfold ak at r;subst r;cases a;exact⟨[],by unfold dG;exact .nil⟩
  |d::ds,_,_,r,a,n=>by
    unfold ak at r;obtain⟨x,xs,rfl,i,j⟩:=r;cases a with
    |cons c e=>unfold cL at n;rw[Bg]at n;obtain⟨as,h1⟩:=jG I d x _ i c n.1;obtain⟨bs,h2⟩:=cF I ds xs _ j e n.2;exact⟨_,by unfold dG;exact .cons h1 h2⟩
end
end
def dW(d:DV):Bool:=vS d&&SeqAt.shaped (toP d)
def cG:DV->DV->M DV:=λx y=>do Qy (dW x&&dW y);pure (.bl (PyData.eqv (toP x) (toP y)))
def lZ:DV->DV->M DV:=λx y=>do Qy (dW x&&dW y);pure (.bl (!PyData.eqv (toP x) (toP y)))
section
variable{X:Cx}{e a b c:Expr}{f fa fb fc:aD}{ca cb:bH}{pos:Pos}
theorem VG(q:X.A.units+64<cLine):P2 X (compareOp .Eq) cG:=by intro F s σ H x y v u Q I rx ry h;obtain⟨ρ,B,hp,i,j,d,o,W,C,E,e,k⟩:=h;obtain⟨_,hp1,m,n⟩:=Qg e;obtain⟨hs,rfl⟩:=Qz m;obtain⟨rfl,rfl⟩:=Qm n;simp only[dW,Bg]at hs;obtain⟨as,r⟩:=jG I i x v C rx hs.1.1;obtain⟨bs,z⟩:=jG I j y u E ry hs.2.1;exact eq_dataH r z hs.1.2 hs.2.2 q ⟨.bl _,H,I,rfl,k _ ρ B H Gr.refl W ZW⟩
theorem Hq(q:X.A.units+64<cLine):P2 X (compareOp .NotEq) lZ:=by intro F s σ H x y v u Q I rx ry h;obtain⟨ρ,B,hp,i,j,d,o,W,C,E,e,k⟩:=h;obtain⟨_,hp1,m,n⟩:=Qg e;obtain⟨hs,rfl⟩:=Qz m;obtain⟨rfl,rfl⟩:=Qm n;simp only[dW,Bg]at hs;obtain⟨as,r⟩:=jG I i x v C rx hs.1.1;obtain⟨bs,z⟩:=jG I j y u E ry hs.2.1;exact ne_dataH r z hs.1.2 hs.2.2 q ⟨.bl _,H,I,rfl,k _ ρ B H Gr.refl W ZW⟩
def eG(K:Ae)(g:Cs):List V->Hp->VK->Prop:=λxs H Q=>∃ρ B hp ds d i,aM K ρ B hp H/\ak K ρ B H ds xs/\g ds hp=some (d,i)/\fu K ρ B H d i Q
def QL(g:Cs)(a:aW):aD:=λenv=>do g (<- a env)
theorem kQ{K:Ae}{g:Cs}{fa:aW}{σ:St}{H:Hp}{Q:VK}(h:tD K (QL g fa) σ H Q):tCB (eG K g) (cY K fa) σ H Q:=by obtain⟨Z,env,ρ,B,hp,d,i,S,e,k⟩:=h;obtain⟨ds,hp1,m,n⟩:=Qg e;exact cY.run S m λvs ρ1 j H1 g1 S1 o=>⟨ρ1,j,hp1,ds,d,i,S1.wo,o,n,k.after g1⟩
theorem QX{x:Str}{id:String}{g:Cs}{e:Expr}{es:List Expr}{fa:aW}{p:Pos}(i:CallR X (.builtin id) (eG X.K g))(hm:X.mg x=none)(m:bootBuiltins x=some (.builtin id))(ha:DA X (e::es) fa)(j:Gl X x:=by rfl)(hn:x ≠ "__name__" := by decide)(d:(x==("__debug__" : Str))=false:=by decide)
  (he:starEach (e::es) X.env=(false,eval e X.env)::starEach es X.env:=by rfl) (hpl:(backTo pos (starEach es X.env)).any (·.1)=false:=by rfl):DE X (.Call (.Name x p) (e::es) [] pos) (QL g fa) :=
 L2.PE.imp (yY i j hm m ha hn d he hpl) λ_ _ _ h=>kQ h
theorem JJ{x:Str}{T:String}{g:Cs}{e:Expr}{es:List Expr}{fa:aW}{p:Pos}(i:CallR X (.type T) (eG X.K g))(hm:X.mg x=none)(m:bootBuiltins x=some (.type T))(ha:DA X (e::es) fa)(j:Gl X x:=by rfl)(hn:x ≠ "__name__" := by decide)(d:(x==("__debug__" : Str))=false:=by decide)
  (he:starEach (e::es) X.env=(false,eval e X.env)::starEach es X.env:=by rfl) (hpl:(backTo pos (starEach es X.env)).any (·.1)=false:=by rfl):DE X (.Call (.Name x p) (e::es) [] pos) (QL g fa) :=
 L2.PE.imp (vU i j hm m ha hn d he hpl) λ_ _ _ h=>kQ h
theorem ak.bA{K:Ae}{ρ:Cr}{B:Cq}{H:Hp}{d:DV}{vs:List V}(h:ak K ρ B H [d] vs):∃v,vs=[v]/\au K ρ B H d v:=by unfold ak at h;obtain⟨x,r,rfl,h1,h2⟩:=h;unfold ak at h2;subst h2;exact⟨x,rfl,h1⟩
def XX:List DV->M DV
 | [.tup ds]=>pure (.int ds.length)
 | [.lst ds]=>pure (.int ds.length)
 |_=>failure
theorem xB:CallR X (.builtin "len") (eG X.K XX):=by
 intro m s σ H xs us Q I r h;obtain⟨ρ,B,hp,ds,d,o,W,n,e,k⟩:=h;unfold XX at e;split at e
 ·obtain⟨rfl,rfl⟩:=Qm e;obtain⟨v,rfl,i⟩:=n.bA;obtain⟨a,ys,rfl,_,j,l⟩:=i.tupI;exact zw m s σ H _ us Q I r ⟨a,ys,rfl,.inr j,by rw[<- l.length];exact k _ ρ B H Gr.refl W Z6⟩
 ·obtain⟨rfl,rfl⟩:=Qm e;obtain⟨v,rfl,i⟩:=n.bA;obtain⟨a,ys,rfl,_,j,l⟩:=i.bQ;exact zw m s σ H _ us Q I r ⟨a,ys,rfl,.inl j,by rw[<- l.length];exact k _ ρ B H Gr.refl W Z6⟩
 ·cases e
def kn:List DV->M DV
 | [.lst ds]=>pure (.tup ds)
 | [.tup ds]=>pure (.tup ds)
 |_=>failure
theorem yD:CallR X (.type "tuple") (eG X.K kn):=by
 intro m s σ H xs us Q I r h;obtain⟨ρ,B,hp,ds,d,o,W,n,e,k⟩:=h;unfold kn at e;split at e
 ·obtain⟨rfl,rfl⟩:=Qm e;obtain⟨v,rfl,j⟩:=n.bA;obtain⟨a,ys,rfl,_,i,l⟩:=j.bQ;exact qE m s σ H _ us Q I r ⟨a,ys,rfl,.inl ⟨i,jU W l k⟩⟩
 ·obtain⟨rfl,rfl⟩:=Qm e;obtain⟨v,rfl,j⟩:=n.bA;obtain⟨a,ys,rfl,q,i,l⟩:=j.tupI;exact qE m s σ H _ us Q I r ⟨a,ys,rfl,.inr ⟨i,k _ ρ B H Gr.refl W (zH q i l)⟩⟩
 ·cases e
def Ly:DV->Option String
 |.non=>some "NoneType"
 |.bl _=>some "bool"
 |.int _=>some "int"
 |.str _=>some "str"
 |.tup _=>some "tuple"
 |.lst _=>some "list"
 |.ref _=>none
def HW(t T:String):Bool:=t==T||(t == "bool" && T == "int")
def JS(g g':DV->DV->M DV)(fa fb fc:aD):aD:=λenv=>do
 let x <- fa env
 let y <- fb env
 let z <- g x y
 if <- c7 z then
  let u <- fc env
  g' y u
 else pure (.bl false)
end
section
variable{X:Cx}{e a b c:Expr}{f fa fb fc:aD}{ca cb:bH}{pos:Pos}
theorem Qbp{K:Ae}{g g':DV->DV->M DV}{σ:St}{H:Hp}{Q:VK}(h:tD K (JS g g' fa fb fc) σ H Q):LC (nu K g) (nu K g') (tD K fa) (tD K fb) (tD K fc) σ H Q:=by
  obtain⟨Z,env,ρ,B,hp,d,i,S,e,k⟩:=h;obtain⟨x,hp1,C,e⟩:=Qg e;obtain⟨y,j,E,e⟩:=Qg e;obtain⟨z,L,F,e⟩:=Qg e;obtain⟨t,U,G,e⟩:=Qg e;obtain⟨rfl,rfl⟩:=qM G;refine tD.run S C λv ρ1 B1 H1 g1 S1 P=>tD.run S1 E λu ρ2 o H2 g2 S2 n=>?_;refine⟨ρ2,o,j,x,y,_,_,S2.wo,au.grow S1.wo.rb g2 _ _ P,n,F,λw ρ3 B3 H3 g3 W3 R=>⟨t,R.eU,?_⟩⟩;have m:=S2.grow g3 W3;cases t with
  |false=>obtain⟨rfl,rfl⟩:=Qm e;exact vj (k _ ρ3 B3 H3 (g1.trans (g2.trans g3)) W3 ZW)
  |true=>obtain⟨q,O,I,J⟩:=Qg e;refine KH (tD.run m I λp ρ4 r H4 g4 S4 T=>?_);exact⟨ρ4,r,O,y,q,d,i,S4.wo,au.grow m.wo.rb g4 _ _ (au.grow S2.wo.rb g3 _ _ n),T,J,k.after (g1.trans (g2.trans (g3.trans g4)))⟩
theorem YO{m i:CmpOp}{g g':DV->DV->M DV}(y:P2 X (compareOp m) g)(j:P2 X (compareOp i) g')(ha:DE X a fa)(r:DE X b fb)(u:DE X c fc)(hm:lastMarks [m,i] [b,c]=false:=by with_unfolding_all rfl):DT X (.Compare a [m,i] [b,c] pos) (eB (JS g g' fa fb fc)) :=
 L2.PT.imp (QfN y j ha r u hm) λσ H Q n=>by obtain⟨Z,env,ρ,B,hp,d,z,S,e,k⟩:=n;obtain⟨x,hp1,o,q⟩:=Qg e;obtain⟨rfl,rfl⟩:=qM q;exact Qbp (tD.run S o λv ρ1 B1 H1 g1 S1 C=>⟨d,C.eU,k ρ1 B1 H1 g1 S1.wo⟩)
abbrev iJ:=En->M (Option Int)
def iY(K:Ae)(f:iJ):TO:=λσ H Q=>∃Z env ρ B hp d i,bw K Z env σ ρ B hp H/\f env hp=some (d,i)/\HN K ρ B H i (Q d)
def DO(X:Cx)(e:Option Expr)(f:iJ):Prop:=PO X e (iY X.K f)
def ZS:iJ:=λ_=>pure none
def cO:DV->M Int
 |.int i=>pure i
 |_=>failure
theorem U9{d:DV}{c:Int}{hp i:Hs}(h:cO d hp=some (c,i)):d=.int c/\hp=i:=by
 cases d with
 |int b=>obtain⟨rfl,rfl⟩:=Qm h;exact⟨rfl,rfl⟩
 |_=>cases h
def Zw(f:aD):iJ:=λenv=>do let i <- cO (<- f env);pure (some i)
theorem Jg:DO X none ZS:=λi s σ H Q I j=>by obtain⟨Z,env,ρ,B,hp,d,m,S,e,k⟩:=j;obtain⟨rfl,rfl⟩:=Qm e;exact QhC i s σ H Q I (k ρ B H Gr.refl S.wo)
theorem ZN(h:DE X e f):DO X (some e) (Zw f):=λj s σ H Q I m=>by obtain⟨Z,env,ρ,B,hp,d,u,S,e,k⟩:=m;obtain⟨x,hp1,n,o⟩:=Qg e;obtain⟨i,y,q,r⟩:=Qg o;obtain⟨rfl,rfl⟩:=U9 q;obtain⟨rfl,rfl⟩:=Qm r;exact QhD h j s σ H Q I (tD.run S n λv ρ1 B1 H1 g1 S1 z=>⟨i,z.aN,k ρ1 B1 H1 g1 S1.wo⟩)
theorem iY.run{K:Ae}{f:iJ}{Z:Ent}{env:En}{σ:St}{ρ:Cr}{B:Cq}{hp hp1:Hs}{H:Hp}{d:Option Int}{Q:Option Int->Hp->Prop}(S:bw K Z env σ ρ B hp H)(e:f env hp=some (d,hp1))
  (k:∀ρ' B' H',Gr K ρ B H ρ' B' H'->bw K Z env σ ρ' B' hp1 H'->Q d H'):iY K f σ H Q :=
 ⟨Z,env,ρ,B,hp,d,hp1,S,e,λρ' B' H' g W=>k ρ' B' H' g (S.grow g W)⟩
def Kj(ds:List DV)(lo hi:Option Int):List DV:=(ds.drop (HT.sIx ds.length 0 lo)).take (HT.sIx ds.length ds.length hi-HT.sIx ds.length 0 lo)
theorem Kk{K:Ae}{ρ:Cr}{B:Cq}{H:Hp}{ds:List DV}{xs:List V}{lo hi:Option Int}(r:ak K ρ B H ds xs):ak K ρ B H (Kj ds lo hi) (kN xs lo hi):=by unfold Kj kN;rw[r.length];exact ak.take _ (ak.drop _ r)
def fO(d:DV)(lo hi:Option Int):M DV:=match d with
 |.lst ds=>pure (.lst (Kj ds lo hi))
 |.tup ds=>pure (.tup (Kj ds lo hi))
 |_=>failure
def cA(f:aD)(lo hi:iJ):aD:=λenv=>do let d <- f env;let l <- lo env;let h <- hi env;fO d l h
def T9(K:Ae):V->Option Int->Option Int->Hp->VK->Prop:=λx lo hi H Q=>∃ρ B hp d r i,aM K ρ B hp H/\au K ρ B H d x/\fO d lo hi hp=some (r,i)/\fu K ρ B H r i Q
theorem QaP{prog:Program}{w:World}{A:Around}{E:Cm}{s:Shared}{t o:Addr}{items:Array Value}{x y:Value}{lo hi:Option Int}{Q:Cm}(d:IsTup s.heap t items)(hs:s.heap.IsSliceOf o x y .none)(pl:IsPart x lo)(C:IsPart y hi)
  (h0:HT.sIx items.size 0 lo=0) (h1:HT.sIx items.size items.size hi=items.size) (h:Q (.ref t) s):wpAny (model prog w) A (getItem (.ref t) (.ref o)) Q E s:=by
 obtain⟨os,n,m,z⟩:=id hs;have j:s.TypeIs (.ref o) "slice" := ⟨os,n,m⟩;unfold getItem
 try with_reducible refine wpAny_holding ?_
 first|refine Cd (Cg ?_)|skip
 refine Cd (wpAny_sequenceKey d.typeIs (by decide) ?_);refine Cd (wpAny_callSpecial?_slot (name:=Str.ofString "__getitem__") d.typeIs PyProof.Rows.slot_tuple_getitem (wpAny_call_entry PyProof.Rows.slot_tuple_getitem d.typeIs entry_tuple_getitem ?_ (args_tuple_getitem _ _)));show wpAny _ _ (Builtin.Tuple.tupleItemsOf (.ref t) >>= _) _ _ s;refine Cd (tupleItemsOf_ d ?_);refine Cd (wpAny_typeOf j ?_);rw[Cf (by decide)];refine Cd (HT.sliceApplied_gen hs pl C ?_);have r:(((HT.sIx items.size 0 lo:Nat):Int)==0&&(1:Int)==1&&(HT.sIx items.size items.size hi-HT.sIx items.size 0 lo)==items.size)=true:=by rw[h0,h1];simp
 show wpAny _ _ (if (((HT.sIx items.size 0 lo:Nat):Int)==0&&(1:Int)==1&&(HT.sIx items.size items.size hi-HT.sIx items.size 0 lo)==items.size)=true then _ else _) _ _ s;rw[Cf r];have ex:∀{i:Bool->Shared->Prop}{u:Around}{v:Cm},i true s->wpAny (model prog w) u (Builtin.Tuple.tupleIsExact (.ref t)) i v s:=λ{i u v} q=>by unfold Builtin.Tuple.tupleIsExact;exact Cd (wpAny_typeOf d.typeIs (Cg (by rw[show(Value.type "tuple" == Value.type "tuple")=true from beq_self_eq_true _];exact q)))
 refine Cd (ex ?_);rw[Cf rfl]
 first
  |exact Cd (wpAny_rule (Cg ⟨_,rfl,Cg h⟩))
  |exact Cd (wpAny_rule (Cd (Cg (Cg ⟨_,rfl,Cg h⟩))))
theorem Qh0:SlR X (λx lo hi H Q=>∃a xs,x=.ref a/\SqT X.K H a xs/\(HT.sIx xs.length 0 lo=0/\HT.sIx xs.length xs.length hi=xs.length)/\Q (.ref a) H):=by
 intro n s σ H x v vl vu lo hi sl Q I rx hs pl pu h;obtain⟨a,xs,rfl,hx,⟨m,h1⟩,q⟩:=h;cases rx;obtain⟨i,r,j,hz⟩:=I.tuple hx;have d:i.toArray.size=xs.length:=by rw[Aq];exact r.length.symm
 exact⟨"tuple", _,PyProof.Rows.slot_tuple_getitem.lookup,j.typeIs,QaP j hs pl pu (by rw[d];exact m) (by rw[d];exact h1) ⟨.ref a,H,I,rfl,q⟩⟩
theorem Qdi{α:Type}(ds:List α)(i j:Nat)(d:i=0)(h1:j=ds.length):(ds.drop i).take (j-i)=ds:=by subst d h1;simp
theorem Cv:SlR X (T9 X.K):=by
  intro n s σ H x v vl vu lo hi sl Q I rx hs pl pu h;obtain⟨ρ,B,hp,d,r,u,W,q,e,k⟩:=h;cases d with
  |lst ds=>obtain⟨rfl,rfl⟩:=Qm e;obtain⟨a,xs,rfl,o,j,i⟩:=q.bQ;exact Oh n s σ H _ v vl vu lo hi sl Q I rx hs pl pu ⟨a,xs,rfl,j,qj W (Kk i) k⟩
  |tup ds =>
    obtain⟨rfl,rfl⟩:=Qm e;obtain⟨a,xs,rfl,o,j,i⟩:=q.tupI;by_cases m:HT.sIx xs.length 0 lo=0/\HT.sIx xs.length xs.length hi=xs.length
    . refine Qh0 n s σ H _ v vl vu lo hi sl Q I rx hs pl pu ⟨a,xs,rfl,j,m,?_⟩
      have:Kj ds lo hi=ds:=by unfold Kj;exact Qdi ds _ _ (by rw[i.length];exact m.1) (by rw[i.length];exact m.2)
      rw[this]at k;exact k _ ρ B H Gr.refl W (zH o j i)
    . exact Db n s σ H _ v vl vu lo hi sl Q I rx hs pl pu ⟨a,xs,rfl,j,m,jU W (Kk i) k⟩
  |non=>cases e
  |bl _=>cases e
  |int _=>cases e
  |str _=>cases e
  |ref _=>cases e
theorem YN{lo hi:Option Expr}{n m:iJ}{G:Pos}(h:DE X e f)(E:DO X lo n)(C:DO X hi m):DE X (.Subscript e (.Slice lo hi none G) pos) (cA f n m) :=
 L2.PE.imp (K0 Cv h E C) λσ H Q q=>by obtain⟨Z,env,ρ,B,hp,d,i,S,e,k⟩:=q;obtain⟨x,hp1,r,e⟩:=Qg e;obtain⟨l,F,y,e⟩:=Qg e;obtain⟨u,j,z,e⟩:=Qg e;refine tD.run S r λv ρ1 B1 H1 g1 S1 I=>iY.run S1 y λρ2 B2 H2 g2 S2=>iY.run S2 z λρ3 o H3 g3 S3=>?_;exact⟨ρ3,o,j,x,d,i,S3.wo,au.grow S1.wo.rb (g2.trans g3) _ _ I,e,k.after (g1.trans (g2.trans g3))⟩
theorem DL{P:Program}{w:World}{K:Ae}{mg:Co}{O8:Heap}{x:Str}{i:Stmt}{g:Addr}{fd:FuncData}{N ps:List Str}{k:Nat}{m:aB}(F:Fun K x x i g fd)(q:Qu N ps (Qp i))
  (h:∀(j:Value)(A:Around)(outer:List Env)(s:Shared)(H:Hp)(E:XK),Room k (A.deeper (envOfC x (Qp i) s.heap.objs.size g j))->fL (qF CX0 P w K mg O8 N x (Qp i) g j A outer s H E).nox (ZM i) m) :
  Y4 P w K mg O8 CX0 (k+1) g fd ps (f9 K ps.length (Q3 N.length m)):=by
 refine F.ok q (λvs H Q E h=>h.1) (λj A outer s H vs Q E z sp=>?_);obtain⟨hn,ρ,B,hp,ds,d,y,W,r,e,k⟩:=sp;obtain⟨⟨fl,n⟩,hp1,u,o⟩:=Qg e;refine⟨_,h j A outer s H E z,⟨ρ,B,H⟩,_,ρ,B,hp,fl,n,hp1,xa W r,u,λσ' ρ' B' H' g' S'=>?_⟩;cases fl with
 |nx=>obtain⟨rfl,rfl⟩:=Qm o;exact k .non ρ' B' H' S'.gr S'.wo j9
 |rt x=>obtain⟨rfl,rfl⟩:=Qm o;exact λv C=>k v ρ' B' H' S'.gr S'.wo C
 |bk=>cases o
 |ct=>cases o
theorem Rm{K:Ae}{ρ:Cr}{B:Cq}{H:Hp}:∀ns:List Int,ak K ρ B H (ns.map DV.int) (ns.map V.int)
 | []=>ak.nil
 |_::r=>ak.cons Z6 (Rm r)
theorem RC{K:Ae}{F:Cs}{H:Hp}{a:Addr}{ns:List Int}{E:XK}(h:∃d,F [.lst (ns.map .int)] []=some (.bl true,d))(j:SqL K H a (ns.map V.int)):f9 K 1 F [.ref a] H (λv _=>v=.bl true) E:=by obtain⟨d,h⟩:=h;refine⟨rfl,[],λ_=>False,[],[.lst (ns.map .int)],.bl true,d,⟨rfl,List.nodup_nil,λi a o h=>by simp at h,λa h=>absurd h (by simp),λa h=>absurd h (λz=>z),λa h=>h.elim⟩,ak.one (j8 (λz=>z) j (Rm ns)),h,λv _ _ _ _ _ r=>r.eU⟩
end
end D
namespace L2
open PySem PySem.Spec PyProof.Rows
section
variable{prog:Program}{w:World}{A:Around}{E:Cm}{s:Shared}
theorem xg{p q:Addr}{n:Nat}{xs:Array Value}{v:Value}{Q:Cm}(d:s.heap.IsTupleIter p q n)(e:s.heap.IsTuple q xs)(i:xs[n]?=some v)
  (k:∀g,g.IsTupleIter p q (n+1)->Heap.SameBut p s.heap g->Q v { s with heap:=g }):wpAny (model prog w) A (Builtin.SmallTypes.nextOf (.ref p)) Q E s:=by
 obtain⟨ob,c,j,a⟩:=id d;obtain⟨u,o,_,m,r⟩:=e;unfold Builtin.SmallTypes.nextOf;refine Cd (wpAny_callSpecial?_slot (name:=Str.ofString "__next__") d.typeIs F.slot_tuple_iterator_next (wpAny_call_entry F.slot_tuple_iterator_next d.typeIs F.entry_tuple_iterator_next ?_ (F.args_tuple_iterator_next_1 _)));show wpAny _ _ (field (.ref p) 0 >>= _) _ _ s;refine Cd (wpAny_field c a (x:=.ref q) rfl ?_);show wpAny _ _ (if (Value.ref q==Value.none)=true then _ else _) _ _ s;rw[Ce (show ¬ ((Value.ref q==Value.none)=true)from Br)];show wpAny _ _ (field (.ref p) 1 >>= _) _ _ s;refine Cd (wpAny_field c a (x:=.int n 0) rfl ?_);show wpAny _ _ (seqItems? (.ref q) >>= _) _ _ s;refine Cd (wpAny_seqItems o r ?_);simp only[Bs,i];refine Cd (wpAny_setField c a (by simp) (Cg ⟨v,rfl,Cg (k _ ?_ (Heap.SameBut.update ..))⟩));exact⟨_,Heap.get?_update_self _ c (Obj.isFreed_of_fields (Obj.data_mapFields a _)),(Obj.cls_mapFields ..).trans j,by rw[Obj.data_mapFields a];simp[rawInt]⟩
theorem ku{p q:Addr}{n:Nat}{xs:Array Value}{Q:Cm}(i:A.handled=none)(c:s.heap.IsTupleIter p q n)(j:s.heap.IsTuple q xs)(r:xs[n]?=none)
  (k:∀g x,Heap.ExtBut p s.heap g->(∃o,g.get? x=some o/\o.cls=.type "StopIteration")->E (.ref x) { s with heap:=g }):wpAny (model prog w) A (Builtin.SmallTypes.nextOf (.ref p)) Q E s:=by
 obtain⟨ob,d,y,e⟩:=id c;obtain⟨z,u,_,m,v⟩:=j;unfold Builtin.SmallTypes.nextOf;refine Cd (wpAny_callSpecial?_slot (name:=Str.ofString "__next__") c.typeIs F.slot_tuple_iterator_next (wpAny_call_entry F.slot_tuple_iterator_next c.typeIs F.entry_tuple_iterator_next ?_ (F.args_tuple_iterator_next_1 _)));show wpAny _ _ (field (.ref p) 0 >>= _) _ _ s;refine Cd (wpAny_field d e (x:=.ref q) rfl ?_);show wpAny _ _ (if (Value.ref q==Value.none)=true then _ else _) _ _ s;rw[Ce (show ¬ ((Value.ref q==Value.none)=true)from Br)];show wpAny _ _ (field (.ref p) 1 >>= _) _ _ s;refine Cd (wpAny_field d e (x:=.int n 0) rfl ?_);show wpAny _ _ (seqItems? (.ref q) >>= _) _ _ s;refine Cd (wpAny_seqItems u v ?_);simp only[Bs,r];refine Cd (wpAny_rule (Cd (wpAny_setField d e (by simp) ?_)));show wpAny _ _ (newExc (.type "StopIteration") [] >>= _) _ _ _;refine Cd ?_;simp only[newExc,newTuple];refine Cd (wpAny_newObj_type ?_ (by size_fits));refine Cd (m:=firstArgMember _ _) (wpAny_of_eq (a:=Value.none) (by first|rfl|(simp only[firstArgMember];rfl)) ?_);refine wpAny_newObj_type ?_ (by size_fits);simp only[raiseNew];refine Cd (wpAny_handled ?_)
 first|rw[show A.in1.handled=none from i]|rw[i]
 refine Cd (Cg (wpAny_throw ?_));exact k _ _ (((Heap.SameBut.update ..).extBut.push _).push _) ⟨_,Aw _ rfl,rfl⟩
structure ZA(z p o i j a b:Addr):Prop where
 pz:p≠z
 oz:o≠z
 iz:i≠z
 jz:j≠z
 po:p≠o
 pi:p≠i
 pj:p≠j
 oi:o≠i
 oj:o≠j
 ij:i≠j
 az:a≠z
 ao:a≠o
 ai:a≠i
 aj:a≠j
 bz:b≠z
 bo:b≠o
 bi:b≠i
 bj:b≠j
end
section
variable{X:Cx}{O9:Cn}{σ:L2.St}{H:Hp}{s:Shared}{h':Heap}
theorem Inv.lD{t':Nat}{d:Cr}(I:Inv X O9 σ H s)(hf:∀b∈d,Vq X O9 H b)(k:∀b o,b∉d->s.heap.get? b=some o->h'.get? b=some o):Inv X O9 σ H { s with heap:=h',toks:=t' }:=by
 refine I.step (g':=s.gens) (d':=s.drawn) (ch:=d) (λb i=>⟨(hf b i).2.2.2.1,(hf b i).2.1,(hf b i).2.2.2.2.1,(hf b i).2.2.2.2.2⟩) (λb o _ _ a e _=>k b o a e) (λb o _ _ a e _=>⟨o.slots,k b o a e⟩) (λ_ _ _ _ n=>n)
  (λb o a e=>⟨o,k b o a e⟩) (λ_ _ e=>e) (λ_ _ _ e=>e) (λb ps e=>⟨#[],by rw[e];simp⟩) (λm hm=>?_) (λb u e=>?_) I.bare
 ·obtain⟨o,es,j,x,r⟩:=hm;exact⟨o,es,j,k _ o (λz=>(hf _ z).2.1 rfl) x,r⟩
 ·have nf:∀c u,H c=some u->c∉d:=λc u q z=>by rw[(hf c z).1]at q;cases q
  refine(I.hok b u e).stay (λc v a q=>k c v ?_ q) (λ_ q=>q) λ_ _ q=>q;rcases a with z|z
  ·rw[z];exact nf b u e
  ·exact nf c _ z
theorem Inv.fB{t':Nat}{i:Cr}{vs:List V}{us:List Value}(I:Inv X O9 σ H s)(hf:∀b∈i,Vq X O9 H b)(k:∀b o,b∉i->s.heap.get? b=some o->h'.get? b=some o)
  (hv:Vals vs us) (hz:vs.length<=sizeLine) (hT:IsTup h' s.heap.objs.size us.toArray):Inv X O9 σ (upd H s.heap.objs.size (.tup vs)) { s with heap:=h',toks:=t' }:=by
 have hn:H s.heap.objs.size=none:=I.hok.fresh (Ai _);refine I.step (g':=s.gens) (d':=s.drawn) (ch:=i) (λb a=>⟨(hf b a).2.2.2.1,(hf b a).2.1,(hf b a).2.2.2.2.1,(hf b a).2.2.2.2.2⟩) (λb o _ _ d e _=>k b o d e) (λb o _ _ d e _=>⟨o.slots,k b o d e⟩)
  (λb o _ e n=>by rw[QS (Bi (Ar e))];exact n) (λb o d e=>⟨o,k b o d e⟩) (λb xs e=>by rw[QS (Zz e hn)];exact e) (λb o u e=>by rw[QS (Zz e hn)];exact e) (λb ps e=>⟨#[],by rw[QS (Zz e hn),e];simp⟩) (λm hm=>?_) (λb u e=>?_) I.bare
 ·obtain⟨o,es,j,x,r⟩:=hm;exact⟨o,es,j,k _ o (λz=>(hf _ z).2.1 rfl) x,r⟩
 ·by_cases a:b=s.heap.objs.size
  ·subst a;rw[QU]at e;cases e;exact⟨hz,us,hv,hT⟩
  ·rw[QS a]at e;have nf:∀c u,H c=some u->c∉i:=λc u q z=>by rw[(hf c z).1]at q;cases q
   refine(I.hok b u e).stay (λc v d q=>k c v ?_ q) (λc q=>by rw[QS (Zz q hn)];exact q) λc xs q=>by rw[QS (Zz q hn)];exact q
   rcases d with z|z
   ·rw[z];exact nf b u e
   ·exact nf c _ z
end
def q_(K:Ae)(a b:Addr):It :=
  ⟨λi H=>∃xs ys x y,SqT K H a xs/\SqT K H b ys/\xs[i]?=some x/\ys[i]?=some y,
   λi H v H'=>∃p x y,H p=none/\(∀xs,SqT K H a xs->xs[i]?=some x)/\(∀ys,SqT K H b ys->ys[i]?=some y)/\v=.ref p/\H'=upd H p (.tup [x,y]),
   λi H=>∃xs ys,SqT K H a xs/\SqT K H b ys/\(xs.length<=i∨ys.length<=i)⟩
abbrev rF(h:Heap)(a:Addr):Heap:=h.push { cls:=.type "tuple_iterator", data:=.fields #[.ref a,.int 0 0] }
abbrev rE(h:Heap)(a b:Addr):Heap:=(rF h a).push { cls:=.type "tuple_iterator", data:=.fields #[.ref b,.int 0 0] }
abbrev rD(h:Heap)(a b:Addr):Heap:=(rE h a b).push { cls:=.type "tuple", data:=.seq #[.ref h.objs.size,.ref (rF h a).objs.size] }
abbrev rC(h:Heap)(a b:Addr):Heap:=(rD h a b).push { cls:=.type "tuple", data:=.seq #[.none,.none] }
abbrev iK(h:Heap)(a b:Addr):Heap:=(rC h a b).push { cls:=.type "zip", data:=.fields #[.none,.bool false,.bool false,.ref (rE h a b).objs.size,.ref (rD h a b).objs.size] }
theorem Qik(a b:Addr)(xs ys:Array Value):Meets (Builtin.«zip.__new__» ⟨[.type "zip", .ref a,.ref b],[]⟩) (λ_ R s=>s.heap.IsTuple a xs/\s.heap.IsTuple b ys/\R (.ok (.ret (.ref (rC s.heap a b).objs.size))) { s with heap:=iK s.heap a b }) :=
 .of_wp λprog w A R s h=>by
  obtain⟨hp,g,d,tk,os⟩:=s;obtain⟨i,j,h⟩:=h;have c:=sub_zip;have m:Heap.IsTuple (Shared.heap ⟨hp,g,d,tk,os⟩) a xs:=i;have n:Heap.IsTuple (Shared.heap ⟨hp.push { cls:=.type "tuple_iterator", data:=.fields #[.ref a,.int 0 0] },g,d,tk,os⟩) b ys:=let ⟨ob,e,r⟩:=j;⟨ob,Ah _ e,r⟩
  wp_walk using wpAny_pyIter_tuple m,wpAny_pyIter_tuple n
  exact⟨_,rfl,h⟩
section
variable{X:Cx}{elts:List Expr}{kt:Nat}{p2:Pos}
def DD(K:Ae)(c:TA):TI:=λσ H R=>c σ H λvs H1=>∃a b xs ys,vs=[.ref a,.ref b]/\SqT K H1 a xs/\SqT K H1 b ys/\R (q_ K a b) H1
end
end L2
namespace D
open PySem PySem.Spec PyProof.Rows L2
def Vo:List DV->List DV->List DV
 |x::xs,y::ys=>.tup [x,y]::Vo xs ys
 |_,_=>[]
theorem GO:∀{xs ys:List DV}{i:Nat}{d:DV},(Vo xs ys)[i]?=some d->∃x y,xs[i]?=some x/\ys[i]?=some y/\d=.tup [x,y]
  |x::xs,y::ys,0,d,h=>by simp[Vo]at h;exact⟨x,y,rfl,rfl,h.symm⟩
  |x::xs,y::ys,i+1,d,h=>by obtain⟨a,b,h1,h2,h3⟩:=GO (xs:=xs) (ys:=ys) (i:=i) (by simpa [Vo]using h);exact⟨a,b,by simpa using h1,by simpa using h2,h3⟩
  | [],_,_,_,h=>by simp[Vo]at h
  |_::_,[],_,_,h=>by simp[Vo]at h
theorem GP:∀(xs ys:List DV),(Vo xs ys).length=min xs.length ys.length
 |x::xs,y::ys=>by simp only[Vo,Be,GP xs ys];lia
 | [],_=>by simp[Vo]
 |_::_,[]=>by simp[Vo]
def BZ(f g:aD):fM:=λenv=>do
 let x <- f env
 let xs <- pJ x
 let y <- g env
 let ys <- pJ y
 pure (Vo xs ys)
theorem Se{K:Ae}{ρ:Cr}{B:Cq}{H:Hp}{ds es:List DV}{a b:Addr}{xs ys:List V}(na:¬ B a)(L:SqT K H a xs)(Q:ak K ρ B H ds xs)(J:¬ B b)(O:SqT K H b ys)(rb:ak K ρ B H es ys):kA K ρ B H (Vo ds es) (q_ K a b):=λρ1 B1 H1 g P T=>by
 have m:=g.rH na L;have j:=g.rH J O;have c:=ak.gs g _ _ Q;have n:=ak.gs g _ _ rb;refine⟨λi d e=>?_,xs,ys,m,j,?_⟩
 ·obtain⟨x,y,h1,h2,rfl⟩:=GO e;obtain⟨u,C,R⟩:=c.get h1;obtain⟨v,E,S⟩:=n.get h2;refine⟨⟨xs,ys,u,v,m,j,C,E⟩,λz H' F=>?_⟩;obtain⟨p,U,X,hn,h3,h4,G,I⟩:=F;subst G I;have o:=h3 xs m;have r:=h4 ys j;rw[C]at o;cases o;rw[E]at r;cases r;refine⟨zH (λz=>T p z hn) (SqT.of QU) (ak.gs (Lx P hn) _ _ (ak.cons R (ak.one S))),.inr ⟨p,_,hn,rfl⟩⟩
 ·rw[GP,c.length,n.length];rcases Nat.le_total xs.length ys.length with q|q
  ·exact .inl (by rw[Nat.min_eq_left q];exact Ai _)
  ·exact .inr (by rw[Nat.min_eq_right q];exact Ai _)
section
variable{X:Cx}{elts:List Expr}{kt:Nat}{p2:Pos}{f g:aD}
def gT(a:List Nat):iU:=λd env=>do
 let ds <- pJ d
 Qy (decide (ds.length=a.length))
 pure ((a.zip ds).foldl (λc q=>c.set q.1 (.val q.2)) env)
def uI(X:Cx):List Nat->List Expr->Prop
 | [],[]=>True
 |i::a,.Name x _::es=>X.N[i]?=some x/\Loc X.env.scope x/\(X.fn x=true∨X.env.scope.names.lookup x=some .local)/\uI X a es
 |_,_=>False
theorem vV(e:X.N.Nodup):∀(d:List Nat)(es:List Expr),uI X d es->(∀a x p,(assignEach (.Name x p::a) X.env).map (·.2)=assign (.Name x p) X.env::(assignEach a X.env).map (·.2)) ->
    PGs X es (λvs σ H Q=>vs.length=d.length/\Q ((d.zip vs).foldl (λs q=>s.set q.1 (some q.2)) σ) H)
  | [],[],_,_=>by
    intro c s σ H vs us Q I r h;obtain⟨h1,h2⟩:=h;have:vs=[]:=by cases vs with|nil=>rfl|cons _ _=>simp at h1
    subst this;exact QhA c s σ H [] us Q I r ⟨rfl,by simpa using h2⟩
  |i::m,.Name x p::es,⟨h1,h2,h3,h4⟩,ha=>by
    intro c s σ H vs us Q I r h;obtain⟨h5,j⟩:=h;cases vs with
    |nil=>simp at h5
    |cons v vs=>exact QfH (UR e h1 h2 h3) (vV e m es h4 ha) (ha _ _ _) c s σ H (v::vs) us Q I r ⟨v,vs,rfl,by simpa using h5,by simpa using j⟩
theorem N5{K:Ae}{Z:Ent}{ρ:Cr}{B:Cq}{hp:Hs}{H:Hp}:∀(c:List Nat)(ds:List DV)(vs:List V){env:En}{σ:L2.St},ak K ρ B H ds vs->bw K Z env σ ρ B hp H ->
    bw K Z ((c.zip ds).foldl (λe q=>e.set q.1 (.val q.2)) env) ((c.zip vs).foldl (λs q=>s.set q.1 (some q.2)) σ) ρ B hp H
  | [],_,_,_,_,_,S=>by simpa using S
  |i::a,[],_,_,_,r,S=>by unfold ak at r;subst r;simpa using S
  |i::a,d::ds,_,_,_,r,S=>by unfold ak at r;obtain⟨v,vs,rfl,j,m⟩:=r;simpa using N5 a ds vs m (S.set (i:=i) j)
theorem Qi5(c:List Nat)(z:X.N.Nodup)(hn:uI X c elts)(C:X.calm=true)(ha:∀i x p,(assignEach (.Name x p::i) X.env).map (·.2)=assign (.Name x p) X.env::(assignEach i X.env).map (·.2))
  (hl:(assignEach elts X.env).length=c.length:=by rfl) (hst:(assignEach elts X.env).findIdx? (·.1)=none:=by rfl):PG X (.Tuple elts kt p2) (oA X.K (gT c)):=by
 intro o s σ H v u Q I r h;refine Qj0 C (vV z c elts hn ha) hl hst o s σ H v u Q I r ?_;obtain⟨Z,env,ρ,B,hp,d,m,E,S,rd,e,k⟩:=h;obtain⟨ds,hp1,q,e⟩:=Qg e;obtain⟨rfl,rfl⟩:=YI q;obtain⟨_,F,y,e⟩:=Qg e;obtain⟨hs,rfl⟩:=Qz y;obtain⟨rfl,rfl⟩:=Qm e;obtain⟨a,xs,rfl,na,G,n⟩:=rd.tupI;have j:xs.length=c.length:=by rw[<- n.length];exact Ci hs
 exact⟨a,xs,rfl,G,j,j,k _ ρ B H Gs.refl (N5 c ds xs n S)⟩
def YY(f:aD)(g:iU):aB:=λenv=>do let d <- f env;let env' <- g d env;pure (.nx,env')
theorem Vw{a e:Expr}{g:iU}{i:Pos}(u:DE X e f)(x:PG X a (oA X.K g))(hs:swapsWithSole [a] e i.line X.env=pure false:=by rfl)(C:swappedStores [a] e X.env=pure none:=by rfl)
  (h1:(assignEach [a] X.env).map (·.2)=[assign a X.env]:=by rfl):DS X (.Assign [a] e i) (YY f g) :=
 L2.PS.imp (Qj3 u x hs C h1) λD σ H o=>by obtain⟨Z,env,ρ,B,hp,fl,c,y,S,e,k⟩:=o;obtain⟨d,hp1,q,e⟩:=Qg e;obtain⟨aA,j,r,e⟩:=Qg e;obtain⟨z,rfl⟩:=Qm e;cases z;exact tD.run S q λv ρ1 m H1 g1 n E=>⟨Z,env,ρ1,m,hp1,d,c,j,n,E,r,λσ' ρ' B' H' g' S'=>k σ' ρ' B' H' ((g1.gs S.wo.rb).trans g') S'⟩
end
theorem QbN(lo:Int)(n:Nat):(Xv lo n).length=n:=by simp[Xv]
theorem UP(i:Int):dW (.int i)=true:=by rfl
theorem L_(b:Bool):dW (.bl b)=true:=by cases b<;>rfl
def N6(i j:Int):PyData.eqv (.int i) (.int j)=(i==j):=rfl
theorem Jh(i j:Int):cG (.int i) (.int j)=pure (.bl (i==j)):=by simp only[cG,UP,Bool.and_self,Qy,if_true,Ck,toP,N6]
theorem XR(i j:Int):lZ (.int i) (.int j)=pure (.bl (!(i==j))):=by simp only[lZ,UP,Bool.and_self,Qy,if_true,Ck,toP,N6]
theorem QiR{α:Type}{xs:List α}{i:Int}(a:0<=i)(h1:i<xs.length):atI xs i=xs[i.toNat]?:=by unfold atI ixN;rw[Cf a,Cf h1];rfl
theorem P0(ns:List Int){i:Int}(c:0<=i)(h1:i<ns.length):atI (ns.map DV.int) i=some (.int (ns.getD i.toNat 0)):=by
 have a:i.toNat<ns.length:=⋯
 rw[QiR c (by simpa using h1),Bp,Af a];simp[List.getD_eq_getElem?_getD,a]
def opt:Option Int->DV
 |none=>.non
 |some i=>.int i
theorem Xh(x y:Int)(h:0<y):Xg (.int x) (.int y)=pure (.int (x % y)):=by simp[Xg,xr,Ig,h]
theorem qP(x y:Int)(h:0<y)(h':y<1073741824):Y5 (.int x) (.int y)=pure (.int (x / y)):=by simp[Y5,xr,Ih,h,h']
def JG(x y:Int):Zf (.int x) (.int y)=pure (.int (x+y)):=rfl
def J2(x y:Int):VU (.int x) (.int y)=pure (.int (x-y)):=rfl
def Xm(x y:Int):fJ (.int x) (.int y)=pure (.bl (decide (y<x))):=rfl
def XO(x y:Int):cD (.int x) (.int y)=pure (.bl (decide (x<y))):=rfl
def XM(x y:Int):dI (.int x) (.int y)=pure (.bl (decide (x<=y))):=rfl
def XL(x y:Int):lJ (.int x) (.int y)=pure (.bl (decide (y<=x))):=rfl
def J1(x:Int):Hu (.int x)=pure (.int (-x)):=rfl
def zV:mW (.int 10) (.int 30)=pure (.int 1000000000000000000000000000000):=rfl
def jF:mW (.int 10) (.int 21)=pure (.int 1000000000000000000000):=rfl
def K2:mW (.int 10) (.int 9)=pure (.int 1000000000):=rfl
theorem Qgc{m:Int}(a:0<=m)(h1:m<=1000000):zL m=true:=Ch ⟨⋯,⋯⟩
def Jq{ds:List DV}(h:ds.length<=100000):X3 ds=true:=Ch h
theorem JC{f g:aB}{env aA:En}(h:f env=pure (.nx,aA)):Qr f g env=g aA:=by simp only[Qr,h,Ck]
theorem QhU{f g:aB}{env aA:En}{d:DV}(h:f env=pure (.rt d,aA)):Qr f g env=pure (.rt d,aA):=by simp only[Qr,h,Ck]
theorem JX{i:Nat}{f:aD}{env:En}{d:DV}(h:f env=pure d):QD i f env=pure (.nx,env.set i (.val d)):=by simp only[QD,h,Ck]
theorem HI{c:bH}{f g:aB}{env:En}(h:c env=pure true):aJ c f g env=f env:=by simp only[aJ,h,Ck,if_true]
theorem HK{c:bH}{f g:aB}{env:En}(h:c env=pure false):aJ c f g env=g env:=by simp only[aJ,h,Ck,Bool.false_eq_true,if_false]
theorem xb{f:aD}{env:En}{d:DV}(h:f env=pure d):QR f env=pure (.rt d,env):=by simp only[QR,h,Ck]
theorem y8{n:Nat}{a:aB}{ds:List DV}{d:DV}{env:En}(h:a (ds.map .val++List.replicate (n-ds.length) .un)=pure (.rt d,env)):Q3 n a ds=pure d:=by simp only[Q3,h,Ck]
theorem DZ{f:aD}{env:En}{b:Bool}(h:f env=pure (.bl b)):eB f env=pure b:=by simp only[eB,h,Ck,c7]
theorem yG{g:DV->DV->M DV}{f a:aD}{env:En}{x y d:DV}(h:f env=pure x)(h':a env=pure y)(c:g x y=pure d):Qi g f a env=pure d:=by simp only[Qi,h,h',Ck,c]
theorem uY{F:Cs}{f a:aD}{env:En}{x y d:DV}(h:f env=pure x)(h':a env=pure y)(c:F [x,y]=pure d):QB 2 F (Qc f (Qc a Qk)) env=pure d:=by simp[QB,Qc,Qk,h,h',Qy,c]
theorem Qi6{F:Cs}{f e a:aD}{env:En}{x y z d:DV}(h:f env=pure x)(h':e env=pure y)(c:a env=pure z)(i:F [x,y,z]=pure d):QB 3 F (Qc f (Qc e (Qc a Qk))) env=pure d:=by simp[QB,Qc,Qk,h,h',c,Qy,i]
section
variable{K:Ae}{ρ:Cr}{B:Cq}{hp:Hs}{H:Hp}
theorem Gr.cI{p:Addr}{o:HO}(h:H p=none)(kf:K.lookup p=none):Gr K ρ B H (ρ++[p]) (zt B p) (upd H p o) where
 pre:=List.prefix_append _ _
 ban:=λ_ h=>.inl h
 new:=λa z=>z.elim .inl λe=>.inr (e▸⟨h,kf⟩)
 bF:=λa z=>(Ak.mp z).elim .inl λq=>.inr (by rw[Au.mp q];exact h)
 keep:=λa u _ q=>by rw[QS (Zz q h)];exact q
 trk:=(Gr.laid (K:=K) (ρ:=ρ) (B:=B) h).trk
theorem aM.cI{p:Addr}{o:HO}{v:OV}(W:aM K ρ B hp H)(h:H p=none)(kf:K.lookup p=none)(j:aP K (ρ++[p]) (zt B p) (upd H p o) p v):aM K (ρ++[p]) (zt B p) (hp++[v]) (upd H p o) where
 len:=by simp[W.len]
 nd:=List.nodup_append.mpr ⟨W.nd,by simp,λa ha b d=>by rw[Au.mp d];exact λz=>W.bt a (W.rb a ha) (z▸h)⟩
 obj:=λi a u e q=>by
  by_cases hi:i<ρ.length
  ·rw[Aj hi]at e;rw[Aj (by rw[<- W.len];exact hi)]at q;exact aP.gs ((Gr.cI h kf).gs W.rb) (QS (λz=>W.bt a (W.rb a (Ax e)) (z▸h))) (W.obj i a u e q)
  ·rw[As ⋯]at e;rw[As (by rw[<- W.len];lia)]at q;have c:i-ρ.length=0:=by have:=(Ag.mp e).1;simp at this;lia
   rw[c]at e;rw[<- W.len,c]at q;simp at e q;subst e q;exact j
 rb:=λa z=>(Ak.mp z).elim (λq=>.inl (W.rb a q)) λq=>.inr (Au.mp q)
 bt:=λa z q=>by
  have m:=(Gr.laid (K:=K) (ρ:=ρ) (B:=B) h).trk a q;rcases z with z|rfl
  ·exact W.bt a z m
  ·rw[QU]at q;cases q
 bk:=λa z=>z.elim (W.bk a) λe=>e▸kf
theorem Gr.dw{i:Nat}{a:Addr}{o o':HO}(ha:ρ[i]?=some a)(h:H a=some o):Gr K ρ B H ρ B (upd H a o') where
 pre:=Bw
 ban:=λ_ h=>h
 new:=λ_ h=>.inl h
 bF:=λ_ h=>.inl h
 keep:=λb u c q=>by rw[QS (show b≠a from λz=>c (by rw[z];exact Ax ha))];exact q
 trk:=λb q=>by
  by_cases e:b=a
  ·subst e;rw[QU]at q;cases q
  ·rw[QS e]at q;exact q
theorem aM.dw{i:Nat}{a:Addr}{o o':HO}{v:OV}(W:aM K ρ B hp H)(ha:ρ[i]?=some a)(h:H a=some o)(n:aP K ρ B (upd H a o') a v):aM K ρ B (hp.set i v) (upd H a o') where
 len:=by simp[W.len]
 nd:=W.nd
 obj:=λj b u e q=>by
  by_cases c:j=i
  ·subst c;rw[ha]at e;cases e;have m:j<hp.length:=by rw[<- W.len];exact(Ag.mp ha).1
   rw[Av m]at q;cases q;exact n
  ·rw[Ao (Ne.symm c)]at q;have d:b≠a:=λz=>c (by subst z;exact(List.getElem?_inj (Ag.mp e).1 W.nd).mp (e.trans ha.symm))
   exact aP.gs ((Gr.dw ha h).gs W.rb) (QS d) (W.obj j b u e q)
 rb:=W.rb
 bt:=λb z q=>W.bt b z ((Gr.dw (K:=K) (B:=B) ha h).trk b q)
 bk:=W.bk
end
section
variable{X:Cx}{e a b c:Expr}{f fa fb fc:aD}{pos:Pos}
def JZ(o:OV):M DV:=λh=>some (.ref h.length,h++[o])
def ZE(i:Nat):M OV:=λh=>match h[i]? with
 |some o=>some (o,h)
 |none=>none
def VS(i:Nat)(o:OV):M Unit:=λh=>some ((),h.set i o)
theorem Zt{i:Nat}{o:OV}{hp d:Hs}(h:ZE i hp=some (o,d)):hp[i]?=some o/\hp=d:=by
 unfold ZE at h;cases q:hp[i]? with
 |none=>rw[q]at h;cases h
 |some z=>rw[q]at h;cases h;exact⟨rfl,rfl⟩
def Z8(f:aW):aD:=λenv=>do let ds <- f env;Qy (X3 ds);JZ (.lst ds)
theorem ge{K:Ae}{ρ:Cr}{B:Cq}{H:Hp}{hp:Hs}{ds:List DV}{xs:List V}{Q:VK}(W:aM K ρ B hp H)(r:ak K ρ B H ds xs)(k:fu K ρ B H (.ref hp.length) (hp++[.lst ds]) Q):∀p,H p=none->kC K (upd H p (.lst xs))->Q (.ref p) (upd H p (.lst xs)):=λp d kf=>by have kp:=kf p _ QU;have g:Gr K ρ B H (ρ++[p]) (zt B p) (upd H p (.lst xs)):=Gr.cI d kp;refine k _ _ _ _ g (W.cI d kp ⟨xs,QU,ak.grow W.rb g _ _ r⟩) ?_;unfold au;exact⟨p,rfl,by rw[<- W.len];simp⟩
theorem J4{es:List Expr}{f:aW}(h:DA X es f):DE X (.List es pos) (Z8 f) :=
 L2.PE.imp (gM h).kf λσ H Q j=>by obtain⟨Z,env,ρ,B,hp,d,r,S,e,k⟩:=j;obtain⟨xs,hp1,m,n⟩:=Qg e;obtain⟨_,u,o,q⟩:=Qg n;obtain⟨hs,rfl⟩:=Qz o;cases q;exact cY.run S m λvs ρ1 B1 H1 g1 S1 i=>⟨by rw[<- i.length];exact ze hs,ge S1.wo i (k.after g1)⟩
theorem au.aV{K:Ae}{ρ:Cr}{B:Cq}{H:Hp}{hp:Hs}{i:Nat}{o:OV}{v:V}(W:aM K ρ B hp H)(r:au K ρ B H (.ref i) v)(h:hp[i]?=some o):∃a,v=.ref a/\ρ[i]?=some a/\aP K ρ B H a o:=by obtain⟨a,rfl,e⟩:=r.oK;exact⟨a,rfl,e,W.obj i a o e h⟩
def ixW:DV->DV->M DV
  |.ref n,.int i=>do
    match <- ZE n with
    |.lst ds=>match atI ds i with
      |some d=>pure d
      |none=>failure
    |_=>failure
  |x,y=>bR x y
def mU:List DV->M DV
  | [.ref n]=>do
    match <- ZE n with
    |.lst ds=>pure (.tup ds)
    |_=>failure
  |xs=>kn xs
theorem Kd:CallR X (.type "tuple") (eG X.K mU):=by
  intro m s σ H xs us Q I r h;obtain⟨ρ,B,hp,ds,d,j,W,q,e,k⟩:=h;unfold mU at e;split at e
  . rename_i n
    obtain⟨o,hp1,u,i⟩:=Qg e;obtain⟨x,rfl⟩:=Zt u;cases o with
    |aH _=>cases i
    |ins _ _=>cases i
    |lst C=>obtain⟨rfl,rfl⟩:=Qm i;obtain⟨v,rfl,z⟩:=q.bA;obtain⟨a,rfl,_,ys,h1,y⟩:=au.aV W z x;exact qE m s σ H _ us Q I r ⟨a,ys,rfl,.inl ⟨SqL.of h1,jU W y k⟩⟩
  . exact yD m s σ H xs us Q I r ⟨ρ,B,hp,_,d,j,W,q,e,k⟩
end
section
variable{f g:aB}{env aA iI:En}{c ca cb:bH}{e fa fb:aD}{d x y:DV}{r:Fl×En}
end
theorem Ql{α β:Type}{m:M α}{k:α->M β}{x:α}{hp hp1:Hs}(h:m hp=some (x,hp1)):(m >>= k) hp=k x hp1:=by show(m hp).bind (λp=>k p.1 p.2)=_;rw[h];rfl
def Qj{f g:aB}{env aA:En}{hp hp1:Hs}(h:f env hp=some ((.nx,aA),hp1)):Qr f g env hp=g aA hp1:=Ql h
def Qv{i:Nat}{f:aD}{env:En}{d:DV}{hp hp1:Hs}(h:f env hp=some (d,hp1)):QD i f env hp=some ((.nx,env.set i (.val d)),hp1):=Ql h
theorem Qha{ds:List DV}{i:Int}{d:DV}(h:atI ds i=some d):bR (.tup ds) (.int i)=pure d:=by simp only[bR,h]
theorem Qex(ds:List DV)(m:Nat):D.Kj ds none (some (m:Int))=ds.take m:=by unfold D.Kj;rw[HT.sIx_nat];show(ds.drop 0).take (min m ds.length-0)=ds.take m;simp
theorem Kl(ds:List DV)(m:Nat):D.Kj ds (some (m:Int)) none=ds.drop m:=by
 unfold D.Kj;rw[HT.sIx_nat];show(ds.drop (min m ds.length)).take (ds.length-min m ds.length)=ds.drop m;rcases Nat.le_total m ds.length with h|h
 ·rw[Nat.min_eq_left h,List.take_of_length_le (by simp)]
 ·rw[Nat.min_eq_right h,List.drop_of_length_le h,List.drop_of_length_le (Ai _)];simp
theorem GF(ds:List DV)(m:Nat):fO (.tup ds) none (some (m:Int))=pure (.tup (ds.take m)):=by rw[<- Qex];rfl
theorem GE(ds:List DV)(m:Nat):fO (.tup ds) (some (m:Int)) none=pure (.tup (ds.drop m)):=by rw[<- Kl];rfl
theorem kS{f g:aD}{env:En}{ds:List DV}{m:Nat}(h:f env=pure (.tup ds))(h':g env=pure (.int (m:Int))):cA f ZS (Zw g) env=pure (.tup (ds.take m)):=by simp only[cA,ZS,Zw,h,h',Ck,cO,GF]
theorem kR{f g:aD}{env:En}{ds:List DV}{m:Nat}(h:f env=pure (.tup ds))(h':g env=pure (.int (m:Int))):cA f (Zw g) ZS env=pure (.tup (ds.drop m)):=by simp only[cA,ZS,Zw,h,h',Ck,cO,GE]
end D
namespace L2
open PySem PySem.Spec PyProof.Rows
section
variable{X:Cx}
def W5:R2:=λx y H Q=>∃a kvs k v,x=.ref a/\y=kV k/\H a=some (.dK kvs)/\zg kvs k=some v/\Q v H
theorem Qhb(i:X.A.units+1<cLine):IxR X W5:=by intro value slice O9 s σ H x y v u Q I rx ry h hs;obtain⟨a,kvs,k,z,rfl,rfl,e,j,q⟩:=h;cases rx;have g:DGet H a (kV k) (some z):=j▸DGet.k e;exact tail_any (kO I g) PySem.F.slot_dict_getitem.lookup (Qdj i I g ry λm s' d c=>⟨z,H,d,c,q⟩) hs
theorem vm(e:X.A.units+1<cLine):OpR X (compareOp .NotIn) (λx y H Q=>∃a kvs k,y=.ref a/\x=kV k/\H a=some (.dK kvs)/\Q (.bl (!(zg kvs k).isSome)) H):=by intro i s σ H x y v u Q I rx ry h;obtain⟨a,kvs,k,rfl,rfl,d,q⟩:=h;cases ry;exact QgN e I (DGet.k d) rx λs' c=>⟨.bl _,H,c,rfl,q⟩
def Mo:V->V->V->Hp->(Hp->Prop)->Prop:=λo i v H Q=>∃a kvs k,o=.ref a/\i=kV k/\H a=some (.dK kvs)/\kvs.length<sizeLine/\Q (upd H a (.dK (jh kvs k v)))
theorem Qf7(j:X.A.units+1<cLine):sX X Mo:=λx s σ H o i v z y u Q I n m r h=>by obtain⟨a,kvs,k,rfl,rfl,d,e,q⟩:=h;cases n;exact Qdk j I (DPut.k d e) m r λs' c=>⟨_,c,q⟩
def MA:V->List V->Hp->VK->Prop:=λx vs H Q=>∃a kvs k,x=.ref a/\H a=some (.dK kvs)/\((vs=[kV k]/\Q ((zg kvs k).getD .non) H)∨∃z,vs=[kV k,z]/\Q ((zg kvs k).getD z) H)
theorem Pn(j:X.A.units+1<cLine):MtR X "dict.get" MA:=by
 intro o s σ H x vs v us Q I rx rv h;obtain⟨a,kvs,k,rfl,i,h⟩:=h;cases rx;rcases h with ⟨rfl,q⟩|⟨z,rfl,q⟩
 ·obtain⟨u,rfl,e⟩:=Y3 rv;exact Qi1 j I (DGet.k i) e λm s' d c=>⟨_,H,d,c,q⟩
 ·obtain⟨u,u2,rfl,e,n⟩:=tV rv;exact Qi2 j I (DGet.k i) e n λm s' d c=>⟨_,H,d,c,q⟩
def HX(n:Nat)(i:Int):Nat:=if i<0 then (i+(n:Int)).toNat else min i.toNat n
end
end L2
namespace D
open PySem PySem.Spec PyProof.Rows L2
def je:DV->Option Key
 |.int i=>some (.inl i)
 |.str x=>some (.inr x)
 |_=>none
def qK(kvs:List (Key×DV))(k:Key):Option DV:=(kvs.find? λa=>decide (a.1=k)).map (·.2)
def mV(kvs:List (Key×DV))(k:Key)(d:DV):List (Key×DV) :=
 if (kvs.any λa=>decide (a.1=k))=true then kvs.map (λa=>if a.1=k then (a.1,d)else a)else kvs++[(k,d)]
def Iz(kvs:List (Key×DV))(k:Key):List (Key×DV):=kvs.filter λa=>decide (a.1≠k)
section
variable{K:Ae}{ρ:Cr}{B:Cq}{H:Hp}{hp:Hs}
theorem qR{d:DV}{k:Key}{v:V}(h:je d=some k)(r:au K ρ B H d v):v=kV k:=by
 cases d<;>simp[je]at h<;>subst h
 ·exact r.aN
 ·exact r.aZ
abbrev aK(K:Ae)(ρ:Cr)(B:Cq)(H:Hp):List (Key×DV)->List (Key×V)->Prop:=Paired λp q=>p.1=q.1/\au K ρ B H p.2 q.2
theorem Oq:∀{kvs:List (Key×DV)}{xs:List (Key×V)},xs.map (·.1)=kvs.map (·.1)->ak K ρ B H (kvs.map (·.2)) (xs.map (·.2))->aK K ρ B H kvs xs
  | [],[],_,_=>.nil
  | [],_::_,e,_=>by simp at e
  |_::_,[],e,_=>by simp at e
  |p::kvs,q::xs,e,r=>by simp only[Bf,List.cons.injEq]at e;simp only[Bf]at r;unfold ak at r;obtain⟨x,t,a,h1,h2⟩:=r;simp only[List.cons.injEq]at a;obtain⟨rfl,rfl⟩:=a;exact .cons ⟨e.1.symm,h1⟩ (Oq e.2 h2)
theorem aK.to{kvs:List (Key×DV)}{xs:List (Key×V)}(r:aK K ρ B H kvs xs):xs.map (·.1)=kvs.map (·.1)/\ak K ρ B H (kvs.map (·.2)) (xs.map (·.2)):=by
 induction r with
 |nil=>exact⟨rfl,ak.nil⟩
 |cons h _ a=>exact⟨by simp[a.1,h.1],by simpa using ak.cons h.2 a.2⟩
theorem aK.val{kvs:List (Key×DV)}{xs:List (Key×V)}(r:aK K ρ B H kvs xs)(k:Key):(qK kvs k=none/\zg xs k=none)∨∃d v,qK kvs k=some d/\zg xs k=some v/\au K ρ B H d v:=by
  induction r with
  |nil=>exact .inl ⟨rfl,rfl⟩
  |@cons p q _ _ h _ c =>
    by_cases e:p.1=k
    . exact .inr ⟨p.2,q.2,by simp[qK,Bt,e],by simp[zg,Bt,h.1▸e],h.2⟩
    . have a:¬ q.1=k:=h.1▸e
      simpa [qK,zg,Bt,e,a]using c
theorem aK.any{kvs:List (Key×DV)}{xs:List (Key×V)}(r:aK K ρ B H kvs xs)(k:Key):(kvs.any λa=>decide (a.1=k))=xs.any λa=>decide (a.1=k):=by
 induction r with
 |nil=>rfl
 |cons h _ c=>simp only[Bz,c,h.1]
theorem aK.repl{kvs:List (Key×DV)}{xs:List (Key×V)}(r:aK K ρ B H kvs xs)(k:Key){d:DV}{v:V}(rd:au K ρ B H d v):aK K ρ B H (kvs.map λa=>if a.1=k then (a.1,d)else a) (xs.map λa=>if a.1=k then (a.1,v)else a):=by
  induction r with
  |nil=>exact .nil
  |@cons p q _ _ h _ c =>
    refine .cons ?_ c;dsimp only;by_cases e:p.1=k
    . rw[Cf e,Cf (h.1▸e)];exact⟨h.1,rd⟩
    . rw[Ce e,Ce (h.1▸e)];exact h
theorem aK.snoc{kvs:List (Key×DV)}{xs:List (Key×V)}(r:aK K ρ B H kvs xs){k:Key}{d:DV}{v:V}(rd:au K ρ B H d v):aK K ρ B H (kvs++[(k,d)]) (xs++[(k,v)]):=by
 induction r with
 |nil=>exact .cons ⟨rfl,rd⟩ .nil
 |cons h _ a=>exact .cons h a
theorem aK.put{kvs:List (Key×DV)}{xs:List (Key×V)}(r:aK K ρ B H kvs xs)(k:Key){d:DV}{v:V}(rd:au K ρ B H d v):aK K ρ B H (mV kvs k d) (jh xs k v):=by
 unfold mV jh;rw[r.any k];split
 ·exact r.repl k rd
 ·exact r.snoc rd
def aK.len{kvs:List (Key×DV)}{xs:List (Key×V)}(r:aK K ρ B H kvs xs):kvs.length=xs.length:=Paired.length r
def aK.gs{ρ':Cr}{a:Cq}{c:Hp}{kvs:List (Key×DV)}{xs:List (Key×V)}(g:Gs K ρ B H ρ' a c)(r:aK K ρ B H kvs xs):aK K ρ' a c kvs xs:=L2.Paired.mapP r λ_ _ h=>⟨h.1,au.gs g _ _ h.2⟩
theorem aP.aH{a:Addr}{kvs:List (Key×DV)}(h:aP K ρ B H a (.aH kvs)):∃xs,H a=some (.dK xs)/\aK K ρ B H kvs xs:=by obtain⟨xs,e,c,d⟩:=h;exact⟨xs,e,Oq c d⟩
def aK.fU{a:Addr}{kvs:List (Key×DV)}{xs:List (Key×V)}(r:aK K ρ B H kvs xs)(e:H a=some (.dK xs)):aP K ρ B H a (.aH kvs):=⟨xs,e,r.to.1,r.to.2⟩
theorem Qgq{n:Nat}{a:Addr}{xs d:List (Key×V)}{c:List (Key×DV)}(W:aM K ρ B hp H)(i:ρ[n]?=some a)(e:H a=some (.dK xs))(r:aK K ρ B H c d):Gr K ρ B H ρ B (upd H a (.dK d))/\aM K ρ B (hp.set n (.aH c)) (upd H a (.dK d)):=by have g:Gr K ρ B H ρ B (upd H a (.dK d)):=Gr.dw i e;exact⟨g,W.dw (o':=.dK d) (v:=.aH c) i e ((r.gs (g.gs W.rb)).fU QU)⟩
theorem GM{n:Nat}{a:Addr}{o:HO}{c:List V}{d:List DV}(W:aM K ρ B hp H)(i:ρ[n]?=some a)(e:H a=some o)(r:ak K ρ B H d c):Gr K ρ B H ρ B (upd H a (.lst c))/\aM K ρ B (hp.set n (.lst d)) (upd H a (.lst c)):=by have g:Gr K ρ B H ρ B (upd H a (.lst c)):=Gr.dw i e;exact⟨g,W.dw (o':=.lst c) (v:=.lst d) i e ⟨c,QU,ak.grow W.rb g _ _ r⟩⟩
end
section
variable{X:Cx}{e a b c:Expr}{f fa fb fc:aD}{pos:Pos}
def jE(o:Option DV):M DV:=match o with
 |some d=>pure d
 |none=>failure
theorem VF{o:Option DV}{d:DV}{hp i:Hs}(h:jE o hp=some (d,i)):o=some d/\hp=i:=by
 cases o with
 |none=>cases h
 |some z=>obtain⟨rfl,rfl⟩:=Qm h;exact⟨rfl,rfl⟩
def Y6(d:DV):M Key:=match je d with
 |some k=>pure k
 |none=>failure
theorem qV{d:DV}{k:Key}{hp i:Hs}(h:Y6 d hp=some (k,i)):je d=some k/\hp=i:=by
 unfold Y6 at h;cases q:je d with
 |none=>rw[q]at h;cases h
 |some z=>rw[q]at h;obtain⟨rfl,rfl⟩:=Qm h;exact⟨rfl,rfl⟩
def aF:DV->DV->M DV
  |.ref n,y=>do
    match <- ZE n with
    |.lst ds=>do let i <- cO y;jE (atI ds i)
    |.aH kvs=>do let k <- Y6 y;jE (qK kvs k)
    |_=>failure
  |x,y=>bR x y
theorem MO(T:X.A.units+1<cLine):IxR X (nu X.K aF):=by
  intro value slice O9 s σ H x y v u Q I rx ry h hsub;obtain⟨ρ,B,hp,dx,dy,d,C,W,L,F,e,k⟩:=h;unfold aF at e;split at e
  . rename_i n
    obtain⟨o,hp1,P,m⟩:=Qg e;obtain⟨R,rfl⟩:=Zt P;obtain⟨a,rfl,i1,O⟩:=au.aV W L R;cases o with
    |ins _ _=>cases m
    |aH kvs =>
      obtain⟨J,E,q,r⟩:=Qg m;obtain⟨S,rfl⟩:=qV q;obtain⟨j,rfl⟩:=VF r;obtain⟨xs,h1,Y⟩:=O.aH;rcases Y.val J with ⟨z,_⟩|⟨d',Z,z,zv,G⟩
      . rw[j]at z;cases z
      . rw[j]at z;cases z
        exact Qhb T value slice O9 s σ H _ _ v u Q I rx ry ⟨a,xs,J,Z,rfl,qR S F,h1,zv,k _ ρ B H Gr.refl W G⟩ hsub
    |lst ds=>obtain⟨i,E,q,r⟩:=Qg m;obtain⟨rfl,rfl⟩:=U9 q;obtain⟨j,rfl⟩:=VF r;obtain⟨xs,h1,U⟩:=O;obtain⟨z,hz,G⟩:=uN U j;exact Nx value slice O9 s σ H _ _ v u Q I rx ry ⟨a,xs,i,z,rfl,F.aN,SqL.of h1,hz,k _ ρ B H Gr.refl W G⟩ hsub
  . exact Hr value slice O9 s σ H x y v u Q I rx ry ⟨ρ,B,hp,_,_,d,C,W,L,F,e,k⟩ hsub
theorem QF(i:X.A.units+1<cLine)(ha:DE X a fa)(d:DE X b fb)(hs:uJ b:=by intro _ _;rfl):DE X (.Subscript a b pos) (Qi aF fa fb):=L2.PE.imp (Lq (MO i) ha d hs) λ_ _ _ h=>jq h
def Zp:List DV->M DV
  | [.ref n]=>do
    match <- ZE n with
    |.lst ds=>pure (.int ds.length)
    |.aH kvs=>pure (.int kvs.length)
    |_=>failure
  |xs=>XX xs
theorem Zl:CallR X (.builtin "len") (eG X.K Zp):=by
  intro i s σ H xs us Q I r h;obtain⟨ρ,B,hp,ds,d,m,W,u,e,k⟩:=h;unfold Zp at e;split at e
  . rename_i n
    obtain⟨o,hp1,y,j⟩:=Qg e;obtain⟨z,rfl⟩:=Zt y;obtain⟨v,rfl,C⟩:=u.bA;obtain⟨a,rfl,_,x⟩:=au.aV W C z;cases o with
    |ins _ _=>cases j
    |lst E=>obtain⟨rfl,rfl⟩:=Qm j;obtain⟨ys,h1,q⟩:=x;exact zw i s σ H _ us Q I r ⟨a,ys,rfl,.inl (SqL.of h1),by rw[<- q.length];exact k _ ρ B H Gr.refl W Z6⟩
    |aH kvs=>obtain⟨rfl,rfl⟩:=Qm j;obtain⟨ys,h1,q⟩:=x.aH;exact Qdh i s σ H _ us Q I r ⟨a,ys,rfl,h1,by rw[<- q.len];exact k _ ρ B H Gr.refl W Z6⟩
  . exact xB i s σ H xs us Q I r ⟨ρ,B,hp,_,d,m,W,u,e,k⟩
def pL:DV->M (List DV)
  |.tup ds=>pure ds
  |.lst ds=>pure ds
  |.ref n=>do
    match <- ZE n with
    |.lst ds=>pure ds
    |_=>failure
  |_=>failure
theorem RK{d:DV}{ds:List DV}{hp i:Hs}{K:Ae}{ρ:Cr}{B:Cq}{H:Hp}{v:V}(W:aM K ρ B hp H)(r:au K ρ B H d v)(h:pL d hp=some (ds,i)):hp=i/\∃p xs,v=.ref p/\(SqL K H p xs∨SqT K H p xs)/\ak K ρ B H ds xs:=by
  cases d with
  |tup xs=>obtain⟨rfl,rfl⟩:=Qm h;obtain⟨a,ys,rfl,_,m,l⟩:=r.tupI;exact⟨rfl,a,ys,rfl,.inr m,l⟩
  |lst xs=>obtain⟨rfl,rfl⟩:=Qm h;obtain⟨a,ys,rfl,_,m,l⟩:=r.bQ;exact⟨rfl,a,ys,rfl,.inl m,l⟩
  |ref n =>
    obtain⟨o,hp1,q,j⟩:=Qg (show(ZE n >>= λo=>(match o with|.lst ds=>pure ds|_=>failure:M (List DV))) hp=some (ds,i)from h);obtain⟨u,rfl⟩:=Zt q;cases o with
    |lst y=>obtain⟨rfl,rfl⟩:=Qm j;obtain⟨a,rfl,_,ys,h1,x⟩:=au.aV W r u;exact⟨rfl,a,ys,rfl,.inl (SqL.of h1),x⟩
    |aH _=>cases j
    |ins _ _=>cases j
  |non=>cases h
  |bl _=>cases h
  |int _=>cases h
  |str _=>cases h
def nZ(g:DV->M DV):List DV->M DV
 | [d]=>g d
 |_=>failure
def Il:List DV->M DV:=nZ λd=>do let ds <- pL d;pure (.lst ds)
def Ik:List DV->M DV:=nZ λd=>do let ds <- pL d;JZ (.lst ds)
theorem j0{g:DV->M DV}{ds:List DV}{d:DV}{hp i:Hs}(h:nZ g ds hp=some (d,i)):∃x,ds=[x]/\g x hp=some (d,i):=by
 unfold nZ at h;split at h
 ·exact⟨_,rfl,h⟩
 ·cases h
theorem QiZ:CallR X (.type "list") (eG X.K Il):=by intro i s σ H xs us Q I r h;obtain⟨ρ,B,hp,ds,d,n,W,o,e,k⟩:=h;obtain⟨x,rfl,e⟩:=j0 e;obtain⟨y,hp1,j,m⟩:=Qg e;obtain⟨rfl,rfl⟩:=Qm m;obtain⟨v,rfl,q⟩:=o.bA;obtain⟨rfl,p,ys,rfl,u,l⟩:=RK W q j;exact call_list_of i s σ H _ us Q I r ⟨p,ys,rfl,u,qj W l k⟩
theorem _root_.L2.CallR.kf{f:Value}{r:List V->Hp->VK->Prop}(h:CallR X f r):CallR X f (λxs H Q=>r xs H λv d=>kC X.K d->Q v d):=by intro i s σ H xs us Q I rv q;refine thn (h i s σ H xs us _ I rv q) λv s' ⟨x,d,I',rx,q'⟩=>⟨x,d,I',rx,q' (Inv.iC I')⟩
theorem QgJ:CallR X (.type "list") (eG X.K Ik):=by intro i s σ H xs us Q I r h;obtain⟨ρ,B,hp,ds,d,n,W,o,e,k⟩:=h;obtain⟨x,rfl,e⟩:=j0 e;obtain⟨y,hp1,j,m⟩:=Qg e;obtain⟨v,rfl,q⟩:=o.bA;obtain⟨rfl,p,ys,rfl,u,l⟩:=RK W q j;cases m;exact call_list_of.kf i s σ H _ us Q I r ⟨p,ys,rfl,u,ge W l k⟩
end
def dN:Nat->Hs->DV->Option DV
  |0,_,_=>none
  |n+1,hp,d=>match d with
    |.ref i=>match hp[i]? with
      |some (.lst ds)=>(ds.mapM (dN n hp)).map .lst
      |_=>none
    |.tup ds=>(ds.mapM (dN n hp)).map .tup
    |.lst ds=>(ds.mapM (dN n hp)).map .lst
    |d=>some d
theorem KQ{α β:Type}{f:α->Option β}{x:α}{xs:List α}{ys:List β}(h:(x::xs).mapM f=some ys):∃y a,f x=some y/\xs.mapM f=some a/\ys=y::a:=by
  rw[List.mapM_cons]at h;cases q:f x with
  |none=>rw[q]at h;cases h
  |some y =>
    cases c:xs.mapM f with
    |none=>rw[q,c]at h;cases h
    |some a=>rw[q,c]at h;exact⟨y,a,rfl,rfl,(An h).symm⟩
section
variable{X:Cx}{O9:Cn}{σ:St}{H:Hp}{s:Shared}{ρ:Cr}{B:Cq}{hp:Hs}
theorem qW(I:Inv X O9 σ H s)(W:aM X.K ρ B hp H):∀(n:Nat)(d d':DV)(v:V)(u:Value),dN n hp d=some d'->au X.K ρ B H d v->RelV v u->∃as,Reads s.heap u (toP d') as
  |0,_,_,_,_,h,_,_=>by cases h
  |n+1,d,d',v,u,h,r,j=>by
    have all:∀(ds c:List DV)(xs:List V)(us:List Value),ds.mapM (dN n hp)=some c->ak X.K ρ B H ds xs->Vals xs us->∃as,ReadsAll s.heap us (dG c) as:=by
      intro ds;induction ds with
      |nil=>intro c xs us h r j;rw[List.mapM_nil]at h;cases h;unfold ak at r;subst r;cases j;exact⟨[],by unfold dG;exact .nil⟩
      |cons x ds O =>
        intro c xs us h r j;obtain⟨y,T,h1,h2,rfl⟩:=KQ h;unfold ak at r;obtain⟨z,t,rfl,R,S⟩:=r;cases j with
        |cons P Q=>obtain⟨as,J⟩:=qW I W n x y z _ h1 R P;obtain⟨bs,L⟩:=O T t _ h2 S Q;exact⟨_,by unfold dG;exact .cons J L⟩
    have lst:∀(ds c:List DV)(a:Addr)(xs:List V),ds.mapM (dN n hp)=some c->SqL X.K H a xs->ak X.K ρ B H ds xs->∃as,Reads s.heap (.ref a) (toP (.lst c)) as:=by intro ds c a xs h E C;obtain⟨m,G,⟨o,k,e,F,_,hd⟩,_⟩:=I.list E;obtain⟨as,q⟩:=all ds c xs m h C G;exact⟨_,by unfold toP;exact reads_list_at e F hd (by simpa using q)⟩
    unfold dN at h;cases d with
    |non=>cases h;obtain rfl:=r.dZ;cases j;exact⟨[],by unfold toP;exact .none⟩
    |bl b=>cases h;obtain rfl:=r.eU;cases j;exact⟨[],by unfold toP;exact .bool b⟩
    |int i=>cases h;obtain rfl:=r.aN;obtain⟨t,rfl⟩:=j;exact⟨[],by unfold toP;exact .int i t⟩
    |str x=>cases h;obtain rfl:=r.aZ;obtain⟨t,rfl⟩:=j;exact⟨[],by unfold toP;exact .str x t⟩
    |tup ds=>obtain⟨c,h1,rfl⟩:=Bv.mp h;obtain⟨a,xs,rfl,_,E,C⟩:=r.tupI;cases j;obtain⟨m,G,⟨o,e,F,k,hd⟩,_⟩:=I.tuple E;obtain⟨as,q⟩:=all ds c xs m h1 C G;exact⟨_,by unfold toP;exact reads_tuple_at e F hd (by simpa using q)⟩
    |lst ds=>obtain⟨c,h1,rfl⟩:=Bv.mp h;obtain⟨a,xs,rfl,_,E,C⟩:=r.bQ;cases j;exact lst ds c a xs h1 E C
    |ref i =>
      cases q:hp[i]? with
      |none=>simp only[q]at h;cases h
      |some o =>
        simp only[q]at h;cases o with
        |aH _=>cases h
        |ins _ _=>cases h
        |lst ds=>obtain⟨c,h1,rfl⟩:=Bv.mp h;obtain⟨a,rfl,_,xs,h2,l⟩:=au.aV W r q;cases j;exact lst ds c a xs h1 (SqL.of h2) l
end
def mR(d:DV):M DV:=λhp=>(dN 40 hp d).map λx=>(x,hp)
theorem vL{d d':DV}{hp a:Hs}(h:mR d hp=some (d',a)):dN 40 hp d=some d'/\hp=a:=by obtain⟨x,h1,h2⟩:=Bv.mp h;cases h2;exact⟨h1,rfl⟩
def va(x y:DV):M Bool:=do
 let x' <- mR x
 let y' <- mR y
 Qy (SeqAt.shaped (toP x')&&SeqAt.shaped (toP y'))
 pure (PyData.eqv (toP x') (toP y'))
def bK:DV->DV->M DV:=λx y=>do let b <- va x y;pure (.bl b)
def eN:DV->DV->M DV:=λx y=>do let b <- va x y;pure (.bl (!b))
section
variable{X:Cx}{e a b c:Expr}{f fa fb fc:aD}{ca cb:bH}{pos:Pos}
theorem vO{x y:DV}{k:Bool}{hp d:Hs}(h:va x y hp=some (k,d)):∃i j,dN 40 hp x=some i/\dN 40 hp y=some j/\SeqAt.shaped (toP i)=true/\SeqAt.shaped (toP j)=true/\k=PyData.eqv (toP i) (toP j)/\hp=d:=by obtain⟨i,hp1,m,h⟩:=Qg h;obtain⟨j,q,n,h⟩:=Qg h;obtain⟨_,r,o,h⟩:=Qg h;obtain⟨u,rfl⟩:=vL m;obtain⟨v,rfl⟩:=vL n;obtain⟨hs,rfl⟩:=Qz o;obtain⟨rfl,rfl⟩:=Qm h;rw[Bg]at hs;exact⟨i,j,u,v,hs.1,hs.2,rfl,rfl⟩
theorem Jt(q:X.A.units+64<cLine):P2 X (compareOp .Eq) bK:=by intro J s σ H x y v u Q I rx ry h;obtain⟨ρ,B,hp,L,O,d,o,W,C,E,e,k⟩:=h;obtain⟨b,hp1,m,n⟩:=Qg e;obtain⟨rfl,rfl⟩:=Qm n;obtain⟨P,R,r,z,F,G,rfl,rfl⟩:=vO m;obtain⟨as,i⟩:=qW I W _ _ _ _ _ r C rx;obtain⟨bs,j⟩:=qW I W _ _ _ _ _ z E ry;exact eq_dataH i j F G q ⟨.bl _,H,I,rfl,k _ ρ B H Gr.refl W ZW⟩
theorem vT(q:X.A.units+64<cLine):P2 X (compareOp .NotEq) eN:=by intro J s σ H x y v u Q I rx ry h;obtain⟨ρ,B,hp,L,O,d,o,W,C,E,e,k⟩:=h;obtain⟨b,hp1,m,n⟩:=Qg e;obtain⟨rfl,rfl⟩:=Qm n;obtain⟨P,R,r,z,F,G,rfl,rfl⟩:=vO m;obtain⟨as,i⟩:=qW I W _ _ _ _ _ r C rx;obtain⟨bs,j⟩:=qW I W _ _ _ _ _ z E ry;exact ne_dataH i j F G q ⟨.bl _,H,I,rfl,k _ ρ B H Gr.refl W ZW⟩
def XA:DV->Bool
 |.non=>true
 |.bl _=>true
 |.int _=>true
 |.str _=>true
 |_=>false
def Hf:DV->DV->Bool
 |.non,.non=>true
 |.bl a,.bl b=>a==b
 |.bl a,.int b=>(if a then 1 else 0)==b
 |.int a,.bl b=>a==(if b then 1 else 0)
 |.int a,.int b=>a==b
 |.str a,.str b=>a==b
 |_,_=>false
def lC:DV->V
 |.non=>.non
 |.bl b=>.bl b
 |.int i=>.int i
 |.str x=>.str x
 |_=>.non
theorem Pz{K:Ae}{ρ:Cr}{B:Cq}{H:Hp}{d:DV}{v:V}(h:XA d=true)(r:au K ρ B H d v):v=lC d:=by
 cases d<;>simp[XA]at h
 ·exact r.dZ
 ·exact r.eU
 ·exact r.aN
 ·exact r.aZ
theorem kX{d:DV}(h:XA d=true):qi (lC d)=true:=by cases d<;>simp[XA]at h<;>rfl
theorem QgW{d e:DV}(h:XA d=true)(h':XA e=true):eqV (lC d) (lC e)=Hf d e:=by cases d<;>simp[XA]at h<;>cases e<;>simp[XA]at h'<;>rfl
theorem PB{K:Ae}{ρ:Cr}{B:Cq}{H:Hp}:∀{ds:List DV}{xs:List V},ds.all XA=true->ak K ρ B H ds xs->xs=ds.map lC
  | [],_,_,r=>by unfold ak at r;exact r
  |d::ds,_,h,r=>by unfold ak at r;obtain⟨x,t,rfl,i,j⟩:=r;rw[Cb,Bg]at h;rw[Pz h.1 i,PB h.2 j];rfl
def inB(d:DV)(ds:List DV):Bool:=ds.any λy=>Hf y d
theorem NZ{d:DV}(h:XA d=true):∀{ds:List DV},ds.all XA=true->inV (lC d) (ds.map lC)=inB d ds
  | [],_=>rfl
  |x::ds,h'=>by rw[Cb,Bg]at h';have i:=NZ h h'.2;unfold inV inB at i ⊢;rw[Bf,Bz,Bz,i,QgW h'.1 h]
theorem kD:∀{ds:List DV},ds.all XA=true->(ds.map lC).all qi=true
  | [],_=>rfl
  |x::ds,h=>by rw[Cb,Bg]at h;rw[Bf,Cb,kX h.1,kD h.2];rfl
def Cy(x:DV):DV->M Bool
  |.ref n=>do
    match <- ZE n with
    |.lst ds=>do Qy (XA x&&ds.all XA);pure (inB x ds)
    |.aH kvs=>do let k <- Y6 x;pure (qK kvs k).isSome
    |_=>failure
  |.tup ds=>do Qy (XA x&&ds.all XA);pure (inB x ds)
  |.lst ds=>do Qy (XA x&&ds.all XA);pure (inB x ds)
  |_=>failure
def mX:DV->DV->M DV:=λx y=>do let b <- Cy x y;pure (.bl (!b))
theorem QbE{x y:DV}{k:Bool}{hp d:Hs}{K:Ae}{ρ:Cr}{B:Cq}{H:Hp}{m v:V}(W:aM K ρ B hp H)(E:au K ρ B H x m)(C:au K ρ B H y v)(h:Cy x y hp=some (k,d)):hp=d /\
    ((∃p xs,v=.ref p/\(SqL K H p xs∨SqT K H p xs)/\qi m=true/\xs.all qi=true/\k=inV m xs)∨∃a kvs r,v=.ref a/\m=kV r/\H a=some (.dK kvs)/\k=(zg kvs r).isSome):=by
  have j:∀(ds:List DV)(xs:List V)(p:Addr),(do Qy (XA x&&ds.all XA);pure (inB x ds):M Bool) hp=some (k,d)->ak K ρ B H ds xs->(SqL K H p xs∨SqT K H p xs)->v=.ref p->hp=d/\(∃p xs,v=.ref p/\(SqL K H p xs∨SqT K H p xs)/\qi m=true/\xs.all qi=true/\k=inV m xs):=by intro ds xs p h i u O;obtain⟨_,hp1,z,q⟩:=Qg h;obtain⟨hs,rfl⟩:=Qz z;obtain⟨rfl,rfl⟩:=Qm q;rw[Bg]at hs;have ex:=PB hs.2 i;have G:=Pz hs.1 E;subst ex G;exact⟨rfl,p,_,O,u,kX hs.1,kD hs.2,(NZ hs.1 hs.2).symm⟩
  cases y with
  |tup ds=>obtain⟨a,xs,rfl,_,u,i⟩:=C.tupI;exact(j ds xs a h i (.inr u) rfl).imp id .inl
  |lst ds=>obtain⟨a,xs,rfl,_,u,i⟩:=C.bQ;exact(j ds xs a h i (.inl u) rfl).imp id .inl
  |ref n =>
    obtain⟨o,hp1,z,q⟩:=Qg h;obtain⟨I,rfl⟩:=Zt z;obtain⟨a,rfl,_,F⟩:=au.aV W C I;cases o with
    |lst ds=>obtain⟨xs,h1,i⟩:=F;exact(j ds xs a q i (.inl (SqL.of h1)) rfl).imp id .inl
    |aH kvs=>obtain⟨r,Q,J,L⟩:=Qg q;obtain⟨P,rfl⟩:=qV J;obtain⟨rfl,rfl⟩:=Qm L;obtain⟨xs,h1,R⟩:=F.aH;refine⟨rfl,.inr ⟨a,xs,r,rfl,qR P E,h1,?_⟩⟩;rcases R.val r with ⟨z1,z2⟩|⟨_,_,z1,z2,_⟩<;>rw[z1,z2]<;>rfl
    |ins _ _=>cases q
  |non=>cases h
  |bl _=>cases h
  |int _=>cases h
  |str _=>cases h
theorem LR(z:X.A.units+1<cLine):P2 X (compareOp .NotIn) mX:=by
 intro j s σ H x y v u Q I rx ry h;obtain⟨ρ,B,hp,J,L,d,r,W,E,F,e,k⟩:=h;obtain⟨b,hp1,m,n⟩:=Qg e;obtain⟨rfl,rfl⟩:=Qm n;obtain⟨rfl,h⟩:=QbE W E F m;have i:=k _ ρ B H Gr.refl W (ZW (b:=!b));rcases h with ⟨p,xs,rfl,G,o,q,rfl⟩|⟨a,kvs,C,rfl,rfl,h1,rfl⟩
 ·exact gF j s σ H _ _ v u Q I rx ry ⟨p,xs,rfl,G,o,q,i⟩
 ·exact vm z j s σ H _ _ v u Q I rx ry ⟨a,kvs,C,rfl,rfl,h1,i⟩
def VJ(o i d:DV):M Unit:=match o with
  |.ref n=>do
    match <- ZE n with
    |.lst ds=>do
      let k <- cO i
      match ixN ds.length k with
      |some j=>VS n (.lst (ds.set j d))
      |none=>failure
    |.aH kvs=>do
      let k <- Y6 i
      Qy (decide (kvs.length<lim))
      VS n (.aH (mV kvs k d))
    |_=>failure
  |_=>failure
def T_(K:Ae)(g:DV->DV->DV->M Unit):sW:=λo i v H Q=>∃ρ B hp j m n d,aM K ρ B hp H/\au K ρ B H j o/\au K ρ B H m i/\au K ρ B H n v/\g j m n hp=some ((),d)/\∀ρ' B' H',Gr K ρ B H ρ' B' H'->aM K ρ' B' d H'->Q H'
theorem ak.set{K:Ae}{ρ:Cr}{B:Cq}{H:Hp}{d:DV}{x:V}(r:au K ρ B H d x):∀{ds:List DV}{xs:List V}(i:Nat),ak K ρ B H ds xs->ak K ρ B H (ds.set i d) (xs.set i x)
  | [],_,i,h=>by unfold ak at h;subst h;exact ak.nil
  |_::ds,_,0,h=>by unfold ak at h;obtain⟨y,t,rfl,_,h2⟩:=h;exact ak.cons r h2
  |_::ds,_,i+1,h=>by unfold ak at h;obtain⟨y,t,rfl,h1,h2⟩:=h;exact ak.cons h1 (ak.set r i h2)
theorem ML(hu:X.A.units+1<cLine):sX X (T_ X.K VJ):=by
  intro E s σ H o i v ov iv u Q I ro ri rv h;obtain⟨ρ,B,hp,R,di,dv,a6,W,r1,L,O,e,k⟩:=h;cases R with
  |ref n =>
    obtain⟨ob,hp1,S,x⟩:=Qg e;obtain⟨T,rfl⟩:=Zt S;obtain⟨a,rfl,F,C⟩:=au.aV W r1 T;cases ob with
    |ins _ _=>cases x
    |lst ds =>
      obtain⟨j,z,y,d⟩:=Qg x;obtain⟨rfl,rfl⟩:=U9 y;obtain⟨xs,h1,J⟩:=C;cases q:ixN ds.length j with
      |none=>simp only[q]at d;cases d
      |some m=>simp only[q]at d;cases d;obtain⟨g,r⟩:=GM W F h1 (ak.set O m J);exact Qf8 E s σ H _ _ v ov iv u Q I ro ri rv ⟨a,xs,j,m,rfl,L.aN,h1,by rw[<- J.length];exact q,k ρ B _ g r⟩
    |aH kvs=>obtain⟨G,z,y,d⟩:=Qg x;obtain⟨Z,rfl⟩:=qV y;obtain⟨_,a7,U,Y⟩:=Qg d;obtain⟨hl,rfl⟩:=Qz U;cases Y;obtain⟨xs,h1,P⟩:=C.aH;obtain⟨g,r⟩:=Qgq W F h1 (P.put G O);exact Qf7 hu E s σ H _ _ v ov iv u Q I ro ri rv ⟨a,xs,G,rfl,qR Z L,h1,by rw[<- P.len];exact Az (Ci hl) KN,k ρ B _ g r⟩
  |non=>cases e
  |bl _=>cases e
  |int _=>cases e
  |str _=>cases e
  |tup _=>cases e
  |lst _=>cases e
def cU(f g:aD):iU:=λd env=>do
 let o <- f env
 let i <- g env
 VJ o i d
 pure env
theorem Kn{o i:Expr}{C q:aD}(R:X.A.units+1<cLine)(O:DE X o C)(hi:DE X i q)
  (ha:∀v,assign (.Subscript o i pos) X.env v=(do
   let ov <- holding [v] (eval o X.env)
   let iv <- holding [v,ov] (eval i X.env)
   standAt pos
   holding [v,ov,iv] (setItem ov iv v)
   release [v,ov,iv] []):=by intro _;rfl):PG X (.Subscript o i pos) (oA X.K (cU C q)):=by
 intro F s σ H v u Q I r h;refine Sr O hi (ML R) ha F s σ H v u Q I r ?_;obtain⟨Z,env,ρ,B,hp,d,n,P,S,rd,e,k⟩:=h;obtain⟨x,hp1,G,e⟩:=Qg e;obtain⟨y,j,J,e⟩:=Qg e;obtain⟨z,m,L,e⟩:=Qg e;obtain⟨rfl,rfl⟩:=Qm e;refine tD.run S G λY ρ1 B1 H1 g1 S1 T=>tD.run S1 J λvy ρ2 E H2 g2 S2 U=>?_;exact⟨ρ2,E,j,x,y,d,m,S2.wo,au.grow S1.wo.rb g2 _ _ T,U,au.grow S.wo.rb (g1.trans g2) _ _ rd,L,λρ3 B3 H3 g3 W3=>k _ ρ3 B3 H3 ((g1.trans (g2.trans g3)).gs S.wo.rb) (S2.grow g3 W3)⟩
def Xf:String->DV->M Unit
  | "list", .lst _=>pure ()
  | "str", .str _=>pure ()
  |T,.ref n=>do
    match <- ZE n with
    |.lst _=>Qy (T == "list")
    |.aH _=>Qy (T == "dict")
    |_=>failure
  |_,_=>failure
theorem Ru{T:String}{d:DV}{hp i:Hs}{K:Ae}{ρ:Cr}{B:Cq}{H:Hp}{v:V}{u:Unit}(W:aM K ρ B hp H)(r:au K ρ B H d v)(h:Xf T d hp=some (u,i)):hp=i/\tyV K T v H:=by
  unfold Xf at h;split at h
  . obtain⟨_,rfl⟩:=Qm h
    obtain⟨a,xs,rfl,_,y,_⟩:=r.bQ;exact⟨rfl,.inl ⟨rfl,xs,y⟩⟩
  . obtain⟨_,rfl⟩:=Qm h
    obtain rfl:=r.aZ;exact⟨rfl,rfl⟩
  . obtain⟨o,hp1,q,j⟩:=Qg h
    obtain⟨x,rfl⟩:=Zt q;obtain⟨a,rfl,_,n⟩:=au.aV W r x;cases o with
    |lst ds=>obtain⟨m,rfl⟩:=Qz j;obtain⟨xs,h1,_⟩:=n;exact⟨rfl,.inl ⟨by simpa using m,xs,SqL.of h1⟩⟩
    |aH kvs=>obtain⟨m,rfl⟩:=Qz j;obtain⟨xs,h1,_⟩:=n;exact⟨rfl,.inr (.inr (.inl ⟨by simpa using m,.inl ⟨xs,h1⟩⟩))⟩
    |ins _ _=>cases j
  . cases h
def lE(K:Ae)(m:DV->List DV->M DV):V->List V->Hp->VK->Prop:=λx vs H Q=>∃ρ B hp j ds d i,aM K ρ B hp H/\au K ρ B H j x/\ak K ρ B H ds vs/\m j ds hp=some (d,i)/\fu K ρ B H d i Q
def Zo(T:String)(m:DV->List DV->M DV)(f:aD)(a:aW):aD:=λenv=>do
 let x <- f env
 Xf T x
 let ds <- a env
 m x ds
theorem ZC{T id:String}{name:Str}{o:Expr}{es:List Expr}{y:aD}{fs:aW}{m:DV->List DV->M DV}{j i:Pos}(hm:MtR X id (lE X.K m))(U:PlainAttrs T)(slot:Slot T name id)(r:typeOf (.builtin id)=pure (.type "method_descriptor"))(P:DE X o y)(ha:DA X (e::es) fs)
  (hbase:attributeBase o name X.env (eval o X.env)=eval o X.env:=by rfl)
  (hfew:((backTo i (starEach (e::es) X.env)).all (λx=>!x.1)&&(backToKw i (keywordEach [] X.env)).all (λx=>x.1.isSome)
   && decide ((e::es).length+([]:List Keyword).length+(if ([]:List Keyword).isEmpty then 0 else 1)<30))=true:=by rfl)
  (hline:(j.endLine==i.line)=true:=by rfl) (hs:starEach (e::es) X.env=(false,eval e X.env)::starEach es X.env:=by rfl) (hplain:(backTo i (starEach es X.env)).any (·.1)=false:=by rfl) :
  DE X (.Call (.Attribute o name j) (e::es) [] i) (Zo T m y fs) :=
 L2.PE.imp (CW U slot r hm P ha hbase hfew hline hs hplain) λσ H Q F=>by obtain⟨Z,env,ρ,B,hp,d,n,S,e,k⟩:=F;obtain⟨x,hp1,G,J⟩:=Qg e;obtain⟨_,R,I,L⟩:=Qg J;obtain⟨ds,q,u,O⟩:=Qg L;refine tD.run S G λv ρ1 B1 H1 g1 S1 C=>?_;obtain⟨z,ty⟩:=Ru S1.wo C I;rw[<- z]at u;exact⟨ty,cY.run S1 u λvs ρ2 E H2 g2 S2 Y=>⟨ρ2,E,q,x,ds,d,n,S2.wo,au.grow S1.wo.rb g2 _ _ C,Y,O,k.after (g1.trans g2)⟩⟩
def fD(x:DV)(k:Nat->List DV->M DV):M DV:=match x with
  |.ref n=>do
    match <- ZE n with
    |.lst ds=>k n ds
    |_=>failure
  |_=>failure
def fG(x:DV)(k:Nat->List (Key×DV)->M DV):M DV:=match x with
  |.ref n=>do
    match <- ZE n with
    |.aH ds=>k n ds
    |_=>failure
  |_=>failure
theorem KY{x d:DV}{k:Nat->List DV->M DV}{hp i:Hs}(h:fD x k hp=some (d,i)):∃n ds,x=.ref n/\hp[n]?=some (.lst ds)/\k n ds hp=some (d,i):=by
  cases x with
  |ref n =>
    obtain⟨o,hp1,m,j⟩:=Qg h;obtain⟨q,rfl⟩:=Zt m;cases o with
    |lst ds=>exact⟨n,ds,rfl,q,j⟩
    |aH _=>cases j
    |ins _ _=>cases j
  |_=>cases h
theorem Rr{x d:DV}{k:Nat->List (Key×DV)->M DV}{hp i:Hs}(h:fG x k hp=some (d,i)):∃n ds,x=.ref n/\hp[n]?=some (.aH ds)/\k n ds hp=some (d,i):=by
  cases x with
  |ref n =>
    obtain⟨o,hp1,m,j⟩:=Qg h;obtain⟨q,rfl⟩:=Zt m;cases o with
    |aH ds=>exact⟨n,ds,rfl,q,j⟩
    |lst _=>cases j
    |ins _ _=>cases j
  |_=>cases h
def Zh(x:DV):List DV->M DV
 | [d]=>fD x λn ds=>do Qy (decide (ds.length<lim));VS n (.lst (ds++[d]));pure .non
 |_=>failure
theorem JL:MtR X "list.append" (lE X.K Zh):=by
 intro m s σ H x vs v us Q I rx rv h;obtain⟨ρ,B,hp,J,es,d,C,W,F,G,e,k⟩:=h;unfold Zh at e;split at e
 ·rename_i y;obtain⟨n,ds,rfl,u,e⟩:=KY e;obtain⟨_,hp1,q,r⟩:=Qg e;obtain⟨z,rfl⟩:=Qz q;cases r;obtain⟨a,rfl,E,xs,h1,j⟩:=au.aV W F u;obtain⟨w,rfl,i⟩:=G.bA;obtain⟨g,o⟩:=GM W E h1 (ak.append j (ak.one i));exact jW m s σ H _ _ v us Q I rx rv ⟨a,xs,w,rfl,rfl,h1,by rw[<- j.length];exact Az (Ci z) KN,k _ ρ B _ g o j9⟩
 ·cases e
def YB(x:DV):List DV->M DV
 | [.int i,d]=>fD x λn ds=>do Qy (decide (ds.length<lim)&&zL i);VS n (.lst (ds.take (HX ds.length i)++d::ds.drop (HX ds.length i)));pure .non
 |_=>failure
def yV(x:DV):List DV->M DV
  | [y]=>fG x λn kvs=>do
    let k <- Y6 y
    let d <- jE (qK kvs k)
    VS n (.aH (Iz kvs k))
    pure d
  | [y,z]=>fG x λn kvs=>do
    let k <- Y6 y
    match qK kvs k with
    |some d=>do VS n (.aH (Iz kvs k));pure d
    |none=>pure z
  |_=>failure
def Yx(x:DV):List DV->M DV
  | [y]=>fG x λn kvs=>do
    let k <- Y6 y
    pure ((qK kvs k).getD .non)
  | [y,z]=>fG x λn kvs=>do
    let k <- Y6 y
    pure ((qK kvs k).getD z)
  |_=>failure
theorem Mf(L:X.A.units+1<cLine):MtR X "dict.get" (lE X.K Yx):=by
 intro J s σ H x vs v us Q I rx rv h;obtain⟨ρ,B,hp,Y,es,d,R,W,O,m,e,k⟩:=h;unfold Yx at e;split at e
 ·rename_i y;obtain⟨n,kvs,rfl,u,e⟩:=Rr e;obtain⟨j,hp1,r,e⟩:=Qg e;obtain⟨C,rfl⟩:=qV r;obtain⟨rfl,rfl⟩:=Qm e;obtain⟨a,rfl,S,F⟩:=au.aV W O u;obtain⟨xs,h1,E⟩:=F.aH;obtain⟨w,rfl,i⟩:=m.bA;obtain rfl:=qR C i;refine Pn L J s σ H _ _ v us Q I rx rv ⟨a,xs,j,rfl,h1,.inl ⟨rfl,k _ ρ B H Gr.refl W ?_⟩⟩;rcases E.val j with ⟨z1,o⟩|⟨q,T,z1,o,G⟩<;>rw[z1,o]
  ·exact j9
  ·exact G
 ·rename_i y z;obtain⟨n,kvs,rfl,u,e⟩:=Rr e;obtain⟨j,hp1,r,e⟩:=Qg e;obtain⟨C,rfl⟩:=qV r;obtain⟨rfl,rfl⟩:=Qm e;obtain⟨a,rfl,S,F⟩:=au.aV W O u;obtain⟨xs,h1,E⟩:=F.aH;unfold ak at m;obtain⟨w,t,rfl,i,m⟩:=m;obtain rfl:=qR C i;obtain⟨U,rfl,P⟩:=m.bA;refine Pn L J s σ H _ _ v us Q I rx rv ⟨a,xs,j,rfl,h1,.inr ⟨U,rfl,k _ ρ B H Gr.refl W ?_⟩⟩;rcases E.val j with ⟨z1,o⟩|⟨q,T,z1,o,G⟩<;>rw[z1,o]
  ·exact P
  ·exact G
 ·cases e
end
end D
namespace L2
open PySem PySem.Spec PyProof.Rows
theorem Inv.eX{X:Cx}{a:Cn}{σ:St}{H:Hp}{s:Shared}(I:Inv X a σ H s):X.K.lookup s.heap.objs.size=none:=by
 cases q:X.K.lookup s.heap.objs.size with
 |none=>rfl
 |some o=>exact absurd (Ar (I.kIn _ o q)) (B0 _)
theorem QdJ{X:Cx}{c:Pos}:PE X (.Dict [] [] c) (λ_ H Q=>∀p,H p=none->X.K.lookup p=none->Q (.ref p) (upd H p (.dK []))):=λd s σ H Q I h =>
 wpAny_Dict_empty ⟨.ref s.heap.objs.size,_,I.laid (a:=s.heap.objs.size) (o:=.dK []) (t':=s.toks) (λ_ _ q=>Ah _ q) (Ai _) (QeC s.heap I.big),rfl,h _ (I.hok.fresh (Ai _)) I.eX⟩
end L2
namespace D
open PySem PySem.Spec PyProof.Rows L2
section
variable{X:Cx}{e a b c:Expr}{f fa fb fc:aD}{ca cb:bH}{pos:Pos}
def iG:List (aD×aD)->En->M (List (Key×DV))
  | [],_=>pure []
  | (f,g)::r,env=>do
    let x <- f env
    let k <- Y6 x
    let y <- g env
    let ps <- iG r env
    pure ((k,y)::ps)
def qI(kvs more:List (Key×DV)):List (Key×DV):=more.foldl (λacc d=>mV acc d.1 d.2) kvs
def yH(ps:List (aD×aD)):aD:=λenv=>do
 let kvs <- iG ps env
 Qy (decide (kvs.length<=15))
 JZ (.aH (qI [] kvs))
theorem aK.merge{K:Ae}{ρ:Cr}{B:Cq}{H:Hp}{more:List (Key×DV)}{i:List (Key×V)}(r:aK K ρ B H more i):∀{kvs:List (Key×DV)}{xs:List (Key×V)},aK K ρ B H kvs xs->aK K ρ B H (qI kvs more) (jC xs i):=by
  induction r with
  |nil=>intro kvs xs r;exact r
  |@cons p q _ _ h _ d=>intro kvs xs r;unfold qI jC at d ⊢;rw[List.foldl_cons,List.foldl_cons,h.1];exact d (r.put q.1 h.2)
def Xt:aD:=λ_=>JZ (.aH [])
theorem Km:DE X (.Dict [] [] pos) Xt:=L2.PE.imp QdJ λσ H Q j=>by obtain⟨Z,env,ρ,B,hp,d,m,S,e,k⟩:=j;cases e;intro p hn i;have g:Gr X.K ρ B H (ρ++[p]) (zt B p) (upd H p (.dK [])):=Gr.cI hn i;refine k _ _ _ _ g (S.wo.cI hn i (aK.fU (xs:=[]) .nil QU)) ?_;unfold au;exact⟨p,rfl,by rw[<- S.wo.len];simp⟩
abbrev NX:=Nat->M (Option DV)
def Dl(K:Ae)(ρ:Cr)(B:Cq)(H:Hp)(nxt:NX)(J:It):Prop :=
  ∀ρ1 B1 hp1 j, Gs K ρ B H ρ1 B1 j -> aM K ρ1 B1 hp1 j -> ∀(i : Nat)(o : Option DV)(m : Hs), nxt i hp1 = some (o, m) -> m = hp1 /\ match o with
    |none=>J.stop i j
    |some d=>J.go i j/\∀x n,J.yld i j x n->au K ρ1 B1 n d x/\(n=j∨∃p o,j p=none/\n=upd j p o)
abbrev lB:=En->M NX
def Fd(K:Ae)(f:lB):TI:=λσ H R=>∃Z env ρ B hp nxt d,bw K Z env σ ρ B hp H/\f env hp=some (nxt,d)/\∀J ρ' B' H',Gr K ρ B H ρ' B' H'->aM K ρ' B' d H'->Dl K ρ' B' H' nxt J->R J H'
def DX(X:Cx)(i d:Expr)(f:lB):Prop:=PI X i d (Fd X.K f)
def fH(ds:List DV):NX:=λi=>if i<=ds.length then pure ds[i]? else failure
def fV(n:Nat):NX:=λi=>do
 match <- ZE n with
 |.lst ds=>pure ds[i]?
 |_=>failure
theorem Ma{K:Ae}{ρ:Cr}{B:Cq}{H:Hp}{ds:List DV}{J:It}(h:kA K ρ B H ds J):Dl K ρ B H (fH ds) J:=λρ1 B1 hp1 H1 g W i o j e=>by
  unfold fH at e;by_cases hi:i<=ds.length
  . rw[Cf hi]at e
    obtain⟨rfl,rfl⟩:=Qm e;obtain⟨h1,h2⟩:=h ρ1 B1 H1 g W.rb W.bt;refine⟨rfl,?_⟩;cases q:ds[i]? with
    |none =>
      have:i=ds.length:=by have:=List.getElem?_eq_none_iff.mp q;lia
      subst this;exact h2
    |some d=>exact h1 i d q
  . rw[Ce hi]at e;cases e
theorem SY{K:Ae}{ρ:Cr}{B:Cq}{H:Hp}{n:Nat}{a:Addr}(ha:ρ[n]?=some a)(kf:∀j:Hp,∀xs ys,j a=some (.lst xs)->SqL K j a ys->ys=xs):Dl K ρ B H (fV n) (Itl K a):=λρ1 B1 hp1 j g W i o E e=>by
  obtain⟨ob,F,v,m⟩:=Qg e;obtain⟨z,rfl⟩:=Zt v;have r:=Ph g.pre ha;cases ob with
  |aH _=>cases m
  |ins _ _=>cases m
  |lst ds =>
    obtain⟨rfl,rfl⟩:=Qm m;obtain⟨xs,h1,u⟩:=W.obj n a _ r z;refine⟨rfl,?_⟩;cases q:ds[i]? with
    |none=>exact⟨xs,SqL.of h1,by rw[<- u.length];exact List.getElem?_eq_none_iff.mp q⟩
    |some d=>obtain⟨x,hx,G⟩:=u.get q;refine⟨⟨xs,x,SqL.of h1,hx⟩,λy H' ⟨C,hy⟩=>?_⟩;subst C;have:=hy xs (SqL.of h1);rw[hx]at this;cases this;exact⟨G,.inl rfl⟩
theorem Qge{K:Ae}{a:Addr}(d:K.lookup a=none)(H:Hp)(xs ys:List V)(h:H a=some (.lst xs))(h':SqL K H a ys):ys=xs:=by
 rcases h' with (h'|⟨o,h'⟩)|⟨o,_,_,h',_⟩
 ·rw[h]at h';cases h';rfl
 ·rw[h]at h';cases h'
 ·rw[d]at h';cases h'
def dh(f:fM):lB:=λenv=>do let ds <- f env;pure (fH ds)
def cT(f:aD):lB:=λenv=>do
  match <- f env with
  |.lst ds=>pure (fH ds)
  |.ref n=>do
    match <- ZE n with
    |.lst _=>pure (fV n)
    |_=>failure
  |_=>failure
variable{tg iter:Expr}
theorem xD{g:fM}(h:DI X tg iter g):DX X tg iter (dh g):=L2.PI.imp h λσ H R d=>by obtain⟨Z,env,ρ,B,hp,nxt,m,S,e,k⟩:=d;obtain⟨ds,hp1,i,j⟩:=Qg e;obtain⟨rfl,rfl⟩:=Qm j;exact⟨Z,env,ρ,B,hp,ds,hp1,S,i,λJ ρ' B' H' g W n=>k J ρ' B' H' g W (Ma n)⟩
theorem JV(h:DE X iter f):DX X tg iter (cT f):=L2.PI.imp (gO (L2.PE.kf h)) λσ H R u=>by
  obtain⟨Z,env,ρ,B,hp,nxt,m,S,e,k⟩:=u;obtain⟨d,hp1,x,i⟩:=Qg e;refine tD.run S x λv ρ1 B1 H1 g1 S1 q kf=>?_;cases d with
  |lst ds=>obtain⟨rfl,rfl⟩:=Qm i;obtain⟨a,xs,rfl,I,r,J⟩:=q.bQ;exact⟨a,rfl,⟨xs,r⟩,k _ ρ1 B1 H1 g1 S1.wo (Ma (NP I r J))⟩
  |ref n =>
    obtain⟨o,F,y,j⟩:=Qg (show(ZE n >>= λo=>(match o with|.lst _=>pure (fV n)|_=>failure:M NX)) hp1=some (nxt,m)from i);obtain⟨C,E⟩:=Zt y;cases o with
    |lst ds=>obtain⟨rfl,z⟩:=Qm j;rw[<- z,<- E]at k;obtain⟨a,rfl,G,xs,h1,_⟩:=au.aV S1.wo q C;exact⟨a,rfl,⟨xs,SqL.of h1⟩,k _ ρ1 B1 H1 g1 S1.wo (SY G (Qge (kf a _ h1)))⟩
    |aH _=>cases j
    |ins _ _=>cases j
  |non=>cases i
  |bl _=>cases i
  |int _=>cases i
  |str _=>cases i
  |tup _=>cases i
def Ut(nxt:NX)(b:DV->aB):Nat->Nat->aB
  |0,_,_=>failure
  |m+1,i,env=>do
    match <- nxt i with
    |none=>pure (.nx,env)
    |some d=>do
      let r <- b d env
      match r.1 with
      |.nx=>Ut nxt b m (i+1) r.2
      |.ct=>Ut nxt b m (i+1) r.2
      |.bk=>pure (.nx,r.2)
      |.rt x=>pure (.rt x,r.2)
def qt(f:lB)(g:iU)(i:aB):aB:=λenv=>do let nxt <- f env;Ut nxt (λd env=>do let env' <- g d env;i env') 100000 0 env
theorem XI{n:List Stmt}{U:lB}{g:iU}{sb:aB}(hp:PassesOwn (model X.prog X.w) X.A X.env X.xe)(hc:X.calm=true)(hi:DX X tg iter U)(hg:PG X tg (oA X.K g))(hb:fL X n sb)
    (hs:∀x,foldedSetIterable iter X.env x=pure x:=by intro _;rfl):DS X (.For tg iter n [] pos) (qt U g sb) :=
  (Qj6 hp hc hi hg hb hs).imp λD σ H aG=>by
    obtain⟨Z,env,ρ,B,hp,fl,j,v,S,e,k⟩:=aG;obtain⟨nxt,hp1,e1,e2⟩:=Qg e;refine⟨Z,env,ρ,B,hp,nxt,hp1,S,e1,λJ ρ1 O H1 g1 W1 it=>?_⟩;have k1:=k.after (g1.gs S.wo.rb);refine⟨λi m σ H=>∃env ρ B hp,bw X.K Z env σ ρ B hp H/\Gs X.K ρ1 O H1 ρ B H/\Ut nxt (λd env=>do let j <- g d env;sb j) m i env hp=some ((fl,j),v),
      ⟨100000,env,ρ1,O,hp1,S.grow g1 W1,Gs.refl,e2⟩,?_⟩
    rintro i m σ H ⟨iI,ρ2,B2,hp2,S2,g2,u⟩;cases m with
    |zero=>cases u
    |succ m =>
      obtain⟨o,r,eo,u⟩:=Qg u;obtain⟨rfl,E⟩:=it ρ2 B2 hp2 H g2 S2.wo i o r eo;cases o with
      |none=>obtain⟨z,rfl⟩:=Qm u;cases z;exact .inl ⟨E,k1 σ ρ2 B2 H g2 S2⟩
      |some d =>
        obtain⟨go,yl⟩:=E;obtain⟨⟨T,Q⟩,P,e4,L⟩:=Qg u;obtain⟨Y,C,e6,e7⟩:=Qg e4;refine .inr ⟨go,λσ' H'=>∃env ρ B hp,bw X.K Z env σ' ρ B hp H'/\Gs X.K ρ1 O H1 ρ B H'/\Ut nxt (λd env=>do let j <- g d env;sb j) m (i+1) env hp=some ((fl,j),v),
          λσ' H' q=>⟨m,Ca m,q⟩,λx H' y=>?_⟩
        obtain⟨rx,hx⟩:=yl x H' y;have R:bw X.K Z iI σ ρ2 B2 r H'/\Gs X.K ρ2 B2 H ρ2 B2 H':=by
          rcases hx with rfl|⟨p,o,hn,rfl⟩
          . exact⟨S2,Gs.refl⟩
          . exact⟨S2.grow (Gr.laid hn) (S2.wo.laid hn),Lx S2.wo.rb hn⟩
        refine⟨Z,iI,ρ2,B2,r,d,Y,C,R.1,rx,e6,λσ5 ρ5 B5 H5 g5 S5=>⟨Z,Y,ρ5,B5,C,T,Q,P,S5,e7,λσ6 ρ6 F H6 g6 I=>?_⟩⟩;have G:=g2.trans (R.2.trans (g5.trans g6));cases T with
        |nx=>exact⟨Q,ρ6,F,P,I,G,L⟩
        |ct=>exact⟨Q,ρ6,F,P,I,G,L⟩
        |bk=>obtain⟨z,rfl⟩:=Qm L;cases z;exact k1 σ6 ρ6 F H6 G I
        |rt d=>obtain⟨z,rfl⟩:=Qm L;cases z;exact k1 σ6 ρ6 F H6 G I
def Ym(nxt:NX)(g:DV->M Bool)(f:DV->M DV):Nat->Nat->M (List DV)
  |0,_=>failure
  |m+1,i=>do
    match <- nxt i with
    |none=>pure []
    |some d=>do
      if <- g d then
        let y <- f d
        let ys <- Ym nxt g f m (i+1)
        pure (y::ys)
      else Ym nxt g f m (i+1)
def Z9(j:Bool)(i:lB)(idx:List Nat)(t:bH)(f:aD):aD:=λenv=>do
 let nxt <- i env
 let out <- Ym nxt (λd=>t (cE idx env d)) (λd=>f (cE idx env d)) lim 0
 if j then JZ (.lst out)else pure (.lst out)
variable{elt:Expr}{x:Str}{px:Pos}{ifs:List Expr}{scope:Scope}{cl:List (Str×Addr)}{caps:List Str}{idx:List Nat}{src:lB}{te:bH}{nw:Bool}
theorem Kr{K:Ae}{σ:St}{H:Hp}{Q:VK}(h:tD K (Z9 nw src idx te f) σ H Q):pY K (Fd K src) (cX K te) (tD K f) idx σ H Q:=by
  obtain⟨Z,env,ρ,B,hp,d,Y,S,e,k⟩:=h;obtain⟨nxt,hp1,e1,e2⟩:=Qg e;obtain⟨a7,a8,e5,e6⟩:=Qg e2;refine⟨Z,env,ρ,B,hp,nxt,hp1,S,e1,λJ ρ1 B1 H1 g1 W1 it D hD hK=>?_⟩;have pB:=g1.gs S.wo.rb;refine⟨λi m ys H2=>H2 D=some (.lst ys)/\i+m=lim/\∃ρ2 r F n G,Gr K ρ1 B1 H1 ρ2 r H2/\aM K ρ2 r F H2/\r D/\D∉ρ2/\ak K ρ2 r H2 n ys/\n.length<=i /\
    Ym nxt (λd=>te (cE idx env d)) (λd=>f (cE idx env d)) m i F=some (G,a8)/\n++G=a7,?_,?_⟩
  . exact⟨lim,QU,Nat.zero_add _,ρ1,zt B1 D,hp1,[],a7,Gr.banned hD hK,W1.banned hD hK,.inr rfl,λz=>W1.bt D (W1.rb D z) hD,ak.nil,Ai _,e5,rfl⟩
  . rintro i m ys H2 ⟨fW,him,ρ2,r,F,n,G,g2,W2,bD,nD,rd,dn,P,e8⟩
    refine⟨fW,?_⟩;cases m with
    |zero=>cases P
    |succ m =>
      obtain⟨o,C,eo,P⟩:=Qg P;obtain⟨rfl,a6⟩:=it ρ2 r F H2 (g2.gs W1.rb) W2 i o C eo;cases o with
      |some d0 =>
        obtain⟨go,yl⟩:=a6;obtain⟨b,cN,e9,O⟩:=Qg P;refine .inr ⟨go,λx H3 y=>?_⟩;obtain⟨rx,hx⟩:=yl x H3 y;have L:Gr K ρ2 r H2 ρ2 r H3/\aM K ρ2 r C H3:=by
          rcases hx with rfl|⟨p,o,hn,rfl⟩
          . exact⟨Gr.refl,W2⟩
          . exact⟨Gr.laid hn,W2.laid hn⟩
        have g3:=g2.trans L.1;have C3:=cσ_ok (idx:=idx) S (pB.trans (g3.gs W1.rb)) L.2 rx;refine cX.run C3 e9 λρ4 B4 H4 g4 S4=>?_;have mD:H4 D=some (.lst ys):=g4.keep D _ nD (L.1.keep D _ nD fW);have mj:D∉ρ4:=λz=>(g4.bF D z).elim nD λq=>by rw[L.1.keep D _ nD fW]at q;cases q
        cases b with
        |false=>exact vj ⟨m,Ca m,mD,⋯,ρ4,B4,cN,n,G,g3.trans g4,S4.wo,g4.ban D bD,mj,ak.grow W2.rb (L.1.trans g4) _ _ rd,⋯,O,e8⟩
        |true =>
          obtain⟨z,iu,k_,A_⟩:=Qg O;obtain⟨zs,Fz,pG,z_⟩:=Qg A_;obtain⟨rfl,rfl⟩:=Qm z_;refine KH (tD.run S4 k_ λv ρ5 B5 H5 R S5 r5=>?_);have pq:H5 D=some (.lst ys):=R.keep D _ mj mD;have lG:D∉ρ5:=λz=>(R.bF D z).elim mj λq=>by rw[mD]at q;cases q
          have lM:B5 D:=R.ban D (g4.ban D bD);have I:=g3.trans (g4.trans R);have lF:=ak.grow W2.rb (L.1.trans (g4.trans R)) _ _ rd;have trk:∀b,(upd H5 D (.lst (ys++[v]))) b=none->H5 b=none:=λb q=>by
            by_cases e:b=D
            . subst e;rw[QU]at q;cases q
            . rw[QS e]at q;exact q
          have g6:Gs K ρ5 B5 H5 ρ5 B5 (upd H5 D (.lst (ys++[v]))):=⟨Bw,λ_ h=>.inl h,λb o nb h=>by rw[QS (show b≠D from λz=>nb (by rw[z];exact lM))];exact h,trk⟩;refine⟨pq,?_,m,Ca m,QU,⋯,ρ5,B5,iu,n++[z],zs,?_,?_,lM,lG,ak.gs g6 _ _ (ak.append lF (ak.one r5)),by simp;lia,pG,by rw[<- e8];simp⟩
          . have h1:=lF.length
            have h2:lim<sizeLine:=by decide
            lia
          . exact⟨I.pre,I.ban,I.new,I.bF,λb o nb h=>by rw[QS (show b≠D from λq=>by rw[q,hD]at h;cases h)];exact I.keep b o nb h,λb q=>I.trk b (trk b q)⟩
          . exact⟨S5.wo.len,S5.wo.nd,λj b o u E=>aP.gs g6 (QS (show b≠D from λz=>lG (by rw[<- z];exact Ax u))) (S5.wo.obj j b o u E),S5.wo.rb,λb z q=>S5.wo.bt b z (trk b q),S5.wo.bk⟩
      |none =>
        obtain⟨z,z'⟩:=Qm P;subst z;subst z';refine .inl ⟨a6,?_⟩;rw[Bo]at e8;subst e8;cases nw with
        |false =>
          obtain⟨rfl,rfl⟩:=Qm (show(pure (.lst n):M DV) C=some (d,Y)from e6);have T:Gs K ρ2 r H2 ρ2 (λb=>r b/\b≠D) H2:=⟨Bw,λ_ h=>.inl h.1,λ_ _ _ h=>h,λ_ h=>h⟩;refine k (.ref D) ρ2 (λb=>r b/\b≠D) H2 (g1.trans ⟨g2.pre,λb z=>⟨g2.ban b z,λq=>W1.bt b z (q▸hD)⟩,λb z=>g2.new b z.1,g2.bF,g2.keep,g2.trk⟩)
            ⟨W2.len,W2.nd,λj b o u E=>aP.gs T rfl (W2.obj j b o u E),λb z=>⟨W2.rb b z,λq=>nD (q▸z)⟩,λb z=>W2.bt b z.1,λb z=>W2.bk b z.1⟩ (j8 (λz=>z.2 rfl) (SqL.of fW) (ak.gs T _ _ rd))
        |true =>
          cases (show some (DV.ref C.length,C++[OV.lst n])=some (d,Y)from e6);have T:Gs K ρ2 r H2 (ρ2++[D]) r H2:=⟨List.prefix_append _ _,λ_ h=>.inl h,λ_ _ _ h=>h,λ_ h=>h⟩;refine k (.ref D) (ρ2++[D]) r H2 (g1.trans ⟨g2.pre.trans (List.prefix_append _ _),g2.ban,g2.new,λa z=>(Ak.mp z).elim (g2.bF a) λq=>.inr (by rw[Au.mp q];exact hD),g2.keep,g2.trk⟩)
            ⟨by simp[W2.len],List.nodup_append.mpr ⟨W2.nd,by simp,λa ha b hb=>by rw[Au.mp hb];exact λz=>nD (z▸ha)⟩,λj b o u E=>?_,λb z=>(Ak.mp z).elim (W2.rb b) λq=>by rw[Au.mp q];exact bD,W2.bt,W2.bk⟩ ?_
          . by_cases hi:j<ρ2.length
            . rw[Aj hi]at u
              rw[Aj (by rw[<- W2.len];exact hi)]at E;exact aP.gs T rfl (W2.obj j b o u E)
            . rw[As ⋯]at u
              rw[As (by rw[<- W2.len];lia)]at E;have U:j-ρ2.length=0:=by have:=(Ag.mp u).1;simp at this;lia
              rw[U]at u;rw[<- W2.len,U]at E;simp at u E;subst u E;exact⟨ys,fW,ak.gs T _ _ rd⟩
          . unfold au
            exact⟨D,rfl,by rw[<- W2.len];simp⟩
theorem JH(S:yp X x scope cl caps idx)(d:X.calm=true)(hi:DX X (.Name x px) iter src)
  (ht:∀C s₀ H₀ ex,rB (Jx X scope cl C (x::caps) s₀ H₀ ex) ifs te) (he:∀C s₀ H₀ ex,DE (Jx X scope cl C (x::caps) s₀ H₀ ex) elt f)
  (hs:∀x,foldedSetIterable iter X.env x=pure x:=by intro _;rfl):DE X (.ListComp elt [⟨.Name x px,iter,ifs,0⟩] scope pos) (Z9 nw src idx te f) :=
 L2.PE.imp (gK (tt:=cX X.K te) (te:=tD X.K f) S d hi ht he hs) λ_ _ _ h=>Kr h
theorem QeH(i:Nat){y:Str}{j d:Pos}(m:X.N.Nodup)(S:yp X x scope cl caps idx)(n:X.calm=true)(hi:DX X (.Name x px) iter src)
  (ht:∀C s₀ H₀ ex,rB (Jx X scope cl C (x::caps) s₀ H₀ ex) ifs te) (he:∀C s₀ H₀ ex,DE (Jx X scope cl C (x::caps) s₀ H₀ ex) elt f)
  (hy:X.N[i]?=some y:=by rfl) (hx:Loc X.env.scope y:=by first|exact Or.inl rfl|exact Or.inr rfl)
  (hsw:swapsWith (.ListComp elt [⟨.Name x px,iter,ifs,0⟩] scope pos) (some (.Name y j)) d.line X.env=pure true:=by with_unfolding_all rfl)
  (hf:X.fn y=true∨X.env.scope.names.lookup y=some .local:=by first|exact .inl rfl|exact .inr rfl|assumption)
  (hs:∀x,foldedSetIterable iter X.env x=pure x:=by intro _;rfl):DS X (.Assign [.Name y j] (.ListComp elt [⟨.Name x px,iter,ifs,0⟩] scope pos) d) (QD i (Z9 nw src idx te f)) :=
 L2.PS.imp (QhF (tt:=cX X.K te) (te:=tD X.K f) S n hi ht he m hy hx hsw hf hs) λ_ _ _ h=>Rk (λ_ _ _ q=>Kr q) h
end
section
variable{α β:Type}{m:M α}{k:α->M β}{hp:Hs}{Q:α->Hs->Prop}{R:β->Hs->Prop}
end
section
variable{hp:Hs}{env:En}{Q:Fl×En->Hs->Prop}
theorem D_(ds:List DV)(i:Nat)(h:i<=ds.length)(hp:Hs):fH ds i hp=some (ds[i]?,hp):=by unfold fH;rw[Cf h];rfl
theorem jD{n:Nat}{ds:List DV}{hp:Hs}(h:hp[n]?=some (.lst ds))(i:Nat):fV n i hp=some (ds[i]?,hp):=by
 unfold fV;have:ZE n hp=some (.lst ds,hp):=by unfold ZE;rw[h]
 rw[Ql this];rfl
end
theorem Qbl{nxt:NX}{t:DV->M Bool}{f:DV->M DV}{p:Int->Bool}{g:Int->Int}{hp:Hs}(ns:List Int)(hn:∀i,i<=ns.length->nxt i hp=some ((ns.map DV.int)[i]?,hp))(o:∀x,t (.int x) hp=some (p x,hp))(hf:∀x,f (.int x) hp=some (.int (g x),hp))(j:ns.length<100000) :
    Ym nxt t f 100000 0 hp=some (((ns.filter p).map g).map .int,hp):=by
  suffices h:∀(m i n:Nat),m+i=ns.length->m<n->Ym nxt t f n i hp=some ((((ns.drop i).filter p).map g).map .int,hp)by simpa using h ns.length 0 100000 rfl j
  intro m;induction m with
  |zero =>
    intro i n e d;obtain⟨n,rfl⟩:∃k,n=k+1:=⟨n-1,⋯⟩;have:i=ns.length:=⋯
    subst this;have a:=hn ns.length (Ai _);rw[show(ns.map DV.int)[ns.length]?=none by simp]at a;rw[Ym,Ql a,List.drop_length];rfl
  |succ m r =>
    intro i n e d;obtain⟨n,rfl⟩:∃k,n=k+1:=⟨n-1,⋯⟩;have c:i<ns.length:=⋯
    have a:=hn i ⋯;rw[Bp,Af c]at a;have hi:=r (i+1) n ⋯ ⋯;rw[Ym,Ql a];simp only[Option.map_some];rw[Ql (o ns[i]),List.drop_eq_getElem_cons c];cases q:p ns[i]with
    |false=>rw[List.filter_cons_of_neg (by simp[q])];simpa using hi
    |true=>rw[List.filter_cons_of_pos q];simp only[if_true];rw[Ql (hf ns[i]),Ql hi];rfl
def N_(n:Nat)(hp:Hs)(i:Int):dN (n+1) hp (.int i)=some (.int i):=rfl
def Nf(n:Nat)(hp:Hs)(b:Bool):dN (n+1) hp (.bl b)=some (.bl b):=rfl
def N8(n:Nat)(hp:Hs)(b:Str):dN (n+1) hp (.str b)=some (.str b):=rfl
theorem Oa{d d':DV}{hp:Hs}(h:dN 40 hp d=some d'):mR d hp=some (d',hp):=by unfold mR;rw[h];rfl
theorem UN{x y a c:DV}{hp:Hs}(hx:dN 40 hp x=some a)(i:dN 40 hp y=some c)(d:dW a=true)(e:dW c=true):va x y hp=some (PyData.eqv (toP a) (toP c),hp):=by unfold va;simp only[dW,Bg]at d e;rw[Ql (Oa hx),Ql (Oa i)];simp only[d.2,e.2,Bool.and_self,Qy,if_true,Ck];rfl
def kU(i j:Int)(hp:Hs):va (.int i) (.int j) hp=some (i==j,hp):=UN (N_ 39 hp i) (N_ 39 hp j) (UP i) (UP j)
theorem QeR(a b:Option Int)(hp:Hs):va (opt a) (opt b) hp=some (decide (a=b),hp):=by
  have e:∀c:Option Int,dN 40 hp (opt c)=some (opt c):=λc=>by cases c<;>rfl
  have s:∀c:Option Int,dW (opt c)=true:=λc=>by cases c<;>rfl
  rw[UN (e a) (e b) (s a) (s b)];cases a with
  |none=>cases b<;>simp[opt,toP,PyData.eqv]
  |some i =>
    cases b with
    |none=>simp[opt,toP,PyData.eqv]
    |some j=>simp only[opt,toP,PyData.eqv,Option.some.injEq];congr 1
theorem Qd8(p:Key×DV)(r:List (Key×DV))(j:Key):qK (p::r) j=if p.1=j then some p.2 else qK r j:=by
 by_cases e:p.1=j
 ·simp[qK,Bt,e]
 ·simp[qK,Bt,e]
theorem Zi{n:Nat}{o:OV}{hp:Hs}(h:hp[n]?=some o):ZE n hp=some (o,hp):=by unfold ZE;rw[h]
theorem QfP{n:Nat}{kvs:List (Key×DV)}{hp:Hs}{i d:DV}{k:Key}(h:hp[n]?=some (.aH kvs))(e:je i=some k)(j:kvs.length<100000):VJ (.ref n) i d hp=some ((),hp.set n (.aH (mV kvs k d))):=by
 show(ZE n >>= _) hp=_;rw[Ql (Zi h)];have a:Y6 i hp=some (k,hp):=by unfold Y6;rw[e];rfl
 have c:Qy (decide (kvs.length<lim)) hp=some ((),hp):=by rw[show decide (kvs.length<lim)=true from Ch j];rfl
 show(Y6 i >>= λk=>Qy (decide (kvs.length<lim)) >>= λ_=>VS n (.aH (mV kvs k d))) hp=_;rw[Ql a,Ql c];rfl
theorem gR{f:aD}{g:iU}{env a:En}{d:DV}{hp hp1 c:Hs}(h:f env hp=some (d,hp1))(h':g d env hp1=some (a,c)):YY f g env hp=some ((.nx,a),c):=by unfold YY;rw[Ql h,Ql h'];rfl
theorem JU{α:Type}{m:M α}{x:α}(h:m=pure x)(hp:Hs):m hp=some (x,hp):=by rw[h];rfl
theorem Mv{c:bH}{f g:aB}{env:En}{b:Bool}{hp hp1:Hs}(h:c env hp=some (b,hp1)):aJ c f g env hp=if b=true then f env hp1 else g env hp1:=by unfold aJ;rw[Ql h];cases b<;>rfl
theorem Q0{f:aD}{env:En}{b:Bool}{hp hp1:Hs}(h:f env hp=some (.bl b,hp1)):eB f env hp=some (b,hp1):=by unfold eB;rw[Ql h];rfl
theorem Qn{g:DV->DV->M DV}{f e:aD}{env:En}{x y d:DV}{hp hp1 a c:Hs}(h:f env hp=some (x,hp1))(h':e env hp1=some (y,a))(i:g x y a=some (d,c)):Qi g f e env hp=some (d,c):=by unfold Qi;rw[Ql h,Ql h',i]
theorem QJ{f:aD}{env:En}{d:DV}{hp hp1:Hs}(h:f env hp=some (d,hp1)):QR f env hp=some ((.rt d,env),hp1):=by unfold QR;rw[Ql h];rfl
theorem ZP{f g:aB}{env aA:En}{d:DV}{hp hp1:Hs}(h:f env hp=some ((.rt d,aA),hp1)):Qr f g env hp=some ((.rt d,aA),hp1):=by unfold Qr;rw[Ql h];rfl
theorem ZG{f:aD}{env:En}{d:DV}{hp hp1:Hs}(h:f env hp=some (d,hp1)):Zd f env hp=some ((.nx,env),hp1):=by unfold Zd;rw[Ql h];rfl
theorem QH{n:Nat}{a:aB}{ds:List DV}{d:DV}{env:En}{hp hp1:Hs}(h:a (ds.map .val++List.replicate (n-ds.length) .un) hp=some ((.rt d,env),hp1)):Q3 n a ds hp=some (d,hp1):=by unfold Q3;rw[Ql h];rfl
theorem Z5{c:bH}{env:En}{b:Bool}{hp hp1:Hs}(h:c env hp=some (b,hp1)):Z2 c env hp=some (!b,hp1):=by unfold Z2;rw[Ql h];rfl
theorem QeL{f g:aD}{env:En}{b:Bool}{hp hp1:Hs}(h:f env hp=some (.bl b,hp1)):XZ f g env hp=if b=true then g env hp1 else some (.bl false,hp1):=by unfold XZ;rw[Ql h];cases b<;>rfl
abbrev aX(K:Ae)(c:Str)(C:Addr):Prop:=PySem.W.nsIn K mainGlobals c=some (some (.ref C))
theorem aX.uniq{K:Ae}{c:Str}{C C':Addr}(h:aX K c C)(h':aX K c C'):C=C':=by have e:=h.symm.trans h';cases e;rfl
structure X5(K:Ae)(c f:Str):Prop where
 ex:∃C,aX K c C/\Cls K C/\NoAttr K C f
structure Xd(P:Program)(w:World)(K:Ae)(mg:Co)(O8:Heap)(c m:Str)(k n:Nat)(F:Cs):Prop where
 ex:∃(C f:Addr)(fd:FuncData)(ps:List Str),aX K c C/\Cls K C/\uH K C m f/\Y4 P w K mg O8 CX0 k f fd ps (f9 K n F)/\Binds K fd ps []
structure mZ(P:Program)(w:World)(K:Ae)(mg:Co)(O8:Heap)(c:Str)(k n:Nat)(F:Cs):Prop where
 ex:∃(C f:Addr)(fd:FuncData)(ps:List Str),aX K c C/\mg c=some (.ref C)/\Mk K C f/\Y4 P w K mg O8 CX0 k f fd ps (f9 K n F)/\Binds K fd ps []
section
variable{K:Ae}{ρ:Cr}{B:Cq}{H:Hp}{hp:Hs}
abbrev bW(K:Ae)(ρ:Cr)(B:Cq)(H:Hp):List (Str×DV)->List (Str×V)->Prop:=Paired λp q=>p.1=q.1/\au K ρ B H p.2 q.2
theorem Ot:∀{fs:List (Str×DV)}{xs:List (Str×V)},xs.map (·.1)=fs.map (·.1)->ak K ρ B H (fs.map (·.2)) (xs.map (·.2))->bW K ρ B H fs xs
  | [],[],_,_=>.nil
  | [],_::_,e,_=>by simp at e
  |_::_,[],e,_=>by simp at e
  |p::fs,q::xs,e,r=>by simp only[Bf,List.cons.injEq]at e;simp only[Bf]at r;unfold ak at r;obtain⟨x,t,a,h1,h2⟩:=r;simp only[List.cons.injEq]at a;obtain⟨rfl,rfl⟩:=a;exact .cons ⟨e.1.symm,h1⟩ (Ot e.2 h2)
theorem bW.to{fs:List (Str×DV)}{xs:List (Str×V)}(r:bW K ρ B H fs xs):xs.map (·.1)=fs.map (·.1)/\ak K ρ B H (fs.map (·.2)) (xs.map (·.2)):=by
 induction r with
 |nil=>exact⟨rfl,ak.nil⟩
 |cons h _ a=>exact⟨by simp[a.1,h.1],by simpa using ak.cons h.2 a.2⟩
theorem bW.look{fs:List (Str×DV)}{xs:List (Str×V)}(r:bW K ρ B H fs xs)(f:Str):(fs.lookup f=none/\xs.lookup f=none)∨∃d v,fs.lookup f=some d/\xs.lookup f=some v/\au K ρ B H d v:=by
  induction r with
  |nil=>exact .inl ⟨rfl,rfl⟩
  |@cons p q _ _ h _ c =>
    obtain⟨a,i⟩:=p;obtain⟨j,m⟩:=q;obtain⟨h1,h2⟩:=h;have h1:a=j:=h1;subst h1;cases e:f==a with
    |true=>exact .inr ⟨i,m,by simp[List.lookup,e],by simp[List.lookup,e],h2⟩
    |false=>simpa [List.lookup,e]using c
def Ju(f:Str)(d:DV):List (Str×DV)->List (Str×DV)
 | []=>[(f,d)]
 | (g,x)::r=>if g=f then (g,d)::r else (g,x)::Ju f d r
theorem bW.put{fs:List (Str×DV)}{xs:List (Str×V)}(r:bW K ρ B H fs xs)(f:Str){d:DV}{v:V}(rd:au K ρ B H d v):bW K ρ B H (Ju f d fs) (qJ f v xs):=by
  induction r with
  |nil=>exact .cons ⟨rfl,rd⟩ .nil
  |@cons p q _ _ h t c =>
    obtain⟨a,j⟩:=p;obtain⟨i,m⟩:=q;obtain⟨h1,h2⟩:=h;have h1:a=i:=h1;subst h1;unfold Ju qJ;by_cases e:a=f
    . rw[Cf e,Cf e];exact .cons ⟨rfl,rd⟩ t
    . rw[Ce e,Ce e];exact .cons ⟨rfl,h2⟩ c
def bW.len{fs:List (Str×DV)}{xs:List (Str×V)}(r:bW K ρ B H fs xs):fs.length=xs.length:=Paired.length r
def bW.gs{ρ':Cr}{a:Cq}{c:Hp}{fs:List (Str×DV)}{xs:List (Str×V)}(g:Gs K ρ B H ρ' a c)(r:bW K ρ B H fs xs):bW K ρ' a c fs xs:=L2.Paired.mapP r λ_ _ h=>⟨h.1,au.gs g _ _ h.2⟩
theorem aP.ins{a:Addr}{c:Str}{fs:List (Str×DV)}(h:aP K ρ B H a (.ins c fs)):∃C d xs,aX K c C/\H a=some (.ins C d xs)/\bW K ρ B H fs xs:=by obtain⟨C,d,xs,j,e,i,m⟩:=h;exact⟨C,d,xs,j,e,Ot i m⟩
def bW.fU{a C d:Addr}{c:Str}{fs:List (Str×DV)}{xs:List (Str×V)}(i:aX K c C)(r:bW K ρ B H fs xs)(e:H a=some (.ins C d xs)):aP K ρ B H a (.ins c fs):=⟨C,d,xs,i,e,r.to.1,r.to.2⟩
theorem Qgr{n:Nat}{a C m:Addr}{c:Str}{xs d:List (Str×V)}{j:List (Str×DV)}(W:aM K ρ B hp H)(i:ρ[n]?=some a)(o:aX K c C)(e:H a=some (.ins C m xs))(r:bW K ρ B H j d):Gr K ρ B H ρ B (upd H a (.ins C m d))/\aM K ρ B (hp.set n (.ins c j)) (upd H a (.ins C m d)):=by have g:Gr K ρ B H ρ B (upd H a (.ins C m d)):=Gr.dw i e;exact⟨g,W.dw (o':=.ins C m d) (v:=.ins c j) i e ((r.gs (g.gs W.rb)).fU o QU)⟩
end
def dU{α:Type}(c:Str)(x:DV)(k:Nat->List (Str×DV)->M α):M α:=match x with
  |.ref n=>do
    match <- ZE n with
    |.ins a fs=>do Qy (decide (a=c));k n fs
    |_=>failure
  |_=>failure
theorem YX{α:Type}{c:Str}{x:DV}{d:α}{k:Nat->List (Str×DV)->M α}{hp a:Hs}(h:dU c x k hp=some (d,a)):∃n fs,x=.ref n/\hp[n]?=some (.ins c fs)/\k n fs hp=some (d,a):=by
  cases x with
  |ref n =>
    obtain⟨o,hp1,j,e⟩:=Qg (show(ZE n >>= λo=>(match o with|.ins i fs=>do Qy (decide (i=c));k n fs|_=>failure:M α)) hp=some (d,a)from h);obtain⟨m,rfl⟩:=Zt j;cases o with
    |ins i fs=>obtain⟨_,v,q,r⟩:=Qg e;obtain⟨u,rfl⟩:=Qz q;obtain rfl:=Ci u;exact⟨n,fs,rfl,m,r⟩
    |lst _=>cases e
    |aH _=>cases e
  |non=>cases h
  |bl _=>cases h
  |int _=>cases h
  |str _=>cases h
  |tup _=>cases h
  |lst _=>cases h
def yd(c f:Str)(x:DV):M DV:=dU c x λ_ fs=>jE (fs.lookup f)
def ym(c f:Str)(x d:DV):M Unit:=dU c x λn fs=>do Qy (decide (fs.length<1000));VS n (.ins c (Ju f d fs))
def QT(c f:Str)(g:aD):aD:=λenv=>do let x <- g env;yd c f x
def Q9(c f:Str)(a d:aD):aB:=λenv=>do let y <- d env;let x <- a env;ym c f x y;pure (.nx,env)
def Yy(c f:Str)(e:DV->DV->M DV)(a d:aD):aB:=λenv=>do let x <- a env;let v <- yd c f x;let y <- d env;let z <- e v y;ym c f x z;pure (.nx,env)
def qC:DV->DV->M DV
 |.int i,.int j=>pure (.int (i+j))
 |_,_=>failure
def QM(c m:Str)(n:Nat)(F:Cs)(a:aD)(fa:aW):aD:=λenv=>do
 let x <- a env
 dU c x λ_ fs=>Qy (fs.lookup m).isNone
 let ds <- fa env
 Qy (decide (ds.length+1=n))
 F (x::ds)
def Js(c:Str)(n:Nat)(F:Cs)(fa:aW):aD:=λenv=>do
 let ds <- fa env
 Qy (decide (ds.length+1=n))
 let x <- JZ (.ins c [])
 let r <- F (x::ds)
 match r with
 |.non=>pure x
 |_=>failure
section
variable{X:Cx}{o e value:Expr}{c f m:Str}{pos pos' tpos apos:Pos}{fo fv:aD}
theorem Rv{K:Ae}{ρ:Cr}{B:Cq}{H:Hp}{hp j:Hs}{x d:DV}{v:V}(W:aM K ρ B hp H)(r:au K ρ B H x v)(h:yd c f x hp=some (d,j)):hp=j/\∃a C q xs u,v=.ref a/\aX K c C/\H a=some (.ins C q xs)/\xs.lookup f=some u/\au K ρ B H d u:=by
 obtain⟨n,fs,rfl,E,F⟩:=YX h;obtain⟨y,rfl⟩:=VF F;obtain⟨a,rfl,i,J⟩:=au.aV W r E;obtain⟨C,q,xs,G,e,I⟩:=J.ins;rcases I.look f with ⟨z,_⟩|⟨d',u,z,O,L⟩
 ·rw[y]at z;cases z
 ·rw[y]at z;cases z;exact⟨rfl,a,C,q,xs,u,rfl,G,e,O,L⟩
theorem RJ{K:Ae}{ρ:Cr}{B:Cq}{H:Hp}{hp q:Hs}{x d:DV}{v y:V}{z:Unit}(W:aM K ρ B hp H)(r:au K ρ B H x v)(rd:au K ρ B H d y)(h:ym c f x d hp=some (z,q)):∃a C j xs,v=.ref a/\aX K c C/\H a=some (.ins C j xs)/\xs.length<1000/\Gr K ρ B H ρ B (upd H a (.ins C j (qJ f y xs)))/\aM K ρ B q (upd H a (.ins C j (qJ f y xs))):=by obtain⟨n,fs,rfl,G,I⟩:=YX h;obtain⟨_,hp1,J,L⟩:=Qg I;obtain⟨O,rfl⟩:=Qz J;cases L;obtain⟨a,rfl,i,P⟩:=au.aV W r G;obtain⟨C,j,xs,u,e,E⟩:=P.ins;obtain⟨g,F⟩:=Qgr W i u e (E.put f rd);exact⟨a,C,j,xs,rfl,u,e,by rw[<- E.len];exact Ci O,g,F⟩
theorem QG(E:X5 X.K c f)(G:DE X o fo)(z:attributeBase o f X.env (eval o X.env)=eval o X.env:=by rfl):DE X (.Attribute o f pos) (QT c f fo) :=
 L2.PE.imp (SE G z) λσ H Q i=>by obtain⟨Z,env,ρ,B,hp,d,I,S,e,k⟩:=i;obtain⟨x,hp1,n,q⟩:=Qg e;refine tD.run S n λv ρ1 B1 H1 g1 S1 L=>?_;obtain⟨rfl,a,C,j,xs,u,rfl,J,y,F,O⟩:=Rv S1.wo L q;obtain⟨P,r,cl,na⟩:=E.ex;obtain rfl:=J.uniq r;exact⟨a,C,j,xs,u,rfl,y,cl,na,F,k u ρ1 B1 H1 g1 S1.wo O⟩
theorem Zk(I:X5 X.K c f)(L:DE X o fo)(R:DE X value fv)(hs:swapsWith value (some (.Attribute o f pos')) pos.line X.env=pure false:=by rfl):DS X (.Assign [.Attribute o f pos'] value pos) (Q9 c f fo fv) :=
 L2.PS.imp (Qj5 L R hs) λD σ H i=>by obtain⟨Z,env,ρ,B,hp,fl,d,O,S,e,k⟩:=i;obtain⟨y,hp1,n,e⟩:=Qg e;obtain⟨x,P,r,e⟩:=Qg e;obtain⟨z,Q,E,e⟩:=Qg e;obtain⟨q,rfl⟩:=Qm e;cases q;refine tD.run S n λu ρ1 B1 H1 g1 S1 U=>tD.run S1 r λv ρ2 B2 H2 g2 S2 Y=>?_;obtain⟨a,C,j,xs,rfl,T,G,J,g,W⟩:=RJ S2.wo Y (au.grow S1.wo.rb g2 _ _ U) E;obtain⟨C',F,cl,na⟩:=I.ex;obtain rfl:=T.uniq F;exact⟨a,C,j,xs,rfl,G,cl,na,J,k σ ρ2 B2 _ ((g1.trans (g2.trans g)).gs S.wo.rb) (S2.grow g W)⟩
theorem jS(Y:X5 X.K c f)(ho:DE X o fo)(hv:DE X value fv):DS X (.AugAssign (.Attribute o f tpos) .Add value pos) (Yy c f qC fo fv) :=
 L2.PS.imp (QdO ho hv Sk) λD σ H J=>by
  obtain⟨Z,env,ρ,B,hp,fl,F,a6,S,e,k⟩:=J;obtain⟨x,hp1,O,e⟩:=Qg e;obtain⟨v,a7,P,e⟩:=Qg e;obtain⟨y,a8,Q,e⟩:=Qg e;obtain⟨z,cN,d,e⟩:=Qg e;obtain⟨_,iu,R,e⟩:=Qg e;obtain⟨q,rfl⟩:=Qm e;cases q;refine tD.run S O λvx ρ1 B1 H1 g1 S1 I=>?_;obtain⟨rfl,a,C,L,xs,u,rfl,G,U,hl,ru⟩:=Rv S1.wo I P;obtain⟨C',T,cl,na⟩:=Y.ex;obtain rfl:=G.uniq T;refine⟨a,C,L,xs,u,rfl,U,cl,na,hl,tD.run S1 Q λw ρ2 B2 H2 g2 S2 r2=>?_⟩;have wg:=au.grow S1.wo.rb g2 _ _ ru;have r:=au.grow S1.wo.rb g2 _ _ I;unfold qC at d;split at d
  ·obtain⟨rfl,rfl⟩:=Qm d;refine⟨_,_,wg.aN,r2.aN,?_⟩;obtain⟨a',C2,i,E,q1,wJ,j,n,g,W⟩:=RJ S2.wo r Z6 R;cases q1;obtain rfl:=wJ.uniq G;exact⟨i,E,j,n,k σ ρ2 B2 _ ((g1.trans (g2.trans g)).gs S.wo.rb) (S2.grow g W)⟩
  ·cases d
theorem Qfk{C:Addr}{n:Nat}{F:Cs}{fa:aW}{σ:St}{H:Hp}{Q:VK}(Y:aX X.K c C)(h:tD X.K (QM c m n F fo fa) σ H Q):tO C m (f9 X.K n F) [] E0 (tD X.K fo) (cY X.K fa) σ H Q:=by
 obtain⟨Z,env,ρ,B,hp,d,j,S,e,k⟩:=h;obtain⟨x,hp1,G,e⟩:=Qg e;obtain⟨_,U,I,e⟩:=Qg e;obtain⟨ds,q,J,e⟩:=Qg e;obtain⟨_,cN,L,R⟩:=Qg e;obtain⟨T,rfl⟩:=Qz L;refine tD.run S G λv ρ1 B1 H1 g1 S1 r=>?_;obtain⟨i,fs,rfl,w1,w2⟩:=YX I;obtain⟨hn,rfl⟩:=Qz w2;obtain⟨a,rfl,_,ro⟩:=au.aV S1.wo r w1;obtain⟨C',E,xs,O,P,rf⟩:=ro.ins;obtain rfl:=O.uniq Y;have hx:xs.lookup m=none:=by
  rcases rf.look m with ⟨_,z⟩|⟨_,_,z,_,_⟩
  ·exact z
  ·rw[z]at hn;cases hn
 refine⟨a,E,xs,rfl,P,hx,cY.run S1 J λvs ρ2 y H2 g2 S2 u=>?_⟩;refine⟨?_,ρ2,y,q,_,d,j,S2.wo,?_,R,k.after (g1.trans g2)⟩
 ·rw[Bo,Be,<- u.length];exact Ci T
 ·rw[Bo];exact ak.cons (au.grow S1.wo.rb g2 _ _ r) u
theorem Zb{k j n:Nat}{F:Cs}{es:List Expr}{fa:aW}{pl:Sem Bool}(h:Xd X.prog X.w X.K X.mg X.O8 c m j n F)(u:Room k X.A)(i:j<=k)(hx:Xs CX0 X E0)(r:DE X o fo)(ha:DA X (e::es) fa)
  (hst:starEach (e::es) X.env=(false,eval e X.env)::starEach es X.env:=by rfl) (hpl:(backTo pos (starEach es X.env)).any (·.1)=false:=by rfl)
  (ht:eval (.Call (.Attribute o m apos) (e::es) [] pos) X.env=(do
   let ov <- eval o X.env
   standAt apos.atName
   let (f,first) <- holding [ov] (getMethod ov m pl)
   callWith pos f first (backTo pos (starEach (e::es) X.env)) (backToKw pos (keywordEach [] X.env))):=by rfl):DE X (.Call (.Attribute o m apos) (e::es) [] pos) (QM c m n F fo fa):=by
 obtain⟨C,g,fd,ps,v,cl,hm,a,d⟩:=h.ex;exact L2.PE.imp (Pj (pl:=pl) r cl hm a (u.mono i) d .nil hx ha hst hpl ht) λσ H Q q=>Qfk v q
theorem Zy{k j n:Nat}{F:Cs}{pl:Sem Bool}(h:Xd X.prog X.w X.K X.mg X.O8 c m j n F)(hr:Room k X.A)(Y:j<=k)(hx:Xs CX0 X E0)(ho:DE X o fo)
  (ht:eval (.Call (.Attribute o m apos) [] [] pos) X.env=(do
   let ov <- eval o X.env
   standAt apos.atName
   let (f,first) <- holding [ov] (getMethod ov m pl)
   callWith pos f first (backTo pos (starEach [] X.env)) (backToKw pos (keywordEach [] X.env))):=by rfl):DE X (.Call (.Attribute o m apos) [] [] pos) (QM c m n F fo Qk):=by
 obtain⟨C,g,fd,ps,nc,cl,hm,E,U⟩:=h.ex;refine L2.PE.imp (Ro (pl:=pl) ho cl hm E (hr.mono Y) U .nil hx ht) λσ H Q q=>?_;obtain⟨Z,env,ρ,B,hp,d,r,S,e,k⟩:=q;obtain⟨x,hp1,I,e⟩:=Qg e;obtain⟨_,a6,J,e⟩:=Qg e;obtain⟨ds,a7,L,e⟩:=Qg e;obtain⟨_,cN,O,T⟩:=Qg e;obtain⟨hl,rfl⟩:=Qz O;obtain⟨rfl,rfl⟩:=Qm L;refine tD.run S I λv ρ1 y H1 g1 S1 u=>?_;obtain⟨i,fs,rfl,w1,w2⟩:=YX J;obtain⟨hn,rfl⟩:=Qz w2;obtain⟨a,rfl,_,ro⟩:=au.aV S1.wo u w1;obtain⟨C',G,xs,P,R,rf⟩:=ro.ins;obtain rfl:=P.uniq nc;have hx:xs.lookup m=none:=by
  rcases rf.look m with ⟨_,z⟩|⟨_,_,z,_,_⟩
  ·exact z
  ·rw[z]at hn;cases hn
 exact⟨a,G,xs,rfl,R,hx,Ci hl,ρ1,y,hp1,_,d,r,S1.wo,ak.cons u ak.nil,T,k.after g1⟩
theorem QdV{k:Nat}{C g:Addr}{fd:FuncData}{ps:List Str}{sp:Sp}{d:Cn}{σ:St}{H:Hp}{s:Shared}{Q:VK}{us:List Value}{vs:List V}(M:Mk X.K C g)(F:Y4 X.prog X.w X.K X.mg X.O8 CX0 k g fd ps sp)(O:Room (k+1) X.A)(L:Binds X.K fd ps [])
    (hx:Xs CX0 X E0) (I:Inv X d σ H s) (r:Vals vs us)
    (h:∀x a,H x=none->H a=none->a≠x->X.K.lookup x=none->sp (.ref x::vs) (upd (upd H a (.own x)) x (.ins C a [])) (λv H2=>v=.non/\Q (.ref x) H2) E0) :
    wpAny (model X.prog X.w) X.A (call (.ref C) us) (EP X d σ Q) X.xe s:=by
  have kf:X.K.lookup (s.heap.objs.size+1)=none:=by
    cases q:X.K.lookup (s.heap.objs.size+1)with
    |none=>rfl
    |some o=>exact absurd (Ar (I.kIn _ _ q)) (Nat.not_lt.mpr (Nat.le_succ _))
  have j:=h _ _ (I.hok.fresh (Nat.le_succ _)) (I.hok.fresh (Ai _)) (Bi (Ca _)) kf;have J:=Inv.made (C:=C) I;have n:Vals (V.ref (s.heap.objs.size+1)::vs) (Value.ref (s.heap.objs.size+1)::us):=.cons rfl r;have P:((Value.ref (s.heap.objs.size+1)::us)++[]).length=ps.length:=by rw[Bo,<- n.length];exact F.len _ _ _ _ j
  have i:=L _ (Value.ref (s.heap.objs.size+1)::us) J.kIn P;rw[Bo]at i;refine wpAny_call (Qfi (f:=g) I.kIn M.makes M.init (beq_iff_eq.mp M.fn) (codeAny_mono (F.run _ X.stack _ _ ⟨Value.ref (s.heap.objs.size+1)::us,[]⟩ _ _ _ E0 (O.make C us []) (J.env0.make C us []) i n j) λq s' z=>?_));cases q with
  |error e=>exact hx d σ _ _ e s' J z
  |ok fl =>
    cases fl with
    |ret u=>obtain⟨v,y,E,S,G,R⟩:=J.after z;subst G;exact⟨S,⟨V.ref (s.heap.objs.size+1),y,E,rfl,R⟩⟩
    |next=>exact z.elim
    |brk=>exact z.elim
    |cont=>exact z.elim
theorem Qfh{C:Addr}{n:Nat}{F:Cs}{vs:List V}{K:Ae}{ρ:Cr}{B:Cq}{hp i:Hs}{H:Hp}{ds:List DV}{d:DV}{Q:VK}(P:aX K c C)(L:ds.length+1=n)(W:aM K ρ B hp H)(r:ak K ρ B H ds vs)
  (e:(do let x <- JZ (.ins c []);let r <- F (x::ds);match r with|.non=>pure x|_=>failure:M DV) hp=some (d,i)) (k:fu K ρ B H d i Q) :
  ∀x a,H x=none->H a=none->a≠x->K.lookup x=none->f9 K n F (.ref x::vs) (upd (upd H a (.own x)) x (.ins C a [])) (λv H2=>v=.non/\Q (.ref x) H2) E0:=by
 intro x a hx q ne kf;have z:F (.ref hp.length::ds) (hp++[.ins c []])=some (.non,i)/\d=.ref hp.length:=by
  obtain⟨y,hp1,G,I⟩:=Qg e;cases G;obtain⟨y,O,J,j⟩:=Qg I;cases y with
  |non=>obtain⟨rfl,rfl⟩:=Qm j;exact⟨J,rfl⟩
  |bl _=>cases j
  |int _=>cases j
  |str _=>cases j
  |tup _=>cases j
  |lst _=>cases j
  |ref _=>cases j
 obtain⟨z,rfl⟩:=z;have u:upd H a (.own x) x=none:=by rw[QS (Ne.symm ne)];exact hx
 have g0:Gr K ρ B H ρ B (upd H a (.own x)):=Gr.laid q;have g1:Gr K ρ B (upd H a (.own x)) (ρ++[x]) (zt B x) (upd (upd H a (.own x)) x (.ins C a [])):=Gr.cI u kf;have W1:aM K (ρ++[x]) (zt B x) (hp++[.ins c []]) (upd (upd H a (.own x)) x (.ins C a [])):=(W.laid q).cI u kf (bW.fU P .nil QU);have E:au K (ρ++[x]) (zt B x) (upd (upd H a (.own x)) x (.ins C a [])) (.ref hp.length) (.ref x):=by unfold au;exact⟨x,rfl,by rw[<- W.len];simp⟩
 refine⟨?_,ρ++[x],zt B x,hp++[.ins c []],.ref hp.length::ds,.non,i,W1,ak.cons E (ak.grow W.rb (g0.trans g1) _ _ r),z,λv ρ' B' H' g' W' R=>?_⟩
 ·rw[Be,<- r.length];exact L
 ·exact⟨R.dZ,k _ ρ' B' H' ((g0.trans g1).trans g') W' (au.grow W1.rb g' _ _ E)⟩
theorem yE{k j n:Nat}{F:Cs}{es:List Expr}{fa:aW}{p:Pos}(h:mZ X.prog X.w X.K X.mg X.O8 c j n F)(R:Room k X.A)(J:j+1<=k)(hx:Xs CX0 X E0)(ha:DA X (e::es) fa)(G:Gl X c:=by rfl)
  (hdb:(c==("__debug__" : Str))=false:=by decide) (he:starEach (e::es) X.env=(false,eval e X.env)::starEach es X.env:=by rfl) (hpl:(backTo pos (starEach es X.env)).any (·.1)=false:=by rfl):DE X (.Call (.Name c p) (e::es) [] pos) (Js c n F fa):=by
 obtain⟨C,g,fd,ps,T,hm,M,a,E⟩:=h.ex;intro u s σ H Q I q;obtain⟨Z,env,ρ,B,hp,d,O,S,e,k⟩:=q;obtain⟨ds,hp1,v,x⟩:=Qg e;obtain⟨_,P,y,z⟩:=Qg x;obtain⟨L,rfl⟩:=Qz y;refine wpAny_Call_Name_kw (zE I G hm ?_ hdb);refine PySem.W.callWith_K (h₀:=X.O8) I.ok.mod.kin M.kp (thn (ha pos u s σ H _ I (cY.run S v λvs ρ1 B1 i g1 S1 U=>Qfh (Q:=Q) T (Ci L) S1.wo U z (k.after g1))) λus Y ⟨vs,i,I1,r,q⟩=>⟨I1.kIn,?_⟩) he hpl;exact QdV M a (R.mono J) E hx I1 r q
end
theorem M4{P:Program}{w:World}{K:Ae}{mg:Co}{O8:Heap}{x a:Str}{c:Stmt}{g:Addr}{fd:FuncData}{N ps:List Str}{k:Nat}{j:aB}(F:Fun K x a c g fd)(o:Qu N ps (Qp c))
  (h:∀(i:Value)(A:Around)(outer:List Env)(s:Shared)(H:Hp)(E:XK),Room k (A.deeper (envOfC a (Qp c) s.heap.objs.size g i))->fL (qF CX0 P w K mg O8 N a (Qp c) g i A outer s H E).nox (ZM c) j) :
  Y4 P w K mg O8 CX0 (k+1) g fd ps (f9 K ps.length (Q3 N.length j)):=by
 refine F.ok o (λvs H Q E h=>h.1) (λi A outer s H vs Q E y sp=>?_);obtain⟨hn,ρ,B,hp,ds,d,u,W,r,e,k⟩:=sp;obtain⟨⟨fl,m⟩,hp1,q,n⟩:=Qg e;refine⟨_,h i A outer s H E y,⟨ρ,B,H⟩,_,ρ,B,hp,fl,m,hp1,xa W r,q,λσ' ρ' B' H' g' S'=>?_⟩;cases fl with
 |nx=>obtain⟨rfl,rfl⟩:=Qm n;exact k .non ρ' B' H' S'.gr S'.wo j9
 |rt x=>obtain⟨rfl,rfl⟩:=Qm n;exact λv z=>k v ρ' B' H' S'.gr S'.wo z
 |bk=>cases n
 |ct=>cases n
theorem Qfj{P:Program}{w:World}{K:Ae}{mg:Co}{O8:Heap}{c m d:Str}{a:Stmt}{C g:Addr}{fd:FuncData}{N ps:List Str}{k:Nat}{i:aB}(r:aX K c C)(cl:Cls K C)(q:uH K C m g)(F:Fun K m d a g fd)(n:Qu N ps (Qp a))
  (hb:∀(kV j u:Value)(o:Option Addr)(e ct:Value)(us:List Value),us.length=ps.length->bindArgs (PySem.W.fnOf m d (J5 a) (ZM a) (Qp a) .none kV j u o e ct) ⟨us,[]⟩=pure (ps.zip us))
  (h:∀(e:Value)(A:Around)(outer:List Env)(s:Shared)(H:Hp)(E:XK),Room k (A.deeper (envOfC d (Qp a) s.heap.objs.size g e))->fL (qF CX0 P w K mg O8 N d (Qp a) g e A outer s H E).nox (ZM a) i) :
  Xd P w K mg O8 c m (k+1) ps.length (Q3 N.length i):=⟨C,g,fd,ps,r,cl,q,M4 F n h,F.binds hb⟩
theorem Qe3{P:Program}{w:World}{K:Ae}{mg:Co}{O8:Heap}{c d:Str}{a:Stmt}{C g:Addr}{fd:FuncData}{N ps:List Str}{k:Nat}{i:aB}(q:aX K c C)(hm:mg c=some (.ref C))(o:Mk K C g)(F:Fun K "__init__" d a g fd)(m:Qu N ps (Qp a))
  (hb:∀(kV j r:Value) (n:Option Addr) (e ct:Value) (us:List Value),us.length=ps.length->bindArgs (PySem.W.fnOf "__init__" d (J5 a) (ZM a) (Qp a) .none kV j r n e ct) ⟨us,[]⟩=pure (ps.zip us))
  (h:∀(e:Value)(A:Around)(outer:List Env)(s:Shared)(H:Hp)(E:XK),Room k (A.deeper (envOfC d (Qp a) s.heap.objs.size g e))->fL (qF CX0 P w K mg O8 N d (Qp a) g e A outer s H E).nox (ZM a) i) :
  mZ P w K mg O8 c (k+1) ps.length (Q3 N.length i):=⟨C,g,fd,ps,q,hm,o,M4 F m h,F.binds hb⟩
section
variable{X:Cx}
def Xj:aB:=λ_=>failure
theorem Z0{st:Stmt}:DS X st Xj:=L2.PS.imp QfJ λD σ H ⟨Z,env,ρ,B,hp,fl,env',hp',S,e,k⟩=>by cases e
def UH(i:Nat)(c:DV->DV->M DV)(a:aD):aB:=λenv=>do let v <- Qb i env;let y <- a env;let z <- c v y;pure (.nx,env.set i (.val z))
theorem QgC{i:Nat}{r:DV->DV->M DV}{g:Int->Int->Int}{o:aD}{D:U2}{σ:St}{H:Hp}(E:∀v y z hp j,r v y hp=some (z,j)->∃a b,v=.int a/\y=.int b/\z=.int (g a b)/\hp=j)(h:iW X.K (UH i r o) D σ H):Hy i (tD X.K o) (ipI g) D σ H:=by
  obtain⟨Z,env,ρ,B,hp,fl,n,j,S,e,k⟩:=h;obtain⟨v,hp1,c,e⟩:=Qg e;obtain⟨y,F,u,e⟩:=Qg e;obtain⟨z,G,C,e⟩:=Qg e;obtain⟨q,rfl⟩:=Qm e;cases q;obtain⟨a,b,rfl,rfl,rfl,rfl⟩:=E _ _ _ _ _ C;have m:env[i]?=some (.val (.int a))/\hp=hp1:=by
    unfold Qb at c;cases q:env[i]? with
    |none=>rw[q]at c;cases c
    |some L =>
      rw[q]at c;cases L with
      |val d=>obtain⟨h1,h2⟩:=Qm c;exact⟨by rw[h1],h2⟩
      |un=>cases c
      |acc _=>cases c
  obtain⟨m,rfl⟩:=m;obtain⟨x,hx,J⟩:=S.slot i _ m;refine⟨x,hx,tD.run S u λw ρ1 B1 H1 g1 S1 I=>⟨a,b,J.aN,I.aN,k _ ρ1 B1 H1 (g1.gs S.wo.rb) (S1.set Z6)⟩⟩
theorem Qdc{v y z:DV}{hp c:Hs}(h:qC v y hp=some (z,c)):∃a b,v=.int a/\y=.int b/\z=.int (a+b)/\hp=c:=by
 unfold qC at h;split at h
 ·obtain⟨rfl,rfl⟩:=Qm h;exact⟨_,_,rfl,rfl,rfl,rfl⟩
 ·cases h
theorem Qdo(i:Nat){x:Str}{e:Expr}{d:aD}{c a:Pos}(j:X.N.Nodup)(m:DE X e d)(hi:X.N[i]?=some x:=by rfl)(hx:Loc X.env.scope x:=by first|exact Or.inl rfl|exact Or.inr rfl)(hf:X.fn x=true∨X.env.scope.names.lookup x=some .local:=by first|exact .inl rfl|exact .inr rfl|assumption):DS X (.AugAssign (.Name x a) .Add e c) (UH i qC d) :=
 L2.PS.imp (Qj4 j hi hx m Sj hf) λD σ H q=>QgC (λ_ _ _ _ _ h=>Qdc h) q
end
theorem XT{α β:Type}(m:M α)(k:α->M β)(hp:Hs):(m >>= k) hp=(m hp).bind λp=>k p.1 p.2:=by
 show(StateT.bind m k hp)=_;unfold StateT.bind;cases m hp with
 |none=>rfl
 |some p=>obtain⟨a,h⟩:=p;rfl
theorem YD{α β:Type}(f:α->β)(m:M α)(hp:Hs):(f <$> m) hp=(m hp).map λp=>(f p.1,p.2):=by
 show(StateT.map f m hp)=_;unfold StateT.map;cases m hp with
 |none=>rfl
 |some p=>obtain⟨a,h⟩:=p;rfl
def XV{α:Type}(a:α)(hp:Hs):(pure a:M α) hp=some (a,hp):=rfl
def XU{α:Type}(hp:Hs):(failure:M α) hp=none:=rfl
theorem J6(b:Bool)(hp:Hs):Qy b hp=if b=true then some ((),hp)else none:=by cases b<;>rfl
theorem YC(n:Nat)(hp:Hs):ZE n hp=(hp[n]?).map λo=>(o,hp):=by unfold ZE;cases hp[n]?<;>rfl
def YF(n:Nat)(o:OV)(hp:Hs):VS n o hp=some ((),hp.set n o):=rfl
def YE(o:OV)(hp:Hs):JZ o hp=some (.ref hp.length,hp++[o]):=rfl
theorem ZO(hp:Hs)(k:Nat)(X:OV)(h:(hp[k]?).isSome=true):(hp.set k X)[k]?=some X:=by
 have:k<hp.length:=by
  rcases Nat.lt_or_ge k hp.length with q|q
  ·exact q
  ·rw[List.getElem?_eq_none q]at h;cases h
 rw[Av this]
def Q6(hp:Hs)(k n:Nat)(X:OV)(h:k≠n):(hp.set k X)[n]?=hp[n]?:=Ao h
theorem Jz(hp:Hs)(X:OV):(hp++[X])[hp.length]?=some X:=by simp
mutual
def bB(K:Ae):DV->V->Prop
 |.non,v=>v=.non
 |.bl b,v=>v=.bl b
 |.int i,v=>v=.int i
 |.str x,v=>v=.str x
 |.tup ds,v=>∃(a:Addr) (o:Obj) (c:Array Value) (n:Nat) (xs:List V),v=.ref a/\K.lookup a=some o/\o.cls=.type "tuple" /\ o.data=.seq c n/\c.size<=sizeLine/\Vals xs c.toList/\bL K ds xs
 |_,_=>False
def bL(K:Ae):List DV->List V->Prop
 | [],xs=>xs=[]
 |d::ds,xs=>∃x r,xs=x::r/\bB K d x/\bL K ds r
end
mutual
theorem bB.rep{K:Ae}{ρ:Cr}{B:Cq}{H:Hp}(e:∀a,B a->K.lookup a=none):∀(d:DV)(v:V),bB K d v->au K ρ B H d v
  |.non,_,h=>by unfold bB at h;unfold au;exact h
  |.bl _,_,h=>by unfold bB at h;unfold au;exact h
  |.int _,_,h=>by unfold bB at h;unfold au;exact h
  |.str _,_,h=>by unfold bB at h;unfold au;exact h
  |.lst _,_,h=>by unfold bB at h;exact h.elim
  |.ref _,_,h=>by unfold bB at h;exact h.elim
  |.tup ds,_,h=>by unfold bB at h;unfold au;obtain⟨a,o,c,n,xs,rfl,h1,h2,h3,h4,h5,i⟩:=h;exact⟨a,xs,rfl,λz=>(by rw[e a z]at h1;cases h1),.inr ⟨o,c,n,h1,h2,h3,h4,h5⟩,bL.rep e ds xs i⟩
theorem bL.rep{K:Ae}{ρ:Cr}{B:Cq}{H:Hp}(c:∀a,B a->K.lookup a=none):∀(ds:List DV)(xs:List V),bL K ds xs->ak K ρ B H ds xs
  | [],_,h=>by unfold bL at h;unfold ak;exact h
  |d::ds,_,h=>by unfold bL at h;unfold ak;obtain⟨x,r,e,h1,h2⟩:=h;exact⟨x,r,e,bB.rep c d x h1,bL.rep c ds r h2⟩
end
theorem Du{K:Ae}{ds:List DV}{a:Addr}{od:Option Addr}{c:Array Value}{n:Nat}{i:Array (Option Value)}{xs:List V}(h:K.lookup a=some ⟨.type "tuple", od,.seq c n,i⟩)(hs:c.size<=sizeLine)(e:Vals xs c.toList)(d:bL K ds xs):bB K (.tup ds) (.ref a):=by unfold bB;exact⟨a,_,c,n,xs,rfl,h,rfl,rfl,hs,e,d⟩
theorem Ni{K:Ae}:bB K .non .non:=by unfold bB;rfl
theorem RH{K:Ae}{i:Int}:bB K (.int i) (.int i):=by unfold bB;rfl
theorem gz{K:Ae}:bL K [] []:=by unfold bL;rfl
theorem jy{K:Ae}{d:DV}{ds:List DV}{x:V}{r:List V}(h:bB K d x)(h':bL K ds r):bL K (d::ds) (x::r):=by unfold bL;exact⟨x,r,rfl,h,h'⟩
theorem QgP{X:Cx}{x:Str}{ds:List DV}{a:Addr}{c:Pos}(i:Gl X x)(hm:X.mg x=some (.ref a))(j:bB X.K (.tup ds) (.ref a))(hd:(x==("__debug__" : Str))=false:=by decide):DE X (.Name x c) (eC (.tup ds)) :=
 (gL (v:=.ref a) i hm rfl hd).imp λσ H Q d=>by obtain⟨Z,env,ρ,B,hp,d',m,S,e,k⟩:=d;obtain⟨rfl,rfl⟩:=Qm e;exact k _ ρ B H Gr.refl S.wo (bB.rep S.wo.bk _ _ j)
theorem MP(hp:Hs)(x:OV)(t:Hs):(hp++x::t)[hp.length]?=some x:=by simp
theorem Mu(hp:Hs)(x y:OV)(t:Hs):(hp++x::t).set hp.length y=hp++y::t:=by rw[List.set_append_right _ _ (Ai _)];simp
theorem Qd5{n:Nat}(h:n<=1000000):zL (n:Int)=true:=Qgc ⋯ ⋯
theorem Nz{n i:Nat}(h:i<n):ixN n (i:Int)=some i:=by unfold ixN;rw[Cf ⋯,Cf ⋯];simp
theorem QhP{m:Nat}(h:m<=1000000)(hp:Hs):nW [.int (m:Int)] hp=some (Xv 0 m,hp):=by
 have e:nW [.int (m:Int)]=pure (Xv 0 (m:Int).toNat):=by simp only[nW,Qd5 h,Qy,if_true,Ck]
 rw[e,Bs];rfl
theorem gu{f:aW}{env:En}{hp hp1:Hs}{m:Nat}(h:f env hp=some ([.int (m:Int)],hp1))(hm:m<=1000000):vh f env hp=some (Xv 0 m,hp1):=by unfold vh;rw[Ql h];exact QhP hm hp1
section
variable{X:Cx}
def XQ(x:DV):List DV->M DV
 | [y]=>fD x λn ds=>fD y λ_ es=>do Qy (decide (ds.length+es.length<=lim));VS n (.lst (ds++es));pure .non
 |_=>failure
theorem jB:MtR X "list.extend" (lE X.K XQ):=by
 intro q s σ H x vs v us Q I rx rv h;obtain⟨ρ,B,hp,O,es,d,F,W,J,L,e,k⟩:=h;unfold XQ at e;split at e
 ·rename_i y;obtain⟨n,ds,rfl,C,e⟩:=KY e;obtain⟨m,R,rfl,c,e⟩:=KY e;obtain⟨_,hp1,u,z⟩:=Qg e;obtain⟨E,rfl⟩:=Qz u;cases z;obtain⟨a,rfl,G,xs,h1,j⟩:=au.aV W J C;obtain⟨w,rfl,i⟩:=L.bA;obtain⟨b,rfl,P,ys,h2,o⟩:=au.aV W i c;obtain⟨g,r⟩:=GM W G h1 (ak.append j o);exact QdE q s σ H _ _ v us Q I rx rv ⟨a,b,xs,ys,rfl,rfl,h1,h2,by rw[<- j.length,<- o.length];exact Bj (Ci E) KN,k _ ρ B _ g r j9⟩
 ·cases e
end
end D
namespace L2
open PySem PySem.Spec PyProof.Rows
abbrev Yq(h:Heap)(z p o:Addr)(f:Value)(b:Bool):Prop:=h.get? z=some { cls:=Value.type "zip", data:=Data.fields #[f,Value.bool b,Value.bool false,Value.ref p,Value.ref o] }
structure ZU(h:Heap)(z p o i j a b:Addr)(n:Nat):Prop where
 zz:∃f fl,Yq h z p o f fl/\(f=.none∨∃T:Nat,f=rawInt T)
 pp:IsPair h p (.ref i) (.ref j)
 oo:∃x y,IsPair h o x y
 ii:h.IsTupleIter i a n
 jj:h.IsTupleIter j b n
section
variable{prog:Program}{w:World}{A:Around}{E:Cm}{s:Shared}
theorem QaV{a:Addr}{Q:Option Obj->Shared->Prop}(h:Q (s.heap.get? a) s):wpAny (model prog w) A (loadIfAlive a) Q E s:=by intro Γ p hΓ;unfold loadIfAlive;rw[Sem.wp_loadIfAlive];exact Cg (M:=model prog w) (A:=A) (E:=E) h Γ p hΓ
theorem Pr{z p o:Addr}{f:Value}{fl:Bool}{Q:Bool->Shared->Prop}(zz:Yq s.heap z p o f fl)(hf:f=.none∨∃T:Nat,f=rawInt T)(a:Q true s)(c:∀g,Yq g z p o f true->Heap.ExtBut z s.heap g->g.objs.size=s.heap.objs.size->Q false { s with heap:=g }) :
    wpAny (model prog w) A (Builtin.SmallTypes.ownedTupleIsFree (.ref z)) Q E s:=by
  unfold Builtin.SmallTypes.ownedTupleIsFree;rcases hf with rfl|⟨T,rfl⟩
  . exact Cd (wpAny_field zz rfl (x:=.none) rfl (Cg a))
  . refine Cd (wpAny_field zz rfl (x:=rawInt T) rfl ?_)
    show wpAny _ _ (loadIfAlive (T:Int).toNat >>= _) _ _ _;refine Cd (QaV ?_);cases d:s.heap.get? (T:Int).toNat with
    |none=>exact Cg a
    |some ob =>
      show wpAny _ _ (field (.ref z) 1 >>= _) _ _ _;refine Cd (wpAny_field zz rfl (x:=.bool fl) rfl ?_);cases fl with
      |true=>exact Cg (c _ zz (λ_ _ _ e=>e) rfl)
      |false=>show wpAny _ _ (setField (.ref z) 1 (.bool true) >>= _) _ _ _;exact Cd (wpAny_setField_rec zz (by simp) λg z1 k1=>Cg (c g z1 k1.extBut k1.1))
theorem Nq{z p o i j a b:Addr}{n:Nat}{xs ys:Array Value}{x y:Value}{Q:Cm}(D:ZA z p o i j a b)(S:ZU s.heap z p o i j a b n)(ha:s.heap.IsTuple a xs)(T:s.heap.IsTuple b ys)(hx:xs[n]?=some x)(U:ys[n]?=some y)
  (k:∀g,ZU g z p o i j a b (n+1)->IsPair g s.heap.objs.size x y->g.objs.size=s.heap.objs.size+1->(∀c u,c≠z->c≠o->c≠i->c≠j->s.heap.get? c=some u->g.get? c=some u)->Q (.ref s.heap.objs.size) { s with heap:=g }) :
  wpAny (model prog w) A (Builtin.«zip.__next__» ⟨[.ref z],[]⟩) (λO s'=>∃v,O=.done (.ret v)/\Q v s') E s:=by
 obtain⟨⟨f,fl,zz,hf⟩,pp,⟨u1,u2,oo⟩,ii,jj⟩:=S;have I:∀{g g':Heap}{q c:Addr}{vs:Array Value},Heap.SameBut q g g'->c≠q->g.IsTuple c vs->g'.IsTuple c vs:=λ{g g' q c vs} sb hc ⟨ob,e,r⟩=>⟨ob,sb.extBut _ _ hc e,r⟩;show wpAny _ _ (field (.ref z) 2 >>= _) _ _ _;refine Cd (wpAny_field zz rfl (x:=.bool false) rfl ?_);show wpAny _ _ (field (.ref z) 3 >>= _) _ _ _;refine Cd (wpAny_field zz rfl (x:=.ref p) rfl ?_);refine Cd (wpAny_seqItems pp rfl ?_);show wpAny _ _ (Builtin.SmallTypes.ownedTupleIsFree (.ref z) >>= _) _ _ _;refine Cd (Pr zz hf ?_ ?_)
 ·simp only[if_true];refine Cd (wpAny_rule ?_);refine Cd (wpAny_field zz rfl (x:=.ref o) rfl ?_);refine Cd (wpAny_setField_rec zz (by simp) λg1 z1 k1=>?_);replace z1:Yq g1 z p o .ellipsis fl:=z1;refine Cd ?_;simp only[List.zipIdx_cons,List.zipIdx_nil,List.forIn_cons,List.forIn_nil];refine Cd (Cd (wpAny_onRaise ?_));show wpAny _ _ (Builtin.SmallTypes.nextOf (.ref i) >>= _) _ _ _;refine Cd (xg (ii.extBut k1.extBut D.iz) (I k1 D.az ha) hx λg2 P k2=>Cg ?_);have X:IsPair g2 o u1 u2:=k2.extBut _ _ D.oi (k1.extBut _ _ D.oz oo);refine Cd (wpAny_seqItems X rfl ?_);refine Cd (wpAny_updateSeq_pair X λg3 R k3=>?_);replace R:IsPair g3 o x u2:=R;refine Cd (wpAny_letGo (Cg ?_));refine Cd (Cd (wpAny_onRaise ?_));show wpAny _ _ (Builtin.SmallTypes.nextOf (.ref j) >>= _) _ _ _;refine Cd (xg (((jj.extBut k1.extBut D.jz).extBut k2.extBut D.ij.symm).extBut k3.extBut D.oj.symm) (I k3 D.bo (I k2 D.bi (I k1 D.bz T))) U λg4 j4 k4=>Cg ?_);have Y:IsPair g4 o x u2:=k4.extBut _ _ D.oj R;refine Cd (wpAny_seqItems Y rfl ?_);refine Cd (wpAny_updateSeq_pair Y λd L k5=>?_);replace L:IsPair d o x y:=L;refine Cd (wpAny_letGo (Cg (Cg ?_)));refine Cd (wpAny_seqItems L rfl ?_);refine Cd (wpAny_newTuple ?_);have sz:d.objs.size=s.heap.objs.size:=by rw[k5.1,k4.1,k3.1,k2.1,k1.1]
  have z5:Yq d z p o .ellipsis fl:=k5.extBut _ _ D.oz.symm (k4.extBut _ _ D.jz.symm (k3.extBut _ _ D.oz.symm (k2.extBut _ _ D.iz.symm z1)));have F:∀c u,c≠z->c≠o->c≠i->c≠j->s.heap.get? c=some u->d.get? c=some u:=λc u c1 c2 m C e=>k5.extBut _ _ c2 (k4.extBut _ _ C (k3.extBut _ _ c2 (k2.extBut _ _ m (k1.extBut _ _ c1 e))));have i5:d.IsTupleIter i a (n+1):=((P.extBut k3.extBut D.oi.symm).extBut k4.extBut D.ij).extBut k5.extBut D.oi.symm;have j5:d.IsTupleIter j b (n+1):=j4.extBut k5.extBut D.oj.symm;have zl:z<d.objs.size:=Ar z5;show wpAny _ _ (Builtin.SmallTypes.ownedTupleHandOut (.ref z) (.ref d.objs.size) >>= _) _ _ _;refine Cd ?_;unfold Builtin.SmallTypes.ownedTupleHandOut;have z6:Yq (d.push { cls:=.type "tuple", data:=.seq #[x,y] }) z p o .ellipsis fl:=Ah _ z5;refine Cd (wpAny_setField_rec z6 (by simp) λg7 z7 k7=>?_);replace z7:Yq g7 z p o (rawInt d.objs.size) fl:=z7;refine wpAny_setField_rec z7 (by simp) λG z8 k8=>?_;replace z8:Yq G z p o (rawInt d.objs.size) false:=z8;have J:∀c u,c≠z->d.get? c=some u->G.get? c=some u:=λc u c1 e=>k8.extBut _ _ c1 (k7.extBut _ _ c1 (Ah _ e));have t8:IsPair G d.objs.size x y:=k8.extBut _ _ (Cc zl) (k7.extBut _ _ (Cc zl) (Aw _ rfl));have Z:G.objs.size=d.objs.size+1:=by rw[k8.1,k7.1,Bx]
  refine Cg ⟨_,rfl,?_⟩;show Q (.ref d.objs.size) _;rw[sz]at z8 t8 Z;rw[sz];exact k G ⟨⟨_,_,z8,.inr ⟨_,rfl⟩⟩,J _ _ D.pz (F _ _ D.pz D.po D.pi D.pj pp),⟨x,y,J _ _ D.oz L⟩,i5.at λu e=>J _ u D.iz e,j5.at λu e=>J _ u D.jz e⟩ t8 Z λc u c1 c2 m C e=>J c u c1 (F c u c1 c2 m C e)
 ·intro g1 z1 k1 Fe;simp only[Bool.false_eq_true,if_false];refine Cd ?_;have su:g1.IsTuple a xs:=let ⟨ob,e,r⟩:=ha;⟨ob,k1 _ _ D.az e,r⟩;have wO:g1.IsTuple b ys:=let ⟨ob,e,r⟩:=T;⟨ob,k1 _ _ D.bz e,r⟩;simp only[List.forIn_toArray,List.forIn_cons,List.forIn_nil];refine Cd (Cd (wpAny_holding ?_));show wpAny _ _ (Builtin.SmallTypes.nextOf (.ref i) >>= _) _ _ _;refine Cd (xg (s:={ s with heap:=g1 }) (ii.extBut k1 D.iz) su hx λg2 P k2=>Cg (Cg ?_));refine Cd (Cd (wpAny_holding ?_));show wpAny _ _ (Builtin.SmallTypes.nextOf (.ref j) >>= _) _ _ _;refine Cd (xg (s:={ s with heap:=g2 }) ((jj.extBut k1 D.jz).extBut k2.extBut D.ij.symm) (I k2 D.bi wO) U λg3 j3 k3=>Cg (Cg ?_));refine Cg ?_;refine Cd (wpAny_newTuple ?_ (show(2:Nat)<=sizeLine by decide));have sz:g3.objs.size=s.heap.objs.size:=by rw[k3.1,k2.1,Fe]
  have F:∀c u,c≠z->c≠i->c≠j->s.heap.get? c=some u->(g3.push { cls:=.type "tuple", data:=.seq #[x,y] }).get? c=some u:=λc u c1 m C e=>Ah _ (k3.extBut _ _ C (k2.extBut _ _ m (k1 _ _ c1 e)));have z3:Yq (g3.push { cls:=.type "tuple", data:=.seq #[x,y] }) z p o f true:=Ah _ (k3.extBut _ _ D.jz.symm (k2.extBut _ _ D.iz.symm z1));refine Cg ⟨_,rfl,?_⟩;show Q (.ref g3.objs.size) _;rw[sz];refine k _ ⟨⟨f,true,z3,hf⟩,F _ _ D.pz D.pi D.pj pp,⟨u1,u2,F _ _ D.oz D.oi D.oj oo⟩,(P.extBut k3.extBut D.ij).at λu e=>Ah _ e,j3.at λu e=>Ah _ e⟩ ?_ (by rw[Bx,sz]) λc u c1 _ m C e=>F c u c1 m C e;rw[<- sz];exact Aw _ rfl
theorem Np{z p o i j a b:Addr}{n:Nat}{xs ys:Array Value}{Q:PySem.Fin->Shared->Prop}(v:A.handled=none)(D:ZA z p o i j a b)(S:ZU s.heap z p o i j a b n)(ha:s.heap.IsTuple a xs)(I:s.heap.IsTuple b ys)(J:xs[n]?=none∨ys[n]?=none)
    (k:∀g x,(∀c u,c≠z->c≠o->c≠i->c≠j->s.heap.get? c=some u->g.get? c=some u)->(∃u,g.get? x=some u/\u.cls=.type "StopIteration")->E (.ref x) { s with heap:=g }) :
    wpAny (model prog w) A (Builtin.«zip.__next__» ⟨[.ref z],[]⟩) Q E s:=by
  obtain⟨⟨f,fl,zz,hf⟩,pp,⟨u1,u2,oo⟩,ii,jj⟩:=S;have m:∀{g g':Heap}{q c:Addr}{vs:Array Value},Heap.SameBut q g g'->c≠q->g.IsTuple c vs->g'.IsTuple c vs:=λ{g g' q c vs} sb R ⟨ob,e,r⟩=>⟨ob,sb.extBut _ _ R e,r⟩;show wpAny _ _ (field (.ref z) 2 >>= _) _ _ _;refine Cd (wpAny_field zz rfl (x:=.bool false) rfl ?_);show wpAny _ _ (field (.ref z) 3 >>= _) _ _ _;refine Cd (wpAny_field zz rfl (x:=.ref p) rfl ?_);refine Cd (wpAny_seqItems pp rfl ?_);show wpAny _ _ (Builtin.SmallTypes.ownedTupleIsFree (.ref z) >>= _) _ _ _;refine Cd (Pr zz hf ?_ ?_)
  . simp only[if_true]
    refine Cd (wpAny_rule ?_);refine Cd (wpAny_field zz rfl (x:=.ref o) rfl ?_);refine Cd (wpAny_setField_rec zz (by simp) λg1 z1 k1=>?_);replace z1:Yq g1 z p o .ellipsis fl:=z1;refine Cd ?_;simp only[List.zipIdx_cons,List.zipIdx_nil,List.forIn_cons,List.forIn_nil];refine Cd (Cd (wpAny_onRaise ?_));show wpAny _ _ (Builtin.SmallTypes.nextOf (.ref i) >>= _) _ _ _;cases hx:xs[n]? with
    |none =>
      refine Cd (ku v (ii.extBut k1.extBut D.iz) (m k1 D.az ha) hx λg2 x k2 h2=>?_);obtain⟨F,h3,h4⟩:=h2;have z2:Yq g2 z p o .ellipsis fl:=k2 _ _ D.iz.symm z1;have G:x≠z:=λq=>by subst q;rw[z2]at h3;cases h3;simp at h4
      exact wpAny_setField_rec z2 (by simp) λg3 _ k3=>k g3 x (λc u c1 _ d _ e=>k3.extBut _ _ c1 (k2 _ _ d (k1.extBut _ _ c1 e))) ⟨F,k3.extBut _ _ G h3,h4⟩
    |some x0 =>
      have C:ys[n]?=none:=by rcases J with h|h;rw[hx]at h;cases h;exact h
      refine Cd (xg (ii.extBut k1.extBut D.iz) (m k1 D.az ha) hx λg2 T k2=>Cg ?_);have L:IsPair g2 o u1 u2:=k2.extBut _ _ D.oi (k1.extBut _ _ D.oz oo);refine Cd (wpAny_seqItems L rfl ?_);refine Cd (wpAny_updateSeq_pair L λg3 X k3=>?_);refine Cd (wpAny_letGo (Cg ?_));refine Cd (Cd (wpAny_onRaise ?_));show wpAny _ _ (Builtin.SmallTypes.nextOf (.ref j) >>= _) _ _ _;refine Cd (ku v (((jj.extBut k1.extBut D.jz).extBut k2.extBut D.ij.symm).extBut k3.extBut D.oj.symm) (m k3 D.bo (m k2 D.bi (m k1 D.bz I))) C λg4 x k4 h2=>?_);obtain⟨F,h3,h4⟩:=h2;have z4:Yq g4 z p o .ellipsis fl:=k4 _ _ D.jz.symm (k3.extBut _ _ D.oz.symm (k2.extBut _ _ D.iz.symm z1));have G:x≠z:=λq=>by subst q;rw[z4]at h3;cases h3;simp at h4
      exact wpAny_setField_rec z4 (by simp) λP _ k5=>k P x (λc u c1 c2 d y e=>k5.extBut _ _ c1 (k4 _ _ y (k3.extBut _ _ c2 (k2.extBut _ _ d (k1.extBut _ _ c1 e))))) ⟨F,k5.extBut _ _ G h3,h4⟩
  . intro g1 z1 k1 Fe
    simp only[Bool.false_eq_true,if_false];refine Cd ?_;have O:g1.IsTuple a xs:=let ⟨ob,e,r⟩:=ha;⟨ob,k1 _ _ D.az e,r⟩;have U:g1.IsTuple b ys:=let ⟨ob,e,r⟩:=I;⟨ob,k1 _ _ D.bz e,r⟩;simp only[List.forIn_toArray,List.forIn_cons,List.forIn_nil];refine Cd (Cd (wpAny_holding ?_));show wpAny _ _ (Builtin.SmallTypes.nextOf (.ref i) >>= _) _ _ _;cases hx:xs[n]? with
    |none=>exact Cd (ku (s:={ s with heap:=g1 }) v (ii.extBut k1 D.iz) O hx λg2 x k2 h2=>k g2 x (λc u c1 _ d _ e=>k2 _ _ d (k1 _ _ c1 e)) h2)
    |some x0 =>
      have C:ys[n]?=none:=by rcases J with h|h;rw[hx]at h;cases h;exact h
      refine Cd (xg (s:={ s with heap:=g1 }) (ii.extBut k1 D.iz) O hx λg2 T k2=>Cg (Cg ?_));refine Cd (Cd (wpAny_holding ?_));show wpAny _ _ (Builtin.SmallTypes.nextOf (.ref j) >>= _) _ _ _;exact Cd (ku (s:={ s with heap:=g2 }) v ((jj.extBut k1 D.jz).extBut k2.extBut D.ij.symm) (m k2 D.bi U) C λg3 x k3 h2=>k g3 x (λc u c1 _ d y e=>k3 _ _ y (k2.extBut _ _ d (k1 _ _ c1 e))) h2)
end
theorem ZU.at{h h':Heap}{z p o i j a b:Addr}{n:Nat}(S:ZU h z p o i j a b n)(k:∀c∈[z,p,o,i,j],∀u,h.get? c=some u->h'.get? c=some u):ZU h' z p o i j a b n:=by obtain⟨⟨f,fl,zz,hf⟩,pp,⟨u1,u2,oo⟩,ii,jj⟩:=S;exact⟨⟨f,fl,k z (by simp) _ zz,hf⟩,k p (by simp) _ pp,⟨u1,u2,k o (by simp) _ oo⟩,ii.at λu e=>k i (by simp) u e,jj.at λu e=>k j (by simp) u e⟩
inductive pP:Expr->Prop
 |nm (x:Str) (p:Pos):pP (.Name x p)
 |tp (l:List Expr) (k:Nat) (p:Pos):pP (.Tuple l k p)
theorem BC{prog:Program}{w:World}{A:Around}{E:Cm}{s:Shared}{m:Expr}(q:pP m){z p o i j a b T:Addr}{n:Nat}{Q:Unit->Shared->Prop}(D:ZA z p o i j a b)(S:ZU s.heap z p o i j a b n)(d:∀h',ZU h' z p o i j a b n->Heap.ExtBut z s.heap h'->Q () { s with heap:=h' }):wpAny (model prog w) A (letOwnedTupleGo m (.ref z) (.ref T)) Q E s:=by
  cases q with
  |nm x r=>exact Cg (d s.heap S λ_ _ _ e=>e)
  |tp l k r =>
    obtain⟨f,fl,zz,hf⟩:=S.zz;unfold letOwnedTupleGo;refine Cd (wpAny_load zz ?_);dsimp only;split
    . refine Cd (wpAny_rule ?_)
      show wpAny _ _ (setField (.ref z) 0 .none) Q E s;obtain⟨_,pp,⟨u1,u2,oo⟩,ii,jj⟩:=S;exact wpAny_setField_rec zz (by simp) λh' u c=>d h' ⟨⟨.none,fl,u,.inl rfl⟩,c.extBut _ _ D.pz pp,⟨u1,u2,c.extBut _ _ D.oz oo⟩,ii.extBut c.extBut D.iz,jj.extBut c.extBut D.jz⟩ c.extBut
    . exact Cg (d s.heap S λ_ _ _ e=>e)
theorem uv{P:Program}{w:World}{K:Ae}{tg:Expr}(ht:pP tg){z p o i j a b:Addr}(D:ZA z p o i j a b):m7 P w K tg (q_ K a b) [z,p,o,i,j] z (λn h=>ZU h z p o i j a b n) where
 mem:=by simp
 obj:=λn h S c d=>by
  obtain⟨⟨f,fl,zz,hf⟩,pp,⟨u1,u2,oo⟩,⟨oi,O,ci,di⟩,⟨oj,Q,cj,dj⟩⟩:=S;simp only[Bk,Bu,or_false]at d;rcases d with rfl|rfl|rfl|rfl|rfl
  ·exact⟨_,zz,λv q=>by have C:Data.fields _=Data.cell v:=q;cases C⟩
  ·exact⟨_,pp,λv q=>by have C:Data.seq _ _=Data.cell v:=q;cases C⟩
  ·exact⟨_,oo,λv q=>by have C:Data.seq _ _=Data.cell v:=q;cases C⟩
  ·exact⟨oi,O,λv q=>by rw[di]at q;cases q⟩
  ·exact⟨oj,Q,λv q=>by rw[dj]at q;cases q⟩
 keep:=λn h h' S k=>S.at k
 item:=by
  intro X U Y R d n O9 s σ H E I hf S hg;subst U Y R;obtain⟨xs,ys,x,y,G,J,hx,hy⟩:=hg;obtain⟨Z,ra,pa,_⟩:=I.tuple G;obtain⟨ib,rb,pb,_⟩:=I.tuple J;obtain⟨u,hu,ru⟩:=ra.get hx;obtain⟨v,hv,rv⟩:=rb.get hy;obtain⟨f0,lK,r,nP⟩:=S.zz;have m:s.TypeIs (.ref z) "zip" := ⟨_,r,rfl⟩;unfold pyNext;refine Cd (wpAny_attempt (wpAny_callSpecial?_slot (name:=Str.ofString "__next__") m F.slot_zip_next (wpAny_call_entry F.slot_zip_next m F.entry_zip_next
   (Nq D S (show s.heap.IsTuple a Z.toArray from pa) (show s.heap.IsTuple b ib.toArray from pb) (by simpa using hu) (by simpa using hv) λg' L tp sz kp=>Cg ?_) (F.args_zip_next_1 _))))
  refine⟨_,rfl,BC (s:={ s with heap:=g' }) ht D L λg2 L kx=>?_⟩;replace tp:=kx _ _ (Cc (Ar r)) tp;have a6:∀c q,c∉[z,p,o,i,j]->s.heap.get? c=some q->g2.get? c=some q:=λc q d e=>by simp only[Bk,Bu,or_false,not_or]at d;refine kx _ _ d.1 (kp c q d.1 d.2.2.1 d.2.2.2.1 d.2.2.2.2 e)
  have ne:∀c∈[z,p,o,i,j],c≠s.heap.objs.size:=λc d e=>by
   obtain⟨_,pp,⟨u1,u2,oo⟩,⟨oi,O,_⟩,⟨oj,Q,_⟩⟩:=S;simp only[Bk,Bu,or_false]at d;rcases d with rfl|rfl|rfl|rfl|rfl
   ·exact Bi (Ar r) e
   ·exact Bi (Ar pp) e
   ·exact Bi (Ar oo) e
   ·exact Bi (Ar O) e
   ·exact Bi (Ar Q) e
  refine⟨.ref s.heap.objs.size,upd H s.heap.objs.size (.tup [x,y]),I.fB (t':=s.toks) hf a6 (us:=[u,v]) (.cons ru (.cons rv .nil)) (show 2<=sizeLine by decide) ⟨_,tp,rfl,_,rfl⟩,rfl,
   ⟨_,x,y,I.hok.fresh (Ai _),λa7 h=>by rw[I.tuple_inj h G];exact hx,λa8 h=>by rw[I.tuple_inj h J];exact hy,rfl,rfl⟩,L,λc d=>?_⟩
  rw[QS (ne c d)];exact(hf c d).1
 done:=by
  intro X U Y R d n O9 s σ H E I hf S hg;subst U Y R;obtain⟨xs,ys,G,J,hs⟩:=hg;obtain⟨Z,ra,pa,_⟩:=I.tuple G;obtain⟨ib,rb,pb,_⟩:=I.tuple J;have l1:=ra.length;have l2:=rb.length;obtain⟨f0,lK,r,nP⟩:=S.zz;have m:s.TypeIs (.ref z) "zip" := ⟨_,r,rfl⟩;unfold pyNext;refine Cd (wpAny_attempt (wpAny_callSpecial?_slot (name:=Str.ofString "__next__") m F.slot_zip_next (wpAny_call_entry F.slot_zip_next m F.entry_zip_next
   (Np (I.ok.hd d) D S (show s.heap.IsTuple a Z.toArray from pa) (show s.heap.IsTuple b ib.toArray from pb) (by rcases hs with q|q;exact .inl (by simp;lia);exact .inr (by simp;lia)) λg x kp hx=>?_) (F.args_zip_next_1 _))))
  obtain⟨ox,h1,h2⟩:=hx;refine Cd (wpAny_isInstance (T := "StopIteration") (b:=true) ⟨ox,h1,h2⟩ isSubtype_stop ?_);refine Cg ⟨rfl,I.lD (t':=s.toks) hf λc q d e=>?_⟩;simp only[Bk,Bu,or_false,not_or]at d;exact kp c q d.1 d.2.2.1 d.2.2.2.1 d.2.2.2.2 e
 self:=λ_ _ _ _ _ S h=>by obtain⟨f0,lK,r,nP⟩:=S.zz;have m:Shared.TypeIs _ (Value.ref z) "zip" := ⟨_,r,rfl⟩;refine wpAny_pyIter_slot m F.slot_zip_iter (wpAny_call_entry F.slot_zip_iter m F.entry_zip_iter ?_ (F.args_zip_iter_1 _));exact Cg ⟨_,rfl, "zip", _,m,(F.slot_zip_next).1,h⟩
section
variable{X:Cx}{xn:Str}{p2:Pos}{O9:Cn}{σ:L2.St}
theorem Ls{H:Hp}{s:Shared}{E:Cm}{Q:Cm}{a b:Addr}{xs ys:List V}(I:Inv X O9 σ H s)(G:SqT X.K H a xs)(J:SqT X.K H b ys)
  (k:∀(s':Shared) (z p o i j:Addr),Inv X O9 σ H s'->ZA z p o i j a b->ZU s'.heap z p o i j a b 0->(∀c∈[z,p,o,i,j],Vq X O9 H c)->Q (.ref z) s'):wpAny (model X.prog X.w) X.A (call (.type "zip") [.ref a,.ref b]) Q E s:=by
 obtain⟨q,L,x,_⟩:=I.tuple G;obtain⟨r,rb,y,_⟩:=I.tuple J;refine callType_new F.called_zip (by decide) (F.typeCall_zip_2 _ _) (F.newCall_zip_2 _ _) (λobj=>F.args_object_init_3 obj _ _) F.entry_zip_new (Qik a b q.toArray r.toArray) ⟨show s.heap.IsTuple a q.toArray from x,show s.heap.IsTuple b r.toArray from y,?_⟩;have z1:(rF s.heap a).objs.size=s.heap.objs.size+1:=Bx ..;have z2:(rE s.heap a b).objs.size=s.heap.objs.size+2:=by rw[Bx,z1]
 have z3:(rD s.heap a b).objs.size=s.heap.objs.size+3:=by rw[Bx,z2]
 have z4:(rC s.heap a b).objs.size=s.heap.objs.size+4:=by rw[Bx,z3]
 have m:(iK s.heap a b).get? (rC s.heap a b).objs.size=some _:=Aw _ rfl;have g4:(iK s.heap a b).get? (rD s.heap a b).objs.size=some _:=Ah _ (Aw _ rfl);have g3:(iK s.heap a b).get? (rE s.heap a b).objs.size=some _:=Ah _ (Ah _ (Aw _ rfl));have g2:(iK s.heap a b).get? (rF s.heap a).objs.size=some _:=Ah _ (Ah _ (Ah _ (Aw _ rfl)));have g1:(iK s.heap a b).get? s.heap.objs.size=some _:=Ah _ (Ah _ (Ah _ (Ah _ (Aw _ rfl))));show _/\_;have kp:∀c o,s.heap.get? c=some o->(iK s.heap a b).get? c=some o:=λc o e=>Ah _ (Ah _ (Ah _ (Ah _ (Ah _ e))));refine⟨⟨_,m,rfl⟩,?_⟩;rw[z2,z3,z4]at m;rw[z1,z2]at g3;rw[z3]at g4;rw[z1]at g2;rw[z4];have u:a<s.heap.objs.size:=by obtain⟨o,e,_⟩:=x;exact Ar e
 have v:b<s.heap.objs.size:=by obtain⟨o,e,_⟩:=y;exact Ar e
 have D:ZA (s.heap.objs.size+4) (s.heap.objs.size+2) (s.heap.objs.size+3) s.heap.objs.size (s.heap.objs.size+1) a b:=by constructor<;>first|exact Bi u|exact Bi v|exact Bi (Az u (Nat.le_add_right _ _))|exact Bi (Az v (Nat.le_add_right _ _))|exact Bi ⋯|exact Cc ⋯
 have C:Inv X O9 σ H { s with heap:=iK s.heap a b }:=I.kept (t':=s.toks) kp;have S:ZU (iK s.heap a b) (s.heap.objs.size+4) (s.heap.objs.size+2) (s.heap.objs.size+3) s.heap.objs.size (s.heap.objs.size+1) a b 0:=⟨⟨_,_,m,.inl rfl⟩,g3,⟨_,_,g4⟩,⟨_,g1,rfl,rfl⟩,⟨_,g2,rfl,rfl⟩⟩;refine k { s with heap:=iK s.heap a b } _ _ _ _ _ C D S λc n=>?_;have d:s.heap.objs.size<=c:=by simp only[Bk,Bu,or_false]at n;rcases n with rfl|rfl|rfl|rfl|rfl<;>first|exact Ai _|exact Nat.le_add_right _ _
 exact I.fpOk d (I.hok.fresh d)
theorem Qih{d:Expr}(c:pP d){H:Hp}{s:Shared}{R:It->Hp->Prop}{E:Cm}{a b:Addr}{xs ys:List V}(I:Inv X O9 σ H s)(m:SqT X.K H a xs)(n:SqT X.K H b ys)(q:R (q_ X.K a b) H) :
  wpAny (model X.prog X.w) X.A (call (.type "zip") [.ref a,.ref b]) (λv r=>wpAny (model X.prog X.w) X.A (pyIter v) (PIE X O9 σ d R) E r) E s :=
 Ls I m n λs' z p o i j e D S hf=>(uv (K:=X.K) c D).self _ _ _ _ _ S ⟨_,[z,p,o,i,j],_,q_ X.K a b,H,rfl,e,uv c D,S,hf,q⟩
theorem QhB{x y:Expr}{j:TA}{p d:Pos}(m:Gl X "zip")(hm:X.mg "zip" = none)(ha:PA X [x,y] j)(hs:starEach [x,y] X.env=[(false,eval x X.env),(false,eval y X.env)]:=by rfl)(c:starEach [y] X.env=[(false,eval y X.env)]:=by rfl) :
    PI X (.Name xn p2) (.Call (.Name "zip" p) [x,y] [] d) (DD X.K j):=by
  intro O9 s σ H R I h;refine Call_ (qH I m hm boot_zip (PyProof.Rows.callWith_type1 (thn (ha d O9 s σ H _ I h) λus v ⟨vs,H1,I1,r1,q1⟩=>?_) (by rw[hs,c]) (by rw[c];rfl)));obtain⟨a,b,xs,ys,e,n,o,q⟩:=q1;subst e;cases r1 with
  |cons r i =>
    cases i with
    |cons u i=>cases i;cases r;cases u;exact Qih (.nm ..) I1 n o q
end
end L2
namespace D
open PySem PySem.Spec PyProof.Rows L2
section
variable{X:Cx}{xn:Str}{p2:Pos}{f g:aD}
theorem QgU{x y:Expr}{p d:Pos}(z:Gl X "zip")(hm:X.mg "zip" = none)(hx:DE X x f)(G:DE X y g)(hs:starEach [x,y] X.env=[(false,eval x X.env),(false,eval y X.env)]:=by rfl)(c:starEach [y] X.env=[(false,eval y X.env)]:=by rfl) :
  DI X (.Name xn p2) (.Call (.Name "zip" p) [x,y] [] d) (BZ f g) :=
 L2.PI.imp (QhB z hm (ZT hx (ZT G pa_nil (by rw[c];rfl)) (by rw[hs,c])) hs c) λσ H R m=>by obtain⟨Z,env,ρ,B,hp,ds,C,S,e,k⟩:=m;obtain⟨d1,hp1,n,e⟩:=Qg e;obtain⟨xs,E,o,e⟩:=Qg e;obtain⟨rfl,rfl⟩:=YI o;obtain⟨T,F,q,e⟩:=Qg e;obtain⟨ys,Q,r,e⟩:=Qg e;obtain⟨rfl,rfl⟩:=YI r;obtain⟨rfl,rfl⟩:=Qm e;refine tD.run S n λv ρ1 B1 H1 g1 S1 O=>tD.run S1 q λu ρ2 B2 H2 g2 S2 P=>?_;obtain⟨a,vs,rfl,na,i,I⟩:=(au.grow S1.wo.rb g2 _ _ O).tupI;obtain⟨b,us,rfl,L,j,J⟩:=P.tupI;exact⟨a,b,vs,us,rfl,i,j,k _ ρ2 B2 H2 (g1.trans g2) S2.wo (Se na i I L j J)⟩
end
end D
namespace TR
structure Pg where
 lv:Nat
 ks:List Int
 ps:List Int
 hi:Option Int
 sd:Option Nat
structure Sh where
 O4:Nat
 pg:List Pg
 top:Nat
 rd:Int
 wr:Int
inductive cW where
 |find (k:Int)|put (k w:Int)|cut (k:Int)|stretch (l h:Int)
def cW.key:cW->Int
 |.find k=>k
 |.put k _=>k
 |.cut k=>k
 |.stretch l _=>l
structure Wk where
 O2:cW
 aim:Int
 O6:Nat
 place:Option Nat
 O5:List (Nat×Nat)
 O1:Option Nat
 O3:Option Int
 pairs:List (Int×Int)
 O7:Bool
def cu(ks:List Int)(k:Int):Nat:=(ks.filter λx=>decide (x<=k)).length
def bU(ks:List Int)(k:Int):Nat:=(ks.filter λx=>decide (x<k)).length
def mQ(fs:List (Nat×Nat))(k:Nat):Option Nat:=(fs.find? λp=>decide (p.1=k)).map (·.2)
def JD(p:Pg)(k:Int):Option Int:=if bU p.ks k=cu p.ks k then none else p.ps[bU p.ks k]?
def ZH(p:Pg)(k w:Int):Pg:={ p with ks:=p.ks.take (bU p.ks k)++k::p.ks.drop (cu p.ks k),ps:=p.ps.take (bU p.ks k)++w::p.ps.drop (cu p.ks k) }
def mid(p:Pg):Nat:=p.ks.length / 2
def qe(p:Pg):Nat:=if p.lv=0 then mid p else mid p+1
def lO(p:Pg):Int:=p.ks.getD (mid p) 0
def jY(p:Pg)(n:Nat):Pg:=⟨p.lv,p.ks.take (mid p),p.ps.take (qe p),some (lO p),some n⟩
def zG(p:Pg):Pg:=⟨p.lv,p.ks.drop (qe p),p.ps.drop (qe p),p.hi,p.sd⟩
def Xo(S:Sh)(w:Wk)(n:Nat)(p:Pg):Option Nat×Sh×Wk :=
 if p.ks.length<=S.O4 then (none,{ S with pg:=S.pg.set n p,wr:=S.wr+1 },{ w with O7:=true })
 else (some S.pg.length,{ S with pg:=(S.pg++[zG p]).set n (jY p S.pg.length),wr:=S.wr+1+1 },{ w with O1:=some S.pg.length,aim:=lO p,O6:=p.lv+1,place:=mQ w.O5 (p.lv+1) })
def DN(ks:List Int)(k:Int):cu ks k<=ks.length:=List.length_filter_le _ _
theorem QgH(ks:List Int)(k:Int):bU ks k<=cu ks k:=by
  unfold bU cu;induction ks with
  |nil=>simp
  |cons x xs a =>
    by_cases q:x<k
    . have:x<=k:=⋯
      simp[List.filter_cons,q,this,a]
    . by_cases c:x<=k
      . simp[List.filter_cons,q,c];lia
      . simp[List.filter_cons,q,c,a]
def fresh(d:cW):Wk:=⟨d,d.key,0,none,[],none,none,[],false⟩
end TR
namespace D
open PySem PySem.Spec PyProof.Rows L2
def oN:Option Nat->DV
 |none=>.non
 |some n=>.int n
def aY(p:TR.Pg):DV:=.tup [.int p.lv,.tup (p.ks.map .int),.tup (p.ps.map .int),opt p.hi,oN p.sd]
def JK:TR.cW->DV
 |.find k=>.tup [.str "find", .int k]
 |.put k w=>.tup [.str "put", .int k,.int w]
 |.cut k=>.tup [.str "cut", .int k]
 |.stretch l h=>.tup [.str "stretch", .int l,.int h]
def nR(fs:List (Nat×Nat)):List (Key×DV):=fs.map λp=>(.inl p.1,.int p.2)
def Wc(ps:List (Int×Int)):List DV:=ps.map λp=>.tup [.int p.1,.int p.2]
def dD(s f q:Nat)(d a g p n w e:DV):List (Str×DV):=[("shelf", .ref s),("deed", d),("aim", a),("goal", g),("place", p),("forks", .ref f),("new_page", n),("worth", w),("pairs", .ref q),("ended", e)]
def dB(s f q:Nat)(w:TR.Wk):OV:=.ins "Walk" (dD s f q (JK w.O2) (.int w.aim) (.int w.O6) (oN w.place) (oN w.O1) (opt w.O3) (.bl w.O7))
section
variable(s f q:Nat)(d a g p n w e x:DV)
theorem uB:List.lookup ("shelf" : Str) (dD s f q d a g p n w e)=some (.ref s):=by rfl
theorem GK:List.lookup ("deed" : Str) (dD s f q d a g p n w e)=some d:=by rfl
theorem kr:List.lookup ("aim" : Str) (dD s f q d a g p n w e)=some a:=by rfl
theorem Rx:List.lookup ("goal" : Str) (dD s f q d a g p n w e)=some g:=by rfl
theorem Qea:List.lookup ("place" : Str) (dD s f q d a g p n w e)=some p:=by rfl
theorem Qd9:List.lookup ("forks" : Str) (dD s f q d a g p n w e)=some (.ref f):=by rfl
theorem Qif:List.lookup ("new_page" : Str) (dD s f q d a g p n w e)=some n:=by rfl
theorem VW:List.lookup ("worth" : Str) (dD s f q d a g p n w e)=some w:=by rfl
theorem VV:List.lookup ("ended" : Str) (dD s f q d a g p n w e)=some e:=by rfl
def Qib:(dD s f q d a g p n w e).length=10:=rfl
theorem BI:List.lookup ("do_deed" : Str) (dD s f q d a g p n w e)=none:=by rfl
theorem BH:List.lookup ("settle" : Str) (dD s f q d a g p n w e)=none:=by rfl
theorem BG:List.lookup ("find_worth" : Str) (dD s f q d a g p n w e)=none:=by rfl
theorem Lw:List.lookup ("put_pair" : Str) (dD s f q d a g p n w e)=none:=by rfl
theorem Qic:List.lookup ("step" : Str) (dD s f q d a g p n w e)=none:=by rfl
theorem Qid:List.lookup ("over" : Str) (dD s f q d a g p n w e)=none:=by rfl
theorem Qie:List.lookup ("answer" : Str) (dD s f q d a g p n w e)=none:=by rfl
end
theorem Qg2(fs:List (Nat×Nat))(k:Nat):qK (nR fs) (.inl (k:Int))=(TR.mQ fs k).map λv=>.int v:=by
  induction fs with
  |nil=>rfl
  |cons p r a =>
    rw[show nR (p::r)=(.inl (p.1:Int),.int p.2)::nR r from rfl,Qd8,a];unfold TR.mQ;rw[Bt];by_cases q:p.1=k
    . simp[q]
    . have:¬ ((p.1:Int)=(k:Int)):=⋯
      simp[q,this]
section
variable{c f m:Str}{o e:aD}{fa:aW}{env:En}{hp hp1 hp2:Hs}{a n:Nat}{fs:List (Str×DV)}{d v:DV}{ds:List DV}{F:Cs}
theorem jZ{α:Type}{k:Nat->List (Str×DV)->M α}(h:hp[a]?=some (.ins c fs)):dU c (.ref a) k hp=k a fs hp:=by show(ZE a >>= _) hp=_;rw[Ql (Zi h)];show(Qy (decide (c=c)) >>= λ_=>k a fs) hp=_;rw[Ch rfl];rfl
theorem Jy(i:e env hp=some (v,hp1))(q:o env hp1=some (.ref a,hp1))(h:hp1[a]?=some (.ins c fs))(j:fs.length<1000):Q9 c f o e env hp=some ((.nx,env),hp1.set a (.ins c (Ju f v fs))):=by
 unfold Q9;rw[Ql i,Ql q];unfold ym;have:dU c (.ref a) (λn fs=>do Qy (decide (fs.length<1000));VS n (.ins c (Ju f v fs))) hp1=some ((),hp1.set a (.ins c (Ju f v fs))):=by rw[jZ h,Ch j];rfl
 rw[Ql this];rfl
theorem QV(i:o env hp=some (.ref a,hp1))(h:hp1[a]?=some (.ins c fs))(hf:fs.lookup f=some d):QT c f o env hp=some (d,hp1):=by unfold QT;rw[Ql i];unfold yd;rw[jZ h,hf];rfl
theorem QY(j:o env hp=some (.ref a,hp))(h:hp[a]?=some (.ins c fs))(hm:fs.lookup m=none)(ha:fa env hp=some (ds,hp1))(hn:ds.length+1=n)(i:F (.ref a::ds) hp1=some (d,hp2)):QM c m n F o fa env hp=some (d,hp2):=by
 unfold QM;rw[Ql j];have:dU c (.ref a) (λ_ fs=>Qy (fs.lookup m).isNone) hp=some ((),hp):=by rw[jZ h,hm];rfl
 rw[Ql this,Ql ha,Ch hn];show(Qy true >>= λ_=>F (.ref a::ds)) hp1=_;exact i
def Jp:Qk env hp=some ([],hp):=rfl
theorem QK(h:e env hp=some (v,hp1)):Qc e Qk env hp=some ([v],hp1):=by unfold Qc;rw[Ql h];rfl
theorem Zn{i:aD}{j:DV}(h:e env hp=some (v,hp1))(h':i env hp1=some (j,hp2)):Qc e (Qc i Qk) env hp=some ([v,j],hp2):=by have:=QK h';unfold Qc at this ⊢;rw[Ql h,Ql this];rfl
theorem xx{u i:aD}{x q:DV}{j:Hs}(h:e env hp=some (v,hp1))(h':u env hp1=some (x,hp2))(r:i env hp2=some (q,j)):Qc e (Qc u (Qc i Qk)) env hp=some ([v,x,q],j):=by have:=Zn h' r;unfold Qc at this ⊢;rw[Ql h,Ql this];rfl
theorem Qe{i:Nat}(h:env[i]?=some (.val d)):Qb i env hp=some (d,hp):=by unfold Qb;rw[h];rfl
theorem QP{k:Nat}(ha:fa env hp=some (ds,hp1))(j:ds.length=k)(i:F ds hp1=some (d,hp2)):QB k F fa env hp=some (d,hp2):=by unfold QB;rw[Ql ha,Ch j];exact i
theorem J8{c:bH}{f g:aB}(h:c env hp=some (true,hp1)):aJ c f g env hp=f env hp1:=by rw[Mv h];rfl
theorem Zv{c:bH}{f g:aB}(h:c env hp=some (false,hp1)):aJ c f g env hp=g env hp1:=by rw[Mv h];rfl
def ZB:Q7 env hp=some ((.nx,env),hp):=rfl
theorem zD{i:Nat}(h:hp[a]?=some (.lst ds))(hd:ds[i]?=some d):aF (.ref a) (.int i) hp=some (d,hp):=by show(ZE a >>= _) hp=_;rw[Ql (Zi h)];show(cO (.int (i:Int)) >>= λi=>jE (atI ds i)) hp=_;simp only[cO,Ck,jO hd];rfl
end
theorem QgT{o:aD}{fa:aW}{env:En}{hp:Hs}{a:Nat}{fs:List (Nat×Nat)}{j:Nat}(d:o env hp=some (.ref a,hp))(h:hp[a]?=some (.aH (nR fs)))(ha:fa env hp=some ([.int (j:Int)],hp)):Zo "dict" Yx o fa env hp=some (oN (TR.mQ fs j),hp):=by
 unfold Zo;rw[Ql d];have c:Xf "dict" (.ref a) hp=some ((),hp):=by show(ZE a >>= _) hp=_;rw[Ql (Zi h)];rfl
 rw[Ql c,Ql ha];show(ZE a >>= _) hp=_;rw[Ql (Zi h)];show some (((qK (nR fs) (.inl (j:Int))).getD .non),hp)=_;rw[Qg2];cases TR.mQ fs j<;>rfl
theorem wl{s f q:Nat}{d a g p n w e:DV}:(dD s f q d a g p n w e).length<1000:=by rw[Qib];decide
theorem Ze{xs:List DV}{i:Nat}{d:DV}(h:xs[i]?=some d)(hp:Hs):aF (.tup xs) (.int i) hp=some (d,hp):=by show bR (.tup xs) (.int i) hp=_;simp only[bR,jO h];rfl
def Mq(p:TR.Pg)(hp:Hs):aF (aY p) (.int 0) hp=some (.int p.lv,hp):=Ze (i:=0) rfl hp
theorem QeB(d:TR.cW)(hp:Hs):aF (JK d) (.int 1) hp=some (.int d.key,hp):=by cases d<;>exact Ze (i:=1) rfl hp
section
variable{e e' e'' e3 e4:aD}{fa:aW}{env:En}{hp hp1 hp2 hp3 cN iu:Hs}{v v' v'' v3 v4 d:DV}{ds:List DV}
theorem Xw(ha:fa env hp=some (ds,hp1))(hs:ds.length<=100000):ZD fa env hp=some (.tup ds,hp1):=by unfold ZD;rw[Ql ha];have:X3 ds=true:=Ch hs;rw[this];rfl
theorem Dj(h:e env hp=some (v,hp1))(h':e' env hp1=some (v',hp2))(a:e'' env hp2=some (v'',hp3))(h3:e3 env hp3=some (v3,cN)):Qc e (Qc e' (Qc e'' (Qc e3 Qk))) env hp=some ([v,v',v'',v3],cN):=by have:=xx h' a h3;unfold Qc at this ⊢;rw[Ql h,Ql this];rfl
theorem BD(h:e env hp=some (v,hp1))(h':e' env hp1=some (v',hp2))(a:e'' env hp2=some (v'',hp3))(h3:e3 env hp3=some (v3,cN))(h4:e4 env cN=some (v4,iu)):Qc e (Qc e' (Qc e'' (Qc e3 (Qc e4 Qk)))) env hp=some ([v,v',v'',v3,v4],iu):=by have:=Dj h' a h3 h4;unfold Qc at this ⊢;rw[Ql h,Ql this];rfl
end
theorem jX{x:Str}(h:PyData.strOk x=true):dW (.str x)=true:=by simp[dW,vS,toP,SeqAt.shaped,PyData.canLay0,PyData.depth,h]
theorem iH{x y:Str}(hp:Hs)(h1:PyData.strOk x=true)(h2:PyData.strOk y=true){b:Bool}(h:(x==y)=b):bK (.str x) (.str y) hp=some (.bl b,hp):=by
 unfold bK;have e:va (.str x) (.str y) hp=some (x==y,hp):=by rw[UN (N8 39 hp x) (N8 39 hp y) (jX h1) (jX h2)];rfl
 rw[Ql e,h];rfl
section
variable{c c':bH}{e e':aD}{env:En}{hp hp1:Hs}{b:Bool}
theorem DU(h:c env hp=some (true,hp1)):cJ c c' env hp=some (true,hp1):=by unfold cJ;rw[Ql h];rfl
theorem tK(h:c env hp=some (false,hp1)):cJ c c' env hp=c' env hp1:=by unfold cJ;rw[Ql h];rfl
theorem Kq(h:c env hp=some (true,hp1)):XC c c' env hp=c' env hp1:=by unfold XC;rw[Ql h];rfl
theorem Kp(h:c env hp=some (false,hp1)):XC c c' env hp=some (false,hp1):=by unfold XC;rw[Ql h];rfl
theorem tL(h:c env hp=some (true,hp1)):b_ c e e' env hp=e env hp1:=by unfold b_;rw[Ql h];rfl
theorem Dr(h:c env hp=some (false,hp1)):b_ c e e' env hp=e' env hp1:=by unfold b_;rw[Ql h];rfl
end
section
variable{f g:aD}{fa:aW}{env:En}{hp hp1 hp2:Hs}{d x y:DV}{ds:List DV}{F:Cs}
theorem Zr(h:fa env hp=some (ds,hp1))(a:F ds hp1=some (d,hp2)):QL F fa env hp=some (d,hp2):=by unfold QL;rw[Ql h];exact a
def Rt(ds:List DV)(hp:Hs):Zp [.lst ds] hp=some (.int ds.length,hp):=rfl
def Qfc(ds:List DV)(hp:Hs):Zp [.tup ds] hp=some (.int ds.length,hp):=rfl
theorem XN{n:Nat}(h:hp[n]?=some (.lst ds)):Zp [.ref n] hp=some (.int ds.length,hp):=by show(ZE n >>= _) hp=_;rw[Ql (Zi h)];rfl
theorem Wq(i j:Int)(hp:Hs):eN (.int i) (.int j) hp=some (.bl (!(i==j)),hp):=by unfold eN;rw[Ql (kU i j hp)];rfl
theorem Ii(i:Int)(hp:Hs):eN (.int i) (.int i) hp=some (.bl false,hp):=by rw[Wq];simp
theorem wY(i j:Int)(hp:Hs):bK (.int i) (.int j) hp=some (.bl (i==j),hp):=by unfold bK;rw[Ql (kU i j hp)];rfl
theorem Wo(a b:Option Int)(hp:Hs):eN (opt a) (opt b) hp=some (.bl (!decide (a=b)),hp):=by unfold eN;rw[Ql (QeR a b hp)];rfl
theorem W_(b:Bool)(hp:Hs):eN (.bl b) (.bl b) hp=some (.bl false,hp):=by have e:=UN (Nf 39 hp b) (Nf 39 hp b) (L_ b) (L_ b);unfold eN;rw[Ql e];cases b<;>rfl
end
theorem GN{f:fM}{env:En}{hp hp1:Hs}{ds:List DV}(h:f env hp=some (ds,hp1)):dh f env hp=some (fH ds,hp1):=by unfold dh;rw[Ql h];rfl
section
variable{c:bH}{b:aB}{n:Nat}{env aA:En}{hp hp1 hp2:Hs}
theorem ko(h:c env hp=some (true,hp1))(a:b env hp1=some ((.nx,aA),hp2)):Xx c b (n+1) env hp=Xx c b n aA hp2:=by rw[Xx,Ql h];simp only[if_true];rw[Ql a]
theorem UV(h:c env hp=some (false,hp1)):Xx c b (n+1) env hp=some ((.nx,env),hp1):=by rw[Xx,Ql h];rfl
end
theorem Sb{hp:Hs}{d k:Nat}{kvs:List (Key×DV)}{v:DV}(h:hp[d]?=some (.aH kvs))(a:qK kvs (.inl (k:Int))=some v):aF (.ref d) (.int (k:Int)) hp=some (v,hp):=by show(ZE d >>= _) hp=_;rw[Ql (Zi h)];show(jE (qK kvs (.inl (k:Int)))) hp=_;rw[a];rfl
theorem qL{o e:aD}{env:En}{hp:Hs}{a:Nat}{ds:List DV}{d:DV}(m:o env hp=some (.ref a,hp))(h:hp[a]?=some (.lst ds))(i:e env hp=some (d,hp))(j:ds.length<100000):Zo "list" Zh o (Qc e Qk) env hp=some (.non,hp.set a (.lst (ds++[d]))):=by
 unfold Zo;rw[Ql m];have c:Xf "list" (.ref a) hp=some ((),hp):=by show(ZE a >>= _) hp=_;rw[Ql (Zi h)];rfl
 rw[Ql c,Ql (QK i)];show(ZE a >>= _) hp=_;rw[Ql (Zi h)];show(Qy (decide (ds.length<lim)) >>= λ_=>VS a (.lst (ds++[d])) >>= λ_=>pure DV.non) hp=_;rw[show decide (ds.length<lim)=true from Ch j];rfl
theorem OJ{e o j:aD}{env:En}{hp:Hs}{a n:Nat}{kvs:List (Key×DV)}{d:DV}(c:e env hp=some (d,hp))(q:o env hp=some (.ref a,hp))(i:j env hp=some (.int (n:Int),hp))(h:hp[a]?=some (.aH kvs))(m:kvs.length<100000):YY e (cU o j) env hp=some ((.nx,env),hp.set a (.aH (mV kvs (.inl (n:Int)) d))):=by refine gR c ?_;unfold cU;rw[Ql q,Ql i,Ql (QfP (d:=d) h (show je (.int (n:Int))=some (.inl (n:Int))from rfl) m)];rfl
theorem US{n:Nat}{a:aB}{ds:List DV}{env:En}{hp hp1:Hs}(h:a (ds.map .val++List.replicate (n-ds.length) .un) hp=some ((.nx,env),hp1)):Q3 n a ds hp=some (.non,hp1):=by unfold Q3;rw[Ql h];rfl
theorem Rn(f:Str)(d:DV):∀fs:List (Str×DV),(Ju f d fs).length<=fs.length+1
  | []=>Ai _
  | (g,x)::r=>by
    unfold Ju;split
    . simp
    . simpa using Rn f d r
def Xi{f:Str}{d:DV}{fs:List (Str×DV)}{m:Nat}(h:fs.length<=m):(Ju f d fs).length<=m+1:=Bj (Rn f d fs) (Nat.succ_le_succ h)
def PX{α:Type}{m:M α}{x:α}(h:∀hp,m hp=some (x,hp)):m=pure x:=funext h
section
variable{env:En}{hp hp1 hp2 hp3 cN iu Fz hp7:Hs}{e e' e'' e3 e4 e5 e6:aD}{v v' v'' v3 v4 v5 v6:DV}
end
end D
namespace L2
open PySem PySem.Spec PyProof.Rows
def sY(lo c:Int)(n:Nat):It:=⟨λi _=>i<n,λi H x H'=>H'=H/\x=.int (lo+(i:Nat) * c),λi _=>n<=i⟩
theorem QaQ{P:Program}{w:World}{K:Ae}{S:Expr}(a:Addr)(lo c:Int)(n:Nat):m7 P w K S (sY lo c n) [a] a (λi h=>IsRangeIter h a (lo+(i:Nat) * c) ((n:Int)-(i:Nat)) c) where
 mem:=by simp
 obj:=λi h st b d=>by
  have e:b=a:=by simpa using d
  subst e;exact⟨_,st,λv z=>by have T:Data.fields _=Data.cell v:=z;cases T⟩
 keep:=λi h h' st k=>k a (by simp) _ st
 item:=by intro X C G y F i O9 s σ H E I hf st hg;subst C G y;obtain⟨m,q,O,r,u,x⟩:=hf a (by simp);have W:=Walks.range (prog:=X.prog) (w:=X.w) (I.ok.hd F) a lo c n;refine W.item i s _ _ hg st λv h' tk Q j R=>?_;obtain⟨t,rfl⟩:=Q;have J:Inv X O9 σ H { s with heap:=h',toks:=tk }:=I.turned (λb o d e=>R b o (by simpa using d) e) m q r u x;exact⟨_,rfl,pX (s:={ s with heap:=h',toks:=tk }) (n := "range_iterator") j rfl rfl (by decide) ⟨.int (lo+(i:Nat) * c),H,J,⟨t,rfl⟩,⟨rfl,rfl⟩,j,λb d=>(hf b d).1⟩⟩
 done:=by intro X C G y F i O9 s σ H E I hf st hg;subst C G y;obtain⟨m,q,O,r,u,x⟩:=hf a (by simp);exact wpAny_pyNext_range_end (I.ok.hd F) st (by have:n<=i:=hg;lia) λh' L=>⟨rfl,I.turned (t':=s.toks) (λb o d e=>L b o d e) m q r u x⟩
 self:=λ_ _ _ _ _ st h=>wpAny_pyIter_rangeiter st h
section
variable{X:Cx}{tg:Expr}
def cV(hi c:Int):Nat:=((hi+c-1) / c).toNat
theorem Dc{hi c:Int}(a:1<=c)(d:0<=hi):Builtin.Range.rangeSize 0 hi c=(cV hi c:Int):=by rw[rangeSize_pos a d];unfold cV;have:0<=(hi+c-1) / c:=Int.ediv_nonneg ⋯ ⋯;lia
theorem QhL{hi c:Int}(d:1<=c)(e:0<=hi):(cV hi c:Int)<=hi+c:=by rw[<- Dc d e,rangeSize_pos d e];have:=Int.ediv_le_self (b:=c) (a:=hi+c-1) ⋯;lia
theorem BY{hi c:Int}(a:1<=c)(d:0<=hi)(h1:hi<2 ^ 40)(h2:c<1073741824):Builtin.Range.small 0 hi c=true:=by have l:=QhL a d;unfold Builtin.Range.small;rw[Dc a d];simp only[Builtin.Range.rangeFitsLong,Bg,Bool.or_eq_true,decide_eq_true_eq,beq_iff_eq,show c > 0 by lia,if_true];lia
theorem QdQ{d:Cn}{σ:St}{H:Hp}{s:Shared}{R:It->Hp->Prop}{E:Cm}{hi c:Int}{t u v:Tok}{tk:Nat}(I:Inv X d σ H s)(i:1<=c)(j:0<=hi)(h1:hi<2 ^ 40)(h2:c<1073741824)
  (q:R (sY 0 c (cV hi c)) H):wpAny (model X.prog X.w) X.A (pyIter (.ref s.heap.objs.size)) (PIE X d σ tg R) E { s with heap:=s.heap.push { cls:=.type "range", data:=.fields #[.int 0 t,.int hi u,.int c v] },toks:=tk }:=by
 refine wpAny_pyIter_range (IsRange.new ..) (BY i j h1 h2) ?_;have a:Inv X d σ H { s with heap:=s.heap.push { cls:=.type "range", data:=.fields #[.int 0 t,.int hi u,.int c v] },toks:=tk }:=I.kept λb o e=>Ah _ e;refine⟨(s.heap.push { cls:=.type "range", data:=.fields #[.int 0 t,.int hi u,.int c v] }).objs.size,[(s.heap.push { cls:=.type "range", data:=.fields #[.int 0 t,.int hi u,.int c v] }).objs.size],_,_,H,rfl,
  a.kept (t':=tk) λb o e=>Ah _ e,QaQ _ 0 c (cV hi c),?_,λb r=>?_,q⟩
 ·have m:(0:Int)+((0:Nat):Int) * c=0:=by simp
  have n:((cV hi c:Nat):Int)-((0:Nat):Int)=Builtin.Range.rangeSize 0 hi c:=by rw[Dc i j];simp
  show IsRangeIter _ _ ((0:Int)+((0:Nat):Int) * c) (((cV hi c:Nat):Int)-((0:Nat):Int)) c;rw[m,n];exact Aw _ rfl
 ·have e:b=(s.heap.push { cls:=.type "range", data:=.fields #[.int 0 t,.int hi u,.int c v] }).objs.size:=by simpa using r
  subst e;exact a.fpOk (Ai _) (a.hok.fresh (Ai _))
def R3(vs:List V)(hi c:Int):Prop:=vs=[.int 0,.int hi,.int c]/\1<=c/\0<=hi/\hi<2 ^ 40/\c<1073741824
def DF(a:TA):TI:=λσ H R=>a σ H λvs H1=>∃hi c:Int,R3 vs hi c/\R (sY 0 c (cV hi c)) H1
theorem QhJ{hi c:Int}(a:1<=c)(h2:c<1073741824):Builtin.divisionGoesByPylong (hi-0) c=false:=by exact PyProof.noPylong_small ⋯
theorem QdM{a b d:Expr}{v:TA}{p j:Pos}(y:Gl X "range")(hm:X.mg "range" = none)(ha:PA X [a,b,d] v)(hs:starEach [a,b,d] X.env=[(false,eval a X.env),(false,eval b X.env),(false,eval d X.env)]:=by rfl)(i:starEach [b,d] X.env=[(false,eval b X.env),(false,eval d X.env)]:=by rfl) :
    PI X tg (.Call (.Name "range" p) [a,b,d] [] j) (DF v):=by
  intro x s σ H R I h;refine Call_ (qH I y hm boot_range (PyProof.Rows.callWith_type1 (thn (ha j x s σ H _ I h) λus G ⟨vs,H1,I1,r1,n⟩=>?_) (by rw[hs,i]) (by rw[i];rfl)));obtain⟨hi,c,⟨e,n,z,C,u⟩,q⟩:=n;subst e;cases r1 with
  |cons r m =>
    cases m with
    |cons E m =>
      cases m with
      |cons o m=>cases m;obtain⟨t,rfl⟩:=r;obtain⟨t',rfl⟩:=E;obtain⟨F,rfl⟩:=o;exact call_range_3 ⋯ (QdQ I1 n z C u q) (.inl (QhJ n u))
end
end L2
namespace D
open PySem PySem.Spec PyProof.Rows L2
section
variable{X:Cx}{tg:Expr}{pos:Pos}
def VL(c:Int)(n:Nat):List DV:=(List.range n).map λ(i:Nat)=>.int ((i:Int) * c)
theorem Qdx{K:Ae}{ρ:Cr}{B:Cq}{H:Hp}{c:Int}{n:Nat}:kA K ρ B H (VL c n) (sY 0 c n):=λρ1 B1 H1 g _ _=>by
 refine⟨λi d e=>?_,by show n<=_;simp[VL]⟩;have hi:i<n:=by have:=(Ag.mp e).1;simpa [VL]using this
 refine⟨hi,λy H' ⟨a,q⟩=>?_⟩;subst a q;have:d=.int ((i:Int) * c):=by simp[VL,hi]at e;exact e.symm
 subst this;rw[Int.zero_add];exact⟨Z6,.inl rfl⟩
def Wl(a hi c:Int):Bool:=decide (a=0/\1<=c/\0<=hi/\hi<2 ^ 40/\c<1073741824)
def sO:List DV->M (List DV)
 | [.int a,.int hi,.int c]=>do Qy (Wl a hi c);pure (VL c (cV hi c))
 |_=>failure
def tG(f:aW):fM:=λenv=>do sO (<- f env)
theorem QdU{ds d:List DV}{hp a:Hs}(h:sO ds hp=some (d,a)):∃hi c:Int,ds=[.int 0,.int hi,.int c]/\(1<=c/\0<=hi/\hi<2 ^ 40/\c<1073741824)/\d=VL c (cV hi c)/\hp=a:=by
 unfold sO at h;split at h
 ·obtain⟨u,hp1,e,i⟩:=Qg h;obtain⟨h1,rfl⟩:=Qz e;obtain⟨rfl,rfl⟩:=Qm i;obtain⟨rfl,h2⟩:=Ci h1;exact⟨_,_,rfl,h2,rfl,rfl⟩
 ·cases h
theorem ak.ints3{K:Ae}{ρ:Cr}{B:Cq}{H:Hp}{i j k:Int}{vs:List V}(h:ak K ρ B H [.int i,.int j,.int k] vs):vs=[.int i,.int j,.int k]:=by unfold ak at h;obtain⟨x,r,rfl,h1,h2⟩:=h;rw[h1.aN,h2.ints2]
theorem Qdl{x y z:Expr}{p:Pos}{f:aW}(n:Gl X "range")(hm:X.mg "range" = none)(ha:DA X [x,y,z] f)(hs:starEach [x,y,z] X.env=[(false,eval x X.env),(false,eval y X.env),(false,eval z X.env)]:=by rfl)(a:starEach [y,z] X.env=[(false,eval y X.env),(false,eval z X.env)]:=by rfl) :
  DI X tg (.Call (.Name "range" p) [x,y,z] [] pos) (tG f) :=
 (QdM n hm ha hs a).imp λσ H R i=>by obtain⟨Z,env,ρ,B,hp,ds,o,S,e,k⟩:=i;obtain⟨d,hp1,j,m⟩:=Qg e;obtain⟨hi,c,rfl,⟨h1,h2,h3,h4⟩,rfl,rfl⟩:=QdU m;refine cY.run S j λvs ρ1 B1 H1 g1 S1 q=>?_;exact⟨hi,c,⟨q.ints3,h1,h2,h3,h4⟩,k _ ρ1 B1 H1 g1 S1.wo Qdx⟩
end
end D
namespace PySem
section
variable{prog:Program}{w:World}{A:Around}{E:Cm}{s:Shared}
theorem xw{Q:List Value->Shared->Prop}{r:Addr}{a b c:Int}{t u v:Tok}{n:Nat}(J:A.handled=none)(z:IsRange s.heap r a b c t u v)(j:Builtin.Range.small a b c=true)(hn:Builtin.Range.rangeSize a b c=n)(x:n<=2 ^ 24)
    (hQ:∀(h':Heap)(tk:Nat)(acc:Array Value),(∀b o',s.heap.get? b=some o'->h'.get? b=some o')->ItemsOf (λi v=>∃t,v=.int (a+i * c) t) acc n->Q acc.toList { s with heap:=h',toks:=tk }) :
    wpAny (model prog w) A (collect (.ref r)) Q E s:=by
  unfold collect;refine Cd (wpAny_runValue (codeAny_builtin F.entry_proto_collect ?_));rw[Around.under_plainId F.plain_proto_collect _];show wpAny _ A.in1 (newList [] >>= λl=>again (.builtin "list.__iadd__" ⟨[l,.ref r],[]⟩)) _ _ s;refine Cd (wpAny_newObj_type ?_);refine Cg ⟨plainId_quiet F.plain_list_iadd _,codeAny_builtin F.entry_list_iadd ?_⟩;rw[Around.under_plainId F.plain_list_iadd _];show wpAny _ A.in1 (Builtin.List.listExtendWith (.ref s.heap.objs.size) (.ref r) (.ref s.heap.objs.size)) _ _ _;have I:(s.heap.push { cls:=.type "list", data:=.seq ([]:List Value).toArray }).get? s.heap.objs.size=some { cls:=.type "list", data:=.seq #[] 0 }:=Aw _ rfl
  let G:Shared->Prop:=λs'=>∃h' tk d q,(∀b o,b≠s.heap.objs.size->(s.heap.push { cls:=.type "list", data:=.seq ([]:List Value).toArray }).get? b=some o->h'.get? b=some o)/\h'.get? s.heap.objs.size=some { cls:=.type "list", dict:=none,data:=.seq d q,slots:=#[] }/\ItemsOf (λi v=>∃t,v=.int (a+i * c) t) d n/\s'={ s with heap:=h',toks:=tk }
  have m:∀s',G s'->wpAny (model prog w) A (match Value.ref s.heap.objs.size with
      |Value.ref a=>do
        match (<- load a).data with
          |Data.seq xs _=>pure xs.toList
          |_=>unsupported "internal:collect"
      |_=>unsupported "internal:collect") Q E s':=by
    rintro s' ⟨h',tk,d,q,k1,k2,k3,rfl⟩;show wpAny _ A (load s.heap.objs.size >>= _) _ _ _;refine Cd (wpAny_load k2 ?_);refine Cg ?_;exact hQ h' tk d (λb o' C=>k1 b o' (Bi (Ar C)) (Ah _ C)) k3
  refine wpAny_mono (wpAny_extend_range (A:=A) (R:=λr s'=>r=.ok (.ret (.ref s.heap.objs.size))/\G s')
    (s:={ s with heap:=s.heap.push { cls:=.type "list", data:=.seq ([]:List Value).toArray } }) J (Ah _ z) j hn x _ _ 0 I λh' tk d q k1 k2 k3=>⟨rfl,h',tk,d,q,k1,k2,k3,rfl⟩) (λy s' h=>?_) (λe s' h=>?_)
  . cases y with
    |done f=>obtain⟨e,g⟩:=h;cases e;exact m _ g
    |again q=>exact⟨h.1,codeAny_mono h.2 λr L z=>by obtain⟨rfl,g⟩:=z;exact m _ g⟩
  . exact absurd h.1 (by simp)
theorem jo{Q₁:Cm}{r:Addr}{a b c:Int}{t u v:Tok}{n:Nat}(z:A.handled=none)(x:IsRange s.heap r a b c t u v)(d:Builtin.Range.small a b c=true)(hn:Builtin.Range.rangeSize a b c=n)(m:n<=2 ^ 20)
  (h:∀(h':Heap) (tk:Nat) (acc:Array Value),(∀b o',s.heap.get? b=some o'->h'.get? b=some o')->ItemsOf (λi v=>∃t,v=.int (a+i * c) t) acc n->Q₁ (.ref h'.objs.size) { s with heap:=h'.push { cls:=.type "tuple", data:=.seq acc },toks:=tk }) :
  codeAny (model prog w) A (.call (.builtin "tuple.__new__") ⟨[.type "tuple", .ref r],[]⟩) (wants Q₁ E) s:=by
 refine codeAny_of_tree ?_;show wpAny _ A.in1 (do checkBuiltinCall "tuple.__new__" ⟨[.type "tuple", .ref r],[]⟩;again (.builtin "tuple.__new__" ⟨[.type "tuple", .ref r],[]⟩)) _ _ s;refine Cd (wpAny_of_eq (F.newCall_tuple_1 _) (Cg ⟨plainId_quiet F.plain_tuple_new _,codeAny_builtin F.entry_tuple_new ?_⟩));rw[Around.under_plainId F.plain_tuple_new _];have y:=sub_tuple_self;have q:=init_tuple_lookup;have C:=madeHere_tuple;have o:s.TypeIs (.ref r) "range" := ⟨_,x,rfl⟩
 wp_walk using wpAny_typeOf o,xw (A:=A.in1) z x d hn (Bj m (by decide))
 intro h' tk acc hm j;show wpAny _ _ (Builtin.Tuple.tupleExact acc.toList.toArray >>= λv=>ret v) _ _ _;unfold Builtin.Tuple.tupleExact;have sz:n<=sizeLine:=Bj m (by decide);refine Cd (wpAny_newObj_type ?_ (by show acc.toList.toArray.size<=sizeLine;simp only[Array.toArray_toList];rw[j.1];exact sz));refine Cg ?_;have e:acc.toList.toArray=acc:=by simp
 rw[e];exact h h' tk acc hm j
theorem Vv{Q:Cm}{r:Addr}{a b c:Int}{t u v:Tok}{n:Nat}(m:A.handled=none)(o:IsRange s.heap r a b c t u v)(d:Builtin.Range.small a b c=true)(hn:Builtin.Range.rangeSize a b c=n)(j:n<=2 ^ 20)
  (hQ:∀(h':Heap) (tk:Nat) (acc:Array Value),(∀b o',s.heap.get? b=some o'->h'.get? b=some o')->ItemsOf (λi v=>∃t,v=.int (a+i * c) t) acc n->Q (.ref h'.objs.size) { s with heap:=h'.push { cls:=.type "tuple", data:=.seq acc },toks:=tk }) :
  wpAny (model prog w) A (call (.type "tuple") [.ref r]) Q E s:=by
 refine callType_codes (Q₁:=λobj s₁=>s₁.TypeIs obj "tuple" /\ Q obj s₁) F.called_tuple (F.typeCall_tuple_1 _) F.entry_object_init
  (jo (A:=A.in1) m o d hn j λh' tk acc hm e=>⟨⟨_,Aw _ rfl,rfl⟩,hQ h' tk acc hm e⟩) λobj s₁ h₁=>?_
 exact⟨h₁.1,F.args_object_init_2 obj _,object_init_meets F.called_tuple.init.lookup F.called_tuple.made (by decide) prog w A.in1 _ s₁ ⟨h₁.1,rfl,h₁.2⟩⟩
end
end PySem
namespace L2
open PySem PySem.Spec PyProof.Rows
section
variable{X:Cx}
theorem Py:∀{ns:List Int}{us:List Value},us.length=ns.length->(∀(j:Nat)(u:Value)(n:Int),us[j]?=some u->ns[j]?=some n->∃t,u=.int n t)->Vals (ns.map V.int) us
 | [],[],_,_=>.nil
 | [],_::_,h,_=>by cases h
 |_::_,[],h,_=>by cases h
 |n::ns,u::us,h,f=>.cons (f 0 u n rfl rfl) (Py (Nat.succ.inj h) λj v m a b=>f (j+1) v m a b)
def kg(a c:Int)(n:Nat):List Int:=(List.range n).map λ(i:Nat)=>a+(i:Int) * c
theorem Qb0{a c:Int}{n:Nat}{acc:Array Value}(h:ItemsOf (λi v=>∃t,v=.int (a+i * c) t) acc n):Vals ((kg a c n).map V.int) acc.toList:=by
 refine Py (by simp[kg,h.1]) λj u m h1 h2=>?_;obtain⟨t,e⟩:=h.2 j u (by simpa using h1);have d:j<n:=by have:=(Ag.mp h2).1;simpa [kg]using this
 have:m=a+(j:Int) * c:=by simp[kg,d]at h2;exact h2.symm
 subst this;exact⟨t,e⟩
theorem Qhx{a b:Expr}{J:TA}{p m y c:Pos}(v:Gl X "tuple")(x:X.mg "tuple" = none)(O:Gl X "range")(hm:X.mg "range" = none)(L:X.calm=true)(ha:PA X [a,b] J)
    (hs:starEach [a,b] X.env=[(false,eval a X.env),(false,eval b X.env)]:=by rfl) (hs2:starEach [b] X.env=[(false,eval b X.env)]:=by rfl) (hs3:starEach [.Call (.Name "range" m) [a,b] [] c] X.env=[(false,eval (.Call (.Name "range" m) [a,b] [] c) X.env)]:=by rfl) :
    PE X (.Call (.Name "tuple" p) [.Call (.Name "range" m) [a,b] [] c] [] y) (λσ H Q=>J σ H λvs d=>∃i j:Int,vs=[.int i,.int j]/\(-(2 ^ 62)<=i/\i<2 ^ 62 /\ -(2 ^ 62)<=j/\j<2 ^ 62)/\(j-i).toNat<=2 ^ 20/\∀l,d l=none->Q (.ref l) (upd d l (.tup ((kg i 1 (j-i).toNat).map .int)))):=by
  intro F s σ H Q I h;refine wpAny_Call_Name_kw (qH I v x boot_tuple ?_);refine PyProof.Rows.callWith_type1 ?_ hs3 rfl;rw[hs3];show wpAny _ _ (spliced ((false,eval (.Call (.Name "range" m) [a,b] [] c) X.env)::[])) _ _ s;refine Calls.spliced_cons (Call_ (qH I O hm boot_range (PyProof.Rows.callWith_type1 (thn (ha c F s σ H _ I h) λus Y ⟨vs,d,I1,r1,z⟩=>?_) (by rw[hs,hs2]) (by rw[hs2];rfl))));obtain⟨i,j,e,⟨z,R,S,T⟩,G,q⟩:=z;subst e;cases r1 with
  |cons r C =>
    cases C with
    |cons U C =>
      cases C;obtain⟨t,rfl⟩:=r;obtain⟨t',rfl⟩:=U;refine call_range_2 (Calls.spliced_nil ?_);refine Vv (n:=(j-i).toNat) (I1.ok.hd L) (IsRange.new ..) (small_one z R S T) (by rw[rangeSize_one];split<;>lia) G λh' tk acc k P=>?_
      have E:Inv X F σ d { Y with heap:=h',toks:=tk }:=I1.kept λb o e=>k b o (Ah _ e);have hf:d h'.objs.size=none:=E.hok.fresh (Ai _);refine⟨.ref h'.objs.size,upd d h'.objs.size (.tup ((kg i 1 (j-i).toNat).map .int)),E.laid (t':=tk) (λb u e=>Ah _ e) (Ai _) ?_,rfl,q _ hf⟩;exact⟨by rw[Bm];simp only[kg,Bm,List.length_range];exact Bj G (by decide),acc.toList,Qb0 P,⟨_,Aw _ rfl,rfl,_,rfl⟩⟩
end
end L2
namespace D
open PySem PySem.Spec PyProof.Rows L2
theorem QdA(l:Addr)(items:Array Value)(n:Nat)(i:Array (Option Value))(x:Int)(u:Tok)(c:¬(!Builtin.List.listFitsIndex x)=true)(e:¬items.size * x.toNat > (2 ^ 63-1) / 8)(a:¬Builtin.List.listTooLong (items.size * x.toNat)=true) :
  Meets (Builtin.«list.__mul__» ⟨[.ref l,.int x u],[]⟩) (λ_ R s=>s.heap.get? l=some { cls:=.type "list", dict:=none,data:=.seq items n,slots:=i }/\R (.ok (.ret (Value.ref s.heap.objs.size))) { s with heap:=s.heap.push { cls:=Value.type "list", data:=Data.seq (List.foldl (λx1 x2=>x1++x2) #[] (List.replicate (if items.isEmpty=true then 0 else x.toNat) items)) },toks:=s.toks }) :=
 .of_wp λprog w A R s h=>by
  obtain⟨hp,g,d,tk,os⟩:=s;obtain⟨j,h⟩:=h;have hsz:=PySem.AutoListH.joined_fits a
  wp_walk;refine wpAny_ite_false (Cj (Nat.not_lt.mpr hsz)) ?_;wp_walk;exact⟨_,rfl,h⟩
theorem Qdv(a:Int)(t:Tok)(l:Addr)(items:Array Value)(n:Nat)(c:Array (Option Value)) :
  Meets (Builtin.«int.__rmul__» ⟨[.int a t,.ref l],[]⟩) (λ_ R s=>s.heap.get? l=some { cls:=.type "list", dict:=none,data:=.seq items n,slots:=c }/\R (.ok (.ret Value.notImplemented)) s) :=
 .of_wp λprog w A R s h=>by obtain⟨hp,g,d,tk,os⟩:=s;obtain⟨e,h⟩:=h;wp_walk;exact⟨_,rfl,h⟩
theorem kY(v:Value):∀(n:Nat)(a:Array Value),(List.replicate n #[v]).foldl (λx1 x2=>x1++x2) a=a++(List.replicate n v).toArray
  |0,a=>by simp
  |n+1,a=>by rw[List.replicate_succ,List.foldl_cons,kY v n,List.replicate_succ];apply Array.ext';simp
section
variable{X:Cx}{tg e a b c:Expr}{f fa fb:aD}{pos:Pos}
theorem Ow:OpR X (binaryOp .Mult) (λx y H Q=>∃l z n,x=.ref l/\y=.int n/\SqL X.K H l [z]/\0<=n/\n.toNat<=100000/\∀p,H p=none->Q (.ref p) (upd H p (.lst (List.replicate n.toNat z)))):=by
  intro R s σ H x y v u Q I rx ry h;obtain⟨l,z,n,rfl,rfl,E,Z,h1,q⟩:=h;cases rx;obtain⟨t,rfl⟩:=ry;obtain⟨J,L,⟨⟨k1,S,Y,i⟩,j,d,c1,d1,o⟩,_⟩:=I.list E;simp only at c1 d1 o;subst c1 d1 o;cases L with
  |cons r O =>
    cases O;rename_i w;have hz:(([w]:List Value).toArray.size) * n.toNat=n.toNat:=by simp
    refine wpAny_binaryOp_repeat_ref (T := "list") (U := "int") (by decide) ⟨_,d,rfl⟩ (λs'=>typeIs_int s' n t) noFill_list_mul F.fills_int_mul F.slot_int_rmul repeat_list F.slot_int_index.lookup
      (call_meets F.slot_int_rmul (typeIs_int s n t) F.entry_int_rmul (F.args_int_rmul_2 _ _) (Qdv n t l _ j i)
        ⟨d,rfl,⟨_,d,rfl⟩,call_meets F.slot_list_mul ⟨_,d,rfl⟩ F.entry_list_mul (F.args_list_mul_2 _ _)
          (QdA l _ j i n t (by simp[Builtin.List.listFitsIndex];lia) (by rw[hz];lia) (by rw[hz];simp[Builtin.List.listTooLong,sizeLine];lia))
          ⟨d,?_⟩⟩)
    have C:List.foldl (λx1 x2=>x1++x2) #[] (List.replicate (if ([w]:List Value).toArray.isEmpty=true then 0 else n.toNat) [w].toArray)=(List.replicate n.toNat w).toArray:=by rw[Ce (by simp)];have:=kY w n.toNat #[];simpa using this
    rw[C];have P:Vals (List.replicate n.toNat z) (List.replicate n.toNat w):=by
      generalize n.toNat=m;induction m with
      |zero=>exact .nil
      |succ m G=>exact .cons r G
    exact⟨.ref _,_,I.lnew (t':=s.toks) P (by rw[List.length_replicate];exact Bj h1 (by decide)),rfl,q _ I.fresh⟩
def Cw:DV->DV->M DV
 |.lst [d],.int n=>do Qy (decide (0<=n/\n.toNat<=100000));pure (.lst (List.replicate n.toNat d))
 |x,y=>Ij x y
theorem K6{K:Ae}{ρ:Cr}{B:Cq}{H:Hp}{d:DV}{z:V}(r:au K ρ B H d z):∀n:Nat,ak K ρ B H (List.replicate n d) (List.replicate n z)
 |0=>ak.nil
 |n+1=>by unfold List.replicate ak;exact⟨z,_,rfl,r,K6 r n⟩
theorem SI:P2 X (binaryOp .Mult) Cw:=by
 intro j s σ H x y v u Q I rx ry h;obtain⟨ρ,B,hp,J,L,d,i,W,m,o,e,k⟩:=h;unfold Cw at e;split at e
 ·rename_i d0 n;obtain⟨_,hp1,q,r⟩:=Qg e;obtain⟨hs,rfl⟩:=Qz q;obtain⟨rfl,rfl⟩:=Qm r;obtain⟨C,h1⟩:=Ci hs;obtain⟨l,vs,rfl,O,G,E⟩:=m.bQ;obtain⟨z,rfl,F⟩:=E.bA;exact Ow j s σ H _ _ v u Q I rx ry ⟨l,z,n,rfl,o.aN,G,C,h1,qj W (K6 F _) k⟩
 ·exact MM j s σ H x y v u Q I rx ry ⟨ρ,B,hp,_,_,d,i,W,m,o,e,k⟩
def CK:DV->DV->M DV
  |.ref n,.lst ys=>do
    match <- ZE n with
    |.lst xs=>do Qy (X3 (xs++ys));pure (.lst (xs++ys))
    |_=>failure
  |x,y=>Zf x y
theorem SL:P2 X (binaryOp .Add) CK:=by
  intro m s σ H x y v u Q I rx ry h;obtain⟨ρ,B,hp,P,R,d,j,W,z,C,e,k⟩:=h;unfold CK at e;split at e
  . rename_i n ys
    obtain⟨o,hp1,F,i⟩:=Qg e;obtain⟨G,rfl⟩:=Zt F;cases o with
    |aH _=>cases i
    |ins _ _=>cases i
    |lst xs =>
      obtain⟨_,hp1,J,L⟩:=Qg i;obtain⟨hs,rfl⟩:=Qz J;obtain⟨rfl,rfl⟩:=Qm L;obtain⟨l,rfl,_,vs,h1,q⟩:=au.aV W z G;obtain⟨b,E,rfl,S,O,r⟩:=C.bQ;have hz:vs.length+E.length<=sizeLine:=by have:=ze hs;rw[Ap]at this;rw[<- q.length,<- r.length];exact this
      exact Ox m s σ H _ _ v u Q I rx ry ⟨l,b,vs,E,rfl,rfl,SqL.of h1,O,hz,qj W (ak.append q r) k⟩
  . exact Zu m s σ H x y v u Q I rx ry ⟨ρ,B,hp,_,_,d,j,W,z,C,e,k⟩
def Iv(f:aW):aD:=λenv=>do let xs <- f env;let ds <- BP xs;Qy (X3 ds);pure (.tup ds)
theorem vX{K:Ae}{ρ:Cr}{B:Cq}{H:Hp}:∀ns:List Int,ak K ρ B H (ns.map .int) (ns.map .int)
 | []=>ak.nil
 |n::ns=>by rw[Bf,Bf];unfold ak;exact⟨_,_,rfl,Z6,vX ns⟩
theorem QbO(i:Int)(n:Nat):Xv i n=(kg i 1 n).map .int:=by simp[Xv,kg]
theorem QgS{f:aW}{p u m:Pos}(r:X.mg "tuple" = none)(hm:X.mg "range" = none)(G:X.calm=true)(ha:DA X [a,b] f)(q:Gl X "tuple" := by rfl)(I:Gl X "range" := by rfl)
  (hs:starEach [a,b] X.env=[(false,eval a X.env),(false,eval b X.env)]:=by rfl) (hs2:starEach [b] X.env=[(false,eval b X.env)]:=by rfl) (hs3:starEach [.Call (.Name "range" u) [a,b] [] m] X.env=[(false,eval (.Call (.Name "range" u) [a,b] [] m) X.env)]:=by rfl) :
  DE X (.Call (.Name "tuple" p) [.Call (.Name "range" u) [a,b] [] m] [] pos) (Iv f) :=
 (Qhx q r I hm G ha hs hs2 hs3).imp λσ H Q v=>by
  obtain⟨Z,env,ρ,B,hp,d,L,S,e,k⟩:=v;obtain⟨xs,hp1,x,y⟩:=Qg e;obtain⟨ds,O,z,C⟩:=Qg y;obtain⟨i,j,rfl,h1,h2,rfl,rfl⟩:=QdT z;obtain⟨_,P,E,F⟩:=Qg C;obtain⟨hs,rfl⟩:=Qz E;obtain⟨rfl,rfl⟩:=Qm F;refine cY.run S x λvs ρ1 B1 H1 g1 S1 R=>?_;have n:=Ci h1;have o:=Ci h2;have J:(j-i).toNat<=100000:=by have:=Ci hs;rw[QbN]at this;exact this
  refine⟨i,j,R.ints2,⟨n.1,n.2,o.1,o.2⟩,Bj J (by decide),jU S1.wo (vX _) ?_⟩;rw[<- QbO];exact k.after g1
end
section
variable{X:Cx}{tg e a b c:Expr}{f fa fb:aD}{pos:Pos}
def E_:DV->M Bool
  |.lst ds=>pure (!ds.isEmpty)
  |.tup ds=>pure (!ds.isEmpty)
  |.ref n=>do
    match <- ZE n with
    |.lst ds=>pure (!ds.isEmpty)
    |_=>failure
  |_=>failure
theorem gb{α β:Type}{xs:List α}{ys:List β}(h:xs.length=ys.length):xs.isEmpty=ys.isEmpty:=by cases xs<;>cases ys<;>first|rfl|cases h
theorem Qh6{K:Ae}{ρ:Cr}{B:Cq}{H:Hp}{hp i:Hs}{d:DV}{v:V}{k:Bool}(W:aM K ρ B hp H)(r:au K ρ B H d v)(h:E_ d hp=some (k,i)):hp=i/\CN K v H k:=by
  cases d with
  |lst ds=>obtain⟨rfl,rfl⟩:=Qm h;obtain⟨a,xs,rfl,z,q,m⟩:=r.bQ;exact⟨rfl,.inl ⟨xs,q,by rw[gb m.length]⟩⟩
  |tup ds=>obtain⟨rfl,rfl⟩:=Qm h;obtain⟨a,xs,rfl,z,q,m⟩:=r.tupI;exact⟨rfl,.inr (.inl ⟨xs,q,by rw[gb m.length]⟩)⟩
  |ref n =>
    obtain⟨o,hp1,u,j⟩:=Qg h;obtain⟨x,rfl⟩:=Zt u;cases o with
    |lst C=>obtain⟨rfl,rfl⟩:=Qm j;obtain⟨a,rfl,_,ys,h1,y⟩:=au.aV W r x;exact⟨rfl,.inl ⟨ys,SqL.of h1,by rw[gb y.length]⟩⟩
    |aH _=>cases j
    |ins _ _=>cases j
  |non=>cases h
  |bl _=>cases h
  |int _=>cases h
  |str _=>cases h
def uZ(f:aD):bH:=λenv=>do E_ (<- f env)
theorem uX(h:DE X e f)(n:∀whole,isTrue e X.env whole=(do let v <- whole;standAt e.pos;holding [v] (truthy v)):=by intro _;rfl):DT X e (uZ f) :=
 (QfO h n).imp λσ H Q i=>by obtain⟨Z,env,ρ,B,hp,d,o,S,e,k⟩:=i;obtain⟨x,hp1,j,m⟩:=Qg e;refine tD.run S j λv ρ1 B1 H1 g1 S1 q=>?_;obtain⟨rfl,t⟩:=Qh6 S1.wo q m;exact⟨d,t,k ρ1 B1 H1 g1 S1.wo⟩
def oG(d:DV)(lo hi:Option Int):M DV:=match d with
  |.ref n=>do
    match <- ZE n with
    |.lst ds=>pure (.lst (Kj ds lo hi))
    |_=>failure
  |d=>fO d lo hi
def nT(f:aD)(lo hi:iJ):aD:=λenv=>do let d <- f env;let l <- lo env;let h <- hi env;oG d l h
def WH(K:Ae):V->Option Int->Option Int->Hp->VK->Prop:=λx lo hi H Q=>∃ρ B hp d r i,aM K ρ B hp H/\au K ρ B H d x/\oG d lo hi hp=some (r,i)/\fu K ρ B H r i Q
theorem MI:SlR X (WH X.K):=by
  intro j s σ H x v vl vu lo hi sl Q I rx hs pl pu h;obtain⟨ρ,B,hp,d,r,i,W,q,e,k⟩:=h;cases d with
  |ref n =>
    obtain⟨o,hp1,u,m⟩:=Qg e;obtain⟨y,rfl⟩:=Zt u;cases o with
    |lst ds=>obtain⟨rfl,rfl⟩:=Qm m;obtain⟨a,rfl,_,xs,h1,z⟩:=au.aV W q y;exact Oh j s σ H _ v vl vu lo hi sl Q I rx hs pl pu ⟨a,xs,rfl,SqL.of h1,qj W (Kk z) k⟩
    |aH _=>cases m
    |ins _ _=>cases m
  |lst ds=>exact Cv j s σ H x v vl vu lo hi sl Q I rx hs pl pu ⟨ρ,B,hp,_,r,i,W,q,e,k⟩
  |tup ds=>exact Cv j s σ H x v vl vu lo hi sl Q I rx hs pl pu ⟨ρ,B,hp,_,r,i,W,q,e,k⟩
  |non=>cases e
  |bl _=>cases e
  |int _=>cases e
  |str _=>cases e
theorem Mw{lo hi:Option Expr}{n m:iJ}{G:Pos}(h:DE X e f)(E:DO X lo n)(C:DO X hi m):DE X (.Subscript e (.Slice lo hi none G) pos) (nT f n m) :=
 L2.PE.imp (K0 MI h E C) λσ H Q q=>by obtain⟨Z,env,ρ,B,hp,d,i,S,e,k⟩:=q;obtain⟨x,hp1,r,e⟩:=Qg e;obtain⟨l,F,y,e⟩:=Qg e;obtain⟨u,j,z,e⟩:=Qg e;refine tD.run S r λv ρ1 B1 H1 g1 S1 I=>iY.run S1 y λρ2 B2 H2 g2 S2=>iY.run S2 z λρ3 o H3 g3 S3=>?_;exact⟨ρ3,o,j,x,d,i,S3.wo,au.grow S1.wo.rb (g2.trans g3) _ _ I,e,k.after (g1.trans (g2.trans g3))⟩
end
section
variable{env:En}{hp hp1 hp2 hp3:Hs}{f g h:aD}{ds:List DV}{d:DV}
def jV{n:Nat}(hf:f env hp=some (.ref n,hp))(hn:hp[n]?=some (.lst ds)):QL Zp (Qc f Qk) env hp=some (.int ds.length,hp):=Zr (QK hf) (XN hn)
end
section
variable{prog:Program}{w:World}{A:Around}{E:Cm}{s:Shared}
theorem Qg7:typeLookup (.type "list") "keys" = pure none:=am_miss_of_fast (by decide +kernel)
theorem Qg6{a:Addr}{o:Obj}{xs:Array Value}{k:Nat}{Q:Option Value->Shared->Prop}(hx:s.heap.get? a=some o)(q:o.cls=.type "list")(i:o.data=.seq xs k)(hd:o.dict=none)(v:A.handled=none)
  (h:∀h' tk e,Heap.NewExcOf s.heap h' e "AttributeError" -> Q none { s with heap:=h',toks:=tk }):wpAny (model prog w) A (getAttr? (.ref a) "keys") Q E s:=by
 obtain⟨c,u,r,x⟩:=o;simp only at q i hd;subst q i hd;obtain⟨hp,g,d,tk,os⟩:=s;have n:∀m,(⟨hp,g,d,m,os⟩:Shared).TypeIs (.ref a) "list" := λ_=>⟨_,hx,rfl⟩;have y:=sub_AttributeError;have z:=PySem.F.slot_list_getattribute.lookup;have C:=PySem.F.slot_list_getattribute.bind (.ref a);have G:=am_list_getattr_none;unfold getAttr? getAttrBy? getAttrBy
 repeat (any_goals (first|assumption|exact n _|((with_reducible show wpAny _ _ (call (Value.builtin "list.__getattribute__") _ _) _ _ _);refine call_meets PySem.F.slot_list_getattribute (n _) am_entry_list_getattribute (PySem.F.args_list_getattribute_2 _ _) (meets_getattribute_miss_list a xs k x "keys" _ Qg7 (by decide +kernel)) ⟨hx,v,λh' m e j=>?_⟩)|wp_step))
 obtain⟨t',J,I⟩:=j.there;show wpAny _ _ (getattributeRaised _ _ _ _ _ _ _) _ _ _;unfold getattributeRaised
 repeat (any_goals (first|assumption|wp_step))
 exact h _ _ _ j.of
end
section
variable{prog:Program}{w:World}{K:Type}[DecidableEq K]{knd:KeyKind prog w K}{A:Around}{R:Result->Shared->Prop}
theorem vN:entryFor table "dict.update.loop" = some Builtin.«dict.update.loop»:=entryFor_of_tree (by kernel_rfl)
theorem jT:plainId "dict.update.loop" = true:=by decide +kernel
def Ec(knd:KeyKind prog w K)(h:Heap)(u:Value)(a:K×Value):Prop:=∃t o n key,u=.ref t/\h.get? t=some o/\o.cls=.type "tuple" /\ o.data=.seq #[key,a.2] n/\knd.is a.1 key=true
theorem QeK{d m l:Addr}{items:Array Value}{more:List (K×Value)}(hh:A.handled=none)(v:d≠m)(Ww:l≠d)(Z:l≠m)(hsz:more.length<=sizeLine)(ad:items.size=more.length) :
    ∀(k i:Nat)(s:Shared),more.length-i=k->i<=more.length->s.heap.IsListIter m l i->s.heap.IsList l items ->
    (∀(j:Nat)(u:Value)(L:K×Value),items[j]?=some u->more[j]?=some L->Ec knd s.heap u L/\u≠.ref d/\u≠.ref m)->s.heap.DictOf knd d (merged [] (more.take i)) ->
    (∀h' t',h'.DictOf knd d (merged [] more)->(∀b o,b≠d->b≠m->s.heap.get? b=some o->h'.get? b=some o)->R (.ok (.ret .none)) { s with heap:=h',toks:=t' }) ->
    codeAny (model prog w) A (.builtin "dict.update.loop" ⟨[.ref d,.ref m,rawInt i,.none],[]⟩) R s:=by
  intro k;induction k with
  |zero =>
    intro i s hk hi hit J hp hd S;have X:i=more.length:=⋯
    refine codeAny_builtin vN ?_;rw[Around.under_plainId jT _];show wpAny _ A.in1 (pyNext (.ref m) >>= _) _ _ s;refine Cd (wpAny_pyNext_list_end (by exact hh) hit J (by rw[Array.getElem?_eq_none];lia) λh' hx=>?_);refine Cd (Cg (Cg (S h' s.toks ?_ λb o y c e=>hx b o c e)));rw[X,List.take_length]at hd;obtain⟨o,es,O,ho,r⟩:=hd;exact⟨o,es,O,hx d o v ho,r⟩
  |succ k ih =>
    intro i s hk hi hit J hp hd S;have ae:i<more.length:=⋯
    obtain⟨u,hu⟩:∃u,items[i]?=some u:=⟨items[i]'⋯,Array.getElem?_eq_getElem _⟩;have E:more[i]?=some more[i]:=Af _;obtain⟨⟨t,o,n,key,rfl,ht,a9,ac,q⟩,n1,n2⟩:=hp i u _ hu E;refine codeAny_builtin vN ?_;rw[Around.under_plainId jT _];show wpAny _ A.in1 (pyNext (.ref m) >>= _) _ _ s;refine Cd (wpAny_pyNext_list_item hit J hu λh1 C x=>?_);have td:t≠d:=λe=>n1 (by rw[e]);have ti:t≠m:=λe=>n2 (by rw[e]);have G:h1.get? t=some o:=(x.2 t ti).trans ht;refine Cd (wpAny_holding ?_);refine Cd (wpAny_tryCatch ?_);unfold Builtin.Dict.pairItems;refine Cd (wpAny_typeOf ⟨o,G,a9⟩ ?_);rw[Cf (by decide)];refine Cd (wpAny_seqItems G ac (Cg ?_));show wpAny _ _ (holding [key,more[i].2] (dictSet d key more[i].2)) _ _ _;refine wpAny_holding ?_;unfold dictSet
    try with_reducible refine wpAny_holding ?_
    obtain⟨od,es,O,a6,rd⟩:=hd;have U:h1.DictOf knd d (merged [] (more.take i)):=⟨od,es,O,(x.2 d v).trans a6,rd⟩;have ml:(merged [] (more.take i)).length<=sizeLine:=by have:=merged_length_le (K:=K) [] (more.take i);rw[List.length_take]at this;simp at this;lia
    refine Cd (knd.pyHash q (wpAny_dictSetHashed_pairs (hsz:=ml) q U λh2 z F=>?_));rw[<- merged_take_succ [] more i _ E]at z;have keep:∀b o,b≠d->b≠m->s.heap.get? b=some o->h2.get? b=some o:=λb o y c e=>(F.2 b y).trans ((x.2 b c).trans e);obtain⟨oi,a7,ri⟩:=C;obtain⟨ol,a8,rl⟩:=J;refine Cg ⟨plainId_quiet jT _,?_⟩;refine ih (i+1) _ ⋯ ⋯ ⟨oi,(F.2 m v.symm).trans a7,ri⟩ ⟨ol,keep l ol Ww Z a8,rl⟩ (λj u L P Q=>?_) z λh' t' T Y=>?_
    . obtain⟨⟨t',o',n',I,rfl,a,b⟩,c1,c2⟩:=hp j u L P Q
      exact⟨⟨t',o',n',I,rfl,keep t' o' (λe=>c1 (by rw[e])) (λe=>c2 (by rw[e])) a,b⟩,c1,c2⟩
    . exact S h' t' T λb o y c e=>Y b o y c (keep b o y c e)
end
section
variable{prog:Program}{w:World}{K:Type}[DecidableEq K]{knd:KeyKind prog w K}{A:Around}{E:Cm}{s:Shared}
theorem Ke{l:Addr}{o:Obj}{items:Array Value}{n:Nat}{more:List (K×Value)}{Q:Cm}(S:A.handled=none)(O:s.heap.get? l=some o)(G:o.cls=.type "list")(d:o.data=.seq items n)(J:o.dict=none)
  (hsz:more.length<=sizeLine) (hlen:items.size=more.length) (hp:∀(j:Nat)(u:Value)(x:K×Value),items[j]?=some u->more[j]?=some x->Ec knd s.heap u x)
  (h:∀h' t',h'.DictOf knd s.heap.objs.size (merged [] more)->(∀b o,s.heap.get? b=some o->h'.get? b=some o)->Q (.ref s.heap.objs.size) { s with heap:=h',toks:=t' }) :
  wpAny (model prog w) A (call (.type "dict") [.ref l]) Q E s:=by
 refine callType_codes (Q₁:=λobj s₁=>obj=.ref s.heap.objs.size/\s₁={ s with heap:=s.heap.push { cls:=.type "dict", data:=.dict #[] } }) PySem.F.kt_called_dict (PySem.F.kt_typeCall_dict_1 _) PySem.F.entry_dict_init (kt_code_dict_new _ ⟨rfl,rfl⟩) ?_;rintro obj s₁ ⟨rfl,rfl⟩;have c:(s.heap.push { cls:=.type "dict", data:=.dict #[] }).DictOf knd s.heap.objs.size []:=Heap.DictOf.new s.heap;have i:(s.heap.push { cls:=.type "dict", data:=.dict #[] }).get? l=some o:=Ah _ O;have R:∀b q,s.heap.get? b=some q->b≠s.heap.objs.size:=λb q e z=>absurd (Ar e) (by rw[z];exact B0 _);refine⟨c.typeIs,PySem.F.args_dict_init_2 _ _,?_⟩;unfold Builtin.«dict.__init__»;refine Cd ?_;unfold Builtin.Dict.selfAndRest;refine Cd (wpAny_notOrdered_dict c.typeIs ?_);show wpAny _ _ (pure (s.heap.objs.size,[Value.ref l])) _ _ _;refine Cg ?_;show wpAny _ _ (Builtin.Dict.updateFrom "dict.__init__" s.heap.objs.size (.ref l) [] .none) _ _ _;unfold Builtin.Dict.updateFrom;refine Cd (wpAny_typeOf ⟨o,i,G⟩ ?_);rw[Cf (by decide)];refine Cd (Qg6 i G d J (by exact S) λh1 Y X hx=>?_);rw[Cf (show(none:Option Value).isNone=true from rfl)];refine Cd (wpAny_rule ?_);have v:h1.IsList l items:=⟨o,hx.keeps l o i,G,n,d⟩;refine Cd (wpAny_pyIter_list v ?_);have dn:s.heap.objs.size≠h1.objs.size:=λz=>by obtain⟨od,_,_,m,_⟩:=c;exact absurd (Ar (hx.keeps _ _ m)) (by rw[z];exact B0 _)
 have kp:∀b q,s.heap.get? b=some q->(h1.push { cls:=.type "list_iterator", data:=.fields #[.ref l,.int 0 0] }).get? b=some q:=λb q e=>Ah _ (hx.keeps b q (Ah _ e));have P:∀b q,s.heap.get? b=some q->b≠h1.objs.size:=λb q e z=>absurd (Ar (hx.keeps b q (Ah _ e))) (by rw[z];exact B0 _);refine Cg ⟨plainId_quiet jT _,?_⟩;refine QeK (knd:=knd) (l:=l) (items:=items) (more:=more) (by exact S) dn (R l o O) (P l o O) hsz hlen more.length 0 _ rfl (Bh _) ⟨_,Aw _ rfl,rfl,rfl⟩ (v.push _) (λj u x y C=>?_) ?_ λh' t' I L=>⟨rfl,h h' t' I λb q e=>L b q (R b q e) (P b q e) (kp b q e)⟩
 ·obtain⟨t,o',U,key,rfl,a,b⟩:=hp j u x y C;exact⟨⟨t,o',U,key,rfl,kp t o' a,b⟩,λe=>R t o' a (by injection e),λe=>P t o' a (by injection e)⟩
 ·obtain⟨od,es,T,m,r⟩:=c;exact⟨od,es,T,Ah _ (hx.keeps _ _ m),r⟩
end
section
variable{X:Cx}
def lX:List DV->Option (List (Key×DV))
  | []=>some []
  |.tup [k,v]::r=>match je k,lX r with
    |some k,some ps=>some ((k,v)::ps)
    |_,_=>none
  |_=>none
def iB:DV->M (List DV)
  |.lst ds=>pure ds
  |.ref n=>do
    match <- ZE n with
    |.lst ds=>pure ds
    |_=>failure
  |_=>failure
theorem gC{d:DV}{ds:List DV}{hp c:Hs}{K:Ae}{ρ:Cr}{B:Cq}{H:Hp}{v:V}(W:aM K ρ B hp H)(r:au K ρ B H d v)(h:iB d hp=some (ds,c)):hp=c/\∃p xs,v=.ref p/\SqL K H p xs/\ak K ρ B H ds xs:=by
  cases d with
  |lst xs=>obtain⟨rfl,rfl⟩:=Qm h;obtain⟨a,ys,rfl,_,q,l⟩:=r.bQ;exact⟨rfl,a,ys,rfl,q,l⟩
  |ref n =>
    obtain⟨o,hp1,i,e⟩:=Qg (show(ZE n >>= λo=>(match o with|.lst ds=>pure ds|_=>failure:M (List DV))) hp=some (ds,c)from h);obtain⟨j,rfl⟩:=Zt i;cases o with
    |lst u=>obtain⟨rfl,rfl⟩:=Qm e;obtain⟨a,rfl,_,ys,h1,m⟩:=au.aV W r j;exact⟨rfl,a,ys,rfl,SqL.of h1,m⟩
    |aH _=>cases e
    |ins _ _=>cases e
  |non=>cases h
  |bl _=>cases h
  |int _=>cases h
  |str _=>cases h
  |tup _=>cases h
def nF(o:Option α):M α:=match o with
 |some a=>pure a
 |none=>failure
theorem yX{o:Option α}{a:α}{hp c:Hs}(h:nF o hp=some (a,c)):o=some a/\hp=c:=by
 cases o with
 |none=>cases h
 |some z=>obtain⟨rfl,rfl⟩:=Qm h;exact⟨rfl,rfl⟩
def sZ:List DV->M DV:=nZ λd=>do
 let ds <- iB d
 let ps <- nF (lX ds)
 JZ (.aH (qI [] ps))
theorem QhE{L:Cn}{σ:St}{H:Hp}{s:Shared}{ρ:Cr}{B:Cq}(I:Inv X L σ H s):∀{ds:List DV}{kvs:List (Key×DV)}{ys:List V}{i:List Value},lX ds=some kvs->ak X.K ρ B H ds ys->Vals ys i ->
    ∃(C:List (Key×V))(more:List (Key×Value)),aK X.K ρ B H kvs C/\KV C more/\i.length=more.length/\∀(j:Nat)(u:Value)(q:Key×Value),i[j]?=some u->more[j]?=some q->Ec (ZR X.prog X.w) s.heap u q:=by
  intro ds;induction ds with
  |nil=>intro kvs ys i h r v;cases h;unfold ak at r;subst r;cases v;exact⟨[],[],.nil,.nil,rfl,λj u q h=>by simp at h⟩
  |cons d ds ih =>
    intro kvs ys i h r v;unfold ak at r;obtain⟨y,a7,rfl,r1,r2⟩:=r;cases v with
    |@cons _ u _ us v1 v2 =>
    obtain⟨k,m,rfl,z,ps,hk,E,rfl⟩:∃k m,d=.tup [k,m]/\∃z ps,je k=some z/\lX ds=some ps/\kvs=(z,m)::ps:=by
      unfold lX at h;split at h
      . rename_i e;cases e
      . rename_i k v r e
        injection e with U Y;subst U Y;split at h
        . rename_i a b c d;cases h;exact⟨_,_,rfl,_,_,c,d,rfl⟩
        . cases h
      . cases h
    obtain⟨C,more,O,P,Q,R⟩:=ih E r2 v2;obtain⟨a,xs,rfl,_,sq,l⟩:=r1.tupI;obtain⟨x1,r',rfl,S,l⟩:=(show ∃x r,xs=x::r/\au X.K ρ B H k x/\ak X.K ρ B H [m] r by unfold ak at l;exact l);obtain⟨x2,a6,rfl,T,l⟩:=(show ∃x r,r'=x::r/\au X.K ρ B H m x/\ak X.K ρ B H [] r by unfold ak at l;exact l);unfold ak at l;subst l;obtain rfl:=qR hk S;cases v1;obtain⟨J,G,pl,hz⟩:=I.tuple sq;cases G with
    |@cons _ w1 _ ws q1 F =>
    cases F with
    |@cons _ w2 _ ws F q3 =>
    cases q3;obtain⟨o,ho,Z,n,hd⟩:=pl;refine⟨(z,x2)::C,(z,w2)::more,.cons ⟨rfl,T⟩ O,.cons ⟨rfl,F⟩ P,by simp[Q],λj u q h1 h2=>?_⟩;cases j with
    |zero=>cases h1;cases h2;exact⟨a,o,n,w1,rfl,ho,Z,hd,KI q1⟩
    |succ j=>exact R j u q h1 h2
theorem QgI(R:X.calm=true):CallR X (.type "dict") (eG X.K sZ):=by
 intro O9 s σ H xs us Q I r h;obtain⟨ρ,B,hp,ds,d,T,W,rl,e,k⟩:=h;obtain⟨x,rfl,e⟩:=j0 e;obtain⟨zs,hp1,G,J⟩:=Qg e;obtain⟨kvs,U,L,O⟩:=Qg J;obtain⟨P,rfl⟩:=yX L;cases O;obtain⟨v,rfl,rv⟩:=rl.bA;obtain⟨rfl,p,ys,rfl,sq,l⟩:=gC W rv G;obtain⟨u,rfl,rx⟩:=Y3 r;cases rx;obtain⟨Y,C,pl,hz⟩:=I.list sq;obtain⟨o,n,S,m,q,c⟩:=pl;obtain⟨i,more,E,y,z,F⟩:=QhE I P l C;have zm:more.length<=sizeLine:=by rw[<- z,<- C.length];exact hz
 have zk:(jC [] i).length<=sizeLine:=by have h1:=xJ i [];have h2:=y.length;rw[List.length_nil]at h1;lia
 refine Ke (knd:=ZR X.prog X.w) (I.ok.hd R) S m c q zm (by simpa using z) (λj u Z h1 h2=>F j u Z (by simpa using h1) h2) λh' t' dd kp=>?_;have hn:=I.hok.fresh (Ai s.heap.objs.size);refine⟨.ref s.heap.objs.size,_,I.laid (a:=s.heap.objs.size) (o:=.dK (jC [] i)) (t':=t') kp (Ai _) (Ng zk (beq_eq_false_iff_ne.mpr (Ne.symm (Bi I.big))) (y.merge .nil) dd),rfl,?_⟩;have g:Gr X.K ρ B H (ρ++[s.heap.objs.size]) (zt B s.heap.objs.size) (upd H s.heap.objs.size (.dK (jC [] i))):=Gr.cI hn I.eX;refine k _ _ _ _ g (W.cI hn I.eX (aK.fU (aK.gs ?_ (aK.merge E (kvs:=[]) (xs:=[]) .nil)) QU)) ?_
 ·exact g.gs W.rb
 ·unfold au;exact⟨_,rfl,by rw[<- W.len];simp⟩
end
def lg:List DV->Option (List Bool)
 | []=>some []
 |.bl b::r=>(lg r).map (b :: ·)
 |_=>none
def GT:List DV->M DV:=nZ λd=>do
 let ds <- iB d
 let bs <- nF (lg ds)
 pure (.bl (bs.all id))
section
variable{prog:Program}{w:World}{A:Around}{E:Cm}{s:Shared}
theorem QdP(bs:List Bool):(List.range bs.length).all (λi=>bs.getD i false)=bs.all id:=by
  induction bs with
  |nil=>rfl
  |cons b bs a=>rw[Be,List.range_succ_eq_map,Cb,List.all_map,Cb,<- a];rfl
theorem G8{l:Addr}{items:Array Value}{bs:List Bool}{Q:Cm}(q:A.handled=none)(c:s.heap.IsList l items)(a:items.size=bs.length)(n:∀(i:Nat)(v:Value),items[i]?=some v->v=.bool (bs.getD i false))
  (h:∀h' tk,(∀b o,s.heap.get? b=some o->h'.get? b=some o)->Q (.bool (bs.all id)) { s with heap:=h',toks:=tk }):wpAny (model prog w) A (call (.builtin "all") [.ref l]) Q E s:=by
 refine call_all_walk (wpAny_pyIter_list c ?_);have d:l≠s.heap.objs.size:=λe=>by obtain⟨o,u,_⟩:=c;exact B0 _ (e▸Ar u)
 refine⟨s.heap.objs.size,_,_,_,_,_,λi=>bs.getD i false,rfl,Walks.list (by exact q) s.heap.objs.size l d items,?_,λi v s' Q' E' j m=>?_,λh' tk r=>?_⟩
 ·exact⟨⟨_,Aw _ rfl,rfl,rfl⟩,c.push _⟩
 ·have:v=.bool (bs.getD i false):=n i v j;subst this;exact Cg m
 ·rw[a,QdP];refine h h' tk λb o e=>r b o (λz=>?_) (Ah _ e);have:b=s.heap.objs.size:=by simpa using z
  exact B0 _ (this▸Ar e)
end
section
variable{X:Cx}
theorem QgG{K:Ae}{ρ:Cr}{B:Cq}{H:Hp}:∀{ds:List DV}{bs:List Bool}{ys:List V}{a:List Value},lg ds=some bs->ak K ρ B H ds ys->Vals ys a->a.length=bs.length/\∀(i:Nat)(v:Value),a[i]?=some v->v=.bool (bs.getD i false):=by
  intro ds;induction ds with
  |nil=>intro bs ys a h r v;cases h;unfold ak at r;subst r;cases v;exact⟨rfl,λi v h=>by simp at h⟩
  |cons d ds o =>
    intro bs ys a h r v;unfold ak at r;obtain⟨y,C,rfl,e,q⟩:=r;cases v with
    |@cons _ u _ us x z =>
    cases d<;>first|(simp[lg]at h;done)|skip
    rename_i b;have h:(lg ds).map (b :: ·)=some bs:=h;obtain⟨n,h1,rfl⟩:=Bv.mp h;obtain⟨j,m⟩:=o h1 q z;unfold au at e;subst e;cases x;refine⟨by simp[j],λi v c=>?_⟩;cases i with
    |zero=>cases c;rfl
    |succ i=>exact m i v c
theorem Kc(y:X.calm=true):CallR X (.builtin "all") (eG X.K GT):=by intro P s σ H xs us Q I r h;obtain⟨ρ,B,hp,ds,d,z,W,G,e,k⟩:=h;obtain⟨x,rfl,e⟩:=j0 e;obtain⟨R,hp1,j,m⟩:=Qg e;obtain⟨bs,C,n,o⟩:=Qg m;obtain⟨q,rfl⟩:=yX n;obtain⟨rfl,rfl⟩:=Qm o;obtain⟨v,rfl,J⟩:=G.bA;obtain⟨rfl,p,ys,rfl,O,l⟩:=gC W J j;obtain⟨u,rfl,L⟩:=Y3 r;cases L;obtain⟨E,F,pl,hz⟩:=I.list O;obtain⟨a,c⟩:=QgG q l F;refine G8 (bs:=bs) (I.ok.hd y) pl.isList (by simpa using a) (λi v h=>c i v (by simpa using h)) λh' tk kp=>?_;exact⟨.bl (bs.all id),H,I.kept (t':=tk) kp,rfl,k _ ρ B H Gr.refl W (by unfold au;rfl)⟩
end
end D
namespace L2
open PySem PySem.Spec PyProof.Rows
theorem Qb1:typeLookup (.type "zip") "__len__" = pure none:=am_miss_of_fast (by decide +kernel)
theorem QaW:typeLookup (.type "zip") "__length_hint__" = pure none:=am_miss_of_fast (by decide +kernel)
section
variable{X:Cx}{O9:Cn}{σ:L2.St}
def tW(H0 H:Hp)(xs ys:List V)(ts:List V):Prop:=∀(m:Nat)(t:V),ts[m]?=some t->∃(a:Addr)(x y:V),t=.ref a/\xs[m]?=some x/\ys[m]?=some y/\H0 a=none/\H a=some (.tup [x,y])
theorem Qij{A:Around}{R:Result->Shared->Prop}{H0:Hp}{z p o i j a b S:Addr}{xs ys:List V}{res:Value}(hh:A.handled=none)(D:ZA z p o i j a b)(qa:SqT X.K H0 a xs)(qb:SqT X.K H0 b ys)(a6:H0 S=none)(FJ:S∉[z,p,o,i,j]) :
    ∀(k n : Nat)(s : Shared)(H : Hp)(ts : List V), min xs.length ys.length-n = k -> n <= min xs.length ys.length -> Inv X O9 σ H s -> (∀c ∈ [z, p, o, i, j], Vq X O9 H c) -> ZU s.heap z p o i j a b n -> (∀c q, H0 c = some q -> H c = some q) ->
      H S=some (.lst ts)->ts.length=n->tW H0 H xs ys ts ->
      (∀(s':Shared)(Q:Hp)(C:List V),Inv X O9 σ Q s'->(∀c q,H0 c=some q->Q c=some q)->Q S=some (.lst C)->C.length=min xs.length ys.length->tW H0 Q xs ys C->R (.ok (.ret res)) s') ->
    codeAny (model X.prog X.w) A (.builtin "list.extend.loop" ⟨[.ref S,.ref z,res],[]⟩) R s:=by
  intro k;induction k with
  |zero =>
    intro n s H ts hk hn I hf Z kp E hl Y hR;have P:∀{c:Addr}{vs:List V},SqT X.K H0 c vs->SqT X.K H c vs:=λ{c vs} q=>by
      rcases q with q|q
      . exact .inl (by rcases q with q|⟨oo,q⟩;exact .inl (kp _ _ q);exact .inr ⟨oo,kp _ _ q⟩)
      . exact .inr q
    obtain⟨ia,ra,pa,_⟩:=I.tuple (P qa);obtain⟨ib,rb,pb,_⟩:=I.tuple (P qb);have l1:=ra.length;have l2:=rb.length;obtain⟨f0,lK,U,nP⟩:=Z.zz;have L:s.TypeIs (.ref z) "zip" := ⟨_,U,rfl⟩;refine codeAny_builtin F.entry_extend_loop ?_;rw[Around.under_plainId F.plain_extend_loop _];show wpAny _ A.in1 (pyNext (.ref z) >>= _) _ _ s;refine Cd ?_;unfold pyNext;refine Cd (wpAny_attempt (wpAny_callSpecial?_slot (name:=Str.ofString "__next__") L F.slot_zip_next (wpAny_call_entry F.slot_zip_next L F.entry_zip_next
      (Np (by exact hh) D Z (show s.heap.IsTuple a ia.toArray from pa) (show s.heap.IsTuple b ib.toArray from pb) (by rcases Nat.le_total xs.length ys.length with q|q;exact .inl (by simp;lia);exact .inr (by simp;lia)) λg x r hx=>?_) (F.args_zip_next_1 _))))
    obtain⟨ox,h1,h2⟩:=hx;refine Cd (wpAny_isInstance (T := "StopIteration") (b:=true) ⟨ox,h1,h2⟩ isSubtype_stop ?_);refine Cg ?_;refine Cg (hR _ H ts (I.lD (t':=s.toks) hf λc q d e=>?_) kp E ⋯ Y);simp only[Bk,Bu,or_false,not_or]at d;exact r c q d.1 d.2.2.1 d.2.2.2.1 d.2.2.2.2 e
  |succ k ih =>
    intro n s H ts hk hn I hf Z kp E hl Y hR;have P:∀{c:Addr}{vs:List V},SqT X.K H0 c vs->SqT X.K H c vs:=λ{c vs} q=>by
      rcases q with q|q
      . exact .inl (by rcases q with q|⟨oo,q⟩;exact .inl (kp _ _ q);exact .inr ⟨oo,kp _ _ q⟩)
      . exact .inr q
    obtain⟨ia,ra,pa,za⟩:=I.tuple (P qa);obtain⟨ib,rb,pb,_⟩:=I.tuple (P qb);have hx:xs[n]?=some xs[n]:=Af ⋯;have hy:ys[n]?=some ys[n]:=Af ⋯;obtain⟨u,hu,ru⟩:=ra.get hx;obtain⟨v,hv,rv⟩:=rb.get hy;obtain⟨f0,lK,U,nP⟩:=Z.zz;have L:s.TypeIs (.ref z) "zip" := ⟨_,U,rfl⟩;refine codeAny_builtin F.entry_extend_loop ?_;rw[Around.under_plainId F.plain_extend_loop _];show wpAny _ A.in1 (pyNext (.ref z) >>= _) _ _ s;refine Cd ?_;unfold pyNext;refine Cd (wpAny_attempt (wpAny_callSpecial?_slot (name:=Str.ofString "__next__") L F.slot_zip_next (wpAny_call_entry F.slot_zip_next L F.entry_zip_next
      (Nq D Z (show s.heap.IsTuple a ia.toArray from pa) (show s.heap.IsTuple b ib.toArray from pb) (by simpa using hu) (by simpa using hv) λg' S' tp sz rY=>Cg ?_) (F.args_zip_next_1 _))))
    have r:∀c q,c∉[z,p,o,i,j]->s.heap.get? c=some q->g'.get? c=some q:=λc q d e=>by simp only[Bk,Bu,or_false,not_or]at d;exact rY c q d.1 d.2.2.1 d.2.2.2.1 d.2.2.2.2 e
    have ne:∀c∈[z,p,o,i,j],c≠s.heap.objs.size:=λc d e=>by
      obtain⟨_,pp,⟨u1,u2,oo⟩,⟨oi,ei,_⟩,⟨oj,ej,_⟩⟩:=Z;simp only[Bk,Bu,or_false]at d;rcases d with rfl|rfl|rfl|rfl|rfl
      . exact Bi (Ar U) e
      . exact Bi (Ar pp) e
      . exact Bi (Ar oo) e
      . exact Bi (Ar ei) e
      . exact Bi (Ar ej) e
    have fr:=I.fresh;have I1:=I.fB (t':=s.toks) hf r (us:=[u,v]) (.cons ru (.cons rv .nil)) (show 2<=sizeLine by decide) ⟨_,tp,rfl,_,rfl⟩;have FN:S≠s.heap.objs.size:=λe=>by rw[e,fr]at E;cases E
    have J:upd H s.heap.objs.size (.tup [xs[n],ys[n]]) S=some (.lst ts):=by rw[QS FN];exact E
    obtain⟨zl,a8,c,vl,ll,e1⟩:=I1.lstM J;have a7:(ts++[V.ref s.heap.objs.size]).length<=sizeLine:=by rw[Ap];simp;lia
    have I2:=I1.lset (t':=s.toks) (its':=a8++[.ref s.heap.objs.size]) (f:=(·.push (.ref s.heap.objs.size))) J e1 (by simp) (vl.append (.cons (show RelV (V.ref s.heap.objs.size) (Value.ref s.heap.objs.size)from rfl) .nil)) a7;show wpAny _ A.in1 (updateSeq S (·.push (.ref s.heap.objs.size)) >>= _) _ _ _;refine Cd ?_;refine wpAny_updateSeq (s:={ s with heap:=g' }) e1 rfl (Cg ⟨plainId_quiet F.plain_extend_loop _,ih (n+1) _ _ (ts++[.ref s.heap.objs.size]) ⋯ ⋯ I2 (λc d=>?_) (S'.at λc d q e=>?_) (λc q e=>?_) QU (by rw[Ap];simp;lia) ?_ hR⟩) (by simp;lia) (by simp;lia)
    . have f:=hf c d
      refine⟨?_,f.2⟩;rw[QS (show c≠S from λe=>FJ (e▸d)),QS (ne c d)];exact f.1
    . exact(Heap.get?_update_other _ _ (λh:S=c=>FJ (h▸d))).trans e
    . rw[QS (λz=>by rw[z,a6]at e;cases e),QS (λz=>by have:=kp c q e;rw[z,fr]at this;cases this)];exact kp c q e
    . intro m t G
      by_cases hm:m<ts.length
      . rw[Aj hm]at G
        obtain⟨aa,x,y,r1,r2,r3,r4,O⟩:=Y m t G;refine⟨aa,x,y,r1,r2,r3,r4,?_⟩;rw[QS (λz=>by rw[z,E]at O;cases O),QS (λz=>by rw[z,fr]at O;cases O)];exact O
      . rw[As ⋯]at G
        have m0:m-ts.length=0:=by have:=(Ag.mp G).1;simp at this;lia
        rw[m0]at G;cases G;have mn:m=n:=⋯
        subst mn;refine⟨_,_,_,rfl,hx,hy,?_,?_⟩
        . cases q:H0 s.heap.objs.size with
          |none=>rfl
          |some w=>rw[kp _ _ q]at fr;cases fr
        . rw[QS (Ne.symm FN),QU]
theorem Qii{H:Hp}{s:Shared}{E:Cm}{Q:Cm}{z p o i j a b:Addr}{xs ys:List V}(I:Inv X O9 σ H s)(n:X.calm=true)(D:ZA z p o i j a b)(Z:ZU s.heap z p o i j a b 0)(hf:∀c∈[z,p,o,i,j],Vq X O9 H c)
  (qa:SqT X.K H a xs) (qb:SqT X.K H b ys) (q:∀(s':Shared)(r:Hp)(ts:List V),Inv X O9 σ r s'->(∀c q,H c=some q->r c=some q)->r s.heap.objs.size=some (.lst ts)->ts.length=min xs.length ys.length->tW H r xs ys ts->Q (.ref s.heap.objs.size) s') :
  wpAny (model X.prog X.w) X.A (call (.type "list") [.ref z]) Q E s:=by
 have T:=I.ok.hd n;have y:∀c∈[z,p,o,i,j],c<s.heap.objs.size:=λc n=>by
  obtain⟨⟨S,Y,x,nP⟩,pp,⟨u1,u2,oo⟩,⟨oi,P,_⟩,⟨oj,R,_⟩⟩:=Z;simp only[Bk,Bu,or_false]at n;rcases n with rfl|rfl|rfl|rfl|rfl
  ·exact Ar x
  ·exact Ar pp
  ·exact Ar oo
  ·exact Ar P
  ·exact Ar R
 refine callType_codes (Q₁:=λobj s₁=>obj=.ref s.heap.objs.size/\s₁={ s with heap:=s.heap.push { cls:=.type "list", data:=.seq #[] } }) F.called_list (F.typeCall_list_1 _) F.entry_list_init
  (code_list_new _ ⟨rfl,rfl⟩) λobj s₁ h₁=>?_
 obtain⟨rfl,rfl⟩:=h₁;have d:(s.heap.push { cls:=.type "list", data:=.seq #[] }).get? s.heap.objs.size=some { cls:=.type "list", data:=.seq #[] }:=Aw _ rfl;refine⟨⟨_,d,rfl⟩,F.args_list_init_2 _ _,?_⟩;show wpAny _ _ (do let old <- Builtin.List.listItems (.ref s.heap.objs.size);Builtin.List.listUpdate (.ref s.heap.objs.size) (λ_=>#[]);letGo old.toList.reverse;Builtin.List.listExtendWith (.ref s.heap.objs.size) (.ref z) .none) _ _ _;refine Cd ?_;unfold Builtin.List.listItems;refine Cd (wpAny_seqItems d rfl (Cg ?_));show wpAny _ _ (updateSeq s.heap.objs.size (λ_=>#[]) >>= λ_=>letGo (#[]:Array Value).toList.reverse >>= λ_=>Builtin.List.listExtendWith (.ref s.heap.objs.size) (.ref z) .none) _ _ _;refine Cd (wpAny_updateSeq d rfl ?_);have d₁:=Heap.get?_update_self (Obj.mapSeq (λ_=>(#[]:Array Value))) d rfl;refine Cd (wpAny_letGo ?_);have G:z≠s.heap.objs.size:=Bi (y z (by simp));obtain⟨S,Y,x,nP⟩:=Z.zz;have O:((s.heap.push { cls:=.type "list", data:=.seq #[] }).update s.heap.objs.size (Obj.mapSeq λ_=>(#[]:Array Value))).get? z=_:=(Heap.get?_update_other _ _ (Ne.symm G)).trans (Ah _ x);have v:∀(s':Shared),s'.heap=(s.heap.push { cls:=.type "list", data:=.seq #[] }).update s.heap.objs.size (Obj.mapSeq λ_=>(#[]:Array Value))->s'.TypeIs (.ref z) "zip" := λs' e=>⟨_,by rw[e];exact O,rfl⟩;unfold Builtin.List.listExtendWith;refine Cd (wpAny_typeOf (v _ rfl) ?_);have h1:Builtin.List.listSameRef (.ref s.heap.objs.size) (.ref z)=false:=by simp[Builtin.List.listSameRef,Ne.symm G]
 have h2:(Value.type "zip" == Value.type "list")=false:=by decide
 have h3:(Value.type "zip" == Value.type "tuple")=false:=by decide
 simp only[h1,h2,h3,Bool.or_false,Bool.false_eq_true,if_false];refine Cd (wpAny_pyIter_slot (v _ rfl) F.slot_zip_iter (wpAny_call_entry F.slot_zip_iter (v _ rfl) F.entry_zip_iter (Cg ⟨_,rfl, "zip", _,v _ rfl,(F.slot_zip_next).1,?_⟩) (F.args_zip_iter_1 _)));refine Cd (wpAny_holding ?_);unfold Builtin.List.listLengthHint;refine Cd (wpAny_specialOf (v _ rfl) Qb1 ?_);show wpAny _ _ (specialOf (Value.ref z) (Str.ofString "__length_hint__") >>= _) _ _ _;refine Cd (wpAny_specialOf (v _ rfl) QaW ?_);refine Cg ?_;show wpAny _ _ (rule "list.extend.makes-room" >>= λ_=>Builtin.List.listTouch (.ref s.heap.objs.size) >>= λ_ =>
  again (.builtin "list.extend.loop" ⟨[.ref s.heap.objs.size,.ref z,.none],[]⟩)) _ _ _
 refine Cd (wpAny_rule ?_);refine Cd ?_;show wpAny _ _ (updateSeq s.heap.objs.size (·.push .none) >>= λ_=>updateSeq s.heap.objs.size (·.pop)) _ _ _;refine Cd (wpAny_updateSeq d₁ rfl ?_);have d₂:=Heap.get?_update_self (Obj.mapSeq (·.push Value.none)) d₁ rfl;refine wpAny_updateSeq (hz:=by seq_fits) d₂ rfl ?_;have d₃:=Heap.get?_update_self (Obj.mapSeq (·.pop)) d₂ rfl;have kept:∀c u,s.heap.get? c=some u->((((s.heap.push { cls:=.type "list", data:=.seq #[] }).update s.heap.objs.size (Obj.mapSeq λ_=>(#[]:Array Value))).update s.heap.objs.size (Obj.mapSeq (·.push Value.none))).update s.heap.objs.size (Obj.mapSeq (·.pop))).get? c=some u:=λc u e=>by have ne:s.heap.objs.size≠c:=Ne.symm (Bi (Ar e));exact(Heap.get?_update_other _ _ ne).trans ((Heap.get?_update_other _ _ ne).trans ((Heap.get?_update_other _ _ ne).trans (Ah _ e)))
 have L:=I.laid (a:=s.heap.objs.size) (o:=.lst []) (t':=s.toks) kept (Ai _) ⟨by simp,[],_,.nil,d₃⟩;refine Cg ⟨plainId_quiet F.plain_extend_loop _,Qij (H0:=H) (by exact T) D qa qb I.fresh (λhm=>B0 _ (y _ hm)) _ 0 _ _ [] rfl (Bh _) L (λc n=>?_) (Z.at λc n u e=>kept c u e) (λc u e=>?_) QU rfl (λm t U=>by simp at U) λs' r C J k1 k2 k3 k4=>⟨rfl,q s' r C J k1 k2 k3 k4⟩⟩
 ·have f:=hf c n;refine⟨?_,f.2⟩;rw[QS (Bi (y c n))];exact f.1
 ·rw[QS (λz=>by rw[z,I.fresh]at e;cases e)];exact e
end
section
variable{X:Cx}
theorem Qhw{x y:Expr}{L:TA}{p u C d:Pos}(T:Gl X "list")(v:X.mg "list" = none)(S:Gl X "zip")(hm:X.mg "zip" = none)(R:X.calm=true)(ha:PA X [x,y] L)
    (hs:starEach [x,y] X.env=[(false,eval x X.env),(false,eval y X.env)]:=by rfl) (hs2:starEach [y] X.env=[(false,eval y X.env)]:=by rfl) (hs3:starEach [.Call (.Name "zip" u) [x,y] [] d] X.env=[(false,eval (.Call (.Name "zip" u) [x,y] [] d) X.env)]:=by rfl) :
    PE X (.Call (.Name "list" p) [.Call (.Name "zip" u) [x,y] [] d] [] C) (λσ H Q=>L σ H λvs m=>∃a b xs ys,vs=[.ref a,.ref b]/\SqT X.K m a xs/\SqT X.K m b ys /\
      ∀(l:Addr)(n:Hp)(ts:List V),m l=none->(∀c q,m c=some q->n c=some q)->n l=some (.lst ts)->ts.length=min xs.length ys.length->tW m n xs ys ts->Q (.ref l) n):=by
  intro P s σ H Q I h;refine wpAny_Call_Name_kw (qH I T v boot_list ?_);refine PyProof.Rows.callWith_type1 ?_ hs3 rfl;rw[hs3];show wpAny _ _ (spliced ((false,eval (.Call (.Name "zip" u) [x,y] [] d) X.env)::[])) _ _ s;refine Calls.spliced_cons (Call_ (qH I S hm boot_zip (PyProof.Rows.callWith_type1 (thn (ha d P s σ H _ I h) λus s1 ⟨vs,m,I1,r1,q1⟩=>?_) (by rw[hs,hs2]) (by rw[hs2];rfl))));obtain⟨a,b,xs,ys,e,G,J,q⟩:=q1;subst e;cases r1 with
  |cons r E =>
    cases E with
    |cons U E=>cases E;cases r;cases U;refine Ls I1 G J λY z pp o i j I2 D Z hf=>Calls.spliced_nil ?_;refine Qii I2 R D Z hf G J λs3 F ts O k1 k2 k3 k4=>⟨.ref Y.heap.objs.size,F,O,rfl,q _ F ts I2.fresh k1 k2 k3 k4⟩
end
end L2
namespace D
open PySem PySem.Spec PyProof.Rows L2
theorem ak.of_get{K:Ae}{ρ:Cr}{B:Cq}{H:Hp}:∀{ds:List DV}{ts:List V},ds.length=ts.length->(∀(m:Nat)(d:DV)(t:V),ds[m]?=some d->ts[m]?=some t->au K ρ B H d t)->ak K ρ B H ds ts
  | [],[],_,_=>by unfold ak;rfl
  | [],_::_,h,_=>by cases h
  |_::_,[],h,_=>by cases h
  |d::ds,t::ts,h,f=>by unfold ak;exact⟨t,ts,rfl,f 0 d t rfl rfl,ak.of_get (Nat.succ.inj h) λm x y h1 h2=>f (m+1) x y h1 h2⟩
theorem Gr.more{K:Ae}{ρ:Cr}{B:Cq}{H H':Hp}(kp:∀c q,H c=some q->H' c=some q):Gr K ρ B H ρ B H' :=
 ⟨Bw,λ_ h=>h,λ_ h=>.inl h,λ_ z=>.inl z,λa o _ h=>kp a o h,λa q=>by
  cases e:H a with
  |none=>rfl
  |some o=>rw[kp a o e]at q;cases q⟩
theorem aM.more{K:Ae}{ρ:Cr}{B:Cq}{hp:Hs}{H H':Hp}(W:aM K ρ B hp H)(kp:∀c q,H c=some q->H' c=some q):aM K ρ B hp H' where
 len:=W.len
 nd:=W.nd
 obj:=λi a u e q=>by
  refine aP.gs ((Gr.more kp).gs W.rb) ?_ (W.obj i a u e q);have:=W.bt a (W.rb a (Ax e));cases z:H a with
  |none=>exact absurd z this
  |some o=>exact kp a o z
 rb:=W.rb
 bt:=λa h z=>by
  have:=W.bt a h;cases y:H a with
  |none=>exact this y
  |some o=>rw[kp a o y]at z;cases z
 bk:=W.bk
section
variable{X:Cx}{f g:aD}
end
section
variable{X:Cx}{e:Expr}{f:aD}{pos:Pos}
def Dm(f g:aD):aD:=λenv=>do
 let ds <- BZ f g env
 JZ (.lst ds)
def fQ(H:Hp)(l:Addr):Hp:=λa=>if a=l then none else H a
theorem QhO{H:Hp}{l:Addr}{o:HO}(h:H l=some o):upd (fQ H l) l o=H:=by
 funext a;by_cases e:a=l
 ·subst e;rw[QU,h]
 ·rw[QS e];unfold fQ;rw[Ce e]
theorem QgR{x y:Expr}{g:aD}{p r pos i:Pos}(o:X.mg "list" = none)(hm:X.mg "zip" = none)(hc:X.calm=true)(hx:DE X x f)(hy:DE X y g)(oY:Gl X "list" := by rfl)(hg:Gl X "zip" := by rfl)
  (hs:starEach [x,y] X.env=[(false,eval x X.env),(false,eval y X.env)]:=by rfl) (hs2:starEach [y] X.env=[(false,eval y X.env)]:=by rfl) (hs3:starEach [.Call (.Name "zip" r) [x,y] [] i] X.env=[(false,eval (.Call (.Name "zip" r) [x,y] [] i) X.env)]:=by rfl) :
  DE X (.Call (.Name "list" p) [.Call (.Name "zip" r) [x,y] [] i] [] pos) (Dm f g) :=
 L2.PE.imp (Qhw oY o hg hm hc (ZT hx (ZT hy pa_nil (by rw[hs2];rfl)) (by rw[hs,hs2])) hs hs2 hs3).kf λσ H Q T=>by
  obtain⟨Z,env,ρ,B,hp,d,a6,S,e,k⟩:=T;obtain⟨ds,hp0,j,e⟩:=Qg e;cases e;obtain⟨d1,hp1,U,j⟩:=Qg j;obtain⟨xs,a7,Y,j⟩:=Qg j;obtain⟨rfl,rfl⟩:=YI Y;obtain⟨d2,a8,e3,j⟩:=Qg j;obtain⟨ys,cN,e4,j⟩:=Qg j;obtain⟨rfl,rfl⟩:=YI e4;obtain⟨rfl,rfl⟩:=Qm j;refine tD.run S U λv ρ1 B1 H1 g1 S1 r1=>tD.run S1 e3 λu ρ2 B2 E g2 S2 r2=>?_;obtain⟨a,vs,rfl,na,qa,J⟩:=(au.grow S1.wo.rb g2 _ _ r1).tupI;obtain⟨b,us,rfl,nb,qb,L⟩:=r2.tupI;refine⟨a,b,vs,us,rfl,qa,qb,λl H' ts hn kp n len pr kf=>?_⟩;have lf:(fQ H' l) l=none:=by unfold fQ;rw[Cf rfl]
  have I:X.K.lookup l=none:=kf l _ n;have R:∀c q,E c=some q->(fQ H' l) c=some q:=λc q e=>by unfold fQ;rw[Ce (λz=>by rw[z,hn]at e;cases e)];exact kp c q e
  have W0:=S2.wo.more R;have g3:Gr X.K ρ2 B2 E ρ2 B2 (fQ H' l):=Gr.more R;have g4:Gr X.K ρ2 B2 (fQ H' l) (ρ2++[l]) (zt B2 l) (upd (fQ H' l) l (.lst ts)):=Gr.cI lf I;have rl:ak X.K ρ2 B2 (fQ H' l) (Vo xs ys) ts:=ak.of_get (by rw[GP,J.length,L.length];exact len.symm) λm d t h1 h2=>by
   obtain⟨x',y',q1,q2,rfl⟩:=GO h1;obtain⟨u',hu,ru⟩:=J.get q1;obtain⟨v',hv,rv⟩:=L.get q2;obtain⟨F,x2,y2,rfl,O,P,p3,C⟩:=pr m t h2;rw[hu]at O;cases O;rw[hv]at P;cases P;have p5:(fQ H' l) F=some (.tup [u',v']):=by unfold fQ;rw[Ce (λz=>by rw[z,n]at C;cases C)];exact C
   exact zH (λz=>S2.wo.bt F z p3) (SqT.of p5) (ak.gs (g3.gs S2.wo.rb) _ _ (ak.cons ru (ak.one rv)))
  have oR:aP X.K (ρ2++[l]) (zt B2 l) (upd (fQ H' l) l (.lst ts)) l (.lst (Vo xs ys)):=⟨ts,QU,ak.gs (g4.gs W0.rb) _ _ rl⟩;have W1:=W0.cI lf I oR;have G:=(g1.trans g2).trans (g3.trans g4);rw[QhO n]at W1 G;refine k _ _ _ _ G W1 ?_;unfold au;exact⟨l,rfl,by rw[<- S2.wo.len];simp⟩
end
structure UF(K:Ae)(mg:Co)(x:Str)(st:Stmt):Prop where
 ex:∃g fd,Fun K x x st g fd/\mg x=some (.ref g)
structure UC(K:Ae)(c:Str):Prop where
 ex:∀C,aX K c C->Cls K C
structure UM(K:Ae)(c m q:Str)(st:Stmt):Prop where
 ex:∃C g fd,Fun K m q st g fd/\aX K c C/\Cls K C/\uH K C m g
structure UI(K:Ae)(mg:Co)(c q:Str)(st:Stmt):Prop where
 ex:∃C g fd,Fun K "__init__" q st g fd/\aX K c C/\mg c=some (.ref C)/\Mk K C g
structure UG(mg:Co)(x:Str)(i:Int):Prop where
 ex:∃t,mg x=some (.int i t)
structure UT(K:Ae)(mg:Co)(x:Str)(d:DV):Prop where
 ex:∃a,mg x=some (.ref a)/\bB K d (.ref a)
section
variable{K:Ae}{h:Heap}{mg:Co}{f C:Addr}{x c m q:Str}{st:Stmt}{oc:Value}{od an:Option Addr}{osl:Array (Option Value)}{kV doc pm cdv ct:Value}{i:Int}{t:Tok}{d:DV}{a:Addr}
def uf(X:K.In h)(G:h.Ns mainGlobals mg)(n:PySem.W.nsIn K mainGlobals x=some (some (.ref f)))(l:K.lookup f=some ⟨oc,od,.func (PySem.W.fnOf x x (J5 st) (ZM st) (Qp st) .none kV doc pm an cdv ct),osl⟩)(e:PySem.W.codeIn K cdv x=true)(k:PySem.W.keepIn K (.ref f)=true):UF K mg x st:=⟨_,_,gf l e k,PySem.W.mg_of X G n⟩
theorem uc(X:K.In h)(n:PySem.W.nsIn K mainGlobals c=some (some (.ref C)))(p:PySem.W.plainGet K C Str.empty=true)(e:PySem.W.hasDictIn K C=true)(o:PySem.W.plainOver K C=true)(s:PySem.W.findIn K (.ref C) "__setattr__" = some (some (.builtin "object.__setattr__"))):UC K c:=⟨λr j=>by cases aX.uniq (show aX K c C from n) j;exact⟨p,e,o,s⟩⟩
def um(X:K.In h)(u:UC K c)(n:PySem.W.nsIn K mainGlobals c=some (some (.ref C)))(a:PySem.W.findIn K (.ref C) m=some (some (.ref f)))(b:PySem.W.isFn K (.ref f)=true)(l:K.lookup f=some ⟨oc,od,.func (PySem.W.fnOf m q (J5 st) (ZM st) (Qp st) .none kV doc pm an cdv ct),osl⟩)(e:PySem.W.codeIn K cdv q=true)(k:PySem.W.keepIn K (.ref f)=true):UM K c m q st:=⟨_,_,_,gf l e k,n,u.ex _ n,a,b,k⟩
def ui(X:K.In h)(G:h.Ns mainGlobals mg)(n:PySem.W.nsIn K mainGlobals c=some (some (.ref C)))(a:PySem.W.findIn K (.ref C) "__init__" = some (some (.ref f)))(b:PySem.W.isFn K (.ref f)=true)(l:K.lookup f=some ⟨oc,od,.func (PySem.W.fnOf "__init__" q (J5 st) (ZM st) (Qp st) .none kV doc pm an cdv ct),osl⟩)(e:PySem.W.codeIn K cdv q=true)(k:PySem.W.keepIn K (.ref f)=true)(v:PySem.W.makesIn K C=true)(z:PySem.W.keepIn K (.ref C)=true):UI K mg c q st:=⟨_,_,_,gf l e k,n,PySem.W.mg_of X G n,v,a,b,z⟩
def uk(X:K.In h)(u:UC K c)(n:PySem.W.nsIn K mainGlobals c=some (some (.ref C)))(a:PySem.W.findIn K (.ref C) x=some none):X5 K c x:=⟨C,n,u.ex _ n,a⟩
def ug(X:K.In h)(G:h.Ns mainGlobals mg)(n:PySem.W.nsIn K mainGlobals x=some (some (.int i t))):UG mg x i:=⟨_,PySem.W.mg_of X G n⟩
def ut(X:K.In h)(G:h.Ns mainGlobals mg)(n:PySem.W.nsIn K mainGlobals x=some (some (.ref a)))(r:bB K d (.ref a)):UT K mg x d:=⟨_,PySem.W.mg_of X G n,r⟩
theorem QW{N ps:List Str}{s:Scope}(h:(s.kind==.function&&!s.isCoroutine&&!s.isGenerator&&decide N.Nodup&&decide (N.take ps.length=ps)&&ps.all (λx=>decide (s.names.lookup x=some .local)||decide (s.names.lookup x=some .cell))&&s.names.all λy=>decide (y.2≠.free))=true:=by decide +kernel):Qu N ps s:=by simp only[Bg,By,decide_eq_true_eq,List.all_eq_true,Bool.or_eq_true]at h;obtain⟨⟨⟨⟨⟨⟨a,b⟩,c⟩,d⟩,e⟩,f⟩,g⟩:=h;refine⟨?_,b,c,d,e,f,λy j=>by have:=g y j;simpa using this⟩;revert a;cases s.kind<;>first|(intro _;rfl)|(intro z;exact absurd z (by decide))
end
section
variable{P:Program}{w:World}{K:Ae}{mg:Co}{O8:Heap}{x c m q:Str}{st:Stmt}{N ps:List Str}{k:Nat}{body:aB}
def Bn(ps:List Str)(x q:Str)(st:Stmt):Prop:=∀(kV d i:Value)(e:Option Addr)(a ct:Value)(us:List Value),us.length=ps.length->bindArgs (PySem.W.fnOf x q (J5 st) (ZM st) (Qp st) .none kV d i e a ct) ⟨us,[]⟩=pure (ps.zip us)
def Bd(P:Program)(w:World)(K:Ae)(mg:Co)(O8:Heap)(N:List Str)(k:Nat)(q:Str)(st:Stmt)(body:aB):Prop:=∀(g:Addr)(a:Value)(A:Around)(outer:List Env)(s:Shared)(H:Hp)(E:XK),Room k (A.deeper (envOfC q (Qp st) s.heap.objs.size g a))->fL (qF CX0 P w K mg O8 N q (Qp st) g a A outer s H E).nox (ZM st) body
theorem hf(u:UF K mg x st)(a:Qu N ps (Qp st))(h:N.Nodup->Bd P w K mg O8 N k x st body:=by intro s _ _ _ _ _ _ _ i;trivial)(d:Bn ps x x st:=by intro _ _ _ _ _ _ us e;rcases us with _|⟨_,_|⟨_,_|⟨_,_|⟨_,_|⟨_,_|⟨_,_⟩⟩⟩⟩⟩⟩<;>first|rfl|cases e):Has P w K mg O8 x (k+1) ps.length (Q3 N.length body):=let ⟨_,_,F,hm⟩:=u.ex;Sn F a hm d (h a.nd _)
theorem hM(u:UM K c m q st)(a:Qu N ps (Qp st))(h:N.Nodup->Bd P w K mg O8 N k q st body:=by intro s _ _ _ _ _ _ _ n;trivial)(d:Bn ps m q st:=by intro _ _ _ _ _ _ us e;rcases us with _|⟨_,_|⟨_,_|⟨_,_|⟨_,_|⟨_,_|⟨_,_⟩⟩⟩⟩⟩⟩<;>first|rfl|cases e):Xd P w K mg O8 c m (k+1) ps.length (Q3 N.length body):=let ⟨_,_,_,F,j,cl,i⟩:=u.ex;Qfj j cl i F a d (h a.nd _)
theorem hI(u:UI K mg c q st)(a:Qu N ps (Qp st))(h:N.Nodup->Bd P w K mg O8 N k q st body:=by intro s _ _ _ _ _ _ _ n;trivial)(d:Bn ps "__init__" q st:=by intro _ _ _ _ _ _ us e;rcases us with _|⟨_,_|⟨_,_|⟨_,_|⟨_,_|⟨_,_|⟨_,_⟩⟩⟩⟩⟩⟩<;>first|rfl|cases e):mZ P w K mg O8 c (k+1) ps.length (Q3 N.length body):=let ⟨_,_,_,F,j,hm,i⟩:=u.ex;Qe3 j hm i F a d (h a.nd _)
end
end D
namespace L2
open PySem PySem.Spec PyProof.Rows
section
variable{X:Cx}{elts:List Expr}{kt:Nat}{p2:Pos}
end
end L2
namespace D
open PySem PySem.Spec PyProof.Rows L2
section
variable{X:Cx}{elts:List Expr}{kt:Nat}{p2:Pos}{f g:aD}
end
section
variable{X:Cx}{e:Expr}{f:aD}{pos:Pos}
def wK(t:String):Bool:=HW t "list" || HW t "tuple"
def Dq(f:aD):aD:=λenv=>do
  let x <- f env
  match x with
  |.ref n=>do
    match <- ZE n with
    |.lst _=>pure (.bl true)
    |_=>failure
  |x=>match Ly x with
    |some t=>pure (.bl (wK t))
    |none=>failure
theorem QiX:CallR X (.builtin "isinstance") (λxs H Q=>∃x a,xs=[x,.ref a]/\SqT X.K H a [.ty "list", .ty "tuple"]/\((∃ρ B d t,au X.K ρ B H d x/\Ly d=some t/\Q (.bl (wK t)) H)∨∃p ys,x=.ref p/\SqL X.K H p ys/\Q (.bl true) H)):=by
  intro L s σ H xs us Q I r h;obtain⟨x,a,rfl,st,h⟩:=h;obtain⟨u,T,rfl,C,J⟩:=tV r;cases J;obtain⟨y,n,⟨o,v,O,m,P⟩,_⟩:=I.tuple st;obtain⟨y1,y2,rfl,z1,z2⟩:=tV n;cases z1;cases z2;obtain⟨S,od,R,os⟩:=o;cases O;cases P;have c:∀b,Q (.bl b) H->∀tk,EP X L σ Q (.bool b) { s with toks:=tk }:=λb q tk=>⟨.bl _,H,I.tok _,rfl,q⟩;have i:∀t∈["NoneType", "bool", "int", "str", "tuple", "list"],PySem.W.kitAny X.K (.type t) [.type "list", .type "tuple"]=some (wK t):=λt j=>by simp only[Bk,Bu,or_false]at j;rcases j with rfl|rfl|rfl|rfl|rfl|rfl<;>first|rfl|decide|with_unfolding_all rfl|kernel_rfl
  rcases h with ⟨ρ,B,d,t,n,j,q⟩|⟨p,ys,rfl,G,q⟩
  . cases d with
    |non=>obtain rfl:=n.dZ;cases j;cases C;exact PySem.W.kia_tup PySem.W.kitx_none I.kIn True.intro v (i _ (by simp)) (λz=>nomatch z) (c _ q)
    |bl b=>obtain rfl:=n.eU;cases j;cases C;exact PySem.W.kia_tup PySem.W.kitx_bool I.kIn True.intro v (i _ (by simp)) (λz=>nomatch z) (c _ q)
    |int b=>obtain rfl:=n.aN;cases j;obtain⟨tk,rfl⟩:=C;exact PySem.W.kia_tup PySem.W.kitx_int I.kIn True.intro v (i _ (by simp)) (λz=>nomatch z) (c _ q)
    |str b=>obtain rfl:=n.aZ;cases j;obtain⟨tk,rfl⟩:=C;exact PySem.W.kia_tup PySem.W.kitx_str I.kIn True.intro v (i _ (by simp)) (λz=>nomatch z) (c _ q)
    |ref b=>cases j
    |tup b=>cases j;obtain⟨a,ys,rfl,_,G,_⟩:=n.tupI;cases C;obtain⟨y,_,⟨o,E,F,_⟩,_⟩:=I.tuple G;exact PySem.W.kia_tup PySem.W.kitx_tuple I.kIn ⟨o,E,F⟩ v (i _ (by simp)) (λz=>nomatch z) (c _ q)
    |lst b=>cases j;obtain⟨a,ys,rfl,_,G,_⟩:=n.bQ;cases C;obtain⟨y,_,⟨o,k,E,F,_⟩,_⟩:=I.list G;exact PySem.W.kia_tup PySem.W.kitx_list I.kIn ⟨o,E,F⟩ v (i _ (by simp)) (λz=>nomatch z) (c _ q)
  . cases C
    obtain⟨y,_,⟨o,k,E,F,_⟩,_⟩:=I.list G;exact PySem.W.kia_tup PySem.W.kitx_list I.kIn ⟨o,E,F⟩ v (i "list" (by simp)) (λz=>nomatch z) (c _ q)
theorem QgQ{p j i r:Pos}{k:Nat}(hm:X.mg "isinstance" = none)(I:X.mg "list" = none)(O:X.mg "tuple" = none)(h:DE X e f)(F:Gl X "isinstance" := by rfl)(P:Gl X "list" := by rfl)(y:Gl X "tuple" := by rfl)
    (hs:starEach [e,.Tuple [.Name "list" j,.Name "tuple" i] k r] X.env=(false,eval e X.env)::starEach [.Tuple [.Name "list" j,.Name "tuple" i] k r] X.env:=by rfl)
    (hs2:starEach [.Tuple [.Name "list" j,.Name "tuple" i] k r] X.env=(false,eval (.Tuple [.Name "list" j,.Name "tuple" i] k r) X.env)::starEach [] X.env:=by rfl)
    (hs3:starEach [.Name "list" j,.Name "tuple" i] X.env=(false,eval (.Name "list" j) X.env)::starEach [.Name "tuple" i] X.env:=by rfl)
    (Wu:starEach [.Name "tuple" i] X.env=(false,eval (.Name "tuple" i) X.env)::starEach [] X.env:=by rfl)
    (hpl:(backTo pos (starEach [.Tuple [.Name "list" j,.Name "tuple" i] k r] X.env)).any (·.1)=false:=by rfl):DE X (.Call (.Name "isinstance" p) [e,.Tuple [.Name "list" j,.Name "tuple" i] k r] [] pos) (Dq f) :=
  L2.PE.imp (yY QiX F hm boot_isinstance (ZT h (ZT (Mr (ZT (gI (v:=.ty "list") P I boot_list rfl) (ZT (gI (v:=.ty "tuple") y O boot_tuple rfl) pa_nil Wu) hs3)) pa_nil hs2) hs) (by decide) (by decide) hs hpl) λσ H Q zz=>by
    obtain⟨Z,env,ρ,B,hp,d,J,S,e,k⟩:=zz;obtain⟨x,hp1,z,m⟩:=Qg e;refine tD.run S z λv ρ1 c H1 g1 S1 R=>?_;refine⟨by decide,λp hn=>?_⟩;have G:Gr X.K ρ1 c H1 ρ1 c (upd H1 p (.tup [.ty "list", .ty "tuple"])):=Gr.laid hn;have q:=au.grow S1.wo.rb G _ _ R;have W2:=S1.wo.laid (o:=.tup [.ty "list", .ty "tuple"]) hn;refine⟨v,p,rfl,SqT.of QU,?_⟩;cases x with
    |ref n =>
      obtain⟨o,L,C,u⟩:=Qg m;obtain⟨E,rfl⟩:=Zt C;cases o with
      |lst U=>obtain⟨rfl,rfl⟩:=Qm u;obtain⟨a,rfl,_,ys,h1,T⟩:=au.aV W2 q E;exact .inr ⟨a,ys,rfl,SqL.of h1,k _ ρ1 c _ (g1.trans G) W2 ZW⟩
      |aH _=>cases u
      |ins _ _=>cases u
    |non=>obtain⟨rfl,rfl⟩:=Qm m;exact .inl ⟨ρ1,c,_,_,q,rfl,k _ ρ1 c _ (g1.trans G) W2 ZW⟩
    |bl _=>obtain⟨rfl,rfl⟩:=Qm m;exact .inl ⟨ρ1,c,_,_,q,rfl,k _ ρ1 c _ (g1.trans G) W2 ZW⟩
    |int _=>obtain⟨rfl,rfl⟩:=Qm m;exact .inl ⟨ρ1,c,_,_,q,rfl,k _ ρ1 c _ (g1.trans G) W2 ZW⟩
    |str _=>obtain⟨rfl,rfl⟩:=Qm m;exact .inl ⟨ρ1,c,_,_,q,rfl,k _ ρ1 c _ (g1.trans G) W2 ZW⟩
    |tup _=>obtain⟨rfl,rfl⟩:=Qm m;exact .inl ⟨ρ1,c,_,_,q,rfl,k _ ρ1 c _ (g1.trans G) W2 ZW⟩
    |lst _=>obtain⟨rfl,rfl⟩:=Qm m;exact .inl ⟨ρ1,c,_,_,q,rfl,k _ ρ1 c _ (g1.trans G) W2 ZW⟩
end
end D
namespace L2
open PySem PySem.Spec PyProof.Rows
def cH(P:Program)(w:World):CXT:=λouter H s E e s' =>
  ∃(a : Addr)(cls : Value)(t : Addr)(c : Hp)(B : Heap), e = .ref a /\ s'.os = s.os /\ AllBare s'.gens /\ Heap.FlyingW B outer a cls (.ref t) s'.heap /\ HOk P w c B /\ Un (frs outer) [] H c s.heap s'.heap /\
    (∀b o,s.heap.get? b=some o->H b=none->b∉frs outer->B.get? b=some o)/\(∀b o,s.heap.get? b=some o->b∉frs outer->∃o',B.get? b=some o')/\E cls none c
section
variable{X:Cx}{O9:Cn}{σ:St}{H:Hp}{s s':Shared}{E:XK}{e:Addr}{cls:Value}{vs:List Value}{M:Model}{EE:Cm}
theorem VE(I:Inv X O9 σ H s){b:Addr}{o:Obj}(h:X.s₀.heap.get? b=some o)(hf:b∉X.fs):b∉frs X.stack:=λz=>by
 rcases Bk.mp (I.stkSub b z)with q|q
 ·have:=Az (Ar h) I.ok.above;rw[q]at this;exact B0 _ this
 ·exact hf q
theorem Qig(I:Inv X O9 σ H s)(x:X.stack=X.env::X.outer)(hf:X.env.frame=some X.env.locals)(r:X.ex=[]){h1:Heap}(hx:Heap.MadeExcOf s.heap h1 e cls vs)(q:E cls none H) :
  wpAny M X.A (leaving X.env (.ref e)) (λ_ v=>cH X.prog X.w X.outer X.H₀ X.s₀ E (.ref e) v) EE { s with heap:=h1 }:=by
 have i:∀b,b∉X.ex:=λb z=>by rw[r]at z;cases z
 have st:∀b o,s.heap.get? b=some o->b∉frs X.stack->(PySem.W.hideAll s.heap (frs X.stack)).get? b=some o:=λb o z n=>PySem.W.hideAll_get _ z n;refine wpAny_leaves_madeW (s:={ s with heap:=h1 }) (base:=PySem.W.hideAll s.heap (frs X.stack)) (h:=s.heap) (I.ok.frames.trans (by rw[x])) hf (λb o z=>PySem.W.of_hideAll _ z) (by
  have:=PySem.W.funFrames_hide (as:=frs X.stack) I.stack λenv y b c=>List.mem_filterMap.mpr ⟨env,y,c⟩
  rwa [x]at this ⊢) hx λh' t fl tup tn F=>?_
 have keep:∀b o,X.s₀.heap.get? b=some o->X.H₀ b=none->b∉frs X.outer->(PySem.W.hideAll s.heap (frs X.stack)).get? b=some o:=λb o z n c=>st b o (I.O8.keep b o z n c (i b)) (VE I z c);have there:∀b o,X.s₀.heap.get? b=some o->b∉frs X.outer->∃o',(PySem.W.hideAll s.heap (frs X.stack)).get? b=some o':=λb o z c=>by obtain⟨o',d⟩:=I.O8.there b o z (i b);exact⟨o',st b o' d (VE I z c)⟩
 have slot:∀b o,X.s₀.heap.get? b=some o->X.H₀ b=none->b∈frs X.outer->∃j,h'.get? b=some { o with slots:=j }:=λb o z n c=>by obtain⟨j,d⟩:=I.O8.slot b o z n c (i b);obtain⟨_,G,z2,nd⟩:=I.ok.funs.mem c;rw[z]at z2;cases z2;obtain⟨C,z3⟩:=F b { o with slots:=j } (hx.keeps b _ d) nd;exact⟨C,z3⟩
 refine⟨e,cls,t,H,_,rfl,I.os,I.bare,fl,λa o ha=>(I.hok a o ha).stay (λb u c z=>st b u z λm=>?_) (λ_ z=>z) (λ_ _ z=>z),⟨λb o z n c _=>fl.1 b o (keep b o z n c),λb o z n c _=>slot b o z n c,λb o z n _=>I.O8.free b o z n (i b),λb o z _=>?_,I.O8.tups,I.O8.frzs,I.O8.tbls⟩,keep,there,q⟩
 ·have:=I.stkFree b m;rcases c with rfl|c
  ·rw[ha]at this;cases this
  ·rw[c]at this;cases this
 ·by_cases c:b∈frs X.outer
  ·obtain⟨j,d⟩:=slot b o z (I.ok.frf b c) c;exact⟨_,d⟩
  ·obtain⟨o',d⟩:=there b o z c;exact⟨o',fl.1 b o' d⟩
theorem MX(I:Inv X O9 σ H s)(j:X.stack=X.env::X.outer)(hf:X.env.frame=some X.env.locals)(r:X.ex=[]){v:Value}(h:cH X.prog X.w X.stack H s E v s') :
  wpAny M X.A (leaving X.env v) (λ_ y=>cH X.prog X.w X.outer X.H₀ X.s₀ E v y) EE s':=by
 obtain⟨a,cls,t,G,B,rfl,os,bare,fl,hok,un,J,tB,q⟩:=h;have i:∀b,b∉X.ex:=λb z=>by rw[r]at z;cases z
 refine wpAny_leaves_onW (I.ok.frames.trans (by rw[j])) hf (by rw[<- j];exact fl) λh' x Q=>?_;have keep:∀b o,X.s₀.heap.get? b=some o->X.H₀ b=none->b∉frs X.outer->B.get? b=some o:=λb o z n c=>J b o (I.O8.keep b o z n c (i b)) (I.O8.free b o z n (i b)) (VE I z c);have there:∀b o,X.s₀.heap.get? b=some o->b∉frs X.outer->∃o',B.get? b=some o':=λb o z c=>by obtain⟨o',d⟩:=I.O8.there b o z (i b);exact tB b o' d (VE I z c)
 have slot:∀b o,X.s₀.heap.get? b=some o->X.H₀ b=none->b∈frs X.outer->∃C,h'.get? b=some { o with slots:=C }:=λb o z n c=>by
  obtain⟨C,d⟩:=I.O8.slot b o z n c (i b);obtain⟨_,R,z2,nd⟩:=I.ok.funs.mem c;rw[z]at z2;cases z2;have m:b∈frs X.stack:=by rw[j];exact(by unfold frs at c ⊢;rw[List.filterMap_cons];split;exact c;exact Ay _ c)
  obtain⟨F,z3⟩:=un.slot b _ d (I.O8.free b o z n (i b)) m (by simp);obtain⟨P,z4⟩:=Q b { o with slots:=F } z3 nd;exact⟨P,z4⟩
 refine⟨a,cls,t,G,B,rfl,os.trans I.os,bare,x,hok,⟨λb o z n c _=>x.1 b o (keep b o z n c),λb o z n c _=>slot b o z n c,λb o z n _=>?_,λb o z _=>?_,λb xs z=>un.tups b xs (I.O8.tups b xs z),λb o u z=>un.frzs b o u (I.O8.frzs b o u z),λb ps z=>?_⟩,keep,there,q⟩
 ·obtain⟨o',d⟩:=I.O8.there b o z (i b);exact un.free b o' d (I.O8.free b o z n (i b)) (by simp)
 ·by_cases c:b∈frs X.outer
  ·obtain⟨C,d⟩:=slot b o z (I.ok.frf b c) c;exact⟨_,d⟩
  ·obtain⟨o',d⟩:=there b o z c;exact⟨o',x.1 b o' d⟩
 ·obtain⟨L,z1⟩:=I.O8.tbls b ps z;obtain⟨O,z2⟩:=un.tbls b _ z1;exact⟨L++O,by rw[z2,Array.append_assoc]⟩
end
def HS(K:Ae)(C:Addr):Prop:=PySem.W.excIn K C [.type "ValueError", .type "Exception", .type "BaseException", .type "object"] "ValueError.__new__" = true
theorem Qhr{K:Ae}{h:Heap}{C:Addr}{d:List Value}{a:String}(X:K.In h)(q:PySem.W.excIn K C d a=true):∃bm N nm q bs hdct sn sub ab col dd k0 k1 k2 k3 k5 mN,h.get? C=some (excClassObj nm q C N bs bm hdct sn sub ab col dd k0 k1 k2 k3 k5 a)/\h.Ns N mN/\mN "__init__" = none/\OwnTail h d bm:=by
 unfold PySem.W.excIn at q;split at q
 ·rename_i dd m j r;split at q
  ·rename_i C' bm k0 k1 k2 k3 n k5 hm hs;simp only[Bg,beq_iff_eq,By]at q;obtain⟨⟨⟨⟨⟨rfl,rfl⟩,c⟩,u⟩,hok⟩,e⟩:=q;obtain⟨nm,bs,v,ns,x,hd,sn,sub,ab,col,o⟩:=m;dsimp only at hm c hok e;subst hm c;have i:j = #[k0,k1,k2,k3,some (.builtin n),k5]:=by obtain⟨l⟩:=j;simp only at hs;rw[hs]
   subst i;exact⟨bm,ns,nm,x,bs,hd,sn,sub,ab,col,dd,k0,k1,k2,k3,k5,_,X _ _ r,.of_isNs (PySem.W.isNs_of_in X hok),PySem.W.nsMap_none_of_in X hok e,PySem.W.tail_of_in X u⟩
  ·cases q
 ·cases q
section
variable{X:Cx}{c:Str}{C:Addr}{np cpos pos p2:Pos}{msg:Str}{j:Nat}{R:Hp->Prop}
theorem QfK(y:X.calm=true)(E:Gl X c)(hm:X.mg c=some (.ref C))(v:HS X.K C)(x:∀d σ H s,Inv X d σ H s->R H->∀h' e vs,Heap.MadeExcOf s.heap h' e (.ref C) vs->X.xe (.ref e) { s with heap:=h' })
  (he:starEach [.Constant (.str msg) j p2] X.env=(false,eval (.Constant (.str msg) j p2) X.env)::starEach [] X.env:=by rfl) (hpl:(backTo cpos (starEach [.Constant (.str msg) j p2] X.env)).any (·.1)=false:=by rfl) (hd:(c==("__debug__" : Str))=false:=by decide) :
  PS X (.Raise (some (.Call (.Name c np) [.Constant (.str msg) j p2] [] cpos)) none pos) (λ_ _ H=>R H):=by
 intro d s σ H D I h;obtain⟨L,N,nm,q,bs,hdct,sn,sub,ab,col,dd,k0,k1,k2,k3,k5,mN,u,o,i,T⟩:=Qhr I.ok.mod.kin v;have m:=PySem.F.excBase_ValueError;refine wpAny_Raise_call_subT (C:=C) (nm:=nm) (q:=q) (N:=N) (bs:=bs) (bm:=L) (hdct:=hdct) (sn:=sn) (sub:=sub) (ab:=ab) (col:=col) (dd:=dd) (k0:=k0) (k1:=k1) (k2:=k2) (k3:=k3) (k5:=k5) m (mN:=mN) (T.hasType m.hasBase) (I.ok.hd y) hpl i (zE I E hm ⟨rfl,?_⟩ hd);have A:=(ZT (te:=tC (.str msg)) Ms pa_nil he:PA X [.Constant (.str msg) j p2] _) cpos d s σ H (λvs n=>vs=[.str msg]/\n=H) I ⟨rfl,rfl⟩;rw[he]at A ⊢;refine Calls.evalArgs_plain (wpAny_mono A (λus J z=>?_) λ_ _ z=>z);obtain⟨vs,n,a,r,rfl,rfl⟩:=z;have G:us.length=1:=by rw[<- r.length];rfl
 exact⟨rfl,by rw[G];decide,a.bk _ _ u,o.keeps a.bk,T.keeps a.bk,λh' e hx=>x d σ _ J a h h' e us hx⟩
end
end L2
namespace L2
open PySem PySem.Spec PyProof.Rows PySem.W PySem.Calls PySem.Builtin PySem.Builtin.ObjectAttr PySem.Builtin.Getset_descriptor
structure Ed(K:Frag)(D:Addr):Prop where
 ga:findIn K (.ref D) "__getattribute__" = some (some (.builtin "BaseException.__getattribute__"))
 gt:findIn K (.ref D) "__getattr__" = some none
 sb:subIn K (.ref D) (.type "BaseException")=some true
 cl:(clsIn K D).isSome=true
 ha:findIn K (.ref D) "__class__" = some (some (.builtin "object.__class__"))
 hn:specialIn K (.builtin "object.__class__") "__get__" = some (some (.builtin "getset_descriptor.__get__"))
 htk:takesIn K (.builtin "object.__class__")=some true
 hm:mroIn K D (.type "object")=some true
def cC(x D:Addr)(h:Heap):Prop:=∃a,h.get? x=some a/\a.cls=.ref D
section
variable{prog:Program}{w:World}{A:Around}{E:Cm}{s:Shared}{K:Frag}{x D:Addr}
theorem cC.type{M:Model}{h:Heap}(I:cC x D h):Looks M h (typeOf (.ref x)) (.ref D):=by obtain⟨a,e,c⟩:=I;exact c▸(Looks.ld e).andThen .now
theorem QdC{M:Model}{h:Heap}{name:Str}{a g:Value}(X:K.In h)(ha:findIn K (.ref D) name=some (some a))(e:specialIn K a "__get__" = some (some g))(i:takesIn K a=some true):Looks M h (find (.ref x) (.ref D) name) (.bind g a):=by have c:=looks_findIn (M:=M) X ha;have L2:Looks M h (getOf (some a)) (some g):=looks_specialIn X e;have d:=looks_takesIn (M:=M) X i;exact c.andThen (L2.andThen ((show Looks M h (dataDescriptor? (some a) (some g)) (some (g,a))from d.andThen .now).andThen (Looks.tag .now)))
theorem QeX{M:Model}{a:Value}{Q:Unit->Shared->Prop}(X:K.In s.heap)(I:cC x D s.heap)(sb:subIn K (.ref D) (.type "BaseException")=some true)(i:Q () s):wpAny M A (checkBuiltinCall "BaseException.__getattribute__" ⟨[.ref x,a],[]⟩) Q E s:=by
 obtain⟨n,g,d,t,os⟩:=s;have e:builtinKind "BaseException.__getattribute__" = some .slot:=by decide +kernel
 have c:splitId "BaseException.__getattribute__" = some ("BaseException", "__getattribute__"):=by decide +kernel
 have j:=I.type (M:=M);have m:=looks_subIn (M:=M) X sb;have ha:=F.args_bexc_ga (.ref x) a;simp only[checkBuiltinCall,e,c];refine Cd ?_;unfold isInstance
 repeat lk
 exact i
theorem So{name:Str}{g a:Value}{tk:Tok}{P:Cm}(X:K.In s.heap)(I:cC x D s.heap)(hf:Looks (model prog w) s.heap (find (.ref x) (.ref D) name) (.bind g a))
  (h:wpAny (model prog w) A (call g [a,.ref x,.ref D]) P E s) :
  wpAny (model prog w) A (Builtin.«object.__getattribute__» ⟨[.ref x,.str name tk],[]⟩) (λc s'=>match c with|.done (.ret v)=>P v s'|_=>False) E s:=by
 obtain⟨m,j,d,t,os⟩:=s;have e:=I.type (M:=model prog w);have i:=hf;unfold Builtin.«object.__getattribute__»;refine Cd (Cg (Cd (Cg (Cd (e.at (Cd (i.at ?_)))))));show wpAny _ _ (holding [a] (call g [a,.ref x,.ref D]) >>= ret) _ _ _;exact Cd (wpAny_holding (wpAny_mono h (λv s' z=>Cg z) λ_ _ z=>z))
theorem QgX{name:Str}{Q:Option Value->Shared->Prop}(X:K.In s.heap)(I:cC x D s.heap)(ga:findIn K (.ref D) "__getattribute__" = some (some (.builtin "BaseException.__getattribute__")))(gt:findIn K (.ref D) "__getattr__" = some none)(sb:subIn K (.ref D) (.type "BaseException")=some true)
  (h:wpAny (model prog w) A.in1 (Builtin.«object.__getattribute__» ⟨[.ref x,.str name s.toks],[]⟩)
   (λa s'=>match a with|.done (.ret v)=>wpAny (model prog w) A (handedOut v) (λv c=>Q (some v) c) (λ_ _=>False) s'|_=>False) (λ_ _=>False) { s with toks:=s.toks+1 }) :
  wpAny (model prog w) A (getAttr? (.ref x) name) Q E s:=by
 obtain⟨q,g,d,t,os⟩:=s;have j:=I.type (M:=model prog w);have m:=looks_findIn (M:=model prog w) X ga;have L2:=looks_findIn (M:=model prog w) X gt;have i:(Value.builtin "BaseException.__getattribute__" == Value.builtin "object.__getattribute__")=false:=by decide +kernel
 have e:(onTheHeap (Value.ref D)&&Value.builtin "BaseException.__getattribute__" == Value.builtin "object.__getattribute__")=false:=by rw[i];rfl
 have n:=F.attr_ValueError.ga.bind (.ref x);unfold getAttr? getAttrBy? getAttrBy;refine Cd (wpAny_mkText (Cd (wpAny_attempt (wpAny_holding (Cd (j.at (Cd (m.at ?_))))))));show wpAny _ _ (if _ then _ else _) _ _ _;rw[e];show wpAny _ _ (getAttrByItsOwn _ _ _ _ _ _) _ _ _;unfold getAttrByItsOwn hookBefore;refine Cd (L2.at (Cd (wpAny_attempt (wpAny_holding ?_))));show wpAny _ _ (boundAndCalled _ _ _) _ _ _;unfold boundAndCalled;rw[n];refine Cd (Cg ?_);refine wpAny_call (codeAny_call_builtin F.attr_ValueError.ga.plain F.entry_bexc_ga (QeX X I sb (wpAny_mono h (λa s' z=>?_) λ_ _ z=>z.elim)));rcases a with (_|_|_|_)|_<;>first|exact wpAny_mono z (λv c o=>Cg o) (λ_ _ z=>z.elim)|exact z.elim
theorem Qi9{tp:Value}{R:Result->Shared->Prop}(X:K.In s.heap)(I:cC x D s.heap)(hm:mroIn K D (.type "object")=some true)
  (h:R (.ok (.ret (.ref D))) s):codeAny (model prog w) A (.call (.builtin "getset_descriptor.__get__") ⟨[.builtin "object.__class__", .ref x,tp],[]⟩) R s:=by
 obtain⟨e,g,d,t,os⟩:=s;have a:=I.type (M:=model prog w);have c:=looks_mroIn (M:=model prog w) X hm;refine codeAny_call_builtin KF.slot_gs.plain KF.entry_gs (KF.slot_gs.check _ _ _ _ _ _ _ _ KF.type_class (KF.args_gs _ _ _) ?_);unfold Builtin.«getset_descriptor.__get__» descrGet;rw[dga_obj];refine Cd (Cg ?_);unfold descrGetter descrCheckInstance descrNameAndClass isInstance;simp only[KF.owner_class]
 repeat lk
 refine⟨Code.quiet_builtin _ (by decide +kernel),codeAny_builtin KF.entry_class ?_⟩;unfold Builtin.«object.__class__» shownTypeOf
 repeat lk
 exact h
theorem Qe8(k:Ed K D):KitX K (.ref x) (.ref D) (cC x D) where
 ty:=λ_ _ _ I=>I.type
 it:=λ_ _ X _=>by
  obtain⟨d,a⟩:=Option.isSome_iff_exists.mp k.cl;unfold clsIn at a;split at a
  ·rename_i o d' c m i;intro u Q' E' s' k q;unfold isType loadHead;exact Cd (wpAny_loadPart (k _ _ (X _ _ i)) (Cg q))
  ·cases a
 ne:=λh tp dd r n v X j=>by
  obtain⟨d,a⟩:=Option.isSome_iff_exists.mp k.cl;refine Bool.eq_false_iff.mpr λq=>?_;have e:D=tp:=Value.ref.inj (beq_iff_eq.mp q);subst e;unfold clsIn at a;split at a
  ·rename_i o d' c m i;have z:=(X _ _ i).symm.trans j;cases z
  ·cases a
 ca:=λ{_ _ _ _ _ s} X I h=>QgX X I k.ga k.gt k.sb (So (s:={ s with toks:=s.toks+1 }) X I (QdC X k.ha k.hn k.htk)
  (wpAny_call (Qi9 (s:={ s with toks:=s.toks+1 }) X I k.hm (handed_on rfl h))))
end
end L2
namespace L2
open PySem PySem.Spec PyProof.Rows
theorem ObjOk.there{P:Program}{w:World}{H:Hp}{h:Heap}{a:Addr}{o:HO}(x:ObjOk P w H h a o):∃u,h.get? a=some u:=by
 cases o with
 |lst xs=>obtain⟨_,_,_,_,e⟩:=x;exact⟨_,e⟩
 |tup xs=>obtain⟨_,_,_,_,e,_⟩:=x;exact⟨_,e⟩
 |dK kvs=>obtain⟨_,_,_,_,o,_,_,e,_⟩:=x;exact⟨_,e⟩
 |dT kvs=>obtain⟨_,_,_,_,o,_,_,e,_⟩:=x;exact⟨_,e⟩
 |set S n=>obtain⟨o,_,_,_,e,_⟩:=x;exact⟨_,e⟩
 |ins C c fs=>obtain⟨_,_,_,e,_⟩:=x;exact⟨_,e⟩
 |own y=>exact x
 |xd fs=>obtain⟨_,⟨_,_,_,e,_⟩,_⟩:=x;exact⟨_,e⟩
 |rng lo hi=>obtain⟨_,_,_,e⟩:=x;exact⟨_,e⟩
 |frz ob u=>obtain⟨e,_⟩:=x;exact⟨_,e⟩
 |tbl ps=>exact⟨_,x⟩
 |met f y=>exact⟨_,x⟩
 |ext φ=>obtain⟨_,e,_⟩:=x;exact e
abbrev Cx.hand(X:Cx)(a:Addr)(c:Obj):Cx:={ X with A:=X.A.mark (some (.ref a)),calm:=false,pn:=(a,c)::X.pn,xe:=λ_ _=>False }
section
variable{X:Cx}{O9:Cn}{σ:St}{H H':Hp}{s s':Shared}
theorem Inv.land(I:Inv X O9 σ H s){B h5:Heap}(os:s'.os=s.os)(bare:AllBare s'.gens)(hok:HOk X.prog X.w H' B)(un:Un (frs X.stack) [] H H' s.heap s'.heap)
  (kB:∀b o,s.heap.get? b=some o->H b=none->b∉frs X.stack->B.get? b=some o) (tB:∀b o,s.heap.get? b=some o->b∉frs X.stack->∃o',B.get? b=some o') (st:B.StaysIn h5) (up:s'.heap.UpToSlots h5):Inv X O9 σ H' { s' with heap:=h5 }:=by
 have slot:∀b o,s.heap.get? b=some o->H b=none->b∈frs X.stack->∃d,h5.get? b=some { o with slots:=d }:=λb o z n a=>by obtain⟨d,c⟩:=un.slot b o z n a (by simp);obtain⟨_,i,z2,nd⟩:=I.stack.mem a;rw[z]at z2;cases z2;obtain⟨e,z4⟩:=up b { o with slots:=d } c nd;exact⟨e,z4⟩
 refine I.call' (s':={ s' with heap:=h5 }) (ch:=[]) os ⟨λb o z n a _=>st b o (kB b o z n a),λb o z n a _=>slot b o z n a,un.free,λb o z _=>?_,un.tups,un.frzs,un.tbls⟩ (hok.kept st) bare (λb z=>by cases z);by_cases a:b∈frs X.stack
 ·obtain⟨d,c⟩:=slot b o z (I.stkFree b a) a;exact⟨_,c⟩
 ·obtain⟨o',c⟩:=tB b o z a;exact⟨o',st b o' c⟩
theorem Inv.hand{a:Addr}{c:Obj}(I:Inv X O9 σ H s)(ha:s.heap.get? a=some c)(hn:H a=none)(e:a≠X.env.locals)(hf:a∉X.fs)(d:∀v,c.data≠.cell v):Inv (X.hand a c) O9 σ H s :=
 ⟨⟨I.ok.mod,I.ok.kind,I.ok.glob,I.ok.blt,I.ok.above,I.ok.inj,I.ok.has,I.ok.cab,(λz=>by cases z),I.ok.frames,I.ok.stk,I.ok.exf,I.ok.bs,I.ok.bsz,I.ok.noex,I.ok.exfs,I.ok.funs,I.ok.frf⟩,I.os,I.bare,I.O8,I.loc,I.cell,I.free,I.freeC,λp hp=>by
  rcases Bk.mp hp with rfl|hp
  ·exact⟨ha,hn,e,hf,d⟩
  ·exact I.pin p hp,I.hok,I.len⟩
theorem Inv.lR{a:Addr}{c:Obj}(I:Inv (X.hand a c) O9 σ H s)(ok:X.Ok):Inv X O9 σ H s :=
 ⟨ok,I.os,I.bare,I.O8,I.loc,I.cell,I.free,I.freeC,λp hp=>I.pin p (Ay _ hp),I.hok,I.len⟩
theorem We{M:Model}{A:Around}{E:Cm}{i:Nat}{n:Str}{G:Pos}{Q:Unit->Shared->Prop}(I:Inv X O9 σ H s)(O:X.N.Nodup)(hi:X.N[i]?=some n)(P:X.env.kindOf n=some .local)
  (h:∀s',Inv X O9 (σ.set i none) H s'->Q () s'):wpAny M A (do bindName X.env n .none;unbindBehindTheSuite X.env n G) Q E s:=by
 obtain⟨m,hn,R⟩:=id I.loc;have cne:=I.cne;obtain⟨oL,_,_,S,_⟩:=id hn;refine wpAny_nameGoes_keeps P hn (by rw[I.ok.kind];rfl) λh' v F hs=>?_;refine h _ ⟨I.ok,I.os,I.bare,⟨λb o e n x hx=>?_,λb o e n x hx=>?_,I.O8.free,λb o e hx=>?_,I.O8.tups,I.O8.frzs,I.O8.tbls⟩,⟨_,F,λj y Z a r L=>?_⟩,λy c e=>?_,I.free,I.freeC,λp hp=>?_,λb ob e=>?_,by simpa using I.len⟩
 ·exact(hs.2 b (Bi (Az (Ar e) I.ok.above))).trans (I.O8.keep b o e n x hx)
 ·obtain⟨U,a⟩:=I.O8.slot b o e n x hx;exact⟨U,(hs.2 b (Bi (Az (Ar e) I.ok.above))).trans a⟩
 ·obtain⟨o',a⟩:=I.O8.there b o e hx;exact⟨o',(hs.2 b (Bi (Az (Ar e) I.ok.above))).trans a⟩
 ·by_cases C:j=i
  ·subst C;have hiσ:j<σ.length:=by rw[I.len];exact(Ag.mp hi).1
   rw[Av hiσ]at r;cases r
  ·rw[Ao (Ne.symm C)]at r;obtain⟨Y,T,q⟩:=R j y Z a r L;refine⟨Y,T,?_⟩;rcases q with ⟨k,e⟩|⟨k,c,e,z⟩
   ·refine .inl ⟨k,?_⟩;have:y≠n:=λe=>C (KS O a (e▸hi));simp[this,e]
   ·exact .inr ⟨k,c,e,z.sameBut hs (cne y c e)⟩
 ·obtain⟨J,z⟩:=I.cell y c e;exact⟨J,z.sameBut hs (cne y c e)⟩
 ·obtain⟨e,n,ne,nf,d⟩:=I.pin p hp;exact⟨(hs.2 p.1 ne).trans e,n,ne,nf,d⟩
 ·refine(I.hok b ob e).stay (λc J u q=>(hs.2 c ?_).trans q) (λ_ q=>q) λ_ _ q=>q;rintro rfl;have:=I.free;rcases u with rfl|u
  ·rw[this]at e;cases e
  ·rw[this]at u;cases u
end
section
variable{X:Cx}{CX:CXT}{k:Nat}{f C SC:Addr}{fd:FuncData}{ps:List Str}{sp:Sp}{x sc n:Str}{p pos cpos epos hpos np:Pos}{e:Expr}{es:List Expr}{t:TA}{i:Nat}{b₀:Stmt}{suite:List Stmt}{tS:Addr->TS}
def cQ(X:Cx)(c:Expr)(T:St->Hp->VK->XK->Prop):Prop:=∀(a:Cn)(σ:St)(H:Hp)(s:Shared)(Q:VK)(E:XK)(xe:Cm),Inv X a σ H s->T σ H Q E->(∀d j v s',Inv X a σ d j->cH X.prog X.w X.stack d j E v s'->xe v s')->wpAny (model X.prog X.w) X.A (eval c X.env) (EP X a σ Q) xe s
theorem Mc{o:Cn}{σ:St}{c:Hp}{a:Shared}{Q:VK}{E:XK}{xe:Cm}{us:List Value}{vs:List V}(F:Y4 X.prog X.w X.K X.mg X.O8 (cH X.prog X.w) k f fd ps sp)(G:Room k X.A)(y:Binds X.K fd ps [])(m:Inv X o σ c a)(r:Vals vs us)(q:sp vs c Q E)
    (hx:∀c a v s',Inv X o σ c a->cH X.prog X.w X.stack c a E v s'->xe v s'):wpAny (model X.prog X.w) X.A (call (.ref f) us) (EP X o σ Q) xe a:=by
  have z:us.length=ps.length:=by rw[<- r.length];exact F.len _ _ _ _ q
  have d:=y a us m.kIn (by rw[Bo];exact z);rw[Bo]at d;refine wpAny_call (codeAny_mono (F.run X.A X.stack a c ⟨us,[]⟩ us vs Q E G m.env0 d r q) λr s' j=>?_);cases r with
  |error e=>exact hx c a e s' m j
  |ok fl =>
    cases fl with
    |ret u=>exact m.after j
    |next=>exact False.elim j
    |brk=>exact False.elim j
    |cont=>exact False.elim j
theorem QhS{pl:Sem Bool}{o:Expr}{m:Str}{d:Pos}{J:TE}(R:PE X.nox o J)(c:Cls X.K C)(hm:uH X.K C m f)(F:Y4 X.prog X.w X.K X.mg X.O8 (cH X.prog X.w) k f fd ps sp)(S:Room k X.A)(P:Binds X.K fd ps [])(ha:PA X.nox (e::es) t)
  (hst:starEach (e::es) X.env=(false,eval e X.env)::starEach es X.env:=by rfl) (hpl:(backTo pos (starEach es X.env)).any (·.1)=false:=by rfl)
  (ht:eval (.Call (.Attribute o m d) (e::es) [] pos) X.env=(do
   let ov <- eval o X.env
   standAt d.atName
   let (f,first) <- holding [ov] (getMethod ov m pl)
   callWith pos f first (backTo pos (starEach (e::es) X.env)) (backToKw pos (keywordEach [] X.env))):=by rfl) :
  cQ X (.Call (.Attribute o m d) (e::es) [] pos) (λσ H Q E=>tO C m sp [] E J t σ H Q):=by
 intro y σ H s Q E xe I h hx;refine PySem.W.methodCall_KW (pl:=pl) (wpAny_mono (R y s σ H _ (I.wish _) h) (λu U z=>?_) λ_ _ z=>z.elim) ht;obtain⟨x,L,j,T,a,Z,fs,ex,O,l,q⟩:=z;have j:=j.unwish;subst ex;obtain rfl:u=Value.ref a:=T;refine zA j O c hm l ?_;refine PySem.W.callWith_K (first:=[.ref a]) (h₀:=X.O8) I.ok.mod.kin hm.kp (wpAny_mono (ha pos y U σ L _ (j.wish _) q) (λus s2 z=>?_) λ_ _ z=>z.elim) hst hpl;obtain⟨vs,Y,v,r,G⟩:=z;have v:=v.unwish;rw[Bo]at G;exact⟨v.kIn,Mc (us:=.ref a::us) (vs:=.ref a::vs) F S P v (.cons rfl r) G hx⟩
theorem Qj7{c:Expr}{T:St->Hp->VK->XK->Prop}(hc:cQ X c T)
    (hsg:Gl X sc) (hsm:X.mg sc=some (.ref SC)) (hex:PySem.W.exmOne X.K (.ref C) (.ref SC)=some true) (hN:X.N.Nodup) (hi:X.N[i]?=some n) (hl:X.env.kindOf n=some .local) (hX:X.stack=X.env::X.outer) (hf:X.env.frame=some X.env.locals)
    (hS:∀a j,j.cls=.ref C->PSs (X.hand a j) (b₀::suite) (tS a))
    (hsd:(sc==("__debug__" : Str))=false:=by decide) (hsw:swapsWith c none epos.line X.env=pure false:=by rfl) :
    PS X (.Try [.Expr c epos] [.ExceptHandler (some (.Name sc np)) (some n) (b₀::suite) hpos] [] [] pos)
      (λD σ H=>T σ H (λ_ _=>False) λcls _ m=>cls=.ref C/\∀a,m a=none->tS a { nx:=λσ' P=>D.nx (σ'.set i none) P,rt:=λ_ _=>False } (σ.set i (some (.ref a))) m):=by
  intro J s σ H D I h;refine wpAny_Try_except (wpAny_execs_cons (wpAny_Expr_any (wpAny_mono (hc J σ H s _ _ _ I h (λH1 s1 v s' I1 Z=>?_)) (λv s1 z=>?_) λ_ _ z=>z) I.quiet hsw))
  rotate_left
  . obtain⟨_,_,_,_,z⟩:=z
    exact z.elim
  obtain⟨a,cls,tt,m,B,rfl,os,bare,fl,hok,un,kB,tB,rfl,hE⟩:=Z;rw[hX]at fl;refine wpAny_looks_onW (I1.ok.frames.trans (by rw[hX])) hf fl λh4 o7 Eo=>?_;refine wpAny_landsW o7 λh5 G Em=>?_;have L:m a=none:=by
    cases q:m a with
    |none=>rfl
    |some o=>obtain⟨u,z⟩:=(hok a o q).there;rw[G.2.1]at z;cases z
  have nofr:∀{h:Heap},Heap.FlyingW B (X.env::X.outer) a (.ref C) (.ref tt) h->s'.heap.UpToSlots h->a∉frs X.stack:=λ{h} y F z=>by obtain⟨j,ws,r,_,d,_⟩:=y.first;have fr:=fl.2.2.1;rw[<- hX]at fr;obtain⟨_,o2,z2,nd⟩:=fr.mem z;obtain⟨sl,z3⟩:=F a o2 z2 nd;rw[r]at z3;cases z3;exact nd _ d
  have hand:∀{h:Heap}(y:Heap.FlyingW B (X.env::X.outer) a (.ref C) (.ref tt) h)(F:s'.heap.UpToSlots h),∃j,j.cls=.ref C/\Inv (X.hand a j) J σ m { s' with heap:=h }:=λ{h} y F=>by
    obtain⟨j,ws,r,E,d,_⟩:=y.first;have nf:=nofr y F;refine⟨j,E,(I1.land os bare hok un kB tB y.1 F).hand r L (λq=>nf ?_) (λq=>nf ?_) λv q=>by rw[d]at q;cases q⟩
    . rw[hX]
      exact List.mem_filterMap.mpr ⟨X.env,by simp,by rw[hf,q]⟩
    . rw[hX]
      obtain⟨env,m1,m2⟩:=List.mem_filterMap.mp q;exact List.mem_filterMap.mpr ⟨env,Ay _ m1,m2⟩
  obtain⟨Y,a6,O⟩:=hand G (Eo.trans Em);have U:PySem.W.Looks (model X.prog X.w) h5 (typeOf (.ref a)) (.ref C):=cC.type G.there;refine wpAny_handleBy_cons (codeAny_handlers_test (zE (X:=X.hand a Y) O hsg hsm ?_ hsd)) (by intro q;cases q);refine(PySem.W.exm_one O.kIn U hex).at ?_;refine codeAny_handlers_suite_as ?_;refine lands_againW G λh6 Wz RN=>?_;obtain⟨j,oc,Q⟩:=hand Wz ((Eo.trans Em).trans RN);refine Vn (X:=X.hand a j) Q hN hi (.inl hl) (v:=.ref a) rfl (λs7 I7=>?_) (.inr hl);refine wpAny_mono (hS a j oc J s7 _ m _ I7 (hE a L)) (λfl s8 hs=>?_) λ_ _ z=>z.elim;cases fl with
  |next=>obtain⟨σ',P,R,q⟩:=hs;exact We (R.lR I.ok) hN hi hl λs9 S=>⟨_,_,S,q⟩
  |ret u=>obtain⟨_,_,_,_,_,z⟩:=hs;exact z.elim
  |brk=>obtain⟨_,_,_,z⟩:=hs;exact z.elim
  |cont=>obtain⟨_,_,_,z⟩:=hs;exact z.elim
end
end L2
namespace D
open PySem PySem.Spec PyProof.Rows L2
abbrev bO:=En->Hs->Option (Str×Hs)
def tR(K:Ae)(E:XK)(g:bO):St->Hp->Prop:=λσ H=>∃Z env ρ B hp c a,bw K Z env σ ρ B hp H/\g env hp=some (c,a)/\∀C ρ' B' H',aX K c C->Gr K Z.ρ Z.B Z.H ρ' B' H'->aM K ρ' B' a H'->E (.ref C) none H'
def RE(X:Cx)(E:XK)(e:Expr)(g:bO):Prop:=PE X e (λσ H _=>tR X.K E g σ H)
def RS(X:Cx)(E:XK)(st:Stmt)(g:bO):Prop:=PS X st (λ_ σ H=>tR X.K E g σ H)
def iR(X:Cx)(E:XK)(st:List Stmt)(g:bO):Prop:=PSs X st (λ_ σ H=>tR X.K E g σ H)
def tZ(K:Ae)(n:Nat)(G:List DV->Hs->Option (Str×Hs)):Sp:=λvs H _ E=>vs.length=n/\∃ρ B hp ds c a,aM K ρ B hp H/\ak K ρ B H ds vs/\G ds hp=some (c,a)/\∀C ρ' B' H',aX K c C->Gr K ρ B H ρ' B' H'->aM K ρ' B' a H'->E (.ref C) none H'
structure mY(P:Program)(w:World)(K:Ae)(mg:Co)(O8:Heap)(x:Str)(k n:Nat)(G:List DV->Hs->Option (Str×Hs)):Prop where
 ex:∃(g:Addr)(fd:FuncData)(ps:List Str),Y4 P w K mg O8 (cH P w) k g fd ps (tZ K n G)/\Binds K fd ps []/\PySem.W.keepIn K (.ref g)=true/\mg x=some (.ref g)
structure VX(P:Program)(w:World)(K:Ae)(mg:Co)(O8:Heap)(c m:Str)(k n:Nat)(G:List DV->Hs->Option (Str×Hs)):Prop where
 ex:∃(C f:Addr)(fd:FuncData)(ps:List Str),aX K c C/\Cls K C/\uH K C m f/\Y4 P w K mg O8 (cH P w) k f fd ps (tZ K n G)/\Binds K fd ps []
def VM(n:Nat)(g:bO):List DV->Hs->Option (Str×Hs):=λds hp=>g (ds.map .val++List.replicate (n-ds.length) .un) hp
def dX{α:Type}(m:M α)(k:α->Hs->Option (Str×Hs)):Hs->Option (Str×Hs):=λhp=>(m hp).bind λr=>k r.1 r.2
theorem ZX{α:Type}{m:M α}{k:α->Hs->Option (Str×Hs)}{hp:Hs}{r:Str×Hs}(h:dX m k hp=some r):∃x hp1,m hp=some (x,hp1)/\k x hp1=some r:=by
 unfold dX at h;cases e:m hp with
 |none=>rw[e]at h;cases h
 |some q=>rw[e]at h;exact⟨q.1,q.2,rfl,h⟩
theorem J0{α:Type}{m:M α}{k:α->Hs->Option (Str×Hs)}{hp hp1:Hs}{x:α}(h:m hp=some (x,hp1)):dX m k hp=k x hp1:=by unfold dX;rw[h];rfl
section
variable{X:Cx}{E:XK}{e o:Expr}{es:List Expr}{st:Stmt}{rest:List Stmt}{g g':bO}{f:aB}{pos apos p:Pos}{c m:Str}{fo:aD}{fa:aW}
def K7(h:RE X E e g):RS X E (.Return (some e) pos) g:=L2.PS.imp (Mp h) λ_ _ _ q=>q
def QZ(h:RS X E st g):iR X E (st::rest) g:=L2.PSs.imp (yZ h (u:=λ_ _ _=>False) λ_ _ _ _ _ _ z=>z.elim) λ_ _ _ q=>q
def Xu(f:aB)(g:bO):bO:=λenv=>dX (f env) λr=>match r with
 | (.nx,aA)=>g aA
 |_=>λ_=>none
theorem ZF(h:DS X st f)(h':iR X E rest g):iR X E (st::rest) (Xu f g):=L2.PSs.imp (yZ h h') λD σ H q=>by
 obtain⟨Z,env,ρ,B,hp,c,a,S,e,k⟩:=q;obtain⟨⟨fl,aA⟩,hp1,n,d⟩:=ZX e;cases fl with
 |nx=>exact⟨Z,env,ρ,B,hp,.nx,aA,hp1,S,n,λσ' ρ' i H' g' j=>⟨Z,aA,ρ',i,hp1,c,a,j,d,k⟩⟩
 |_=>cases d
def dY(c:bH)(g g':bO):bO:=λenv=>dX (c env) λb=>if b=true then g env else g' env
theorem zW{r:Expr}{a b:List Stmt}{t:bH}(y:DT X r t)(ha:iR X E a g)(x:iR X E b g'):RS X E (.If r a b pos) (dY t g g'):=L2.PS.imp (Lk y ha x) λD σ H q=>by
 obtain⟨Z,env,ρ,B,hp,c,i,S,e,k⟩:=q;obtain⟨d,hp1,v,u⟩:=ZX e;refine⟨Z,env,ρ,B,hp,d,hp1,S,v,λρ1 j H1 g1 W1=>?_⟩;have n:=S.grow g1 W1;cases d with
 |true=>exact⟨Z,env,ρ1,j,hp1,c,i,n,u,k⟩
 |false=>exact⟨Z,env,ρ1,j,hp1,c,i,n,u,k⟩
def fK:bO:=λ_ _=>none
theorem Yu{l:List Stmt}:iR X E l fK:=λ_ _ _ _ _ _ q=>by obtain⟨Z,env,ρ,B,hp,c,a,S,e,k⟩:=q;cases e
def YQ(n:Nat)(G:List DV->Hs->Option (Str×Hs))(fa:aW):bO:=λenv=>dX (fa env) λds hp=>if ds.length=n then G ds hp else none
theorem j6{y:Str}{k j n:Nat}{G:List DV->Hs->Option (Str×Hs)}(h:mY X.prog X.w X.K X.mg X.O8 y j n G)(L:Room k X.A)(F:j<=k)(hx:Xs (cH X.prog X.w) X E)(ha:DA X (e::es) fa)(z:Gl X y:=by rfl)
  (hdb:(y==("__debug__" : Str))=false:=by decide) (he:starEach (e::es) X.env=(false,eval e X.env)::starEach es X.env:=by rfl) (hpl:(backTo pos (starEach es X.env)).any (·.1)=false:=by rfl):RE X E (.Call (.Name y p) (e::es) [] pos) (YQ n G fa):=by
 obtain⟨g,fd,ps,u,x,I,hm⟩:=h.ex;refine L2.PE.imp (gJ u (L.mono F) z hm I x .nil hx ha hdb he hpl) λσ H Q q=>?_;obtain⟨Z,env,ρ,B,hp,c,d,S,e,k⟩:=q;obtain⟨ds,hp1,v,a⟩:=ZX e;split at a
 ·rename_i J;refine cY.run S v λvs ρ1 r H1 g1 S1 i=>?_;exact⟨by rw[Bo,<- i.length];exact J,ρ1,r,hp1,ds,c,d,S1.wo,by rw[Bo];exact i,a,λC ρ2 B2 H2 O g2 W2=>k C ρ2 B2 H2 O (S1.gr.trans g2) W2⟩
 ·cases a
def X1(c m:Str)(n:Nat)(G:List DV->Hs->Option (Str×Hs))(fo:aD)(fa:aW):bO:=λenv=>dX (fo env) λx=>dX (dU c x λ_ fs=>Qy (fs.lookup m).isNone) λ_=>dX (fa env) λds hp=>if ds.length+1=n then G (x::ds) hp else none
theorem Ou{k j n:Nat}{G:List DV->Hs->Option (Str×Hs)}{pl:Sem Bool}(h:VX X.prog X.w X.K X.mg X.O8 c m j n G)(hr:Room k X.A)(hj:j<=k)(hx:Xs (cH X.prog X.w) X E)(ho:DE X o fo)(ha:DA X (e::es) fa)
  (hst:starEach (e::es) X.env=(false,eval e X.env)::starEach es X.env:=by rfl) (hpl:(backTo pos (starEach es X.env)).any (·.1)=false:=by rfl)
  (ht:eval (.Call (.Attribute o m apos) (e::es) [] pos) X.env=(do
   let ov <- eval o X.env
   standAt apos.atName
   let (f,first) <- holding [ov] (getMethod ov m pl)
   callWith pos f first (backTo pos (starEach (e::es) X.env)) (backToKw pos (keywordEach [] X.env))):=by rfl):RE X E (.Call (.Attribute o m apos) (e::es) [] pos) (X1 c m n G fo fa):=by
 obtain⟨C,g,fd,ps,nc,cl,hm,L,hb⟩:=h.ex;refine L2.PE.imp (Pj (pl:=pl) ho cl hm L (hr.mono hj) hb .nil hx ha hst hpl ht) λσ H Q q=>?_;obtain⟨Z,env,ρ,B,hp,O,r,S,e,k⟩:=q;obtain⟨x,hp1,R,e⟩:=ZX e;obtain⟨_,a6,T,e⟩:=ZX e;obtain⟨ds,u,U,d⟩:=ZX e;split at d
 ·rename_i hl;refine tD.run S R λv ρ1 B1 H1 g1 S1 y=>?_;obtain⟨i,fs,rfl,w1,w2⟩:=YX T;obtain⟨hn,rfl⟩:=Qz w2;obtain⟨a,rfl,_,ro⟩:=au.aV S1.wo y w1;obtain⟨C',P,xs,Y,ea,rf⟩:=ro.ins;obtain rfl:=Y.uniq nc;have hx:xs.lookup m=none:=by
   rcases rf.look m with ⟨_,z⟩|⟨_,_,z,_,_⟩
   ·exact z
   ·rw[z]at hn;cases hn
  refine⟨a,P,xs,rfl,ea,hx,cY.run S1 U λvs ρ2 I H2 g2 S2 F=>?_⟩;refine⟨?_,ρ2,I,u,_,O,r,S2.wo,?_,d,λJ ρ3 B3 H3 oU g3 W3=>k J ρ3 B3 H3 oU (S2.gr.trans g3) W3⟩
  ·rw[Bo,Be,<- F.length];exact hl
  ·rw[Bo];exact ak.cons (au.grow S1.wo.rb g2 _ _ y) F
 ·cases d
end
section
variable{X:Cx}{E:XK}{c:Str}{C:Addr}{np cpos pos p2:Pos}{msg:Str}{j:Nat}
def KZ{P:Program}{w:World}{K:Ae}{mg:Co}{O8:Heap}{N:List Str}{q:Str}{e:Scope}{f:Addr}{a:Value}{A:Around}{outer:List Env}{s:Shared}{H:Hp}{E:XK}:Xs (cH P w) (qF (cH P w) P w K mg O8 N q e f a A outer s H E) E:=λi σ H' s' v d I h=>MX I rfl rfl rfl h
def qG(c:Str):bO:=λ_ hp=>some (c,hp)
structure UX(K:Ae)(mg:Co)(c:Str):Prop where
 ex:∃C,aX K c C/\mg c=some (.ref C)/\HS K C
theorem XS{P:Program}{w:World}{K:Ae}{mg:Co}{O8:Heap}{N:List Str}{q:Str}{d:Scope}{f:Addr}{a:Value}{A:Around}{outer:List Env}{s:Shared}{H:Hp}{E:XK}(u:UX K mg c)(m:Gl (qF (cH P w) P w K mg O8 N q d f a A outer s H E) c:=by rfl)
  (he:starEach [.Constant (.str msg) j p2] (qF (cH P w) P w K mg O8 N q d f a A outer s H E).env=(false,eval (.Constant (.str msg) j p2) (qF (cH P w) P w K mg O8 N q d f a A outer s H E).env)::starEach [] (qF (cH P w) P w K mg O8 N q d f a A outer s H E).env:=by rfl) (hpl:(backTo cpos (starEach [.Constant (.str msg) j p2] (qF (cH P w) P w K mg O8 N q d f a A outer s H E).env)).any (·.1)=false:=by rfl) (hd:(c==("__debug__" : Str))=false:=by decide) :
  RS (qF (cH P w) P w K mg O8 N q d f a A outer s H E) E (.Raise (some (.Call (.Name c np) [.Constant (.str msg) j p2] [] cpos)) none pos) (qG c):=by
 obtain⟨C,o,hm,i⟩:=u.ex;refine L2.PS.imp (QfK (R:=λH=>E (.ref C) none H) rfl m hm i (λr σ H s I q h' e vs hx=>Qig I rfl rfl rfl hx q) he hpl hd) λD σ H q=>?_;obtain⟨Z,env,ρ,B,hp,v,n,S,e,k⟩:=q;cases e;exact k C ρ B H o S.gr S.wo
end
section
variable{P:Program}{w:World}{K:Ae}{mg:Co}{O8:Heap}{x c m q:Str}{st:Stmt}{N ps:List Str}{k:Nat}{g:bO}
def Ej(P:Program)(w:World)(K:Ae)(mg:Co)(O8:Heap)(N:List Str)(k:Nat)(q:Str)(st:Stmt)(g:bO):Prop:=∀(f:Addr)(a:Value)(A:Around)(outer:List Env)(s:Shared)(H:Hp)(E:XK),Room k (A.deeper (envOfC q (Qp st) s.heap.objs.size f a))->iR (qF (cH P w) P w K mg O8 N q (Qp st) f a A outer s H E) E (ZM st) g
theorem G_{f:Addr}{fd:FuncData}(F:Fun K x q st f fd)(j:Qu N ps (Qp st))(h:Ej P w K mg O8 N k q st g):Y4 P w K mg O8 (cH P w) (k+1) f fd ps (tZ K ps.length (VM N.length g)):=by obtain⟨z,od,kV,n,C,y,a,ct,v,rfl,u,d⟩:=F.ex;refine Iu u d j (λvs H Q E h=>h.1) λA outer s H vs Q E o sp=>⟨_,h f a A outer s H E o,?_⟩;obtain⟨hn,ρ,B,hp,ds,c,i,W,r,e,k⟩:=sp;exact⟨⟨ρ,B,H⟩,_,ρ,B,hp,c,i,xa W r,e,k⟩
theorem oZ(u:UF K mg x st)(a:Qu N ps (Qp st))(h:Ej P w K mg O8 N k x st g)(d:Bn ps x x st:=by intro _ _ _ _ _ _ us e;rcases us with _|⟨_,_|⟨_,_|⟨_,_|⟨_,_|⟨_,_|⟨_,_⟩⟩⟩⟩⟩⟩<;>first|rfl|cases e):mY P w K mg O8 x (k+1) ps.length (VM N.length g):=by obtain⟨f,fd,F,hm⟩:=u.ex;exact⟨f,fd,ps,G_ F a h,F.binds d,F.kp,hm⟩
theorem sy(u:UM K c m q st)(a:Qu N ps (Qp st))(h:Ej P w K mg O8 N k q st g)(d:Bn ps m q st:=by intro _ _ _ _ _ _ us e;rcases us with _|⟨_,_|⟨_,_|⟨_,_|⟨_,_|⟨_,_|⟨_,_⟩⟩⟩⟩⟩⟩<;>first|rfl|cases e):VX P w K mg O8 c m (k+1) ps.length (VM N.length g):=by obtain⟨C,f,fd,F,j,cl,i⟩:=u.ex;exact⟨C,f,fd,ps,j,cl,i,G_ F a h,F.binds d⟩
end
theorem bw.un{K:Ae}{Z:Ent}{env:En}{σ:St}{ρ:Cr}{B:Cq}{hp:Hs}{H:Hp}{i:Nat}{v:Option V}(S:bw K Z env σ ρ B hp H):bw K Z (env.set i .un) (σ.set i v) ρ B hp H where
 gr:=S.gr
 zb:=S.zb
 wo:=S.wo
 slot:=λj e h=>by
  by_cases d:j=i
  ·subst d;have c:j<env.length:=by have:=(Ag.mp h).1;simpa using this
   rw[Av c]at h;cases h
  ·rw[Ao (Ne.symm d)]at h ⊢;exact S.slot j e h
 cB:=λj ds h=>by
  by_cases d:j=i
  ·subst d;have c:j<env.length:=by have:=(Ag.mp h).1;simpa using this
   rw[Av c]at h;cases h
  ·rw[Ao (Ne.symm d)]at h ⊢;exact S.cB j ds h
 cP:=λj l ds es a h1 h2 h3 h4=>by
  have m:j≠i:=λq=>by
   subst q;have c:j<env.length:=by have:=(Ag.mp h1).1;simpa using this
   rw[Av c]at h1;cases h1
  have n:l≠i:=λq=>by
   subst q;have c:l<env.length:=by have:=(Ag.mp h2).1;simpa using this
   rw[Av c]at h2;cases h2
  rw[Ao (Ne.symm m)]at h1 h3;rw[Ao (Ne.symm n)]at h2 h4;exact S.cP j l ds es a h1 h2 h3 h4
 len:=by simpa using S.len
section
variable{K:Ae}{h:Heap}{mg:Co}{c sc a1 b1 b2 b3 b4:Str}{C SC A1 B1 B2 B3 B4:Addr}
def ux(X:K.In h)(G:h.Ns mainGlobals mg)(n:PySem.W.nsIn K mainGlobals c=some (some (.ref C)))(e:PySem.W.excIn K C [.type "ValueError", .type "Exception", .type "BaseException", .type "object"] "ValueError.__new__" = true):UX K mg c:=⟨C,n,PySem.W.mg_of X G n,e⟩
end
section
variable{X:Cx}{a C:Addr}{oe:Obj}
theorem MJ(i:Ed X.K C)(e:oe.cls=.ref C):CallR (X.hand a oe) (.builtin "isinstance") (λxs H Q=>∃v u b,xs=[.ref a,v]/\RelV v u/\PySem.W.kitOne X.K (.ref C) u=some b/\(∀d,RelV v d->d=u)/\Q (.bl b) H):=by intro o s σ H xs us Q I r h;obtain⟨v,u,b,rfl,x,c,n,q⟩:=h;obtain⟨u1,u2,rfl,j,m⟩:=tV r;cases j;obtain rfl:=n _ m;have of:cC a C s.heap:=⟨oe,(I.pin (a,oe) (by simp)).1,e⟩;exact PySem.W.kia_one (Qe8 i) I.kIn of c (λz=>nomatch z) λtk=>⟨.bl _,H,I.tok _,rfl,q⟩
end
def dM(g g':bO):bO:=λenv hp=>match g env hp with
 |some r=>some r
 |none=>g' env hp
section
variable{X:Cx}{E:XK}{l:List Stmt}{g g':bO}
theorem zI(h:iR X E l g)(h':iR X E l g'):iR X E l (dM g g'):=λd s σ H D I q=>by
 obtain⟨Z,env,ρ,B,hp,c,a,S,e,k⟩:=q;unfold dM at e;cases q:g env hp with
 |some r=>rw[q]at e;cases e;exact h d s σ H D I ⟨Z,env,ρ,B,hp,c,a,S,q,k⟩
 |none=>rw[q]at e;exact h' d s σ H D I ⟨Z,env,ρ,B,hp,c,a,S,e,k⟩
end
section
variable{X:Cx}{c sc a1 b1 b2 b3 b4 x n nr no:Str}{e:Expr}{es:List Expr}{fa:aW}{p pos cpos epos hpos np p1 p2 p3 p4 p5 p6 p7 p8 p9 rW rT rR rQ rP rO rN rM rK rJ q1 q2:Pos}{kt:Nat}
def RX(X:Cx)(e:Expr)(g:bO):Prop:=cQ X e (λσ H _ E=>∃Z env ρ B hp c a,bw X.K Z env σ ρ B hp H/\g env hp=some (c,a)/\∀C ρ' B' H',aX X.K c C->Gr X.K ρ B H ρ' B' H'->aM X.K ρ' B' a H'->E (.ref C) none H')
def cQ.imp{X:Cx}{e:Expr}{T a:St->Hp->VK->XK->Prop}(h:cQ X e T)(k:∀σ H Q E,a σ H Q E->T σ H Q E):cQ X e a:=λd σ H s Q E xe I q=>h d σ H s Q E xe I (k _ _ _ _ q)
theorem UW{k j n:Nat}{G:List DV->Hs->Option (Str×Hs)}{pl:Sem Bool}{o:Expr}{F:aD}{m:Str}{d:Pos}(h:VX X.prog X.w X.K X.mg X.O8 c m j n G)(hr:Room k X.A)(hj:j<=k)(ho:DE X.nox o F)(ha:DA X.nox (e::es) fa)
  (hst:starEach (e::es) X.env=(false,eval e X.env)::starEach es X.env:=by rfl) (hpl:(backTo pos (starEach es X.env)).any (·.1)=false:=by rfl)
  (ht:eval (.Call (.Attribute o m d) (e::es) [] pos) X.env=(do
   let ov <- eval o X.env
   standAt d.atName
   let (f,first) <- holding [ov] (getMethod ov m pl)
   callWith pos f first (backTo pos (starEach (e::es) X.env)) (backToKw pos (keywordEach [] X.env))):=by rfl):RX X (.Call (.Attribute o m d) (e::es) [] pos) (X1 c m n G F fa):=by
 obtain⟨C,g,fd,ps,nc,cl,hm,P,hb⟩:=h.ex;refine cQ.imp (QhS (pl:=pl) ho cl hm P (hr.mono hj) hb ha hst hpl ht) λσ H Q E q=>?_;obtain⟨Z,env,ρ,B,hp,R,u,S,e,k⟩:=q;obtain⟨x,hp1,U,e⟩:=ZX e;obtain⟨_,a6,Y,e⟩:=ZX e;obtain⟨ds,y,e3,r⟩:=ZX e;split at r
 ·rename_i hl;refine tD.run S U λv ρ1 B1 H1 g1 S1 I=>?_;obtain⟨i,fs,rfl,w1,w2⟩:=YX Y;obtain⟨hn,rfl⟩:=Qz w2;obtain⟨a,rfl,_,ro⟩:=au.aV S1.wo I w1;obtain⟨C',T,xs,eV,ea,rf⟩:=ro.ins;obtain rfl:=eV.uniq nc;have hx:xs.lookup m=none:=by
   rcases rf.look m with ⟨_,z⟩|⟨_,_,z,_,_⟩
   ·exact z
   ·rw[z]at hn;cases hn
  refine⟨a,T,xs,rfl,ea,hx,cY.run S1 e3 λvs ρ2 L H2 g2 S2 J=>?_⟩;refine⟨?_,ρ2,L,y,_,R,u,S2.wo,?_,r,λO ρ3 B3 H3 oU g3 W3=>k O ρ3 B3 H3 oU ((g1.trans g2).trans g3) W3⟩
  ·rw[Bo,Be,<- J.length];exact hl
  ·rw[Bo];exact ak.cons (au.grow S1.wo.rb g2 _ _ I) J
 ·cases r
end
section
variable{X:Cx}
def pK:DV->DV->M DV
 |.lst [d],.int n=>do Qy (decide (0<=n/\n.toNat<=100000));JZ (.lst (List.replicate n.toNat d))
 |_,_=>failure
theorem SH:P2 X (binaryOp .Mult) pK:=by
 intro i s σ H x y v u Q I rx ry h;obtain⟨ρ,B,hp,O,P,d,r,W,E,F,e,k⟩:=h;unfold pK at e;split at e
 ·rename_i d0 n;obtain⟨_,hp1,m,o⟩:=Qg e;obtain⟨hs,rfl⟩:=Qz m;cases o;obtain⟨q,h1⟩:=Ci hs;obtain⟨l,vs,rfl,R,L,G⟩:=E.bQ;obtain⟨z,rfl,J⟩:=G.bA;refine thn (Ow i s σ H _ _ v u (λv a=>kC X.K a->Q v a) I rx ry ⟨l,z,n,rfl,F.aN,L,q,h1,ge W (K6 J _) k⟩) λv s' z=>?_;obtain⟨x,a,c,j,C⟩:=z;exact⟨x,a,c,j,C (Inv.iC c)⟩
 ·cases e
end
section
variable{prog:Program}{w:World}{A:Around}{E:Cm}{s:Shared}
end
section
variable{X:Cx}
end
section
variable{X:Cx}
theorem ZK{x:Str}{i:Int}{a:Pos}(u:UG X.mg x i)(c:Gl X x:=by rfl)(hd:(x==("__debug__" : Str))=false:=by decide):DE X (.Name x a) (eC (.int i)):=let ⟨_,h⟩:=u.ex;QgO c h hd
end
section
variable{env aA:En}{hp hp1:Hs}{f g:aB}{c:bH}{r:Option ((Fl×En)×Hs)}
def Xe(h:c env hp=some (false,hp1)):aJ c f Q7 env hp=some ((.nx,env),hp1):=Zv h
def yN{α:Type}{xs:List α}{i:Nat}{x:α}(h:xs[i]?=some x):i<xs.length:=(Ag.mp h).1
def Yv{α:Type}{xs ys:List α}{i:Nat}{x:α}(h:xs[i]?=some x):(xs++ys)[i]?=some x:=(Aj (yN h)).trans h
end
section
variable{X:Cx}
def JY:List DV->M DV
 | [.int i]=>do Qy (decide (i.natAbs<2 ^ 200));pure (.str (Str.ofString (toString i)))
 | [.str x]=>pure (.str x)
 |_=>failure
theorem QjA{n:Nat}(h:n<2 ^ 200):n.log2<1920:=by
 by_cases z:n=0
 ·subst z;decide
 ·exact(Nat.log2_lt z).mpr (Az h (Nat.pow_le_pow_right (by decide) (by decide)))
theorem qd:CallR X (.type "str") (eG X.K JY):=by
 intro n s σ H xs us Q I r h;obtain⟨ρ,B,hp,ds,d,m,W,c,e,k⟩:=h;unfold JY at e;split at e
 ·obtain⟨_,hp1,i,j⟩:=Qg e;obtain⟨hs,rfl⟩:=Qz i;obtain⟨rfl,rfl⟩:=Qm j;obtain⟨v,rfl,a⟩:=c.bA;obtain rfl:=a.aN;obtain⟨u,rfl,t,rfl⟩:=Y3 r;exact PySem.P.str_of_int (QjA (Ci hs)) ⟨.str _,H,I.tok _,⟨_,rfl⟩,k _ ρ B H Gr.refl W qr⟩
 ·obtain⟨rfl,rfl⟩:=Qm e;obtain⟨v,rfl,a⟩:=c.bA;obtain rfl:=a.aZ;obtain⟨u,rfl,t,rfl⟩:=Y3 r;exact PySem.P.str_of_str ⟨.str _,H,I,⟨_,rfl⟩,k _ ρ B H Gr.refl W qr⟩
 ·cases e
def BX:List DV->M DV
  | [.str x]=>do
    Qy (decide (x.length<=640))
    let n <- nF (PySem.intText? x)
    pure (.int n)
  |_=>failure
theorem QiW:CallR X (.type "int") (eG X.K BX):=by
 intro y s σ H xs us Q I r h;obtain⟨ρ,B,hp,ds,d,m,W,q,e,k⟩:=h;unfold BX at e;split at e
 ·obtain⟨_,hp1,a,c⟩:=Qg e;obtain⟨hs,rfl⟩:=Qz a;obtain⟨n,o,i,j⟩:=Qg c;obtain⟨hn,rfl⟩:=yX i;obtain⟨rfl,rfl⟩:=Qm j;obtain⟨v,rfl,x⟩:=q.bA;obtain rfl:=x.aZ;obtain⟨u,rfl,t,rfl⟩:=Y3 r;exact PySem.W.KIN.call_text hn (Ci hs) ⟨.int _,H,I.tok _,⟨_,rfl⟩,k _ ρ B H Gr.refl W Z6⟩
 ·cases e
def CJ:DV->DV->M DV
 |.str x,.str y=>do Qy (decide (x.length+y.length<=sizeLine));pure (.str (x++y))
 |_,_=>failure
theorem SK:P2 X (binaryOp .Add) CJ:=by
 intro n s σ H x y v u Q I rx ry h;obtain⟨ρ,B,hp,o,q,d,i,W,j,m,e,k⟩:=h;unfold CJ at e;split at e
 ·obtain⟨_,hp1,a,c⟩:=Qg e;obtain⟨hs,rfl⟩:=Qz a;obtain⟨rfl,rfl⟩:=Qm c;obtain rfl:=j.aZ;obtain rfl:=m.aZ;obtain⟨t,rfl⟩:=rx;obtain⟨t',rfl⟩:=ry;exact PySem.SB.add (λt' r=>⟨.str _,H,I.tok _,⟨_,rfl⟩,k _ ρ B H Gr.refl W qr⟩) (Ci hs)
 ·cases e
def sI:DV->DV->M DV
 |.str x,.int n=>do Qy (decide (1<=n/\n<=1000/\x.length<=1000));pure (.str (Txt.mul x n))
 |_,_=>failure
theorem D7{x:Str}{n:Int}(h:1<=n/\n<=1000/\x.length<=1000):MulOk x n:=by
 obtain⟨h1,h2,h3⟩:=h;refine⟨?_,λ_ _=>?_,λ_ _=>?_⟩
 ·simp only[Bool.or_eq_false_iff,decide_eq_false_iff_not];lia
 ·have:(1000:Int)<=(2 ^ 63-1) / n:=by rw[Int.le_ediv_iff_mul_le ⋯];lia
  lia
 ·have:x.length * n.toNat<=1000 * 1000:=Nat.mul_le_mul h3 ⋯;exact Cj (by show ¬ (_ > sizeLine);unfold sizeLine;lia)
theorem SG:P2 X (binaryOp .Mult) sI:=by
 intro n s σ H x y v u Q I rx ry h;obtain⟨ρ,B,hp,o,q,d,i,W,j,m,e,k⟩:=h;unfold sI at e;split at e
 ·obtain⟨_,hp1,a,c⟩:=Qg e;obtain⟨hs,rfl⟩:=Qz a;obtain⟨rfl,rfl⟩:=Qm c;obtain rfl:=j.aZ;obtain rfl:=m.aN;obtain⟨t,rfl⟩:=rx;obtain⟨t',rfl⟩:=ry;exact PySem.SB.mul (D7 (Ci hs)) (λt' r=>⟨.str _,H,I.tok _,⟨_,rfl⟩,k _ ρ B H Gr.refl W qr⟩)
 ·cases e
def iZ:DV->DV->M DV
 |.str y,.str x=>pure (.bl (Txt.contains x y))
 |_,_=>failure
theorem C_:P2 X (compareOp .In) iZ:=by
 intro j s σ H x y v u Q I rx ry h;obtain⟨ρ,B,hp,m,n,d,a,W,c,i,e,k⟩:=h;unfold iZ at e;split at e
 ·obtain⟨rfl,rfl⟩:=Qm e;obtain rfl:=c.aZ;obtain rfl:=i.aZ;obtain⟨t,rfl⟩:=rx;obtain⟨t',rfl⟩:=ry;exact PySem.SB.contains ⟨.bl _,H,I,rfl,k _ ρ B H Gr.refl W (by unfold au;rfl)⟩
 ·cases e
def BW:List DV->M DV
 | [.str x]=>do Qy (decide (x.length<2 ^ 62));pure (.int x.length)
 |_=>failure
theorem QiY:CallR X (.builtin "len") (eG X.K BW):=by
 intro n s σ H xs us Q I r h;obtain⟨ρ,B,hp,ds,d,i,W,j,e,k⟩:=h;unfold BW at e;split at e
 ·obtain⟨_,hp1,a,c⟩:=Qg e;obtain⟨hs,rfl⟩:=Qz a;obtain⟨rfl,rfl⟩:=Qm c;obtain⟨v,rfl,m⟩:=j.bA;obtain rfl:=m.aZ;obtain⟨u,rfl,t,rfl⟩:=Y3 r;have hs:=Ci hs;exact PySem.P.len_str ⋯ ⟨.int _,H,I.tok _,⟨_,rfl⟩,k _ ρ B H Gr.refl W Z6⟩
 ·cases e
end
section
variable{prog:Program}{w:World}{A:Around}{E:Cm}{s:Shared}
theorem QbW{x y:Str}{t u:Tok}{Q:Cm}(a:(y.length==0)=false)(hsz:x.length+2<=sizeLine)
  (h:∀l k,l.map (·.1)=Txt.split x y->Q (.ref s.heap.objs.size) { s with heap:=s.heap.push { cls:=.type "list", data:=.seq (strValues l).toArray },toks:=k }) :
  wpAny (model prog w) A (call (.builtin "str.split") [.str x t,.str y u]) Q E s:=by
 have hn:(Builtin.Str.partsBetween x (Builtin.Str.occurrences x y 0 x.length (x.length+1)) y.length).length<=sizeLine:=by have c:=StrLaws.occ_length_le x y 0 x.length (x.length+1);rw[length_partsBetween];lia
 cases h1:(decide (x.length<y.length)||decide (Builtin.Str.strKind x<Builtin.Str.strKind y))
 ·cases hf:(Builtin.Str.occurrences x y 0 x.length (x.length+1)).isEmpty
  ·refine call_meets PySem.F.slot_str_split (typeIs_str _ _ _) PySem.F.entry_str_split (PySem.F.args_str_split_2 _ _) (meets_str_split_sep x y t u h1 a hf ⋯ hn) ?_;have:=h (numbered s.toks _) (s.toks+(Builtin.Str.partsBetween x (Builtin.Str.occurrences x y 0 x.length (x.length+1)) y.length).length) ((numbered_texts _ _).trans ((Ce (ne_true_of_eq_false h1)).trans (Ce (ne_true_of_eq_false hf))).symm);rw[<- strsFrom_eq]at this;exact this
  ·exact call_meets PySem.F.slot_str_split (typeIs_str _ _ _) PySem.F.entry_str_split (PySem.F.args_str_split_2 _ _) (meets_str_split_not_found x y t u h1 a hf) (h [(x,t)] s.toks ((Ce (ne_true_of_eq_false h1)).trans (Cf hf)).symm)
 ·exact call_meets PySem.F.slot_str_split (typeIs_str _ _ _) PySem.F.entry_str_split (PySem.F.args_str_split_2 _ _) (meets_str_split_cannot_occur x y t u h1) (h [(x,t)] s.toks (Cf h1).symm)
end
section
variable{X:Cx}
def Yg:DV->List DV->M DV
 |.str x,[.str y]=>pure (.bl (Txt.startswith x y))
 |_,_=>failure
theorem yW:MtR X "str.startswith" (lE X.K Yg):=by
 intro m s σ H x vs v us Q I rx rv h;obtain⟨ρ,B,hp,n,es,d,a,W,c,i,e,k⟩:=h;unfold Yg at e;split at e
 ·obtain⟨rfl,rfl⟩:=Qm e;obtain⟨z,rfl,j⟩:=i.bA;obtain rfl:=c.aZ;obtain rfl:=j.aZ;obtain⟨u,rfl,t,rfl⟩:=Y3 rv;obtain⟨t',rfl⟩:=rx;exact PySem.SC.startswith ⟨.bl _,H,I,rfl,k _ ρ B H Gr.refl W (by unfold au;rfl)⟩
 ·cases e
def VD:DV->List DV->M DV
  |.str x,[.str y]=>do
    Qy (decide (0<y.length/\x.length+2<=sizeLine/\(Txt.split x y).length<=sizeLine))
    pure (.lst ((Txt.split x y).map .str))
  |_,_=>failure
theorem uy:∀l:List (Str×Tok),Vals ((l.map (·.1)).map V.str) (strValues l)
 | []=>.nil
 | (x,t)::l=>.cons ⟨t,rfl⟩ (uy l)
theorem vW{K:Ae}{ρ:Cr}{B:Cq}{H:Hp}:∀l:List Str,ak K ρ B H (l.map .str) (l.map .str)
  | []=>by unfold ak;rfl
  |x::l=>by rw[Bf,Bf];unfold ak;exact⟨_,_,rfl,qr,vW l⟩
theorem Nr:MtR X "str.split" (lE X.K VD):=by
 intro r s σ H x vs v us Q I rx rv h;obtain⟨ρ,B,hp,y,es,d,m,W,n,o,e,k⟩:=h;unfold VD at e;split at e
 ·obtain⟨_,hp1,c,i⟩:=Qg e;obtain⟨hs,rfl⟩:=Qz c;obtain⟨rfl,rfl⟩:=Qm i;obtain⟨h1,h2,h3⟩:=Ci hs;obtain⟨z,rfl,q⟩:=o.bA;obtain rfl:=n.aZ;obtain rfl:=q.aZ;obtain⟨u,rfl,t,rfl⟩:=Y3 rv;obtain⟨t',rfl⟩:=rx;refine QbW (by simpa using Cc h1) h2 λl tk j=>?_;have a:=uy l;rw[j]at a;exact⟨.ref _,_,I.lnew (t':=tk) a (by rw[Bm];exact h3),rfl,qj W (vW _) k _ I.fresh⟩
 ·cases e
end
section
variable{X:Cx}{e:Expr}{f:aD}{pos:Pos}
def t_(d:DV)(lo hi:Option Int):M DV:=match d with
 |.str x=>do Qy (decide (x.length<=sizeLine));pure (.str (Txt.slice x lo hi))
 |_=>failure
def pQ(f:aD)(lo hi:iJ):aD:=λenv=>do let d <- f env;let l <- lo env;let h <- hi env;t_ d l h
def WG(K:Ae):V->Option Int->Option Int->Hp->VK->Prop:=λx lo hi H Q=>∃ρ B hp d r a,aM K ρ B hp H/\au K ρ B H d x/\t_ d lo hi hp=some (r,a)/\fu K ρ B H r a Q
theorem MH:SlR X (WG X.K):=by
  intro m s σ H x v vl vu lo hi sl Q I rx hs pl pu h;obtain⟨ρ,B,hp,d,r,q,W,y,e,k⟩:=h;cases d with
  |str x =>
    obtain⟨_,hp1,n,o⟩:=Qg e;obtain⟨hz,rfl⟩:=Qz n;obtain⟨rfl,rfl⟩:=Qm o;obtain rfl:=y.aZ;obtain⟨t,rfl⟩:=rx;have hz:=Ci hz;have a:∀t' c,EP X m σ Q (.str (Txt.slice x lo hi) t') { s with toks:=c }:=λt' c=>⟨.str _,H,I.tok _,⟨_,rfl⟩,k _ ρ B H Gr.refl W qr⟩;refine⟨"str", _,PySem.F.slot_str_getitem.lookup,typeIs_str _ _ _,?_⟩;cases pl with
    |none =>
      cases pu with
      |none=>exact wpAny_getItem_str_slice (l:=none) (u:=none) (st:=none) hs rfl (post_val_or_str ⟨Bj (Txt.slice_le x _ _) hz,a⟩)
      |int j u=>exact wpAny_getItem_str_slice (l:=none) (u:=some (j,u)) (st:=none) hs rfl (post_val_or_str ⟨Bj (Txt.slice_le x _ _) hz,a⟩)
    |int i u =>
      cases pu with
      |none=>exact wpAny_getItem_str_slice (l:=some (i,u)) (u:=none) (st:=none) hs rfl (post_val_or_str ⟨Bj (Txt.slice_le x _ _) hz,a⟩)
      |int j z=>exact wpAny_getItem_str_slice (l:=some (i,u)) (u:=some (j,z)) (st:=none) hs rfl (post_val_or_str ⟨Bj (Txt.slice_le x _ _) hz,a⟩)
  |_=>cases e
theorem Nh{lo hi:Option Expr}{j i:iJ}{E:Pos}(h:DE X e f)(z:DO X lo j)(y:DO X hi i):DE X (.Subscript e (.Slice lo hi none E) pos) (pQ f j i) :=
 L2.PE.imp (K0 MH h z y) λσ H Q n=>by obtain⟨Z,env,ρ,B,hp,d,a,S,e,k⟩:=n;obtain⟨x,hp1,o,e⟩:=Qg e;obtain⟨l,C,q,e⟩:=Qg e;obtain⟨u,c,r,e⟩:=Qg e;refine tD.run S o λv ρ1 B1 H1 g1 S1 F=>iY.run S1 q λρ2 B2 H2 g2 S2=>iY.run S2 r λρ3 m H3 g3 S3=>?_;exact⟨ρ3,m,c,x,d,a,S3.wo,au.grow S1.wo.rb (g2.trans g3) _ _ F,e,k.after (g1.trans (g2.trans g3))⟩
end
end D
namespace L2
open PySem PySem.Spec PyProof.Rows
def Its(x:Str):It:=⟨λi _=>i<x.cps.size,λi H v H'=>H'=H/\∃c,x.cps[i]?=some c/\v=.str ⟨#[c]⟩,λi _=>x.cps.size<=i⟩
theorem Qh2{h:Heap}{a:Addr}{x:Str}{t:Tok}{i:Nat}{T:String}(st:h.IsStrIter a T x t i):∃o,h.get? a=some o/\∀v,o.data≠.cell v:=by obtain⟨o,e,c,d⟩:=st;exact⟨o,e,λv z=>by rw[d]at z;cases z⟩
theorem uA{prog:Program}{w:World}{A:Around}(a:A.handled=none)(I:Addr)(x:Str)(t:Tok):Walks prog w A I [I] [I] x.cps.size (SignAt x) (λi h=>h.IsStrIter I (strIterType x) x t i):=by
 cases ha:x.cps.all (· < 128)
 ·have e:strIterType x = "str_iterator" := by simp[strIterType,ha]
  rw[e];exact Walks.strWide a I x t
 ·have e:strIterType x = "str_ascii_iterator" := by simp[strIterType,ha]
  rw[e];exact Walks.strAscii a I x t
theorem Rz(x:Str):strIterType x = "str_iterator" ∨ strIterType x = "str_ascii_iterator" := by
 cases ha:x.cps.all (· < 128)
 ·left;simp[strIterType,ha]
 ·right;simp[strIterType,ha]
theorem Qgj{P:Program}{w:World}{K:Ae}{tg:Expr}(x:Str)(t:Tok)(a:Addr):m7 P w K tg (Its x) [a] a (λi h=>i<=x.cps.size/\h.IsStrIter a (strIterType x) x t i) where
 mem:=by simp
 obj:=λi h st b j=>by
  have e:b=a:=by simpa using j
  subst e;exact Qh2 st.2
 keep:=λi h h' st k=>⟨st.1,let ⟨o,Z,r⟩:=st.2;⟨o,k a (by simp) o Z,r⟩⟩
 item:=by intro X J R G L i O9 s σ H E I hf st hg;subst J R G;obtain⟨n,q,Y,y,C,F⟩:=hf a (by simp);refine(uA (prog:=X.prog) (w:=X.w) (I.ok.hd L) a x t).item i s _ _ hg st.2 λv h' tk hv m S=>?_;obtain⟨c,u,O,rfl⟩:=hv;have T:Inv X O9 σ H { s with heap:=h',toks:=tk }:=I.turned (λb o j e=>S b o (by simpa using j) e) n q y C F;obtain⟨o,e,c1,d⟩:=id m;exact⟨_,rfl,pX (s:={ s with heap:=h',toks:=tk }) e c1 d (by rcases Rz x with z|z<;>rw[z]<;>decide) ⟨.str ⟨#[c]⟩,H,T,⟨u,rfl⟩,⟨rfl,c,O,rfl⟩,⟨hg,m⟩,λb j=>(hf b j).1⟩⟩
 done:=by intro X J R G L i O9 s σ H E I hf st hg;subst J R G;obtain⟨n,q,Y,y,C,F⟩:=hf a (by simp);have U:i=x.cps.size:=Nat.le_antisymm st.1 hg;subst U;exact(uA (prog:=X.prog) (w:=X.w) (I.ok.hd L) a x t).done s _ _ st.2 λh' tk S=>⟨rfl,I.turned (λb o j e=>S b o (by simpa using j) e) n q y C F⟩
 self:=λA i s Q E st h=>by
  rcases Rz x with z|z
  ·exact wpAny_pyIter_striter_wide (z▸st.2) h
  ·exact wpAny_pyIter_striter_ascii (z▸st.2) h
def v_(a:TE):TI:=λσ H R=>a σ H λv H1=>∃x,v=.str x/\R (Its x) H1
theorem Qj1{X:Cx}{m:Expr}{l:Expr}{c:TE}(j:PE X l c):PI X m l (v_ c):=by
 intro d s σ H R I h;refine thn (j d s σ H _ I h) λv a ⟨y,H1,I1,r1,q1⟩=>?_;obtain⟨x,e,q⟩:=q1;subst e;obtain⟨t,rfl⟩:=r1;refine wpAny_pyIter_strU ?_;refine⟨a.heap.objs.size,[a.heap.objs.size],_,_,H1,rfl,I1.kept (t':=a.toks) λb o e=>Ah _ e,Qgj x t _,⟨Bh _,_,Aw _ rfl,rfl,rfl⟩,λb i=>?_,q⟩;have e:b=a.heap.objs.size:=by simpa using i
 subst e;exact I1.fpOk (Ai _) (I1.hok.fresh (Ai _))
end L2
namespace D
open PySem PySem.Spec PyProof.Rows L2
section
variable{X:Cx}{tg iter:Expr}{f:aD}
def GD(x:Str):List DV:=x.cps.toList.map λc=>.str ⟨#[c]⟩
theorem Si{K:Ae}{ρ:Cr}{B:Cq}{H:Hp}{x:Str}:kA K ρ B H (GD x) (Its x):=λρ1 B1 H1 g _ _=>by
 refine⟨λi d e=>?_,by show x.cps.size<=_;simp[GD]⟩;have hi:i<x.cps.size:=by have:=(Ag.mp e).1;simpa [GD]using this
 refine⟨hi,λy H' ⟨a,c,hc,q⟩=>?_⟩;subst a q;have:d=.str ⟨#[c]⟩:=by unfold GD at e;rw[Bp,Array.getElem?_toList,hc]at e;cases e;rfl
 subst this;exact⟨qr,.inl rfl⟩
def WV:DV->M (List DV)
 |.str x=>pure (GD x)
 |_=>failure
def j_(f:aD):En->M (List DV):=λenv=>do WV (<- f env)
theorem Dw(h:DE X iter f):DI X tg iter (j_ f):=(Qj1 h).imp λσ H R c=>by
  obtain⟨Z,env,ρ,B,hp,ds,j,S,e,k⟩:=c;obtain⟨d,hp1,i,a⟩:=Qg e;cases d with
  |str x=>obtain⟨rfl,rfl⟩:=Qm a;refine tD.run S i λv ρ1 B1 H1 g1 S1 m=>?_;obtain rfl:=m.aZ;exact⟨x,rfl,k _ ρ1 B1 H1 g1 S1.wo Si⟩
  |_=>cases a
end
def kj(T:List (Str×Int)):List (Str×PyData):=T.map λp=>(p.1,.int p.2)
def oI:Option Int->DV
 |some i=>.int i
 |none=>.non
def vI:Option Int->V
 |some i=>.int i
 |none=>.non
structure U8(K:Ae)(mg:Co)(x:Str)(T:List (Str×Int)):Prop where
 ex:∃a,mg x=some (.ref a)/\KTD.tabLook KTD.flatLooks (λb=>K.lookup b) a (kj T)=true
theorem Ld{K:Ae}{h:Heap}{mg:Co}{x:Str}{a:Addr}{o:Obj}{T:List (Str×Int)}(X:K.In h)(G:h.Ns mainGlobals mg)(n:PySem.W.nsIn K mainGlobals x=some (some (.ref a)))(l:K.lookup a=some o)(r:KTD.tabLook KTD.flatLooks (λ_=>some o) a (kj T)=true):U8 K mg x T :=
 ⟨_,PySem.W.mg_of X G n,by unfold KTD.tabLook at r ⊢;simp only[l];exact r⟩
theorem kT{h:Heap}{k:Str}{P:Value->Prop}{c:Prop}:∀{T:List (Str×Int)},(∀i t,T.lookup k=some i->P (.int i t))->(T.lookup k=none->c)->KTD.Each h k P c ((kj T).map λp=>(p.1,KTD.Dat.flat p.2))
  | [],_,h=>h rfl
  | (a,b)::r,h1,h2=>by
    show if decide (k=a)=true then KTD.Opened h P (.flat (.int b))else KTD.Each h k P c ((kj r).map λp=>(p.1,KTD.Dat.flat p.2))
    by_cases e:k=a
    . rw[Cf (Ch e)]
      refine KTD.opened_int λt=>h1 b t ?_;rw[List.lookup_cons,show(k==a)=true from beq_iff_eq.mpr e]
    . rw[Ce (by simpa using e)]
      have z:((a,b)::r).lookup k=r.lookup k:=by rw[List.lookup_cons,show(k==a)=false from Bool.eq_false_iff.mpr λz=>e (beq_iff_eq.mp z)]
      exact kT (λi t q=>h1 i t (z.trans q)) λq=>h2 (z.trans q)
theorem Nk{k:Str}:∀{T:List (Str×Int)},KTD.inKeys k ((kj T).map λp=>(p.1,KTD.Dat.flat p.2))=(T.lookup k).isSome
  | []=>rfl
  | (a,b)::r=>by
    show(decide (k=a)||KTD.inKeys k ((kj r).map λp=>(p.1,KTD.Dat.flat p.2)))=_;rw[Nk,List.lookup_cons];by_cases e:k=a
    . rw[show(k==a)=true from beq_iff_eq.mpr e,Ch e];rfl
    . rw[show(k==a)=false from Bool.eq_false_iff.mpr λz=>e (beq_iff_eq.mp z),Cj e];rfl
def Wp(T:List (Str×Int)):DV->M DV
 |.str x=>pure (oI (T.lookup x))
 |_=>failure
def zP(T:List (Str×Int))(f:aD):aD:=λenv=>do Wp T (<- f env)
def Wt(T:List (Str×Int)):DV->M DV
 |.str x=>pure (.bl (T.lookup x).isSome)
 |_=>failure
def Ib(T:List (Str×Int))(f:aD):aD:=λenv=>do Wt T (<- f env)
section
variable{X:Cx}{x:Str}{T:List (Str×Int)}{e:Expr}{p pos apos:Pos}
theorem GH{a:Addr}{c:Cn}{σ:St}{H:Hp}{s:Shared}(I:Inv X c σ H s)(j:KTD.tabLook KTD.flatLooks (λb=>X.K.lookup b) a (kj T)=true):KTD.Here s.heap s.heap a ((kj T).map λp=>(p.1,KTD.Dat.flat p.2)):=by have i:KTD.TabOf (λd v=>PyProof.V.Flat v d) s.heap a (kj T):=KTD.tab_of_look (λ_ _=>KTD.flat_of_looks) (λb o e=>I.kIn b o e) j;exact⟨i.text,λ_ _ e=>e⟩
theorem Qhv{ty:TE}(u:U8 X.K X.mg x T)(hi:PE X e ty)(m:M1 X (.Name x p) "get" apos e pos)(o:Gl X x)(hd:(x==("__debug__" : Str))=false):PE X (.Call (.Attribute (.Name x p) "get" apos) [e] [] pos) (λσ H Q=>ty σ H λy c=>∃k,y=.str k/\Q (vI (T.lookup k)) c):=by
 obtain⟨a,hm,j⟩:=u.ex;intro n s σ H Q I h;refine wpAny_Call_method m.O8 m.few m.line PySem.F.plainAttrs_dict PySem.F.slot_dict_get PySem.F.type_dict_get (zE I o hm ?_ hd);have d:=GH I j;refine⟨d.typeIs,d.noDict,?_⟩;rw[m.trees];refine Calls.callWith_builtin rfl (Calls.evalArgs_plain (Calls.spliced_cons (thn (hi n s σ H _ I h) λr v ⟨y,c,I2,ry,k,ek,q2⟩=>Calls.spliced_nil ?_)));subst ek;obtain⟨t,rfl⟩:=ry;refine KTD.get1_text (GH I2 j) (kT (λi t q=>?_) λq=>?_)
 ·exact⟨.int i,c,I2.tok _,⟨t,rfl⟩,by rw[q]at q2;exact q2⟩
 ·exact⟨.non,c,I2.tok _,rfl,by rw[q]at q2;exact q2⟩
theorem jP{f:aD}(u:U8 X.K X.mg x T)(o:DE X e f)(m:M1 X (.Name x p) "get" apos e pos:=by exact⟨rfl,rfl,rfl,rfl⟩)(q:Gl X x:=by rfl)(hd:(x==("__debug__" : Str))=false:=by decide):DE X (.Call (.Attribute (.Name x p) "get" apos) [e] [] pos) (zP T f) :=
  (Qhv u o m q hd).imp λσ H Q z=>by
    obtain⟨Z,env,ρ,B,hp,d,r,S,j,k⟩:=z;obtain⟨y,hp1,n,a⟩:=Qg j;refine tD.run S n λv ρ1 B1 H1 g1 S1 C=>?_;cases y with
    |str c =>
      obtain⟨rfl,rfl⟩:=Qm a;refine⟨c,C.aZ,k _ ρ1 B1 H1 g1 S1.wo ?_⟩;cases T.lookup c with
      |some i=>exact Z6
      |none=>show au _ _ _ _ .non .non;unfold au;rfl
    |_=>cases a
theorem SD{ty:TE}(u:U8 X.K X.mg x T)(hi:PE X e ty)(i:Gl X x)(hd:(x==("__debug__" : Str))=false):PE X (.Compare e [.In] [.Name x p] pos) (λσ H Q=>ty σ H λy c=>∃k,y=.str k/\Q (.bl (T.lookup k).isSome) c):=by obtain⟨a,hm,j⟩:=u.ex;intro d s σ H Q I h;refine wpAny_Compare1 (thn (hi d s σ H _ I h) λv m ⟨y,c,I2,ry,k,ek,q2⟩=>zE I2 i hm ?_ hd) rfl;subst ek;obtain⟨t,rfl⟩:=ry;refine KTD.in_text (GH I2 j) ?_;rw[Nk];exact⟨.bl _,c,I2.tok _,rfl,q2⟩
theorem Qi3{f:aD}(u:U8 X.K X.mg x T)(m:DE X e f)(n:Gl X x:=by rfl)(hd:(x==("__debug__" : Str))=false:=by decide):DE X (.Compare e [.In] [.Name x p] pos) (Ib T f) :=
  (SD u m n hd).imp λσ H Q z=>by
    obtain⟨Z,env,ρ,B,hp,d,o,S,i,k⟩:=z;obtain⟨y,hp1,j,a⟩:=Qg i;refine tD.run S j λv ρ1 B1 H1 g1 S1 q=>?_;cases y with
    |str c=>obtain⟨rfl,rfl⟩:=Qm a;exact⟨c,q.aZ,k _ ρ1 B1 H1 g1 S1.wo (by unfold au;rfl)⟩
    |_=>cases a
end
def ni:List DV->Option (List Str)
 | []=>some []
 |.str b::r=>(ni r).map (b :: ·)
 |_=>none
section
variable{X:Cx}
theorem Qh9{K:Ae}{ρ:Cr}{B:Cq}{H:Hp}:∀{ds:List DV}{bs:List Str}{ys:List V}{a:List Value},ni ds=some bs->ak K ρ B H ds ys->Vals ys a->∃l:List (Str×Tok),a=strValues l/\l.map (·.1)=bs:=by
  intro ds;induction ds with
  |nil=>intro bs ys a h r v;cases h;unfold ak at r;subst r;cases v;exact⟨[],rfl,rfl⟩
  |cons d ds e =>
    intro bs ys a h r v;unfold ak at r;obtain⟨y,o,rfl,i,j⟩:=r;cases v with
    |@cons _ u _ us m n =>
    cases d<;>first|(simp[ni]at h;done)|skip
    rename_i b;have h:(ni ds).map (b :: ·)=some bs:=h;obtain⟨c,h1,rfl⟩:=Bv.mp h;obtain⟨l,rfl,rfl⟩:=e h1 j n;obtain rfl:=i.aZ;obtain⟨t,rfl⟩:=m;exact⟨(b,t)::l,rfl,rfl⟩
def pW:DV->List DV->M DV
  |.str x,[d]=>do
    let ds <- iB d
    let ys <- nF (ni ds)
    Qy (JoinOk x ys)
    pure (.str (Txt.join x ys))
  |_,_=>failure
theorem gD:MtR X "str.join" (lE X.K pW):=by
 intro P s σ H x vs v us Q I rx rv h;obtain⟨ρ,B,hp,R,es,d,q,W,G,J,e,k⟩:=h;unfold pW at e;split at e
 ·obtain⟨ds,hp1,c,e⟩:=Qg e;obtain⟨ys,r,i,e⟩:=Qg e;obtain⟨j,rfl⟩:=yX i;obtain⟨_,y,m,e⟩:=Qg e;obtain⟨n,rfl⟩:=Qz m;obtain⟨rfl,rfl⟩:=Qm e;obtain⟨z,rfl,O⟩:=J.bA;obtain⟨rfl,a,T,rfl,sa,E⟩:=gC W O c;obtain rfl:=G.aZ;obtain⟨u,rfl,L⟩:=Y3 rv;cases L;obtain⟨t',rfl⟩:=rx;obtain⟨C,F,pl,hz⟩:=I.list sa;obtain⟨l,rfl,o⟩:=Qh9 j E F;exact PySem.SC.join pl.isList o n λt' S=>⟨.str _,H,I.tok _,⟨_,rfl⟩,k _ ρ B H Gr.refl W qr⟩
 ·cases e
def pO:List DV->M DV
 | [.int i]=>pure (.int (if i<0 then -i else i))
 |_=>failure
theorem La:CallR X (.builtin "abs") (eG X.K pO):=by
 intro a s σ H xs us Q I r h;obtain⟨ρ,B,hp,ds,d,c,W,i,e,k⟩:=h;unfold pO at e;split at e
 ·obtain⟨rfl,rfl⟩:=Qm e;exact Qer a s σ H xs us Q I r ⟨_,i.ints1,k _ ρ B H Gr.refl W Z6⟩
 ·cases e
def Q1:DV->DV->M DV
 |.str x,y=>CJ (.str x) y
 |x,y=>CK x y
theorem Q5:P2 X (binaryOp .Add) Q1:=by
 intro c s σ H x y v u Q I rx ry h;obtain⟨ρ,B,hp,n,i,d,a,W,j,m,e,k⟩:=h;unfold Q1 at e;split at e
 ·exact SK c s σ H x y v u Q I rx ry ⟨ρ,B,hp,_,i,d,a,W,j,m,e,k⟩
 ·exact SL c s σ H x y v u Q I rx ry ⟨ρ,B,hp,_,i,d,a,W,j,m,e,k⟩
def lQ:List DV->M DV
 | [.str x]=>BW [.str x]
 |xs=>Zp xs
theorem DK:CallR X (.builtin "len") (eG X.K lQ):=by
 intro c s σ H xs us Q I r h;obtain⟨ρ,B,hp,ds,d,a,W,i,e,k⟩:=h;unfold lQ at e;split at e
 ·exact QiY c s σ H xs us Q I r ⟨ρ,B,hp,_,d,a,W,i,e,k⟩
 ·exact Zl c s σ H xs us Q I r ⟨ρ,B,hp,_,d,a,W,i,e,k⟩
end
structure UZ(K:Ae)(mg:Co)(c sc a1 a2 a3 a4 b:Str)(b1 b2 b3 b4:Bool):Prop where
 ex:∃C SC A1 A2 A3 A4 B,aX K c C/\Ed K C/\mg sc=some (.ref SC)/\mg a1=some (.ref A1)/\mg a2=some (.ref A2)/\mg a3=some (.ref A3)/\mg a4=some (.ref A4)/\mg b=some (.ref B)/\PySem.W.exmOne K (.ref C) (.ref SC)=some true /\
  PySem.W.kitOne K (.ref C) (.ref A1)=some b1/\PySem.W.kitOne K (.ref C) (.ref A2)=some b2/\PySem.W.kitOne K (.ref C) (.ref A3)=some b3/\PySem.W.kitOne K (.ref C) (.ref A4)=some b4/\PySem.W.kitOne K (.ref C) (.type "ValueError")=some true/\PySem.W.kitOne K (.ref C) (.ref B)=some false
section
variable{K:Ae}{h:Heap}{mg:Co}{c sc a1 a2 a3 a4 b:Str}{b1 b2 b3 b4:Bool}{C SC A1 A2 A3 A4 B:Addr}
theorem uz(X:K.In h)(G:h.Ns mainGlobals mg)(n:PySem.W.nsIn K mainGlobals c=some (some (.ref C)))(j:PySem.W.nsIn K mainGlobals sc=some (some (.ref SC)))(m:PySem.W.nsIn K mainGlobals a1=some (some (.ref A1)))(a:PySem.W.nsIn K mainGlobals a2=some (some (.ref A2)))(d:PySem.W.nsIn K mainGlobals a3=some (some (.ref A3)))(e:PySem.W.nsIn K mainGlobals a4=some (some (.ref A4)))(i:PySem.W.nsIn K mainGlobals b=some (some (.ref B)))
  (ga:PySem.W.findIn K (.ref C) "__getattribute__" = some (some (.builtin "BaseException.__getattribute__"))) (gt:PySem.W.findIn K (.ref C) "__getattr__" = some none) (sb:PySem.W.subIn K (.ref C) (.type "BaseException")=some true) (ha:PySem.W.findIn K (.ref C) "__class__" = some (some (.builtin "object.__class__"))) (hn:PySem.W.specialIn K (.builtin "object.__class__") "__get__" = some (some (.builtin "getset_descriptor.__get__"))) (htk:PySem.W.takesIn K (.builtin "object.__class__")=some true) (hm:PySem.W.mroIn K C (.type "object")=some true)
  (ex:PySem.W.exmOne K (.ref C) (.ref SC)=some true) (k1:PySem.W.kitOne K (.ref C) (.ref A1)=some b1) (k2:PySem.W.kitOne K (.ref C) (.ref A2)=some b2) (k3:PySem.W.kitOne K (.ref C) (.ref A3)=some b3) (k4:PySem.W.kitOne K (.ref C) (.ref A4)=some b4) (k5:PySem.W.kitOne K (.ref C) (.type "ValueError")=some true) (k6:PySem.W.kitOne K (.ref C) (.ref B)=some false):UZ K mg c sc a1 a2 a3 a4 b b1 b2 b3 b4 :=
 ⟨C,SC,A1,A2,A3,A4,B,n,⟨ga,gt,sb,(by
  unfold PySem.W.mroIn at hm;cases q:PySem.W.clsIn K C with
  |none=>rw[q]at hm;cases hm
  |some _=>rfl),ha,hn,htk,hm⟩,PySem.W.mg_of X G j,PySem.W.mg_of X G m,PySem.W.mg_of X G a,PySem.W.mg_of X G d,PySem.W.mg_of X G e,PySem.W.mg_of X G i,ex,k1,k2,k3,k4,k5,k6⟩
end
def qX(g:bO)(c:Str)(a d e j:Bool)(i r o:Nat):aB:=λenv hp=>(g env hp).bind λz=>if z.1=c/\i<env.length then some ((.nx,(((env.set i .un).set r (.val (.lst [.bl a,.bl d,.bl e,.bl j]))).set o (.val (.bl true))).set i .un),z.2)else none
def h_(f g:aB):aB:=λenv hp=>match f env hp with
 |some r=>some r
 |none=>g env hp
section
variable{X:Cx}{st:Stmt}{f g:aB}
theorem Ds(h:DS X st f)(h':DS X st g):DS X st (h_ f g):=λd s σ H D I q=>by
 obtain⟨Z,env,ρ,B,hp,fl,a,c,S,e,k⟩:=q;unfold h_ at e;cases q:f env hp with
 |some r=>rw[q]at e;cases e;exact h d s σ H D I ⟨Z,env,ρ,B,hp,fl,a,c,S,q,k⟩
 |none=>rw[q]at e;exact h' d s σ H D I ⟨Z,env,ρ,B,hp,fl,a,c,S,e,k⟩
end
section
variable{X:Cx}{c sc a1 a2 a3 a4 b5 n nr no:Str}{b1 b2 b3 b4:Bool}{pos epos hpos np p1 p2 p3 p4 p5 p6 p7 p8 p9 rW rT rR rQ rP rO rN rM rK rJ wI wH wG wF wD wC wB wA wz wu q1 q2:Pos}
theorem UL(i r o:Nat){b:Expr}{g:bO}(h:RX X b g)(u:UZ X.K X.mg c sc a1 a2 a3 a4 b5 b1 b2 b3 b4)(O:X.mg "isinstance" = none)(zv:X.mg "ValueError" = none)(F:X.N.Nodup)
  (hi:X.N[i]?=some n:=by rfl) (hri:X.N[r]?=some nr:=by rfl) (hoi:X.N[o]?=some no:=by rfl) (hl:X.env.kindOf n=some .local:=by rfl) (hlr:X.env.kindOf nr=some .local:=by rfl) (hlo:X.env.kindOf no=some .local:=by rfl)
  (ne1:r≠i:=by decide) (ne2:o≠i:=by decide) (hX:X.stack=X.env::X.outer:=by rfl) (hf:X.env.frame=some X.env.locals:=by rfl)
  (g0:Gl X sc:=by rfl) (g1:Gl X a1:=by rfl) (g2:Gl X a2:=by rfl) (g3:Gl X a3:=by rfl) (g4:Gl X a4:=by rfl) (g5:Gl X b5:=by rfl) (gv:Gl X "ValueError" := by rfl) (gi:Gl X "isinstance" := by rfl)
  (d1:(sc==("__debug__" : Str))=false:=by decide) (d2:(a1==("__debug__" : Str))=false:=by decide) (d3:(a2==("__debug__" : Str))=false:=by decide) (d4:(a3==("__debug__" : Str))=false:=by decide) (d5:(a4==("__debug__" : Str))=false:=by decide) (d6:(b5==("__debug__" : Str))=false:=by decide) (d7:(n==("__debug__" : Str))=false:=by decide) (d8:(n==("__classdict__" : Str))=false:=by decide)
  (hsw:swapsWith b none epos.line X.env=pure false:=by rfl)
  (hs1:swapsWith (.List [.Call (.Name "isinstance" p1) [.Name n p2,.Name a1 p3] [] p4,.Call (.Name "isinstance" p5) [.Name n p6,.Name a2 p7] [] p8,.Call (.Name "isinstance" p9) [.Name n rW,.Name a3 rT] [] rR,.Call (.Name "isinstance" rQ) [.Name n rP,.Name a4 rO] [] rN] rM) (some (.Name nr rK)) rJ.line X.env=pure false:=by rfl)
  (hs2:swapsWith (.BoolOp .And [.Call (.Name "isinstance" wI) [.Name n wH,.Name "ValueError" wG] [] wF,.UnaryOp .Not (.Call (.Name "isinstance" wD) [.Name n wC,.Name b5 wB] [] wA) wz] wu) (some (.Name no hpos)) np.line X.env=pure false:=by rfl) :
  DS X (.Try [.Expr b epos] [.ExceptHandler (some (.Name sc pos)) (some n) [.Assign [.Name nr rK] (.List [.Call (.Name "isinstance" p1) [.Name n p2,.Name a1 p3] [] p4,.Call (.Name "isinstance" p5) [.Name n p6,.Name a2 p7] [] p8,.Call (.Name "isinstance" p9) [.Name n rW,.Name a3 rT] [] rR,.Call (.Name "isinstance" rQ) [.Name n rP,.Name a4 rO] [] rN] rM) rJ,
   .Assign [.Name no hpos] (.BoolOp .And [.Call (.Name "isinstance" wI) [.Name n wH,.Name "ValueError" wG] [] wF,.UnaryOp .Not (.Call (.Name "isinstance" wD) [.Name n wC,.Name b5 wB] [] wA) wz] wu) np] q1] [] [] q2) (qX g c b1 b2 b3 b4 i r o):=by
 obtain⟨C,SC,A1,A2,A3,I,B,nc,L,m0,m1,m2,m3,m4,m5,ex,k1,k2,k3,k4,k5,k6⟩:=u.ex
 let tS:Addr->TS:=λa D σ H=>σ[i]?=some (some (.ref a))/\∀p,H p=none->D.nx ((σ.set r (some (.ref p))).set o (some (.bl true))) (upd H p (.lst [.bl b1,.bl b2,.bl b3,.bl b4]))
 have T:∀a j,j.cls=.ref C->PSs (X.hand a j) [.Assign [.Name nr rK] (.List [.Call (.Name "isinstance" p1) [.Name n p2,.Name a1 p3] [] p4,.Call (.Name "isinstance" p5) [.Name n p6,.Name a2 p7] [] p8,.Call (.Name "isinstance" p9) [.Name n rW,.Name a3 rT] [] rR,.Call (.Name "isinstance" rQ) [.Name n rP,.Name a4 rO] [] rN] rM) rJ,
   .Assign [.Name no hpos] (.BoolOp .And [.Call (.Name "isinstance" wI) [.Name n wH,.Name "ValueError" wG] [] wF,.UnaryOp .Not (.Call (.Name "isinstance" wD) [.Name n wC,.Name b5 wB] [] wA) wz] wu) np] (tS a):=λa j y=>by
  have v:∀{q:Pos},PE (X.hand a j) (.Name n q) (Hv i):=λ{q}=>DY hi (.inl hl) d7 d8;have d:∀{x:Str} {A:Addr} {z1 z2 z3 z4:Pos},Gl X x->X.mg x=some (.ref A)->(x==("__debug__" : Str))=false->PE (X.hand a j) (.Call (.Name "isinstance" z1) [.Name n z2,.Name x z3] [] z4) _:=λ{x A z1 z2 z3 z4} m mm dd=>yY (MJ L y) gi O boot_isinstance (ZT v (ZT (gL m mm (v:=.ref A) rfl dd) pa_nil)) (by decide) (by decide);refine L2.PSs.imp (yZ (K4 (i:=r) F hri (.inl hlr) (gM (ZT (d g1 m1 d2) (ZT (d g2 m2 d3) (ZT (d g3 m3 d4) (ZT (d g4 m4 d5) pa_nil))))) hs1 (.inr hlr))
   (Pa (K4 (i:=o) F hoi (.inl hlo) (LK (yY (MJ L y) gi O boot_isinstance (ZT v (ZT (gI (v:=.ty "ValueError") gv zv PyProof.Rows.Boot.«ValueError» rfl) pa_nil)) (by decide) (by decide)) (Mt (Su (d g5 m5 d6)))) hs2 (.inr hlo)))) λD σ H q=>?_
  obtain⟨hσ,k⟩:=q;refine⟨.ref a,hσ,.ref A1,.ref A1,b1,rfl,rfl,k1,λ_ h=>h,.ref a,hσ,.ref A2,.ref A2,b2,rfl,rfl,k2,λ_ h=>h,.ref a,hσ,.ref A3,.ref A3,b3,rfl,rfl,k3,λ_ h=>h,.ref a,hσ,.ref I,.ref I,b4,rfl,rfl,k4,λ_ h=>h,show 4<=sizeLine by decide,λp hp=>?_⟩;have hσ':(σ.set r (some (.ref p)))[i]?=some (some (.ref a)):=by rw[Ao ne1];exact hσ
  exact⟨.ref a,hσ',.ty "ValueError", .type "ValueError", true,rfl,rfl,k5,λ_ h=>h,true,rfl,KH ⟨.ref a,hσ',.ref B,.ref B,false,rfl,rfl,k6,λ_ h=>h,false,rfl,k p hp⟩⟩
 refine L2.PS.imp (Qj7 (tS:=tS) h g0 m0 ex F hi hl hX hf T d1 hsw) λD σ H q=>?_;obtain⟨Z,env,ρ,P,hp,fl,J,U,S,e,k⟩:=q;obtain⟨⟨c',Y⟩,R,E⟩:=Option.bind_eq_some_iff.mp e;split at E
 ·rename_i y;obtain⟨rfl,G⟩:=y;cases E;refine⟨Z,env,ρ,P,hp,_,_,S,R,λC' ρ2 RL H2 wJ m W2=>⟨by rw[wJ.uniq nc],λa ha=>⟨Av (by rw[S.len];exact G),λp hp0=>?_⟩⟩⟩;have W3:=W2.laid (o:=.lst [.bl b1,.bl b2,.bl b3,.bl b4]) hp0;have Q:=(S.grow m W2).grow (Gr.laid (o:=.lst [.bl b1,.bl b2,.bl b3,.bl b4]) hp0) W3;have rl:au X.K ρ2 RL (upd H2 p (.lst [.bl b1,.bl b2,.bl b3,.bl b4])) (.lst [.bl b1,.bl b2,.bl b3,.bl b4]) (.ref p):=j8 (λz=>W2.bt p z hp0) (SqL.of QU) (ak.cons ZW (ak.cons ZW (ak.cons ZW (ak.cons ZW (by unfold ak;rfl)))));exact k _ ρ2 RL _ ((m.trans (Gr.laid hp0)).gs S.wo.rb) (((Q.un (i:=i) (v:=some (.ref a))).set (i:=r) rl).set (i:=o) ZW).un
 ·cases E
end
end D
namespace L2
open PySem PySem.Spec PyProof.Rows
def Rb(O8:Heap)(l:List Env)(e:Addr)(cls a fl:Value)(h:Heap):Prop:=O8.StaysIn h/\O8.get? e=none/\h.FunFrames O8 l/\h.TracedAtW O8 e cls a fl
section
variable{M:Model}{A:Around}{E:Cm}{s:Shared}
theorem QbA{O8:Heap}{env:Env}{outer:List Env}{L e:Addr}{cls J fl:Value}{Q:Unit->Shared->Prop}(F:A.frames=some (env::outer))(hf:env.frame=some L)(C:Rb O8 (env::outer) e cls J fl s.heap)
  (hQ:∀h',Heap.FlyingW O8 outer e cls J h'->s.heap.UpToSlots h'->Q () { s with heap:=h' }):wpAny M A (leaving env (.ref e)) Q E s:=by
 obtain⟨v,n,P,G⟩:=C;by_cases z:(fl==rawInt L)=true
 ·have I:=G;obtain⟨X,vs,T,U,ts,y,⟨j,O⟩,hd,h1,x,u,r,i,h3⟩:=G;unfold leaving;refine Cd ?_;have S:wpAny M A (noteFrame (.ref e) env) (λ_ s'=>s'=s) E s:=by unfold noteFrame;simp only[hf];refine Cd (wpAny_field y hd h1 ?_);rw[Cf (show(Value.ref T != Value.none)=true from by simp)];refine Cd (wpAny_field r i h3 ?_);rw[Cf z];exact Cg rfl
  refine wpAny_mono S (λ_ s' q=>?_) λ_ _ q=>q;subst q;refine wpAny_setFlight_noneW v P I λh' k1 k2 k3 k4=>hQ h' ⟨k1,n,k2.2.2,k3⟩ λb o c hn=>⟨o.slots,k4 b o c hn⟩
 ·obtain⟨X,vs,T,U,ts,y,⟨j,O⟩,hd,h1,x,u,r,i,h3⟩:=G;subst j;unfold leaving noteFrame;simp only[hf];refine Cd (Cd (wpAny_field y hd h1 ?_));rw[Cf (show(Value.ref T != Value.none)=true from by simp)];refine Cd (wpAny_field r i h3 ?_);rw[Ce z];refine Cd (wpAny_setField r i (Array.getElem?_eq_some_iff.mp h3).1 ?_);have other:∀b,b≠T->(s.heap.update T (Obj.mapFields (·.setIfInBounds 3 Value.none))).get? b=s.heap.get? b:=λb c=>Heap.get?_update_other _ _ (Ne.symm c);have a:∀b o,s.heap.get? b=some o->(∀vs,o.data≠.fields vs)->b≠T:=λb o c d q=>by rw[q,r]at c;injection c with c;subst c;exact d ts i
  refine wpAny_newEntryW F (P.of_keeps λb o c d=>⟨o,(other b (a b o c d)).trans c,rfl⟩) hf ((other e (Ne.symm u)).trans y)
   (λb o m=>(other b λq=>by rw[q,x]at m;cases m).trans (v b o m)) n hd (Array.getElem?_eq_some_iff.mp h1).1 O λh' R=>?_
  obtain⟨k1,⟨_,_,k2⟩,k3,k4⟩:=R;exact hQ h' ⟨k1,n,k2,k3⟩ λb o c d=>k4 b o ((other b (a b o c d)).trans c) d
end
def Ei(P:Program)(w:World)(fl:Value):CXT:=λouter H s E e s' =>
  ∃(a : Addr)(cls : Value)(t : Addr)(c : Hp)(B : Heap), e = .ref a /\ s'.os = s.os /\ AllBare s'.gens /\ Rb B outer a cls (.ref t) fl s'.heap /\ HOk P w c B /\ Un (frs outer) [] H c s.heap s'.heap /\
    (∀b o,s.heap.get? b=some o->H b=none->b∉frs outer->B.get? b=some o)/\(∀b o,s.heap.get? b=some o->b∉frs outer->∃o',B.get? b=some o')/\E cls none c
section
variable{X:Cx}{O9:Cn}{σ:St}{H:Hp}{s s':Shared}{E:XK}{e:Addr}{cls:Value}{vs:List Value}{M:Model}{EE:Cm}
theorem BE(I:Inv X O9 σ H s)(j:X.stack=X.env::X.outer)(hf:X.env.frame=some X.env.locals)(r:X.ex=[]){v L:Value}(h:Ei X.prog X.w L X.stack H s E v s') :
  wpAny M X.A (leaving X.env v) (λ_ y=>cH X.prog X.w X.outer X.H₀ X.s₀ E v y) EE s':=by
 obtain⟨a,cls,t,G,B,rfl,os,bare,fl,hok,un,J,tB,q⟩:=h;have i:∀b,b∉X.ex:=λb z=>by rw[r]at z;cases z
 refine QbA (I.ok.frames.trans (by rw[j])) hf (by rw[<- j];exact fl) λh' x R=>?_;have keep:∀b o,X.s₀.heap.get? b=some o->X.H₀ b=none->b∉frs X.outer->B.get? b=some o:=λb o z n c=>J b o (I.O8.keep b o z n c (i b)) (I.O8.free b o z n (i b)) (VE I z c);have there:∀b o,X.s₀.heap.get? b=some o->b∉frs X.outer->∃o',B.get? b=some o':=λb o z c=>by obtain⟨o',d⟩:=I.O8.there b o z (i b);exact tB b o' d (VE I z c)
 have slot:∀b o,X.s₀.heap.get? b=some o->X.H₀ b=none->b∈frs X.outer->∃C,h'.get? b=some { o with slots:=C }:=λb o z n c=>by
  obtain⟨C,d⟩:=I.O8.slot b o z n c (i b);obtain⟨_,S,z2,nd⟩:=I.ok.funs.mem c;rw[z]at z2;cases z2;have m:b∈frs X.stack:=by rw[j];exact(by unfold frs at c ⊢;rw[List.filterMap_cons];split;exact c;exact Ay _ c)
  obtain⟨F,z3⟩:=un.slot b _ d (I.O8.free b o z n (i b)) m (by simp);obtain⟨Q,z4⟩:=R b { o with slots:=F } z3 nd;exact⟨Q,z4⟩
 refine⟨a,cls,t,G,B,rfl,os.trans I.os,bare,x,hok,⟨λb o z n c _=>x.1 b o (keep b o z n c),λb o z n c _=>slot b o z n c,λb o z n _=>?_,λb o z _=>?_,λb xs z=>un.tups b xs (I.O8.tups b xs z),λb o u z=>un.frzs b o u (I.O8.frzs b o u z),λb ps z=>?_⟩,keep,there,q⟩
 ·obtain⟨o',d⟩:=I.O8.there b o z (i b);exact un.free b o' d (I.O8.free b o z n (i b)) (by simp)
 ·by_cases c:b∈frs X.outer
  ·obtain⟨C,d⟩:=slot b o z (I.ok.frf b c) c;exact⟨_,d⟩
  ·obtain⟨o',d⟩:=there b o z c;exact⟨o',x.1 b o' d⟩
 ·obtain⟨O,z1⟩:=I.O8.tbls b ps z;obtain⟨P,z2⟩:=un.tbls b _ z1;exact⟨O++P,by rw[z2,Array.append_assoc]⟩
end
theorem vP{h h' O8 a:Heap}:∀{l:List Env},h.FunFrames O8 l->(∀b∈l.filterMap (·.frame),h'.get? b=h.get? b)->(∀b,O8.get? b=none->a.get? b=none)->h'.FunFrames a l
 | [],_,_,_=>trivial
 |env::r,⟨e,⟨L,o,hf,hn,i,hd⟩,j⟩,k,c=>⟨e,⟨L,o,hf,c L hn,(k L (List.mem_filterMap.mpr ⟨env,List.mem_cons_self ..,hf⟩)).trans i,hd⟩,vP j (λb d=>k b (by rw[List.filterMap_cons,hf];exact Ay _ d)) c⟩
section
variable{M:Model}{A:Around}{E:Cm}{s:Shared}
theorem vB{O8:Heap}{l:List Env}{e:Addr}{cls y fl:Value}{fr:Option Addr}{Q:Unit->Shared->Prop}(x:O8.StaysIn s.heap)(C:s.heap.FunFrames O8 l)(F:s.heap.TracedAtW O8 e cls y fl)
  (h:∀h',O8.StaysIn h'->h'.FunFrames O8 l->h'.TracedAtW O8 e cls y (fr.elim .none λf=>rawInt f)->(∀b o,s.heap.get? b=some o->(∀vs,o.data≠.fields vs)->h'.get? b=some o)->Q () { s with heap:=h' }) :
  wpAny M A (setFlight (.ref e) fr) Q E s:=by
 obtain⟨G,vs,T,I,ts,z,r,hd,h1,u,n,v,i,h3⟩:=F;have j:3<ts.size:=(Array.getElem?_eq_some_iff.mp h3).1;have other:∀b,b≠T->(s.heap.update T (Obj.mapFields (·.setIfInBounds 3 (fr.elim Value.none λf=>rawInt f)))).get? b=s.heap.get? b:=λb c=>Heap.get?_update_other _ _ (Ne.symm c);have a:∀b o,s.heap.get? b=some o->(∀vs,o.data≠.fields vs)->b≠T:=λb o c d q=>by rw[q,v]at c;injection c with c;subst c;exact d ts i
 unfold setFlight;refine Cd (wpAny_field z hd h1 ?_);rw[Cf (show(Value.ref T != Value.none)=true from by simp)];refine wpAny_setField v i j (h _ (λb o m=>(other b λq=>by rw[q,u]at m;cases m).trans (x b o m))
  (C.of_keeps λb o c d=>⟨o,(other b (a b o c d)).trans c,rfl⟩) ?_ λb o c d=>(other b (a b o c d)).trans c)
 exact⟨G,vs,T,_,_,(other e (Ne.symm n)).trans z,r,hd,h1,u,n,Heap.get?_update_self _ v (Obj.isFreed_of_fields (Obj.data_mapFields i _)),Obj.data_mapFields i _,by simp[j]⟩
end
section
variable{X:Cx}{O9:Cn}{σ:St}{H1 H':Hp}{s0 s1:Shared}{E:XK}{C a t L:Addr}{cls:Value}{B h4 h':Heap}{m:Co}
theorem Rl(hx:∀fl(O9:Cn)(σ:St)(H:Hp)(s:Shared)(e:Value)(s':Shared),Inv X O9 σ H s->Ei X.prog X.w fl X.stack H s E e s'->X.xe e s')
  (I:Inv X O9 σ H1 s0) (hn:s0.heap.Ns C m) (hC:H1 C=none) (c1:C≠X.env.locals) (c2:X.s₀.heap.objs.size<=C) (c3:∀x c,X.env.cells.lookup x=some c->c≠C) (c4:∀p∈X.pn++O9,p.1≠C) (c5:C∉frs X.stack)
  (os:s1.os=s0.os) (bare:AllBare s1.gens) (held:Heap.HeldW B X.stack a cls (.ref t) L h4) (hok:HOk X.prog X.w H' B) (un:Un (frs X.stack) [] H1 H' s0.heap s1.heap)
  (kB:∀b o,s0.heap.get? b=some o->H1 b=none->b∉frs X.stack->B.get? b=some o) (tB:∀b o,s0.heap.get? b=some o->b∉frs X.stack->∃o',B.get? b=some o') (hE:E cls none H') (up:s1.heap.UpToSlots h4) (hs:Heap.SameBut C h4 h') {cenv:Env} {what:String} :
  wpAny (model X.prog X.w) X.A (PySem.passOn what (.ref a) cenv:Sem Value) (λ_ _=>False) X.xe { s1 with heap:=h' }:=by
 obtain⟨oC,es,ep,ho,a6,_⟩:=id hn;have Z:=kB C oC ho hC c5;have U:H' C=none:=un.free C oC ho hC (by simp);obtain⟨k1,k2,k3,k4⟩:=held;obtain⟨oe,vs,T,oT,ts,he,J,hd,h1,r,G,hT,O,h3⟩:=id k4;have Y:a≠C:=λz=>by rw[z,Z]at k2;cases k2
 have TC:T≠C:=λz=>by rw[z,Z]at r;cases r
 have i:∀b o,(PySem.W.hideAll B [C]).get? b=some o->b≠C/\B.get? b=some o:=λb o e=>⟨(λz=>by rw[z,PySem.W.hideAll_none [C] (by simp)]at e;cases e),PySem.W.of_hideAll [C] e⟩
 have P:∀b,B.get? b=none->(PySem.W.hideAll B [C]).get? b=none:=λb e=>by
  cases q:(PySem.W.hideAll B [C]).get? b with
  |none=>rfl
  |some o=>rw[(i b o q).2]at e;cases e
 have R:(PySem.W.hideAll B [C]).StaysIn h':=λb o e=>(hs.2 b (i b o e).1).trans (k1 b o (i b o e).2);have F:h'.FunFrames (PySem.W.hideAll B [C]) X.stack:=vP k3 (λb j=>hs.2 b λz=>c5 (z▸j)) P;have T8:h'.TracedAtW (PySem.W.hideAll B [C]) a cls (.ref t) (rawInt L):=⟨oe,vs,T,oT,ts,(hs.2 a Y).trans he,J,hd,h1,P T r,G,(hs.2 T TC).trans hT,O,h3⟩;unfold PySem.passOn;refine Cd (wpAny_field (s:={ s1 with heap:=h' }) ((hs.2 a Y).trans he) hd h1 ?_);rw[Ce (show ¬ ((Value.ref T==Value.none)=true)from by simp)];refine Cd (vB (s:={ s1 with heap:=h' }) R F T8 λh5 Q j2 j3 j4=>?_);refine wpAny_throw (hx (cenv.frame.elim .none λf=>rawInt f) O9 σ H1 { s0 with heap:=PySem.W.hideAll s0.heap [C] } _ _ (I.turned (t':=s0.toks) (λb o j e=>PySem.W.hideAll_get [C] e (by simpa using j)) hC c1 (.inr c2) c3 c4) ?_);have d:∀b o,(PySem.W.hideAll s0.heap [C]).get? b=some o->b≠C/\s0.heap.get? b=some o:=λb o e=>⟨(λz=>by rw[z,PySem.W.hideAll_none [C] (by simp)]at e;cases e),PySem.W.of_hideAll [C] e⟩
 have keep:∀b o,(PySem.W.hideAll s0.heap [C]).get? b=some o->H1 b=none->b∉frs X.stack->(PySem.W.hideAll B [C]).get? b=some o:=λb o e n f=>PySem.W.hideAll_get [C] (kB b o (d b o e).2 n f) (by simpa using(d b o e).1);have there:∀b o,(PySem.W.hideAll s0.heap [C]).get? b=some o->b∉frs X.stack->∃o',(PySem.W.hideAll B [C]).get? b=some o':=λb o e f=>by obtain⟨o',z⟩:=tB b o (d b o e).2 f;exact⟨o',PySem.W.hideAll_get [C] z (by simpa using(d b o e).1)⟩
 have slot:∀b o,(PySem.W.hideAll s0.heap [C]).get? b=some o->H1 b=none->b∈frs X.stack->∃y,h5.get? b=some { o with slots:=y }:=λb o e n f=>by obtain⟨n1,e1⟩:=d b o e;obtain⟨y,z1⟩:=un.slot b o e1 n f (by simp);obtain⟨_,o2,z2,nd⟩:=I.stack.mem f;rw[e1]at z2;cases z2;obtain⟨s2,z3⟩:=up b { o with slots:=y } z1 nd;exact⟨s2,j4 b _ ((hs.2 b n1).trans z3) nd⟩
 refine⟨a,cls,t,H',PySem.W.hideAll B [C],rfl,os,bare,⟨Q,P a k2,j2,j3⟩,λb o j=>(hok b o j).stay (λc u v z=>PySem.W.hideAll_get [C] z ?_) (λ_ z=>z) (λ_ _ z=>z),⟨λb o z n j _=>Q b o (keep b o z n j),λb o z n j _=>slot b o z n j,λb o z n _=>un.free b o (d b o z).2 n (by simp),λb o z _=>?_,un.tups,un.frzs,un.tbls⟩,keep,there,hE⟩
 ·intro q;have q:c=C:=by simpa using q
  subst q;rcases v with rfl|v
  ·rw[U]at j;cases j
  ·rw[U]at v;cases v
 ·by_cases f:b∈frs X.stack
  ·obtain⟨y,S⟩:=slot b o z (I.stkFree b f) f;exact⟨_,S⟩
  ·obtain⟨o',S⟩:=there b o z f;exact⟨o',Q b o' S⟩
end
section
variable{prog:Program}{w:World}{A:Around}{R:Result->Shared->Prop}{s:Shared}
theorem G9{c target a:Expr}{scope:Scope}{d:Pos}{e acc:Value}{env:Env}(I:Nat->Shared->Prop)
    (turn:∀n s,I n s->wpAny (model prog w) A (pyNext e) (λr s₁=>match r with
      |none=>R (.ok .next) s₁
      |some v=>wpAny (model prog w) A (letOwnedTupleGo target e v) (λ_ s₁'=>wpAny (model prog w) A (assign target env v) (λ_ s₂ =>
          wpAny (model prog w) A (eval c env) (λx s₄ =>
              wpAny (model prog w) A (call (.builtin "list.append") [acc,x]) (λ_ s₅=>∃m,m<n/\I m s₅) (λ_ _=>False) s₄) (notedBy (model prog w) A env λx s'=>R (.error x) s') s₂) (λ_ _=>False) s₁') (λ_ _=>False) s₁) (λ_ _=>False) s)
    (n:Nat) (h:I n s) :
    codeAny (model prog w) A (.compLoop (.ListComp c [⟨target,a,[],0⟩] scope d) 0 e acc env) R s:=by
  refine codeAny_loop rfl I (λn s hI=>?_) n h;show wpAny _ A ((compTurn (.ListComp c [⟨target,a,[],0⟩] scope d) 0 e acc env).onRaise (λx=>do noteFrame x env;theTreesLotGoes x)) _ _ s;refine wpAny_noted ?_;rw[compTurn_list];refine Cd (wpAny_standAt (Cd (wpAny_mono (turn n s hI) (λr s₁ h₁=>?_) λ_ _ h'=>h'.elim)));cases r with
  |none=>exact Cg h₁
  |some v=>refine Cd (wpAny_mono h₁ (λ_ s₁' h₁'=>?_) λ_ _ h'=>h'.elim);refine Cd (wpAny_mono h₁' (λ_ s₂ h₂=>Cd (wpAny_tests_nil ?_)) λ_ _ h'=>h'.elim);exact Cd (Cd (wpAny_mono h₂ (λx s₄ h₄=>Cd (wpAny_mono h₄ (λ_ s₅ h₅=>Cg (Cg ⟨rfl,h₅⟩)) λ_ _ h'=>h'.elim)) λ_ _ h'=>h'))
end
def RM(X:Cx)(E:XK)(c:Cx):Value->Shared->Prop:=λv s'=>∃a σ H s,Inv c a σ H s/\cH X.prog X.w X.stack H s E v s'
abbrev sG(X:Cx)(E:XK)(scope:Scope)(cl:List (Str×Addr))(C:Addr)(N:List Str)(s₀:Shared)(H₀:Hp)(ex:Cr):Cx:=(Jx X scope cl C N s₀ H₀ ex).wish (RM X E (Jx X scope cl C N s₀ H₀ ex))
def Lr{X:Cx}{E:XK}{scope:Scope}{cl:List (Str×Addr)}{C:Addr}{N:List Str}{s₀:Shared}{H₀:Hp}{ex:Cr}:Xs (cH X.prog X.w) (sG X E scope cl C N s₀ H₀ ex) E:=λa σ H s e s' I h=>⟨a,σ,H,s,I.unwish,h⟩
def Dk(X:Cx)(E:XK):Prop:=∀fl(a:Cn)(σ:St)(H:Hp)(s:Shared)(e:Value)(s':Shared),Inv X a σ H s->Ei X.prog X.w fl X.stack H s E e s'->X.xe e s'
def Lz(K:Ae)(wi:TI)(te:TE)(idx:List Nat):St->Hp->Prop:=λσ H=>wi σ H λJ a=>∀D,a D=none->K.lookup D=none->∃W:Nat->Nat->List V->Hp->Prop,(∃m,W 0 m [] (upd a D (.lst []))) /\
 ∀i m ys H,W i m ys H->H D=some (.lst ys)/\J.go i H/\∀x H',J.yld i H x H'->te (cσ idx σ (some x)) H' λy H3=>H3 D=some (.lst ys)/\ys.length<sizeLine/\∃d,d<m/\W (i+1) d (ys++[y]) (upd H3 D (.lst (ys++[y])))
section
variable{X:Cx}{E:XK}{elt iter:Expr}{x:Str}{px:Pos}{scope:Scope}{cl:List (Str×Addr)}{pos:Pos}{caps:List Str}{idx:List Nat}{wi:TI}{te:TE}
theorem Qfz(S:yp X x scope cl caps idx)(hc:X.calm=true)(hi:PI X (.Name x px) iter wi)(he:∀C s₀ H₀ ex,PE (sG X E scope cl C (x::caps) s₀ H₀ ex) elt te)
    (hX:X.stack=X.env::X.outer) (hf:X.env.frame=some X.env.locals) (hx:Dk X E) (hs:∀x,foldedSetIterable iter X.env x=pure x:=by intro _;rfl):PE X (.ListComp elt [⟨.Name x px,iter,[],0⟩] scope pos) (λσ H _=>Lz X.K wi te idx σ H):=by
  intro O9 s σ H Q I h;rw[eval_ListComp];refine wpAny_comprehension_free (use:=none) rfl hs S.clos S.kind S.names (thn (hi O9 s σ H _ I h) λxv s1 h1=>thn h1 λbc O h2=>?_);obtain⟨it,U,tn,J,H2,rfl,I2,T,ag,f2,hQ⟩:=h2;refine wpAny_newObj_type (wpAny_newFunctionEnv S.cell (by intro y hy;simp at hy) (λh₁ ac₁ Y₁=>?_) S.kind);dsimp only at ac₁ Y₁ ⊢;generalize a9:O.heap.push { cls:=.type "list", dict:=none,data:=.seq ([]:List Value).toArray }=L at ac₁ Y₁ ⊢;have hC:L.objs.size=O.heap.objs.size+1:=by rw[<- a9,Bx]
  have cM:∀b o,O.heap.get? b=some o->L.get? b=some o:=λb o e=>a9▸Ah _ e;have aw:H2 O.heap.objs.size=none:=I2.hok.fresh (Ai _);have G:Inv X O9 σ (upd H2 O.heap.objs.size (.lst [])) { O with heap:=L } :=
    I2.laid (t':=O.toks) cM (Ai _) ⟨Bh _,[],_,.nil,a9▸Aw _ rfl⟩
  have wR:X.K.lookup O.heap.objs.size=none:=by
    cases q:X.K.lookup O.heap.objs.size with
    |none=>rfl
    |some o=>exact absurd (Ar (I2.kIn _ o q)) (B0 _)
  obtain⟨W,⟨m0,w0⟩,ah⟩:=hQ _ aw wR;generalize wU:O.heap.objs.size=D at *;generalize fX:L.objs.size=C at *;have iQ:∀b o,L.get? b=some o->b≠C:=λb o e=>by rw[<- fX];exact Bi (Ar e)
  have bZ:∀b o,L.get? b=some o->h₁.get? b=some o:=λb o e=>Y₁.extBut b o (iQ b o e) (Ah _ e);have u_:({ O with heap:=L }:Shared).heap.objs.size=C:=fX;have eZ:∀y c,cl.lookup y=some c->X.env.cells.lookup y=some c:=λy c e=>S.cls.mem (PySem.mem_of_lookup e);have iD:∀b∈U,∃o,O.heap.get? b=some o:=λb F=>let ⟨o,e,_⟩:=T.obj _ _ ag b F;⟨o,e⟩;have pC:∀b∈U,b≠C:=λb F=>let ⟨o,e⟩:=iD b F;iQ b o (cM b o e);have wX:∀b∈U,b≠D:=λb F=>let ⟨o,e⟩:=iD b F;by rw[<- wU];exact Bi (Ar e)
  have av:∀b∈U,(upd H2 D (.lst [])) b=none:=λb F=>by rw[QS (wX b F)];exact(f2 b F).1
  have fj:∀y c,X.env.cells.lookup y=some c->c≠C:=λy c e=>let ⟨v,o,ho,_⟩:=G.cell y c e;iQ c o ho;have d9:∀b∈U,b∉frs X.stack:=λb F z=>(Bk.mp (I2.stkSub b z)).elim (f2 b F).2.1 (f2 b F).2.2.1
  let Z:=Jx X scope cl C (x::caps) { O with heap:=L } (upd H2 D (.lst [])) U
  have b6:Z.Ok:=by
    refine⟨G.ok.mod,by show(relabel scope X.env).kind=_;exact S.kind,G.ok.glob,G.ok.blt,by show L.objs.size<=C;rw[fX];exact Ai _,λy z c h1 h2=>G.ok.inj y z c (eZ y c h1) (eZ z c h2),λy hy=>?_,
      λy c z=>(by cases z),G.ok.hd,G.ok.frames,.inl rfl,λb F=>⟨pC b F,λy c e=>(f2 b F).2.2.2.2.1 y c (eZ y c e)⟩,G.bs,Bj G.ok.bsz G.sz,
      λb o e F=>?_,λb F=>d9 b F,G.stack,G.stkFree⟩
    . have ay:(relabel scope X.env).names.lookup y=some .cell∨(relabel scope X.env).names.lookup y=some .free:=hy
      have q:=S.has;rw[List.all_eq_true]at q;have:(cl.lookup y).isSome=true:=by
        rcases ay with z|z
        . have q:=q _ (PySem.mem_of_lookup z);simpa using q
        . have q:=q _ (PySem.mem_of_lookup z);simpa using q
      exact Option.isSome_iff_exists.mp this
    . have:=(f2 b F).2.2.2.1
      have e3:=(I2.ok.bs b o e).1;rcases this with z|z
      . exact I2.ok.noex b o e z
      . exact absurd (Az (Ar e3) z) (B0 _)
  have dR:=S.cps.length;have I4:Inv Z [] (cσ idx σ none) (upd H2 D (.lst [])) { O with heap:=h₁,toks:=O.toks+([]:List (Str×Value)).length }:=by
    refine⟨b6,rfl,G.bare,Un.kept bZ,⟨_,ac₁,λi y v e1 e2 e3=>?_⟩,λy c e=>?_,?_,λy c e=>G.freeC y c (eZ y c e),λp hp=>absurd (show p∈([]:Cn)from hp) (by simp),G.hok.kept bZ,?_⟩
    . cases i with
      |zero=>exact absurd e2 (by simp[cσ])
      |succ j =>
        obtain⟨k,h1,h2,h3,⟨c,h4⟩,h5⟩:=S.cps.get (show caps[j]?=some y by have ap:(x::caps)[j+1]?=some y:=e1;simpa using ap);have a6:(σ[k]?).join=some v:=by simpa [cσ,h1]using e2
        have mK:σ[k]?=some (some v):=by
          cases q:σ[k]? with
          |none=>rw[q]at a6;cases a6
          |some z=>rw[q]at a6;exact congrArg some a6
        obtain⟨mL,Wv,hl⟩:=G.loc;have b8:Vis X.env.scope y:=by rcases h3 with z|z;exact .inr (.inl z);exact .inr (.inr z)
        obtain⟨u,r,l⟩:=hl k y v h2 mK b8;refine⟨u,r,.inr ⟨?_,c,h4,?_⟩⟩
        . have ar:(relabel scope X.env).names.lookup y=some .local∨(relabel scope X.env).names.lookup y=some .cell∨(relabel scope X.env).names.lookup y=some .free:=e3
          rcases ar with z|z|z
          . exact absurd z h5
          . exact .inl z
          . exact .inr z
        . rcases l with ⟨z,_⟩|⟨_,c',e,z⟩
          . rcases h3 with q|q <;> · rw[q]at z;cases z
          . rw[eZ y c h4]at e;cases e
            obtain⟨o,ho,hd⟩:=z;exact⟨o,bZ _ _ ho,hd⟩
    . obtain⟨v,o,ho,hd⟩:=G.cell y c (eZ y c e)
      exact⟨v,o,bZ _ _ ho,hd⟩
    . exact G.hok.fresh (by show L.objs.size<=C;rw[fX];exact Ai _)
    . simp[cσ,Z,Jx,dR]
  have oF:tn 0 h₁:=T.keep _ _ _ ag λb _ o e=>bZ b o (cM b o e);have nQ:∀{P:Hp}{R:Cn},(∀b∈U,P b=none)->(R=[])->∀b∈U,Vq Z R P b:=λhn e b F=>by subst e;exact⟨hn b F,pC b F,d9 b F,.inl F,λy c e=>(f2 b F).2.2.2.2.1 y c (eZ y c e),λp hp=>absurd (show p∈([]:Cn)from hp) (by simp)⟩
  have oE:C∉frs X.stack:=λz=>by obtain⟨_,o,e,_⟩:=G.stack.mem z;exact iQ C o e rfl
  have a8:∀s₃:Shared,s₃={ O with heap:=h₁,toks:=O.toks+([]:List (Str×Value)).length } ->
      codeAny (model X.prog X.w) X.A (.compLoop (.ListComp elt [⟨.Name x px,iter,[],0⟩] scope pos) 0 (.ref it) (.ref D) (compEnvC scope cl C X.env)) (compPost (model X.prog X.w) X.A X.xe none (EP X O9 σ Q) (.ref D) C) s₃:=by
    rintro s₃ rfl;refine G9 (λn s'=>∃i o P ys,Inv Z [] (cσ idx σ o) P s'/\tn i s'.heap/\(∀b∈U,P b=none)/\W i n ys P) ?_ m0 ⟨0,none,_,[],I4,oF,av,w0⟩;rintro n s5 ⟨i,o,H5,ys,I5,st5,fr5,w5⟩;obtain⟨hD,go,step⟩:=ah i n ys H5 w5;refine thn (T.item Z rfl rfl rfl hc i [] s5 _ H5 _ I5 (nQ fr5 rfl) st5 go) λr s6 ⟨u,hr,h6⟩=>?_;subst hr;refine thn h6 λ_ s7 ⟨y,H7,I7,r7,y7,lU,wW⟩=>?_;have Ef:=I7.pinned (nQ wW rfl) (T.obj _ _ lU);refine thn (UR (X:=Z) (i:=0) S.nd rfl (.inl (lookup_relabel_local S.hx)) (.inr (lookup_relabel_local S.hx)) _ s7 _ H7 y u (λσ' P=>σ'=cσ idx σ (some y)/\P=H7) Ef r7 ⟨rfl,rfl⟩) λ_ s8 ⟨σ8,H8,I8,e8,wZ⟩=>?_;subst e8;subst wZ;have again:∀{H9:Hp}{s9:Shared}{ad:List V},Inv Z ([]++VI U s7.heap) (cσ idx σ (some y)) H9 s9->(∃m',m'<n/\W (i+1) m' ad H9) ->
        ∃m,m<n/\∃i o P ys,Inv Z [] (cσ idx σ o) P s9/\tn i s9.heap/\(∀b∈U,P b=none)/\W i m ys P:=λ{H9 s9 ad} I9 ⟨m',hm,w9⟩=>by
      refine⟨m',hm,i+1,some y,H9,ad,I9.unpinned,T.keep _ _ _ lU λb F o e=>(I9.pin (b,o) (Am _ (Am _ (X9 F e)))).1,λb F=>?_,w9⟩;obtain⟨o,e,d⟩:=T.obj _ _ lU b F;exact(I9.pin (b,o) (Am _ (Am _ (X9 F e)))).2.1
    refine wpAny_mono (he C { O with heap:=L } (upd H2 D (.lst [])) U _ s8 _ H8 _ (I8.wish _) (step y H8 y7)) (λv nA m_=>?_) λev nA m_=>?_
    . obtain⟨z,rA,rm,b7,mF,ae,m',hm,b9⟩:=m_
      have rm:=rm.unwish;refine thn (jW (X:=Z) _ nA _ rA (.ref D) [z] (.ref D) [v] (λ_ P=>P=upd rA D (.lst (ys++[z]))) rm rfl (.cons b7 .nil) ⟨D,ys,z,rfl,rfl,mF,ae,rfl⟩) λ_ U_ ⟨_,H11,Eh,_,k_⟩=>?_;subst k_;exact again Eh ⟨m',hm,b9⟩
    . obtain⟨R,σ',H0,s0,I0,cx⟩:=m_
      obtain⟨a,cls,t,P,B,rfl,os,bare,fl,hok,un,kB,tB,hE⟩:=cx;have I9:Inv X O9 σ H0 s0:=G.call' (s':=s0) (ch:=U) I0.os I0.O8 I0.hok I0.bare λb F=>⟨(f2 b F).2.2.2.1,(f2 b F).2.1,(f2 b F).2.2.2.2.1,(f2 b F).2.2.2.2.2⟩;obtain⟨m6,nO,_⟩:=id I0.loc;have nO:s0.heap.Ns C m6:=nO;have fC:H0 C=none:=I0.free;have ax:nA.heap.Ns C m6:=by obtain⟨o6,es,ep,ho,r6⟩:=nO;exact⟨o6,es,ep,fl.1 C o6 (kB C o6 ho fC oE),r6⟩
      show wpAny (model X.prog X.w) X.A (noteFrame (.ref a) X.env) _ _ nA;refine wpAny_looks_onW (G.ok.frames.trans (by rw[hX])) hf (by rw[<- hX];exact fl) λh4 a7 up=>?_;rw[<- hX]at a7;refine⟨m6,up.ns ax,λh' Y ba _=>?_⟩;refine Rl (s0:=s0) hx I9 nO fC ?_ ?_ fj (λp hp=>?_) oE os bare a7 hok un kB tB hE up Y
      . rw[<- fX];exact Cc G.lt
      . rw[<- fX];exact G.sz
      . exact iQ p.1 p.2 (G.pin p hp).1
  exact codeAny_compStart_list (a8 _ rfl) (T.self X.A 0 _ _ _ oF (a8 _ rfl))
end
end L2
namespace D
open PySem PySem.Spec PyProof.Rows L2
def jt(f:DV->M DV)(g:DV->Hs->Option (Str×Hs)):List DV->Hs->Option (Str×Hs)
  | [],_=>none
  |d::ds,hp=>match g d hp with
    |some r=>some r
    |none=>(f d hp).bind λz=>jt f g ds z.2
def xE(a:fM)(idx:List Nat)(f:aD)(g:bO):bO:=λenv=>dX (a env) λds hp=>if X3 ds=true then jt (λd=>f (cE idx env d)) (λd=>g (cE idx env d)) ds hp else none
section
variable{X:Cx}{E:XK}{elt iter:Expr}{x:Str}{px pos:Pos}{scope:Scope}{cl:List (Str×Addr)}{caps:List Str}{idx:List Nat}{src:fM}{f:aD}{g:bO}
theorem Qds{K:Ae}{σ:St}{H:Hp}(h:tR K E (xE src idx f g) σ H):Lz K (tY K src) (λσ H Q=>tR K E g σ H∨tD K f σ H Q) idx σ H:=by
  obtain⟨Z,env,ρ,B,hp,c,L,S,e,k⟩:=h;obtain⟨ds,hp1,e1,R⟩:=ZX e;split at R
  . rename_i hs
    refine⟨Z,env,ρ,B,hp,ds,hp1,S,e1,λJ ρ1 B1 H1 g1 W1 it D hD hK=>?_⟩;have pB:=g1.gs S.wo.rb;have dl:ds.length<sizeLine:=Bq (Ci hs) (by decide);refine⟨λi m ys H2=>m=ds.length-i/\i<=ds.length/\H2 D=some (.lst ys)/\∃ρ2 n a u,Gr K ρ1 B1 H1 ρ2 n H2/\aM K ρ2 n a H2/\n D/\D∉ρ2/\ak K ρ2 n H2 u ys/\u.length<=i /\
      jt (λd=>f (cE idx env d)) (λd=>g (cE idx env d)) (ds.drop i) a=some (c,L),?_,?_⟩
    . exact⟨ds.length,rfl,Bh _,QU,ρ1,zt B1 D,hp1,[],Gr.banned hD hK,W1.banned hD hK,.inr rfl,λz=>W1.bt D (W1.rb D z) hD,ak.nil,Ai _,by simpa using R⟩
    . rintro i m ys H2 ⟨rfl,hi,fW,ρ2,n,a,u,g2,W2,bD,nD,rd,dn,e7⟩
      refine⟨fW,?_⟩;obtain⟨wN,a6⟩:=it ρ2 n H2 (g2.gs W1.rb) W2.rb W2.bt;have F:i<ds.length:=by
        rcases Nat.lt_or_ge i ds.length with z|z
        . exact z
        . rw[List.drop_eq_nil_of_le z]at e7;cases e7
      have hd:ds[i]?=some ds[i]:=Af F;obtain⟨go,yl⟩:=wN i _ hd;rw[List.drop_eq_getElem_cons F]at e7;refine⟨go,λx H3 y=>?_⟩;obtain⟨rx,hx⟩:=yl x H3 y;have P:Gr K ρ2 n H2 ρ2 n H3/\aM K ρ2 n a H3:=by
        rcases hx with rfl|⟨p,o,hn,rfl⟩
        . exact⟨Gr.refl,W2⟩
        . exact⟨Gr.laid hn,W2.laid hn⟩
      have g3:=g2.trans P.1;have U:=cσ_ok (idx:=idx) S (pB.trans (g3.gs W1.rb)) P.2 rx;have Y:H3 D=some (.lst ys):=P.1.keep D _ nD fW;unfold jt at e7;cases q:g (cE idx env ds[i]) a with
      |some r=>rw[q]at e7;cases e7;exact .inl ⟨_,_,ρ2,n,a,c,L,U,q,λC ρ4 B4 H4 nc g4 W4=>k C ρ4 B4 H4 nc ((S.gr.trans g1).trans (g3.trans g4)) W4⟩
      |none =>
        rw[q]at e7;obtain⟨⟨z,iu⟩,k_,pG⟩:=Option.bind_eq_some_iff.mp e7;refine .inr (tD.run U k_ λv ρ5 O H5 I S5 r5=>?_);have pq:H5 D=some (.lst ys):=I.keep D _ nD Y;have lG:D∉ρ5:=λz=>(I.bF D z).elim nD λq=>by rw[Y]at q;cases q
        have lM:O D:=I.ban D bD;have G:=g3.trans I;have lF:=ak.grow W2.rb (P.1.trans I) _ _ rd;have trk:∀b,(upd H5 D (.lst (ys++[v]))) b=none->H5 b=none:=λb q=>by
          by_cases e:b=D
          . subst e;rw[QU]at q;cases q
          . rw[QS e]at q;exact q
        have g6:Gs K ρ5 O H5 ρ5 O (upd H5 D (.lst (ys++[v]))):=⟨Bw,λ_ h=>.inl h,λb o T h=>by rw[QS (show b≠D from λz=>T (by rw[z];exact lM))];exact h,trk⟩;refine⟨pq,by have:=lF.length;lia,ds.length-(i+1),⋯,rfl,F,QU,ρ5,O,iu,u++[z],?_,?_,lM,lG,ak.gs g6 _ _ (ak.append lF (ak.one r5)),by simp;lia,pG⟩
        . exact⟨G.pre,G.ban,G.new,G.bF,λb o T h=>by rw[QS (show b≠D from λq=>by rw[q,hD]at h;cases h)];exact G.keep b o T h,λb q=>G.trk b (trk b q)⟩
        . exact⟨S5.wo.len,S5.wo.nd,λj b o q1 q2=>aP.gs g6 (QS (show b≠D from λz=>lG (by rw[<- z];exact Ax q1))) (S5.wo.obj j b o q1 q2),S5.wo.rb,λb z q=>S5.wo.bt b z (trk b q),S5.wo.bk⟩
  . cases R
def Dg{X:Cx}{e:Expr}{t t':TE}(h:PE X e t)(h':PE X e t'):PE X e (λσ H Q=>t σ H Q∨t' σ H Q):=λa s σ H Q I q=>q.elim (h a s σ H Q I) (h' a s σ H Q I)
theorem Ov(S:yp X x scope cl caps idx)(a:X.calm=true)(hi:DI X (.Name x px) iter src)(d:∀C s₀ H₀ ex,RE (sG X E scope cl C (x::caps) s₀ H₀ ex) E elt g)(c:∀C s₀ H₀ ex,DE (sG X E scope cl C (x::caps) s₀ H₀ ex) elt f)
  (hx:Dk X E) (hX:X.stack=X.env::X.outer:=by rfl) (hf:X.env.frame=some X.env.locals:=by rfl) (hs:∀x,foldedSetIterable iter X.env x=pure x:=by intro _;rfl):RE X E (.ListComp elt [⟨.Name x px,iter,[],0⟩] scope pos) (xE src idx f g) :=
 L2.PE.imp (Qfz (E:=E) (te:=λσ H Q=>tR X.K E g σ H∨tD X.K f σ H Q) S a hi (λC s₀ H₀ ex=>Dg (t:=λσ H _=>tR X.K E g σ H) (t':=tD X.K f) (d C s₀ H₀ ex) (c C s₀ H₀ ex)) hX hf hx hs) λ_ _ _ h=>Qds h
def LQ{P:Program}{w:World}{K:Ae}{mg:Co}{O8:Heap}{N:List Str}{q:Str}{d:Scope}{f:Addr}{a:Value}{A:Around}{outer:List Env}{s:Shared}{H:Hp}{E:XK}:Dk (qF (cH P w) P w K mg O8 N q d f a A outer s H E) E:=λfl O9 σ H' s' v c I h=>BE I rfl rfl rfl h
end
section
variable{X:Cx}{E:XK}{a e o:Expr}{es:List Expr}{pos p apos cpos:Pos}{f fo:aD}{g:bO}
def yM(f:aD)(g:bO):bO:=λenv=>dX (f env) λ_=>g env
theorem Mi{z:Operator}(ha:DE X a f)(y:RE X E e g):RE X E (.BinOp a z e pos) (yM f g) :=
 L2.PE.imp (Lp (r:=λ_ _ _ _=>False) (λ_ _ _ _ _ _ _ _ _ _ _ _ h=>h.elim) ha y) λσ H Q q=>by obtain⟨Z,env,ρ,B,hp,c,i,S,n,k⟩:=q;obtain⟨d,hp1,u,x⟩:=ZX n;exact tD.run S u λv ρ1 j H1 g1 m C=>⟨Z,env,ρ1,j,hp1,c,i,m,x,k⟩
theorem DR(h:RE X E e g)(hs:starEach [e] X.env=(false,eval e X.env)::starEach [] X.env:=by rfl):PA X [e] (λσ H _=>tR X.K E g σ H):=λpos O9 s σ H Q I q=>ZT (t:=λ_ _ _=>False) h (λ_ _ _ _ _ _ _ z=>z.elim) hs pos O9 s σ H Q I q
theorem DQ{x:Str}{T:String}(h:RE X E e g)(hm:X.mg x=none)(i:bootBuiltins x=some (.type T))(d:Gl X x:=by rfl)(hn:x ≠ "__name__" := by decide)(c:(x==("__debug__" : Str))=false:=by decide)
  (he:starEach [e] X.env=(false,eval e X.env)::starEach [] X.env:=by rfl) (hpl:(backTo pos (starEach [] X.env)).any (·.1)=false:=by rfl):RE X E (.Call (.Name x p) [e] [] pos) g :=
 L2.PE.imp (vU (r:=λ_ _ _=>False) (λ_ _ _ _ _ _ _ _ _ h=>h.elim) d hm i (DR h he) hn c he hpl) λ_ _ _ q=>q
theorem gQ{i:Nat}{x:Str}{c:Pos}(d:X.N.Nodup)(h:RE X E e g)(hi:X.N[i]?=some x:=by rfl)(hx:Loc X.env.scope x:=by first|exact Or.inl rfl|exact Or.inr rfl)(hs:swapsWith e (some (.Name x c)) pos.line X.env=pure false:=by rfl)
  (hf:X.fn x=true∨X.env.scope.names.lookup x=some .local:=by first|exact .inl rfl|exact .inr rfl|assumption):RS X E (.Assign [.Name x c] e pos) g :=
 (K4 d hi hx h hs hf).imp λ_ _ _ q=>q
end
section
variable{X:Cx}{E:XK}{a e o:Expr}{es:List Expr}{pos p apos cpos:Pos}{f fo:aD}{g:bO}
theorem QfU{y:Str}{k j n:Nat}{F:Cs}(h:Has X.prog X.w X.K X.mg X.O8 y j n F)(u:Room k X.A)(m:j<=k)(ha:RE X E e g)(i:Gl X y:=by rfl)
  (hdb:(y==("__debug__" : Str))=false:=by decide) (he:starEach [e] X.env=(false,eval e X.env)::starEach [] X.env:=by rfl) (hpl:(backTo pos (starEach [] X.env)).any (·.1)=false:=by rfl):RE X E (.Call (.Name y p) [e] [] pos) g:=by
 obtain⟨g',fd,ps,c,d,r,hm⟩:=h.ex;exact L2.PE.imp (gJ c (u.mono m) i hm r d .nil QA (DR ha he) hdb he hpl) λ_ _ _ q=>q
theorem QhM{T id:String}{name:Str}{m:DV->List DV->M DV}(hm:MtR X id (lE X.K m))(J:PlainAttrs T)(slot:Slot T name id)(i:typeOf (.builtin id)=pure (.type "method_descriptor"))(G:DE X o fo)(ha:RE X E e g)
  (hbase:attributeBase o name X.env (eval o X.env)=eval o X.env:=by rfl)
  (hfew:((backTo cpos (starEach [e] X.env)).all (λx=>!x.1)&&(backToKw cpos (keywordEach [] X.env)).all (λx=>x.1.isSome)
   && decide (([e]:List Expr).length+([]:List Keyword).length+(if ([]:List Keyword).isEmpty then 0 else 1)<30))=true:=by rfl)
  (hline:(apos.endLine==cpos.line)=true:=by rfl) (hs:starEach [e] X.env=(false,eval e X.env)::starEach [] X.env:=by rfl) (hplain:(backTo cpos (starEach [] X.env)).any (·.1)=false:=by rfl) :
  RE X E (.Call (.Attribute o name apos) [e] [] cpos) (λenv=>dX (fo env) λx=>dX (Xf T x) λ_=>g env) :=
 L2.PE.imp (CW J slot i hm G (DR ha hs) hbase hfew hline hs hplain) λσ H Q q=>by obtain⟨Z,env,ρ,B,hp,c,d,S,r,k⟩:=q;obtain⟨x,hp1,u,y⟩:=ZX r;obtain⟨_,I,C,F⟩:=ZX y;refine tD.run S u λv ρ1 n H1 g1 j L=>?_;obtain⟨z,ty⟩:=Ru j.wo L C;subst z;exact⟨ty,Z,env,ρ1,n,hp1,c,d,j,F,k⟩
theorem QfV{d c:Expr}{x:Str}{m:Pos}{scope:Scope}{cl:List (Str×Addr)}{caps:List Str}{idx:List Nat}(S:yp X x scope cl caps idx)(i:X.calm=true)(hi:RE X E c g)(j:∀C s₀ H₀ ex,DE (Jx X scope cl C (x::caps) s₀ H₀ ex) d f)
  (hs:∀x,foldedSetIterable c X.env x=pure x:=by intro _;rfl):RE X E (.ListComp d [⟨.Name x m,c,[],0⟩] scope pos) g :=
 L2.PE.imp (gK (wi:=Ir X.K λσ H _=>tR X.K E g σ H) (tt:=λ_ H Q=>Q true H) (te:=tD X.K f) S i (gO hi) (λ_ _ _ _=>O_) j hs) λ_ _ _ q=>q
end
section
variable{X:Cx}{E:XK}{o:Expr}{fo:aD}{pos apos:Pos}{c m:Str}
theorem QfW{k j n:Nat}{G:List DV->Hs->Option (Str×Hs)}{pl:Sem Bool}(h:VX X.prog X.w X.K X.mg X.O8 c m j n G)(hr:Room k X.A)(hj:j<=k)(hx:Xs (cH X.prog X.w) X E)(ho:DE X o fo)
  (ht:eval (.Call (.Attribute o m apos) [] [] pos) X.env=(do
   let ov <- eval o X.env
   standAt apos.atName
   let (f,first) <- holding [ov] (getMethod ov m pl)
   callWith pos f first (backTo pos (starEach [] X.env)) (backToKw pos (keywordEach [] X.env))):=by rfl):RE X E (.Call (.Attribute o m apos) [] [] pos) (X1 c m n G fo Qk):=by
 obtain⟨C,g,fd,ps,nc,cl,hm,I,Y⟩:=h.ex;refine L2.PE.imp (Ro (pl:=pl) ho cl hm I (hr.mono hj) Y .nil hx ht) λσ H Q q=>?_;obtain⟨Z,env,ρ,B,hp,J,r,S,e,k⟩:=q;obtain⟨x,hp1,O,e⟩:=ZX e;obtain⟨_,a6,P,e⟩:=ZX e;obtain⟨ds,a7,R,d⟩:=ZX e;cases R;split at d
 ·rename_i hl;refine tD.run S O λv ρ1 y H1 g1 S1 u=>?_;obtain⟨i,fs,rfl,w1,w2⟩:=YX P;obtain⟨hn,rfl⟩:=Qz w2;obtain⟨a,rfl,_,ro⟩:=au.aV S1.wo u w1;obtain⟨C',L,xs,T,U,rf⟩:=ro.ins;obtain rfl:=T.uniq nc;have hx:xs.lookup m=none:=by
   rcases rf.look m with ⟨_,z⟩|⟨_,_,z,_,_⟩
   ·exact z
   ·rw[z]at hn;cases hn
  refine⟨a,L,xs,rfl,U,hx,?_⟩;refine⟨?_,ρ1,y,_,_,J,r,S1.wo,?_,d,λF ρ3 B3 H3 oU g3 W3=>k F ρ3 B3 H3 oU (S1.gr.trans g3) W3⟩
  ·rw[Bo];exact hl
  ·rw[Bo];exact ak.cons u (by unfold ak;rfl)
 ·cases d
end
structure ou(X:Cx)(es:List Expr)(f:aW):Prop where
 h:DA X es f
section
variable{X:Cx}{e:Expr}{es:List Expr}{f:aD}{g:aW}{pos:Pos}
def qf:ou X [] Qk:=⟨Qh⟩
def Za{x:Str}{j:Nat}{p:Pos}(a:ou X es g):ou X (.Constant (.str x) j p::es) (Qc (eC (.str x)) g):=⟨Qd Qw a.h⟩
structure DEs(X:Cx)(e:Expr)(f:aD):Prop where
 h:DE X e f
theorem XY(ha:DEs X e f)(a:ou X es g)(hs:starEach (e::es) X.env=(false,eval e X.env)::starEach es X.env:=by rfl):ou X (e::es) (Qc f g):=⟨Qd ha.h a.h hs⟩
def qg(h:ou X es g):DE X (.List es pos) (Ja g):=YM h.h
end
end D
namespace K72
open PySem PySem.Spec PyProof.Rows L2 D
def top (i:Nat):Stmt:=PySem.Challenge.pw_sidelink_k72_rows_refused.main.body.getD i (.Pass ⟨0,0,0,0⟩)
abbrev xL:Stmt:=Zc (top 39) 8
def xy:aB:=QR (QL Zp (Qc (QT "Shelf" "kept" (Qb 0)) (Qk)))
def J9:List DV->M DV:=Q3 1 xy
abbrev X2:Stmt:=Zc (top 64) 7
def jd:aB:=Q9 "Weaver" "shelf" (Qb 0) (Qb 1)
def JR:List DV->M DV:=Q3 2 jd
abbrev Vb:Stmt:=Zc (top 39) 7
def yy:aB:=QR (QT "Shelf" "page_room" (Qb 0))
def ZY:List DV->M DV:=Q3 1 yy
abbrev Vc:Stmt:=Zc (top 39) 4
def yz:aB:=QR (QT "Shelf" "top" (Qb 0))
def Jv:List DV->M DV:=Q3 1 yz
abbrev Ub:Stmt:=top 30
def kH:aB:=Qr (aJ (cJ (Z2 (uZ (Qb 1))) (Z2 (uZ (Qi aF (Qi aF (Qb 0) (Qi aF (Qb 1) (eC (.int 0)))) (eC (.int 2)))))) (QR (eC .non)) (Q7)) (QR (Qi aF (Qi aF (Qi aF (Qb 0) (Qi aF (Qb 1) (eC (.int 0)))) (eC (.int 2))) (eC (.int 0))))
def Y8:List DV->M DV:=Q3 2 kH
abbrev Gh:Stmt:=top 29
def gB:aB:=Qr (YY (eC (.bl true)) (cU (Qb 2) (Qb 4))) (Qr (Zd (Zo "list" Zh (Qb 3) (Qc (Qb 4) (Qk)))) (QD 4 (Qi aF (Qi aF (Qb 0) (Qb 4)) (eC (.int 4)))))
def uF:aB:=Xx (XC (eB (Qi vi (Qb 4) (eC .non))) (XC (eB (JS dI cD (eC (.int 0)) (Qb 4) (QL Zp (Qc (Qb 0) (Qk))))) (eB (Qi mX (Qb 4) (Qb 2))))) (gB) 100000
def Qbd:aB:=Qr (QD 3 (Z8 (Qk))) (Qr (QD 4 (Qb 1)) (Qr (uF) (QR (Qb 3))))
def zr:List DV->M DV:=Q3 5 Qbd
abbrev xU:Stmt:=top 28
def UD:aB:=Qr (QD 5 (QB 3 zr (Qc (Qb 0) (Qc (Qb 4) (Qc (Qb 3) (Qk)))))) (Qr (Zd (Zo "list" Zh (Qb 2) (Qc (Qb 5) (Qk)))) (QD 4 (QB 2 Y8 (Qc (Qb 0) (Qc (Qb 5) (Qk))))))
def Ul:aB:=Xx (eB (Qi dI (QL Zp (Qc (Qb 2) (Qk))) (Qi aF (Qi aF (Qb 0) (Qb 1)) (eC (.int 0))))) (UD) 100000
def G0:aB:=Qr (QD 2 (Z8 (Qk))) (Qr (QD 3 (Xt)) (Qr (QD 4 (Qb 1)) (Qr (Ul) (QR (Qb 2)))))
def JO:List DV->M DV:=Q3 6 G0
abbrev zY:Stmt:=Zc (top 39) 11
def Up:aB:=QR (QL Il (Qc (QT "Shelf" "kept" (Qb 0)) (Qk)))
def JE:List DV->M DV:=Q3 1 Up
abbrev Gi:Stmt:=top 27
def yU:aB:=Zd (Zo "list" XQ (Qb 2) (Qc (Dm (Qi aF (Qi aF (Qb 1) (Qb 3)) (eC (.int 1))) (Qi aF (Qi aF (Qb 1) (Qb 3)) (eC (.int 2)))) (Qk)))
def uG:aB:=qt (cT (Qi aF (QB 2 JO (Qc (Qb 1) (Qc (QM "Shelf" "root" 1 Jv (Qb 0) Qk) (Qk)))) (yb (eC (.int 1))))) (gN 3) (yU)
def Qbe:aB:=Qr (QD 1 (QM "Shelf" "picture" 1 JE (Qb 0) Qk)) (Qr (QD 2 (Z8 (Qk))) (Qr (uG) (QR (Qb 2))))
def Xr:List DV->M DV:=Q3 4 Qbe
abbrev Yn:Stmt:=Zc (top 39) 12
def Yl:aB:=aJ (Z2 (eB (JS dI cD (eC (.int 0)) (Qb 1) (QL Zp (Qc (QT "Shelf" "kept" (Qb 0)) (Qk)))))) (Xj) (Q7)
def Zs:List DV->M DV:=Q3 2 Yl
abbrev qv:Stmt:=Zc (top 39) 5
def qc:aB:=Qr (Zd (QM "Shelf" "check_number" 2 Zs (Qb 0) (Qc (Qb 1) (Qk)))) (Q9 "Shelf" "top" (Qb 0) (Qb 1))
def Jc:List DV->M DV:=Q3 2 qc
abbrev V7:Stmt:=Zc (top 39) 3
def VZ:aB:=Qr (Yy "Shelf" "write_count" qC (Qb 0) (eC (.int 1))) (Qr (Zd (Zo "list" Zh (QT "Shelf" "kept" (Qb 0)) (Qc (Qb 1) (Qk)))) (QR (Qi VU (QL Zp (Qc (QT "Shelf" "kept" (Qb 0)) (Qk))) (eC (.int 1)))))
def Yh:List DV->M DV:=Q3 2 VZ
abbrev xM:Stmt:=Zc (top 39) 2
def xA:aB:=Qr (Zd (QM "Shelf" "check_number" 2 Zs (Qb 0) (Qc (Qb 1) (Qk)))) (Qr (Yy "Shelf" "write_count" qC (Qb 0) (eC (.int 1))) (YY (Qb 2) (cU (QT "Shelf" "kept" (Qb 0)) (Qb 1))))
def Jj:List DV->M DV:=Q3 3 xA
abbrev q8:Stmt:=Zc (top 39) 0
def qN:aB:=Qr (Q9 "Shelf" "page_room" (Qb 0) (Qb 1)) (Qr (Q9 "Shelf" "kept" (Qb 0) (Z8 (Qc (eC (.tup [.int 0,.tup [],.tup [],.non,.non])) (Qk)))) (Qr (Q9 "Shelf" "top" (Qb 0) (eC (.int 0))) (Qr (Q9 "Shelf" "read_count" (Qb 0) (eC (.int 0))) (Q9 "Shelf" "write_count" (Qb 0) (eC (.int 0))))))
def ZI:List DV->M DV:=Q3 2 qN
abbrev Gg:Stmt:=top 46
def gA:aB:=Zd (QM "Shelf" "lay" 2 Yh (Qb 2) (Qc (Qb 3) (Qk)))
def uE:aB:=qt (cT (nT (Qb 0) (Zw (eC (.int 1))) (ZS))) (gN 3) (gA)
def Qbc:aB:=Qr (QD 2 (Js "Shelf" 2 ZI (Qc (Qb 1) (Qk)))) (Qr (Zd (QM "Shelf" "write" 3 Jj (Qb 2) (Qc (eC (.int 0)) (Qc (Qi aF (Qb 0) (eC (.int 0))) (Qk))))) (Qr (uE) (Qr (Zd (QM "Shelf" "make_root" 2 Jc (Qb 2) (Qc (Qi VU (QL Zp (Qc (Qb 0) (Qk))) (eC (.int 1))) (Qk)))) (QR (Qb 2)))))
def zq:List DV->M DV:=Q3 4 Qbc
abbrev Rh:Stmt:=top 45
def KM:aB:=Qr (QD 5 (Qi Zf (Qb 4) (eC (.int 1)))) (Qr (QD 6 (Qi bK (Qb 5) (QL Zp (Qc (Qb 1) (Qk))))) (Qr (QD 7 (b_ (eB (Qb 6)) (eC .non) (Qi aF (Qi aF (Qb 1) (Qb 5)) (eC (.int 0))))) (Qr (QD 8 (b_ (eB (Qb 6)) (eC .non) (Qi Zf (Qb 2) (Qb 5)))) (Zd (Zo "list" Zh (Qb 3) (Qc (ZD (Qc (Qb 0) (Qc (Qi aF (Qi aF (Qb 1) (Qb 4)) (eC (.int 1))) (Qc (Qi aF (Qi aF (Qb 1) (Qb 4)) (eC (.int 2))) (Qc (Qb 7) (Qc (Qb 8) (Qk))))))) (Qk)))))))
def Qa0:aB:=qt (dh (vh (Qc (QL Zp (Qc (Qb 1) (Qk))) (Qk)))) (gN 4) (KM)
def Qel:aB:=Qr (QD 3 (Z8 (Qk))) (Qr (Qa0) (QR (Qb 3)))
def yt:List DV->M DV:=Q3 9 Qel
abbrev Vf:Stmt:=top 44
def uQ:aB:=Qr (QD 2 (Qi Cw (Ja (Qc (Qb 1) (Qk))) (Qi Y5 (Qb 0) (Qb 1)))) (Qr (QD 3 (Qi Xg (Qb 0) (Qb 1))) (Qr (aJ (eB (Qi cG (Qb 3) (eC (.int 1)))) (QR (Qi Zf (cA (Qb 2) (ZS) (Zw (yb (eC (.int 1))))) (Ja (Qc (Qi VU (Qb 1) (eC (.int 1))) (Qc (eC (.int 2)) (Qk)))))) (Q7)) (QR (b_ (eB (Qi fJ (Qb 3) (eC (.int 0)))) (Qi Zf (Qb 2) (Ja (Qc (Qb 3) (Qk)))) (Qb 2)))))
def yr:List DV->M DV:=Q3 4 uQ
abbrev Vd:Stmt:=top 43
def UY:aD:=Z9 false (cT (cA (Qb 0) (Zw (Qb 4)) (Zw (Qb 6)))) [] (Yb) (Qi aF (Qb 0) (eC (.int 0)))
def KJ:aB:=Qr (QD 6 (Qi Zf (Qb 4) (Qb 5))) (Qr (QD 7 (UY)) (Qr (yg 3 (ZD (Qc (Qi aF (Qb 7) (eC (.int 0))) (Qc (QL mU (Qc (cA (Qb 7) (Zw (eC (.int 1))) (ZS)) (Qk))) (Qc (Iv (Qc (Qi Zf (Qb 1) (Qb 4)) (Qc (Qi Zf (Qb 1) (Qb 6)) (Qk)))) (Qk)))))) (QD 4 (Qb 6))))
def U5:aB:=qt (cT (QB 2 yr (Qc (QL Zp (Qc (Qb 0) (Qk))) (Qc (Qb 2) (Qk))))) (gN 5) (KJ)
def uO:aB:=Qr (y9 3) (Qr (QD 4 (eC (.int 0))) (Qr (U5) (zJ 3 (QR (Qb 3)))))
def yq:List DV->M DV:=Q3 8 uO
abbrev Vh:Stmt:=top 42
def jl:aD:=Z9 false (cT (Qb 4)) [] (Yb) (Qi aF (Qb 0) (eC (.int 1)))
def jm:aD:=Z9 false (cT (Qb 4)) [] (Yb) (Qi aF (Qb 0) (eC (.int 0)))
def KL:aB:=Qr (QD 4 (nT (Qb 0) (Zw (Qb 3)) (Zw (Qi Zf (Qb 3) (Qb 1))))) (Qr (QD 5 (QL mU (Qc (jm) (Qk)))) (yg 2 (ZD (Qc (Qi aF (Qb 5) (eC (.int 0))) (Qc (Qb 5) (Qc (QL mU (Qc (jl) (Qk))) (Qk)))))))
def U7:aB:=qt (dh (tG (Qc (eC (.int 0)) (Qc (QL Zp (Qc (Qb 0) (Qk))) (Qc (Qb 1) (Qk)))))) (gN 3) (KL)
def uS:aB:=Qr (aJ (Z2 (uZ (Qb 0))) (QR (Ja (Qc (ZD (Qc (eC .non) (Qc (ZD (Qk)) (Qc (ZD (Qk)) (Qk))))) (Qk)))) (Q7)) (Qr (y9 2) (Qr (U7) (zJ 2 (QR (Qb 2)))))
def zp:List DV->M DV:=Q3 6 uS
abbrev Rg:Stmt:=top 41
def Qbz:aB:=Qr (UH 2 qC (eC (.int 1))) (Qr (QD 3 (QB 3 yq (Qc (Qb 3) (Qc (Qi VU (QL Zp (Qc (Qb 4) (Qk))) (QL Zp (Qc (Qb 3) (Qk)))) (Qc (Qi Zf (Qb 1) (eC (.int 1))) (Qk)))))) (Zd (Zo "list" XQ (Qb 4) (Qc (QB 3 yt (Qc (Qb 2) (Qc (Qb 3) (Qc (QL Zp (Qc (Qb 4) (Qk))) (Qk))))) (Qk)))))
def Qa1:aB:=Xx (eB (Qi fJ (QL Zp (Qc (Qb 3) (Qk))) (eC (.int 1)))) (Qbz) 100000
def Qem:aB:=Qr (QD 2 (eC (.int 0))) (Qr (QD 3 (QB 2 zp (Qc (Qb 0) (Qc (Qb 1) (Qk))))) (Qr (QD 4 (QB 3 yt (Qc (Qb 2) (Qc (Qb 3) (Qc (eC (.int 0)) (Qk)))))) (Qr (Qa1) (QR (QB 2 zq (Qc (Qb 4) (Qc (Qb 1) (Qk))))))))
def yu:List DV->M DV:=Q3 5 Qem
abbrev xP:Stmt:=Zc (top 64) 8
def Yo:aD:=Z9 false (cT (QT "Weaver" "held" (Qb 0))) [] (Yb) (Qi isD (Qb 0) (eC .non))
def GW:aB:=QR (XZ (Qi bK (QT "Weaver" "taken" (Qb 0)) (QL Zp (Qc (QT "Weaver" "deeds" (Qb 0)) (Qk)))) (QL GT (Qc (Yo) (Qk))))
def Zx:List DV->M DV:=Q3 1 GW
abbrev qu:Stmt:=Zc (top 66) 4
def yw:aB:=Qr (aJ (Z2 (eB (QM "Weaver" "idle" 1 Zx (QT "Desk" "weaver" (Qb 0)) Qk))) (Xj) (Q7)) (Qr (Q9 "Desk" "shelf" (Qb 0) (QB 2 yu (Qc (QB 1 Xr (Qc (QT "Desk" "shelf" (Qb 0)) (Qk))) (Qc (QM "Shelf" "room" 1 ZY (QT "Desk" "shelf" (Qb 0)) Qk) (Qk))))) (Qr (Zd (QM "Weaver" "change_shelf" 2 JR (QT "Desk" "weaver" (Qb 0)) (Qc (QT "Desk" "shelf" (Qb 0)) (Qk)))) (QR (QM "Shelf" "pages" 1 J9 (QT "Desk" "shelf" (Qb 0)) Qk))))
def JT:List DV->M DV:=Q3 1 yw
def XG:List DV->Hs->Option (Str×Hs):=VM 1 (dY (Z2 (eB (QM "Weaver" "idle" 1 Zx (QT "Desk" "weaver" (Qb 0)) Qk))) (qG "Busy") (fK))
abbrev Vg:Stmt:=top 36
def KK:aB:=Qr (QD 8 (Qi aF (Qb 4) (Qb 7))) (aJ (cJ (eB (Qi lJ (Qb 7) (QL Zp (Qc (Qb 5) (Qk))))) (cJ (eB (Qi mX (Qb 8) (Qb 3))) (eB (Qi eN (Qi aF (Qb 3) (Qb 8)) (Qi aF (Qb 5) (Qb 7)))))) (Zd (Zo "list" Zh (Qb 6) (Qc (ZD (Qc (eC (.str "kid")) (Qc (Qb 0) (Qc (Qb 7) (Qk))))) (Qk)))) (Q7))
def U6:aB:=qt (dh (vh (Qc (QL Zp (Qc (Qb 4) (Qk))) (Qk)))) (gN 7) (KK)
def uR:aB:=Qr (QD 4 (Qi aF (Qb 1) (eC (.int 2)))) (Qr (QD 5 (Qi Zf (ZD (Qc (Qb 2) (Qk))) (Qi aF (Qb 1) (eC (.int 1))))) (Qr (QD 6 (Z8 (Qk))) (Qr (U6) (QR (Qb 6)))))
def zo:List DV->M DV:=Q3 9 uR
abbrev jJ:Stmt:=top 35
def Kb:aB:=QR (b_ (eB (Qi bK (Qi aF (Qb 0) (eC (.int 0))) (eC (.int 0)))) (QL Zp (Qc (Qi aF (Qb 0) (eC (.int 1))) (Qk))) (Qi Zf (QL Zp (Qc (Qi aF (Qb 0) (eC (.int 1))) (Qk))) (eC (.int 1))))
def YL:List DV->M DV:=Q3 1 Kb
abbrev Ve:Stmt:=top 34
def U0:aD:=Z9 false (dh (i_ (Qb 2))) [3] (Yb) (Qi cD (Qb 0) (Qb 1))
def U1:aD:=Z9 false (dh (i_ (Qb 2))) [1] (Yb) (Qi dI (Qb 1) (Qb 0))
def jk:aD:=Z9 false (dh (BZ (Qb 2) (cA (Qb 2) (Zw (eC (.int 1))) (ZS)))) [] (Yb) (Qi cD (Qi aF (Qb 0) (eC (.int 0))) (Qi aF (Qb 0) (eC (.int 1))))
def uP:aB:=Qr (QD 2 (Qi aF (Qb 0) (eC (.int 1)))) (Qr (QD 3 (Qi aF (Qb 0) (eC (.int 3)))) (Qr (aJ (Z2 (eB (QL GT (Qc (jk) (Qk))))) (QR (eC (.bl false))) (Q7)) (Qr (aJ (XC (eB (Qi vi (Qb 1) (eC .non))) (Z2 (eB (QL GT (Qc (U1) (Qk)))))) (QR (eC (.bl false))) (Q7)) (Qr (aJ (XC (eB (Qi vi (Qb 3) (eC .non))) (Z2 (eB (QL GT (Qc (U0) (Qk)))))) (QR (eC (.bl false))) (Q7)) (QR (yI (Qi isD (Qb 1) (eC .non)) (yI (Qi isD (Qb 3) (eC .non)) (Qi cD (Qb 1) (Qb 3)))))))))
def zn:List DV->M DV:=Q3 4 uP
abbrev xW:Stmt:=top 33
def G3:aB:=Qr (QD 5 (Z8 (Qk))) (Qr (aJ (eB (Qi eN (Qi aF (Qb 1) (eC (.int 0))) (Qb 2))) (Zd (Zo "list" Zh (Qb 5) (Qc (ZD (Qc (eC (.str "level")) (Qc (Qb 0) (Qk)))) (Qk)))) (Q7)) (Qr (aJ (Z2 (eB (QB 2 zn (Qc (Qb 1) (Qc (Qb 3) (Qk)))))) (Zd (Zo "list" Zh (Qb 5) (Qc (ZD (Qc (eC (.str "order")) (Qc (Qb 0) (Qk)))) (Qk)))) (Q7)) (Qr (aJ (eB (Qi eN (QL Zp (Qc (Qi aF (Qb 1) (eC (.int 2))) (Qk))) (QB 1 YL (Qc (Qb 1) (Qk))))) (Zd (Zo "list" Zh (Qb 5) (Qc (ZD (Qc (eC (.str "parts")) (Qc (Qb 0) (Qk)))) (Qk)))) (Q7)) (Qr (aJ (cJ (eB (Qi eN (Qi isD (Qi aF (Qb 1) (eC (.int 3))) (eC .non)) (Qi isD (Qi aF (Qb 1) (eC (.int 4))) (eC .non)))) (eB (Qi eN (Qi aF (Qb 1) (eC (.int 4))) (Qb 4)))) (Zd (Zo "list" Zh (Qb 5) (Qc (ZD (Qc (eC (.str "links")) (Qc (Qb 0) (Qk)))) (Qk)))) (Q7)) (QR (Qb 5))))))
def Xb:List DV->M DV:=Q3 6 G3
abbrev Ua:Stmt:=top 31
def vk:aB:=Qr (YY (Qb 3) (cU (Qb 2) (Qb 4))) (QD 3 (Qi aF (Qi aF (Qb 0) (Qb 4)) (eC (.int 3))))
def GS:aB:=qt (cT (Qb 1)) (gN 4) (vk)
def kG:aB:=Qr (QD 2 (Xt)) (Qr (QD 3 (eC .non)) (Qr (GS) (QR (Qb 2))))
def Xy:List DV->M DV:=Q3 5 kG
abbrev xV:Stmt:=top 32
def UE:aB:=Qr (QD 8 (Qi aF (Qb 1) (Qb 7))) (Qr (QD 9 (Qi aF (Qb 0) (Qb 8))) (Qr (QD 10 (b_ (eB (Qi cD (Qi Zf (Qb 7) (eC (.int 1))) (QL Zp (Qc (Qb 1) (Qk))))) (Qi aF (Qb 1) (Qi Zf (Qb 7) (eC (.int 1)))) (eC .non))) (Qr (Zd (Zo "list" XQ (Qb 6) (Qc (QB 5 Xb (Qc (Qb 8) (Qc (Qb 9) (Qc (Qb 2) (Qc (Qi aF (Qb 4) (Qb 8)) (Qc (Qb 10) (Qk))))))) (Qk)))) (aJ (eB (Qi fJ (Qb 2) (eC (.int 0)))) (Zd (Zo "list" XQ (Qb 6) (Qc (QB 4 zo (Qc (Qb 8) (Qc (Qb 9) (Qc (Qi aF (Qb 4) (Qb 8)) (Qc (Qb 5) (Qk)))))) (Qk)))) (Q7)))))
def Um:aB:=qt (dh (vh (Qc (QL Zp (Qc (Qb 1) (Qk))) (Qk)))) (gN 7) (UE)
def G1:aB:=Qr (QD 4 (QB 2 Xy (Qc (Qb 0) (Qc (Qb 1) (Qk))))) (Qr (QD 5 (QB 2 Xy (Qc (Qb 0) (Qc (Qb 3) (Qk))))) (Qr (QD 6 (Z8 (Qk))) (Qr (Um) (QR (Qb 6)))))
def Xa:List DV->M DV:=Q3 11 G1
abbrev Ri:Stmt:=top 25
def Qby:aB:=Qr (QD 5 (Qi VU (Qi VU (QL Zp (Qc (Qb 2) (Qk))) (eC (.int 1))) (Qb 4))) (Qr (QD 6 (b_ (eB (Qi fJ (Qb 5) (eC (.int 0)))) (Qi aF (Qb 2) (Qi Zf (Qb 4) (eC (.int 1)))) (Ja (Qk)))) (Zd (Zo "list" XQ (Qb 3) (Qc (QB 4 Xa (Qc (Qb 1) (Qc (Qi aF (Qb 2) (Qb 4)) (Qc (Qb 5) (Qc (Qb 6) (Qk)))))) (Qk)))))
def QaZ:aB:=qt (dh (vh (Qc (QL Zp (Qc (Qb 2) (Qk))) (Qk)))) (gN 4) (Qby)
def Qek:aB:=Qr (QD 1 (QM "Shelf" "picture" 1 JE (Qb 0) Qk)) (Qr (QD 2 (QB 2 JO (Qc (Qb 1) (Qc (QM "Shelf" "root" 1 Jv (Qb 0) Qk) (Qk))))) (Qr (QD 3 (Z8 (Qk))) (Qr (QaZ) (QR (Qb 3)))))
def U4:List DV->M DV:=Q3 7 Qek
abbrev Gb:Stmt:=top 26
def Qa7:aB:=QR (Qi bK (QB 1 U4 (Qc (Qb 0) (Qk))) (Ja (Qk)))
def YK:List DV->M DV:=Q3 1 Qa7
abbrev xY:Stmt:=top 57
def Xk:aD:=Z9 true (cT (Qb 0)) [] (Yb) (Qi Q1 (Qi Q1 (QL JY (Qc (Qi aF (Qb 0) (eC (.int 0))) (Qk))) (eC (.str ":"))) (QL JY (Qc (Qi aF (Qb 0) (eC (.int 1))) (Qk))))
def G7:aB:=Qr (aJ (Z2 (uZ (Qb 0))) (QR (eC (.str "-"))) (Q7)) (QR (Zo "str" pW (eC (.str ",")) (Qc (Xk) (Qk))))
def qB:List DV->M DV:=Q3 1 G7
abbrev Om:Stmt:=top 56
def QgD:aB:=Qr (aJ (eB (Qi isD (Qb 0) (eC .non))) (QR (eC (.str "-"))) (Q7)) (Qr (aJ (eB (Dq (Qb 0))) (QR (QB 1 qB (Qc (Qb 0) (Qk)))) (Q7)) (QR (QL JY (Qc (Qb 0) (Qk)))))
def XF:List DV->M DV:=Q3 1 QgD
abbrev xN:Stmt:=Zc (top 62) 2
def GU:aB:=Qr (aJ (Z2 (eB (QT "Walk" "ended" (Qb 0)))) (QR (eC .non)) (Q7)) (Qr (aJ (eB (Qi bK (Qi aF (QT "Walk" "deed" (Qb 0)) (eC (.int 0))) (eC (.str "stretch")))) (QR (QL Ik (Qc (QT "Walk" "pairs" (Qb 0)) (Qk)))) (Q7)) (QR (QT "Walk" "worth" (Qb 0))))
def Yc:List DV->M DV:=Q3 1 GU
abbrev zc:Stmt:=Zc (top 64) 6
def Xp:aD:=Z9 true (cT (QT "Weaver" "done" (Qb 0))) [] (Yb) (ZD (Qc (Qi aF (Qb 0) (eC (.int 0))) (Qc (QM "Walk" "answer" 1 Yc (Qi aF (Qb 0) (eC (.int 1))) Qk) (Qk))))
def Vt:aB:=QR (Xp)
def Jn:List DV->M DV:=Q3 1 Vt
abbrev qY:Stmt:=Zc (top 66) 3
def Vr:aB:=Qr (aJ (eB (Qi lJ (Qb 1) (QT "Desk" "deed_count" (Qb 0)))) (Xj) (Q7)) (QR (Zo "dict" Yx (QL sZ (Qc (QM "Weaver" "answers" 1 Jn (QT "Desk" "weaver" (Qb 0)) Qk) (Qk))) (Qc (Qb 1) (Qk))))
def Jm:List DV->M DV:=Q3 2 Vr
def X6:List DV->Hs->Option (Str×Hs):=VM 2 (dY (eB (Qi lJ (Qb 1) (QT "Desk" "deed_count" (Qb 0)))) (qG "NoDeed") (fK))
abbrev zZ:Stmt:=Zc (top 62) 0
def Uq:aB:=Qr (Q9 "Walk" "shelf" (Qb 0) (Qb 1)) (Qr (Q9 "Walk" "deed" (Qb 0) (Qb 2)) (Qr (Q9 "Walk" "aim" (Qb 0) (Qi aF (Qb 2) (eC (.int 1)))) (Qr (Q9 "Walk" "goal" (Qb 0) (eC (.int 0))) (Qr (Q9 "Walk" "place" (Qb 0) (eC .non)) (Qr (Q9 "Walk" "forks" (Qb 0) (Xt)) (Qr (Q9 "Walk" "new_page" (Qb 0) (eC .non)) (Qr (Q9 "Walk" "worth" (Qb 0) (eC .non)) (Qr (Q9 "Walk" "pairs" (Qb 0) (Z8 (Qk))) (Q9 "Walk" "ended" (Qb 0) (eC (.bl false)))))))))))
def JF:List DV->M DV:=Q3 3 Uq
abbrev Y0:Stmt:=Zc (top 64) 3
def x9:aB:=Qr (QD 2 (QT "Weaver" "taken" (Qb 0))) (Qr (YY (ZD (Qc (Qb 2) (Qc (Js "Walk" 3 JF (Qc (QT "Weaver" "shelf" (Qb 0)) (Qc (Qi aF (QT "Weaver" "deeds" (Qb 0)) (Qb 2)) (Qk)))) (Qk)))) (cU (QT "Weaver" "held" (Qb 0)) (Qb 1))) (Qr (Yy "Weaver" "taken" qC (Qb 0) (eC (.int 1))) (QR (ZD (Qc (eC (.str "take")) (Qc (Qb 1) (Qc (Qb 2) (Qk))))))))
def Jw:List DV->M DV:=Q3 3 x9
abbrev V8:Stmt:=Zc (top 62) 1
def kE:aB:=QR (QT "Walk" "ended" (Qb 0))
def Yi:List DV->M DV:=Q3 1 kE
abbrev Rf:Stmt:=top 60
def Qen:aB:=Qr (QD 2 (Qi bR (Qb 0) (eC (.int 0)))) (Qr (QD 3 (Qi bR (Qb 0) (eC (.int 1)))) (Qr (QD 4 (Qi bR (Qb 0) (eC (.int 2)))) (Qr (QD 5 (Qi Y5 (QL XX (Qc (Qb 3) (Qk))) (eC (.int 2)))) (Qr (QD 6 (Qi bR (Qb 3) (Qb 5))) (Qr (QD 7 (b_ (eB (Qi cG (Qb 2) (eC (.int 0)))) (Qb 5) (Qi Zf (Qb 5) (eC (.int 1))))) (Qr (QD 8 (ZD (Qc (Qb 2) (Qc (cA (Qb 3) (ZS) (Zw (Qb 5))) (Qc (cA (Qb 4) (ZS) (Zw (Qb 7))) (Qc (Qb 6) (Qc (Qb 1) (Qk)))))))) (Qr (QD 9 (ZD (Qc (Qb 2) (Qc (cA (Qb 3) (Zw (Qb 7)) (ZS)) (Qc (cA (Qb 4) (Zw (Qb 7)) (ZS)) (Qc (Qi bR (Qb 0) (eC (.int 3))) (Qc (Qi bR (Qb 0) (eC (.int 4))) (Qk)))))))) (QR (ZD (Qc (Qb 8) (Qc (Qb 9) (Qc (Qb 6) (Qk)))))))))))))
def yv:List DV->M DV:=Q3 10 Qen
abbrev v0:Stmt:=top 59
def Qdf:aB:=QR (Qi fJ (QL XX (Qc (Qi bR (Qb 0) (eC (.int 1))) (Qk))) (Qb 1))
def YH:List DV->M DV:=Q3 2 Qdf
abbrev xO:Stmt:=Zc (top 62) 12
def GV:aB:=Qr (aJ (Z2 (eB (QB 2 YH (Qc (Qb 2) (Qc (QM "Shelf" "room" 1 ZY (QT "Walk" "shelf" (Qb 0)) Qk) (Qk)))))) (Qr (Zd (QM "Shelf" "write" 3 Jj (QT "Walk" "shelf" (Qb 0)) (Qc (Qb 1) (Qc (Qb 2) (Qk))))) (Qr (Q9 "Walk" "ended" (Qb 0) (eC (.bl true))) (QR (eC .non)))) (Q7)) (Qr (QD 3 (QB 2 yv (Qc (Qb 2) (Qc (QM "Shelf" "pages" 1 J9 (QT "Walk" "shelf" (Qb 0)) Qk) (Qk))))) (Qr (Q9 "Walk" "new_page" (Qb 0) (QM "Shelf" "lay" 2 Yh (QT "Walk" "shelf" (Qb 0)) (Qc (Qi aF (Qb 3) (eC (.int 1))) (Qk)))) (Qr (Zd (QM "Shelf" "write" 3 Jj (QT "Walk" "shelf" (Qb 0)) (Qc (Qb 1) (Qc (Qi aF (Qb 3) (eC (.int 0))) (Qk))))) (Qr (Q9 "Walk" "aim" (Qb 0) (Qi aF (Qb 3) (eC (.int 2)))) (Qr (Q9 "Walk" "goal" (Qb 0) (Qi Zf (Qi aF (Qb 2) (eC (.int 0))) (eC (.int 1)))) (Qr (Q9 "Walk" "place" (Qb 0) (Zo "dict" Yx (QT "Walk" "forks" (Qb 0)) (Qc (QT "Walk" "goal" (Qb 0)) (Qk)))) (QR (QT "Walk" "new_page" (Qb 0)))))))))
def qA:List DV->M DV:=Q3 4 GV
abbrev Gf:Stmt:=top 21
def Qbb:aB:=QR (ZD (Qc (Qi bR (Qb 0) (eC (.int 0))) (Qc (Qb 1) (Qc (Qb 2) (Qc (Qi bR (Qb 0) (eC (.int 3))) (Qc (Qi bR (Qb 0) (eC (.int 4))) (Qk)))))))
def x5:List DV->M DV:=Q3 3 Qbb
abbrev qy:Stmt:=top 23
def xh:aD:=Z9 false (dh (i_ (Qb 0))) [1] (eB (Qi dI (Qb 0) (Qb 1))) (Qb 0)
def yC:aB:=QR (QL Zp (Qc (xh) (Qk)))
def Je:List DV->M DV:=Q3 2 yC
abbrev xR:Stmt:=top 22
def Uh:aD:=Z9 false (dh (i_ (Qb 0))) [1] (eB (Qi cD (Qb 0) (Qb 1))) (Qb 0)
def GY:aB:=QR (QL Zp (Qc (Uh) (Qk)))
def Yd:List DV->M DV:=Q3 2 GY
abbrev Gj:Stmt:=top 20
def Qbf:aB:=Qr (QD 4 (Qi bR (Qb 0) (eC (.int 1)))) (Qr (QD 5 (Qi bR (Qb 0) (eC (.int 2)))) (Qr (QD 6 (QB 2 Yd (Qc (Qb 4) (Qc (Qb 1) (Qk))))) (Qr (QD 7 (QB 2 Je (Qc (Qb 4) (Qc (Qb 1) (Qk))))) (QR (QB 3 x5 (Qc (Qb 0) (Qc (Qi Zf (Qi Zf (cA (Qb 4) (ZS) (Zw (Qb 6))) (Qb 2)) (cA (Qb 4) (Zw (Qb 7)) (ZS))) (Qc (Qi Zf (Qi Zf (cA (Qb 5) (ZS) (Zw (Qb 6))) (Qb 3)) (cA (Qb 5) (Zw (Qb 7)) (ZS))) (Qk)))))))))
def x6:List DV->M DV:=Q3 8 Qbf
abbrev Uf:Stmt:=top 17
def kK:aB:=QR (QB 4 x6 (Qc (Qb 0) (Qc (Qb 1) (Qc (ZD (Qc (Qb 1) (Qk))) (Qc (ZD (Qc (Qb 2) (Qk))) (Qk))))))
def jn:List DV->M DV:=Q3 3 kK
abbrev Gk:Stmt:=top 16
def Qbg:aB:=Qr (QD 2 (Qi bR (Qb 0) (eC (.int 1)))) (Qr (QD 3 (QB 2 Yd (Qc (Qb 2) (Qc (Qb 1) (Qk))))) (Qr (aJ (eB (Qi cG (Qb 3) (QB 2 Je (Qc (Qb 2) (Qc (Qb 1) (Qk)))))) (QR (eC .non)) (Q7)) (QR (Qi bR (Qi bR (Qb 0) (eC (.int 2))) (Qb 3)))))
def X4:List DV->M DV:=Q3 4 Qbg
abbrev ja:Stmt:=Zc (top 62) 7
def Ur:aB:=Qr (Q9 "Walk" "worth" (Qb 0) (QB 2 X4 (Qc (Qb 2) (Qc (QT "Walk" "aim" (Qb 0)) (Qk))))) (Qr (QD 3 (QM "Walk" "settle" 3 qA (Qb 0) (Qc (Qb 1) (Qc (QB 3 jn (Qc (Qb 2) (Qc (QT "Walk" "aim" (Qb 0)) (Qc (Qi aF (QT "Walk" "deed" (Qb 0)) (eC (.int 2))) (Qk))))) (Qk))))) (QR (ZD (Qc (eC (.str "put")) (Qc (Qb 1) (Qc (QT "Walk" "worth" (Qb 0)) (Qc (Qb 3) (Qk))))))))
def Yp:List DV->M DV:=Q3 4 Ur
abbrev qw:Stmt:=Zc (top 62) 6
def yA:aB:=Qr (Q9 "Walk" "worth" (Qb 0) (QB 2 X4 (Qc (Qb 2) (Qc (QT "Walk" "aim" (Qb 0)) (Qk))))) (Qr (Q9 "Walk" "ended" (Qb 0) (eC (.bl true))) (QR (ZD (Qc (eC (.str "found")) (Qc (Qb 1) (Qc (QT "Walk" "worth" (Qb 0)) (Qk)))))))
def XE:List DV->M DV:=Q3 3 yA
abbrev jI:Stmt:=Zc (top 62) 5
def Ka:aB:=Qr (QD 3 (Qi aF (QT "Walk" "deed" (Qb 0)) (eC (.int 0)))) (Qr (aJ (eB (Qi bK (Qb 3) (eC (.str "find")))) (QR (QM "Walk" "find_worth" 3 XE (Qb 0) (Qc (Qb 1) (Qc (Qb 2) (Qk))))) (Q7)) (Qr (aJ (eB (Qi bK (Qb 3) (eC (.str "put")))) (QR (QM "Walk" "put_pair" 3 Yp (Qb 0) (Qc (Qb 1) (Qc (Qb 2) (Qk))))) (Q7)) (Qr (aJ (eB (Qi bK (Qb 3) (eC (.str "cut")))) (Xj) (Q7)) (Xj))))
def YJ:List DV->M DV:=Q3 4 Ka
abbrev Rj:Stmt:=top 14
def Qej:aB:=Qr (QD 2 (Qi bR (Qb 0) (eC (.int 3)))) (QR (XZ (Qi vi (Qb 2) (eC .non)) (Qi lJ (Qb 1) (Qb 2))))
def U3:List DV->M DV:=Q3 3 Qej
abbrev Va:Stmt:=Zc (top 39) 1
def yx:aB:=Qr (Zd (QM "Shelf" "check_number" 2 Zs (Qb 0) (Qc (Qb 1) (Qk)))) (Qr (Yy "Shelf" "read_count" qC (Qb 0) (eC (.int 1))) (QR (Qi aF (QT "Shelf" "kept" (Qb 0)) (Qb 1))))
def XD:List DV->M DV:=Q3 2 yx
abbrev V9:Stmt:=Zc (top 62) 3
def kF:aB:=Qr (aJ (eB (QT "Walk" "ended" (Qb 0))) (Xj) (Q7)) (Qr (QD 1 (b_ (eB (Qi isD (QT "Walk" "place" (Qb 0)) (eC .non))) (QM "Shelf" "root" 1 Jv (QT "Walk" "shelf" (Qb 0)) Qk) (QT "Walk" "place" (Qb 0)))) (Qr (QD 2 (QM "Shelf" "read" 2 XD (QT "Walk" "shelf" (Qb 0)) (Qc (Qb 1) (Qk)))) (Qr (aJ (XC (eB (Qi isD (QT "Walk" "place" (Qb 0)) (eC .non))) (eB (Qi cD (Qi aF (Qb 2) (eC (.int 0))) (QT "Walk" "goal" (Qb 0))))) (Xj) (Q7)) (Qr (aJ (eB (QB 2 U3 (Qc (Qb 2) (Qc (QT "Walk" "aim" (Qb 0)) (Qk))))) (Xj) (Q7)) (Qr (aJ (eB (Qi fJ (Qi aF (Qb 2) (eC (.int 0))) (QT "Walk" "goal" (Qb 0)))) (Qr (Xj) (Xj)) (Q7)) (Qr (aJ (eB (Qi fJ (QT "Walk" "goal" (Qb 0)) (eC (.int 0)))) (Xj) (Q7)) (QR (QM "Walk" "do_deed" 3 YJ (Qb 0) (Qc (Qb 1) (Qc (Qb 2) (Qk)))))))))))
def Y7:List DV->M DV:=Q3 3 kF
abbrev YZ:Stmt:=Zc (top 64) 4
def x8:aB:=Qr (QD 2 (Qi aF (QT "Weaver" "held" (Qb 0)) (Qb 1))) (Qr (QD 3 (Qi aF (Qb 2) (eC (.int 1)))) (Qr (QD 4 (QM "Walk" "step" 1 Y7 (Qb 3) Qk)) (Qr (aJ (eB (QM "Walk" "over" 1 Yi (Qb 3) Qk)) (Qr (YY (eC .non) (cU (QT "Weaver" "held" (Qb 0)) (Qb 1))) (Zd (Zo "list" Zh (QT "Weaver" "done" (Qb 0)) (Qc (Qb 2) (Qk))))) (Q7)) (QR (Qi Zf (ZD (Qc (Qi aF (Qb 4) (eC (.int 0))) (Qc (Qb 1) (Qc (Qi aF (Qb 2) (eC (.int 0))) (Qk))))) (cA (Qb 4) (Zw (eC (.int 1))) (ZS)))))))
def Xq:List DV->M DV:=Q3 5 x8
abbrev xQ:Stmt:=Zc (top 64) 2
def GX:aB:=Qr (aJ (Z2 (eB (JS dI cD (eC (.int 0)) (Qb 1) (QL Zp (Qc (QT "Weaver" "held" (Qb 0)) (Qk)))))) (Xj) (Q7)) (Qr (aJ (eB (Qi vi (Qi aF (QT "Weaver" "held" (Qb 0)) (Qb 1)) (eC .non))) (QR (QM "Weaver" "step_walk" 2 Xq (Qb 0) (Qc (Qb 1) (Qk)))) (Q7)) (Qr (aJ (eB (Qi cD (QT "Weaver" "taken" (Qb 0)) (QL Zp (Qc (QT "Weaver" "deeds" (Qb 0)) (Qk))))) (QR (QM "Weaver" "take_deed" 2 Jw (Qb 0) (Qc (Qb 1) (Qk)))) (Q7)) (QR (ZD (Qc (eC (.str "rest")) (Qc (Qb 1) (Qk)))))))
def ZL:List DV->M DV:=Q3 2 GX
def Ye:List DV->Hs->Option (Str×Hs):=VM 2 (dY (Z2 (eB (JS dI cD (eC (.int 0)) (Qb 1) (QL Zp (Qc (QT "Weaver" "held" (Qb 0)) (Qk)))))) (qG "NoHand") (fK))
abbrev jb:Stmt:=Zc (top 64) 5
def qo:aB:=Qr (Zd (Zo "list" Zh (Qb 1) (Qc (QM "Weaver" "move" 2 ZL (Qb 0) (Qc (Qb 2) (Qk))) (Qk)))) (QD 2 (Qi Xg (Qi Zf (Qb 2) (eC (.int 1))) (QL Zp (Qc (QT "Weaver" "held" (Qb 0)) (Qk)))))
def Y9:aB:=Xx (Z2 (eB (QM "Weaver" "idle" 1 Zx (Qb 0) Qk))) (qo) 100000
def Us:aB:=Qr (QD 1 (Z8 (Qk))) (Qr (QD 2 (eC (.int 0))) (Qr (Y9) (QR (Qb 1))))
def Jb:List DV->M DV:=Q3 3 Us
abbrev vZ:Stmt:=top 51
def Qde:aB:=QR (Ib [("find", 1),("put", 2),("cut", 1),("stretch", 2)] (Qi bR (Qb 0) (eC (.int 0))))
def Jo:List DV->M DV:=Q3 1 Qde
abbrev zd:Stmt:=Zc (top 64) 1
def Vu:aB:=Qr (Zd (Zo "list" Zh (QT "Weaver" "deeds" (Qb 0)) (Qc (Qb 1) (Qk)))) (QR (Qi VU (QL Zp (Qc (QT "Weaver" "deeds" (Qb 0)) (Qk))) (eC (.int 1))))
def J3:List DV->M DV:=Q3 2 Vu
abbrev qZ:Stmt:=Zc (top 66) 2
def Vs:aB:=Qr (QD 2 (QM "Weaver" "hand_in" 2 J3 (QT "Desk" "weaver" (Qb 0)) (Qc (Qb 1) (Qk)))) (Qr (Q9 "Desk" "deed_count" (Qb 0) (Qi Zf (Qb 2) (eC (.int 1)))) (QR (Qb 2)))
def Q8:List DV->M DV:=Q3 3 Vs
abbrev xX:Stmt:=top 55
def Ui:aD:=X0 (j_ (Qb 2)) [] (Yb) (Qi iZ (Qb 0) (eC (.str "0123456789")))
def Uj:aD:=X0 (j_ (Qb 2)) [] (Yb) (Qi iZ (Qb 0) (eC (.str "0123456789")))
def Uk:aD:=X0 (j_ (Qb 2)) [] (Yb) (Qi iZ (Qb 0) (eC (.str "0123456789")))
def G4:aB:=Qr (QD 2 (b_ (eB (Zo "str" Yg (Qb 0) (Qc (eC (.str "-")) (Qk)))) (pQ (Qb 0) (Zw (eC (.int 1))) (ZS)) (Qb 0))) (Qr (aJ (cJ (Z2 (eB (JS cD dI (eC (.int 0)) (QL lQ (Qc (Qb 2) (Qk))) (Qb 1)))) (Z2 (eB (QL GT (Qc (Ui) (Qk)))))) (Xj) (Q7)) (Qr (aJ (XC (eB (Zo "str" Yg (Qb 2) (Qc (eC (.str "0")) (Qk)))) (eB (Qi lZ (Qb 0) (eC (.str "0"))))) (Xj) (Q7)) (QR (QL BX (Qc (Qb 0) (Qk))))))
def JP:List DV->M DV:=Q3 3 G4
def Xc:List DV->Hs->Option (Str×Hs):=VM 3 (Xu (QD 2 (b_ (eB (Zo "str" Yg (Qb 0) (Qc (eC (.str "-")) (Qk)))) (pQ (Qb 0) (Zw (eC (.int 1))) (ZS)) (Qb 0))) (dM (dY (cJ (Z2 (eB (JS cD dI (eC (.int 0)) (QL lQ (Qc (Qb 2) (Qk))) (Qb 1)))) (Z2 (eB (QL GT (Qc (Uj) (Qk)))))) (qG "NoRow") (fK)) (Xu (aJ (cJ (Z2 (eB (JS cD dI (eC (.int 0)) (QL lQ (Qc (Qb 2) (Qk))) (Qb 1)))) (Z2 (eB (QL GT (Qc (Uk) (Qk)))))) (Xj) (Q7)) (dY (XC (eB (Zo "str" Yg (Qb 2) (Qc (eC (.str "0")) (Qk)))) (eB (Qi lZ (Qb 0) (eC (.str "0"))))) (qG "NoRow") (fK)))))
abbrev Vi:Stmt:=top 54
def uT:aB:=Qr (QD 1 (QB 2 JP (Qc (Qb 0) (Qc (eC (.int 3)) (Qk))))) (Qr (aJ (eB (Qi cD (Qb 1) (eC (.int 0)))) (Xj) (Q7)) (QR (Qb 1)))
def Jf:List DV->M DV:=Q3 2 uT
def YA:List DV->Hs->Option (Str×Hs):=VM 2 (dM (YQ 2 Xc (Qc (Qb 0) (Qc (eC (.int 3)) (Qk)))) (Xu (QD 1 (QB 2 JP (Qc (Qb 0) (Qc (eC (.int 3)) (Qk))))) (dY (eB (Qi cD (Qb 1) (eC (.int 0)))) (qG "NoRow") (fK))))
abbrev Gd:Stmt:=top 53
def Qa9:aB:=Qr (QD 1 (QB 2 JP (Qc (Qb 0) (Qc (eC (.int 31)) (Qk))))) (Qr (aJ (eB (Qi fJ (QL pO (Qc (Qb 1) (Qk))) (Qi mW (eC (.int 10)) (eC (.int 30))))) (Xj) (Q7)) (QR (Qb 1)))
def Jk:List DV->M DV:=Q3 2 Qa9
def X7:List DV->Hs->Option (Str×Hs):=VM 2 (dM (YQ 2 Xc (Qc (Qb 0) (Qc (eC (.int 31)) (Qk)))) (Xu (QD 1 (QB 2 JP (Qc (Qb 0) (Qc (eC (.int 31)) (Qk))))) (dY (eB (Qi fJ (QL pO (Qc (Qb 1) (Qk))) (Qi mW (eC (.int 10)) (eC (.int 30))))) (qG "NoRow") (fK))))
abbrev Ue:Stmt:=top 52
def GQ:aD:=X0 (jf (Qb 1)) [] (Yb) (QB 1 Jk (Qc (Qb 0) (Qk)))
def GR:aD:=X0 (jf (Qb 1)) [] (Yb) (QB 1 Jk (Qc (Qb 0) (Qk)))
def kJ:aB:=Qr (QD 2 (Qi Zf (ZD (Qc (Qb 0) (Qk))) (QL kn (Qc (GQ) (Qk))))) (Qr (aJ (XC (eB (Qi cG (Qb 0) (eC (.str "stretch")))) (eB (Qi lJ (Qi bR (Qb 2) (eC (.int 1))) (Qi bR (Qb 2) (eC (.int 2)))))) (Xj) (Q7)) (QR (Qb 2)))
def Yj:List DV->M DV:=Q3 3 kJ
def Xz:List DV->Hs->Option (Str×Hs):=VM 3 (dM (yM (ZD (Qc (Qb 0) (Qk))) (xE (jf (Qb 1)) [] (QB 1 Jk (Qc (Qb 0) (Qk))) (YQ 1 X7 (Qc (Qb 0) (Qk))))) (Xu (QD 2 (Qi Zf (ZD (Qc (Qb 0) (Qk))) (QL kn (Qc (GR) (Qk))))) (dY (XC (eB (Qi cG (Qb 0) (eC (.str "stretch")))) (eB (Qi lJ (Qi bR (Qb 2) (eC (.int 1))) (Qi bR (Qb 2) (eC (.int 2)))))) (qG "NoRow") (fK))))
abbrev Ge:Stmt:=top 50
def zj:aD:=X0 (jf (Qb 3)) [] (Yb) (QB 1 Jf (Qc (Qb 0) (Qk)))
def Yz:aD:=X0 (jf (Qb 3)) [] (Yb) (QB 1 Jf (Qc (Qb 0) (Qk)))
def Qba:aB:=Qr (QD 1 (Zo "str" VD (Qb 0) (Qc (eC (.str " ")) (Qk)))) (Qr (QD 2 (Qi bR (Qb 1) (eC (.int 0)))) (Qr (QD 3 (cA (Qb 1) (Zw (eC (.int 1))) (ZS))) (Qr (aJ (eB (Qi cG (zP [("find", 1),("put", 2),("cut", 1),("stretch", 2)] (Qb 2)) (QL XX (Qc (Qb 3) (Qk))))) (QR (QB 2 Yj (Qc (Qb 2) (Qc (Qb 3) (Qk))))) (Q7)) (Qr (aJ (eB (Qi cG (zP [("move", 1),("finish", 0),("answer", 1),("table", 0),("sound", 0),("pack", 0)] (Qb 2)) (QL XX (Qc (Qb 3) (Qk))))) (QR (Qi Zf (ZD (Qc (Qb 2) (Qk))) (QL kn (Qc (zj) (Qk))))) (Q7)) (Xj)))))
def Zm:List DV->M DV:=Q3 4 Qba
def Z3:List DV->Hs->Option (Str×Hs):=VM 4 (Xu (QD 1 (Zo "str" VD (Qb 0) (Qc (eC (.str " ")) (Qk)))) (Xu (QD 2 (Qi bR (Qb 1) (eC (.int 0)))) (Xu (QD 3 (cA (Qb 1) (Zw (eC (.int 1))) (ZS))) (dM (dY (eB (Qi cG (zP [("find", 1),("put", 2),("cut", 1),("stretch", 2)] (Qb 2)) (QL XX (Qc (Qb 3) (Qk))))) (YQ 2 Xz (Qc (Qb 2) (Qc (Qb 3) (Qk)))) (fK)) (Xu (aJ (eB (Qi cG (zP [("find", 1),("put", 2),("cut", 1),("stretch", 2)] (Qb 2)) (QL XX (Qc (Qb 3) (Qk))))) (QR (QB 2 Yj (Qc (Qb 2) (Qc (Qb 3) (Qk))))) (Q7)) (dM (dY (eB (Qi cG (zP [("move", 1),("finish", 0),("answer", 1),("table", 0),("sound", 0),("pack", 0)] (Qb 2)) (QL XX (Qc (Qb 3) (Qk))))) (yM (ZD (Qc (Qb 2) (Qk))) (xE (jf (Qb 3)) [] (QB 1 Jf (Qc (Qb 0) (Qk))) (YQ 1 YA (Qc (Qb 0) (Qk))))) (fK)) (Xu (aJ (eB (Qi cG (zP [("move", 1),("finish", 0),("answer", 1),("table", 0),("sound", 0),("pack", 0)] (Qb 2)) (QL XX (Qc (Qb 3) (Qk))))) (QR (Qi Zf (ZD (Qc (Qb 2) (Qk))) (QL kn (Qc (Yz) (Qk))))) (Q7)) (qG "NoRow"))))))))
abbrev Ga:Stmt:=Zc (top 66) 1
def uC:aD:=Z9 true (cT (QM "Weaver" "move" 2 ZL (QT "Desk" "weaver" (Qb 0)) (Qc (Qi aF (Qb 2) (eC (.int 1))) (Qk)))) [] (Yb) (QB 1 XF (Qc (Qb 0) (Qk)))
def uD:aD:=Z9 true (cT (QM "Weaver" "move" 2 ZL (QT "Desk" "weaver" (Qb 0)) (Qc (Qi aF (Qb 2) (eC (.int 1))) (Qk)))) [] (Yb) (QB 1 XF (Qc (Qb 0) (Qk)))
def Qa6:aB:=Qr (QD 2 (QB 1 Zm (Qc (Qb 1) (Qk)))) (Qr (QD 3 (Qi aF (Qb 2) (eC (.int 0)))) (Qr (aJ (eB (QB 1 Jo (Qc (Qb 2) (Qk)))) (QR (QL JY (Qc (QM "Desk" "note_deed" 2 Q8 (Qb 0) (Qc (Qb 2) (Qk))) (Qk)))) (Q7)) (Qr (aJ (eB (Qi bK (Qb 3) (eC (.str "move")))) (QR (Zo "str" pW (eC (.str " ")) (Qc (uC) (Qk)))) (Q7)) (Qr (aJ (eB (Qi bK (Qb 3) (eC (.str "finish")))) (QR (QL JY (Qc (QL Zp (Qc (QM "Weaver" "finish" 1 Jb (QT "Desk" "weaver" (Qb 0)) Qk) (Qk))) (Qk)))) (Q7)) (Qr (aJ (eB (Qi bK (Qb 3) (eC (.str "answer")))) (QR (QB 1 XF (Qc (QM "Desk" "answer_of" 2 Jm (Qb 0) (Qc (Qi aF (Qb 2) (eC (.int 1))) (Qk))) (Qk)))) (Q7)) (Qr (aJ (eB (Qi bK (Qb 3) (eC (.str "table")))) (QR (QB 1 XF (Qc (QB 1 Xr (Qc (QT "Desk" "shelf" (Qb 0)) (Qk))) (Qk)))) (Q7)) (Qr (aJ (eB (Qi bK (Qb 3) (eC (.str "sound")))) (QR (b_ (eB (QB 1 YK (Qc (QT "Desk" "shelf" (Qb 0)) (Qk)))) (eC (.str "yes")) (eC (.str "no")))) (Q7)) (QR (QL JY (Qc (QM "Desk" "pack_table" 1 JT (Qb 0) Qk) (Qk)))))))))))
def Q2:List DV->M DV:=Q3 4 Qa6
def Zq:List DV->Hs->Option (Str×Hs):=VM 4 (dM (YQ 1 Z3 (Qc (Qb 1) (Qk))) (Xu (QD 2 (QB 1 Zm (Qc (Qb 1) (Qk)))) (Xu (QD 3 (Qi aF (Qb 2) (eC (.int 0)))) (Xu (aJ (eB (QB 1 Jo (Qc (Qb 2) (Qk)))) (QR (QL JY (Qc (QM "Desk" "note_deed" 2 Q8 (Qb 0) (Qc (Qb 2) (Qk))) (Qk)))) (Q7)) (dM (dY (eB (Qi bK (Qb 3) (eC (.str "move")))) ((λenv=>dX ((eC (.str " ")) env) λx=>dX (Xf "str" x) λ_=>(X1 "Weaver" "move" 2 Ye (QT "Desk" "weaver" (Qb 0)) (Qc (Qi aF (Qb 2) (eC (.int 1))) (Qk))) env)) (fK)) (Xu (aJ (eB (Qi bK (Qb 3) (eC (.str "move")))) (QR (Zo "str" pW (eC (.str " ")) (Qc (uD) (Qk)))) (Q7)) (Xu (aJ (eB (Qi bK (Qb 3) (eC (.str "finish")))) (QR (QL JY (Qc (QL Zp (Qc (QM "Weaver" "finish" 1 Jb (QT "Desk" "weaver" (Qb 0)) Qk) (Qk))) (Qk)))) (Q7)) (dM (dY (eB (Qi bK (Qb 3) (eC (.str "answer")))) (X1 "Desk" "answer_of" 2 X6 (Qb 0) (Qc (Qi aF (Qb 2) (eC (.int 1))) (Qk))) (fK)) (Xu (aJ (eB (Qi bK (Qb 3) (eC (.str "answer")))) (QR (QB 1 XF (Qc (QM "Desk" "answer_of" 2 Jm (Qb 0) (Qc (Qi aF (Qb 2) (eC (.int 1))) (Qk))) (Qk)))) (Q7)) (Xu (aJ (eB (Qi bK (Qb 3) (eC (.str "table")))) (QR (QB 1 XF (Qc (QB 1 Xr (Qc (QT "Desk" "shelf" (Qb 0)) (Qk))) (Qk)))) (Q7)) (Xu (aJ (eB (Qi bK (Qb 3) (eC (.str "sound")))) (QR (b_ (eB (QB 1 YK (Qc (QT "Desk" "shelf" (Qb 0)) (Qk)))) (eC (.str "yes")) (eC (.str "no")))) (Q7)) (X1 "Desk" "pack_table" 1 XG (Qb 0) Qk))))))))))))
abbrev xT:Stmt:=top 74
def GZ:aB:=Qr (QD 3 (Ja (Qk))) (Qr (QD 4 (eC (.bl false))) (Qr (h_ (qX (X1 "Desk" "say" 2 Zq (Qb 0) (Qc (Qb 1) (Qk))) "NoRow" true false false false 5 3 4) (h_ (qX (X1 "Desk" "say" 2 Zq (Qb 0) (Qc (Qb 1) (Qk))) "NoHand" false true false false 5 3 4) (h_ (qX (X1 "Desk" "say" 2 Zq (Qb 0) (Qc (Qb 1) (Qk))) "NoDeed" false false true false 5 3 4) (qX (X1 "Desk" "say" 2 Zq (Qb 0) (Qc (Qb 1) (Qk))) "Busy" false false false true 5 3 4)))) (QR (XZ (Qb 4) (Qi bK (Qb 3) (Ja (Qc (Qi bK (Qb 2) (eC (.str "NoRow"))) (Qc (Qi bK (Qb 2) (eC (.str "NoHand"))) (Qc (Qi bK (Qb 2) (eC (.str "NoDeed"))) (Qc (Qi bK (Qb 2) (eC (.str "Busy"))) (Qk)))))))))))
def JN:List DV->M DV:=Q3 6 GZ
abbrev v7:Stmt:=top 72
def Qdg:aB:=Qr (QD 1 (QL JY (Qc (Qi Zf (Qi Xg (Qi Y5 (Qb 0) (eC (.int 43))) (eC (.int 900))) (eC (.int 1))) (Qk)))) (Qr (QD 2 (Ja (Qc (eC (.str "")) (Qc (eC (.str " ")) (Qc (eC (.str "find")) (Qc (eC (.str "put")) (Qc (eC (.str "cut")) (Qc (eC (.str "stretch")) (Qc (eC (.str "move")) (Qc (eC (.str "answer")) (Qc (eC (.str "find ")) (Qc (Qi Q1 (eC (.str "find  ")) (Qb 1)) (Qc (Qi Q1 (eC (.str " find ")) (Qb 1)) (Qk)))))))))))))) (Qr (QD 2 (Qi Zf (Qb 2) (Ja (Qc (Qi Q1 (Qi Q1 (eC (.str "find ")) (Qb 1)) (eC (.str " "))) (Qc (Qi Q1 (Qi Q1 (eC (.str "find ")) (Qb 1)) (eC (.str " 1"))) (Qc (Qi Q1 (eC (.str "put ")) (Qb 1)) (Qc (Qi Q1 (Qi Q1 (eC (.str "put ")) (Qb 1)) (eC (.str " 1 2"))) (Qc (Qi Q1 (Qi Q1 (eC (.str "cut ")) (Qb 1)) (eC (.str " 1"))) (Qk))))))))) (Qr (QD 2 (Qi Zf (Qb 2) (Ja (Qc (Qi Q1 (eC (.str "stretch ")) (Qb 1)) (Qc (Qi Q1 (Qi Q1 (Qi Q1 (eC (.str "stretch ")) (Qb 1)) (eC (.str " "))) (Qb 1)) (Qc (Qi Q1 (Qi Q1 (eC (.str "stretch ")) (Qb 1)) (eC (.str " 0"))) (Qk))))))) (Qr (QD 2 (Qi Zf (Qb 2) (Ja (Qc (Qi Q1 (eC (.str "Find ")) (Qb 1)) (Qc (Qi Q1 (eC (.str "find 0")) (Qb 1)) (Qk)))))) (Qr (QD 3 (Qi Q1 (Qi Q1 (eC (.str "1")) (Qi sI (eC (.str "0")) (eC (.int 29)))) (eC (.str "1")))) (Qr (QD 2 (Qi Zf (Qb 2) (Ja (Qc (Qi Q1 (eC (.str "find +")) (Qb 1)) (Qc (eC (.str "find -0")) (Qc (Qi Q1 (Qi Q1 (eC (.str "find ")) (Qb 1)) (eC (.str "a"))) (Qc (Qi Q1 (eC (.str "find ")) (Qb 3)) (Qc (Qi Q1 (eC (.str "cut -")) (Qb 3)) (Qk))))))))) (Qr (QD 2 (Qi Zf (Qb 2) (Ja (Qc (eC (.str "move -1")) (Qc (eC (.str "move 0001")) (Qc (eC (.str "move 1 2")) (Qc (eC (.str "answer -1")) (Qc (eC (.str "answer 01")) (Qc (eC (.str "answer 1000")) (Qc (eC (.str "finish 1")) (Qc (eC (.str "finish ")) (Qk)))))))))))) (Qr (QD 2 (Qi Zf (Qb 2) (Ja (Qc (eC (.str "table 1")) (Qc (eC (.str "sounds")) (Qc (eC (.str "pack 1")) (Qc (eC (.str "put - 1")) (Qc (Qi Q1 (Qi Q1 (eC (.str "put ")) (Qb 1)) (eC (.str " --1"))) (Qc (eC (.str "find 1_0")) (Qk)))))))))) (Qr (QD 2 (Qi Zf (Qb 2) (Ja (Qc (Qi Q1 (Qi Q1 (Qi Q1 (eC (.str "put ")) (Qb 1)) (eC (.str " "))) (Qb 3)) (Qc (Qi Q1 (Qi Q1 (Qi Q1 (eC (.str "put ")) (Qb 1)) (eC (.str " -"))) (Qb 3)) (Qc (Qi Q1 (Qi Q1 (Qi Q1 (eC (.str "stretch ")) (Qb 1)) (eC (.str " "))) (Qb 3)) (Qk))))))) (QR (Qi bR (Qb 2) (Qi Xg (Qb 0) (eC (.int 43))))))))))))))
def Vp:List DV->M DV:=Q3 4 Qdg
abbrev Gc:Stmt:=top 73
def Qa8:aB:=Qr (aJ (eB (Qi cD (Qi Xg (Qb 0) (eC (.int 4))) (eC (.int 2)))) (QR (ZD (Qc (QB 1 Vp (Qc (Qi Y5 (Qb 0) (eC (.int 4))) (Qk))) (Qc (eC (.str "NoRow")) (Qk))))) (Q7)) (Qr (aJ (eB (Qi cG (Qi Xg (Qb 0) (eC (.int 4))) (eC (.int 2)))) (QR (ZD (Qc (Qi Q1 (eC (.str "move ")) (QL JY (Qc (Qi Zf (Qb 1) (Qi Xg (Qi Y5 (Qb 0) (eC (.int 4))) (Qi VU (eC (.int 1000)) (Qb 1)))) (Qk)))) (Qc (eC (.str "NoHand")) (Qk))))) (Q7)) (Qr (aJ (eB (Qi cG (Qi Xg (Qi Y5 (Qb 0) (eC (.int 4))) (eC (.int 3))) (eC (.int 0)))) (QR (ZD (Qc (eC (.str "pack")) (Qc (eC (.str "Busy")) (Qk))))) (Q7)) (QR (ZD (Qc (Qi Q1 (eC (.str "answer ")) (QL JY (Qc (Qi Zf (eC (.int 3)) (Qi Xg (Qi Y5 (Qb 0) (eC (.int 12))) (eC (.int 997)))) (Qk)))) (Qc (eC (.str "NoDeed")) (Qk)))))))
def x4:List DV->M DV:=Q3 2 Qa8
abbrev qx:Stmt:=Zc (top 64) 0
def yB:aB:=Qr (Q9 "Weaver" "shelf" (Qb 0) (Qb 1)) (Qr (Q9 "Weaver" "deeds" (Qb 0) (Z8 (Qk))) (Qr (Q9 "Weaver" "taken" (Qb 0) (eC (.int 0))) (Qr (Q9 "Weaver" "held" (Qb 0) (Qi pK (Ja (Qc (eC .non) (Qk))) (Qb 2))) (Q9 "Weaver" "done" (Qb 0) (Z8 (Qk))))))
def Jd:List DV->M DV:=Q3 3 yB
abbrev zX:Stmt:=Zc (top 66) 0
def Uo:aB:=Qr (Q9 "Desk" "shelf" (Qb 0) (Js "Shelf" 2 ZI (Qc (Qb 1) (Qk)))) (Qr (Q9 "Desk" "weaver" (Qb 0) (Js "Weaver" 3 Jd (Qc (QT "Desk" "shelf" (Qb 0)) (Qc (Qb 2) (Qk))))) (Q9 "Desk" "deed_count" (Qb 0) (eC (.int 0))))
def Xl:List DV->M DV:=Q3 3 Uo
abbrev Ud:Stmt:=top 75
def kI:aB:=Qr (QD 3 (Js "Desk" 3 Xl (Qc (Qb 0) (Qc (Qb 1) (Qk))))) (Qr (Zd (QM "Desk" "say" 2 Q2 (Qb 3) (Qc (Qi Q1 (Qi Q1 (eC (.str "put ")) (QL JY (Qc (Qi Xg (Qb 2) (eC (.int 100))) (Qk)))) (eC (.str " 7"))) (Qk)))) (Qr (Zd (QM "Desk" "say" 2 Q2 (Qb 3) (Qc (Qi Q1 (Qi Q1 (eC (.str "put ")) (QL JY (Qc (Qi Zf (eC (.int 200)) (Qi Xg (Qb 2) (eC (.int 100)))) (Qk)))) (eC (.str " -8"))) (Qk)))) (Qr (Zd (QM "Desk" "say" 2 Q2 (Qb 3) (Qc (eC (.str "finish")) (Qk)))) (Qr (Zd (QM "Desk" "say" 2 Q2 (Qb 3) (Qc (Qi Q1 (eC (.str "find ")) (QL JY (Qc (Qi Xg (Qb 2) (eC (.int 100))) (Qk)))) (Qk)))) (QR (Qb 3))))))
def Jr:List DV->M DV:=Q3 4 kI
abbrev xS:Stmt:=top 68
def qD:aB:=Qr (aJ (eB (Qi cD (Qb 1) (QL XX (Qc (Qb 0) (Qk))))) (QR (Qi bR (Qb 0) (Qb 1))) (Q7)) (QR (eC (.int 0)))
def JM:List DV->M DV:=Q3 2 qD
abbrev Uc:Stmt:=top 76
def qp:aB:=aJ (eB (Qi eN (QM "Desk" "say" 2 Q2 (Qb 4) (Qc (Qb 6) (Qk))) (QM "Desk" "say" 2 Q2 (Qb 5) (Qc (Qb 6) (Qk))))) (QR (eC (.bl false))) (Q7)
def Ra:aB:=qt (cT (Ja (Qc (eC (.str "table")) (Qc (eC (.str "sound")) (Qc (eC (.str "answer 0")) (Qc (eC (.str "answer 1")) (Qc (eC (.str "answer 2")) (Qc (eC (.str "finish")) (Qc (eC (.str "answer 2")) (Qc (eC (.str "pack")) (Qc (eC (.str "table")) (Qk)))))))))))) (gN 6) (qp)
def Nv:aB:=Qr (YY (QB 2 x4 (Qc (Qb 1) (Qc (Qb 2) (Qk)))) (gT [6,7])) (aJ (cJ (Z2 (eB (QB 3 JN (Qc (Qb 4) (Qc (Qb 6) (Qc (Qb 7) (Qk))))))) (Z2 (eB (QB 3 JN (Qc (Qb 4) (Qc (Qb 6) (Qc (Qb 7) (Qk)))))))) (QR (eC (.bl false))) (Q7))
def Q_:aB:=qt (cT (Qb 0)) (gN 1) (Nv)
def D6:aB:=Qr (QD 1 (QB 2 JM (Qc (Qb 0) (Qc (eC (.int 0)) (Qk))))) (Qr (QD 2 (Qi Zf (eC (.int 1)) (Qi Xg (Qb 1) (eC (.int 8))))) (Qr (QD 3 (Qi Zf (eC (.int 2)) (Qi Xg (Qi Y5 (Qb 1) (eC (.int 8))) (eC (.int 4))))) (Qr (QD 4 (QB 3 Jr (Qc (Qb 3) (Qc (Qb 2) (Qc (Qi Y5 (Qb 1) (eC (.int 32))) (Qk)))))) (Qr (QD 5 (QB 3 Jr (Qc (Qb 3) (Qc (Qb 2) (Qc (Qi Y5 (Qb 1) (eC (.int 32))) (Qk)))))) (Qr (Q_) (Qr (Ra) (QR (Qi bK (QM "Desk" "say" 2 Q2 (Qb 4) (Qc (eC (.str "answer 2")) (Qk))) (eC (.str "7"))))))))))
def kz:List DV->M DV:=Q3 8 D6
structure Al(K:Ae)(mg:Co):Prop where
 z0:mg "len" = none
 z1:mg "list" = none
 z2:mg "zip" = none
 z3:mg "range" = none
 z4:mg "tuple" = none
 z5:mg "all" = none
 z6:mg "str" = none
 z7:mg "isinstance" = none
 z8:mg "dict" = none
 z9:mg "int" = none
 m_:mg "abs" = none
 rG:mg "ValueError" = none
 g0:UG mg "PARTS" 2
 g1:UG mg "SIDE" 4
 g2:UG mg "LEVEL" 0
 g3:UG mg "KEYS" 1
 g4:UG mg "HIGH" 3
 t0:UT K mg "EMPTY_LEAF" (.tup [.int 0,.tup [],.tup [],.non,.non])
 d0:U8 K mg "DEED_WORDS" [("find", 1),("put", 2),("cut", 1),("stretch", 2)]
 d1:U8 K mg "OTHER_WORDS" [("move", 1),("finish", 0),("answer", 1),("table", 0),("sound", 0),("pack", 0)]
 k0:X5 K "Shelf" "kept"
 k1:X5 K "Weaver" "shelf"
 k2:X5 K "Shelf" "page_room"
 k3:X5 K "Shelf" "top"
 k4:X5 K "Shelf" "write_count"
 k5:X5 K "Shelf" "read_count"
 k6:X5 K "Weaver" "taken"
 k7:X5 K "Weaver" "deeds"
 k8:X5 K "Weaver" "held"
 k9:X5 K "Desk" "shelf"
 k10:X5 K "Desk" "weaver"
 k11:X5 K "Walk" "worth"
 k12:X5 K "Walk" "deed"
 k13:X5 K "Walk" "pairs"
 k14:X5 K "Walk" "ended"
 wM:X5 K "Weaver" "done"
 rZ:X5 K "Desk" "deed_count"
 wL:X5 K "Walk" "new_page"
 Fx:X5 K "Walk" "forks"
 oV:X5 K "Walk" "place"
 nM:X5 K "Walk" "goal"
 nJ:X5 K "Walk" "aim"
 lH:X5 K "Walk" "shelf"
 u0:UM K "Shelf" "pages" "Shelf.pages" xL
 u1:UM K "Weaver" "change_shelf" "Weaver.change_shelf" X2
 u2:UM K "Shelf" "room" "Shelf.room" Vb
 u3:UM K "Shelf" "root" "Shelf.root" Vc
 u4:UF K mg "first_kid" Ub
 u5:UF K mg "side_run" Gh
 u6:UF K mg "level_lists" xU
 u7:UM K "Shelf" "picture" "Shelf.picture" zY
 u8:UF K mg "table_of" Gi
 u9:UM K "Shelf" "check_number" "Shelf.check_number" Yn
 T6:UM K "Shelf" "make_root" "Shelf.make_root" qv
 T5:UM K "Shelf" "lay" "Shelf.lay" V7
 T4:UM K "Shelf" "write" "Shelf.write" xM
 TY:UI K mg "Shelf" "Shelf.__init__" q8
 TX:UF K mg "shelf_of" Gg
 TV:UF K mg "linked" Rh
 u16:UF K mg "kid_counts" Vf
 TJ:UF K mg "fork_fills" Vd
 TF:UF K mg "leaf_fills" Vh
 Tz:UF K mg "packed" Rg
 Tw:UM K "Weaver" "idle" "Weaver.idle" xP
 Ez:UM K "Desk" "pack_table" "Desk.pack_table" qu
 Tv:UF K mg "kid_faults" Vg
 Tt:UF K mg "wanted_parts" jJ
 Tr:UF K mg "is_ordered" Ve
 Tq:UF K mg "page_faults" xW
 Tp:UF K mg "begins_of" Ua
 Tn:UF K mg "list_faults" xV
 Tj:UF K mg "faults" Ri
 Ti:UF K mg "is_sound" Gb
 Tg:UF K mg "shown_pairs" xY
 Tf:UF K mg "shown" Om
 u32:UM K "Walk" "answer" "Walk.answer" xN
 Te:UM K "Weaver" "answers" "Weaver.answers" zc
 Ey:UM K "Desk" "answer_of" "Desk.answer_of" qY
 Td:UI K mg "Walk" "Walk.__init__" zZ
 Tc:UM K "Weaver" "take_deed" "Weaver.take_deed" Y0
 S_:UM K "Walk" "over" "Walk.over" V8
 S9:UF K mg "parted" Rf
 S8:UF K mg "is_full" v0
 S7:UM K "Walk" "settle" "Walk.settle" xO
 SX:UF K mg "refilled" Gf
 SQ:UF K mg "count_not_above" qy
 SN:UF K mg "count_below" xR
 SM:UF K mg "with_run" Gj
 SJ:UF K mg "with_pair" Uf
 Sy:UF K mg "worth_of" Gk
 Sx:UM K "Walk" "put_pair" "Walk.put_pair" ja
 Sw:UM K "Walk" "find_worth" "Walk.find_worth" qw
 Sv:UM K "Walk" "do_deed" "Walk.do_deed" jI
 Ss:UF K mg "beyond" Rj
 Sq:UM K "Shelf" "read" "Shelf.read" Va
 Sg:UM K "Walk" "step" "Walk.step" V9
 Sd:UM K "Weaver" "step_walk" "Weaver.step_walk" YZ
 Ew:UM K "Weaver" "move" "Weaver.move" xQ
 R_:UM K "Weaver" "finish" "Weaver.finish" jb
 R9:UF K mg "is_deed" vZ
 R8:UM K "Weaver" "hand_in" "Weaver.hand_in" zd
 R7:UM K "Desk" "note_deed" "Desk.note_deed" qZ
 Eu:UF K mg "read_number" xX
 Et:UF K mg "read_short" Vi
 Es:UF K mg "read_key" Gd
 Er:UF K mg "read_deed" Ue
 Ep:UF K mg "read_row" Ge
 u64:UM K "Desk" "say" "Desk.say" Ga
 R6:UF K mg "_law_refused" xT
 R0:UF K mg "_law_odd" v7
 RZ:UF K mg "_law_case" Gc
 RV:UI K mg "Weaver" "Weaver.__init__" qx
 RT:UI K mg "Desk" "Desk.__init__" zX
 RQ:UF K mg "_law_begun" Ud
 RP:UF K mg "_law_cell_at" xS
 x0:UX K mg "Busy"
 x1:UX K mg "NoDeed"
 x2:UX K mg "NoHand"
 x3:UX K mg "NoRow"
 y0:UZ K mg "Busy" "SideError" "NoRow" "NoHand" "NoDeed" "Busy" "NoPage" false false false true
 y1:UZ K mg "NoDeed" "SideError" "NoRow" "NoHand" "NoDeed" "Busy" "NoPage" false false true false
 y2:UZ K mg "NoHand" "SideError" "NoRow" "NoHand" "NoDeed" "Busy" "NoPage" false true false false
 y3:UZ K mg "NoRow" "SideError" "NoRow" "NoHand" "NoDeed" "Busy" "NoPage" true false false false
def Gn:Qu ["self"] ["self"] (Qp xL):=QW
def zK:Qu ["self", "shelf"] ["self", "shelf"] (Qp X2):=QW
def vp:Qu ["self"] ["self"] (Qp Vb):=QW
def vq:Qu ["self"] ["self"] (Qp Vc):=QW
def kc:Qu ["pages", "numbers"] ["pages", "numbers"] (Qp Ub):=QW
def QaE:Qu ["pages", "leftmost", "listed", "numbers", "number"] ["pages", "leftmost", "listed"] (Qp Gh):=QW
def Gy:Qu ["pages", "root", "lists", "listed", "leftmost", "numbers"] ["pages", "root"] (Qp xU):=QW
def VO:Qu ["self"] ["self"] (Qp zY):=QW
def QaF:Qu ["shelf", "pages", "table", "number"] ["shelf"] (Qp Gi):=QW
def ji:Qu ["self", "number"] ["self", "number"] (Qp Yn):=QW
def yh:Qu ["self", "number"] ["self", "number"] (Qp qv):=QW
def gW:Qu ["self", "page"] ["self", "page"] (Qp V7):=QW
def Go:Qu ["self", "number", "page"] ["self", "number", "page"] (Qp xM):=QW
def Vk:Qu ["self", "room"] ["self", "room"] (Qp q8):=QW
def QaD:Qu ["pages", "room", "shelf", "page"] ["pages", "room"] (Qp Gg):=QW
def QdZ:Qu ["level", "fills", "first", "pages", "place", "behind", "is_last", "high", "side"] ["level", "fills", "first"] (Qp Rh):=QW
def vw:Qu ["kids", "most", "counts", "rest"] ["kids", "most"] (Qp Vf):=QW
def vt:Qu ["kids", "first", "most", "fills", "start", "count", "stop", "begins"] ["kids", "first", "most"] (Qp Vd):=QW
def vA:Qu ["table", "room", "fills", "start", "pairs", "keys"] ["table", "room"] (Qp Vh):=QW
def Qd0:Qu ["table", "room", "level", "fills", "pages"] ["table", "room"] (Qp Rg):=QW
def Gu:Qu ["self"] ["self"] (Qp xP):=QW
def Y1:Qu ["self"] ["self"] (Qp qu):=QW
def vz:Qu ["number", "page", "begin", "kid_begins", "kids", "wanted", "told", "place", "kid"] ["number", "page", "begin", "kid_begins"] (Qp Vg):=QW
def UK:Qu ["page"] ["page"] (Qp jJ):=QW
def vv:Qu ["page", "begin", "keys", "high"] ["page", "begin"] (Qp Ve):=QW
def GA:Qu ["number", "page", "level", "begin", "follower", "told"] ["number", "page", "level", "begin", "follower"] (Qp xW):=QW
def gZ:Qu ["pages", "numbers", "begins", "begin", "number"] ["pages", "numbers"] (Qp Ua):=QW
def Gz:Qu ["pages", "numbers", "level", "beneath", "begins", "kid_begins", "told", "place", "number", "page", "follower"] ["pages", "numbers", "level", "beneath"] (Qp xV):=QW
def QdY:Qu ["shelf", "pages", "lists", "told", "place", "level", "beneath"] ["shelf"] (Qp Ri):=QW
def QaA:Qu ["shelf"] ["shelf"] (Qp Gb):=QW
def GB:Qu ["pairs"] ["pairs"] (Qp xY):=QW
def Qf4:Qu ["part"] ["part"] (Qp Om):=QW
def Gp:Qu ["self"] ["self"] (Qp xN):=QW
def Vl:Qu ["self"] ["self"] (Qp zc):=QW
def qz:Qu ["self", "number"] ["self", "number"] (Qp qY):=QW
def VP:Qu ["self", "shelf", "deed"] ["self", "shelf", "deed"] (Qp zZ):=QW
def xu:Qu ["self", "hand", "number"] ["self", "hand"] (Qp Y0):=QW
def gX:Qu ["self"] ["self"] (Qp V8):=QW
def Qd1:Qu ["page", "number", "level", "keys", "parts", "middle", "key", "cut", "old", "new"] ["page", "number"] (Qp Rf):=QW
def QbS:Qu ["page", "room"] ["page", "room"] (Qp v0):=QW
def Gq:Qu ["self", "number", "page", "halves"] ["self", "number", "page"] (Qp xO):=QW
def QaC:Qu ["page", "keys", "parts"] ["page", "keys", "parts"] (Qp Gf):=QW
def yk:Qu ["keys", "key"] ["keys", "key"] (Qp qy):=QW
def Gv:Qu ["keys", "key"] ["keys", "key"] (Qp xR):=QW
def QaG:Qu ["page", "key", "new_keys", "new_worths", "keys", "worths", "start", "stop"] ["page", "key", "new_keys", "new_worths"] (Qp Gj):=QW
def ke:Qu ["page", "key", "worth"] ["page", "key", "worth"] (Qp Uf):=QW
def QaH:Qu ["page", "key", "keys", "place"] ["page", "key"] (Qp Gk):=QW
def VQ:Qu ["self", "number", "leaf", "new_page"] ["self", "number", "leaf"] (Qp ja):=QW
def yi:Qu ["self", "number", "leaf"] ["self", "number", "leaf"] (Qp qw):=QW
def UJ:Qu ["self", "number", "leaf", "word"] ["self", "number", "leaf"] (Qp jI):=QW
def QdX:Qu ["page", "key", "high"] ["page", "key"] (Qp Rj):=QW
def vo:Qu ["self", "number"] ["self", "number"] (Qp Va):=QW
def gY:Qu ["self", "number", "page"] ["self"] (Qp V9):=QW
def xt:Qu ["self", "hand", "holding", "walk", "told"] ["self", "hand"] (Qp YZ):=QW
def jK:Qu ["self", "hand"] ["self", "hand"] (Qp xQ):=QW
def VR:Qu ["self", "rows", "hand"] ["self"] (Qp jb):=QW
def QbR:Qu ["told"] ["told"] (Qp vZ):=QW
def Vm:Qu ["self", "deed"] ["self", "deed"] (Qp zd):=QW
def Vj:Qu ["self", "deed", "number"] ["self", "deed"] (Qp qZ):=QW
def bx:Qu ["text", "most", "figures"] ["text", "most"] (Qp xX):=QW
def aQ:Qu ["text", "number"] ["text"] (Qp Vi):=QW
def bJ:Qu ["text", "number"] ["text"] (Qp Gd):=QW
def bf:Qu ["word", "texts", "deed"] ["word", "texts"] (Qp Ue):=QW
def aR:Qu ["row", "words", "word", "texts"] ["row"] (Qp Ge):=QW
def aU:Qu ["self", "row", "told", "word"] ["self", "row"] (Qp Ga):=QW
def Gx:Qu ["desk", "row", "due", "kinds", "right", "e"] ["desk", "row", "due"] (Qp xT):=QW
def QbT:Qu ["cell", "key", "some", "far"] ["cell"] (Qp v7):=QW
def QaB:Qu ["cell", "hands"] ["cell", "hands"] (Qp Gc):=QW
def yj:Qu ["self", "shelf", "hands"] ["self", "shelf", "hands"] (Qp qx):=QW
def VN:Qu ["self", "room", "hands"] ["self", "room", "hands"] (Qp zX):=QW
def kd:Qu ["room", "hands", "cell", "desk"] ["room", "hands", "cell"] (Qp Ud):=QW
def Gw:Qu ["script", "k"] ["script", "k"] (Qp xS):=QW
def iw:Qu ["script", "cell", "hands", "room", "desk", "beside", "row", "due"] ["script"] (Qp Uc):=QW
section
variable{P:Program}{w:World}{K:Ae}{mg:Co}{O8:Heap}(Z:Al K mg)
include Z
def zR:Xd P w K mg O8 "Shelf" "pages" 1 1 J9:=hM Z.u0 Gn λs _ _ _ _ _ _ _ a=>Qo (Qx (QX Zl Z.z0 PySem.boot_len (Qd (QG Z.k0 (Qa 0)) Qh)))
def qT:Xd P w K mg O8 "Weaver" "change_shelf" 1 2 JR:=hM Z.u1 zK λs _ _ _ _ _ _ _ a=>Qo (Zk Z.k1 (Qa 0) (Qa 1))
def ju:Xd P w K mg O8 "Shelf" "room" 1 1 ZY:=hM Z.u2 vp λs _ _ _ _ _ _ _ a=>Qo (Qx (QG Z.k2 (Qa 0)))
def YV:Xd P w K mg O8 "Shelf" "root" 1 1 Jv:=hM Z.u3 vq λs _ _ _ _ _ _ _ a=>Qo (Qx (QG Z.k3 (Qa 0)))
def vd:Has P w K mg O8 "first_kid" 1 2 Y8:=hf Z.u4 kc λs _ _ _ _ _ _ _ a=>Qf (Q4 (DW.pt (V1 (Z1 (uX (Qa 1))) (ya (Z1 (uX (QF (QO a) (QF (QO a) (Qa 0) (QF (QO a) (Qa 1) Qq)) (ZK Z.g0))))))) (Qo (Qx ZJ)) QI) (Qo (Qx (QF (QO a) (QF (QO a) (QF (QO a) (Qa 0) (QF (QO a) (Qa 1) Qq)) (ZK Z.g0)) Qq)))
theorem gn:Has P w K mg O8 "side_run" 1 3 zr:=hf Z.u5 QaE λs _ _ _ _ _ _ _ a=>Qf (Qt 3 s (J4 Qh)) (Qf (Qt 4 s (Qa 1)) (Qf (yF 100000 PassesOwn.never (DW.pt (zy (QN pU (Qa 4) ZJ (QC _)) (zy (YO vn jg Qq (Qa 4) (QX Zl Z.z0 PySem.boot_len (Qd (Qa 0) Qh))) (qh (QN (LR (QO a)) (Qa 4) (Qa 2) (by with_unfolding_all rfl)))))) (Qf (Vw xC (Kn (QO a) (Qa 2) (Qa 4))) (Qf (Zg (ZC JL PySem.F.plainAttrs_list PySem.F.slot_list_append PySem.F.type_list_append (Qa 3) (Qd (Qa 4) Qh))) (Qo (Qt 4 s (QF (QO a) (QF (QO a) (Qa 0) (Qa 4)) (ZK Z.g1))))))) (Qo (Qx (Qa 3)))))
theorem zU:Has P w K mg O8 "level_lists" 2 2 JO:=hf Z.u6 Gy λs _ _ _ _ _ _ _ a=>Qf (Qt 2 s (J4 Qh)) (Qf (Qt 3 s Km) (Qf (Qt 4 s (Qa 1)) (Qf (yF 100000 PassesOwn.never (QN vn (QX Zl Z.z0 PySem.boot_len (Qd (Qa 2) Qh)) (QF (QO a) (QF (QO a) (Qa 0) (Qa 1)) (ZK Z.g2)) (QC _)) (Qf (Qt 5 s (QE (gn Z) a (by decide) QA (Qd (Qa 0) (Qd (Qa 4) (Qd (Qa 3) Qh))))) (Qf (Zg (ZC JL PySem.F.plainAttrs_list PySem.F.slot_list_append PySem.F.type_list_append (Qa 2) (Qd (Qa 5) Qh))) (Qo (Qt 4 s (QE (vd Z) a (by decide) QA (Qd (Qa 0) (Qd (Qa 5) Qh)))))))) (Qo (Qx (Qa 2))))))
def qk:Xd P w K mg O8 "Shelf" "picture" 1 1 JE:=hM Z.u7 VO λs _ _ _ _ _ _ _ a=>Qo (Qx (JJ QiZ Z.z1 boot_list (Qd (QG Z.k0 (Qa 0)) Qh)))
theorem zC:Has P w K mg O8 "table_of" 3 1 Xr:=hf Z.u8 QaF λs _ _ _ _ _ _ _ a=>Qf (Qt 1 s (Zy (qk Z) a (by decide) QA (Qa 0))) (Qf (Qt 2 s (J4 Qh)) (Qf (XI PassesOwn.never rfl (JV (QF (QO a) (QE (zU Z) a (by decide) QA (Qd (Qa 1) (Qd (Zy (YV Z) a (by decide) QA (Qa 0)) Qh))) (Mx Qq))) (XH 3 s) (Qo (Zg (ZC jB PySem.F.plainAttrs_list PySem.F.slot_list_extend PySem.F.type_list_extend (Qa 2) (Qd (QgR Z.z1 Z.z2 rfl (QF (QO a) (QF (QO a) (Qa 1) (Qa 3)) (ZK Z.g3)) (QF (QO a) (QF (QO a) (Qa 1) (Qa 3)) (ZK Z.g0))) Qh))))) (Qo (Qx (Qa 2)))))
def JB:Xd P w K mg O8 "Shelf" "check_number" 1 2 Zs:=hM Z.u9 ji λs _ _ _ _ _ _ _ a=>Qo (Q4 (Z1 (YO vn jg Qq (Qa 1) (QX Zl Z.z0 PySem.boot_len (Qd (QG Z.k0 (Qa 0)) Qh)))) (Qo Z0) QI)
theorem xm:Xd P w K mg O8 "Shelf" "make_root" 2 2 Jc:=hM Z.T6 yh λs _ _ _ _ _ _ _ a=>Qf (Zg (Zb (JB Z) a (by decide) QA (Qa 0) (Qd (Qa 1) Qh))) (Qo (Zk Z.k3 (Qa 0) (Qa 1)))
def xF:Xd P w K mg O8 "Shelf" "lay" 1 2 Yh:=hM Z.T5 gW λs _ _ _ _ _ _ _ a=>Qf (jS Z.k4 (Qa 0) Qq) (Qf (Zg (ZC JL PySem.F.plainAttrs_list PySem.F.slot_list_append PySem.F.type_list_append (QG Z.k0 (Qa 0)) (Qd (Qa 1) Qh))) (Qo (Qx (Qs V6 (QX Zl Z.z0 PySem.boot_len (Qd (QG Z.k0 (Qa 0)) Qh)) Qq))))
theorem Yr:Xd P w K mg O8 "Shelf" "write" 2 3 Jj:=hM Z.T4 Go λs _ _ _ _ _ _ _ a=>Qf (Zg (Zb (JB Z) a (by decide) QA (Qa 0) (Qd (Qa 1) Qh))) (Qf (jS Z.k4 (Qa 0) Qq) (Qo (Vw (Qa 2) (Kn (QO a) (QG Z.k0 (Qa 0)) (Qa 1)))))
def YU:mZ P w K mg O8 "Shelf" 1 2 ZI:=hI Z.TY Vk λs _ _ _ _ _ _ _ d=>let ⟨_,c,a⟩:=Z.t0.ex;Qf (Zk Z.k2 (Qa 0) (Qa 1)) (Qf (Zk Z.k0 (Qa 0) (J4 (Qd (QgP rfl c a) Qh))) (Qf (Zk Z.k3 (Qa 0) Qq) (Qf (Zk Z.k5 (Qa 0) Qq) (Qo (Zk Z.k4 (Qa 0) Qq)))))
theorem gk:Has P w K mg O8 "shelf_of" 3 2 zq:=hf Z.TX QaD λs _ _ _ _ _ _ _ a=>Qf (Qt 2 s (yE (YU Z) a (by decide) QA (Qd (Qa 1) Qh))) (Qf (Zg (Zb (Yr Z) a (by decide) QA (Qa 2) (Qd Qq (Qd (QF (QO a) (Qa 0) Qq) Qh)))) (Qf (XI PassesOwn.never rfl (JV (Mw (Qa 0) (ZN Qq) Jg)) (XH 3 s) (Qo (Zg (Zb (xF Z) a (by decide) QA (Qa 2) (Qd (Qa 3) Qh))))) (Qf (Zg (Zb (xm Z) a (by decide) QA (Qa 2) (Qd (Qs V6 (QX Zl Z.z0 PySem.boot_len (Qd (Qa 0) Qh)) Qq) Qh))) (Qo (Qx (Qa 2))))))
def KD:Has P w K mg O8 "linked" 1 3 yt:=hf Z.TV QdZ λs _ _ _ _ _ _ _ a=>Qf (Qt 3 s (J4 Qh)) (Qf (XI PassesOwn.never rfl (xD (jR rfl Z.z3 (Qd (QX Zl Z.z0 PySem.boot_len (Qd (Qa 1) Qh)) Qh))) (XH 4 s) (Qf (Qt 5 s (Qs Zu (Qa 4) Qq)) (Qf (Qt 6 s (ZZ (Jt a.units) (Qa 5) (QX Zl Z.z0 PySem.boot_len (Qd (Qa 1) Qh)) (QC _))) (Qf (Qt 7 s (zN (Z7 (Qa 6)) ZJ (QF (QO a) (QF (QO a) (Qa 1) (Qa 5)) Qq))) (Qf (Qt 8 s (zN (Z7 (Qa 6)) ZJ (Qs Zu (Qa 2) (Qa 5)))) (Qo (Zg (ZC JL PySem.F.plainAttrs_list PySem.F.slot_list_append PySem.F.type_list_append (Qa 3) (Qd (Zj (Qd (Qa 0) (Qd (QF (QO a) (QF (QO a) (Qa 1) (Qa 4)) Qq) (Qd (QF (QO a) (QF (QO a) (Qa 1) (Qa 4)) Qq) (Qd (Qa 7) (Qd (Qa 8) Qh)))))) Qh))))))))) (Qo (Qx (Qa 3))))
def Kz:Has P w K mg O8 "kid_counts" 1 2 yr:=hf Z.u16 vw λs _ _ _ _ _ _ _ a=>Qf (Qt 2 s (Qs SI (YM (Qd (Qa 1) Qh)) (Qs xK (Qa 0) (Qa 1)))) (Qf (Qt 3 s (Qs qq (Qa 0) (Qa 1))) (Qf (Q4 (QN (VG a.units) (Qa 3) Qq (QC _)) (Qo (Qx (Qs Zu (YN (Qa 2) Jg (ZN (Mx Qq))) (YM (Qd (Qs V6 (Qa 1) Qq) (Qd Qq Qh)))))) QI) (Qo (Qx (zN (QN gH (Qa 3) Qq (QC _)) (Qs Zu (Qa 2) (YM (Qd (Qa 3) Qh))) (Qa 2))))))
theorem Kx:Has P w K mg O8 "fork_fills" 2 3 yq:=hf Z.TJ vt λs _ _ _ _ _ _ _ a=>Qf (Nb 3 s) (Qf (Qt 4 s Qq) (Qf (XI PassesOwn.never rfl (JV (QE (Kz Z) a (by decide) QA (Qd (QX Zl Z.z0 PySem.boot_len (Qd (Qa 0) Qh)) (Qd (Qa 2) Qh)))) (XH 5 s) (Qf (Qt 6 s (Qs Zu (Qa 4) (Qa 5))) (Qf (QeH 7 s (caps:=[]) (idx:=[]) ⟨by with_unfolding_all rfl,by decide +kernel,rfl,by decide +kernel,rfl,(by exact trivial),by with_unfolding_all rfl,(by exact trivial),by decide⟩ rfl (JV (YN (Qa 0) (ZN (Qa 4)) (ZN (Qa 6)))) (λ_ _ _ _=>Z4) (λ_ _ _ _=>QF (QO a) (Qa 0) Qq)) (Qf (M_ 3 (Zj (Qd (QF (QO a) (Qa 7) Qq) (Qd (JJ Kd Z.z4 boot_tuple (Qd (YN (Qa 7) (ZN Qq) Jg) Qh)) (Qd (QgS Z.z4 Z.z3 rfl (Qd (Qs Zu (Qa 1) (Qa 4)) (Qd (Qs Zu (Qa 1) (Qa 6)) Qh))) Qh))))) (Qo (Qt 4 s (Qa 6))))))) (Qo (M7 3 (Qx (Qa 3))))))
theorem KC:Has P w K mg O8 "leaf_fills" 1 2 zp:=hf Z.TF vA λs _ _ _ _ _ _ _ a=>Qf (Q4 (Z1 (uX (Qa 0))) (Qo (Qx (YM (Qd (Zj (Qd ZJ (Qd (Zj Qh) (Qd (Zj Qh) Qh)))) Qh)))) QI) (Qf (Nb 2 s) (Qf (XI PassesOwn.never rfl (xD (Qdl rfl Z.z3 (Qd Qq (Qd (QX Zl Z.z0 PySem.boot_len (Qd (Qa 0) Qh)) (Qd (Qa 1) Qh))))) (XH 3 s) (Qf (Qt 4 s (Mw (Qa 0) (ZN (Qa 3)) (ZN (Qs Zu (Qa 3) (Qa 1))))) (Qf (Qt 5 s (JJ Kd Z.z4 boot_tuple (Qd (JH (caps:=[]) (idx:=[]) ⟨by with_unfolding_all rfl,by decide +kernel,rfl,by decide +kernel,rfl,(by exact trivial),by with_unfolding_all rfl,(by exact trivial),by decide⟩ rfl (JV (Qa 4)) (λ_ _ _ _=>Z4) (λ_ _ _ _=>QF (QO a) (Qa 0) Qq)) Qh))) (Qo (M_ 2 (Zj (Qd (QF (QO a) (Qa 5) Qq) (Qd (Qa 5) (Qd (JJ Kd Z.z4 boot_tuple (Qd (JH (caps:=[]) (idx:=[]) ⟨by with_unfolding_all rfl,by decide +kernel,rfl,by decide +kernel,rfl,(by exact trivial),by with_unfolding_all rfl,(by exact trivial),by decide⟩ rfl (JV (Qa 4)) (λ_ _ _ _=>Z4) (λ_ _ _ _=>QF (QO a) (Qa 0) Qq)) Qh)) Qh))))))))) (Qo (M7 2 (Qx (Qa 2))))))
theorem Qbu:Has P w K mg O8 "packed" 4 2 yu:=hf Z.Tz Qd0 λs _ _ _ _ _ _ _ a=>Qf (Qt 2 s Qq) (Qf (Qt 3 s (QE (KC Z) a (by decide) QA (Qd (Qa 0) (Qd (Qa 1) Qh)))) (Qf (Qt 4 s (QE (KD Z) a (by decide) QA (Qd (Qa 2) (Qd (Qa 3) (Qd Qq Qh))))) (Qf (yF 100000 PassesOwn.never (QN gH (QX Zl Z.z0 PySem.boot_len (Qd (Qa 3) Qh)) Qq (QC _)) (Qf (Qdo 2 s Qq) (Qf (Qt 3 s (QE (Kx Z) a (by decide) QA (Qd (Qa 3) (Qd (Qs V6 (QX Zl Z.z0 PySem.boot_len (Qd (Qa 4) Qh)) (QX Zl Z.z0 PySem.boot_len (Qd (Qa 3) Qh))) (Qd (Qs Zu (Qa 1) Qq) Qh))))) (Qo (Zg (ZC jB PySem.F.plainAttrs_list PySem.F.slot_list_extend PySem.F.type_list_extend (Qa 4) (Qd (QE (KD Z) a (by decide) QA (Qd (Qa 2) (Qd (Qa 3) (Qd (QX Zl Z.z0 PySem.boot_len (Qd (Qa 4) Qh)) Qh)))) Qh))))))) (Qo (Qx (QE (gk Z) a (by decide) QA (Qd (Qa 4) (Qd (Qa 1) Qh))))))))
theorem Ys:Xd P w K mg O8 "Weaver" "idle" 1 1 Zx:=hM Z.Tw Gu λs _ _ _ _ _ _ _ a=>Qo (Qx (Dy (ZZ (Jt a.units) (QG Z.k6 (Qa 0)) (QX Zl Z.z0 PySem.boot_len (Qd (QG Z.k7 (Qa 0)) Qh)) (QC _)) (uV (QX (Kc rfl) Z.z5 boot_all (Qd (JH (caps:=[]) (idx:=[]) ⟨by with_unfolding_all rfl,by decide +kernel,rfl,by decide +kernel,rfl,(by exact trivial),by with_unfolding_all rfl,(by exact trivial),by decide⟩ rfl (JV (QG Z.k8 (Qa 0))) (λ_ _ _ _=>Z4) (λ_ _ _ _=>ZZ lN (Qa 0) ZJ (QC _))) Qh)))))
theorem xj:Xd P w K mg O8 "Desk" "pack_table" 5 1 JT:=hM Z.Ez Y1 λs _ _ _ _ _ _ _ a=>Qf (Q4 (Z1 (Z7 (Zy (Ys Z) a (by decide) QA (QG Z.k10 (Qa 0))))) (Qo Z0) QI) (Qf (Zk Z.k9 (Qa 0) (QE (Qbu Z) a (by decide) QA (Qd (QE (zC Z) a (by decide) QA (Qd (QG Z.k9 (Qa 0)) Qh)) (Qd (Zy (ju Z) a (by decide) QA (QG Z.k9 (Qa 0))) Qh)))) (Qf (Zg (Zb (qT Z) a (by decide) QA (QG Z.k10 (Qa 0)) (Qd (QG Z.k9 (Qa 0)) Qh))) (Qo (Qx (Zy (zR Z) a (by decide) QA (QG Z.k9 (Qa 0)))))))
theorem jx:VX P w K mg O8 "Desk" "pack_table" 5 1 XG:=sy Z.Ez Y1 λ_ _ _ _ _ _ _ a=>(QZ (zW (Z1 (Z7 (Zy (Ys Z) a (by decide) QA (QG Z.k10 (Qa 0))))) (QZ (XS Z.x0)) Yu))
theorem KA:Has P w K mg O8 "kid_faults" 1 4 zo:=hf Z.Tv vz λs _ _ _ _ _ _ _ a=>Qf (Qt 4 s (QF (QO a) (Qa 1) (ZK Z.g0))) (Qf (Qt 5 s (Qs Zu (Zj (Qd (Qa 2) Qh)) (QF (QO a) (Qa 1) (ZK Z.g3)))) (Qf (Qt 6 s (J4 Qh)) (Qf (XI PassesOwn.never rfl (xD (jR rfl Z.z3 (Qd (QX Zl Z.z0 PySem.boot_len (Qd (Qa 4) Qh)) Qh))) (XH 7 s) (Qf (Qt 8 s (QF (QO a) (Qa 4) (Qa 7))) (Qo (Q4 (DW.pt (V1 (QN nY (Qa 7) (QX Zl Z.z0 PySem.boot_len (Qd (Qa 5) Qh)) (QC _)) (V1 (QN (LR (QO a)) (Qa 8) (Qa 3) (by with_unfolding_all rfl)) (ya (QN (vT a.units) (QF (QO a) (Qa 3) (Qa 8)) (QF (QO a) (Qa 5) (Qa 7)) (QC _)))))) (Qo (Zg (ZC JL PySem.F.plainAttrs_list PySem.F.slot_list_append PySem.F.type_list_append (Qa 6) (Qd (Zj (Qd Qw (Qd (Qa 0) (Qd (Qa 7) Qh)))) Qh)))) QI)))) (Qo (Qx (Qa 6))))))
def Vy:Has P w K mg O8 "wanted_parts" 1 1 YL:=hf Z.Tt UK λs _ _ _ _ _ _ _ a=>Qo (Qx (zN (QN (Jt a.units) (QF (QO a) (Qa 0) (ZK Z.g2)) Qq (QC _)) (QX Zl Z.z0 PySem.boot_len (Qd (QF (QO a) (Qa 0) (ZK Z.g3)) Qh)) (Qs Zu (QX Zl Z.z0 PySem.boot_len (Qd (QF (QO a) (Qa 0) (ZK Z.g3)) Qh)) Qq)))
theorem Ky:Has P w K mg O8 "is_ordered" 1 2 zn:=hf Z.Tr vv λs _ _ _ _ _ _ _ a=>Qf (Qt 2 s (QF (QO a) (Qa 0) (ZK Z.g3))) (Qf (Qt 3 s (QF (QO a) (Qa 0) (ZK Z.g4))) (Qf (Q4 (Z1 (Z7 (QX (Kc rfl) Z.z5 boot_all (Qd (JH (caps:=[]) (idx:=[]) ⟨by with_unfolding_all rfl,by decide +kernel,rfl,by decide +kernel,rfl,(by exact trivial),by with_unfolding_all rfl,(by exact trivial),by decide⟩ rfl (xD (QgU (by rfl) (by exact Z.z2) (Qa 2) (YN (Qa 2) (ZN Qq) Jg))) (λ_ _ _ _=>Z4) (λ_ _ _ _=>ZZ jg (QF (QO a) (Qa 0) Qq) (QF (QO a) (Qa 0) Qq) (QC _))) Qh)))) (Qo (Qx xC)) QI) (Qf (Q4 (DW.pt (zy (QN pU (Qa 1) ZJ (QC _)) (qh (Z1 (Z7 (QX (Kc rfl) Z.z5 boot_all (Qd (JH (caps:=["begin"]) (idx:=[1]) ⟨by with_unfolding_all rfl,by decide +kernel,rfl,by decide +kernel,rfl,(by exact⟨rfl,trivial⟩),by with_unfolding_all rfl,(by exact⟨rfl,.inl rfl,⟨_,rfl⟩,(λh=>NameKind.noConfusion (An (show some NameKind.cell=some NameKind.local from h))),trivial⟩),by decide⟩ rfl (xD (uW (Qa 2))) (λ_ _ _ _=>Z4) (λ_ _ _ _=>ZZ vn (Qa 1) (Qa 0) (QC _))) Qh))))))) (Qo (Qx xC)) QI) (Qf (Q4 (DW.pt (zy (QN pU (Qa 3) ZJ (QC _)) (qh (Z1 (Z7 (QX (Kc rfl) Z.z5 boot_all (Qd (JH (caps:=["high"]) (idx:=[3]) ⟨by with_unfolding_all rfl,by decide +kernel,rfl,by decide +kernel,rfl,(by exact⟨rfl,trivial⟩),by with_unfolding_all rfl,(by exact⟨rfl,.inl rfl,⟨_,rfl⟩,(λh=>NameKind.noConfusion (An (show some NameKind.cell=some NameKind.local from h))),trivial⟩),by decide⟩ rfl (xD (uW (Qa 2))) (λ_ _ _ _=>Z4) (λ_ _ _ _=>ZZ jg (Qa 0) (Qa 1) (QC _))) Qh))))))) (Qo (Qx xC)) QI) (Qo (Qx (I_ (ZZ lN (Qa 1) ZJ (QC _)) (I_ (ZZ lN (Qa 3) ZJ (QC _)) (uV (ZZ jg (Qa 1) (Qa 3) (QC _)))))))))))
theorem Uy:Has P w K mg O8 "page_faults" 2 5 Xb:=hf Z.Tq GA λs _ _ _ _ _ _ _ a=>Qf (Qt 5 s (J4 Qh)) (Qf (Q4 (QN (vT a.units) (QF (QO a) (Qa 1) (ZK Z.g2)) (Qa 2) (QC _)) (Qo (Zg (ZC JL PySem.F.plainAttrs_list PySem.F.slot_list_append PySem.F.type_list_append (Qa 5) (Qd (Zj (Qd Qw (Qd (Qa 0) Qh))) Qh)))) QI) (Qf (Q4 (Z1 (Z7 (QE (Ky Z) a (by decide) QA (Qd (Qa 1) (Qd (Qa 3) Qh))))) (Qo (Zg (ZC JL PySem.F.plainAttrs_list PySem.F.slot_list_append PySem.F.type_list_append (Qa 5) (Qd (Zj (Qd Qw (Qd (Qa 0) Qh))) Qh)))) QI) (Qf (Q4 (QN (vT a.units) (QX Zl Z.z0 PySem.boot_len (Qd (QF (QO a) (Qa 1) (ZK Z.g0)) Qh)) (QE (Vy Z) a (by decide) QA (Qd (Qa 1) Qh)) (QC _)) (Qo (Zg (ZC JL PySem.F.plainAttrs_list PySem.F.slot_list_append PySem.F.type_list_append (Qa 5) (Qd (Zj (Qd Qw (Qd (Qa 0) Qh))) Qh)))) QI) (Qf (Q4 (DW.pt (V1 (QN (vT a.units) (ZZ lN (QF (QO a) (Qa 1) (ZK Z.g4)) ZJ (QC _)) (ZZ lN (QF (QO a) (Qa 1) (ZK Z.g1)) ZJ (QC _)) (QC _)) (ya (QN (vT a.units) (QF (QO a) (Qa 1) (ZK Z.g1)) (Qa 4) (QC _))))) (Qo (Zg (ZC JL PySem.F.plainAttrs_list PySem.F.slot_list_append PySem.F.type_list_append (Qa 5) (Qd (Zj (Qd Qw (Qd (Qa 0) Qh))) Qh)))) QI) (Qo (Qx (Qa 5)))))))
def xG:Has P w K mg O8 "begins_of" 1 2 Xy:=hf Z.Tp gZ λs _ _ _ _ _ _ _ a=>Qf (Qt 2 s Km) (Qf (Qt 3 s ZJ) (Qf (XI PassesOwn.never rfl (JV (Qa 1)) (XH 4 s) (Qf (Vw (Qa 3) (Kn (QO a) (Qa 2) (Qa 4))) (Qo (Qt 3 s (QF (QO a) (QF (QO a) (Qa 0) (Qa 4)) (ZK Z.g4)))))) (Qo (Qx (Qa 2)))))
theorem Ux:Has P w K mg O8 "list_faults" 3 4 Xa:=hf Z.Tn Gz λs _ _ _ _ _ _ _ a=>Qf (Qt 4 s (QE (xG Z) a (by decide) QA (Qd (Qa 0) (Qd (Qa 1) Qh)))) (Qf (Qt 5 s (QE (xG Z) a (by decide) QA (Qd (Qa 0) (Qd (Qa 3) Qh)))) (Qf (Qt 6 s (J4 Qh)) (Qf (XI PassesOwn.never rfl (xD (jR rfl Z.z3 (Qd (QX Zl Z.z0 PySem.boot_len (Qd (Qa 1) Qh)) Qh))) (XH 7 s) (Qf (Qt 8 s (QF (QO a) (Qa 1) (Qa 7))) (Qf (Qt 9 s (QF (QO a) (Qa 0) (Qa 8))) (Qf (Qt 10 s (zN (QN jg (Qs Zu (Qa 7) Qq) (QX Zl Z.z0 PySem.boot_len (Qd (Qa 1) Qh)) (QC _)) (QF (QO a) (Qa 1) (Qs Zu (Qa 7) Qq)) ZJ)) (Qf (Zg (ZC jB PySem.F.plainAttrs_list PySem.F.slot_list_extend PySem.F.type_list_extend (Qa 6) (Qd (QE (Uy Z) a (by decide) QA (Qd (Qa 8) (Qd (Qa 9) (Qd (Qa 2) (Qd (QF (QO a) (Qa 4) (Qa 8)) (Qd (Qa 10) Qh)))))) Qh))) (Qo (Q4 (QN gH (Qa 2) Qq (QC _)) (Qo (Zg (ZC jB PySem.F.plainAttrs_list PySem.F.slot_list_extend PySem.F.type_list_extend (Qa 6) (Qd (QE (KA Z) a (by decide) QA (Qd (Qa 8) (Qd (Qa 9) (Qd (QF (QO a) (Qa 4) (Qa 8)) (Qd (Qa 5) Qh))))) Qh)))) QI))))))) (Qo (Qx (Qa 6))))))
theorem Qbt:Has P w K mg O8 "faults" 4 1 U4:=hf Z.Tj QdY λs _ _ _ _ _ _ _ a=>Qf (Qt 1 s (Zy (qk Z) a (by decide) QA (Qa 0))) (Qf (Qt 2 s (QE (zU Z) a (by decide) QA (Qd (Qa 1) (Qd (Zy (YV Z) a (by decide) QA (Qa 0)) Qh)))) (Qf (Qt 3 s (J4 Qh)) (Qf (XI PassesOwn.never rfl (xD (jR rfl Z.z3 (Qd (QX Zl Z.z0 PySem.boot_len (Qd (Qa 2) Qh)) Qh))) (XH 4 s) (Qf (Qt 5 s (Qs V6 (Qs V6 (QX Zl Z.z0 PySem.boot_len (Qd (Qa 2) Qh)) Qq) (Qa 4))) (Qf (Qt 6 s (zN (QN gH (Qa 5) Qq (QC _)) (QF (QO a) (Qa 2) (Qs Zu (Qa 4) Qq)) (YM Qh))) (Qo (Zg (ZC jB PySem.F.plainAttrs_list PySem.F.slot_list_extend PySem.F.type_list_extend (Qa 3) (Qd (QE (Ux Z) a (by decide) QA (Qd (Qa 1) (Qd (QF (QO a) (Qa 2) (Qa 4)) (Qd (Qa 5) (Qd (Qa 6) Qh))))) Qh))))))) (Qo (Qx (Qa 3))))))
theorem yR:Has P w K mg O8 "is_sound" 5 1 YK:=hf Z.Ti QaA λs _ _ _ _ _ _ _ a=>Qo (Qx (ZZ (Jt a.units) (QE (Qbt Z) a (by decide) QA (Qd (Qa 0) Qh)) (YM Qh) (QC _)))
theorem Uz:Has P w K mg O8 "shown_pairs" 1 1 qB:=hf Z.Tg GB λs _ _ _ _ _ _ _ a=>Qf (Q4 (Z1 (uX (Qa 0))) (Qo (Qx Qw)) QI) (Qo (Qx (ZC gD PySem.F.plainAttrs_str PySem.F.slot_str_join PySem.F.type_str_join Qw (Qd (JH (caps:=[]) (idx:=[]) ⟨by with_unfolding_all rfl,by decide +kernel,rfl,by decide +kernel,rfl,(by exact trivial),by with_unfolding_all rfl,(by exact trivial),by decide⟩ rfl (JV (Qa 0)) (λ_ _ _ _=>Z4) (λ_ _ _ _=>Qs Q5 (Qs Q5 (JJ qd Z.z6 boot_str (Qd (QF (QO a) (Qa 0) Qq) Qh)) Qw) (JJ qd Z.z6 boot_str (Qd (QF (QO a) (Qa 0) Qq) Qh)))) Qh))))
theorem XB:Has P w K mg O8 "shown" 2 1 XF:=hf Z.Tf Qf4 λs _ _ _ _ _ _ _ a=>Qf (Q4 (QN lN (Qa 0) ZJ (QC _)) (Qo (Qx Qw)) QI) (Qf (Q4 (Z7 (QgQ Z.z7 Z.z1 Z.z4 (Qa 0))) (Qo (Qx (QE (Uz Z) a (by decide) QA (Qd (Qa 0) Qh)))) QI) (Qo (Qx (JJ qd Z.z6 boot_str (Qd (Qa 0) Qh)))))
def Uu:Xd P w K mg O8 "Walk" "answer" 1 1 Yc:=hM Z.u32 Gp λs _ _ _ _ _ _ _ a=>Qf (Q4 (Z1 (Z7 (QG Z.k14 (Qa 0)))) (Qo (Qx ZJ)) QI) (Qf (Q4 (QN (Jt a.units) (QF (QO a) (QG Z.k12 (Qa 0)) Qq) Qw (QC _)) (Qo (Qx (JJ QgJ Z.z1 boot_list (Qd (QG Z.k13 (Qa 0)) Qh)))) QI) (Qo (Qx (QG Z.k11 (Qa 0)))))
theorem ye:Xd P w K mg O8 "Weaver" "answers" 2 1 Jn:=hM Z.Te Vl λs _ _ _ _ _ _ _ a=>Qo (Qx (JH (caps:=[]) (idx:=[]) ⟨by with_unfolding_all rfl,by decide +kernel,rfl,by decide +kernel,rfl,(by exact trivial),by with_unfolding_all rfl,(by exact trivial),by decide⟩ rfl (JV (QG Z.wM (Qa 0))) (λ_ _ _ _=>Z4) (λ_ _ _ _=>Zj (Qd (QF (QO a) (Qa 0) Qq) (Qd (Zy (Uu Z) a (by decide) QA (QF (QO a) (Qa 0) Qq)) Qh)))))
theorem YS:Xd P w K mg O8 "Desk" "answer_of" 3 2 Jm:=hM Z.Ey qz λs _ _ _ _ _ _ _ a=>Qf (Q4 (QN nY (Qa 1) (QG Z.rZ (Qa 0)) (QC _)) (Qo Z0) QI) (Qo (Qx (ZC (Mf (QO a)) PySem.F.plainAttrs_dict PySem.F.slot_dict_get PySem.F.type_dict_get (JJ (QgI rfl) Z.z8 boot_dict (Qd (Zy (ye Z) a (by decide) QA (QG Z.k10 (Qa 0))) Qh)) (Qd (Qa 1) Qh))))
def xq:VX P w K mg O8 "Desk" "answer_of" 3 2 X6:=sy Z.Ey qz λ_ _ _ _ _ _ _ a=>(QZ (zW (QN nY (Qa 1) (QG Z.rZ (Qa 0)) (QC _)) (QZ (XS Z.x1)) Yu))
def yP:mZ P w K mg O8 "Walk" 1 3 JF:=hI Z.Td VP λs _ _ _ _ _ _ _ a=>Qf (Zk Z.lH (Qa 0) (Qa 1)) (Qf (Zk Z.k12 (Qa 0) (Qa 2)) (Qf (Zk Z.nJ (Qa 0) (QF (QO a) (Qa 2) Qq)) (Qf (Zk Z.nM (Qa 0) Qq) (Qf (Zk Z.oV (Qa 0) ZJ) (Qf (Zk Z.Fx (Qa 0) Km) (Qf (Zk Z.wL (Qa 0) ZJ) (Qf (Zk Z.k11 (Qa 0) ZJ) (Qf (Zk Z.k13 (Qa 0) (J4 Qh)) (Qo (Zk Z.k14 (Qa 0) xC))))))))))
theorem jw:Xd P w K mg O8 "Weaver" "take_deed" 3 2 Jw:=hM Z.Tc xu λs _ _ _ _ _ _ _ a=>Qf (Qt 2 s (QG Z.k6 (Qa 0))) (Qf (Vw (Zj (Qd (Qa 2) (Qd (yE (yP Z) a (by decide) QA (Qd (QG Z.k1 (Qa 0)) (Qd (QF (QO a) (QG Z.k7 (Qa 0)) (Qa 2)) Qh))) Qh))) (Kn (QO a) (QG Z.k8 (Qa 0)) (Qa 1))) (Qf (jS Z.k6 (Qa 0) Qq) (Qo (Qx (Zj (Qd Qw (Qd (Qa 1) (Qd (Qa 2) Qh))))))))
def vb:Xd P w K mg O8 "Walk" "over" 1 1 Yi:=hM Z.S_ gX λs _ _ _ _ _ _ _ a=>Qo (Qx (QG Z.k14 (Qa 0)))
def Qbv:Has P w K mg O8 "parted" 1 2 yv:=hf Z.S9 Qd1 λs _ _ _ _ _ _ _ a=>Qf (Qt 2 s (JI (Qa 0) (ZK Z.g2))) (Qf (Qt 3 s (JI (Qa 0) (ZK Z.g3))) (Qf (Qt 4 s (JI (Qa 0) (ZK Z.g0))) (Qf (Qt 5 s (Qs xK (QX xB Z.z0 PySem.boot_len (Qd (Qa 3) Qh)) Qq)) (Qf (Qt 6 s (JI (Qa 3) (Qa 5))) (Qf (Qt 7 s (zN (QN (VG a.units) (Qa 2) Qq (QC _)) (Qa 5) (Qs Zu (Qa 5) Qq))) (Qf (Qt 8 s (Zj (Qd (Qa 2) (Qd (YN (Qa 3) Jg (ZN (Qa 5))) (Qd (YN (Qa 4) Jg (ZN (Qa 7))) (Qd (Qa 6) (Qd (Qa 1) Qh))))))) (Qf (Qt 9 s (Zj (Qd (Qa 2) (Qd (YN (Qa 3) (ZN (Qa 7)) Jg) (Qd (YN (Qa 4) (ZN (Qa 7)) Jg) (Qd (JI (Qa 0) (ZK Z.g4)) (Qd (JI (Qa 0) (ZK Z.g1)) Qh))))))) (Qo (Qx (Zj (Qd (Qa 8) (Qd (Qa 9) (Qd (Qa 6) Qh)))))))))))))
def Qac:Has P w K mg O8 "is_full" 1 2 YH:=hf Z.S8 QbS λs _ _ _ _ _ _ _ a=>Qo (Qx (ZZ gH (QX xB Z.z0 PySem.boot_len (Qd (JI (Qa 0) (ZK Z.g3)) Qh)) (Qa 1) (QC _)))
theorem Uv:Xd P w K mg O8 "Walk" "settle" 3 3 qA:=hM Z.S7 Gq λs _ _ _ _ _ _ _ a=>Qf (Q4 (Z1 (Z7 (QE (Qac Z) a (by decide) QA (Qd (Qa 2) (Qd (Zy (ju Z) a (by decide) QA (QG Z.lH (Qa 0))) Qh))))) (Qf (Zg (Zb (Yr Z) a (by decide) QA (QG Z.lH (Qa 0)) (Qd (Qa 1) (Qd (Qa 2) Qh)))) (Qf (Zk Z.k14 (Qa 0) xC) (Qo (Qx ZJ)))) QI) (Qf (Qt 3 s (QE (Qbv Z) a (by decide) QA (Qd (Qa 2) (Qd (Zy (zR Z) a (by decide) QA (QG Z.lH (Qa 0))) Qh)))) (Qf (Zk Z.wL (Qa 0) (Zb (xF Z) a (by decide) QA (QG Z.lH (Qa 0)) (Qd (QF (QO a) (Qa 3) Qq) Qh))) (Qf (Zg (Zb (Yr Z) a (by decide) QA (QG Z.lH (Qa 0)) (Qd (Qa 1) (Qd (QF (QO a) (Qa 3) Qq) Qh)))) (Qf (Zk Z.nJ (Qa 0) (QF (QO a) (Qa 3) Qq)) (Qf (Zk Z.nM (Qa 0) (Qs Zu (QF (QO a) (Qa 2) (ZK Z.g2)) Qq)) (Qf (Zk Z.oV (Qa 0) (ZC (Mf (QO a)) PySem.F.plainAttrs_dict PySem.F.slot_dict_get PySem.F.type_dict_get (QG Z.Fx (Qa 0)) (Qd (QG Z.nM (Qa 0)) Qh))) (Qo (Qx (QG Z.wL (Qa 0))))))))))
def gj:Has P w K mg O8 "refilled" 1 3 x5:=hf Z.SX QaC λs _ _ _ _ _ _ _ a=>Qo (Qx (Zj (Qd (JI (Qa 0) (ZK Z.g2)) (Qd (Qa 1) (Qd (Qa 2) (Qd (JI (Qa 0) (ZK Z.g4)) (Qd (JI (Qa 0) (ZK Z.g1)) Qh)))))))
theorem Yw:Has P w K mg O8 "count_not_above" 1 2 Je:=hf Z.SQ yk λs _ _ _ _ _ _ _ a=>Qo (Qx (QX Zl Z.z0 PySem.boot_len (Qd (JH (caps:=["key"]) (idx:=[1]) ⟨by with_unfolding_all rfl,by decide +kernel,rfl,by decide +kernel,rfl,(by exact⟨rfl,trivial⟩),by with_unfolding_all rfl,(by exact⟨rfl,.inl rfl,⟨_,rfl⟩,(λh=>NameKind.noConfusion (An (show some NameKind.cell=some NameKind.local from h))),trivial⟩),by decide⟩ rfl (xD (uW (Qa 0))) (λ_ _ _ _=>N7 (QN vn (Qa 0) (Qa 1) (QC _))) (λ_ _ _ _=>Qa 0)) Qh)))
theorem zS:Has P w K mg O8 "count_below" 1 2 Yd:=hf Z.SN Gv λs _ _ _ _ _ _ _ a=>Qo (Qx (QX Zl Z.z0 PySem.boot_len (Qd (JH (caps:=["key"]) (idx:=[1]) ⟨by with_unfolding_all rfl,by decide +kernel,rfl,by decide +kernel,rfl,(by exact⟨rfl,trivial⟩),by with_unfolding_all rfl,(by exact⟨rfl,.inl rfl,⟨_,rfl⟩,(λh=>NameKind.noConfusion (An (show some NameKind.cell=some NameKind.local from h))),trivial⟩),by decide⟩ rfl (xD (uW (Qa 0))) (λ_ _ _ _=>N7 (QN jg (Qa 0) (Qa 1) (QC _))) (λ_ _ _ _=>Qa 0)) Qh)))
theorem gp:Has P w K mg O8 "with_run" 2 4 x6:=hf Z.SM QaG λs _ _ _ _ _ _ _ a=>Qf (Qt 4 s (JI (Qa 0) (ZK Z.g3))) (Qf (Qt 5 s (JI (Qa 0) (ZK Z.g0))) (Qf (Qt 6 s (QE (zS Z) a (by decide) QA (Qd (Qa 4) (Qd (Qa 1) Qh)))) (Qf (Qt 7 s (QE (Yw Z) a (by decide) QA (Qd (Qa 4) (Qd (Qa 1) Qh)))) (Qo (Qx (QE (gj Z) a (by decide) QA (Qd (Qa 0) (Qd (Qs Zu (Qs Zu (YN (Qa 4) Jg (ZN (Qa 6))) (Qa 2)) (YN (Qa 4) (ZN (Qa 7)) Jg)) (Qd (Qs Zu (Qs Zu (YN (Qa 5) Jg (ZN (Qa 6))) (Qa 3)) (YN (Qa 5) (ZN (Qa 7)) Jg)) Qh)))))))))
theorem ve:Has P w K mg O8 "with_pair" 3 3 jn:=hf Z.SJ ke λs _ _ _ _ _ _ _ a=>Qo (Qx (QE (gp Z) a (by decide) QA (Qd (Qa 0) (Qd (Qa 1) (Qd (Zj (Qd (Qa 1) Qh)) (Qd (Zj (Qd (Qa 2) Qh)) Qh))))))
theorem yT:Has P w K mg O8 "worth_of" 2 2 X4:=hf Z.Sy QaH λs _ _ _ _ _ _ _ a=>Qf (Qt 2 s (JI (Qa 0) (ZK Z.g3))) (Qf (Qt 3 s (QE (zS Z) a (by decide) QA (Qd (Qa 2) (Qd (Qa 1) Qh)))) (Qf (Q4 (QN (VG a.units) (Qa 3) (QE (Yw Z) a (by decide) QA (Qd (Qa 2) (Qd (Qa 1) Qh))) (QC _)) (Qo (Qx ZJ)) QI) (Qo (Qx (JI (JI (Qa 0) (ZK Z.g0)) (Qa 3))))))
theorem yQ:Xd P w K mg O8 "Walk" "put_pair" 4 3 Yp:=hM Z.Sx VQ λs _ _ _ _ _ _ _ a=>Qf (Zk Z.k11 (Qa 0) (QE (yT Z) a (by decide) QA (Qd (Qa 2) (Qd (QG Z.nJ (Qa 0)) Qh)))) (Qf (Qt 3 s (Zb (Uv Z) a (by decide) QA (Qa 0) (Qd (Qa 1) (Qd (QE (ve Z) a (by decide) QA (Qd (Qa 2) (Qd (QG Z.nJ (Qa 0)) (Qd (QF (QO a) (QG Z.k12 (Qa 0)) Qq) Qh)))) Qh)))) (Qo (Qx (Zj (Qd Qw (Qd (Qa 1) (Qd (QG Z.k11 (Qa 0)) (Qd (Qa 3) Qh))))))))
theorem xo:Xd P w K mg O8 "Walk" "find_worth" 3 3 XE:=hM Z.Sw yi λs _ _ _ _ _ _ _ a=>Qf (Zk Z.k11 (Qa 0) (QE (yT Z) a (by decide) QA (Qd (Qa 2) (Qd (QG Z.nJ (Qa 0)) Qh)))) (Qf (Zk Z.k14 (Qa 0) xC) (Qo (Qx (Zj (Qd Qw (Qd (Qa 1) (Qd (QG Z.k11 (Qa 0)) Qh)))))))
theorem Vx:Xd P w K mg O8 "Walk" "do_deed" 5 3 YJ:=hM Z.Sv UJ λs _ _ _ _ _ _ _ a=>Qf (Qt 3 s (QF (QO a) (QG Z.k12 (Qa 0)) Qq)) (Qf (Q4 (QN (Jt a.units) (Qa 3) Qw (QC _)) (Qo (Qx (Zb (xo Z) a (by decide) QA (Qa 0) (Qd (Qa 1) (Qd (Qa 2) Qh))))) QI) (Qf (Q4 (QN (Jt a.units) (Qa 3) Qw (QC _)) (Qo (Qx (Zb (yQ Z) a (by decide) QA (Qa 0) (Qd (Qa 1) (Qd (Qa 2) Qh))))) QI) (Qf (Q4 (QN (Jt a.units) (Qa 3) Qw (QC _)) (Qo Z0) QI) (Qo Z0))))
def Qbs:Has P w K mg O8 "beyond" 1 2 U3:=hf Z.Ss QdX λs _ _ _ _ _ _ _ a=>Qf (Qt 2 s (JI (Qa 0) (ZK Z.g4))) (Qo (Qx (Dy (ZZ pU (Qa 2) ZJ (QC _)) (uV (ZZ nY (Qa 1) (Qa 2) (QC _))))))
theorem Kw:Xd P w K mg O8 "Shelf" "read" 2 2 XD:=hM Z.Sq vo λs _ _ _ _ _ _ _ a=>Qf (Zg (Zb (JB Z) a (by decide) QA (Qa 0) (Qd (Qa 1) Qh))) (Qf (jS Z.k5 (Qa 0) Qq) (Qo (Qx (QF (QO a) (QG Z.k0 (Qa 0)) (Qa 1)))))
theorem vc:Xd P w K mg O8 "Walk" "step" 6 1 Y7:=hM Z.Sg gY λs _ _ _ _ _ _ _ a=>Qf (Q4 (Z7 (QG Z.k14 (Qa 0))) (Qo Z0) QI) (Qf (Qt 1 s (zN (QN lN (QG Z.oV (Qa 0)) ZJ (QC _)) (Zy (YV Z) a (by decide) QA (QG Z.lH (Qa 0))) (QG Z.oV (Qa 0)))) (Qf (Qt 2 s (Zb (Kw Z) a (by decide) QA (QG Z.lH (Qa 0)) (Qd (Qa 1) Qh))) (Qf (Q4 (DW.pt (zy (QN lN (QG Z.oV (Qa 0)) ZJ (QC _)) (qh (QN jg (QF (QO a) (Qa 2) (ZK Z.g2)) (QG Z.nM (Qa 0)) (QC _))))) (Qo Z0) QI) (Qf (Q4 (Z7 (QE (Qbs Z) a (by decide) QA (Qd (Qa 2) (Qd (QG Z.nJ (Qa 0)) Qh)))) (Qo Z0) QI) (Qf (Q4 (QN gH (QF (QO a) (Qa 2) (ZK Z.g2)) (QG Z.nM (Qa 0)) (QC _)) (Qf Z0 (Qo Z0)) QI) (Qf (Q4 (QN gH (QG Z.nM (Qa 0)) Qq (QC _)) (Qo Z0) QI) (Qo (Qx (Zb (Vx Z) a (by decide) QA (Qa 0) (Qd (Qa 1) (Qd (Qa 2) Qh)))))))))))
theorem jv:Xd P w K mg O8 "Weaver" "step_walk" 7 2 Xq:=hM Z.Sd xt λs _ _ _ _ _ _ _ a=>Qf (Qt 2 s (QF (QO a) (QG Z.k8 (Qa 0)) (Qa 1))) (Qf (Qt 3 s (QF (QO a) (Qa 2) Qq)) (Qf (Qt 4 s (Zy (vc Z) a (by decide) QA (Qa 3))) (Qf (Q4 (Z7 (Zy (vb Z) a (by decide) QA (Qa 3))) (Qf (Vw ZJ (Kn (QO a) (QG Z.k8 (Qa 0)) (Qa 1))) (Qo (Zg (ZC JL PySem.F.plainAttrs_list PySem.F.slot_list_append PySem.F.type_list_append (QG Z.wM (Qa 0)) (Qd (Qa 2) Qh))))) QI) (Qo (Qx (Qs Zu (Zj (Qd (QF (QO a) (Qa 4) Qq) (Qd (Qa 1) (Qd (QF (QO a) (Qa 2) Qq) Qh)))) (YN (Qa 4) (ZN Qq) Jg)))))))
theorem Yt:Xd P w K mg O8 "Weaver" "move" 8 2 ZL:=hM Z.Ew jK λs _ _ _ _ _ _ _ a=>Qf (Q4 (Z1 (YO vn jg Qq (Qa 1) (QX Zl Z.z0 PySem.boot_len (Qd (QG Z.k8 (Qa 0)) Qh)))) (Qo Z0) QI) (Qf (Q4 (QN pU (QF (QO a) (QG Z.k8 (Qa 0)) (Qa 1)) ZJ (QC _)) (Qo (Qx (Zb (jv Z) a (by decide) QA (Qa 0) (Qd (Qa 1) Qh)))) QI) (Qf (Q4 (QN jg (QG Z.k6 (Qa 0)) (QX Zl Z.z0 PySem.boot_len (Qd (QG Z.k7 (Qa 0)) Qh)) (QC _)) (Qo (Qx (Zb (jw Z) a (by decide) QA (Qa 0) (Qd (Qa 1) Qh)))) QI) (Qo (Qx (Zj (Qd Qw (Qd (Qa 1) Qh)))))))
def Vz:VX P w K mg O8 "Weaver" "move" 8 2 Ye:=sy Z.Ew jK λ_ _ _ _ _ _ _ a=>(QZ (zW (Z1 (YO vn jg Qq (Qa 1) (QX Zl Z.z0 PySem.boot_len (Qd (QG Z.k8 (Qa 0)) Qh)))) (QZ (XS Z.x2)) Yu))
theorem ql:Xd P w K mg O8 "Weaver" "finish" 9 1 Jb:=hM Z.R_ VR λs _ _ _ _ _ _ _ a=>Qf (Qt 1 s (J4 Qh)) (Qf (Qt 2 s Qq) (Qf (yF 100000 PassesOwn.never (Z1 (Z7 (Zy (Ys Z) a (by decide) QA (Qa 0)))) (Qf (Zg (ZC JL PySem.F.plainAttrs_list PySem.F.slot_list_append PySem.F.type_list_append (Qa 1) (Qd (Zb (Yt Z) a (by decide) QA (Qa 0) (Qd (Qa 2) Qh)) Qh))) (Qo (Qt 2 s (Qs qq (Qs Zu (Qa 2) Qq) (QX Zl Z.z0 PySem.boot_len (Qd (QG Z.k8 (Qa 0)) Qh))))))) (Qo (Qx (Qa 1)))))
def V3:Has P w K mg O8 "is_deed" 1 1 Jo:=hf Z.R9 QbR λs _ _ _ _ _ _ _ a=>Qo (Qx (Qi3 Z.d0 (JI (Qa 0) Qq)))
def yf:Xd P w K mg O8 "Weaver" "hand_in" 1 2 J3:=hM Z.R8 Vm λs _ _ _ _ _ _ _ a=>Qf (Zg (ZC JL PySem.F.plainAttrs_list PySem.F.slot_list_append PySem.F.type_list_append (QG Z.k7 (Qa 0)) (Qd (Qa 1) Qh))) (Qo (Qx (Qs V6 (QX Zl Z.z0 PySem.boot_len (Qd (QG Z.k7 (Qa 0)) Qh)) Qq)))
theorem YT:Xd P w K mg O8 "Desk" "note_deed" 2 2 Q8:=hM Z.R7 Vj λs _ _ _ _ _ _ _ a=>Qf (Qt 2 s (Zb (yf Z) a (by decide) QA (QG Z.k10 (Qa 0)) (Qd (Qa 1) Qh))) (Qf (Zk Z.rZ (Qa 0) (Qs Zu (Qa 2) Qq)) (Qo (Qx (Qa 2))))
theorem Xn:Has P w K mg O8 "read_number" 1 2 JP:=hf Z.Eu bx λs _ _ _ _ _ _ _ a=>Qf (Qt 2 s (zN (Z7 (ZC yW PySem.F.plainAttrs_str PySem.F.slot_str_startswith PySem.F.type_str_startswith (Qa 0) (Qd Qw Qh))) (Nh (Qa 0) (ZN Qq) Jg) (Qa 0))) (Qf (Q4 (DW.pt (V1 (Z1 (YO jg vn Qq (QX DK Z.z0 PySem.boot_len (Qd (Qa 2) Qh)) (Qa 1))) (ya (Z1 (Z7 (QX (Kc rfl) Z.z5 boot_all (Qd (zx (caps:=[]) (idx:=[]) ⟨by with_unfolding_all rfl,by decide +kernel,rfl,by decide +kernel,rfl,(by exact trivial),by with_unfolding_all rfl,(by exact trivial),by decide⟩ rfl (Dw (Qa 2)) (λ_ _ _ _=>Z4) (λ_ _ _ _=>ZZ C_ (Qa 0) Qw (by with_unfolding_all rfl))) Qh))))))) (Qo Z0) QI) (Qf (Q4 (DW.pt (zy (Z7 (ZC yW PySem.F.plainAttrs_str PySem.F.slot_str_startswith PySem.F.type_str_startswith (Qa 2) (Qd Qw Qh))) (qh (QN (Hq a.units) (Qa 0) Qw (QC _))))) (Qo Z0) QI) (Qo (Qx (JJ QiW Z.z9 boot_int (Qd (Qa 0) Qh))))))
theorem qU:mY P w K mg O8 "read_number" 1 2 Xc:=oZ Z.Eu bx λ_ _ _ _ _ _ _ a=>(ZF (Qt 2 bx.nd (zN (Z7 (ZC yW PySem.F.plainAttrs_str PySem.F.slot_str_startswith PySem.F.type_str_startswith (Qa 0) (Qd Qw Qh))) (Nh (Qa 0) (ZN Qq) Jg) (Qa 0))) (zI (QZ (zW (DW.pt (V1 (Z1 (YO jg vn Qq (QX DK Z.z0 PySem.boot_len (Qd (Qa 2) Qh)) (Qa 1))) (ya (Z1 (Z7 (QX (Kc rfl) Z.z5 boot_all (Qd (zx (caps:=[]) (idx:=[]) ⟨by with_unfolding_all rfl,by decide +kernel,rfl,by decide +kernel,rfl,(by exact trivial),by with_unfolding_all rfl,(by exact trivial),by decide⟩ rfl (Dw (Qa 2)) (λ_ _ _ _=>Z4) (λ_ _ _ _=>(ZZ C_ (Qa 0) Qw (by with_unfolding_all rfl)))) Qh))))))) (QZ (XS Z.x3)) Yu)) (ZF (Q4 (DW.pt (V1 (Z1 (YO jg vn Qq (QX DK Z.z0 PySem.boot_len (Qd (Qa 2) Qh)) (Qa 1))) (ya (Z1 (Z7 (QX (Kc rfl) Z.z5 boot_all (Qd (zx (caps:=[]) (idx:=[]) ⟨by with_unfolding_all rfl,by decide +kernel,rfl,by decide +kernel,rfl,(by exact trivial),by with_unfolding_all rfl,(by exact trivial),by decide⟩ rfl (Dw (Qa 2)) (λ_ _ _ _=>Z4) (λ_ _ _ _=>(ZZ C_ (Qa 0) Qw (by with_unfolding_all rfl)))) Qh))))))) (Qo Z0) QI) (QZ (zW (DW.pt (zy (Z7 (ZC yW PySem.F.plainAttrs_str PySem.F.slot_str_startswith PySem.F.type_str_startswith (Qa 2) (Qd Qw Qh))) (qh (QN (Hq a.units) (Qa 0) Qw (QC _))))) (QZ (XS Z.x3)) Yu)))))
theorem YW:Has P w K mg O8 "read_short" 2 1 Jf:=hf Z.Et aQ λs _ _ _ _ _ _ _ a=>Qf (Qt 1 s (QE (Xn Z) a (by decide) QA (Qd (Qa 0) (Qd Qq Qh)))) (Qf (Q4 (QN jg (Qa 1) Qq (QC _)) (Qo Z0) QI) (Qo (Qx (Qa 1))))
theorem UA:mY P w K mg O8 "read_short" 2 1 YA:=oZ Z.Et aQ λ_ _ _ _ _ _ _ a=>(zI (QZ (gQ (i:=1) aQ.nd (j6 (qU Z) a (by decide) KZ (Qd (Qa 0) (Qd Qq Qh))))) (ZF (Qt 1 aQ.nd (QE (Xn Z) a (by decide) QA (Qd (Qa 0) (Qd Qq Qh)))) (QZ (zW (QN jg (Qa 1) Qq (QC _)) (QZ (XS Z.x3)) Yu))))
theorem zB:Has P w K mg O8 "read_key" 2 1 Jk:=hf Z.Es bJ λs _ _ _ _ _ _ _ a=>Qf (Qt 1 s (QE (Xn Z) a (by decide) QA (Qd (Qa 0) (Qd Qq Qh)))) (Qf (Q4 (QN gH (QX La Z.m_ boot_abs (Qd (Qa 1) Qh)) (Qs Io Qq Qq) (QC _)) (Qo Z0) QI) (Qo (Qx (Qa 1))))
theorem vf:mY P w K mg O8 "read_key" 2 1 X7:=oZ Z.Es bJ λ_ _ _ _ _ _ _ a=>(zI (QZ (gQ (i:=1) bJ.nd (j6 (qU Z) a (by decide) KZ (Qd (Qa 0) (Qd Qq Qh))))) (ZF (Qt 1 bJ.nd (QE (Xn Z) a (by decide) QA (Qd (Qa 0) (Qd Qq Qh)))) (QZ (zW (QN gH (QX La Z.m_ boot_abs (Qd (Qa 1) Qh)) (Qs Io Qq Qq) (QC _)) (QZ (XS Z.x3)) Yu))))
theorem xI:Has P w K mg O8 "read_deed" 3 2 Yj:=hf Z.Er bf λs _ _ _ _ _ _ _ a=>Qf (Qt 2 s (Qs Zu (Zj (Qd (Qa 0) Qh)) (JJ yD Z.z4 boot_tuple (Qd (zx (caps:=[]) (idx:=[]) ⟨by with_unfolding_all rfl,by decide +kernel,rfl,by decide +kernel,rfl,(by exact trivial),by with_unfolding_all rfl,(by exact trivial),by decide⟩ rfl (jQ (Qa 1)) (λ_ _ _ _=>Z4) (λ_ _ _ _=>QE (zB Z) a (by decide) QA (Qd (Qa 0) Qh))) Qh)))) (Qf (Q4 (DW.pt (zy (QN (VG a.units) (Qa 0) Qw (QC _)) (qh (QN nY (JI (Qa 2) Qq) (JI (Qa 2) Qq) (QC _))))) (Qo Z0) QI) (Qo (Qx (Qa 2))))
theorem KE:mY P w K mg O8 "read_deed" 3 2 Xz:=oZ Z.Er bf λ_ _ _ _ _ _ _ a=>(zI (QZ (gQ (i:=2) bf.nd (Mi (Zj (Qd (Qa 0) Qh)) (DQ (Ov (caps:=[]) (idx:=[]) ⟨by with_unfolding_all rfl,by decide +kernel,rfl,by decide +kernel,rfl,(by exact trivial),by with_unfolding_all rfl,(by exact trivial),by decide⟩ rfl (jQ (Qa 1)) (λ_ _ _ _=>(j6 (vf Z) a (by decide) Lr (Qd (Qa 0) Qh))) (λ_ _ _ _=>(QE (zB Z) a (by decide) QA (Qd (Qa 0) Qh))) LQ) Z.z4 boot_tuple)))) (ZF (Qt 2 bf.nd (Qs Zu (Zj (Qd (Qa 0) Qh)) (JJ yD Z.z4 boot_tuple (Qd (zx (caps:=[]) (idx:=[]) ⟨by with_unfolding_all rfl,by decide +kernel,rfl,by decide +kernel,rfl,(by exact trivial),by with_unfolding_all rfl,(by exact trivial),by decide⟩ rfl (jQ (Qa 1)) (λ_ _ _ _=>Z4) (λ_ _ _ _=>(QE (zB Z) a (by decide) QA (Qd (Qa 0) Qh)))) Qh)))) (QZ (zW (DW.pt (zy (QN (VG a.units) (Qa 0) Qw (QC _)) (qh (QN nY (JI (Qa 2) Qq) (JI (Qa 2) Qq) (QC _))))) (QZ (XS Z.x3)) Yu))))
theorem yS:Has P w K mg O8 "read_row" 4 1 Zm:=hf Z.Ep aR λs _ _ _ _ _ _ _ a=>Qf (Qt 1 s (ZC Nr PySem.F.plainAttrs_str PySem.F.slot_str_split PySem.F.type_str_split (Qa 0) (Qd Qw Qh))) (Qf (Qt 2 s (JI (Qa 1) Qq)) (Qf (Qt 3 s (YN (Qa 1) (ZN Qq) Jg)) (Qf (Q4 (QN (VG a.units) (jP Z.d0 (Qa 2)) (QX xB Z.z0 PySem.boot_len (Qd (Qa 3) Qh)) (QC _)) (Qo (Qx (QE (xI Z) a (by decide) QA (Qd (Qa 2) (Qd (Qa 3) Qh))))) QI) (Qf (Q4 (QN (VG a.units) (jP Z.d1 (Qa 2)) (QX xB Z.z0 PySem.boot_len (Qd (Qa 3) Qh)) (QC _)) (Qo (Qx (Qs Zu (Zj (Qd (Qa 2) Qh)) (JJ yD Z.z4 boot_tuple (Qd (zx (caps:=[]) (idx:=[]) ⟨by with_unfolding_all rfl,by decide +kernel,rfl,by decide +kernel,rfl,(by exact trivial),by with_unfolding_all rfl,(by exact trivial),by decide⟩ rfl (jQ (Qa 3)) (λ_ _ _ _=>Z4) (λ_ _ _ _=>QE (YW Z) a (by decide) QA (Qd (Qa 0) Qh))) Qh))))) QI) (Qo Z0)))))
theorem vg:mY P w K mg O8 "read_row" 4 1 Z3:=oZ Z.Ep aR λ_ _ _ _ _ _ _ a=>(ZF (Qt 1 aR.nd (ZC Nr PySem.F.plainAttrs_str PySem.F.slot_str_split PySem.F.type_str_split (Qa 0) (Qd Qw Qh))) (ZF (Qt 2 aR.nd (JI (Qa 1) Qq)) (ZF (Qt 3 aR.nd (YN (Qa 1) (ZN Qq) Jg)) (zI (QZ (zW (QN (VG a.units) (jP Z.d0 (Qa 2)) (QX xB Z.z0 PySem.boot_len (Qd (Qa 3) Qh)) (QC _)) (QZ (K7 (j6 (KE Z) a (by decide) KZ (Qd (Qa 2) (Qd (Qa 3) Qh))))) Yu)) (ZF (Q4 (QN (VG a.units) (jP Z.d0 (Qa 2)) (QX xB Z.z0 PySem.boot_len (Qd (Qa 3) Qh)) (QC _)) (Qo (Qx (QE (xI Z) a (by decide) QA (Qd (Qa 2) (Qd (Qa 3) Qh))))) QI) (zI (QZ (zW (QN (VG a.units) (jP Z.d1 (Qa 2)) (QX xB Z.z0 PySem.boot_len (Qd (Qa 3) Qh)) (QC _)) (QZ (K7 (Mi (Zj (Qd (Qa 2) Qh)) (DQ (Ov (caps:=[]) (idx:=[]) ⟨by with_unfolding_all rfl,by decide +kernel,rfl,by decide +kernel,rfl,(by exact trivial),by with_unfolding_all rfl,(by exact trivial),by decide⟩ rfl (jQ (Qa 3)) (λ_ _ _ _=>(j6 (UA Z) a (by decide) Lr (Qd (Qa 0) Qh))) (λ_ _ _ _=>(QE (YW Z) a (by decide) QA (Qd (Qa 0) Qh))) LQ) Z.z4 boot_tuple)))) Yu)) (ZF (Q4 (QN (VG a.units) (jP Z.d1 (Qa 2)) (QX xB Z.z0 PySem.boot_len (Qd (Qa 3) Qh)) (QC _)) (Qo (Qx (Qs Zu (Zj (Qd (Qa 2) Qh)) (JJ yD Z.z4 boot_tuple (Qd (zx (caps:=[]) (idx:=[]) ⟨by with_unfolding_all rfl,by decide +kernel,rfl,by decide +kernel,rfl,(by exact trivial),by with_unfolding_all rfl,(by exact trivial),by decide⟩ rfl (jQ (Qa 3)) (λ_ _ _ _=>Z4) (λ_ _ _ _=>(QE (YW Z) a (by decide) QA (Qd (Qa 0) Qh)))) Qh))))) QI) (QZ (XS Z.x3)))))))))
theorem JA:Xd P w K mg O8 "Desk" "say" 10 2 Q2:=hM Z.u64 aU λs _ _ _ _ _ _ _ a=>Qf (Qt 2 s (QE (yS Z) a (by decide) QA (Qd (Qa 1) Qh))) (Qf (Qt 3 s (QF (QO a) (Qa 2) Qq)) (Qf (Q4 (Z7 (QE (V3 Z) a (by decide) QA (Qd (Qa 2) Qh))) (Qo (Qx (JJ qd Z.z6 boot_str (Qd (Zb (YT Z) a (by decide) QA (Qa 0) (Qd (Qa 2) Qh)) Qh)))) QI) (Qf (Q4 (QN (Jt a.units) (Qa 3) Qw (QC _)) (Qo (Qx (ZC gD PySem.F.plainAttrs_str PySem.F.slot_str_join PySem.F.type_str_join Qw (Qd (JH (caps:=[]) (idx:=[]) ⟨by with_unfolding_all rfl,by decide +kernel,rfl,by decide +kernel,rfl,(by exact trivial),by with_unfolding_all rfl,(by exact trivial),by decide⟩ rfl (JV (Zb (Yt Z) a (by decide) QA (QG Z.k10 (Qa 0)) (Qd (QF (QO a) (Qa 2) Qq) Qh))) (λ_ _ _ _=>Z4) (λ_ _ _ _=>QE (XB Z) a (by decide) QA (Qd (Qa 0) Qh))) Qh)))) QI) (Qf (Q4 (QN (Jt a.units) (Qa 3) Qw (QC _)) (Qo (Qx (JJ qd Z.z6 boot_str (Qd (QX Zl Z.z0 PySem.boot_len (Qd (Zy (ql Z) a (by decide) QA (QG Z.k10 (Qa 0))) Qh)) Qh)))) QI) (Qf (Q4 (QN (Jt a.units) (Qa 3) Qw (QC _)) (Qo (Qx (QE (XB Z) a (by decide) QA (Qd (Zb (YS Z) a (by decide) QA (Qa 0) (Qd (QF (QO a) (Qa 2) Qq) Qh)) Qh)))) QI) (Qf (Q4 (QN (Jt a.units) (Qa 3) Qw (QC _)) (Qo (Qx (QE (XB Z) a (by decide) QA (Qd (QE (zC Z) a (by decide) QA (Qd (QG Z.k9 (Qa 0)) Qh)) Qh)))) QI) (Qf (Q4 (QN (Jt a.units) (Qa 3) Qw (QC _)) (Qo (Qx (zN (Z7 (QE (yR Z) a (by decide) QA (Qd (QG Z.k9 (Qa 0)) Qh))) Qw Qw))) QI) (Qo (Qx (JJ qd Z.z6 boot_str (Qd (Zy (xj Z) a (by decide) QA (Qa 0)) Qh)))))))))))
theorem Yf:VX P w K mg O8 "Desk" "say" 10 2 Zq:=sy Z.u64 aU λ_ _ _ _ _ _ _ a=>(zI (QZ (gQ (i:=2) aU.nd (j6 (vg Z) a (by decide) KZ (Qd (Qa 1) Qh)))) (ZF (Qt 2 aU.nd (QE (yS Z) a (by decide) QA (Qd (Qa 1) Qh))) (ZF (Qt 3 aU.nd (QF (QO a) (Qa 2) Qq)) (ZF (Q4 (Z7 (QE (V3 Z) a (by decide) QA (Qd (Qa 2) Qh))) (Qo (Qx (JJ qd Z.z6 boot_str (Qd (Zb (YT Z) a (by decide) QA (Qa 0) (Qd (Qa 2) Qh)) Qh)))) QI) (zI (QZ (zW (QN (Jt a.units) (Qa 3) Qw (QC _)) (QZ (K7 (QhM gD PySem.F.plainAttrs_str PySem.F.slot_str_join PySem.F.type_str_join Qw (QfV (caps:=[]) (idx:=[]) ⟨by with_unfolding_all rfl,by decide +kernel,rfl,by decide +kernel,rfl,(by exact trivial),by with_unfolding_all rfl,(by exact trivial),by decide⟩ rfl (Ou (Vz Z) a (by decide) KZ (QG Z.k10 (Qa 0)) (Qd (QF (QO a) (Qa 2) Qq) Qh)) (λ_ _ _ _=>(QE (XB Z) a (by decide) QA (Qd (Qa 0) Qh))))))) Yu)) (ZF (Q4 (QN (Jt a.units) (Qa 3) Qw (QC _)) (Qo (Qx (ZC gD PySem.F.plainAttrs_str PySem.F.slot_str_join PySem.F.type_str_join Qw (Qd (JH (caps:=[]) (idx:=[]) ⟨by with_unfolding_all rfl,by decide +kernel,rfl,by decide +kernel,rfl,(by exact trivial),by with_unfolding_all rfl,(by exact trivial),by decide⟩ rfl (JV (Zb (Yt Z) a (by decide) QA (QG Z.k10 (Qa 0)) (Qd (QF (QO a) (Qa 2) Qq) Qh))) (λ_ _ _ _=>Z4) (λ_ _ _ _=>(QE (XB Z) a (by decide) QA (Qd (Qa 0) Qh)))) Qh)))) QI) (ZF (Q4 (QN (Jt a.units) (Qa 3) Qw (QC _)) (Qo (Qx (JJ qd Z.z6 boot_str (Qd (QX Zl Z.z0 PySem.boot_len (Qd (Zy (ql Z) a (by decide) QA (QG Z.k10 (Qa 0))) Qh)) Qh)))) QI) (zI (QZ (zW (QN (Jt a.units) (Qa 3) Qw (QC _)) (QZ (K7 (QfU (XB Z) a (by decide) (Ou (xq Z) a (by decide) KZ (Qa 0) (Qd (QF (QO a) (Qa 2) Qq) Qh))))) Yu)) (ZF (Q4 (QN (Jt a.units) (Qa 3) Qw (QC _)) (Qo (Qx (QE (XB Z) a (by decide) QA (Qd (Zb (YS Z) a (by decide) QA (Qa 0) (Qd (QF (QO a) (Qa 2) Qq) Qh)) Qh)))) QI) (ZF (Q4 (QN (Jt a.units) (Qa 3) Qw (QC _)) (Qo (Qx (QE (XB Z) a (by decide) QA (Qd (QE (zC Z) a (by decide) QA (Qd (QG Z.k9 (Qa 0)) Qh)) Qh)))) QI) (ZF (Q4 (QN (Jt a.units) (Qa 3) Qw (QC _)) (Qo (Qx (zN (Z7 (QE (yR Z) a (by decide) QA (Qd (QG Z.k9 (Qa 0)) Qh))) Qw Qw))) QI) (QZ (K7 (DQ (QfW (jx Z) a (by decide) KZ (Qa 0)) Z.z6 boot_str))))))))))))))
theorem zT:Has P w K mg O8 "_law_refused" 11 3 JN:=hf Z.R6 Gx λs _ _ _ _ _ _ _ a=>Qf (Qt 3 s (YM Qh)) (Qf (Qt 4 s xC) (Qf (Ds (UL 5 3 4 (UW (Yf Z) a (by decide) (Qa 0) (Qd (Qa 1) Qh)) Z.y3 Z.z7 Z.rG s) (Ds (UL 5 3 4 (UW (Yf Z) a (by decide) (Qa 0) (Qd (Qa 1) Qh)) Z.y2 Z.z7 Z.rG s) (Ds (UL 5 3 4 (UW (Yf Z) a (by decide) (Qa 0) (Qd (Qa 1) Qh)) Z.y1 Z.z7 Z.rG s) (UL 5 3 4 (UW (Yf Z) a (by decide) (Qa 0) (Qd (Qa 1) Qh)) Z.y0 Z.z7 Z.rG s)))) (Qo (Qx (Dy (Qa 4) (uV (ZZ (Jt a.units) (Qa 3) (YM (Qd (ZZ (Jt a.units) (Qa 2) Qw (QC _)) (Qd (ZZ (Jt a.units) (Qa 2) Qw (QC _)) (Qd (ZZ (Jt a.units) (Qa 2) Qw (QC _)) (Qd (ZZ (Jt a.units) (Qa 2) Qw (QC _)) Qh))))) (QC _))))))))
def Qad:Has P w K mg O8 "_law_odd" 1 1 Vp:=hf Z.R0 QbT λs _ _ _ _ _ _ _ a=>Qf (Qt 1 s (JJ qd Z.z6 boot_str (Qd (Qs Zu (Qs qq (Qs xK (Qa 0) Qq) Qq) Qq) Qh))) (Qf (Qt 2 s (qg (Za (Za (Za (Za (Za (Za (Za (Za (Za (XY ⟨Qs Q5 Qw (Qa 1)⟩ (XY ⟨Qs Q5 Qw (Qa 1)⟩ qf))))))))))))) (Qf (Qt 2 s (Qs Zu (Qa 2) (qg (XY ⟨Qs Q5 (Qs Q5 Qw (Qa 1)) Qw⟩ (XY ⟨Qs Q5 (Qs Q5 Qw (Qa 1)) Qw⟩ (XY ⟨Qs Q5 Qw (Qa 1)⟩ (XY ⟨Qs Q5 (Qs Q5 Qw (Qa 1)) Qw⟩ (XY ⟨Qs Q5 (Qs Q5 Qw (Qa 1)) Qw⟩ qf)))))))) (Qf (Qt 2 s (Qs Zu (Qa 2) (qg (XY ⟨Qs Q5 Qw (Qa 1)⟩ (XY ⟨Qs Q5 (Qs Q5 (Qs Q5 Qw (Qa 1)) Qw) (Qa 1)⟩ (XY ⟨Qs Q5 (Qs Q5 Qw (Qa 1)) Qw⟩ qf)))))) (Qf (Qt 2 s (Qs Zu (Qa 2) (YM (Qd (Qs Q5 Qw (Qa 1)) (Qd (Qs Q5 Qw (Qa 1)) Qh))))) (Qf (Qt 3 s (Qs Q5 (Qs Q5 Qw (Qs SG Qw Qq)) Qw)) (Qf (Qt 2 s (Qs Zu (Qa 2) (qg (XY ⟨Qs Q5 Qw (Qa 1)⟩ (Za (XY ⟨Qs Q5 (Qs Q5 Qw (Qa 1)) Qw⟩ (XY ⟨Qs Q5 Qw (Qa 3)⟩ (XY ⟨Qs Q5 Qw (Qa 3)⟩ qf)))))))) (Qf (Qt 2 s (Qs Zu (Qa 2) (qg (Za (Za (Za (Za (Za (Za (Za (Za qf))))))))))) (Qf (Qt 2 s (Qs Zu (Qa 2) (qg (Za (Za (Za (Za (XY ⟨Qs Q5 (Qs Q5 Qw (Qa 1)) Qw⟩ (Za qf))))))))) (Qf (Qt 2 s (Qs Zu (Qa 2) (qg (XY ⟨Qs Q5 (Qs Q5 (Qs Q5 Qw (Qa 1)) Qw) (Qa 3)⟩ (XY ⟨Qs Q5 (Qs Q5 (Qs Q5 Qw (Qa 1)) Qw) (Qa 3)⟩ (XY ⟨Qs Q5 (Qs Q5 (Qs Q5 Qw (Qa 1)) Qw) (Qa 3)⟩ qf)))))) (Qo (Qx (JI (Qa 2) (Qs qq (Qa 0) Qq)))))))))))))
theorem gh:Has P w K mg O8 "_law_case" 2 2 x4:=hf Z.RZ QaB λs _ _ _ _ _ _ _ a=>Qf (Q4 (QN jg (Qs qq (Qa 0) Qq) Qq (QC _)) (Qo (Qx (Zj (Qd (QE (Qad Z) a (by decide) QA (Qd (Qs xK (Qa 0) Qq) Qh)) (Qd Qw Qh))))) QI) (Qf (Q4 (QN (VG a.units) (Qs qq (Qa 0) Qq) Qq (QC _)) (Qo (Qx (Zj (Qd (Qs Q5 Qw (JJ qd Z.z6 boot_str (Qd (Qs Zu (Qa 1) (Qs qq (Qs xK (Qa 0) Qq) (Qs V6 Qq (Qa 1)))) Qh))) (Qd Qw Qh))))) QI) (Qf (Q4 (QN (VG a.units) (Qs qq (Qs xK (Qa 0) Qq) Qq) Qq (QC _)) (Qo (Qx (Zj (Qd Qw (Qd Qw Qh))))) QI) (Qo (Qx (Zj (Qd (Qs Q5 Qw (JJ qd Z.z6 boot_str (Qd (Qs Zu Qq (Qs qq (Qs xK (Qa 0) Qq) Qq)) Qh))) (Qd Qw Qh)))))))
def xp:mZ P w K mg O8 "Weaver" 1 3 Jd:=hI Z.RV yj λs _ _ _ _ _ _ _ a=>Qf (Zk Z.k1 (Qa 0) (Qa 1)) (Qf (Zk Z.k7 (Qa 0) (J4 Qh)) (Qf (Zk Z.k6 (Qa 0) Qq) (Qf (Zk Z.k8 (Qa 0) (Qs SH (YM (Qd ZJ Qh)) (Qa 2))) (Qo (Zk Z.wM (Qa 0) (J4 Qh))))))
theorem yO:mZ P w K mg O8 "Desk" 3 3 Xl:=hI Z.RT VN λs _ _ _ _ _ _ _ a=>Qf (Zk Z.k9 (Qa 0) (yE (YU Z) a (by decide) QA (Qd (Qa 1) Qh))) (Qf (Zk Z.k10 (Qa 0) (yE (xp Z) a (by decide) QA (Qd (QG Z.k9 (Qa 0)) (Qd (Qa 2) Qh)))) (Qo (Zk Z.rZ (Qa 0) Qq)))
theorem xH:Has P w K mg O8 "_law_begun" 11 3 Jr:=hf Z.RQ kd λs _ _ _ _ _ _ _ a=>Qf (Qt 3 s (yE (yO Z) a (by decide) QA (Qd (Qa 0) (Qd (Qa 1) Qh)))) (Qf (Zg (Zb (JA Z) a (by decide) QA (Qa 3) (Qd (Qs Q5 (Qs Q5 Qw (JJ qd Z.z6 boot_str (Qd (Qs qq (Qa 2) Qq) Qh))) Qw) Qh))) (Qf (Zg (Zb (JA Z) a (by decide) QA (Qa 3) (Qd (Qs Q5 (Qs Q5 Qw (JJ qd Z.z6 boot_str (Qd (Qs Zu Qq (Qs qq (Qa 2) Qq)) Qh))) Qw) Qh))) (Qf (Zg (Zb (JA Z) a (by decide) QA (Qa 3) (Qd Qw Qh))) (Qf (Zg (Zb (JA Z) a (by decide) QA (Qa 3) (Qd (Qs Q5 Qw (JJ qd Z.z6 boot_str (Qd (Qs qq (Qa 2) Qq) Qh))) Qh))) (Qo (Qx (Qa 3)))))))
def Uw:Has P w K mg O8 "_law_cell_at" 1 2 JM:=hf Z.RP Gw λs _ _ _ _ _ _ _ a=>Qf (Q4 (QN jg (Qa 1) (QX xB Z.z0 PySem.boot_len (Qd (Qa 0) Qh)) (QC _)) (Qo (Qx (JI (Qa 0) (Qa 1)))) QI) (Qo (Qx Qq))
theorem law_fn{g:Addr}{fd:FuncData}(F:Fun K "law" "law" Uc g fd):Y4 P w K mg O8 CX0 12 g fd ["script"] (f9 K 1 kz):=DL F iw λ_ _ _ _ _ _ a=>have s:=iw.nd;Qf (Qt 1 s (QE (Uw Z) a (by decide) QA (Qd (Qa 0) (Qd Qq Qh)))) (Qf (Qt 2 s (Qs Zu Qq (Qs qq (Qa 1) Qq))) (Qf (Qt 3 s (Qs Zu Qq (Qs qq (Qs xK (Qa 1) Qq) Qq))) (Qf (Qt 4 s (QE (xH Z) a (by decide) QA (Qd (Qa 3) (Qd (Qa 2) (Qd (Qs xK (Qa 1) Qq) Qh))))) (Qf (Qt 5 s (QE (xH Z) a (by decide) QA (Qd (Qa 3) (Qd (Qa 2) (Qd (Qs xK (Qa 1) Qq) Qh))))) (Qf (XI PassesOwn.never rfl (JV (Qa 0)) (XH 1 s) (Qf (Vw (QE (gh Z) a (by decide) QA (Qd (Qa 1) (Qd (Qa 2) Qh))) (Qi5 [6,7] s (by repeat' (first|exact trivial|refine⟨rfl,(by first|exact .inl rfl|exact .inr rfl),.inl rfl,?_⟩)) rfl (λ_ _ _=>rfl))) (Qo (Q4 (DW.pt (V1 (Z1 (Z7 (QE (zT Z) a (by decide) QA (Qd (Qa 4) (Qd (Qa 6) (Qd (Qa 7) Qh)))))) (ya (Z1 (Z7 (QE (zT Z) a (by decide) QA (Qd (Qa 4) (Qd (Qa 6) (Qd (Qa 7) Qh))))))))) (Qo (Qx xC)) QI)))) (Qf (XI PassesOwn.never rfl (JV (qg (Za (Za (Za (Za (Za (Za (Za (Za (Za qf))))))))))) (XH 6 s) (Qo (Q4 (QN (vT a.units) (Zb (JA Z) a (by decide) QA (Qa 4) (Qd (Qa 6) Qh)) (Zb (JA Z) a (by decide) QA (Qa 5) (Qd (Qa 6) Qh)) (QC _)) (Qo (Qx xC)) QI))) (Qo (Qx (ZZ (Jt a.units) (Zb (JA Z) a (by decide) QA (Qa 4) (Qd Qw Qh)) Qw (QC _))))))))))
end
def aO(r:Int)(k:Nat)(t a b:Int):List (Str×DV):=[("page_room", .int r),("kept", .ref k),("top", .int t),("read_count", .int a),("write_count", .int b)]
theorem Qgb(r:Int)(k:Nat)(t a b:Int):List.lookup ("page_room" : Str) (aO r k t a b)=some (DV.int r):=by rfl
theorem Y2(r:Int)(k:Nat)(t a b:Int):List.lookup ("kept" : Str) (aO r k t a b)=some (DV.ref k):=by rfl
theorem QhX(r:Int)(k:Nat)(t a b:Int):List.lookup ("top" : Str) (aO r k t a b)=some (DV.int t):=by rfl
theorem Lg(r:Int)(k:Nat)(t a b:Int):List.lookup ("write_count" : Str) (aO r k t a b)=some (DV.int b):=by rfl
theorem HH(r:Int)(k:Nat)(t a b:Int):List.lookup ("read_count" : Str) (aO r k t a b)=some (DV.int a):=by rfl
theorem RD(r:Int)(k:Nat)(t a b c:Int):Ju ("write_count" : Str) (.int c) (aO r k t a b)=aO r k t a c:=by rfl
theorem Qf9(r:Int)(k:Nat)(t a b c:Int):Ju ("read_count" : Str) (.int c) (aO r k t a b)=aO r k t c b:=by rfl
theorem Qga(r:Int)(k:Nat)(t a b c:Int):Ju ("top" : Str) (.int c) (aO r k t a b)=aO r k c a b:=by rfl
def UU(r:Int)(k:Nat)(t a b:Int):(aO r k t a b).length=5:=rfl
theorem VT(r:Int)(k:Nat)(t a b:Int):List.lookup ("check_number" : Str) (aO r k t a b)=none:=by rfl
theorem Qd4(r:Int)(k:Nat)(t a b:Int):List.lookup ("lay" : Str) (aO r k t a b)=none:=by rfl
theorem QbV(r:Int)(k:Nat)(t a b:Int):List.lookup ("read" : Str) (aO r k t a b)=none:=by rfl
theorem jL(r:Int)(k:Nat)(t a b:Int):List.lookup ("write" : Str) (aO r k t a b)=none:=by rfl
theorem yn(r:Int)(k:Nat)(t a b:Int):List.lookup ("root" : Str) (aO r k t a b)=none:=by rfl
theorem QbU(r:Int)(k:Nat)(t a b:Int):List.lookup ("make_root" : Str) (aO r k t a b)=none:=by rfl
theorem RG(r:Int)(k:Nat)(t a b:Int):List.lookup ("room" : Str) (aO r k t a b)=none:=by rfl
theorem Ug(r:Int)(k:Nat)(t a b:Int):List.lookup ("pages" : Str) (aO r k t a b)=none:=by rfl
section
variable{r t a b:Int}{n k:Nat}{ps:List DV}{hp:Hs}
theorem Rq(h1:hp[n]?=some (.ins "Shelf" (aO r k t a b)))(h2:hp[k]?=some (.lst ps)):J9 [.ref n] hp=some (.int ps.length,hp):=by simp[J9,xy,Q3,Qr,QD,QR,jH,aJ,Q7,zJ,xi,y9,yg,Qi,Qb,eC,eB,c7,XC,cJ,Z2,XZ,yI,jr,b_,yb,Qk,Qc,ZD,Ja,QB,QL,Qy,gN,JG,J2,Xm,XO,XM,XL,J1,zV,jF,K2,Jh,XR,Zd,Q9,Yy,UH,YY,cU,VJ,Zo,Xf,QT,yd,ym,dU,fD,fG,Zh,YB,yV,Yx,aF,Zp,XX,jE,Y6,je,cO,qC,QM,Js,Z8,Xt,yH,iG,XT,YD,XV,XU,J6,YC,YF,YE,ZO,Q6,Jz,h1,h2,Y2]
theorem gP(h1:hp[n]?=some (.ins "Shelf" (aO r k t a b))):Jv [.ref n] hp=some (.int t,hp):=by simp[Jv,yz,Q3,Qr,QD,QR,jH,aJ,Q7,zJ,xi,y9,yg,Qi,Qb,eC,eB,c7,XC,cJ,Z2,XZ,yI,jr,b_,yb,Qk,Qc,ZD,Ja,QB,QL,Qy,gN,JG,J2,Xm,XO,XM,XL,J1,zV,jF,K2,Jh,XR,Zd,Q9,Yy,UH,YY,cU,VJ,Zo,Xf,QT,yd,ym,dU,fD,fG,Zh,YB,yV,Yx,aF,Zp,XX,jE,Y6,je,cO,qC,QM,Js,Z8,Xt,yH,iG,XT,YD,XV,XU,J6,YC,YF,YE,ZO,Q6,Jz,h1,QhX]
theorem Oo(h1:hp[n]?=some (.ins "Shelf" (aO r k t a b))):ZY [.ref n] hp=some (.int r,hp):=by simp[ZY,yy,Q3,Qr,QD,QR,jH,aJ,Q7,zJ,xi,y9,yg,Qi,Qb,eC,eB,c7,XC,cJ,Z2,XZ,yI,jr,b_,yb,Qk,Qc,ZD,Ja,QB,QL,Qy,gN,JG,J2,Xm,XO,XM,XL,J1,zV,jF,K2,Jh,XR,Zd,Q9,Yy,UH,YY,cU,VJ,Zo,Xf,QT,yd,ym,dU,fD,fG,Zh,YB,yV,Yx,aF,Zp,XX,jE,Y6,je,cO,qC,QM,Js,Z8,Xt,yH,iG,XT,YD,XV,XU,J6,YC,YF,YE,ZO,Q6,Jz,h1,Qgb]
theorem Kg{i:Int}(h1:hp[n]?=some (.ins "Shelf" (aO r k t a b)))(h2:hp[k]?=some (.lst ps))(c:0<=i)(d:i<ps.length) :
  Zs [.ref n,.int i] hp=some (.non,hp):=by
 have e:¬ i<0:=⋯
 have j:¬ (ps.length:Int)<=i:=⋯
 simp[Zs,Yl,Q3,Qr,QD,QR,jH,aJ,Q7,zJ,xi,y9,yg,Qi,Qb,eC,eB,c7,XC,cJ,Z2,XZ,yI,jr,b_,yb,Qk,Qc,ZD,Ja,QB,QL,Qy,gN,JG,J2,Xm,XO,XM,XL,J1,zV,jF,K2,Jh,XR,Zd,Q9,Yy,UH,YY,cU,VJ,Zo,Xf,QT,yd,ym,dU,fD,fG,Zh,YB,yV,Yx,aF,Zp,XX,jE,Y6,je,cO,qC,QM,Js,Z8,Xt,yH,iG,XT,YD,XV,XU,J6,YC,YF,YE,ZO,Q6,Jz,JS,h1,h2,Y2,c,d,e,j]
theorem QhN{i:Nat}{d:DV}(h1:hp[n]?=some (.ins "Shelf" (aO r k t a b)))(h2:hp[k]?=some (.lst ps))(e:n≠k)(hd:ps[i]?=some d) :
  XD [.ref n,.int i] hp=some (d,hp.set n (.ins "Shelf" (aO r k t (a+1) b))):=by
 have m:i<ps.length:=(Ag.mp hd).1;have c:=Kg (i:=(i:Int)) h1 h2 ⋯ ⋯;have j:=jO hd;simp[XD,yx,Q3,Qr,QD,QR,jH,aJ,Q7,zJ,xi,y9,yg,Qi,Qb,eC,eB,c7,XC,cJ,Z2,XZ,yI,jr,b_,yb,Qk,Qc,ZD,Ja,QB,QL,Qy,gN,JG,J2,Xm,XO,XM,XL,J1,zV,jF,K2,Jh,XR,Zd,Q9,Yy,UH,YY,cU,VJ,Zo,Xf,QT,yd,ym,dU,fD,fG,Zh,YB,yV,Yx,aF,Zp,XX,jE,Y6,je,cO,qC,QM,Js,Z8,Xt,yH,iG,XT,YD,XV,XU,J6,YC,YF,YE,ZO,Q6,Jz,h1,h2,c,Y2,HH,Qf9,UU,VT,j,e,e.symm]
theorem gE{i:Nat}(h1:hp[n]?=some (.ins "Shelf" (aO r k t a b)))(h2:hp[k]?=some (.lst ps))(d:i<ps.length) :
  Jc [.ref n,.int i] hp=some (.non,hp.set n (.ins "Shelf" (aO r k i a b))):=by
 have c:=Kg (i:=(i:Int)) h1 h2 ⋯ ⋯;simp[Jc,qc,Q3,Qr,QD,QR,jH,aJ,Q7,zJ,xi,y9,yg,Qi,Qb,eC,eB,c7,XC,cJ,Z2,XZ,yI,jr,b_,yb,Qk,Qc,ZD,Ja,QB,QL,Qy,gN,JG,J2,Xm,XO,XM,XL,J1,zV,jF,K2,Jh,XR,Zd,Q9,Yy,UH,YY,cU,VJ,Zo,Xf,QT,yd,ym,dU,fD,fG,Zh,YB,yV,Yx,aF,Zp,XX,jE,Y6,je,cO,qC,QM,Js,Z8,Xt,yH,iG,XT,YD,XV,XU,J6,YC,YF,YE,ZO,Q6,Jz,h1,h2,c,Y2,Qga,UU,VT]
theorem GL{i:Nat}{d:DV}(h1:hp[n]?=some (.ins "Shelf" (aO r k t a b)))(h2:hp[k]?=some (.lst ps))(e:n≠k)(j:i<ps.length) :
  Jj [.ref n,.int i,d] hp=some (.non,(hp.set n (.ins "Shelf" (aO r k t a (b+1)))).set k (.lst (ps.set i d))):=by
 have c:=Kg (i:=(i:Int)) h1 h2 ⋯ ⋯;simp[Jj,xA,Q3,Qr,QD,QR,jH,aJ,Q7,zJ,xi,y9,yg,Qi,Qb,eC,eB,c7,XC,cJ,Z2,XZ,yI,jr,b_,yb,Qk,Qc,ZD,Ja,QB,QL,Qy,gN,JG,J2,Xm,XO,XM,XL,J1,zV,jF,K2,Jh,XR,Zd,Q9,Yy,UH,YY,cU,VJ,Zo,Xf,QT,yd,ym,dU,fD,fG,Zh,YB,yV,Yx,aF,Zp,XX,jE,Y6,je,cO,qC,QM,Js,Z8,Xt,yH,iG,XT,YD,XV,XU,J6,YC,YF,YE,ZO,Q6,Jz,h1,h2,c,Y2,Lg,RD,UU,VT,e,e.symm,Nz j]
theorem RA{pg:DV}(h1:hp[n]?=some (.ins "Shelf" (aO r k t a b)))(h2:hp[k]?=some (.lst ps))(d:n≠k)(e:ps.length<99999) :
  Yh [.ref n,pg] hp=some (.int ps.length,(hp.set n (.ins "Shelf" (aO r k t a (b+1)))).set k (.lst (ps++[pg]))):=by
 have c:ps.length<lim:=by unfold lim;lia
 simp[Yh,VZ,Q3,Qr,QD,QR,jH,aJ,Q7,zJ,xi,y9,yg,Qi,Qb,eC,eB,c7,XC,cJ,Z2,XZ,yI,jr,b_,yb,Qk,Qc,ZD,Ja,QB,QL,Qy,gN,JG,J2,Xm,XO,XM,XL,J1,zV,jF,K2,Jh,XR,Zd,Q9,Yy,UH,YY,cU,VJ,Zo,Xf,QT,yd,ym,dU,fD,fG,Zh,YB,yV,Yx,aF,Zp,XX,jE,Y6,je,cO,qC,QM,Js,Z8,Xt,yH,iG,XT,YD,XV,XU,J6,YC,YF,YE,ZO,Q6,Jz,h1,h2,Y2,Lg,RD,UU,c,d,d.symm]
end
def Jl(l:Int)(ks ps:List Int)(hi sd:Option Int):DV:=.tup [.int l,.tup (ks.map .int),.tup (ps.map .int),opt hi,opt sd]
def cu(ks:List Int)(k:Int):Nat:=(ks.filter λx=>decide (x<=k)).length
def bU(ks:List Int)(k:Int):Nat:=(ks.filter λx=>decide (x<k)).length
def DN(ks:List Int)(k:Int):cu ks k<=ks.length:=List.length_filter_le _ _
def QiV(ks:List Int)(k:Int):bU ks k<=ks.length:=List.length_filter_le _ _
theorem BQ{f:aD}{env:En}{hp:Hs}{ds:List DV}(hf:f env hp=some (.tup ds,hp)):i_ f env hp=some (ds,hp):=by unfold i_;rw[Ql hf];rfl
theorem Mz{t:bH}{p:Int->Bool}(ks:List Int)(k:Int)(c:ks.length<=100)(a:∀x hp,t [.val (.int x),.val (.int k)] hp=some (p x,hp))(hp:Hs):QL Zp (Qc (Z9 false (dh (i_ (Qb 0))) [1] t (Qb 0)) Qk) [.val (.tup (ks.map .int)),.val (.int k)] hp=some (.int (ks.filter p).length,hp):=by
 have q:Z9 false (dh (i_ (Qb 0))) [1] t (Qb 0) [.val (.tup (ks.map .int)),.val (.int k)] hp=some (.lst (((ks.filter p).map λx=>x).map .int),hp):=by unfold Z9;rw[Ql (GN (BQ (ds:=ks.map .int) (Qe rfl)))];exact(Ql (Qbl (p:=p) (g:=λx=>x) ks (λi hi=>D_ (ks.map .int) i (by rw[Bm];exact hi) hp) (λx=>a x hp) (λx=>rfl) ⋯)).trans rfl
 rw[Zr (QK q) (Rt ..),Bm,Bm]
def MF(ks:List Int)(k:Int)(a:ks.length<=100):Je [.tup (ks.map .int),.int k]=pure (.int (cu ks k)):=PX λhp=>QH (env:=[.val (.tup (ks.map .int)),.val (.int k)]) (QJ (Mz ks k a (λ_ _=>rfl) hp))
def K_(ks:List Int)(k:Int)(a:ks.length<=100):Yd [.tup (ks.map .int),.int k]=pure (.int (bU ks k)):=PX λhp=>QH (env:=[.val (.tup (ks.map .int)),.val (.int k)]) (QJ (Mz ks k a (λ_ _=>rfl) hp))
theorem Qgp(l:Int)(ks ps:List Int)(hi sd:Option Int)(k:Int)(j:ks.length<=100)(hp:ps.length=ks.length):X4 [Jl l ks ps hi sd,.int k]=pure (if bU ks k=cu ks k then .non else .int (ps.getD (bU ks k) 0)):=by
 have h:=DN ks k;have n:=QiV ks k;refine y8 (env:=[.val (Jl l ks ps hi sd),.val (.int k),.val (.tup (ks.map .int)),.val (.int (bU ks k))]) ?_;refine(JC (JX (d:=.tup (ks.map .int)) rfl)).trans ?_;refine(JC (JX (d:=.int (bU ks k)) (uY (x:=.tup (ks.map .int)) (y:=.int k) rfl rfl (K_ ks k j)))).trans ?_;have e:eB (Qi cG (Qb 3) (QB 2 Je (Qc (Qb 2) (Qc (Qb 1) Qk)))) [.val (Jl l ks ps hi sd),.val (.int k),.val (.tup (ks.map .int)),.val (.int (bU ks k))]=pure (decide (bU ks k=cu ks k)):=by refine DZ (yG (x:=.int (bU ks k)) (y:=.int (cu ks k)) rfl (uY (x:=.tup (ks.map .int)) (y:=.int k) rfl rfl (MF ks k j)) ?_);rw[Jh];congr 2;rw[Bool.eq_iff_iff];simp only[beq_iff_eq,decide_eq_true_eq];lia
 by_cases c:bU ks k=cu ks k
 ·rw[Cf c];exact QhU ((HI (e.trans (by simp[c]))).trans (xb rfl))
 ·rw[Ce c];refine(JC ((HK (e.trans (by simp[c]))).trans rfl)).trans ?_;have m:bU ks k<ks.length:=by
   have:bU ks k<=cu ks k:=by unfold bU cu;rw[<- List.countP_eq_length_filter,<- List.countP_eq_length_filter];exact List.countP_mono_left λx _ hx=>by simp at hx ⊢;lia
   lia
  have a:=P0 ps (i:=(bU ks k:Int)) ⋯ ⋯;rw[Bs]at a;exact xb (yG (x:=.tup (ps.map .int)) (y:=.int (bU ks k)) rfl rfl (by simp[bR,a]))
theorem Yk{f:aD}{g:aW}{env:En}{x:DV}{xs:List DV}{hp hp1 a:Hs}(h:f env hp=some (x,hp1))(h':g env hp1=some (xs,a)):Qc f g env hp=some (x::xs,a):=by unfold Qc;rw[Ql h,Ql h'];rfl
theorem Qi7{F:Cs}{f e a i:aD}{env:En}{x y z u d:DV}(h:f env=pure x)(h':e env=pure y)(c:a env=pure z)(h3:i env=pure u)(j:F [x,y,z,u]=pure d):QB 4 F (Qc f (Qc e (Qc a (Qc i Qk)))) env=pure d:=by simp[QB,Qc,Qk,h,h',c,h3,Qy,j]
def Qar(l:Int)(ks ps:List Int)(hi sd:Option Int)(a b:DV):x5 [Jl l ks ps hi sd,a,b]=pure (.tup [.int l,a,b,opt hi,opt sd]):=rfl
theorem Mb(ks ns:List Int)(a b:Nat)(h:ks.length<=1000)(hn:ns.length<=10):(do let x <- fO (.tup (ks.map .int)) none (some (a:Int));let y <- Zf x (.tup (ns.map .int));let d <- fO (.tup (ks.map .int)) (some (b:Int)) none;Zf y d:M DV)=pure (.tup ((ks.take a++ns++ks.drop b).map .int)):=by rw[GF,GE];simp only[Ck,Zf];rw[Jq (by simp;lia)];simp only[Qy,if_true,Ck];rw[Jq (by simp;lia)];simp[List.map_take,List.map_drop]
theorem Iw{f g h q:aD}{env:En}{ks ns:List Int}{a b:Nat}(hf:f env=pure (.tup (ks.map .int)))(e:g env=pure (.int (a:Int)))(i:h env=pure (.int (b:Int)))(m:q env=pure (.tup (ns.map .int)))(j:ks.length<=1000)(hn:ns.length<=10):Qi Zf (Qi Zf (cA f ZS (Zw g)) q) (cA f (Zw h) ZS) env=pure (.tup ((ks.take a++ns++ks.drop b).map .int)):=by
 have c:cA f ZS (Zw g) env=fO (.tup (ks.map .int)) none (some (a:Int)):=by simp only[cA,hf,e,ZS,Zw,cO,Ck]
 have d:cA f (Zw h) ZS env=fO (.tup (ks.map .int)) (some (b:Int)) none:=by simp only[cA,hf,i,ZS,Zw,cO,Ck]
 rw[<- Mb ks ns a b j hn];simp only[Qi,c,d,m,Ck,bind_assoc]
theorem QaS(l:Int)(ks ps nk a:List Int)(hi sd:Option Int)(k:Int)(c:ks.length<=100)(hp:ps.length<=100)(h1:nk.length<=10)(h2:a.length<=10):x6 [Jl l ks ps hi sd,.int k,.tup (nk.map .int),.tup (a.map .int)]=pure (Jl l (ks.take (bU ks k)++nk++ks.drop (cu ks k)) (ps.take (bU ks k)++a++ps.drop (cu ks k)) hi sd):=by refine y8 (env:=[.val (Jl l ks ps hi sd),.val (.int k),.val (.tup (nk.map .int)),.val (.tup (a.map .int)),.val (.tup (ks.map .int)),.val (.tup (ps.map .int)),.val (.int (bU ks k:Int)),.val (.int (cu ks k:Int))]) ?_;refine(JC (JX (d:=.tup (ks.map .int)) rfl)).trans ?_;refine(JC (JX (d:=.tup (ps.map .int)) rfl)).trans ?_;refine(JC (JX (d:=.int (bU ks k:Int)) (uY (x:=.tup (ks.map .int)) (y:=.int k) rfl rfl (K_ ks k c)))).trans ?_;refine(JC (JX (d:=.int (cu ks k:Int)) (uY (x:=.tup (ks.map .int)) (y:=.int k) rfl rfl (MF ks k c)))).trans ?_;exact xb (Qi6 (x:=Jl l ks ps hi sd) rfl (Iw rfl rfl rfl rfl ⋯ h1) (Iw rfl rfl rfl rfl ⋯ h2) (Qar l ks ps hi sd _ _))
def HY(ks:List Int)(c:Nat)(k:Int):List Int:=ks.take c++k::ks.drop c
theorem QmG(ks:List Int)(c:Nat)(k:Int)(h:ks.length<=1000):(do let a <- fO (.tup (ks.map .int)) none (some (c:Int));let b <- Zf a (.tup [.int k]);let d <- fO (.tup (ks.map .int)) (some (c:Int)) none;Zf b d:M DV)=pure (.tup ((HY ks c k).map .int)):=by rw[GF,GE];simp only[Ck,Zf];rw[Jq (by simp;lia)];simp only[Qy,if_true,Ck];rw[Jq (by simp;lia)];simp[HY,List.map_take,List.map_drop]
def qe(l:Int)(n:Nat):Nat:=if l=0 then n / 2 else n / 2+1
def CZ(l:Int)(ks ps:List Int)(hi sd:Option Int)(a:Int):DV :=
 .tup [Jl l (ks.take (ks.length / 2)) (ps.take (qe l ks.length)) (some (ks.getD (ks.length / 2) 0)) (some a),Jl l (ks.drop (qe l ks.length)) (ps.drop (qe l ks.length)) hi sd,.int (ks.getD (ks.length / 2) 0)]
theorem QdI(l:Int)(ks ps:List Int)(hi sd:Option Int)(c:Int)(h3:3<=ks.length)(z:ks.length<=100):yv [Jl l ks ps hi sd,.int c]=pure (CZ l ks ps hi sd c):=by
 have hm:((ks.length:Int)) / 2=((ks.length / 2:Nat):Int):=⋯
 have a:=P0 ks (i:=((ks.length / 2:Nat):Int)) ⋯ ⋯;rw[Bs]at a;have o:(if l=0 then DV.int ((ks.length / 2:Nat):Int)else .int (((ks.length / 2:Nat):Int)+1))=.int ((qe l ks.length:Nat):Int):=by unfold qe;split<;>simp
 generalize u:qe l ks.length=C at o;generalize v:ks.getD (ks.length / 2) 0=e at a;have r:b_ (eB (Qi cG (Qb 2) (eC (.int 0)))) (Qb 5) (Qi Zf (Qb 5) (eC (.int 1))) [.val (Jl l ks ps hi sd),.val (.int c),.val (.int l),.val (.tup (ks.map .int)),.val (.tup (ps.map .int)),.val (.int ((ks.length / 2:Nat):Int)),.val (.int e),.un,.un,.un]=pure (.int (C:Int)):=by
  rw[<- o];by_cases q:l=0
  ·simp[b_,eB,Qi,Qb,eC,Jh,c7,q]
  ·have:(l==0)=false:=by simpa using q
   simp[b_,eB,Qi,Qb,eC,Jh,c7,q,this,JG]
 unfold CZ;rw[u,v];refine y8 (env:=[.val (Jl l ks ps hi sd),.val (.int c),.val (.int l),.val (.tup (ks.map .int)),.val (.tup (ps.map .int)),.val (.int ((ks.length / 2:Nat):Int)),.val (.int e),.val (.int (C:Int)),.val (Jl l (ks.take (ks.length / 2)) (ps.take C) (some e) (some c)),.val (Jl l (ks.drop C) (ps.drop C) hi sd)]) ?_;refine(JC (JX (d:=.int l) rfl)).trans ?_;refine(JC (JX (d:=.tup (ks.map .int)) rfl)).trans ?_;refine(JC (JX (d:=.tup (ps.map .int)) rfl)).trans ?_;refine(JC (JX (d:=.int ((ks.length / 2:Nat):Int)) ?_)).trans ?_
 ·refine yG (x:=.int (ks.length:Int)) (y:=.int 2) ?_ rfl ((qP _ 2 (by decide) (by decide)).trans (by rw[hm]));show(pure (DV.int ((ks.map DV.int).length:Int)):M DV)=_;rw[Bm]
 refine(JC (JX (d:=.int e) (yG (x:=.tup (ks.map .int)) (y:=.int ((ks.length / 2:Nat):Int)) rfl rfl (Qha a)))).trans ?_;refine(JC (JX (d:=.int (C:Int)) r)).trans ?_;refine(JC (JX (d:=Jl l (ks.take (ks.length / 2)) (ps.take C) (some e) (some c)) ?_)).trans ?_
 ·have j:=kS (f:=Qb 3) (g:=Qb 5) (env:=[.val (Jl l ks ps hi sd),.val (.int c),.val (.int l),.val (.tup (ks.map .int)),.val (.tup (ps.map .int)),.val (.int ((ks.length / 2:Nat):Int)),.val (.int e),.val (.int (C:Int)),.un,.un]) (ds:=ks.map .int) (m:=ks.length / 2) rfl rfl;have n:=kS (f:=Qb 4) (g:=Qb 7) (env:=[.val (Jl l ks ps hi sd),.val (.int c),.val (.int l),.val (.tup (ks.map .int)),.val (.tup (ps.map .int)),.val (.int ((ks.length / 2:Nat):Int)),.val (.int e),.val (.int (C:Int)),.un,.un]) (ds:=ps.map .int) (m:=C) rfl rfl;simp only[List.set_cons_succ,List.set_cons_zero,Bf,List.map_nil,Be,List.length_nil,List.cons_append,List.nil_append,List.replicate,ZD,Qc,Qk,j,n,Ck];simp only[Jl,List.map_take,opt];rfl
 refine(JC (JX (d:=Jl l (ks.drop C) (ps.drop C) hi sd) ?_)).trans ?_
 ·have j:=kR (f:=Qb 3) (g:=Qb 7) (env:=[.val (Jl l ks ps hi sd),.val (.int c),.val (.int l),.val (.tup (ks.map .int)),.val (.tup (ps.map .int)),.val (.int ((ks.length / 2:Nat):Int)),.val (.int e),.val (.int (C:Int)),.val (Jl l (ks.take (ks.length / 2)) (ps.take C) (some e) (some c)),.un]) (ds:=ks.map .int) (m:=C) rfl rfl;have n:=kR (f:=Qb 4) (g:=Qb 7) (env:=[.val (Jl l ks ps hi sd),.val (.int c),.val (.int l),.val (.tup (ks.map .int)),.val (.tup (ps.map .int)),.val (.int ((ks.length / 2:Nat):Int)),.val (.int e),.val (.int (C:Int)),.val (Jl l (ks.take (ks.length / 2)) (ps.take C) (some e) (some c)),.un]) (ds:=ps.map .int) (m:=C) rfl rfl;simp only[List.set_cons_succ,List.set_cons_zero,Bf,List.map_nil,Be,List.length_nil,List.cons_append,List.nil_append,List.replicate,ZD,Qc,Qk,j,n,Ck];simp only[Jl,List.map_drop];rfl
 exact xb rfl
theorem VH(p:TR.Pg):aY p=Jl p.lv p.ks p.ps p.hi (p.sd.map λn=>(n:Int)):=by unfold aY Jl;cases p.sd<;>rfl
theorem QfG(p:TR.Pg)(k:Int)(a:p.ks.length<=100)(hp:p.ps.length=p.ks.length):X4 [aY p,.int k]=pure (opt (TR.JD p k)):=by
 rw[VH,Qgp _ _ _ _ _ _ a hp];unfold TR.JD;by_cases h:bU p.ks k=cu p.ks k
 ·rw[Cf h,Cf (show TR.bU p.ks k=TR.cu p.ks k from h)];rfl
 ·rw[Ce h,Ce (show ¬ TR.bU p.ks k=TR.cu p.ks k from h)];have h1:=TR.QgH p.ks k;have h2:=TR.DN p.ks k;have h3:¬ TR.bU p.ks k=TR.cu p.ks k:=h;rw[List.getD_eq_getElem?_getD,show p.ps[bU p.ks k]?=some (p.ps[TR.bU p.ks k]'⋯)from Af _,Af (show TR.bU p.ks k<p.ps.length by lia)];rfl
theorem Qhz(p:TR.Pg)(k x:Int)(a:p.ks.length<=100)(hp:p.ps.length<=100):jn [aY p,.int k,.int x]=pure (aY (TR.ZH p k x)):=by have e:=QaS p.lv p.ks p.ps [k] [x] p.hi (p.sd.map λn=>(n:Int)) k a hp (by simp) (by simp);rw[VH,VH];refine y8 (env:=[.val (Jl p.lv p.ks p.ps p.hi (p.sd.map λn=>(n:Int))),.val (.int k),.val (.int x)]) (xb (Qi7 rfl rfl rfl rfl (e.trans ?_)));simp[TR.ZH,TR.bU,TR.cu,bU,cu]
theorem Qhy(p:TR.Pg)(O4:Nat):YH [aY p,.int O4]=pure (.bl (decide (O4<p.ks.length))):=by
 have e:(decide ((O4:Int)<((p.ks.map DV.int).length:Int)))=decide (O4<p.ks.length):=by rw[Bm];congr 1;rw[eq_iff_iff];lia
 refine y8 (env:=[.val (aY p),.val (.int O4)]) (xb (yG (x:=.int ((p.ks.map DV.int).length:Int)) (y:=.int O4) rfl rfl ((Xm _ _).trans ?_)));rw[<- e]
theorem QdK(p:TR.Pg)(n:Nat)(h3:3<=p.ks.length)(c:p.ks.length<=100):yv [aY p,.int n]=pure (.tup [aY (TR.jY p n),aY (TR.zG p),.int (TR.lO p)]):=by
 rw[VH,QdI _ _ _ _ _ _ h3 c];unfold CZ;rw[VH,VH];have a:qe p.lv p.ks.length=TR.qe p:=by
  unfold qe TR.qe TR.mid;by_cases h:p.lv=0
  ·simp[h]
  ·rw[Ce h,Ce ⋯]
 rw[a];rfl
structure At(hp:Hs)(n k a f q:Nat)(S:TR.Sh)(w:TR.Wk):Prop where
 h1:hp[n]?=some (.ins "Shelf" (aO S.O4 k S.top S.rd S.wr))
 h2:hp[k]?=some (.lst (S.pg.map aY))
 h3:hp[a]?=some (dB n f q w)
 h4:hp[f]?=some (.aH (nR w.O5))
 h5:hp[q]?=some (.lst (Wc w.pairs))
structure iT(n k a f q:Nat):Prop where
 nk:n≠k
 na:n≠a
 nf:n≠f
 nq:n≠q
 ka:k≠a
 kf:k≠f
 kq:k≠q
 af:a≠f
 aq:a≠q
 fq:f≠q
def Fr(hp c:Hs)(n k a f q:Nat):Prop:=hp.length<=c.length/\∀i,i<hp.length->i≠n->i≠k->i≠a->i≠f->i≠q->c[i]?=hp[i]?
section
variable{hp hp' hp2:Hs}{n k a f q:Nat}{S S':TR.Sh}{w w':TR.Wk}
def Fr.trans(x:Fr hp hp' n k a f q)(y:Fr hp' hp2 n k a f q):Fr hp hp2 n k a f q:=⟨Bj x.1 y.1,λi hi c d e j m=>(y.2 i (Az hi x.1) c d e j m).trans (x.2 i hi c d e j m)⟩
def gs{n m:Nat}{X:OV}{Y:Option OV}(h:n≠m)(h':hp[m]?=Y):(hp.set n X)[m]?=Y:=(Q6 _ _ _ _ h).trans h'
theorem fY{n:Nat}{X Y:OV}(h':hp[n]?=some Y):(hp.set n X)[n]?=some X:=ZO _ _ _ (by rw[h'];rfl)
theorem At.walk(A:At hp n k a f q S w)(D:iT n k a f q)(w':TR.Wk)(d:w'.O5=w.O5)(e:w'.pairs=w.pairs):At (hp.set a (dB n f q w')) n k a f q S w'/\Fr hp (hp.set a (dB n f q w')) n k a f q :=
 ⟨⟨gs D.na.symm A.h1,gs D.ka.symm A.h2,fY A.h3,gs D.af (by rw[d];exact A.h4),gs D.aq (by rw[e];exact A.h5)⟩,by simp,λi hi j m c o r=>Q6 _ _ _ _ (Ne.symm c)⟩
theorem At.shelf(A:At hp n k a f q S w)(D:iT n k a f q)(S':TR.Sh)(e:S'.O4=S.O4):At ((hp.set n (.ins "Shelf" (aO S.O4 k S'.top S'.rd S'.wr))).set k (.lst (S'.pg.map aY))) n k a f q S' w/\Fr hp ((hp.set n (.ins "Shelf" (aO S.O4 k S'.top S'.rd S'.wr))).set k (.lst (S'.pg.map aY))) n k a f q :=
 ⟨⟨gs D.nk.symm (by rw[e];exact fY A.h1),fY (gs D.nk A.h2),gs D.ka (gs D.na A.h3),gs D.kf (gs D.nf A.h4),gs D.kq (gs D.nq A.h5)⟩,by simp,λi hi c d j m o=>(Q6 _ _ _ _ (Ne.symm d)).trans (Q6 _ _ _ _ (Ne.symm c))⟩
theorem At.count(A:At hp n k a f q S w)(D:iT n k a f q)(S':TR.Sh)(e:S'.O4=S.O4)(d:S'.pg=S.pg):At (hp.set n (.ins "Shelf" (aO S.O4 k S'.top S'.rd S'.wr))) n k a f q S' w/\Fr hp (hp.set n (.ins "Shelf" (aO S.O4 k S'.top S'.rd S'.wr))) n k a f q :=
 ⟨⟨by rw[e];exact fY A.h1,gs D.nk (by rw[d];exact A.h2),gs D.na A.h3,gs D.nf A.h4,gs D.nq A.h5⟩,by simp,λi hi c j m o r=>Q6 _ _ _ _ (Ne.symm c)⟩
theorem Qhf(ps:List TR.Pg)(p:TR.Pg):ps.map aY++[aY p]=(ps++[p]).map aY:=by simp
theorem map_set(ps:List TR.Pg)(i:Nat)(p:TR.Pg):(ps.map aY).set i (aY p)=(ps.set i p).map aY:=by rw[List.map_set]
def bY(A:At hp n k a f q S w){env:En}(h:env[0]?=some (.val (.ref a))):QT "Walk" "shelf" (Qb 0) env hp=some (.ref n,hp):=QV (Qe h) A.h3 (uB ..)
theorem Qd3(A:At hp n k a f q S w)(D:iT n k a f q){i:Nat}(hi:i<S.pg.length)(P:TR.Pg)(h3:S.O4<P.ks.length->3<=P.ks.length)(F:P.ks.length<=100)(I:S.pg.length<90000) :
  ∃hp',qA [.ref a,.int i,aY P] hp=some (oN (TR.Xo S w i P).1,hp')/\At hp' n k a f q (TR.Xo S w i P).2.1 (TR.Xo S w i P).2.2/\Fr hp hp' n k a f q:=by
 have t0:QB 2 YH (Qc (Qb 2) (Qc (QM "Shelf" "room" 1 ZY (QT "Walk" "shelf" (Qb 0)) Qk) Qk)) [.val (.ref a),.val (.int i),.val (aY P),.un] hp=some (.bl (decide (S.O4<P.ks.length)),hp) :=
  QP (Zn (Qe rfl) (QY (bY A rfl) A.h1 (RG ..) Jp rfl (Oo A.h1))) rfl (JU (Qhy P S.O4) hp)
 unfold TR.Xo;by_cases u:P.ks.length<=S.O4
 ·rw[Cf u];have hd:decide (S.O4<P.ks.length)=false:=Cj ⋯;rw[hd]at t0;have m:Z2 (eB (QB 2 YH (Qc (Qb 2) (Qc (QM "Shelf" "room" 1 ZY (QT "Walk" "shelf" (Qb 0)) Qk) Qk)))) [.val (.ref a),.val (.int i),.val (aY P),.un] hp=some (true,hp):=Z5 (b:=false) (Q0 t0);have wr:=GL (d:=aY P) (i:=i) A.h1 A.h2 D.nk (by simpa using hi);rw[map_set]at wr;obtain⟨A1,e⟩:=A.shelf D { S with pg:=S.pg.set i P,wr:=S.wr+1 } rfl;obtain⟨A2,j⟩:=A1.walk D { w with O7:=true } rfl rfl;refine⟨_,?_,A2,e.trans j⟩;refine QH (env:=[.val (.ref a),.val (.int i),.val (aY P),.un]) (ZP ((J8 m).trans ?_));refine(Qj (ZG (QY (bY A rfl) A.h1 (jL ..) (Zn (Qe rfl) (Qe rfl)) rfl wr))).trans ?_;exact(Qj (Jy (v:=.bl true) rfl (Qe rfl) A1.h3 wl)).trans (QJ (d:=.non) rfl)
 ·rw[Ce u];have hd:decide (S.O4<P.ks.length)=true:=Ch ⋯;rw[hd]at t0;have m:Z2 (eB (QB 2 YH (Qc (Qb 2) (Qc (QM "Shelf" "room" 1 ZY (QT "Walk" "shelf" (Qb 0)) Qk) Qk)))) [.val (.ref a),.val (.int i),.val (aY P),.un] hp=some (false,hp):=Z5 (b:=true) (Q0 t0);have pl:(S.pg.map aY).length=S.pg.length:=by simp
  have G:=QdK P S.pg.length (h3 ⋯) F;have x:=RA (pg:=aY (TR.zG P)) A.h1 A.h2 D.nk (by rw[pl];lia);rw[pl,Qhf]at x;obtain⟨A1,e⟩:=A.shelf D { S with pg:=S.pg++[TR.zG P],wr:=S.wr+1 } rfl;obtain⟨A2,j⟩:=A1.walk D { w with O1:=some S.pg.length } rfl rfl;have wr:=GL (d:=aY (TR.jY P S.pg.length)) (i:=i) A2.h1 A2.h2 D.nk (by simp;lia);rw[map_set]at wr;obtain⟨A3,y⟩:=A2.shelf D { S with pg:=(S.pg++[TR.zG P]).set i (TR.jY P S.pg.length),wr:=S.wr+1+1 } rfl;obtain⟨o,z⟩:=A3.walk D { w with O1:=some S.pg.length,aim:=TR.lO P } rfl rfl;obtain⟨c,C⟩:=o.walk D { w with O1:=some S.pg.length,aim:=TR.lO P,O6:=P.lv+1 } rfl rfl;obtain⟨r,E⟩:=c.walk D { w with O1:=some S.pg.length,aim:=TR.lO P,O6:=P.lv+1,place:=TR.mQ w.O5 (P.lv+1) } rfl rfl;refine⟨_,?_,r,e.trans (j.trans (y.trans (z.trans (C.trans E))))⟩;refine QH (env:=[.val (.ref a),.val (.int i),.val (aY P),.val (.tup [aY (TR.jY P S.pg.length),aY (TR.zG P),.int (TR.lO P)])]) ?_;refine(Qj ((Zv m).trans ZB)).trans ?_;have pg:=Rq A.h1 A.h2;rw[pl]at pg;refine(Qj (Qv (QP (Zn (Qe rfl) (QY (bY A rfl) A.h1 (Ug ..) Jp rfl pg)) rfl (JU G hp)))).trans ?_;refine(Qj (Jy (QY (bY A rfl) A.h1 (Qd4 ..) (QK (Qn (Qe rfl) rfl (Ze (i:=1) rfl _))) rfl x) (Qe rfl) A1.h3 wl)).trans ?_;refine(Qj (ZG (QY (bY A2 rfl) A2.h1 (jL ..) (Zn (Qe rfl) (Qn (Qe rfl) rfl (Ze (i:=0) rfl _))) rfl wr))).trans ?_;refine(Qj (Jy (Qn (Qe rfl) rfl (Ze (i:=2) rfl _)) (Qe rfl) A3.h3 wl)).trans ?_;refine(Qj (Jy (v:=.int ((P.lv+1:Nat):Int)) (Qn (Qn (Qe rfl) rfl (Mq P _)) rfl rfl) (Qe rfl) o.h3 wl)).trans ?_;have dg:Zo "dict" Yx (QT "Walk" "forks" (Qb 0)) (Qc (QT "Walk" "goal" (Qb 0)) Qk) [.val (.ref a),.val (.int i),.val (aY P),.val (.tup [aY (TR.jY P S.pg.length),aY (TR.zG P),.int (TR.lO P)])] _=some (oN (TR.mQ w.O5 (P.lv+1)),_) :=
   QgT (QV (Qe rfl) c.h3 (Qd9 ..)) c.h4 (QK (QV (Qe rfl) c.h3 (Rx ..)))
  refine(Qj (Jy dg (Qe rfl) c.h3 wl)).trans ?_;exact QJ (QV (Qe rfl) r.h3 (Qif ..))
end
theorem kh(S:TR.Sh)(w:TR.Wk)(i:Nat)(P:TR.Pg):(TR.Xo S w i P).2.2.O3=w.O3:=by unfold TR.Xo;split<;>rfl
section
variable{hp:Hs}{n k a f q:Nat}{S:TR.Sh}{w:TR.Wk}{i:Nat}{p:TR.Pg}
theorem Rw(A:At hp n k a f q S w)(D:iT n k a f q){env:En}(d:env[0]?=some (.val (.ref a)))(j:env[2]?=some (.val (aY p)))(h1:p.ks.length<=100)(h2:p.ps.length=p.ks.length) :
  ∃c,Q9 "Walk" "worth" (Qb 0) (QB 2 X4 (Qc (Qb 2) (Qc (QT "Walk" "aim" (Qb 0)) Qk))) env hp=some ((.nx,env),c)/\At c n k a f q S { w with O3:=TR.JD p w.aim }/\Fr hp c n k a f q:=by
 obtain⟨A1,e⟩:=A.walk D { w with O3:=TR.JD p w.aim } rfl rfl;exact⟨_,Jy (QP (Zn (Qe j) (QV (Qe d) A.h3 (kr ..))) rfl (JU (QfG p w.aim h1 h2) hp)) (Qe d) A.h3 wl,A1,e⟩
theorem QgZ(A:At hp n k a f q S w)(D:iT n k a f q)(h1:p.ks.length<=100)(h2:p.ps.length=p.ks.length) :
  ∃c,XE [.ref a,.int i,aY p] hp=some (.tup [.str "found", .int i,opt (TR.JD p w.aim)],c)/\At c n k a f q S { w with O3:=TR.JD p w.aim,O7:=true }/\Fr hp c n k a f q:=by
 obtain⟨hp1,j,A1,d⟩:=Rw (env:=[.val (.ref a),.val (.int i),.val (aY p)]) A D rfl rfl h1 h2;obtain⟨A2,e⟩:=A1.walk D { w with O3:=TR.JD p w.aim,O7:=true } rfl rfl;refine⟨_,?_,A2,d.trans e⟩;refine QH (env:=[.val (.ref a),.val (.int i),.val (aY p)]) ?_;refine(Qj j).trans ((Qj (Jy (v:=.bl true) rfl (Qe rfl) A1.h3 wl)).trans ?_);exact QJ (Xw (xx rfl (Qe rfl) (QV (Qe rfl) A2.h3 (VW ..))) (by simp))
theorem Ml(A:At hp n k a f q S w)(D:iT n k a f q)(hi:i<S.pg.length){x y:Int}(hd:w.O2=.put y x)(h1:p.ks.length<=90)(h2:p.ps.length=p.ks.length)(h3:S.O4<(TR.ZH p w.aim x).ks.length->3<=(TR.ZH p w.aim x).ks.length)(h4:(TR.ZH p w.aim x).ks.length<=100)(u:S.pg.length<90000) :
  ∃c,Yp [.ref a,.int i,aY p] hp=some (.tup [.str "put", .int i,opt (TR.JD p w.aim),oN (TR.Xo S { w with O3:=TR.JD p w.aim } i (TR.ZH p w.aim x)).1],c)/\At c n k a f q (TR.Xo S { w with O3:=TR.JD p w.aim } i (TR.ZH p w.aim x)).2.1 (TR.Xo S { w with O3:=TR.JD p w.aim } i (TR.ZH p w.aim x)).2.2/\Fr hp c n k a f q:=by
 obtain⟨hp1,o,A1,e⟩:=Rw (env:=[.val (.ref a),.val (.int i),.val (aY p),.un]) A D rfl rfl ⋯ h2;obtain⟨d,r,A2,j⟩:=Qd3 A1 D hi (TR.ZH p w.aim x) h3 h4 u;refine⟨d,?_,A2,e.trans j⟩;refine QH (env:=[.val (.ref a),.val (.int i),.val (aY p),.val (oN (TR.Xo S { w with O3:=TR.JD p w.aim } i (TR.ZH p w.aim x)).1)]) ?_;refine(Qj o).trans ?_;have m:aF (JK w.O2) (.int 2) hp1=some (.int x,hp1):=by rw[hd];exact Ze (i:=2) rfl hp1
 refine(Qj (Qv (QY (Qe rfl) A1.h3 (BH ..) (Zn (Qe rfl) (QP (xx (Qe rfl) (QV (Qe rfl) A1.h3 (kr ..)) (Qn (QV (Qe rfl) A1.h3 (GK ..)) rfl m)) rfl (JU (Qhz p w.aim x ⋯ ⋯) hp1))) rfl r))).trans ?_;refine QJ (Xw (Dj rfl (Qe rfl) (QV (Qe rfl) A2.h3 ((VW ..).trans ?_)) (Qe rfl)) (by simp));rw[kh]
end
def dd(k:Int):Nat->TR.cW
 |0=>.put k 7
 |1=>.put (200+k) (-8)
 |_=>.find k
def lf(k:Int):Nat->TR.Pg
 |0=>⟨0,[],[],none,none⟩
 |1=>⟨0,[k],[7],none,none⟩
 |_=>⟨0,[k,200+k],[7,-8],none,none⟩
def g_(r:Nat)(k:Int)(i:Nat)(a b:Int):TR.Sh:=⟨r,[lf k i],0,a,b⟩
def nx(n:Nat):Nat:=if n<2 then n+1 else 2
def iV(k:Int)(n:Nat):TR.Wk:={ TR.fresh (dd k n)with O3:=if n<2 then none else some 7,O7:=true }
def sJ(n:Nat):List DV:=if n<2 then [.str "put", .int 0,.non,.non]else [.str "found", .int 0,.int 7]
theorem zf:PyData.strOk "find" = true:=by decide +kernel
theorem YG:PyData.strOk "put" = true:=by decide +kernel
section
variable{hp:Hs}{s a f q r n:Nat}{k x y:Int}
theorem HM(hn:n<3)(J:2<=r)(A:At hp s (s+1) a f q (g_ r k n x y) (TR.fresh (dd k n)))(D:iT s (s+1) a f q):∃c G I,YJ [.ref a,.int 0,aY (lf k n)] hp=some (.tup (sJ n),c)/\At c s (s+1) a f q (g_ r k (nx n) G I) (iV k n)/\Fr hp c s (s+1) a f q:=by
 have j:k<200+k:=⋯
 have m:k<=200+k:=⋯
 have C:¬ 200+k<k:=⋯
 have E:¬ 200+k<=k:=⋯
 have u:∀(z:Sl),QT "Walk" "deed" (Qb 0) [.val (.ref a),.val (.int 0),.val (aY (lf k n)),z] hp=some (JK (dd k n),hp):=λz=>QV (Qe rfl) A.h3 (GK ..);obtain rfl|rfl|rfl:n=0∨n=1∨n=2:=⋯
 ·obtain⟨c,e,d,F⟩:=Ml (i:=0) (p:=lf k 0) A D (Nat.le_of_ble_eq_true rfl) (x:=7) (y:=k) rfl (Nat.le_of_ble_eq_true rfl) rfl (λh=>by exfalso;exact absurd h (by show ¬ r<1;lia)) (Nat.le_of_ble_eq_true rfl) (Nat.le_of_ble_eq_true rfl);have o:TR.Xo (g_ r k 0 x y) { TR.fresh (dd k 0)with O3:=TR.JD (lf k 0) (TR.fresh (dd k 0)).aim } 0 (TR.ZH (lf k 0) (TR.fresh (dd k 0)).aim 7)=(none,g_ r k 1 x (y+1),iV k 0):=Cf (show 1<=r by lia);rw[o]at e d;exact⟨c,_,_,QH (env:=[.val (.ref a),.val (.int 0),.val (aY (lf k 0)),.val (.str "put")]) ((Qj (Qv (Qn (u .un) rfl (Ze (i:=0) rfl hp)))).trans ((Qj ((Zv (Q0 (Qn (Qe rfl) rfl (iH (b:=false) _ YG zf rfl)))).trans ZB)).trans (ZP ((J8 (Q0 (Qn (Qe rfl) rfl (iH (b:=true) _ YG YG rfl)))).trans (QJ (QY (Qe rfl) A.h3 (Lw ..) (Zn (Qe rfl) (Qe rfl)) rfl e)))))),d,F⟩
 ·obtain⟨c,e,d,F⟩:=Ml (i:=0) (p:=lf k 1) A D (Nat.le_of_ble_eq_true rfl) (x:=-8) (y:=200+k) rfl (Nat.le_of_ble_eq_true rfl) rfl (λh=>by exfalso;revert h;show ¬ r<(TR.ZH (lf k 1) (200+k) (-8)).ks.length;simp[TR.ZH,lf,TR.bU,TR.cu,j,m];lia) (by show(TR.ZH (lf k 1) (200+k) (-8)).ks.length<=100;simp[TR.ZH,lf,TR.bU,TR.cu,j,m]) (Nat.le_of_ble_eq_true rfl);have v:TR.ZH (lf k 1) (TR.fresh (dd k 1)).aim (-8)=lf k 2:=by show TR.ZH (lf k 1) (200+k) (-8)=lf k 2;simp[TR.ZH,lf,TR.bU,TR.cu,j,m]
  have wo:TR.JD (lf k 1) (TR.fresh (dd k 1)).aim=none:=by show TR.JD (lf k 1) (200+k)=none;simp[TR.JD,lf,TR.bU,TR.cu,j,m]
  have o:TR.Xo (g_ r k 1 x y) { TR.fresh (dd k 1)with O3:=none } 0 (lf k 2)=(none,g_ r k 2 x (y+1),iV k 1):=Cf (show 2<=r by lia);rw[v,wo,o]at e;rw[v,wo,o]at d;exact⟨c,_,_,QH (env:=[.val (.ref a),.val (.int 0),.val (aY (lf k 1)),.val (.str "put")]) ((Qj (Qv (Qn (u .un) rfl (Ze (i:=0) rfl hp)))).trans ((Qj ((Zv (Q0 (Qn (Qe rfl) rfl (iH (b:=false) _ YG zf rfl)))).trans ZB)).trans (ZP ((J8 (Q0 (Qn (Qe rfl) rfl (iH (b:=true) _ YG YG rfl)))).trans (QJ (QY (Qe rfl) A.h3 (Lw ..) (Zn (Qe rfl) (Qe rfl)) rfl e)))))),d,F⟩
 ·obtain⟨c,e,d,F⟩:=QgZ (i:=0) (p:=lf k 2) A D (Nat.le_of_ble_eq_true rfl) rfl;have wo:TR.JD (lf k 2) (TR.fresh (dd k 2)).aim=some 7:=by show TR.JD (lf k 2) k=some 7;simp[TR.JD,lf,TR.bU,TR.cu,C,E]
  rw[wo]at e d;exact⟨c,x,y,QH (env:=[.val (.ref a),.val (.int 0),.val (aY (lf k 2)),.val (.str "find")]) ((Qj (Qv (Qn (u .un) rfl (Ze (i:=0) rfl hp)))).trans (ZP ((J8 (Q0 (Qn (Qe rfl) rfl (iH (b:=true) _ zf zf rfl)))).trans (QJ (QY (Qe rfl) A.h3 (BG ..) (Zn (Qe rfl) (Qe rfl)) rfl e))))),d,F⟩
theorem Re(k:Int)(n:Nat):(lf k n).lv=0/\(lf k n).hi=none:=by
 match n with
 |0=>exact⟨rfl,rfl⟩
 |1=>exact⟨rfl,rfl⟩
 |_+2=>exact⟨rfl,rfl⟩
theorem Qeo(n:Nat)(k c:Int)(hp:Hs):U3 [aY (lf k n),.int c] hp=some (.bl false,hp):=by
 match n with
 |0=>rfl
 |1=>rfl
 |_+2=>rfl
theorem BV(hn:n<3)(Q:2<=r)(A:At hp s (s+1) a f q (g_ r k n x y) (TR.fresh (dd k n)))(D:iT s (s+1) a f q):∃d C E,Y7 [.ref a] hp=some (.tup (sJ n),d)/\At d s (s+1) a f q (g_ r k (nx n) C E) (iV k n)/\Fr hp d s (s+1) a f q:=by
 let P:DV:=aY (lf k n)
 obtain⟨A1,J⟩:=A.count D (g_ r k n (x+1) y) rfl rfl;obtain⟨d,C,E,e,I,F⟩:=HM hn Q A1 D;refine⟨d,C,E,?_,I,J.trans F⟩
 let j:Hs:=hp.set s (.ins "Shelf" (aO r (s+1) 0 (x+1) y))
 have rd:XD [.ref s,.int 0] hp=some (P,j):=QhN (i:=0) A.h1 A.h2 D.nk rfl
 let m:Sl->Sl->En:=λu v=>[.val (.ref a),u,v]
 have lv:∀w:Hs,aF P (.int 0) w=some (.int 0,w):=λw=>(Mq (lf k n) w).trans (by rw[(Re k n).1];rfl);have O:∀(u v:Sl) (w:Hs),w[a]?=some (dB s f q (TR.fresh (dd k n)))->eB (QT "Walk" "ended" (Qb 0)) (m u v) w=some (false,w):=λu v w h=>Q0 (QV (Qe rfl) h (VV ..));have pl:∀(u v:Sl) (w:Hs),w[a]?=some (dB s f q (TR.fresh (dd k n)))->eB (Qi isD (QT "Walk" "place" (Qb 0)) (eC .non)) (m u v) w=some (true,w):=λu v w h=>Q0 (Qn (QV (Qe rfl) h (Qea ..)) rfl rfl);have sh:∀(u v:Sl) (w:Hs),w[a]?=some (dB s f q (TR.fresh (dd k n)))->QT "Walk" "shelf" (Qb 0) (m u v) w=some (.ref s,w):=λu v w h=>QV (Qe rfl) h (uB ..);have z:∀(u v:Sl) (w:Hs),w[a]?=some (dB s f q (TR.fresh (dd k n)))->QT "Walk" "goal" (Qb 0) (m u v) w=some (.int 0,w):=λu v w h=>QV (Qe rfl) h (Rx ..);have L:∀(u v:Sl) (w:Hs),w[a]?=some (dB s f q (TR.fresh (dd k n)))->QT "Walk" "aim" (Qb 0) (m u v) w=some (.int (TR.fresh (dd k n)).aim,w):=λu v w h=>QV (Qe rfl) h (kr ..)
 let G:En:=m (.val (.int 0)) (.val P)
 have o:=A.h3;have c:j[a]?=some (dB s f q (TR.fresh (dd k n))):=A1.h3;refine QH (env:=G) ?_;refine(Qj ((Zv (O .un .un hp o)).trans ZB)).trans ?_;refine(Qj (aA:=m (.val (.int 0)) .un) (Qv ((tL (pl .un .un hp o)).trans (QY (sh .un .un hp o) A.h1 (yn ..) Jp rfl (gP A.h1))))).trans ?_;refine(Qj (aA:=G) (hp1:=j) (Qv (QY (sh _ .un hp o) A.h1 (QbV ..) (QK (Qe rfl)) rfl rd))).trans ?_;refine(Qj ((Zv ((Kq (pl _ _ j c)).trans (Q0 (Qn (Qn (x:=P) (Qe rfl) rfl (lv j)) (z _ _ j c) rfl)))).trans ZB)).trans ?_;refine(Qj ((Zv (Q0 (QP (Zn (Qe rfl) (L _ _ j c)) rfl (Qeo n k _ j)))).trans ZB)).trans ?_;refine(Qj ((Zv (Q0 (Qn (Qn (x:=P) (Qe rfl) rfl (lv j)) (z _ _ j c) rfl))).trans ZB)).trans ?_;refine(Qj ((Zv (Q0 (Qn (z _ _ j c) rfl rfl))).trans ZB)).trans ?_;exact QJ (QY (Qe rfl) c (BI ..) (Zn (Qe rfl) (Qe rfl)) rfl e)
end
def emp:DV:=.tup [.int 0,.tup [],.tup [],.non,.non]
theorem Wi(d:DV):Ju ("page_room" : Str) d []=[(("page_room" : Str),d)]:=by rfl
theorem Wh(x d:DV):Ju ("kept" : Str) d [(("page_room" : Str),x)]=[(("page_room" : Str),x),(("kept" : Str),d)]:=by rfl
theorem Wg(x y d:DV):Ju ("top" : Str) d [(("page_room" : Str),x),(("kept" : Str),y)]=[(("page_room" : Str),x),(("kept" : Str),y),(("top" : Str),d)]:=by rfl
theorem Wf(x y z d:DV):Ju ("read_count" : Str) d [(("page_room" : Str),x),(("kept" : Str),y),(("top" : Str),z)]=[(("page_room" : Str),x),(("kept" : Str),y),(("top" : Str),z),(("read_count" : Str),d)]:=by rfl
theorem Wd(x y z u d:DV):Ju ("write_count" : Str) d [(("page_room" : Str),x),(("kept" : Str),y),(("top" : Str),z),(("read_count" : Str),u)]=[(("page_room" : Str),x),(("kept" : Str),y),(("top" : Str),z),(("read_count" : Str),u),(("write_count" : Str),d)]:=by rfl
theorem Qg9(r:Int)(hp:Hs):ZI [.ref hp.length,.int r] (hp++[.ins "Shelf" []])=some (.non,hp++[.ins "Shelf" (aO r (hp.length+1) 0 0 0),.lst [emp]]):=by simp[ZI,qN,Q3,Qr,QD,QR,jH,aJ,Q7,zJ,xi,y9,yg,Qi,Qb,eC,eB,c7,XC,cJ,Z2,XZ,yI,jr,b_,yb,Qk,Qc,ZD,Ja,QB,QL,Qy,gN,JG,J2,Xm,XO,XM,XL,J1,zV,jF,K2,Jh,XR,Zd,Q9,Yy,UH,YY,cU,VJ,Zo,Xf,QT,yd,ym,dU,fD,fG,Zh,YB,yV,Yx,aF,Zp,XX,jE,Y6,je,cO,qC,QM,Js,Z8,Xt,yH,iG,XT,YD,XV,XU,J6,YC,YF,YE,ZO,Q6,Jz,MP,Mu,Wi,Wh,Wg,Wf,Wd,X3,lim,aO,emp]
theorem Qgm(n:Nat)(d:TR.cW)(hp:Hs):JF [.ref hp.length,.ref n,JK d] (hp++[.ins "Walk" []])=some (.non,hp++[dB n (hp.length+1) (hp.length+2) (TR.fresh d),.aH [],.lst []]):=by
 have st:∀(nm:Str) (e:aD) (v:DV) (fs:List (Str×DV)) (t t':Hs),e [.val (.ref hp.length),.val (.ref n),.val (JK d)] (hp++.ins "Walk" fs::t)=some (v,hp++.ins "Walk" fs::t')->fs.length<1000->Q9 "Walk" nm (Qb 0) e [.val (.ref hp.length),.val (.ref n),.val (JK d)] (hp++.ins "Walk" fs::t)=some ((.nx,[.val (.ref hp.length),.val (.ref n),.val (JK d)]),hp++.ins "Walk" (Ju nm v fs)::t'):=λnm e v fs t t' i j=>by rw[Jy i (Qe rfl) (MP hp _ _) j,Mu]
 have a:∀fs,Xt [.val (.ref hp.length),.val (.ref n),.val (JK d)] (hp++.ins "Walk" fs::[])=some (.ref (hp.length+1),hp++.ins "Walk" fs::[.aH []]):=λfs=>by show some (DV.ref (hp++[OV.ins "Walk" fs]).length,(hp++[OV.ins "Walk" fs])++[OV.aH []])=_;simp
 have c:∀fs,Z8 Qk [.val (.ref hp.length),.val (.ref n),.val (JK d)] (hp++.ins "Walk" fs::[.aH []])=some (.ref (hp.length+2),hp++.ins "Walk" fs::[.aH [],.lst []]):=λfs=>by show some (DV.ref (hp++[OV.ins "Walk" fs,OV.aH []]).length,(hp++[OV.ins "Walk" fs,OV.aH []])++[OV.lst []])=_;simp
 refine US (env:=[.val (.ref hp.length),.val (.ref n),.val (JK d)]) ?_;refine(Qj (st "shelf" _ (.ref n) [] [] [] (Qe rfl) (Bq (m:=20) (by repeat (first|exact Bh _|refine Xi ?_)) (by decide)))).trans ?_;refine(Qj (st "deed" _ (JK d) _ [] [] (Qe rfl) (Bq (m:=20) (by repeat (first|exact Bh _|refine Xi ?_)) (by decide)))).trans ?_;refine(Qj (st "aim" _ (.int d.key) _ [] [] (Qn (Qe rfl) rfl (QeB d _)) (Bq (m:=20) (by repeat (first|exact Bh _|refine Xi ?_)) (by decide)))).trans ?_;refine(Qj (st "goal" _ (.int 0) _ [] [] rfl (Bq (m:=20) (by repeat (first|exact Bh _|refine Xi ?_)) (by decide)))).trans ?_;refine(Qj (st "place" _ .non _ [] [] rfl (Bq (m:=20) (by repeat (first|exact Bh _|refine Xi ?_)) (by decide)))).trans ?_;refine(Qj (st "forks" _ (.ref (hp.length+1)) _ [] [.aH []] (a _) (Bq (m:=20) (by repeat (first|exact Bh _|refine Xi ?_)) (by decide)))).trans ?_;refine(Qj (st "new_page" _ .non _ [.aH []] [.aH []] rfl (Bq (m:=20) (by repeat (first|exact Bh _|refine Xi ?_)) (by decide)))).trans ?_;refine(Qj (st "worth" _ .non _ [.aH []] [.aH []] rfl (Bq (m:=20) (by repeat (first|exact Bh _|refine Xi ?_)) (by decide)))).trans ?_;refine(Qj (st "pairs" _ (.ref (hp.length+2)) _ [.aH []] [.aH [],.lst []] (c _) (Bq (m:=20) (by repeat (first|exact Bh _|refine Xi ?_)) (by decide)))).trans ?_;exact st "ended" _ (.bl false) _ [.aH [],.lst []] [.aH [],.lst []] rfl (Bq (m:=20) (by repeat (first|exact Bh _|refine Xi ?_)) (by decide))
theorem Qgo{n:Nat}{d:TR.cW}{fa:aW}{env:En}{hp0 hp:Hs}(ha:fa env hp0=some ([.ref n,JK d],hp)):Js "Walk" 3 JF fa env hp0=some (.ref hp.length,hp++[dB n (hp.length+1) (hp.length+2) (TR.fresh d),.aH [],.lst []]):=by unfold Js;rw[Ql ha];have a:JZ (.ins "Walk" []) hp=some (.ref hp.length,hp++[.ins "Walk" []]):=rfl;have c:Qy (decide ([DV.ref n,JK d].length+1=3)) hp=some ((),hp):=rfl;rw[Ql c,Ql a,Ql (Qgm n d hp)];rfl
def Qhq{hp:Hs}{n f q a:Nat}{w:TR.Wk}(h:hp[a]?=some (dB n f q w)):Yi [.ref a] hp=some (.bl w.O7,hp):=QH (QJ (QV (Qe rfl) h (VV ..)))
theorem Kf{g g':DV->DV->M DV}{fa a fc:aD}{env:En}{hp:Hs}{x y z:DV}{b b':Bool}(ha:fa env hp=some (x,hp))(c:a env hp=some (y,hp))(d:fc env hp=some (z,hp))(h1:g x y=pure (.bl b))(h2:g' y z=pure (.bl b')):JS g g' fa a fc env hp=some (.bl (b&&b'),hp):=by
  unfold JS;rw[Ql ha,Ql c,h1,Ck];show((if b=true then _ else _:M DV)) hp=_;cases b with
  |false=>rfl
  |true=>show(fc env >>= λw=>g' y w) hp=_;rw[Ql d,h2];cases b'<;>rfl
def bV(s b:Nat)(t:Int):List (Str×DV):=[("shelf", .ref s),("deeds", .ref (b+4)),("taken", .int t),("held", .ref (b+5)),("done", .ref (b+6))]
theorem Qgt(s b:Nat)(t:Int):List.lookup ("shelf" : Str) (bV s b t)=some (DV.ref s):=by rfl
theorem zh(s b:Nat)(t:Int):List.lookup ("deeds" : Str) (bV s b t)=some (DV.ref (b+4)):=by rfl
theorem jM(s b:Nat)(t:Int):List.lookup ("taken" : Str) (bV s b t)=some (DV.int t):=by rfl
theorem zM(s b:Nat)(t:Int):List.lookup ("held" : Str) (bV s b t)=some (DV.ref (b+5)):=by rfl
theorem Px(s b:Nat)(t:Int):List.lookup ("done" : Str) (bV s b t)=some (DV.ref (b+6)):=by rfl
theorem BF(s b:Nat)(t u:Int):Ju ("taken" : Str) (.int u) (bV s b t)=bV s b u:=by rfl
theorem Hc(s b:Nat)(t:Int):List.lookup ("step_walk" : Str) (bV s b t)=none:=by rfl
theorem Hb(s b:Nat)(t:Int):List.lookup ("take_deed" : Str) (bV s b t)=none:=by rfl
theorem Lb(s b:Nat)(t:Int):List.lookup ("move" : Str) (bV s b t)=none:=by rfl
theorem CT(s b:Nat)(t:Int):List.lookup ("idle" : Str) (bV s b t)=none:=by rfl
theorem M2(s b:Nat)(t:Int):List.lookup ("hand_in" : Str) (bV s b t)=none:=by rfl
theorem M0(s b:Nat)(t:Int):List.lookup ("finish" : Str) (bV s b t)=none:=by rfl
theorem OD{e f g:aD}{env:En}{w c:Hs}{a i:Nat}{ds:List DV}{d:DV}(m:e env w=some (d,c))(hf:f env c=some (.ref a,c))(ha:c[a]?=some (.lst ds))(n:g env c=some (.int (i:Int),c))(o:i<ds.length):YY e (cU f g) env w=some ((.nx,env),c.set a (.lst (ds.set i d))):=by
 refine gR m ?_;unfold cU;rw[Ql hf,Ql n];have:VJ (.ref a) (.int (i:Int)) d c=some ((),c.set a (.lst (ds.set i d))):=by show(ZE a >>= _) c=_;rw[Ql (Zi ha)];show(cO (.int (i:Int)) >>= λk=>match ixN ds.length k with|some j=>VS a (.lst (ds.set j d))|none=>failure) c=_;rw[Ql (rfl:cO (.int (i:Int)) c=some ((i:Int),c)),Nz o];rfl
 rw[Ql this];rfl
theorem Qg3{c f:Str}{o e:aD}{env:En}{hp:Hs}{a:Nat}{fs:List (Str×DV)}{x y:Int}(n:o env hp=some (.ref a,hp))(h:hp[a]?=some (.ins c fs))(hf:fs.lookup f=some (.int x))(j:e env hp=some (.int y,hp))(m:fs.length<1000):Yy c f qC o e env hp=some ((.nx,env),hp.set a (.ins c (Ju f (.int (x+y)) fs))):=by
 unfold Yy;have d:yd c f (.ref a) hp=some (.int x,hp):=by unfold yd;rw[jZ h,hf];rfl
 have i:ym c f (.ref a) (.int (x+y)) hp=some ((),hp.set a (.ins c (Ju f (.int (x+y)) fs))):=by unfold ym;rw[jZ h,Ch m];rfl
 rw[Ql n,Ql d,Ql j,Ql (rfl:qC (.int x) (.int y) hp=some (.int (x+y),hp)),Ql i];rfl
section
variable{hp:Hs}{s b t h m:Nat}{hs ds ys:List DV}
theorem BS(h2:hp[b+3]?=some (.ins "Weaver" (bV s b t)))(h3:hp[b+4]?=some (.lst ds))(h4:hp[b+5]?=some (.lst hs))(n:h<hs.length){d:TR.cW}(hd:ds[t]?=some (JK d)) :
  Jw [.ref (b+3),.int h] hp=some (.tup [.str "take", .int h,.int t],((hp++[dB s (hp.length+1) (hp.length+2) (TR.fresh d),.aH [],.lst []]).set (b+5) (.lst (hs.set h (.tup [.int t,.ref hp.length])))).set (b+3) (.ins "Weaver" (bV s b (t+1)))):=by
 let E:En:=[.val (.ref (b+3)),.val (.int h),.val (.int t)]
 let c:Hs:=hp++[dB s (hp.length+1) (hp.length+2) (TR.fresh d),.aH [],.lst []]
 have g:∀{i:Nat}{o:OV},hp[i]?=some o->c[i]?=some o:=λ{i o} e=>(Aj (Ag.mp e).1).trans e
 let j:Hs:=c.set (b+5) (.lst (hs.set h (.tup [.int t,.ref hp.length])))
 have a:j[b+3]?=some (.ins "Weaver" (bV s b t)):=(Q6 _ _ _ _ ⋯).trans (g h2);have mk:Js "Walk" 3 JF (Qc (QT "Weaver" "shelf" (Qb 0)) (Qc (Qi aF (QT "Weaver" "deeds" (Qb 0)) (Qb 2)) (Qk))) E hp=some (.ref hp.length,c):=Qgo (d:=d) (Zn (QV (Qe rfl) h2 (Qgt ..)) (Qn (QV (Qe rfl) h2 (zh ..)) (Qe rfl) (zD h3 hd)));refine QH (env:=E) ((Qj (aA:=E) (Qv (QV (Qe rfl) h2 (jM ..)))).trans ?_);refine(Qj (aA:=E) (hp1:=j) (OD (Xw (Zn (Qe rfl) mk) (by simp)) (QV (Qe rfl) (g h2) (zM ..)) (g h4) (Qe rfl) n)).trans ?_;refine(Qj (aA:=E) (hp1:=j.set (b+3) (.ins "Weaver" (bV s b (t+1)))) ((Qg3 (Qe rfl) a (jM ..) rfl (show(5:Nat)<1000 by decide)).trans (by rw[BF]))).trans ?_;exact QJ (Xw (xx rfl (Qe rfl) (Qe rfl)) (by simp))
end
theorem Ki{nxt:NX}{t:DV->M Bool}{f:DV->M DV}{g:DV->DV}{hp:Hs}(ds:List DV)(hx:∀i,i<=ds.length->nxt i hp=some (ds[i]?,hp))(q:∀d∈ds,t d hp=some (true,hp))(hf:∀d∈ds,f d hp=some (g d,hp))(o:ds.length<100000):Ym nxt t f 100000 0 hp=some (ds.map g,hp):=by
  suffices h:∀(m i n:Nat),m+i=ds.length->m<n->Ym nxt t f n i hp=some ((ds.drop i).map g,hp)by simpa using h ds.length 0 100000 rfl o
  intro m;induction m with
  |zero =>
    intro i n e j;obtain⟨n,rfl⟩:∃k,n=k+1:=⟨n-1,⋯⟩;have:i=ds.length:=⋯
    subst this;have c:=hx ds.length (Ai _);rw[show ds[ds.length]?=none by simp]at c;rw[Ym,Ql c,List.drop_length];rfl
  |succ m r =>
    intro i n e j;obtain⟨n,rfl⟩:∃k,n=k+1:=⟨n-1,⋯⟩;have a:i<ds.length:=⋯
    have c:=hx i ⋯;rw[Af a]at c;rw[Ym,Ql c];simp only;rw[Ql (q ds[i] (List.getElem_mem a)),List.drop_eq_getElem_cons a];simp only[if_true];rw[Ql (hf ds[i] (List.getElem_mem a)),Ql (r (i+1) n ⋯ ⋯)];rfl
theorem Pu{f:aD}{env:En}{hp:Hs}{n:Nat}{ds:List DV}(h:f env hp=some (.ref n,hp))(hn:hp[n]?=some (.lst ds)):cT f env hp=some (fV n,hp):=by unfold cT;rw[Ql h];show(ZE n >>= _) hp=_;rw[Ql (Zi hn)];rfl
theorem jD{hp:Hs}{n:Nat}{ds:List DV}(hn:hp[n]?=some (.lst ds))(i:Nat):fV n i hp=some (ds[i]?,hp):=by unfold fV;rw[Ql (Zi hn)];rfl
theorem Nt{hp:Hs}{n:Nat}{ds:List DV}(hn:hp[n]?=some (.lst ds)):iB (.ref n) hp=some (ds,hp):=by show(ZE n >>= _) hp=_;rw[Ql (Zi hn)];rfl
theorem Og(p:DV->Bool):∀ds:List DV,lg (ds.map λd=>.bl (p d))=some (ds.map p)
 | []=>rfl
 |d::r=>by rw[Bf,lg,Og p r];rfl
section
variable{hp:Hs}{s b t h:Nat}{hs ds:List DV}{x:Int}
theorem Nm(h2:hp[b+3]?=some (.ins "Weaver" (bV s b t)))(h3:hp[b+4]?=some (.lst ds))(h4:hp[b+5]?=some (.lst hs))(e:hs.length<1000):Zx [.ref (b+3)] hp=some (.bl (((t:Int)==(ds.length:Int))&&hs.all eO),hp):=by
  let E:En:=[.val (.ref (b+3))]
  have a:Yo E hp=some (.lst (hs.map λd=>.bl (eO d)),hp):=by unfold Yo Z9;rw[Ql (Pu (QV (Qe rfl) h2 (zM ..)) h4)];have c:=Ki (nxt:=fV (b+5)) (t:=λd=>Yb (cE [] E d)) (f:=λd=>Qi isD (Qb 0) (eC .non) (cE [] E d)) (g:=λd=>.bl (eO d)) (hp:=hp) hs (λi _=>jD h4 i) (λd _=>rfl) (λd _=>Qn (Qe rfl) rfl rfl) ⋯;rw[show lim=100000 from rfl,Ql c];rfl
  refine QH (env:=E) (QJ ?_);rw[QeL (Qn (QV (Qe rfl) h2 (jM ..)) (jV (QV (Qe rfl) h2 (zh ..)) h3) (wY _ _ _))];cases ((t:Int)==(ds.length:Int))with
  |false=>rfl
  |true=>rw[Cf rfl];refine Zr (QK a) ?_;show(iB (.lst (hs.map λd=>.bl (eO d))) >>= _) hp=_;rw[Ql (rfl:iB (.lst (hs.map λd=>DV.bl (eO d))) hp=some (hs.map λd=>.bl (eO d),hp)),Og];show some (DV.bl ((hs.map eO).all id),hp)=_;rw[List.all_map];rfl
theorem Sm{d:DV}(h2:hp[b+3]?=some (.ins "Weaver" (bV s b t)))(h3:hp[b+4]?=some (.lst ds))(e:ds.length<1000):J3 [.ref (b+3),d] hp=some (.int ds.length,hp.set (b+4) (.lst (ds++[d]))):=by have a:(hp.set (b+4) (.lst (ds++[d])))[b+3]?=some (.ins "Weaver" (bV s b t)):=(Q6 _ _ _ _ ⋯).trans h2;have c:(hp.set (b+4) (.lst (ds++[d])))[b+4]?=some (.lst (ds++[d])):=ZO _ _ _ (by rw[h3];rfl);refine QH (env:=[.val (.ref (b+3)),.val d]) ((Qj (ZG (qL (QV (Qe rfl) h2 (zh ..)) h3 (Qe rfl) ⋯))).trans (QJ (Qn (jV (QV (Qe rfl) a (zh ..)) c) rfl ?_)));show some (DV.int (((ds++[d]).length:Int)-1),_)=_;rw[Ap];simp
theorem J_(h2:hp[b+3]?=some (.ins "Weaver" (bV s b t)))(h4:hp[b+5]?=some (.lst hs)):Z2 (eB (JS dI cD (eC (.int 0)) (Qb 1) (QL Zp (Qc (QT "Weaver" "held" (Qb 0)) (Qk))))) [.val (.ref (b+3)),.val (.int x)] hp=some (!(decide (0<=x)&&decide (x<hs.length)),hp) :=
 Z5 (Q0 (Kf rfl (Qe rfl) (jV (QV (Qe rfl) h2 (zM ..)) h4) rfl rfl))
theorem DG(h2:hp[b+3]?=some (.ins "Weaver" (bV s b t)))(h4:hp[b+5]?=some (.lst hs))(a:h<hs.length):Z2 (eB (JS dI cD (eC (.int 0)) (Qb 1) (QL Zp (Qc (QT "Weaver" "held" (Qb 0)) (Qk))))) [.val (.ref (b+3)),.val (.int h)] hp=some (false,hp):=by rw[J_ h2 h4,Ch (p:=(0:Int)<=h) ⋯,Ch (p:=(h:Int)<hs.length) ⋯];rfl
theorem Dt{d:DV}(h2:hp[b+3]?=some (.ins "Weaver" (bV s b t)))(h4:hp[b+5]?=some (.lst hs))(hd:hs[h]?=some d):eB (Qi vi (Qi aF (QT "Weaver" "held" (Qb 0)) (Qb 1)) (eC .non)) [.val (.ref (b+3)),.val (.int h)] hp=some (!eO d,hp) :=
 Q0 (Qn (Qn (QV (Qe rfl) h2 (zM ..)) (Qe rfl) (zD h4 hd)) rfl rfl)
theorem D9{d r:DV}{a:Hs}(h2:hp[b+3]?=some (.ins "Weaver" (bV s b t)))(h4:hp[b+5]?=some (.lst hs))(hd:hs[h]?=some d)(hn:eO d=false)(e:Xq [.ref (b+3),.int h] hp=some (r,a)):ZL [.ref (b+3),.int h] hp=some (r,a) :=
 QH (env:=[.val (.ref (b+3)),.val (.int h)]) ((Qj ((Zv (DG h2 h4 (Ag.mp hd).1)).trans ZB)).trans (ZP ((J8 ((Dt h2 h4 hd).trans (by rw[hn];rfl))).trans (QJ (QY (Qe rfl) h2 (Hc ..) (QK (Qe rfl)) rfl e)))))
theorem D8{d r:DV}{a:Hs}(h2:hp[b+3]?=some (.ins "Weaver" (bV s b t)))(h3:hp[b+4]?=some (.lst ds))(h4:hp[b+5]?=some (.lst hs))(hd:hs[h]?=some d)(hn:eO d=true)(c:t<ds.length)(e:Jw [.ref (b+3),.int h] hp=some (r,a)):ZL [.ref (b+3),.int h] hp=some (r,a) :=
 QH (env:=[.val (.ref (b+3)),.val (.int h)]) ((Qj ((Zv (DG h2 h4 (Ag.mp hd).1)).trans ZB)).trans ((Qj ((Zv ((Dt h2 h4 hd).trans (by rw[hn];rfl))).trans ZB)).trans (ZP ((J8 (Q0 (Qn (QV (Qe rfl) h2 (jM ..)) (jV (QV (Qe rfl) h2 (zh ..)) h3) (show some (DV.bl (decide ((t:Int)<ds.length)),hp)=some (.bl true,hp)by rw[Ch ⋯])))).trans (QJ (QY (Qe rfl) h2 (Hb ..) (QK (Qe rfl)) rfl e))))))
theorem Rc{d:DV}(h2:hp[b+3]?=some (.ins "Weaver" (bV s b t)))(h3:hp[b+4]?=some (.lst ds))(h4:hp[b+5]?=some (.lst hs))(hd:hs[h]?=some d)(hn:eO d=true)(a:¬ t<ds.length):ZL [.ref (b+3),.int h] hp=some (.tup [.str "rest", .int h],hp) :=
 QH (env:=[.val (.ref (b+3)),.val (.int h)]) ((Qj ((Zv (DG h2 h4 (Ag.mp hd).1)).trans ZB)).trans ((Qj ((Zv ((Dt h2 h4 hd).trans (by rw[hn];rfl))).trans ZB)).trans ((Qj ((Zv (Q0 (Qn (QV (Qe rfl) h2 (jM ..)) (jV (QV (Qe rfl) h2 (zh ..)) h3) (show some (DV.bl (decide ((t:Int)<ds.length)),hp)=some (.bl false,hp)by rw[Cj ⋯])))).trans ZB)).trans (QJ (Xw (Zn rfl (Qe rfl)) (by simp))))))
end
structure ES where
 lf:Nat
 tk:Nat
 hs:List (Option Nat)
 dn:List Nat
def nH(nd:Nat)(e:ES)(h:Nat):Option ES:=match e.hs[h]? with
 |none=>none
 |some (some n)=>if e.lf=n/\n<3 then some ⟨nx n,e.tk,e.hs.set h none,e.dn++[n]⟩else none
 |some none=>if e.tk<nd then some ⟨e.lf,e.tk+1,e.hs.set h (some e.tk),e.dn⟩else some e
def idE(nd:Nat)(e:ES):Bool:=decide (e.tk=nd)&&e.hs.all (·.isNone)
def kW(nd H:Nat):Nat->Nat->ES->Option (ES×Nat)
  |0,_,_=>none
  |g+1,h,e=>if idE nd e=true then some (e,0)else match nH nd e h with
    |none=>none
    |some a=>(kW nd H g ((h+1) % H) a).map λp=>(p.1,p.2+1)
def dl(k:Int)(nd:Nat):List DV:=(List.range nd).map λn=>JK (dd k n)
def hD(L:Nat->Nat):Option Nat->DV
 |none=>.non
 |some n=>.tup [.int n,.ref (L n)]
def fZ(L:Nat->Nat)(n:Nat):DV:=.tup [.int n,.ref (L n)]
structure Rp(w:Hs)(b N r:Nat)(k:Int)(nd:Nat)(e:ES)(L:Nat->Nat):Prop where
 sh:∃x y,w[b+1]?=some (.ins "Shelf" (aO r (b+1+1) 0 x y))
 kp:w[b+1+1]?=some (.lst [aY (lf k e.lf)])
 wv:w[b+3]?=some (.ins "Weaver" (bV (b+1) b e.tk))
 de:w[b+4]?=some (.lst (dl k nd))
 hd:w[b+5]?=some (.lst (e.hs.map (hD L)))
 dn:w[b+6]?=some (.lst (e.dn.map (fZ L)))
 ob:∀n,some n∈e.hs->w[L n]?=some (dB (b+1) (L n+1) (L n+2) (TR.fresh (dd k n)))/\w[L n+1]?=some (.aH [])/\w[L n+2]?=some (.lst [])/\N<L n
 od:∀n∈e.dn,∃s f q,w[L n]?=some (dB s f q (iV k n))
 lt:∀n,(some n∈e.hs∨n∈e.dn)->n<e.tk
 mo:∀n m,n<m->m<e.tk->L n+2<L m
 lo:∀n,n<e.tk->b+6<L n/\L n+2<w.length/\L n≠N
 un:∀i j n:Nat,e.hs[i]?=some (some n)->e.hs[j]?=some (some n)->i=j
 bN:b+6<N
 ln:N<w.length
 tn:e.tk<=nd
section
variable{w:Hs}{b N r nd h:Nat}{k:Int}{e e':ES}{L:Nat->Nat}
theorem xc{hs:List (Option Nat)}{i m:Nat}{o:Option Nat}(h':(hs.set h o)[i]?=some (some m)):(i=h/\o=some m)∨(i≠h/\hs[i]?=some (some m)):=by
 by_cases q:h=i
 ·rw[q]at h';by_cases l:i<hs.length
  ·rw[Av l]at h';exact .inl ⟨q.symm,An h'⟩
  ·rw[List.getElem?_eq_none (by simp;lia)]at h';cases h'
 ·rw[Ao q]at h';exact .inr ⟨Ne.symm q,h'⟩
theorem UO{hs:List (Option Nat)}{m:Nat}{o:Option Nat}(h':some m∈hs.set h o):o=some m∨∃i,i≠h/\hs[i]?=some (some m):=by
 obtain⟨i,hi⟩:=List.getElem?_of_mem h';rcases xc hi with ⟨_,q⟩|q
 ·exact .inl q
 ·exact .inr ⟨i,q⟩
theorem X_(R:Rp w b N r k nd e L)(hr:2<=r)(hn:nd<=3)(hl:e.hs.length<=8)(hq:e.dn.length<=100)(hm:nH nd e h=some e'):∃w' d o,ZL [.ref (b+3),.int h] w=some (o,w')/\Rp w' b N r k nd e' d/\(∀x,x<=N->(x<=b∨b+6<x)->w'[x]?=w[x]?)/\(∀n,n<e.tk->d n=L n)/\∀n,e.tk<=n->n<e'.tk->N<d n:=by
  have bN:=R.bN;have Fp:=R.ln;unfold nH at hm;cases T:e.hs[h]? with
  |none=>rw[T]at hm;cases hm
  |some o =>
    rw[T]at hm;have hd:(e.hs.map (hD L))[h]?=some (hD L o):=by rw[Bp,T];rfl
    have Y:h<e.hs.length:=(Ag.mp T).1;have G:o∈e.hs:=Ax T;cases o with
    |none =>
      dsimp only at hm;by_cases U:e.tk<nd
      . rw[Cf U]at hm
        cases hm;have dt:(dl k nd)[e.tk]?=some (JK (dd k e.tk)):=by unfold dl;rw[Bp,List.getElem?_range U];rfl
        have tk:=BS (h:=h) R.wv R.de R.hd (by rw[Bm];exact Y) dt
        let W:OV:=dB (b+1) (w.length+1) (w.length+2) (TR.fresh (dd k e.tk))
        let u:Hs:=w++[W,.aH [],.lst []]
        let d:Nat->Nat:=λn=>if n=e.tk then w.length else L n
        have S:∀n,n<e.tk->d n=L n:=λn hn=>Ce ⋯;have pZ:d e.tk=w.length:=Cf rfl;have c:∀{x:Nat} {z:OV},x≠b+3->x≠b+5->w[x]?=some z->((u.set (b+5) (.lst ((e.hs.map (hD L)).set h (.tup [.int e.tk,.ref w.length])))).set (b+3) (.ins "Weaver" (bV (b+1) b (e.tk+1))))[x]?=some z:=λ{x z} n4 n6 hx=>gs (Ne.symm n4) (gs (Ne.symm n6) ((Aj (Ag.mp hx).1).trans hx));have P:∀(j:Nat) (x:OV),[W,.aH [],.lst []][j]?=some x->((u.set (b+5) (.lst ((e.hs.map (hD L)).set h (.tup [.int e.tk,.ref w.length])))).set (b+3) (.ins "Weaver" (bV (b+1) b (e.tk+1))))[w.length+j]?=some x:=λj x hx=>gs ⋯ (gs ⋯ (by show(w++_)[w.length+j]?=_;rw[As ⋯,Nat.add_sub_cancel_left];exact hx));have lm:∀n,some n∈e.hs->d n=L n:=λn hn=>S n (R.lt n (.inl hn));have a6:(e.hs.map (hD L)).set h (.tup [.int e.tk,.ref w.length])=(e.hs.set h (some e.tk)).map (hD d):=by
          rw[List.map_set];congr 1
          . exact List.map_congr_left λo ho=>by
              cases o with
              |none=>rfl
              |some n=>show DV.tup [.int n,.ref (L n)]=.tup [.int n,.ref (d n)];rw[lm n ho]
          . show _=DV.tup [.int e.tk,.ref (d e.tk)];rw[pZ]
        refine⟨_,d,_,D8 R.wv R.de R.hd hd rfl (by rw[dl,Bm,List.length_range];exact U) tk,⟨?_,c ⋯ ⋯ R.kp,fY (gs ⋯ ((Aj ⋯).trans R.wv)),c ⋯ ⋯ R.de,?_,?_,λn hn=>?_,λn hn=>?_,λn hn=>?_,λn m h1 h2=>?_,λn hn=>?_,λi j n hi C=>?_,bN,by simp;lia,U⟩,λx hx hb=>?_,S,λn h1 h2=>?_⟩
        . obtain⟨x,y,q⟩:=R.sh
          exact⟨x,y,c ⋯ ⋯ q⟩
        . rw[<- a6]
          exact gs ⋯ (fY ((Aj ⋯).trans R.hd))
        . have:e.dn.map (fZ d)=e.dn.map (fZ L):=List.map_congr_left λn hn=>by show DV.tup [.int n,.ref (d n)]=.tup [.int n,.ref (L n)];rw[S n (R.lt n (.inr hn))]
          show _=some (OV.lst (e.dn.map (fZ d)));rw[this];exact c ⋯ ⋯ R.dn
        . rcases UO hn with q|⟨i,ne,q⟩
          . cases q
            rw[pZ];exact⟨P 0 _ rfl,P 1 _ rfl,P 2 _ rfl,Fp⟩
          . have qm:=Ax q
            obtain⟨a1,a2,a3,a4⟩:=R.ob n qm;rw[lm n qm];exact⟨c ⋯ ⋯ a1,c ⋯ ⋯ a2,c ⋯ ⋯ a3,a4⟩
        . obtain⟨s,f,q,a⟩:=R.od n hn
          have l:=R.lo n (R.lt n (.inr hn));rw[S n (R.lt n (.inr hn))];exact⟨s,f,q,c ⋯ ⋯ a⟩
        . rcases hn with hn|hn
          . rcases UO hn with q|⟨i,ne,q⟩
            . cases q;exact Ca _
            . exact Nat.lt_succ_of_lt (R.lt n (.inl (Ax q)))
          . exact Nat.lt_succ_of_lt (R.lt n (.inr hn))
        . have a7:m<e.tk+1:=h2
          rw[S n ⋯];by_cases q:m=e.tk
          . rw[q,pZ];exact(R.lo n ⋯).2.1
          . rw[S m ⋯];exact R.mo n m h1 ⋯
        . have ad:n<e.tk+1:=hn
          have le:((u.set (b+5) (.lst ((e.hs.map (hD L)).set h (.tup [.int e.tk,.ref w.length])))).set (b+3) (.ins "Weaver" (bV (b+1) b (e.tk+1)))).length=w.length+3:=by simp[u]
          rw[le];by_cases q:n=e.tk
          . rw[q,pZ];lia
          . rw[S n ⋯];have:=R.lo n ⋯;lia
        . rcases xc hi with ⟨i1,I⟩|⟨i1,I⟩
          . cases I
            rcases xc C with ⟨j1,_⟩|⟨_,F⟩
            . lia
            . exact absurd (R.lt _ (.inl (Ax F))) (B0 _)
          . rcases xc C with ⟨_,F⟩|⟨_,F⟩
            . cases F
              exact absurd (R.lt _ (.inl (Ax I))) (B0 _)
            . exact R.un i j n I F
        . rw[Q6 _ _ _ _ ⋯,Q6 _ _ _ _ ⋯]
          exact Aj ⋯
        . have a7:n<e.tk+1:=h2
          rw[show n=e.tk by lia,pZ];exact Fp
      . rw[Ce U]at hm
        cases hm;exact⟨w,L,_,Rc R.wv R.de R.hd hd rfl (by rw[dl,Bm,List.length_range];exact U),R,λ_ _ _=>rfl,λ_ _=>rfl,λn h1 h2=>absurd h2 ⋯⟩
    |some n =>
      dsimp only at hm;by_cases hc:e.lf=n/\n<3
      . rw[Cf hc]at hm
        cases hm;obtain⟨a8,a9⟩:=hc;obtain⟨x,y,sh⟩:=R.sh;obtain⟨o1,o2,o3,o4⟩:=R.ob n G;have nt:=R.lt n (.inl G);have D:iT (b+1) (b+1+1) (L n) (L n+1) (L n+2):=⟨⋯,⋯,⋯,⋯,⋯,⋯,⋯,⋯,⋯,⋯⟩;have kp:=R.kp;rw[a8]at kp;obtain⟨u,x',y',es,A1,F1⟩:=BV (k:=k) a9 hr (x:=x) (y:=y) ⟨sh,kp,o1,o2,o3⟩ D;have J:∀{j:Nat}{z:OV},j≠b+1->j≠b+1+1->(j<L n∨L n+2<j)->w[j]?=some z->u[j]?=some z:=λ{j z} n2 n3 nL C=>(F1.2 j (Ag.mp C).1 n2 n3 ⋯ ⋯ ⋯).trans C;have Q:=J ⋯ ⋯ (.inl ⋯) R.wv;have Fw:=J ⋯ ⋯ (.inl ⋯) R.hd;have Wr:=J ⋯ ⋯ (.inl ⋯) R.dn
        let O:DV:=.tup [.int n,.ref (L n)]
        let E:Sl->Sl->Sl->En:=λx y z=>[.val (.ref (b+3)),.val (.int h),x,y,z]
        let v:En:=E (.val O) (.val (.ref (L n))) (.val (.tup (sJ n)))
        have u1:QD 2 (Qi aF (QT "Weaver" "held" (Qb 0)) (Qb 1)) (E .un .un .un) w=some ((.nx,E (.val O) .un .un),w):=Qv (Qn (QV (Qe rfl) R.wv (zM ..)) (Qe rfl) (zD R.hd hd));have u2:QD 3 (Qi aF (Qb 2) (eC (.int 1))) (E (.val O) .un .un) w=some ((.nx,E (.val O) (.val (.ref (L n))) .un),w):=Qv (Qn (x:=O) (Qe rfl) rfl (Ze (i:=1) rfl w));have u3:QD 4 (QM "Walk" "step" 1 Y7 (Qb 3) Qk) (E (.val O) (.val (.ref (L n))) .un) w=some ((.nx,v),u):=Qv (QY (Qe rfl) o1 (Qic ..) Jp rfl es);have Wj:eB (QM "Walk" "over" 1 Yi (Qb 3) Qk) v u=some (true,u):=Q0 (QY (Qe rfl) A1.h3 (Qid ..) Jp rfl (Qhq A1.h3))
        let w2:Hs:=u.set (b+5) (.lst ((e.hs.map (hD L)).set h .non))
        have wQ:w2[b+3]?=some (.ins "Weaver" (bV (b+1) b e.tk)):=gs ⋯ Q;have Fv:w2[b+6]?=some (.lst (e.dn.map (fZ L))):=gs ⋯ Wr
        let X:Hs:=w2.set (b+6) (.lst (e.dn.map (fZ L)++[O]))
        have u4:aJ (eB (QM "Walk" "over" 1 Yi (Qb 3) Qk)) (Qr (YY (eC .non) (cU (QT "Weaver" "held" (Qb 0)) (Qb 1))) (Zd (Zo "list" Zh (QT "Weaver" "done" (Qb 0)) (Qc (Qb 2) (Qk))))) (Q7) v u=some ((.nx,v),X):=(J8 Wj).trans ((Qj (aA:=v) (hp1:=w2) (OD rfl (QV (Qe rfl) Q (zM ..)) Fw (Qe rfl) (by rw[Bm];exact Y))).trans (ZG (qL (QV (Qe rfl) wQ (Px ..)) Fv (Qe rfl) (by rw[Bm];lia))));obtain⟨o,ac⟩:∃o,QR (Qi Zf (ZD (Qc (Qi aF (Qb 4) (eC (.int 0))) (Qc (Qb 1) (Qc (Qi aF (Qb 2) (eC (.int 0))) (Qk))))) (cA (Qb 4) (Zw (eC (.int 1))) (ZS))) v X=some ((.rt o,v),X):=by unfold v E sJ;split<;>exact⟨_,rfl⟩
        have g3:∀{j:Nat}{z:OV},j≠b+5->j≠b+6->u[j]?=some z->X[j]?=some z:=λ{j z} n5 n6 C=>gs (Ne.symm n6) (gs (Ne.symm n5) C);have l3:X.length=u.length:=by show((u.set _ _).set _ _).length=_;simp
        have l1:=F1.1;refine⟨X,L,o,D9 R.wv R.hd hd rfl (QH (env:=v) ((Qj u1).trans ((Qj u2).trans ((Qj u3).trans ((Qj u4).trans ac))))),⟨⟨x',y',g3 ⋯ ⋯ A1.h1⟩,g3 ⋯ ⋯ A1.h2,g3 ⋯ ⋯ Q,g3 ⋯ ⋯ (J ⋯ ⋯ (.inl ⋯) R.de),?_,?_,λm hm=>?_,λm hm=>?_,λm hm=>?_,R.mo,λm hm=>?_,λi j m hi C=>?_,bN,⋯,R.tn⟩,λz hz hb=>?_,λ_ _=>rfl,λn h1 h2=>absurd (show n<e.tk from h2) ⋯⟩
        . show _=some (OV.lst ((e.hs.set h none).map (hD L)))
          rw[List.map_set];exact gs ⋯ (fY Fw)
        . show _=some (OV.lst ((e.dn++[n]).map (fZ L)))
          rw[List.map_append];exact fY Fv
        . rcases UO hm with q|⟨i,ne,q⟩
          . cases q
          . have mn:m≠n:=λz=>ne (R.un i h n (by rw[<- z];exact q) T)
            have qm:=Ax q;have mt:=R.lt m (.inl qm);obtain⟨a1,a2,a3,a4⟩:=R.ob m qm;have dj:L m+2<L n∨L n+2<L m:=by
              rcases Nat.lt_or_gt_of_ne mn with q|q
              . exact .inl (R.mo m n q nt)
              . exact .inr (R.mo n m q mt)
            exact⟨g3 ⋯ ⋯ (J ⋯ ⋯ ⋯ a1),g3 ⋯ ⋯ (J ⋯ ⋯ ⋯ a2),g3 ⋯ ⋯ (J ⋯ ⋯ ⋯ a3),a4⟩
        . by_cases q:m=n
          . rw[q];exact⟨_,_,_,g3 ⋯ ⋯ A1.h3⟩
          . have Z:m∈e.dn:=by
              rcases Ak.mp hm with z|z
              . exact z
              . exact absurd (Au.mp z) q
            have mt:=R.lt m (.inr Z);have lo:=R.lo m mt;obtain⟨s,f,p,a⟩:=R.od m Z;have dj:L m+2<L n∨L n+2<L m:=by
              rcases Nat.lt_or_gt_of_ne q with q|q
              . exact .inl (R.mo m n q nt)
              . exact .inr (R.mo n m q mt)
            exact⟨s,f,p,g3 ⋯ ⋯ (J ⋯ ⋯ ⋯ a)⟩
        . rcases hm with hm|hm
          . rcases UO hm with q|⟨i,ne,q⟩
            . cases q
            . exact R.lt m (.inl (Ax q))
          . rcases Ak.mp hm with z|z
            . exact R.lt m (.inr z)
            . rw[Au.mp z];exact nt
        . have:=R.lo m hm;lia
        . rcases xc hi with ⟨_,I⟩|⟨_,I⟩
          . cases I
          . rcases xc C with ⟨_,F⟩|⟨_,F⟩
            . cases F
            . exact R.un i j m I F
        . rw[Q6 _ _ _ _ ⋯,Q6 _ _ _ _ ⋯]
          exact F1.2 z ⋯ ⋯ ⋯ ⋯ ⋯ ⋯
      . rw[Ce hc]at hm;cases hm
end
theorem QgA{o e:aD}{env:En}{hp hp1:Hs}{a:Nat}{c ds:List DV}{d:DV}(q:o env hp=some (.ref a,hp))(j:hp[a]?=some (.lst c))(m:e env hp=some (d,hp1))(h:hp1[a]?=some (.lst ds))(n:ds.length<100000):Zo "list" Zh o (Qc e Qk) env hp=some (.non,hp1.set a (.lst (ds++[d]))):=by
 unfold Zo;rw[Ql q];have i:Xf "list" (.ref a) hp=some ((),hp):=by show(ZE a >>= _) hp=_;rw[Ql (Zi j)];rfl
 rw[Ql i,Ql (QK m)];show(ZE a >>= _) hp1=_;rw[Ql (Zi h)];show(Qy (decide (ds.length<lim)) >>= _) hp1=_;rw[Ch (by unfold lim;exact n)];rfl
section
variable{w:Hs}{b N r nd H:Nat}{k:Int}{e e':ES}{L:Nat->Nat}
theorem DC(R:Rp w b N r k nd e L)(d:e.hs.length<=8):Zx [.ref (b+3)] w=some (.bl (idE nd e),w):=by
 rw[Nm R.wv R.de R.hd (by rw[Bm];lia)];have a:((e.tk:Int)==((dl k nd).length:Int))=decide (e.tk=nd):=by
  have:(dl k nd).length=nd:=by unfold dl;simp
  rw[this];by_cases q:e.tk=nd
  ·rw[q];simp
  ·rw[Cj q,beq_eq_false_iff_ne];lia
 have c:(e.hs.map (hD L)).all eO=e.hs.all (·.isNone):=by rw[List.all_map];congr 1;funext o;cases o<;>rfl
 rw[a,c];rfl
theorem Rp.row(R:Rp w b N r k nd e L)(c:List DV):Rp (w.set N (.lst c)) b N r k nd e L:=by
 have bN:=R.bN;have g:∀{j:Nat}{z:OV},j≠N->w[j]?=some z->(w.set N (.lst c))[j]?=some z:=λ{j z} n u=>gs (Ne.symm n) u;refine⟨?_,g ⋯ R.kp,g ⋯ R.wv,g ⋯ R.de,g ⋯ R.hd,g ⋯ R.dn,λn hn=>?_,λn hn=>?_,R.lt,R.mo,λn hn=>by rw[List.length_set];exact R.lo n hn,R.un,bN,by rw[List.length_set];exact R.ln,R.tn⟩
 ·obtain⟨x,y,q⟩:=R.sh;exact⟨x,y,g ⋯ q⟩
 ·obtain⟨d,i,m,o⟩:=R.ob n hn;exact⟨g ⋯ d,g ⋯ i,g ⋯ m,o⟩
 ·obtain⟨s,f,q,a⟩:=R.od n hn;exact⟨s,f,q,g (R.lo n (R.lt n (.inr hn))).2.2 a⟩
theorem Qhh{h:Nat}(hm:nH nd e h=some e'):e'.hs.length=e.hs.length/\e'.dn.length<=e.dn.length+1/\h<e.hs.length/\e.tk<=e'.tk:=by
  unfold nH at hm;cases a:e.hs[h]? with
  |none=>rw[a]at hm;cases hm
  |some o =>
    have c:=(Ag.mp a).1;rw[a]at hm;cases o with
    |none =>
      dsimp only at hm;split at hm<;>cases hm
      . exact⟨by simp,by simp,c,Nat.le_succ _⟩
      . exact⟨rfl,⋯,c,Ai _⟩
    |some n =>
      dsimp only at hm;split at hm
      . cases hm;exact⟨by simp,by simp,c,Ai _⟩
      . cases hm
theorem DM(hr:2<=r)(hn:nd<=3)(hH:H<=8)(m:Nat):∀(g h:Nat) (e:ES) (w:Hs) (L:Nat->Nat) (a:List DV) (c:Nat),kW nd H g h e=some (e',c)->e.hs.length=H->e.dn.length+g<=100->Rp w b N r k nd e L->w[N]?=some (.lst a)->a.length+g<90000->∃u L' d h',Xx (Z2 (eB (QM "Weaver" "idle" 1 Zx (Qb 0) Qk))) (qo) (g+m) [.val (.ref (b+3)),.val (.ref N),.val (.int h)] w=some ((.nx,[.val (.ref (b+3)),.val (.ref N),.val (.int h')]),u)/\Rp u b N r k nd e' L'/\u[N]?=some (.lst d)/\d.length=a.length+c/\(∀x,x<N->(x<=b∨b+6<x)->u[x]?=w[x]?)/\(∀n,n<e.tk->L' n=L n)/\(∀n,e.tk<=n->n<e'.tk->N<L' n)/\e.tk<=e'.tk:=by
  intro g;induction g with
  |zero=>intro h e w L a c hf;cases hf
  |succ g ih =>
    intro h e w L a c hf hl hd R z hs;have bN:=R.bN;have j:Z2 (eB (QM "Weaver" "idle" 1 Zx (Qb 0) Qk)) [.val (.ref (b+3)),.val (.ref N),.val (.int h)] w=some (!idE nd e,w):=Z5 (b:=idE nd e) (Q0 (QY (Qe rfl) R.wv (CT ..) Jp rfl (DC R ⋯)));rw[show g+1+m=(g+m)+1 by lia];unfold kW at hf;cases hi:idE nd e with
    |true=>rw[hi,Cf rfl]at hf;cases hf;rw[hi]at j;exact⟨w,L,a,h,UV j,R,z,rfl,λ_ _ _=>rfl,λ_ _=>rfl,λn h1 h2=>absurd h2 ⋯,Ai _⟩
    |false =>
      rw[hi,Ce (by simp)]at hf;rw[hi]at j;cases hm:nH nd e h with
      |none=>rw[hm]at hf;cases hf
      |some v =>
        rw[hm]at hf;dsimp only at hf;cases C:kW nd H g ((h+1) % H) v with
        |none=>rw[C]at hf;cases hf
        |some p =>
          obtain⟨p1,p2⟩:=p;rw[C]at hf;cases hf;obtain⟨l1,l2,l3,l4⟩:=Qhh hm;obtain⟨O,S,o,em,Y,F,Q,M1⟩:=X_ R hr hn ⋯ ⋯ hm;have G:O[N]?=some (.lst a):=(F N (Ai _) (.inr bN)).trans z
          let i:Hs:=O.set N (.lst (a++[o]))
          have R2:=Y.row (a++[o]);obtain⟨w3,T,Z,h3,e3,R3,X,c3,P,I,U,T3⟩:=ih ((h+1) % H) v i S (a++[o]) p2 C ⋯ ⋯ R2 (fY G) (by simp;lia)
          let E:En:=[.val (.ref (b+3)),.val (.ref N),.val (.int h)]
          have u1:Zd (Zo "list" Zh (Qb 1) (Qc (QM "Weaver" "move" 2 ZL (Qb 0) (Qc (Qb 2) (Qk))) (Qk))) E w=some ((.nx,E),i):=ZG (QgA (Qe rfl) z (QY (Qe rfl) R.wv (Lb ..) (QK (Qe rfl)) rfl em) G ⋯);have md:(((h:Int)+1) % ((H:Nat):Int))=(((h+1) % H:Nat):Int):=by rw[Int.natCast_emod,Int.natCast_add];rfl
          have u2:QD 2 (Qi Xg (Qi Zf (Qb 2) (eC (.int 1))) (QL Zp (Qc (QT "Weaver" "held" (Qb 0)) (Qk)))) E i=some ((.nx,[.val (.ref (b+3)),.val (.ref N),.val (.int ((h+1) % H:Nat))]),i):=Qv (Qn (x:=.int ((h:Int)+1)) (y:=.int (H:Nat)) (Qn (Qe rfl) rfl rfl) ((jV (QV (Qe rfl) R2.wv (zM ..)) R2.hd).trans (by rw[Bm,l1,hl])) ((JU (Xh _ _ ⋯) i).trans (by rw[md])));refine⟨w3,T,Z,h3,(ko j ((Qj u1).trans u2)).trans e3,R3,X,by rw[c3,Ap];simp;lia,λx hx J=>?_,λn hn=>?_,λn h1 h2=>?_,⋯⟩
          . rw[P x hx J,Q6 _ _ _ _ ⋯,F x ⋯ J]
          . rw[I n ⋯,Q n hn]
          . by_cases q:n<v.tk
            . rw[I n q];exact M1 n h1 q
            . exact U n ⋯ h2
end
theorem XJ{α:Type}{hp l:List α}{j:Nat}{x:α}(h:l[j]?=some x):(hp++l)[hp.length+j]?=some x:=by rw[As ⋯,Nat.add_sub_cancel_left];exact h
theorem nU{α:Type}(hp l:List α)(j:Nat)(x:α):(hp++l).set (hp.length+j) x=hp++l.set j x:=by rw[List.set_append_right _ _ ⋯,Nat.add_sub_cancel_left]
def xZ{α:Type}(hp l:List α)(x y:α):(hp++x::l).set hp.length y=hp++y::l:=nU hp (x::l) 0 y
def J7{α:Type}{hp l:List α}{x:α}:(hp++x::l)[hp.length]?=some x:=XJ (j:=0) rfl
theorem CQ{f:aD}{env:En}{hp hp1:Hs}{n:Nat}{ds:List DV}(h:f env hp=some (.ref n,hp1))(hn:hp1[n]?=some (.lst ds)):cT f env hp=some (fV n,hp1):=by unfold cT;rw[Ql h];show(ZE n >>= _) hp1=_;rw[Ql (Zi hn)];rfl
theorem Qe6{hp:Hs}{a:Nat}{d:DV}(h:hp[a]?=some (.lst [d])):aF (.ref a) (.int (-1)) hp=some (d,hp):=by show(ZE a >>= _) hp=_;rw[Ql (Zi h)];rfl
theorem W9{hp:Hs}{d:Nat}{i:Int}(h:hp[d]?=some (.aH [])):mX (.int i) (.ref d) hp=some (.bl true,hp):=by
 unfold mX;have:Cy (.int i) (.ref d) hp=some (false,hp):=by show(ZE d >>= _) hp=_;rw[Ql (Zi h)];rfl
 rw[Ql this];rfl
theorem km{f:aD}{env:En}{hp:Hs}{a:Nat}{x:DV}{xs:List DV}(hf:f env hp=some (.ref a,hp))(h:hp[a]?=some (.lst (x::xs))):uZ f env hp=some (true,hp):=by unfold uZ;rw[Ql hf];show(ZE a >>= _) hp=_;rw[Ql (Zi h)];rfl
theorem Qh7{f:aD}{env:En}{hp hp1:Hs}{x:DV}{xs:List DV}(hf:f env hp=some (.tup (x::xs),hp1)):uZ f env hp=some (true,hp1):=by unfold uZ;rw[Ql hf];rfl
theorem qS{nxt:NX}{b:DV->aB}{env aA:En}{hp hp1:Hs}{d:DV}(a:nxt 0 hp=some (some d,hp))(c:b d env hp=some ((.nx,aA),hp1))(h1:nxt 1 hp1=some (none,hp1)):Ut nxt b 100000 0 env hp=some ((.nx,aA),hp1):=by show(nxt 0 >>= _) hp=_;rw[Ql a];show(b d env >>= _) hp=_;rw[Ql c];show(nxt 1 >>= _) hp1=_;rw[Ql h1];rfl
theorem QeW{nxt:NX}{b:DV->aB}{env:En}{hp:Hs}(a:nxt 0 hp=some (none,hp)):Ut nxt b 100000 0 env hp=some ((.nx,env),hp):=by show(nxt 0 >>= _) hp=_;rw[Ql a];rfl
theorem XW{f:lB}{g:iU}{a:aB}{env:En}{hp hp1:Hs}{nxt:NX}{r:(Fl×En)×Hs}(h:f env hp=some (nxt,hp1))(h':Ut nxt (λd env=>do let env' <- g d env;a env') 100000 0 env hp1=some r):qt f g a env hp=some r:=by unfold qt;rw[Ql h];exact h'
theorem V2{i:Nat}{d:DV}{env:En}{a:aB}{hp:Hs}{r:(Fl×En)×Hs}(h:a (env.set i (.val d)) hp=some r):(do let env' <- gN i d env;a env':M (Fl×En)) hp=some r:=by
 have:gN i d env hp=some (env.set i (.val d),hp):=by rfl
 rw[Ql this];exact h
theorem yc{o:aD}{fa:aW}{env:En}{hp hp1:Hs}{a b:Nat}{ds es:List DV}(i:o env hp=some (.ref a,hp))(h:hp[a]?=some (.lst ds))(ha:fa env hp=some ([.ref b],hp1))(h1:hp1[a]?=some (.lst ds))(d:hp1[b]?=some (.lst es))(e:ds.length+es.length<=100000):Zo "list" XQ o fa env hp=some (.non,hp1.set a (.lst (ds++es))):=by
 unfold Zo;rw[Ql i];have c:Xf "list" (.ref a) hp=some ((),hp):=by show(ZE a >>= _) hp=_;rw[Ql (Zi h)];rfl
 rw[Ql c,Ql ha];show(ZE a >>= _) hp1=_;rw[Ql (Zi h1)];show(ZE b >>= _) hp1=_;rw[Ql (Zi d)];show(Qy (decide (ds.length+es.length<=lim)) >>= _) hp1=_;rw[Ch (by unfold lim;exact e)];rfl
section
variable{hp:Hs}{k:Int}
def aL(k:Int):DV:=aY (lf k 2)
theorem De(A:OV):zr [.lst [aL k],.int 0,.ref (hp.length+1)] (hp++[A,.aH []])=some (.ref (hp.length+2),hp++[A,.aH [(.inl 0,.bl true)],.lst [.int 0]]):=by
 let E:Sl->Sl->En:=λx y=>[.val (.lst [aL k]),.val (.int 0),.val (.ref (hp.length+1)),x,y]
 let a:En:=E (.val (.ref (hp.length+2))) (.val (.int 0))
 let e:En:=E (.val (.ref (hp.length+2))) (.val .non)
 let d:Hs:=hp++[A,.aH [],.lst []]
 let m:Hs:=hp++[A,.aH [(.inl 0,.bl true)],.lst []]
 let c:Hs:=hp++[A,.aH [(.inl 0,.bl true)],.lst [.int 0]]
 have o:Z8 Qk (E .un .un) (hp++[A,.aH []])=some (.ref (hp.length+2),d):=by show some (DV.ref (hp++[A,OV.aH []]).length,(hp++[A,OV.aH []])++[OV.lst []])=_;simp[d]
 have d1:d[hp.length+1]?=some (.aH []):=XJ rfl;have c1:XC (eB (Qi vi (Qb 4) (eC .non))) (XC (eB (JS dI cD (eC (.int 0)) (Qb 4) (QL Zp (Qc (Qb 0) (Qk))))) (eB (Qi mX (Qb 4) (Qb 2)))) a d=some (true,d):=by refine(Kq (Q0 (Qn (Qe rfl) rfl rfl))).trans ((Kq (Q0 (Kf (b:=true) (b':=true) (x:=.int 0) (y:=.int 0) (z:=.int 1) rfl (Qe rfl) (Zr (QK (Qe rfl)) (Rt ..)) rfl rfl))).trans (Q0 (Qn (Qe rfl) (Qe rfl) ?_)));exact W9 d1
 have c2:XC (eB (Qi vi (Qb 4) (eC .non))) (XC (eB (JS dI cD (eC (.int 0)) (Qb 4) (QL Zp (Qc (Qb 0) (Qk))))) (eB (Qi mX (Qb 4) (Qb 2)))) e c=some (false,c):=Kp (Q0 (Qn (Qe rfl) rfl rfl));have q:YY (eC (.bl true)) (cU (Qb 2) (Qb 4)) a d=some ((.nx,a),m):=by refine(OJ rfl (Qe rfl) (n:=0) (Qe rfl) d1 (by decide)).trans ?_;rw[nU];rfl
 have r:Zd (Zo "list" Zh (Qb 3) (Qc (Qb 4) (Qk))) a m=some ((.nx,a),c):=by refine(ZG (qL (Qe rfl) (XJ (j:=2) rfl) (Qe rfl) (by decide))).trans ?_;rw[nU];rfl
 have u:QD 4 (Qi aF (Qi aF (Qb 0) (Qb 4)) (eC (.int 4))) a c=some ((.nx,e),c):=Qv (Qn (x:=aL k) (Qn (Qe rfl) (Qe rfl) rfl) rfl (Ze (i:=4) rfl c));refine QH (env:=e) ((Qj (Qv o)).trans ((Qj (aA:=a) (Qv (Qe rfl))).trans ((Qj (aA:=e) (hp1:=c) ?_).trans (QJ (Qe rfl)))));exact(ko (n:=99999) c1 ((Qj q).trans ((Qj r).trans u))).trans (UV (n:=99998) c2)
theorem Qg1{a:Nat}(h:hp[a]?=some (.lst [.int 0])):Y8 [.lst [aL k],.ref a] hp=some (.int 7,hp):=by
 let E:En:=[.val (.lst [aL k]),.val (.ref a)]
 have p:Qi aF (Qi aF (Qb 0) (Qi aF (Qb 1) (eC (.int 0)))) (eC (.int 2)) E hp=some (.tup [.int 7,.int (-8)],hp):=Qn (x:=aL k) (Qn (Qe rfl) (Qn (Qe rfl) rfl (zD (i:=0) h rfl)) rfl) rfl (Ze (i:=2) rfl hp);exact QH (env:=E) ((Qj ((Zv ((tK (Z5 (b:=true) (km (Qe rfl) h))).trans (Z5 (b:=true) (Qh7 p)))).trans ZB)).trans (QJ (Qn p rfl (Ze (i:=0) rfl hp))))
theorem Nu:JO [.lst [aL k],.int 0] hp=some (.ref hp.length,hp++[.lst [.ref (hp.length+2)],.aH [(.inl 0,.bl true)],.lst [.int 0]]):=by
 let E:Sl->Sl->Sl->Sl->En:=λx y z u=>[.val (.lst [aL k]),.val (.int 0),x,y,z,u]
 let E3:En:=E (.val (.ref hp.length)) (.val (.ref (hp.length+1))) (.val (.int 0)) .un
 let c:En:=E (.val (.ref hp.length)) (.val (.ref (hp.length+1))) (.val (.int 0)) (.val (.ref (hp.length+2)))
 let d:En:=E (.val (.ref hp.length)) (.val (.ref (hp.length+1))) (.val (.int 7)) (.val (.ref (hp.length+2)))
 let e:Hs:=hp++[.lst [],.aH []]
 let o:Hs:=hp++[.lst [],.aH [(.inl 0,.bl true)],.lst [.int 0]]
 let a:Hs:=hp++[.lst [.ref (hp.length+2)],.aH [(.inl 0,.bl true)],.lst [.int 0]]
 have q:Z8 Qk (E .un .un .un .un) hp=some (.ref hp.length,hp++[.lst []]):=rfl;have r:Xt (E (.val (.ref hp.length)) .un .un .un) (hp++[.lst []])=some (.ref (hp.length+1),e):=by show some (DV.ref (hp++[OV.lst []]).length,(hp++[OV.lst []])++[OV.aH []])=_;simp[e]
 have g0:∀{x:OV}{l:List OV},(hp++x::l)[hp.length]?=some x:=λ{x l}=>XJ (j:=0) rfl;have m:∀(env:En)(w:Hs)(ds:List DV),env[2]?=some (.val (.ref hp.length))->env[0]?=some (.val (.lst [aL k]))->env[1]?=some (.val (.int 0))->w[hp.length]?=some (.lst ds)->eB (Qi dI (QL Zp (Qc (Qb 2) (Qk))) (Qi aF (Qi aF (Qb 0) (Qb 1)) (eC (.int 0)))) env w=some (decide ((ds.length:Int)<=0),w):=λenv w ds h2 G h1 I=>Q0 (Qn (Zr (QK (Qe h2)) (XN I)) (Qn (x:=aL k) (Qn (Qe G) (Qe h1) rfl) rfl (Ze (i:=0) rfl w)) rfl);have v:QD 5 (QB 3 zr (Qc (Qb 0) (Qc (Qb 4) (Qc (Qb 3) (Qk))))) E3 e=some ((.nx,c),o):=Qv (QP (xx (Qe rfl) (Qe rfl) (Qe rfl)) rfl (De (.lst [])));have C:Zd (Zo "list" Zh (Qb 2) (Qc (Qb 5) (Qk))) c o=some ((.nx,c),a):=by refine(ZG (qL (Qe rfl) g0 (Qe rfl) (by decide))).trans ?_;rw[xZ];rfl
 have F:QD 4 (QB 2 Y8 (Qc (Qb 0) (Qc (Qb 5) (Qk)))) c a=some ((.nx,d),a):=Qv (QP (Zn (Qe rfl) (Qe rfl)) rfl (Qg1 (XJ (j:=2) rfl)));refine QH (env:=d) ((Qj (Qv q)).trans ((Qj (Qv r)).trans ((Qj (aA:=E3) (Qv (Qe rfl))).trans ((Qj (aA:=d) (hp1:=a) ?_).trans (QJ (Qe rfl))))));exact(ko (n:=99999) (m E3 e [] rfl rfl rfl g0) ((Qj v).trans ((Qj C).trans F))).trans (UV (n:=99998) (m d a [_] rfl rfl rfl g0))
def tb(k:Int):List DV:=[.tup [.int k,.int 7],.tup [.int (200+k),.int (-8)]]
theorem Ln{s:Nat}{r t a b:Int}{ps:List DV}(h1:hp[s]?=some (.ins "Shelf" (aO r (s+1) t a b)))(h2:hp[s+1]?=some (.lst ps)):JE [.ref s] hp=some (.lst ps,hp):=by
 refine QH (env:=[.val (.ref s)]) (QJ (Zr (QK (QV (Qe rfl) h1 (Y2 ..))) ?_));show(pL (.ref (s+1)) >>= λds=>pure (DV.lst ds)) hp=_;have:pL (.ref (s+1)) hp=some (ps,hp):=by show(ZE (s+1) >>= _) hp=_;rw[Ql (Zi h2)];rfl
 rw[Ql this];rfl
theorem v8(r:Int)(k:Nat)(t a b:Int):List.lookup ("picture" : Str) (aO r k t a b)=none:=by rfl
theorem PL{s:Nat}{r a b:Int}(h1:hp[s]?=some (.ins "Shelf" (aO r (s+1) 0 a b)))(h2:hp[s+1]?=some (.lst [aL k])):∃g,Xr [.ref s] hp=some (.ref hp.length,hp++.lst (tb k)::g):=by
 let E:Sl->Sl->Sl->En:=λx y z=>[.val (.ref s),x,y,z]
 let o:En:=E (.val (.lst [aL k])) (.val (.ref hp.length)) .un
 let E3:En:=E (.val (.lst [aL k])) (.val (.ref hp.length)) (.val (.int 0))
 let e:Hs:=hp++[.lst []]
 let g2:List OV:=[.lst [.ref (hp.length+3)],.aH [(.inl 0,.bl true)],.lst [.int 0]]
 let c:Hs:=hp++.lst []::g2
 let q:Hs:=hp++.lst []::(g2++[.lst (tb k)])
 let n:Hs:=hp++.lst (tb k)::(g2++[.lst (tb k)])
 have u:e.length=hp.length+1:=by simp[e]
 have lv:JO [.lst [aL k],.int 0] e=some (.ref (hp.length+1),c):=by rw[Nu,u];show some (_,(hp++[OV.lst []])++_)=_;rw[A0];rfl
 have v:QD 1 (QM "Shelf" "picture" 1 JE (Qb 0) Qk) (E .un .un .un) hp=some ((.nx,E (.val (.lst [aL k])) .un .un),hp):=Qv (QY (Qe rfl) h1 (v8 ..) Jp rfl (Ln h1 h2));have C:QD 2 (Z8 Qk) (E (.val (.lst [aL k])) .un .un) hp=some ((.nx,o),e):=Qv rfl;have i:e[s]?=some (.ins "Shelf" (aO r (s+1) 0 a b)):=Yv h1;have m:cT (Qi aF (QB 2 JO (Qc (Qb 1) (Qc (QM "Shelf" "root" 1 Jv (Qb 0) Qk) (Qk)))) (yb (eC (.int 1)))) o e=some (fV (hp.length+3),c):=by refine CQ (Qn (QP (Zn (Qe rfl) (QY (Qe rfl) i (yn ..) Jp rfl (gP i))) rfl lv) rfl (Qe6 (XJ (j:=1) rfl))) (XJ (j:=3) rfl)
 have zz:Qc (Dm (Qi aF (Qi aF (Qb 1) (Qb 3)) (eC (.int 1))) (Qi aF (Qi aF (Qb 1) (Qb 3)) (eC (.int 2)))) Qk E3 c=some ([.ref (hp.length+4)],q):=by refine QK ?_;show some (DV.ref c.length,c++[OV.lst (tb k)])=_;simp[c,q,g2]
 have ex:yU E3 c=some ((.nx,E3),n):=by refine(ZG (yc (Qe rfl) J7 zz J7 (XJ (j:=4) rfl) (by show 0+2<=100000;decide))).trans ?_;rw[xZ];rfl
 exact⟨_,QH (env:=E3) ((Qj v).trans ((Qj C).trans ((Qj (aA:=E3) (hp1:=n) (XW m (qS (d:=.int 0) (jD (ds:=[.int 0]) (XJ (j:=3) rfl) 0) (V2 ex) (jD (ds:=[.int 0]) (hp:=n) (XJ (j:=3) rfl) 1)))).trans (QJ (Qe rfl)))))⟩
end
section
variable{hp:Hs}{k:Int}
theorem MQ:zn [aL k,.non] hp=some (.bl true,hp):=by
 let E:Sl->Sl->En:=λx y=>[.val (aL k),.val .non,x,y]
 let a:En:=E (.val (.tup [.int k,.int (200+k)])) (.val .non)
 have c:jk a hp=some (.lst [.bl (decide (k<200+k))],hp):=by kernel_rfl
 rw[Ch ⋯]at c;refine QH (env:=a) ((Qj (aA:=E (.val (.tup [.int k,.int (200+k)])) .un) (Qv (Qn (x:=aL k) (Qe rfl) rfl (Ze (i:=1) rfl hp)))).trans ((Qj (aA:=a) (Qv (Qn (x:=aL k) (Qe rfl) rfl (Ze (i:=3) rfl hp)))).trans ?_));refine(Qj ((Zv (Z5 (b:=true) (Q0 (Zr (QK c) rfl)))).trans ZB)).trans ?_;refine(Qj ((Zv (Kp (Q0 (Qn (Qe rfl) rfl rfl)))).trans ZB)).trans ?_;refine(Qj ((Zv (Kp (Q0 (Qn (Qe rfl) rfl rfl)))).trans ZB)).trans ?_;exact QJ rfl
theorem SF:Xb [.int 0,aL k,.int 0,.non,.non] hp=some (.ref hp.length,hp++[.lst []]):=by
 let E:En:=[.val (.int 0),.val (aL k),.val (.int 0),.val .non,.val .non,.val (.ref hp.length)]
 let w:Hs:=hp++[.lst []]
 have pi:∀{i:Nat}{d:DV},[DV.int 0,.tup [.int k,.int (200+k)],.tup [.int 7,.int (-8)],.non,.non][i]?=some d->Qi aF (Qb 1) (eC (.int i)) E w=some (d,w):=λ{i d} h=>Qn (x:=aL k) (Qe rfl) rfl (Ze h w);refine QH (env:=E) ((Qj (aA:=E) (hp1:=w) (Qv rfl)).trans ?_);refine(Qj ((Zv (Q0 (Qn (pi (i:=0) rfl) (Qe rfl) (Ii 0 w)))).trans ZB)).trans ?_;refine(Qj ((Zv (Z5 (b:=true) (Q0 (QP (Zn (Qe rfl) (Qe rfl)) rfl MQ)))).trans ZB)).trans ?_;have a:YL [aL k] w=some (.int 2,w):=by refine QH (env:=[.val (aL k)]) (QJ ((tL (Q0 (Qn (Qn (x:=aL k) (Qe rfl) rfl (Ze (i:=0) rfl w)) rfl ((wY 0 0 w).trans (by rfl))))).trans ?_));exact Zr (QK (Qn (x:=aL k) (Qe rfl) rfl (Ze (i:=1) rfl w))) rfl
 refine(Qj ((Zv (Q0 (Qn (Zr (QK (pi (i:=2) rfl)) (Qfc ..)) (QP (QK (Qe rfl)) rfl a) (Ii 2 w)))).trans ZB)).trans ?_;refine(Qj ((Zv ((tK (Q0 (Qn (Qn (pi (i:=3) rfl) rfl rfl) (Qn (pi (i:=4) rfl) rfl rfl) (W_ true w)))).trans (Q0 (Qn (pi (i:=4) rfl) (Qe rfl) ((Wo none none w).trans rfl))))).trans ZB)).trans ?_;exact QJ (Qe rfl)
theorem QgE{a:Nat}(h:hp[a]?=some (.lst [.int 0])):Xy [.lst [aL k],.ref a] hp=some (.ref hp.length,hp++[.aH [(.inl 0,.non)]]):=by
 let E:Sl->Sl->Sl->En:=λx y z=>[.val (.lst [aL k]),.val (.ref a),x,y,z]
 let j:Hs:=hp++[.aH []]
 let e:Hs:=hp++[.aH [(.inl 0,.non)]]
 have h1:j[a]?=some (.lst [.int 0]):=Yv h;have h2:e[a]?=some (.lst [.int 0]):=Yv h
 let c:En:=E (.val (.ref hp.length)) (.val .non) (.val (.int 0))
 have m:YY (Qb 3) (cU (Qb 2) (Qb 4)) c j=some ((.nx,c),e):=by refine(OJ (Qe rfl) (Qe rfl) (n:=0) (Qe rfl) J7 (by decide)).trans ?_;rw[xZ];rfl
 have o:QD 3 (Qi aF (Qi aF (Qb 0) (Qb 4)) (eC (.int 3))) c e=some ((.nx,c),e):=Qv (Qn (x:=aL k) (Qn (Qe rfl) (Qe rfl) rfl) rfl (Ze (i:=3) rfl e));exact QH (env:=c) ((Qj (aA:=E (.val (.ref hp.length)) .un .un) (hp1:=j) (Qv rfl)).trans ((Qj (aA:=E (.val (.ref hp.length)) (.val .non) .un) (Qv rfl)).trans ((Qj (aA:=c) (hp1:=e) (XW (CQ (Qe rfl) h1) (qS (d:=.int 0) (jD (ds:=[.int 0]) h1 0) (V2 ((Qj m).trans o)) (jD (ds:=[.int 0]) h2 1)))).trans (QJ (Qe rfl)))))
theorem QiS:Xy [.lst [aL k],.lst []] hp=some (.ref hp.length,hp++[.aH []]):=by
 let E:Sl->Sl->Sl->En:=λx y z=>[.val (.lst [aL k]),.val (.lst []),x,y,z]
 let a:Hs:=hp++[.aH []]
 exact QH (env:=E (.val (.ref hp.length)) (.val .non) .un) ((Qj (aA:=E (.val (.ref hp.length)) .un .un) (hp1:=a) (Qv rfl)).trans ((Qj (aA:=E (.val (.ref hp.length)) (.val .non) .un) (Qv rfl)).trans ((Qj (aA:=E (.val (.ref hp.length)) (.val .non) .un) (hp1:=a) rfl).trans (QJ (Qe rfl)))))
theorem Qhe{a:Nat}(h:hp[a]?=some (.lst [.int 0])):∃g,Xa [.lst [aL k],.ref a,.int 0,.lst []] hp=some (.ref (hp.length+2),hp++g)/\g[2]?=some (.lst []):=by
 let E:Sl->Sl->Sl->Sl->Sl->Sl->Sl->En:=λx y z u v p q=>[.val (.lst [aL k]),.val (.ref a),.val (.int 0),.val (.lst []),x,y,z,u,v,p,q]
 let n:=hp.length
 let r:Hs:=hp++[.aH [(.inl 0,.non)]]
 let F:Hs:=hp++[.aH [(.inl 0,.non)],.aH []]
 let c:Hs:=hp++[.aH [(.inl 0,.non)],.aH [],.lst []]
 let o:Hs:=hp++[.aH [(.inl 0,.non)],.aH [],.lst [],.lst []]
 have S:r.length=n+1:=by simp[r,n]
 have T:c.length=n+3:=by simp[c,n]
 have Q:Xy [.lst [aL k],.lst []] r=some (.ref (n+1),F):=by rw[QiS,S];show some (_,(hp++[_])++_)=_;rw[A0];rfl
 have R:Xb [.int 0,aL k,.int 0,.non,.non] c=some (.ref (n+3),o):=by rw[SF,T];show some (_,(hp++[_,_,_])++_)=_;rw[A0];rfl
 let E3:Sl->Sl->Sl->Sl->En:=E (.val (.ref n)) (.val (.ref (n+1))) (.val (.ref (n+2)))
 let Z:Sl:=.val (.int 0)
 let e:En:=E3 Z Z (.val (aL k)) (.val .non)
 have h3:c[a]?=some (.lst [.int 0]):=Yv h;have d0:c[n]?=some (.aH [(.inl 0,.non)]):=J7;have I:QD 8 (Qi aF (Qb 1) (Qb 7)) (E3 Z .un .un .un) c=some ((.nx,E3 Z Z .un .un),c):=Qv (Qn (Qe rfl) (Qe rfl) (zD (i:=0) h3 rfl));have J:QD 9 (Qi aF (Qb 0) (Qb 8)) (E3 Z Z .un .un) c=some ((.nx,E3 Z Z (.val (aL k)) .un),c):=Qv (Qn (Qe rfl) (Qe rfl) rfl);have L:QD 10 (b_ (eB (Qi cD (Qi Zf (Qb 7) (eC (.int 1))) (QL Zp (Qc (Qb 1) (Qk))))) (Qi aF (Qb 1) (Qi Zf (Qb 7) (eC (.int 1)))) (eC .non)) (E3 Z Z (.val (aL k)) .un) c=some ((.nx,e),c):=Qv ((Dr (Q0 (Qn (x:=.int 1) (y:=.int 1) rfl (Zr (QK (Qe rfl)) (XN h3)) rfl))).trans rfl);have O:Zd (Zo "list" XQ (Qb 6) (Qc (QB 5 Xb (Qc (Qb 8) (Qc (Qb 9) (Qc (Qb 2) (Qc (Qi aF (Qb 4) (Qb 8)) (Qc (Qb 10) (Qk))))))) (Qk))) e c=some ((.nx,e),o):=by refine(ZG (yc (Qe rfl) (XJ (j:=2) rfl) (QK (QP (BD (Qe rfl) (Qe rfl) (Qe rfl) (Qn (Qe rfl) (Qe rfl) (Sb (k:=0) d0 rfl)) (Qe rfl)) rfl R)) (XJ (j:=2) rfl) (XJ (j:=3) rfl) (by show 0+0<=100000;decide))).trans ?_;rw[nU];rfl
 have P:aJ (eB (Qi fJ (Qb 2) (eC (.int 0)))) (Zd (Zo "list" XQ (Qb 6) (Qc (QB 4 zo (Qc (Qb 8) (Qc (Qb 9) (Qc (Qi aF (Qb 4) (Qb 8)) (Qc (Qb 5) (Qk)))))) (Qk)))) (Q7) e o=some ((.nx,e),o):=rfl;have G:Z8 Qk (E (.val (.ref n)) (.val (.ref (n+1))) .un .un .un .un .un) F=some (.ref (n+2),c):=by show some (DV.ref (hp++[_,_]).length,(hp++[_,_])++[OV.lst []])=_;simp[c,n]
 refine⟨_,QH (env:=e) ((Qj (aA:=E (.val (.ref n)) .un .un .un .un .un .un) (hp1:=r) (Qv (QP (Zn (Qe rfl) (Qe rfl)) rfl (QgE h)))).trans ((Qj (aA:=E (.val (.ref n)) (.val (.ref (n+1))) .un .un .un .un .un) (hp1:=F) (Qv (QP (Zn (Qe rfl) (Qe rfl)) rfl Q))).trans ((Qj (aA:=E3 .un .un .un .un) (hp1:=c) (Qv G)).trans ((Qj (aA:=e) (hp1:=o) ?_).trans (QJ (Qe rfl)))))),rfl⟩;have C:dh (vh (Qc (QL Zp (Qc (Qb 1) (Qk))) (Qk))) (E3 .un .un .un .un) c=some (fH [.int 0],c):=GN (gu (m:=1) (QK (Zr (QK (Qe rfl)) (XN h3))) (by decide));exact XW C (qS (d:=.int 0) rfl (V2 ((Qj I).trans ((Qj J).trans ((Qj L).trans ((Qj O).trans P))))) rfl)
theorem QeS{s:Nat}{r a b:Int}(h1:hp[s]?=some (.ins "Shelf" (aO r (s+1) 0 a b)))(h2:hp[s+1]?=some (.lst [aL k])):∃g,U4 [.ref s] hp=some (.ref (hp.length+3),hp++g)/\g[3]?=some (.lst []):=by
 let n:=hp.length
 let E:Sl->Sl->Sl->Sl->Sl->Sl->En:=λx y z u v p=>[.val (.ref s),x,y,z,u,v,p]
 let P:Sl:=.val (.lst [aL k])
 let F:Hs:=hp++[.lst [.ref (n+2)],.aH [(.inl 0,.bl true)],.lst [.int 0]]
 let c:Hs:=hp++[.lst [.ref (n+2)],.aH [(.inl 0,.bl true)],.lst [.int 0],.lst []]
 have R:c.length=n+4:=by simp[c,n]
 obtain⟨g,e,Q⟩:=Qhe (k:=k) (hp:=c) (a:=n+2) (XJ (j:=2) rfl);rw[R]at e
 let C:Hs:=hp++([.lst [.ref (n+2)],.aH [(.inl 0,.bl true)],.lst [.int 0],.lst []]++g)
 have O:Xa [.lst [aL k],.ref (n+2),.int 0,.lst []] c=some (.ref (n+6),C):=e.trans (by show some (_,(hp++_)++g)=_;rw[A0])
 let E3:Sl->Sl->Sl->En:=E P (.val (.ref n)) (.val (.ref (n+3)))
 let Z:Sl:=.val (.int 0)
 let o:En:=E3 Z Z (.val (.lst []))
 have g0:c[n]?=some (.lst [.ref (n+2)]):=J7;have I:QD 5 (Qi VU (Qi VU (QL Zp (Qc (Qb 2) (Qk))) (eC (.int 1))) (Qb 4)) (E3 Z .un .un) c=some ((.nx,E3 Z Z .un),c):=Qv (Qn (x:=.int 0) (y:=.int 0) (Qn (x:=.int 1) (y:=.int 1) (Zr (QK (Qe rfl)) (XN g0)) rfl rfl) (Qe rfl) rfl);have J:QD 6 (b_ (eB (Qi fJ (Qb 5) (eC (.int 0)))) (Qi aF (Qb 2) (Qi Zf (Qb 4) (eC (.int 1)))) (Ja (Qk))) (E3 Z Z .un) c=some ((.nx,o),c):=Qv ((Dr (Q0 (Qn (x:=.int 0) (y:=.int 0) (Qe rfl) rfl rfl))).trans rfl);have L:Zd (Zo "list" XQ (Qb 3) (Qc (QB 4 Xa (Qc (Qb 1) (Qc (Qi aF (Qb 2) (Qb 4)) (Qc (Qb 5) (Qc (Qb 6) (Qk)))))) (Qk))) o c=some ((.nx,o),C):=by refine(ZG (yc (ds:=[]) (es:=[]) (Qe rfl) (XJ (j:=3) rfl) (QK (QP (Dj (Qe rfl) (Qn (Qe rfl) (Qe rfl) (zD (i:=0) g0 rfl)) (Qe rfl) (Qe rfl)) rfl O)) (XJ (j:=3) rfl) (XJ (j:=6) (by rw[As (by simp)];exact Q)) (by decide))).trans ?_;rw[nU];rfl
 have G:Z8 Qk (E P (.val (.ref n)) .un .un .un .un) F=some (.ref (n+3),c):=by show some (DV.ref (hp++[_,_,_]).length,(hp++[_,_,_])++[OV.lst []])=_;simp[c,n]
 have q:dh (vh (Qc (QL Zp (Qc (Qb 2) (Qk))) (Qk))) (E3 .un .un .un) c=some (fH [.int 0],c):=GN (gu (m:=1) (QK (Zr (QK (Qe rfl)) (XN g0))) (by decide));exact⟨_,QH (env:=o) ((Qj (aA:=E P .un .un .un .un .un) (Qv (QY (Qe rfl) h1 (v8 ..) Jp rfl (Ln h1 h2)))).trans ((Qj (aA:=E P (.val (.ref n)) .un .un .un .un) (hp1:=F) (Qv (QP (Zn (Qe rfl) (QY (Qe rfl) h1 (yn ..) Jp rfl (gP h1))) rfl Nu))).trans ((Qj (aA:=E3 .un .un .un) (hp1:=c) (Qv G)).trans ((Qj (aA:=o) (hp1:=C) (XW q (qS (d:=.int 0) rfl (V2 ((Qj I).trans ((Qj J).trans L))) rfl))).trans (QJ (Qe rfl)))))),rfl⟩
theorem Qh1{s:Nat}{r a b:Int}(h1:hp[s]?=some (.ins "Shelf" (aO r (s+1) 0 a b)))(h2:hp[s+1]?=some (.lst [aL k])):∃g,YK [.ref s] hp=some (.bl true,hp++g):=by
 obtain⟨g,e,i⟩:=QeS h1 h2;refine⟨g,QH (env:=[.val (.ref s)]) (QJ (Qn (QP (QK (Qe rfl)) rfl e) rfl ?_))⟩;have hn:(hp++g)[hp.length+3]?=some (.lst []):=XJ i;have d1:dN 40 (hp++g) (.ref (hp.length+3))=some (.lst []):=by show(match (hp++g)[hp.length+3]? with|some (.lst ds)=>_|_=>_)=_;rw[hn];rfl
 have c:mR (.ref (hp.length+3)) (hp++g)=some (.lst [],hp++g):=by unfold mR;rw[d1];rfl
 have d:va (.ref (hp.length+3)) (.lst []) (hp++g)=some (true,hp++g):=by unfold va;rw[Ql c];rfl
 unfold bK;rw[Ql d];rfl
end
def fl(k:Int):DV:=.tup [.int k,.tup [.int k,.int (200+k)],.tup [.int 7,.int (-8)]]
section
variable{hp:Hs}{k:Int}{r:Nat}
theorem QgY{t:Nat}(h:hp[t]?=some (.lst (tb k)))(v:2<=r)(C:r<=5):zp [.ref t,.int r] hp=some (.lst [fl k],hp):=by
 let E:Sl->Sl->Sl->Sl->En:=λx y z u=>[.val (.ref t),.val (.int r),x,y,z,u]
 let a:En:=E (.acc []) .un .un .un
 let E3:En:=E (.acc []) (.val (.int 0)) .un .un
 let i:En:=E (.acc []) (.val (.int 0)) (.val (.lst (tb k))) .un
 let j:En:=E (.acc [fl k]) (.val (.int 0)) (.val (.lst (tb k))) (.val (.tup [.int k,.int (200+k)]))
 have o:sO [.int 0,.int 2,.int r] hp=some ([.int 0],hp):=by
  obtain rfl|rfl|rfl|rfl:r=2∨r=3∨r=4∨r=5:=⋯
  all_goals rfl
 have q:oG (.ref t) (some 0) (some (0+(r:Int))) hp=some (.lst (tb k),hp):=by
  show(ZE t >>= _) hp=_;rw[Ql (Zi h)];obtain rfl|rfl|rfl|rfl:r=2∨r=3∨r=4∨r=5:=⋯
  all_goals rfl
 have c:dh (tG (Qc (eC (.int 0)) (Qc (QL Zp (Qc (Qb 0) (Qk))) (Qc (Qb 1) (Qk))))) a hp=some (fH [.int 0],hp):=by refine GN ?_;unfold tG;have e:Qc (eC (.int 0)) (Qc (QL Zp (Qc (Qb 0) (Qk))) (Qc (Qb 1) (Qk))) a hp=some ([.int 0,.int 2,.int r],hp):=xx rfl (Zr (QK (Qe rfl)) (XN h)) (Qe rfl);rw[Ql e];exact o
 have m:QD 4 (nT (Qb 0) (Zw (Qb 3)) (Zw (Qi Zf (Qb 3) (Qb 1)))) E3 hp=some ((.nx,i),hp):=by refine Qv (d:=.lst (tb k)) ?_;show(oG (.ref t) (some 0) (some (0+(r:Int)))) hp=_;exact q
 have n:Qr (QD 5 (QL mU (Qc (jm) (Qk)))) (yg 2 (ZD (Qc (Qi aF (Qb 5) (eC (.int 0))) (Qc (Qb 5) (Qc (QL mU (Qc (jl) (Qk))) (Qk)))))) i hp=some ((.nx,j),hp):=by kernel_rfl
 refine QH (env:=[.val (.ref t),.val (.int r),.val (.lst [fl k]),.val (.int 0),.val (.lst (tb k)),.val (.tup [.int k,.int (200+k)])]) ((Qj ((Zv (Z5 (b:=true) (km (Qe rfl) h))).trans ZB)).trans ((Qj (aA:=a) (hp1:=hp) rfl).trans ((Qj (aA:=j) (hp1:=hp) (XW c (qS (d:=.int 0) rfl (V2 ((Qj m).trans n)) rfl))).trans ?_)));rfl
theorem Qfd:yt [.int 0,.lst [fl k],.int 0] hp=some (.ref hp.length,hp++[.lst [aL k]]):=by
 let E:Sl->Sl->Sl->Sl->Sl->Sl->En:=λx y z u v p=>[.val (.int 0),.val (.lst [fl k]),.val (.int 0),x,y,z,u,v,p]
 let a:Hs:=hp++[.lst []]
 let i:Hs:=hp++[.lst [aL k]]
 let R:Sl:=.val (.ref hp.length)
 let c:En:=E R (.val (.int 0)) (.val (.int 1)) (.val (.bl true)) (.val .non) (.val .non)
 have j:Zd (Zo "list" Zh (Qb 3) (Qc (ZD (Qc (Qb 0) (Qc (Qi aF (Qi aF (Qb 1) (Qb 4)) (eC (.int 1))) (Qc (Qi aF (Qi aF (Qb 1) (Qb 4)) (eC (.int 2))) (Qc (Qb 7) (Qc (Qb 8) (Qk))))))) (Qk))) c a=some ((.nx,c),i):=by refine(ZG (qL (d:=aL k) (Qe rfl) J7 rfl (by decide))).trans ?_;rw[xZ];rfl
 have e:dh (vh (Qc (QL Zp (Qc (Qb 1) (Qk))) (Qk))) (E R .un .un .un .un .un) a=some (fH [.int 0],a):=GN (gu (m:=1) (QK rfl) (by decide));have b:KM (E R (.val (.int 0)) .un .un .un .un) a=some ((.nx,c),i):=(Qj (aA:=E R (.val (.int 0)) (.val (.int 1)) .un .un .un) (hp1:=a) rfl).trans ((Qj (aA:=E R (.val (.int 0)) (.val (.int 1)) (.val (.bl true)) .un .un) (hp1:=a) (Qv (Qn (x:=.int 1) (y:=.int 1) (Qe rfl) rfl ((wY 1 1 a).trans rfl)))).trans ((Qj (aA:=E R (.val (.int 0)) (.val (.int 1)) (.val (.bl true)) (.val .non) .un) (hp1:=a) rfl).trans ((Qj (aA:=c) (hp1:=a) rfl).trans j)));exact QH (env:=c) ((Qj (aA:=E R .un .un .un .un .un) (hp1:=a) (Qv rfl)).trans ((Qj (aA:=c) (hp1:=i) (XW e (qS (d:=.int 0) rfl (V2 b) rfl))).trans (QJ (Qe rfl))))
theorem RB{fa:aW}{env:En}{hp0:Hs}(ha:fa env hp0=some ([.int (r:Int)],hp)):Js "Shelf" 2 ZI fa env hp0=some (.ref hp.length,hp++[.ins "Shelf" (aO r (hp.length+1) 0 0 0),.lst [emp]]):=by unfold Js;rw[Ql ha];have a:JZ (.ins "Shelf" []) hp=some (.ref hp.length,hp++[.ins "Shelf" []]):=rfl;have c:Qy (decide ([DV.int (r:Int)].length+1=2)) hp=some ((),hp):=rfl;rw[Ql c,Ql a,Ql (Qg9 r hp)];rfl
theorem QhY{p:Nat}(h:hp[p]?=some (.lst [aL k])):zq [.ref p,.int r] hp=some (.ref hp.length,hp++[.ins "Shelf" (aO r (hp.length+1) 0 0 1),.lst [aL k]]):=by
 let n:=hp.length
 let E:Sl->Sl->En:=λx y=>[.val (.ref p),.val (.int r),x,y]
 let c:En:=E (.val (.ref n)) .un
 let d:Hs:=hp++[.ins "Shelf" (aO r (n+1) 0 0 0),.lst [emp]]
 let a:Hs:=hp++[.ins "Shelf" (aO r (n+1) 0 0 1),.lst [aL k]]
 have h1:d[p]?=some (.lst [aL k]):=Yv h;have h2:a[p]?=some (.lst [aL k]):=Yv h;have wr:Jj [.ref n,.int 0,aL k] d=some (.non,a):=by refine(GL (i:=0) (ps:=[emp]) (hp:=d) J7 (XJ (j:=1) rfl) ⋯ (by decide)).trans ?_;show some (DV.non,((hp++_::_).set hp.length _).set (hp.length+1) _)=_;rw[xZ,nU];rfl
 have m:Jc [.ref n,.int 0] a=some (.non,a):=by refine(gE (i:=0) (ps:=[aL k]) (hp:=a) J7 (XJ (j:=1) rfl) Nat.zero_lt_one).trans ?_;show some (DV.non,(hp++_::_).set hp.length _)=_;rw[xZ];rfl
 have e:cT (nT (Qb 0) (Zw (eC (.int 1))) (ZS)) c a=some (fH [],a):=by
  unfold cT;have:nT (Qb 0) (Zw (eC (.int 1))) (ZS) c a=some (.lst [],a):=by show(oG (.ref p) (some 1) none) a=_;show(ZE p >>= _) a=_;rw[Ql (Zi h2)];rfl
  rw[Ql this];rfl
 refine QH (env:=c) ((Qj (aA:=c) (hp1:=d) (Qv (RB (QK (Qe rfl))))).trans ((Qj (aA:=c) (hp1:=a) (ZG (QY (Qe rfl) J7 (jL ..) (Zn rfl (Qn (Qe rfl) rfl (zD (i:=0) h1 rfl))) rfl wr))).trans ((Qj (aA:=c) (hp1:=a) (XW e (QeW rfl))).trans ((Qj (aA:=c) (hp1:=a) (ZG (QY (Qe rfl) J7 (QbU ..) (QK (Qn (x:=.int 1) (y:=.int 1) (Zr (QK (Qe rfl)) (XN h2)) rfl rfl)) rfl m))).trans (QJ (Qe rfl))))))
theorem Qfu{t:Nat}(h:hp[t]?=some (.lst (tb k)))(e:2<=r)(i:r<=5):yu [.ref t,.int r] hp=some (.ref (hp.length+1),hp++[.lst [aL k],.ins "Shelf" (aO r (hp.length+2) 0 0 1),.lst [aL k]]):=by
 let n:=hp.length
 let E:Sl->Sl->Sl->En:=λx y z=>[.val (.ref t),.val (.int r),x,y,z]
 let F:Sl:=.val (.lst [fl k])
 let c:En:=E (.val (.int 0)) F (.val (.ref n))
 let a:Hs:=hp++[.lst [aL k]]
 have d:a.length=n+1:=by simp[a,n]
 have sh:zq [.ref n,.int r] a=some (.ref (n+1),hp++[.lst [aL k],.ins "Shelf" (aO r (n+2) 0 0 1),.lst [aL k]]):=by rw[QhY (hp:=a) (p:=n) J7,d];show some (_,(hp++[_])++_)=_;rw[A0];rfl
 exact QH (env:=c) ((Qj (aA:=E (.val (.int 0)) .un .un) (hp1:=hp) rfl).trans ((Qj (aA:=E (.val (.int 0)) F .un) (Qv (QP (Zn (Qe rfl) (Qe rfl)) rfl (QgY h e i)))).trans ((Qj (aA:=c) (hp1:=a) (Qv (QP (xx (Qe rfl) (Qe rfl) rfl) rfl Qfd))).trans ((Qj (aA:=c) (hp1:=a) (UV (n:=99999) rfl)).trans (QJ (QP (Zn (Qe rfl) (Qe rfl)) rfl sh))))))
end
def eE(s v:Nat)(c:Int):List (Str×DV):=[("shelf", .ref s),("weaver", .ref v),("deed_count", .int c)]
theorem qQ(s v:Nat)(c:Int):List.lookup ("shelf" : Str) (eE s v c)=some (DV.ref s):=by rfl
theorem X8(s v:Nat)(c:Int):List.lookup ("weaver" : Str) (eE s v c)=some (DV.ref v):=by rfl
theorem kP(s v:Nat)(c:Int):List.lookup ("deed_count" : Str) (eE s v c)=some (DV.int c):=by rfl
theorem Qdn(s t v:Nat)(c:Int):Ju ("shelf" : Str) (.ref t) (eE s v c)=eE t v c:=by rfl
theorem Qdm(s v:Nat)(c d:Int):Ju ("deed_count" : Str) (.int d) (eE s v c)=eE s v d:=by rfl
theorem D1(s v:Nat)(c:Int):List.lookup ("note_deed" : Str) (eE s v c)=none:=by rfl
theorem IV(s v:Nat)(c:Int):List.lookup ("answer_of" : Str) (eE s v c)=none:=by rfl
theorem IK(s v:Nat)(c:Int):List.lookup ("pack_table" : Str) (eE s v c)=none:=by rfl
theorem zO(s v:Nat)(c:Int):List.lookup ("say" : Str) (eE s v c)=none:=by rfl
theorem MZ(s b:Nat)(t:Int):List.lookup ("answers" : Str) (bV s b t)=none:=by rfl
theorem MY(s b:Nat)(t:Int):List.lookup ("change_shelf" : Str) (bV s b t)=none:=by rfl
theorem Qeb(s u b:Nat)(t:Int):Ju ("shelf" : Str) (.ref u) (bV s b t)=bV u b t:=by rfl
structure Rs(w:Hs)(b s r:Nat)(k:Int)(nd:Nat)(e:ES)(L:Nat->Nat):Prop where
 dk:w[b]?=some (.ins "Desk" (eE s (b+3) nd))
 sh:∃x y,w[s]?=some (.ins "Shelf" (aO r (s+1) 0 x y))
 kp:w[s+1]?=some (.lst [aY (lf k e.lf)])
 wv:w[b+3]?=some (.ins "Weaver" (bV s b e.tk))
 de:w[b+4]?=some (.lst (dl k nd))
 hd:w[b+5]?=some (.lst (e.hs.map (hD L)))
 dn:w[b+6]?=some (.lst (e.dn.map (fZ L)))
 od:∀n∈e.dn,∃s f q,w[L n]?=some (dB s f q (iV k n))
 lt:∀n∈e.dn,n<e.tk
 mo:∀n m,n<m->m<e.tk->L n+2<L m
 lo:∀n,n<e.tk->b+6<L n/\L n+2<w.length
 fr:∀o∈e.hs,o=none
 tn:e.tk<=nd
def Out(c x:Nat):Prop:=x<c∨c+6<x
section
variable{w w':Hs}{b s r nd H c:Nat}{k:Int}{e e':ES}{L:Nat->Nat}
theorem Rs.keep(R:Rs w b s r k nd e L)(d:w.length<=w'.length)(F:∀x,x<w.length->Out c x->w'[x]?=w[x]?)(h1:b+6<c∨c+6<b)(h2:Out c s/\Out c (s+1))(h3:∀n,n<e.tk->Out c (L n)):Rs w' b s r k nd e L:=by
 have g:∀{x:Nat}{z:OV},Out c x->w[x]?=some z->w'[x]?=some z:=λ{x z} o h=>(F x (yN h) o).trans h;have o:∀i,i<=6->Out c (b+i):=λi hi=>by unfold Out;lia
 refine⟨g (o 0 ⋯) R.dk,?_,g h2.2 R.kp,g (o 3 ⋯) R.wv,g (o 4 ⋯) R.de,g (o 5 ⋯) R.hd,g (o 6 ⋯) R.dn,λn hn=>?_,R.lt,R.mo,λn hn=>?_,R.fr,R.tn⟩
 ·obtain⟨x,y,q⟩:=R.sh;exact⟨x,y,g h2.1 q⟩
 ·obtain⟨s,f,q,a⟩:=R.od n hn;exact⟨s,f,q,g (h3 n (R.lt n hn)) a⟩
 ·have:=R.lo n hn;lia
theorem Rs.app(R:Rs w b s r k nd e L)(g:List OV):Rs (w++g) b s r k nd e L:=by
 refine⟨Yv R.dk,?_,Yv R.kp,Yv R.wv,Yv R.de,Yv R.hd,Yv R.dn,λn hn=>?_,R.lt,R.mo,λn hn=>?_,R.fr,R.tn⟩
 ·obtain⟨x,y,q⟩:=R.sh;exact⟨x,y,Yv q⟩
 ·obtain⟨s,f,q,a⟩:=R.od n hn;exact⟨s,f,q,Yv a⟩
 ·have:=R.lo n hn;rw[Ap];lia
theorem Rs.go(R:Rs w b (b+1) r k nd e L):Rp (w++[.lst []]) b w.length r k nd e L:=by
 have d:=yN R.dn;have a:=R.app [.lst []];refine⟨a.sh,a.kp,a.wv,a.de,a.hd,a.dn,λn hn=>?_,a.od,λn hn=>?_,R.mo,λn hn=>?_,λi j n hi _=>?_,d,by simp,R.tn⟩
 ·cases R.fr _ hn
 ·rcases hn with hn|hn
  ·cases R.fr _ hn
  ·exact R.lt n hn
 ·have:=R.lo n hn;rw[Ap];exact⟨this.1,⋯,⋯⟩
 ·cases R.fr _ (Ax hi)
theorem QeU(R:Rs w b (b+1) r k nd e L)(P:2<=r)(hn:nd<=3)(I:H<=8)(J:e.hs.length=H)(hd:e.dn.length<=10)(hf:kW nd H 60 0 e=some (e',c))(fr:∀o∈e'.hs,o=none):∃w' d i,Jb [.ref (b+3)] w=some (.ref w.length,w')/\Rs w' b (b+1) r k nd e' d/\w'[w.length]?=some (.lst i)/\i.length=c/\w.length<w'.length/\(∀x,x<w.length->Out b x->w'[x]?=w[x]?)/\(∀n,n<e.tk->d n=L n)/\∀n,e.tk<=n->n<e'.tk->w.length<d n:=by
 have G:=R.go
 let E:Sl->En:=λz=>[.val (.ref (b+3)),.val (.ref w.length),z]
 have Q:=yN R.dn;obtain⟨w',d,i,h',m,a,v,y,j,q,u,_⟩:=DM P hn I 99940 60 0 e (w++[.lst []]) L [] c hf J ⋯ G J7 (by decide);have C:Y9 (E (.val (.int 0))) (w++[.lst []])=some ((.nx,E (.val (.int h'))),w'):=by rw[show 60+99940=100000 from rfl]at m;exact m
 have F:Jb [.ref (b+3)] w=some (.ref w.length,w'):=by refine QH (env:=E (.val (.int h'))) ?_;refine(Qj (aA:=[.val (.ref (b+3)),.val (.ref w.length),.un]) (hp1:=w++[.lst []]) (Qv rfl)).trans ?_;refine(Qj (aA:=E (.val (.int 0))) (hp1:=w++[.lst []]) (Qv rfl)).trans ?_;refine(Qj (aA:=E (.val (.int h'))) (hp1:=w') C).trans ?_;exact QJ (Qe rfl)
 refine⟨w',d,i,F,⟨(j b ⋯ (.inl (Ai _))).trans (Yv R.dk),a.sh,a.kp,a.wv,a.de,a.hd,a.dn,a.od,λn hn=>a.lt n (.inr hn),a.mo,λn hn=>⟨(a.lo n hn).1,(a.lo n hn).2.1⟩,fr,a.tn⟩,v,by simpa using y,a.ln,λx hx O=>(j x hx (by unfold Out at O;lia)).trans (Aj hx),q,u⟩
end
def txt(i:Int):Str:=Str.ofString (toString i)
def pt(a b:Int):Str:=txt a++(":" : Str)++txt b
def tT(k:Int):Str:=Txt.join "," [pt k 7,pt (200+k) (-8)]
def VY(x y:Str):Bool:=decide (x.length+y.length<=sizeLine)
def tU(k:Int):Bool:=VY (txt k) ":" && VY (txt k++(":" : Str)) (txt 7)&&VY (txt (200+k)) ":" && VY (txt (200+k)++(":" : Str)) (txt (-8))&&JoinOk "," [pt k 7,pt (200+k) (-8)]&&PyData.strOk (tT k)
theorem MN:∀n:Nat,n<100->tU n=true:=by decide +kernel
section
variable{w hp:Hs}{b s r nd c a H:Nat}{k:Int}{e e':ES}{L:Nat->Nat}
theorem yo{i:Int}(h:i.natAbs<2 ^ 200):JY [.int i] hp=some (.str (txt i),hp):=by show(Qy (decide (i.natAbs<2 ^ 200)) >>= _) hp=_;rw[Ch h];rfl
theorem uK{x y:Str}(h:VY x y=true):Q1 (.str x) (.str y) hp=some (.str (x++y),hp):=by show(Qy (VY x y) >>= _) hp=_;rw[h];rfl
theorem Ya{i:Int}(h:i.natAbs<1000):i.natAbs<2 ^ 200:=Az h (by decide +kernel)
theorem Pk{x y:Int}(h1:VY (txt x) ":" = true)(h2:VY (txt x++(":" : Str)) (txt y)=true)(hx:x.natAbs<1000)(d:y.natAbs<1000)(env:En)(h:env[0]?=some (.val (.tup [.int x,.int y]))):Qi Q1 (Qi Q1 (QL JY (Qc (Qi aF (Qb 0) (eC (.int 0))) (Qk))) (eC (.str ":"))) (QL JY (Qc (Qi aF (Qb 0) (eC (.int 1))) (Qk))) env hp=some (.str (pt x y),hp) :=
 Qn (Qn (Zr (QK (Qn (Qe h) rfl (Ze (i:=0) rfl hp))) (yo (Ya hx))) rfl (uK h1)) (Zr (QK (Qn (Qe h) rfl (Ze (i:=1) rfl hp))) (yo (Ya d))) (uK h2)
theorem QhZ(h:hp[a]?=some (.lst (tb k)))(k0:0<=k)(k1:k<100):∃g,XF [.ref a] hp=some (.str (tT k),hp++g):=by
 have ok:tU k=true:=by
  have:=MN k.toNat ⋯
  rwa [Int.toNat_of_nonneg k0]at this
 unfold tU at ok;simp only[Bg]at ok;obtain⟨⟨⟨⟨⟨m,n⟩,o⟩,q⟩,u⟩,_⟩:=ok
 let E:En:=[.val (.ref a)]
 let g:DV->DV:=λd=>match d with
  |.tup [.int x,.int y]=>.str (pt x y)
  |_=>.non
 have j:Xk E hp=some (.ref hp.length,hp++[.lst [.str (pt k 7),.str (pt (200+k) (-8))]]):=by
  unfold Xk Z9;rw[Ql (CQ (Qe rfl) h)];have c:=Ki (nxt:=fV a) (t:=λd=>Yb (cE [] E d)) (f:=λd=>Qi Q1 (Qi Q1 (QL JY (Qc (Qi aF (Qb 0) (eC (.int 0))) (Qk))) (eC (.str ":"))) (QL JY (Qc (Qi aF (Qb 0) (eC (.int 1))) (Qk))) (cE [] E d)) (g:=g) (hp:=hp) (tb k) (λi _=>jD h i) (λd _=>rfl) (λd hd=>by
   rcases Bk.mp hd with rfl|hd
   ·exact Pk m n ⋯ (by decide) _ rfl
   ·rcases Bk.mp hd with rfl|hd
    ·exact Pk o q ⋯ (by decide) _ rfl
    ·cases hd) (by show 2<100000;decide)
  rw[show lim=100000 from rfl,Ql c];rfl
 have sp:qB [.ref a] hp=some (.str (tT k),hp++[.lst [.str (pt k 7),.str (pt (200+k) (-8))]]):=by refine QH (env:=E) ((Qj ((Zv (Z5 (b:=true) (km (Qe rfl) h))).trans ZB)).trans (QJ ?_));unfold Zo;show(Qc Xk Qk E >>= _) hp=_;rw[Ql (QK j)];show(iB (.ref hp.length) >>= _) (hp++_)=_;rw[Ql (Nt J7)];rw[Ql (rfl:nF (ni [DV.str (pt k 7),DV.str (pt (200+k) (-8))]) (hp++_)=some ([pt k 7,pt (200+k) (-8)],hp++_)),u];rfl
 refine⟨_,QH (env:=E) ((Qj ((Zv (Q0 (Qn (Qe rfl) rfl rfl))).trans ZB)).trans (ZP ((J8 (Q0 ?_)).trans (QJ (QP (QK (Qe rfl)) rfl sp)))))⟩;unfold Dq;rw[Ql (Qe (d:=.ref a) rfl)];show(ZE a >>= _) hp=_;rw[Ql (Zi h)];rfl
end
def mO(k:Int)(n:Nat):DV:=.tup [.int n,opt (iV k n).O3]
theorem xf:PyData.strOk "stretch" = true:=by decide +kernel
section
variable{w hp:Hs}{b s r nd c a H f q:Nat}{k:Int}{e e':ES}{L:Nat->Nat}
theorem SZ(R:Rs w b (b+1) r k nd e L)(hn:nd<3):∃u,Q8 [.ref b,JK (dd k nd)] w=some (.int nd,u)/\Rs u b (b+1) r k (nd+1) e L/\u.length=w.length/\∀x,Out b x->u[x]?=w[x]?:=by
 let D:=JK (dd k nd)
 let i:Hs:=w.set (b+4) (.lst (dl k nd++[D]))
 let j:Hs:=i.set b (.ins "Desk" (eE (b+1) (b+3) ((nd+1:Nat):Int)))
 have ln:(dl k nd).length=nd:=by unfold dl;simp
 have hi:=Sm (d:=D) R.wv R.de ⋯;have g1:∀{x:Nat}{z:OV},x≠b+4->w[x]?=some z->i[x]?=some z:=λ{x z} n h=>gs (Ne.symm n) h;have g2:∀{x:Nat}{z:OV},x≠b+4->x≠b->w[x]?=some z->j[x]?=some z:=λ{x z} n m h=>gs (Ne.symm m) (g1 n h)
 let E:Sl->En:=λz=>[.val (.ref b),.val D,z]
 let o:En:=E (.val (.int nd))
 have C:QD 2 (QM "Weaver" "hand_in" 2 J3 (QT "Desk" "weaver" (Qb 0)) (Qc (Qb 1) (Qk))) (E .un) w=some ((.nx,o),i):=Qv ((QY (QV (Qe rfl) R.dk (X8 ..)) R.wv (M2 ..) (QK (Qe rfl)) rfl hi).trans (by rw[ln]));have F:Q9 "Desk" "deed_count" (Qb 0) (Qi Zf (Qb 2) (eC (.int 1))) o i=some ((.nx,o),j):=by refine(Jy (v:=.int ((nd:Int)+1)) (Qn (Qe rfl) rfl rfl) (Qe rfl) (g1 ⋯ R.dk) (by show 3<1000;decide)).trans ?_;rw[Qdm];rfl
 refine⟨j,QH (env:=o) ((Qj C).trans ((Qj F).trans (QJ (Qe rfl)))),⟨fY (g1 ⋯ R.dk),?_,g2 ⋯ ⋯ R.kp,g2 ⋯ ⋯ R.wv,?_,g2 ⋯ ⋯ R.hd,g2 ⋯ ⋯ R.dn,λn hn=>?_,R.lt,R.mo,λn hn=>?_,R.fr,Nat.le_succ_of_le R.tn⟩,by simp[j,i],λx hx=>?_⟩
 ·obtain⟨x,y,z⟩:=R.sh;exact⟨x,y,g2 ⋯ ⋯ z⟩
 ·have:dl k (nd+1)=dl k nd++[D]:=by unfold dl;rw[List.range_succ,List.map_append];rfl
  rw[this];exact gs ⋯ (fY R.de)
 ·obtain⟨s,f,q,a⟩:=R.od n hn;have:=R.lo n (R.lt n hn);exact⟨s,f,q,g2 ⋯ ⋯ a⟩
 ·have:=R.lo n hn;simp[j,i];exact this
 ·unfold Out at hx;rw[Q6 _ _ _ _ ⋯,Q6 _ _ _ _ ⋯]
theorem Qei{n:Nat}(h1:w[a]?=some (dB s f q (iV k n))):Yc [.ref a] w=some (opt (iV k n).O3,w):=by
 let E:En:=[.val (.ref a)]
 have d:Z2 (eB (QT "Walk" "ended" (Qb 0))) E w=some (false,w):=Z5 (b:=true) (Q0 (QV (Qe rfl) h1 (VV ..)));have j:eB (Qi bK (Qi aF (QT "Walk" "deed" (Qb 0)) (eC (.int 0))) (eC (.str "stretch"))) E w=some (false,w):=by
  have fd:QT "Walk" "deed" (Qb 0) E w=some (JK (dd k n),w):=QV (Qe rfl) h1 (GK ..)
  match n,fd with
  |0,fd=>exact Q0 (Qn (Qn fd rfl (Ze (i:=0) rfl w)) rfl (iH (b:=false) _ YG xf rfl))
  |1,fd=>exact Q0 (Qn (Qn fd rfl (Ze (i:=0) rfl w)) rfl (iH (b:=false) _ YG xf rfl))
  |_+2,fd=>exact Q0 (Qn (Qn fd rfl (Ze (i:=0) rfl w)) rfl (iH (b:=false) _ zf xf rfl))
 exact QH (env:=E) ((Qj ((Zv d).trans ZB)).trans ((Qj ((Zv j).trans ZB)).trans (QJ (QV (Qe rfl) h1 (VW ..)))))
theorem Qew{nxt:NX}{t:DV->M Bool}{f:DV->M DV}{hp:Hs}(ds es:List DV)(y:es.length=ds.length)(hn:∀i,i<=ds.length->nxt i hp=some (ds[i]?,hp))(C:∀d∈ds,t d hp=some (true,hp))(hf:∀(i:Nat)(d e:DV),ds[i]?=some d->es[i]?=some e->f d hp=some (e,hp))(z:ds.length<100000):Ym nxt t f 100000 0 hp=some (es,hp):=by
  suffices h:∀(m i n:Nat),m+i=ds.length->m<n->Ym nxt t f n i hp=some (es.drop i,hp)by simpa using h ds.length 0 100000 rfl z
  intro m;induction m with
  |zero =>
    intro i n e v;obtain⟨n,rfl⟩:∃k,n=k+1:=⟨n-1,⋯⟩;have:i=ds.length:=⋯
    subst this;have o:=hn ds.length (Ai _);rw[show ds[ds.length]?=none by simp]at o;rw[Ym,Ql o,<- y,List.drop_length];rfl
  |succ m E =>
    intro i n e v;obtain⟨n,rfl⟩:∃k,n=k+1:=⟨n-1,⋯⟩;have u:i<ds.length:=⋯
    have j:i<es.length:=⋯
    have x:=Af u;have o:=hn i ⋯;rw[x]at o;have hi:=E (i+1) n ⋯ ⋯;rw[Ym,Ql o];simp only;rw[Ql (C ds[i] (List.getElem_mem u)),List.drop_eq_getElem_cons j];simp only[if_true];rw[Ql (hf i _ _ x (Af j)),Ql hi];rfl
theorem Qdd(R:Rs w b s r k nd e L)(v:e.dn.length<=10):Jn [.ref (b+3)] w=some (.ref w.length,w++[.lst (e.dn.map (mO k))]):=by
 let E:En:=[.val (.ref (b+3))]
 suffices h:Xp E w=some (.ref w.length,w++[.lst (e.dn.map (mO k))])from QH (env:=E) (QJ h);have c:=Qew (nxt:=fV (b+6)) (t:=λd=>Yb (cE [] E d)) (f:=λd=>ZD (Qc (Qi aF (Qb 0) (eC (.int 0))) (Qc (QM "Walk" "answer" 1 Yc (Qi aF (Qb 0) (eC (.int 1))) Qk) (Qk))) (cE [] E d)) (hp:=w) (e.dn.map (fZ L)) (e.dn.map (mO k)) (by simp) (λi _=>jD R.dn i) (λ_ _=>rfl) (λi d x hd hx=>by rw[Bp]at hd hx;obtain⟨n,hn,rfl⟩:=Bv.mp hd;rw[hn]at hx;cases hx;obtain⟨s',u,y,j⟩:=R.od n (Ax hn);have m:Qi aF (Qb 0) (eC (.int 0)) (cE [] E (fZ L n)) w=some (.int n,w):=Qn (x:=fZ L n) (Qe rfl) rfl (Ze (i:=0) rfl w);have o:Qi aF (Qb 0) (eC (.int 1)) (cE [] E (fZ L n)) w=some (.ref (L n),w):=Qn (x:=fZ L n) (Qe rfl) rfl (Ze (i:=1) rfl w);exact Xw (Zn m (QY o j (Qie ..) Jp rfl (Qei j))) (by simp)) (by rw[Bm];lia)
 unfold Xp Z9;rw[Ql (Pu (QV (Qe rfl) R.wv (Px ..)) R.dn),Ql (show Ym _ _ _ lim 0 w=_ from c)];rfl
theorem Qgz{m:Nat}{v:DV}{ps:List (Key×DV)}(R:Rs w b s r k nd e L)(hm:m<nd)(z:e.dn.length<=10)(y:lX (e.dn.map (mO k))=some ps)(C:(qK (qI [] ps) (.inl (m:Int))).getD .non=v):∃g,Jm [.ref b,.int m] w=some (v,w++g):=by
 let E:En:=[.val (.ref b),.val (.int m)]
 let n:Hs:=w++[.lst (e.dn.map (mO k))]
 let i:Hs:=w++[.lst (e.dn.map (mO k)),.aH (qI [] ps)]
 have F:n.length=w.length+1:=by simp[n]
 have o:QL sZ (Qc (QM "Weaver" "answers" 1 Jn (QT "Desk" "weaver" (Qb 0)) Qk) (Qk)) E w=some (.ref (w.length+1),i):=by refine Zr (QK (QY (QV (Qe rfl) R.dk (X8 ..)) R.wv (MZ ..) Jp rfl (Qdd R z))) ?_;show(iB (.ref w.length) >>= _) n=_;rw[Ql (Nt J7),y];show some (DV.ref n.length,n++[OV.aH (qI [] ps)])=_;rw[F];show some (_,(w++[_])++_)=_;rw[A0];rfl
 have g2:i[w.length+1]?=some (.aH (qI [] ps)):=XJ (j:=1) rfl;have x:Zo "dict" Yx (QL sZ (Qc (QM "Weaver" "answers" 1 Jn (QT "Desk" "weaver" (Qb 0)) Qk) (Qk))) (Qc (Qb 1) (Qk)) E w=some (v,i):=by
  unfold Zo;rw[Ql o];have u:Xf "dict" (.ref (w.length+1)) i=some ((),i):=by show(ZE (w.length+1) >>= _) i=_;rw[Ql (Zi g2)];rfl
  rw[Ql u,Ql (QK (Qe (d:=.int m) rfl))];show(ZE (w.length+1) >>= _) i=_;rw[Ql (Zi g2)];show some ((qK (qI [] ps) (.inl (m:Int))).getD .non,i)=_;rw[C]
 exact⟨_,QH (env:=E) ((Qj ((Zv (Q0 (Qn (Qe rfl) (QV (Qe rfl) R.dk (kP ..)) (show some (DV.bl (decide ((m:Int)≥(nd:Int))),w)=some (.bl false,w)by rw[Cj ⋯])))).trans ZB)).trans (QJ x))⟩
end
def iM:List Str:=["move", "finish", "answer", "table", "sound", "pack"]
theorem Hz:∀x∈iM,PyData.strOk x=true:=by decide +kernel
def pD{x y:Str}(hx:x∈iM)(a:y∈iM){b:Bool}(h:(x==y)=b)(hp:Hs):bK (.str x) (.str y) hp=some (.bl b,hp):=iH hp (Hz x hx) (Hz y a) h
section
variable{w hp:Hs}{b s r nd c a H f q:Nat}{k:Int}{e e':ES}{L:Nat->Nat}
theorem Ip(R:Rs w b s r k nd e L)(m:e.hs.length<=8):Zx [.ref (b+3)] w=some (.bl (decide (e.tk=nd)),w):=by
 rw[Nm R.wv R.de R.hd (by rw[Bm];lia)];have d:((e.tk:Int)==((dl k nd).length:Int))=decide (e.tk=nd):=by
  have:(dl k nd).length=nd:=by unfold dl;simp
  rw[this];by_cases q:e.tk=nd
  ·rw[q];simp
  ·rw[Cj q,beq_eq_false_iff_ne];lia
 have i:(e.hs.map (hD L)).all eO=true:=by rw[List.all_map,List.all_eq_true];intro o j;rw[R.fr o j];rfl
 rw[d,i,Bool.and_true]
theorem Qht(R:Rs w b s r k nd e L)(hl:e.hs.length<=8)(ht:e.tk=nd)(h2:e.lf=2)(r2:2<=r)(r5:r<=5):∃C s',JT [.ref b] w=some (.int 1,C)/\Rs C b s' r k nd e L/\w.length<=s'/\w.length<=C.length/\∀x,x<w.length->Out b x->C[x]?=w[x]?:=by
 obtain⟨x,y,sh⟩:=R.sh;have kp:w[s+1]?=some (.lst [aL k]):=by have:=R.kp;rw[h2]at this;exact this
 obtain⟨g,Y⟩:=PL sh kp
 let v:Hs:=w++.lst (tb k)::g
 have G:Rs v b s r k nd e L:=R.app _;obtain⟨x1,y1,g_⟩:=G.sh;have X:=Qfu (hp:=v) (t:=w.length) (k:=k) J7 r2 r5
 let s':=v.length+1
 let o:Hs:=v++[.lst [aL k],.ins "Shelf" (aO r (v.length+2) 0 0 1),.lst [aL k]]
 have R2:Rs o b s r k nd e L:=G.app _
 let u:Hs:=o.set b (.ins "Desk" (eE s' (b+3) nd))
 let d:Hs:=u.set (b+3) (.ins "Weaver" (bV s' b e.tk))
 have lb:=yN R.dn;have l1:w.length<v.length:=by simp[v]
 let E:En:=[.val (.ref b)]
 have g3:∀{i:Nat}{z:OV},i≠b->o[i]?=some z->u[i]?=some z:=λ{i z} n h=>gs (Ne.symm n) h;have g4:∀{i:Nat}{z:OV},i≠b->i≠b+3->o[i]?=some z->d[i]?=some z:=λ{i z} n m h=>gs (Ne.symm m) (g3 n h);have I:o[s']?=some (.ins "Shelf" (aO r (s'+1) 0 0 1)):=XJ (j:=1) rfl;have J:o[s'+1]?=some (.lst [aL k]):=XJ (j:=2) rfl;have u1:aJ (Z2 (eB (QM "Weaver" "idle" 1 Zx (QT "Desk" "weaver" (Qb 0)) Qk))) (Xj) (Q7) E w=some ((.nx,E),w):=(Zv (Z5 (b:=true) (Q0 ((QY (QV (Qe rfl) R.dk (X8 ..)) R.wv (CT ..) Jp rfl (Ip R hl)).trans (by rw[Ch ht]))))).trans ZB;have u2:Q9 "Desk" "shelf" (Qb 0) (QB 2 yu (Qc (QB 1 Xr (Qc (QT "Desk" "shelf" (Qb 0)) (Qk))) (Qc (QM "Shelf" "room" 1 ZY (QT "Desk" "shelf" (Qb 0)) Qk) (Qk)))) E w=some ((.nx,E),u):=by refine(Jy (QP (Zn (QP (QK (QV (Qe rfl) R.dk (qQ ..))) rfl Y) (QY (QV (Qe rfl) G.dk (qQ ..)) g_ (RG ..) Jp rfl (Oo g_))) rfl X) (Qe rfl) R2.dk (by show 3<1000;decide)).trans ?_;rw[Qdn]
 have F:u[b]?=some (.ins "Desk" (eE s' (b+3) nd)):=fY R2.dk;have O:u[b+3]?=some (.ins "Weaver" (bV s b e.tk)):=g3 ⋯ R2.wv;have U:JR [.ref (b+3),.ref s'] u=some (.non,d):=by refine US (env:=[.val (.ref (b+3)),.val (.ref s')]) ((Jy (Qe rfl) (Qe rfl) O (by show 5<1000;decide)).trans ?_);rw[Qeb];rfl
 have S:d[b]?=some (.ins "Desk" (eE s' (b+3) nd)):=gs ⋯ F;have P:d[s']?=some (.ins "Shelf" (aO r (s'+1) 0 0 1)):=g4 ⋯ ⋯ I;have Q:d[s'+1]?=some (.lst [aL k]):=g4 ⋯ ⋯ J;refine⟨d,s',?_,⟨S,⟨_,_,P⟩,by rw[h2];exact Q,fY O,g4 ⋯ ⋯ R2.de,g4 ⋯ ⋯ R2.hd,g4 ⋯ ⋯ R2.dn,λn hn=>?_,R.lt,R.mo,λn hn=>?_,R.fr,R.tn⟩,⋯,by simp[d,u,o];lia,λi hi ho=>?_⟩
 ·refine QH (env:=E) ((Qj u1).trans ?_);refine(Qj u2).trans ?_;refine(Qj (aA:=E) (hp1:=d) (ZG (QY (QV (Qe rfl) F (X8 ..)) O (MY ..) (QK (QV (Qe rfl) F (qQ ..))) rfl U))).trans ?_;exact QJ (QY (QV (Qe rfl) S (qQ ..)) P (Ug ..) Jp rfl (Rq P Q))
 ·obtain⟨s0,Z,q0,T⟩:=R2.od n hn;have:=R.lo n (R.lt n hn);exact⟨s0,Z,q0,g4 ⋯ ⋯ T⟩
 ·have:=R2.lo n hn;simp[d,u];exact this
 ·unfold Out at ho;show((o.set b _).set (b+3) _)[i]?=_;rw[Q6 _ _ _ _ ⋯,Q6 _ _ _ _ ⋯];show((w++_)++_)[i]?=_;rw[A0];exact Aj hi
def skip{E:En}{x y:Str}{f:aB}(h:E[3]?=some (.val (.str x)))(hx:x∈iM)(d:y∈iM)(hn:(x==y)=false):aJ (eB (Qi bK (Qb 3) (eC (.str y)))) f Q7 E hp=some ((.nx,E),hp):=Xe (Q0 (Qn (Qe h) rfl (pD hx d hn hp)))
theorem hit{E:En}{x:Str}{f:aB}{v:DV}{d:Hs}(h:E[3]?=some (.val (.str x)))(hx:x∈iM)(hf:f E hp=some ((.rt v,E),d)):aJ (eB (Qi bK (Qb 3) (eC (.str x)))) f Q7 E hp=some ((.rt v,E),d):=(J8 (Q0 (Qn (Qe h) rfl (pD hx hx (by simp) hp)))).trans hf
theorem gS(R:Rs w b (b+1) r k nd e L)(J:2<=r)(hn:nd<=3)(G:H<=8)(I:e.hs.length=H)(hd:e.dn.length<=10)(hf:kW nd H 60 0 e=some (e',c))(fr:∀o∈e'.hs,o=none)(Q:c<1000):∃d j,Q2 [.ref b,.str "finish"] w=some (.str (txt c),d)/\Rs d b (b+1) r k nd e' j/\w.length<d.length/\(∀x,x<w.length->Out b x->d[x]?=w[x]?)/\(∀n,n<e.tk->j n=L n)/\∀n,e.tk<=n->n<e'.tk->w.length<j n:=by
 obtain⟨d,j,S,F,C,z,P,O,u,v,y⟩:=QeU R J hn G I hd hf fr;refine⟨d,j,?_,C,O,u,v,y⟩
 let T:DV:=.tup [.str "finish"]
 let E:En:=[.val (.ref b),.val (.str "finish"),.val T,.val (.str "finish")]
 have rd:Zm [.str "finish"] w=some (T,w):=by kernel_rfl
 have m:aJ (eB (QB 1 Jo (Qc (Qb 2) (Qk)))) (QR (QL JY (Qc (QM "Desk" "note_deed" 2 Q8 (Qb 0) (Qc (Qb 2) (Qk))) (Qk)))) (Q7) E w=some ((.nx,E),w):=by kernel_rfl
 have h1:QR (QL JY (Qc (QL Zp (Qc (QM "Weaver" "finish" 1 Jb (QT "Desk" "weaver" (Qb 0)) Qk) (Qk))) (Qk))) E w=some ((.rt (.str (txt c)),E),d):=QJ (Zr (QK (Zr (QK (QY (QV (Qe rfl) R.dk (X8 ..)) R.wv (M0 ..) Jp rfl F)) ((XN z).trans (by rw[P])))) (yo (Ya ⋯)));refine QH (env:=E) ((Qj (aA:=[.val (.ref b),.val (.str "finish"),.val T,.un]) (Qv (QP (QK (Qe rfl)) rfl rd))).trans ?_);refine(Qj (aA:=E) (Qv (Qn (x:=T) (Qe rfl) rfl (Ze (i:=0) rfl w)))).trans ?_;refine(Qj m).trans ?_;refine(Qj (skip rfl (by decide +kernel) (by decide +kernel) (by decide +kernel))).trans ?_;exact ZP (hit rfl (by decide +kernel) h1)
end
section
variable{w hp:Hs}{b s r nd c a H f q:Nat}{k:Int}{e e':ES}{L:Nat->Nat}
theorem Ol{row T:Str}{m:Nat}{v:DV}{ps:List (Key×DV)}(R:Rs w b s r k nd e L)(hm:m<nd)(u:e.dn.length<=10)(rd:Zm [.str row] w=some (.tup [.str "answer", .int m],w))(o:lX (e.dn.map (mO k))=some ps)(y:(qK (qI [] ps) (.inl (m:Int))).getD .non=v)(n:∀hp,XF [v] hp=some (.str T,hp)):∃g,Q2 [.ref b,.str row] w=some (.str T,w++g):=by
 obtain⟨g,j⟩:=Qgz R hm u o y;refine⟨g,?_⟩
 let D:DV:=.tup [.str "answer", .int m]
 let E:En:=[.val (.ref b),.val (.str row),.val D,.val (.str "answer")]
 have d:aJ (eB (QB 1 Jo (Qc (Qb 2) (Qk)))) (QR (QL JY (Qc (QM "Desk" "note_deed" 2 Q8 (Qb 0) (Qc (Qb 2) (Qk))) (Qk)))) (Q7) E w=some ((.nx,E),w):=by kernel_rfl
 have h1:QR (QB 1 XF (Qc (QM "Desk" "answer_of" 2 Jm (Qb 0) (Qc (Qi aF (Qb 2) (eC (.int 1))) (Qk))) (Qk))) E w=some ((.rt (.str T),E),w++g):=QJ (QP (QK (QY (Qe rfl) R.dk (IV ..) (QK (Qn (x:=D) (Qe rfl) rfl (Ze (i:=1) rfl w))) rfl j)) rfl (n _));refine QH (env:=E) ((Qj (aA:=[.val (.ref b),.val (.str row),.val D,.un]) (Qv (QP (QK (Qe rfl)) rfl rd))).trans ?_);refine(Qj (aA:=E) (Qv (Qn (x:=D) (Qe rfl) rfl (Ze (i:=0) rfl w)))).trans ?_;refine(Qj d).trans ?_;refine(Qj (skip rfl (by decide +kernel) (by decide +kernel) (by decide +kernel))).trans ?_;refine(Qj (skip rfl (by decide +kernel) (by decide +kernel) (by decide +kernel))).trans ?_;exact ZP (hit rfl (by decide +kernel) h1)
theorem Oi(R:Rs w b s r k nd e L)(h2:e.lf=2)(k0:0<=k)(k1:k<100):∃g,Q2 [.ref b,.str "table"] w=some (.str (tT k),w++g):=by
 obtain⟨x,y,sh⟩:=R.sh;have kp:w[s+1]?=some (.lst [aL k]):=by have:=R.kp;rw[h2]at this;exact this
 obtain⟨g,j⟩:=PL sh kp;obtain⟨g',es⟩:=QhZ (hp:=w++.lst (tb k)::g) (a:=w.length) (k:=k) J7 k0 k1;rw[A0]at es;refine⟨(.lst (tb k)::g)++g',?_⟩
 let D:DV:=.tup [.str "table"]
 let E:En:=[.val (.ref b),.val (.str "table"),.val D,.val (.str "table")]
 have rd:Zm [.str "table"] w=some (D,w):=by kernel_rfl
 have d:aJ (eB (QB 1 Jo (Qc (Qb 2) (Qk)))) (QR (QL JY (Qc (QM "Desk" "note_deed" 2 Q8 (Qb 0) (Qc (Qb 2) (Qk))) (Qk)))) (Q7) E w=some ((.nx,E),w):=by kernel_rfl
 have h1:QR (QB 1 XF (Qc (QB 1 Xr (Qc (QT "Desk" "shelf" (Qb 0)) (Qk))) (Qk))) E w=some ((.rt (.str (tT k)),E),w++((.lst (tb k)::g)++g')):=QJ (QP (QK (QP (QK (QV (Qe rfl) R.dk (qQ ..))) rfl j)) rfl es);refine QH (env:=E) ((Qj (aA:=[.val (.ref b),.val (.str "table"),.val D,.un]) (Qv (QP (QK (Qe rfl)) rfl rd))).trans ?_);refine(Qj (aA:=E) (Qv (Qn (x:=D) (Qe rfl) rfl (Ze (i:=0) rfl w)))).trans ?_;refine(Qj d).trans ?_;refine(Qj (skip rfl (by decide +kernel) (by decide +kernel) (by decide +kernel))).trans ?_;refine(Qj (skip rfl (by decide +kernel) (by decide +kernel) (by decide +kernel))).trans ?_;refine(Qj (skip rfl (by decide +kernel) (by decide +kernel) (by decide +kernel))).trans ?_;exact ZP (hit rfl (by decide +kernel) h1)
theorem QhV(R:Rs w b s r k nd e L)(h2:e.lf=2):∃g,Q2 [.ref b,.str "sound"] w=some (.str "yes", w++g):=by
 obtain⟨x,y,sh⟩:=R.sh;have kp:w[s+1]?=some (.lst [aL k]):=by have:=R.kp;rw[h2]at this;exact this
 obtain⟨g,j⟩:=Qh1 sh kp;refine⟨g,?_⟩
 let D:DV:=.tup [.str "sound"]
 let E:En:=[.val (.ref b),.val (.str "sound"),.val D,.val (.str "sound")]
 have rd:Zm [.str "sound"] w=some (D,w):=by kernel_rfl
 have d:aJ (eB (QB 1 Jo (Qc (Qb 2) (Qk)))) (QR (QL JY (Qc (QM "Desk" "note_deed" 2 Q8 (Qb 0) (Qc (Qb 2) (Qk))) (Qk)))) (Q7) E w=some ((.nx,E),w):=by kernel_rfl
 have h1:QR (b_ (eB (QB 1 YK (Qc (QT "Desk" "shelf" (Qb 0)) (Qk)))) (eC (.str "yes")) (eC (.str "no"))) E w=some ((.rt (.str "yes"),E),w++g):=QJ ((tL (Q0 (QP (QK (QV (Qe rfl) R.dk (qQ ..))) rfl j))).trans rfl);refine QH (env:=E) ((Qj (aA:=[.val (.ref b),.val (.str "sound"),.val D,.un]) (Qv (QP (QK (Qe rfl)) rfl rd))).trans ?_);refine(Qj (aA:=E) (Qv (Qn (x:=D) (Qe rfl) rfl (Ze (i:=0) rfl w)))).trans ?_;refine(Qj d).trans ?_;refine(Qj (skip rfl (by decide +kernel) (by decide +kernel) (by decide +kernel))).trans ?_;refine(Qj (skip rfl (by decide +kernel) (by decide +kernel) (by decide +kernel))).trans ?_;refine(Qj (skip rfl (by decide +kernel) (by decide +kernel) (by decide +kernel))).trans ?_;refine(Qj (skip rfl (by decide +kernel) (by decide +kernel) (by decide +kernel))).trans ?_;exact ZP (hit rfl (by decide +kernel) h1)
theorem Oj(R:Rs w b s r k nd e L)(o:e.hs.length<=8)(u:e.tk=nd)(h2:e.lf=2)(z:2<=r)(C:r<=5):∃d s',Q2 [.ref b,.str "pack"] w=some (.str (txt 1),d)/\Rs d b s' r k nd e L/\w.length<=s'/\w.length<=d.length/\∀x,x<w.length->Out b x->d[x]?=w[x]?:=by
 obtain⟨d,s',n,m,v,y,F⟩:=Qht R o u h2 z C;refine⟨d,s',?_,m,v,y,F⟩
 let D:DV:=.tup [.str "pack"]
 let E:En:=[.val (.ref b),.val (.str "pack"),.val D,.val (.str "pack")]
 have rd:Zm [.str "pack"] w=some (D,w):=by kernel_rfl
 have j:aJ (eB (QB 1 Jo (Qc (Qb 2) (Qk)))) (QR (QL JY (Qc (QM "Desk" "note_deed" 2 Q8 (Qb 0) (Qc (Qb 2) (Qk))) (Qk)))) (Q7) E w=some ((.nx,E),w):=by kernel_rfl
 have h1:QR (QL JY (Qc (QM "Desk" "pack_table" 1 JT (Qb 0) Qk) (Qk))) E w=some ((.rt (.str (txt 1)),E),d):=QJ (Zr (QK (QY (Qe rfl) R.dk (IK ..) Jp rfl n)) (yo (Ya (by decide))));refine QH (env:=E) ((Qj (aA:=[.val (.ref b),.val (.str "pack"),.val D,.un]) (Qv (QP (QK (Qe rfl)) rfl rd))).trans ?_);refine(Qj (aA:=E) (Qv (Qn (x:=D) (Qe rfl) rfl (Ze (i:=0) rfl w)))).trans ?_;refine(Qj j).trans ?_;refine(Qj (skip rfl (by decide +kernel) (by decide +kernel) (by decide +kernel))).trans ?_;refine(Qj (skip rfl (by decide +kernel) (by decide +kernel) (by decide +kernel))).trans ?_;refine(Qj (skip rfl (by decide +kernel) (by decide +kernel) (by decide +kernel))).trans ?_;refine(Qj (skip rfl (by decide +kernel) (by decide +kernel) (by decide +kernel))).trans ?_;refine(Qj (skip rfl (by decide +kernel) (by decide +kernel) (by decide +kernel))).trans ?_;exact h1
theorem Gm{row:Str}(R:Rs w b (b+1) r k nd e L)(hn:nd<3)(rd:Zm [.str row] w=some (JK (dd k nd),w)):∃d,Q2 [.ref b,.str row] w=some (.str (txt nd),d)/\Rs d b (b+1) r k (nd+1) e L/\d.length=w.length/\∀x,Out b x->d[x]?=w[x]?:=by
 obtain⟨d,o,j,v,F⟩:=SZ R hn;refine⟨d,?_,j,v,F⟩;obtain⟨x,xs,n⟩:∃x xs,JK (dd k nd)=.tup (.str x::xs):=by
  obtain rfl|rfl|rfl:nd=0∨nd=1∨nd=2:=⋯
  all_goals exact⟨_,_,rfl⟩
 have m:Jo [JK (dd k nd)] w=some (.bl true,w):=by
  obtain rfl|rfl|rfl:nd=0∨nd=1∨nd=2:=⋯
  all_goals kernel_rfl
 let D:DV:=JK (dd k nd)
 let E:En:=[.val (.ref b),.val (.str row),.val D,.val (.str x)]
 have h1:QR (QL JY (Qc (QM "Desk" "note_deed" 2 Q8 (Qb 0) (Qc (Qb 2) (Qk))) (Qk))) E w=some ((.rt (.str (txt nd)),E),d):=QJ (Zr (QK (QY (Qe rfl) R.dk (D1 ..) (QK (Qe rfl)) rfl o)) (yo (Ya ⋯)));refine QH (env:=E) ((Qj (aA:=[.val (.ref b),.val (.str row),.val D,.un]) (Qv (QP (QK (Qe rfl)) rfl rd))).trans ?_);have u:aF D (.int 0) w=some (.str x,w):=by show aF (JK (dd k nd)) (.int 0) w=_;rw[n];exact Ze (i:=0) rfl w
 refine(Qj (aA:=E) (Qv (Qn (x:=D) (Qe rfl) rfl u))).trans ?_;exact ZP ((J8 (Q0 (QP (QK (Qe rfl)) rfl m))).trans h1)
end
def JW{n:Nat}{g:bO}{ds:List DV}{hp:Hs}{r:Str×Hs}(h:g (ds.map .val++List.replicate (n-ds.length) .un) hp=some r):VM n g ds hp=some r:=h
theorem Kt{g g':bO}{env:En}{hp:Hs}{r:Str×Hs}(h:g env hp=some r):dM g g' env hp=some r:=by unfold dM;rw[h]
theorem zQ{g g':bO}{env:En}{hp:Hs}(h:g env hp=none):dM g g' env hp=g' env hp:=by unfold dM;rw[h]
theorem js{c:bH}{g g':bO}{env:En}{hp hp1:Hs}(h:c env hp=some (true,hp1)):dY c g g' env hp=g env hp1:=by unfold dY;rw[J0 h];rfl
theorem yK{c:bH}{g g':bO}{env:En}{hp hp1:Hs}(h:c env hp=some (false,hp1)):dY c g g' env hp=g' env hp1:=by unfold dY;rw[J0 h];rfl
theorem ZQ{f:aB}{g:bO}{env aA:En}{hp hp1:Hs}(h:f env hp=some ((.nx,aA),hp1)):Xu f g env hp=g aA hp1:=by unfold Xu;rw[J0 h]
theorem yL{c m:Str}{k n:Nat}{G:List DV->Hs->Option (Str×Hs)}{a:aD}{fa:aW}{env:En}{hp hp1:Hs}{fs:List (Str×DV)}{ds:List DV}{r:Str×Hs}(j:a env hp=some (.ref n,hp))(h:hp[n]?=some (.ins c fs))(hm:fs.lookup m=none)(ha:fa env hp=some (ds,hp1))(i:ds.length+1=k)(d:G (.ref n::ds) hp1=some r):X1 c m k G a fa env hp=some r:=by
 unfold X1;have e:dU c (.ref n) (λ_ fs=>Qy (fs.lookup m).isNone) hp=some ((),hp):=by rw[jZ h,hm];rfl
 rw[J0 j,J0 e,J0 ha,Cf i];exact d
theorem yJ{k:Nat}{G:List DV->Hs->Option (Str×Hs)}{fa:aW}{env:En}{hp hp1:Hs}{ds:List DV}{r:Str×Hs}(ha:fa env hp=some (ds,hp1))(c:ds.length=k)(a:G ds hp1=some r):YQ k G fa env hp=some r:=by unfold YQ;rw[J0 ha,Cf c];exact a
def cl(x:Str):List Nat:=x.cps.toList
theorem Dz{x y:Str}(h:cl x=cl y):x=y:=by obtain⟨a⟩:=x;obtain⟨b⟩:=y;congr 1;exact Array.toList_inj.mp h
theorem ZV(x y:Str):cl (x++y)=cl x++cl y:=by show(x.cps++y.cps).toList=_;rw[Array.toList_append];rfl
theorem Kh(x:Str):x.length=(cl x).length:=by show x.cps.size=x.cps.toList.length;rw[Array.length_toList]
def lj(c:Nat):List Str->List Nat
 | []=>[]
 | [x]=>cl x
 |x::y::r=>cl x++c::lj c (y::r)
theorem Oe(c:Nat):∀a:List Str,cl (Str.join ⟨#[c]⟩ a)=lj c a
  | []=>rfl
  | [x]=>rfl
  |x::y::r=>by show cl (x++⟨#[c]⟩++Str.join ⟨#[c]⟩ (y::r))=_;rw[ZV,ZV,Oe c (y::r),A0];rfl
theorem Oc{c:Nat}:∀(a b s t:List Nat),c∉a->c∉b->a++c::s=b++c::t->a=b/\s=t
  | [],[],s,t,_,_,h=>⟨rfl,by cases h;rfl⟩
  | [],y::b,s,t,_,d,h=>by cases h;simp at d
  |x::a,[],s,t,ha,_,h=>by cases h;simp at ha
  |x::a,y::b,s,t,ha,d,h=>by obtain⟨h1,h2⟩:=List.cons.inj h;obtain⟨e,i⟩:=Oc a b s t (λz=>ha (Ay _ z)) (λz=>d (Ay _ z)) h2;exact⟨by rw[h1,e],i⟩
theorem Mh{c:Nat}:∀(d vs:List Str),d≠[]->vs≠[]->(∀p∈d,c∉cl p)->(∀p∈vs,c∉cl p)->lj c d=lj c vs->d=vs
  | [],_,h,_,_,_,_=>absurd rfl h
  |_,[],_,h,_,_,_=>absurd rfl h
  | [x],[y],_,_,_,_,h=>by rw[Dz h]
  | [x],y::z::r,_,_,hx,_,h=>by
    have:c∈cl x:=by show c∈lj c [x];rw[h];exact Am _ (.head _)
    exact absurd this (hx x (.head _))
  |x::z::r,[y],_,_,_,a,h=>by
    have:c∈cl y:=by show c∈lj c [y];rw[<- h];exact Am _ (.head _)
    exact absurd this (a y (.head _))
  |x::x2::r,y::y2::q,_,_,hx,a,h=>by obtain⟨e,i⟩:=Oc (cl x) (cl y) _ _ (hx x (.head _)) (a y (.head _)) h;rw[Dz e,Mh (x2::r) (y2::q) (by simp) (by simp) (λp hp=>hx p (.tail _ hp)) (λp hp=>a p (.tail _ hp)) i]
def blank:Str:=⟨#[32]⟩
theorem Qgd{x:Str}{a:List Str}(hn:a≠[])(hf:∀p∈a,32∉cl p)(hx:cl x=lj 32 a)(d:cl x≠[]):Txt.split x blank=a:=by
 have j:=StrLaws.join_split x blank;have c:lj 32 (Txt.split x blank)=cl x:=by rw[<- Oe];exact congrArg cl j
 refine Mh _ _ (λz=>d ?_) hn (λp hp=>StrLaws.split_free x 32 p hp) hf (by rw[c,hx]);rw[<- c,z];rfl
def cg(x:Str):Str:=if Txt.startswith x "-" = true then Txt.slice x (some 1) none else x
def dg(x:Str):Bool:=(cl x).all λc=>Txt.contains "0123456789" ⟨#[c]⟩
def c1(x:Str)(m:Nat):Bool:=decide (0<(cg x).length)&&decide ((cg x).length<=m)&&dg (cg x)
def c2(x:Str):Bool:=Txt.startswith (cg x) "0" && !(x == "0")
theorem MK{α:Type}(p:α->Bool):∀l:List α,lg (l.map λa=>.bl (p a))=some (l.map p)
 | []=>rfl
 |a::r=>by rw[Bf,lg,MK p r];rfl
theorem qO{f:DV->M DV}{hp:Hs}{α:Type}(h:α->DV)(g:α->DV):∀(l:List α),(∀a∈l,f (h a) hp=some (g a,hp))->vK (λ_=>pure true) f (l.map h) hp=some (l.map g,hp)
  | [],_=>rfl
  |a::r,k=>by have e:=qO (f:=f) h g r λb c=>k b (.tail _ c);show((pure true:M Bool) >>= _) hp=_;rw[Ql (rfl:(pure true:M Bool) hp=some (true,hp))];show(f (h a) >>= _) hp=_;rw[Ql (k a (.head _)),Ql e];rfl
section
variable{hp:Hs}{x:Str}{m:Nat}{n:Int}
theorem D4(a:x.length<=600){env:En}(h:env[2]?=some (.val (.str x))):QL GT (Qc (X0 (j_ (Qb 2)) [] (Yb) (Qi iZ (Qb 0) (eC (.str "0123456789")))) (Qk)) env hp=some (.bl (dg x),hp):=by
 have c:X0 (j_ (Qb 2)) [] (Yb) (Qi iZ (Qb 0) (eC (.str "0123456789"))) env hp=some (.lst ((cl x).map λc=>.bl (Txt.contains "0123456789" ⟨#[c]⟩)),hp):=by
  unfold X0;have s:j_ (Qb 2) env hp=some (D.GD x,hp):=by unfold j_;rw[Ql (Qe h)];rfl
  rw[Ql s,Jq (by unfold D.GD;rw[Bm];rw[Kh]at a;exact Bj a (by decide))];rw[Ql (rfl:Qy true hp=some ((),hp))];show(vK _ _ ((cl x).map λc=>DV.str ⟨#[c]⟩) >>= _) hp=_;have q:=qO (hp:=hp) (f:=λd=>Qi iZ (Qb 0) (eC (.str "0123456789")) (cE [] env d)) (λc=>DV.str ⟨#[c]⟩) (λc=>DV.bl (Txt.contains "0123456789" ⟨#[c]⟩)) (cl x) λc _=>Qn (x:=.str ⟨#[c]⟩) (Qe rfl) rfl rfl;exact(Ql q).trans rfl
 refine Zr (QK c) ?_;show(iB (.lst _) >>= _) hp=_;rw[Ql (rfl:iB (.lst ((cl x).map λc=>DV.bl (Txt.contains "0123456789" ⟨#[c]⟩))) hp=some (_,hp)),MK];show some (DV.bl (((cl x).map _).all id),hp)=_;rw[List.all_map];rfl
theorem Dv(a:x.length<=600){env:En}(h:env[0]?=some (.val (.str x))):b_ (eB (Zo "str" Yg (Qb 0) (Qc (eC (.str "-")) (Qk)))) (pQ (Qb 0) (Zw (eC (.int 1))) (ZS)) (Qb 0) env hp=some (.str (cg x),hp):=by
  have t:eB (Zo "str" Yg (Qb 0) (Qc (eC (.str "-")) (Qk))) env hp=some (Txt.startswith x "-", hp):=by refine Q0 ?_;unfold Zo;rw[Ql (Qe h)];rfl
  unfold cg;cases q:Txt.startswith x "-" with
  |true=>rw[q]at t;rw[tL t,Cf rfl];unfold pQ;rw[Ql (Qe h)];show(t_ (.str x) (some 1) none) hp=_;show(Qy (decide (x.length<=sizeLine)) >>= _) hp=_;rw[Ch (Bj a (by decide +kernel))];rfl
  |false=>rw[q]at t;rw[Dr t,Ce (by simp)];exact Qe h
theorem Wn{y:Str}(h1:PyData.strOk x=true)(h2:PyData.strOk y=true):lZ (.str x) (.str y) hp=some (.bl (!(x==y)),hp):=by show(Qy (dW (.str x)&&dW (.str y)) >>= _) hp=_;rw[jX h1,jX h2];rfl
theorem sS(c:x.length<=600){env:En}(h2:env[2]?=some (.val (.str (cg x))))(h1:env[1]?=some (.val (.int m)))(hf:(cg x).length<=600):cJ (Z2 (eB (JS cD dI (eC (.int 0)) (QL lQ (Qc (Qb 2) (Qk))) (Qb 1)))) (Z2 (eB (QL GT (Qc (X0 (j_ (Qb 2)) [] (Yb) (Qi iZ (Qb 0) (eC (.str "0123456789")))) (Qk))))) env hp=some (!(c1 x m),hp):=by
 have ln:QL lQ (Qc (Qb 2) (Qk)) env hp=some (.int (cg x).length,hp):=by refine Zr (QK (Qe h2)) ?_;show(Qy (decide ((cg x).length<2 ^ 62)) >>= _) hp=_;rw[Ch (Bq hf (by decide))];rfl
 have ch:eB (JS cD dI (eC (.int 0)) (QL lQ (Qc (Qb 2) (Qk))) (Qb 1)) env hp=some (decide ((0:Int)<((cg x).length:Int))&&decide (((cg x).length:Int)<=(m:Int)),hp):=Q0 (Kf rfl ln (Qe h1) rfl rfl);have a:(decide ((0:Int)<((cg x).length:Int))&&decide (((cg x).length:Int)<=(m:Int)))=(decide (0<(cg x).length)&&decide ((cg x).length<=m)):=by
  congr 1
  ·exact decide_eq_decide.mpr ⋯
  ·exact decide_eq_decide.mpr ⋯
 rw[a]at ch;unfold c1;cases q:(decide (0<(cg x).length)&&decide ((cg x).length<=m))with
 |false=>rw[q]at ch;exact DU (Z5 ch)
 |true=>rw[q]at ch;exact(tK (Z5 ch)).trans (Z5 (Q0 (D4 hf h2)))
theorem BL{env:En}(h2:env[2]?=some (.val (.str (cg x))))(a:env[0]?=some (.val (.str x)))(hs:PyData.strOk x=true):XC (eB (Zo "str" Yg (Qb 2) (Qc (eC (.str "0")) (Qk)))) (eB (Qi lZ (Qb 0) (eC (.str "0")))) env hp=some (c2 x,hp):=by
 have t:eB (Zo "str" Yg (Qb 2) (Qc (eC (.str "0")) (Qk))) env hp=some (Txt.startswith (cg x) "0", hp):=by refine Q0 ?_;unfold Zo;rw[Ql (Qe h2)];rfl
 unfold c2;cases q:Txt.startswith (cg x) "0" with
 |false=>rw[q]at t;exact Kp t
 |true=>rw[q]at t;exact(Kq t).trans (Q0 (Qn (Qe a) rfl (Wn hs (by decide +kernel))))
structure NT(x:Str):Prop where
 l:x.length<=600
 f:(cg x).length<=600
 s:PyData.strOk x=true
theorem pR(N:NT x)(h1:c1 x m=true)(h2:c2 x=false)(hi:PySem.intText? x=some n):JP [.str x,.int m] hp=some (.int n,hp):=by
 let E:En:=[.val (.str x),.val (.int m),.val (.str (cg x))]
 refine QH (env:=E) ((Qj (aA:=E) (Qv (Dv N.l rfl))).trans ?_);refine(Qj (Xe ((sS (m:=m) N.l rfl rfl N.f).trans (by rw[h1];rfl)))).trans ?_;refine(Qj (Xe ((BL rfl rfl N.s).trans (by rw[h2])))).trans (QJ (Zr (QK (Qe rfl)) ?_));show(Qy (decide (x.length<=640)) >>= _) hp=_;rw[Ch (Bj N.l (by decide))];rw[Ql (rfl:Qy true hp=some ((),hp)),hi];rfl
theorem WM(N:NT x)(h:c1 x m=false∨c2 x=true):Xc [.str x,.int m] hp=some (("NoRow" : Str),hp):=by
  let E:En:=[.val (.str x),.val (.int m),.val (.str (cg x))]
  refine JW (n:=3) (ds:=[.str x,.int m]) ((ZQ (aA:=E) (Qv (Dv N.l rfl))).trans ?_);cases q:c1 x m with
  |false=>exact Kt ((js ((sS (m:=m) N.l rfl rfl N.f).trans (by rw[q];rfl))).trans rfl)
  |true=>have h2:c2 x=true:=h.resolve_left (by rw[q];simp);have t:=(sS (hp:=hp) (env:=E) (m:=m) N.l rfl rfl N.f).trans (by rw[q];rfl:_=some (false,hp));refine(zQ ((yK t).trans rfl)).trans ?_;exact(ZQ (aA:=E) (Xe t)).trans ((js ((BL rfl rfl N.s).trans (by rw[h2]))).trans rfl)
end
def big:Nat:=1000000000000000000000000000000
structure KO(x:Str)(n:Int):Prop where
 N:NT x
 h1:c1 x 31=true
 h2:c2 x=false
 hi:PySem.intText? x=some n
 ha:n.natAbs<=big
def KB(x:Str):Prop:=NT x/\((c1 x 31=false∨c2 x=true)∨∃n,c1 x 31=true/\c2 x=false/\PySem.intText? x=some n/\big<n.natAbs)
structure SO(x:Str)(n:Int):Prop where
 N:NT x
 h1:c1 x 3=true
 h2:c2 x=false
 hi:PySem.intText? x=some n
 ha:0<=n
def NR(hp:Hs):Option (Str×Hs):=some (("NoRow" : Str),hp)
section
variable{hp:Hs}{x y wd row:Str}{m:Nat}{n i:Int}
theorem BR(N:NT x)(h1:c1 x m=true)(h2:c2 x=false):Xc [.str x,.int m] hp=none:=by
 let E:En:=[.val (.str x),.val (.int m),.val (.str (cg x))]
 have t:=(sS (hp:=hp) (env:=E) (m:=m) N.l rfl rfl N.f).trans (by rw[h1];rfl:_=some (false,hp));have a:=(BL (hp:=hp) (env:=E) rfl rfl N.s).trans (by rw[h2]:_=some (false,hp));show(Xu _ _ _ hp)=none;exact(ZQ (aA:=E) (Qv (Dv N.l rfl))).trans ((zQ ((yK t).trans rfl)).trans ((ZQ (aA:=E) (Xe t)).trans ((yK a).trans rfl)))
theorem Eb(env:En)(h:env[1]?=some (.val (.int n))):eB (Qi fJ (QL pO (Qc (Qb 1) (Qk))) (Qi mW (eC (.int 10)) (eC (.int 30)))) env hp=some (decide (big<n.natAbs),hp):=by refine Q0 ((Qn (Zr (QK (Qe h)) rfl) (Qn rfl rfl (JU zV hp)) rfl).trans ?_);show some (DV.bl (decide ((if n<0 then -n else n) > 1000000000000000000000000000000)),hp)=_;congr 3;refine decide_eq_decide.mpr ?_;unfold big;split<;>lia
theorem Df(K:KO x n):Jk [.str x] hp=some (.int n,hp):=by
 let E:En:=[.val (.str x),.val (.int n)]
 exact QH (env:=E) ((Qj (aA:=E) (Qv (QP (Zn (Qe rfl) rfl) rfl (pR (m:=31) K.N K.h1 K.h2 K.hi)))).trans ((Qj (Xe ((Eb E rfl).trans (by rw[Cj (by have:=K.ha;lia)])))).trans (QJ (Qe rfl))))
theorem YR{k:Nat}{G:List DV->Hs->Option (Str×Hs)}{fa:aW}{env:En}{hp1:Hs}{ds:List DV}(ha:fa env hp=some (ds,hp1))(c:ds.length=k)(a:G ds hp1=none):YQ k G fa env hp=none:=by unfold YQ;rw[J0 ha,Cf c];exact a
theorem Hl(K:KO x n):X7 [.str x] hp=none:=by
 let E:En:=[.val (.str x),.val (.int n)]
 show(dM _ _ _ hp)=none;exact(zQ (YR (Zn (Qe rfl) rfl) rfl (BR (m:=31) K.N K.h1 K.h2))).trans ((ZQ (aA:=E) (Qv (QP (Zn (Qe rfl) rfl) rfl (pR (m:=31) K.N K.h1 K.h2 K.hi)))).trans ((yK ((Eb E rfl).trans (by rw[Cj (by have:=K.ha;lia)]))).trans rfl))
theorem WQ(B:KB x):X7 [.str x] hp=NR hp:=by
 obtain⟨N,h|⟨n,h1,h2,hi,a⟩⟩:=B
 ·exact JW (n:=2) (ds:=[.str x]) (Kt (yJ (Zn (Qe rfl) rfl) rfl (WM (m:=31) N h)))
 ·let E:En:=[.val (.str x),.val (.int n)]
  exact JW (n:=2) (ds:=[.str x]) ((zQ (YR (Zn (Qe rfl) rfl) rfl (BR (m:=31) N h1 h2))).trans ((ZQ (aA:=E) (Qv (QP (Zn (Qe rfl) rfl) rfl (pR (m:=31) N h1 h2 hi)))).trans ((js ((Eb E rfl).trans (by rw[Ch a]))).trans rfl)))
theorem Dd(K:SO x n):Jf [.str x] hp=some (.int n,hp):=by
 let E:En:=[.val (.str x),.val (.int n)]
 exact QH (env:=E) ((Qj (aA:=E) (Qv (QP (Zn (Qe rfl) rfl) rfl (pR (m:=3) K.N K.h1 K.h2 K.hi)))).trans ((Qj (Xe (Q0 (Qn (Qe rfl) rfl (show some (DV.bl (decide (n<0)),hp)=some (.bl false,hp)by rw[Cj (by have:=K.ha;lia)]))))).trans (QJ (Qe rfl))))
abbrev Tx:=List (Str×Int)
def dF(ts:Tx):List DV:=ts.map λp=>.str p.1
def nG(ts:Tx):List DV:=ts.map λp=>.int p.2
theorem Qhd{ts:Tx}(c:∀p∈ts,KO p.1 p.2)(e:ts.length<=10):X0 (jf (Qb 1)) [] (Yb) (QB 1 Jk (Qc (Qb 0) (Qk))) [.val (.str wd),.val (.lst (dF ts)),.un] hp=some (.lst (nG ts),hp):=by unfold X0;have q:=qO (hp:=hp) (f:=λd=>QB 1 Jk (Qc (Qb 0) (Qk)) (cE [] [.val (.str wd),.val (.lst (dF ts)),.un] d)) (λp:Str×Int=>DV.str p.1) (λp=>DV.int p.2) ts λp a=>QP (QK (Qe rfl)) rfl (Df (c p a));have s:jf (Qb 1) [.val (.str wd),.val (.lst (dF ts)),.un] hp=some (dF ts,hp):=rfl;rw[Ql s,Jq (by unfold dF;rw[Bm];lia),Ql (rfl:Qy true hp=some ((),hp))];exact(Ql q).trans rfl
theorem PJ{ts:Tx}(a:∀p∈ts,KO p.1 p.2)(c:ts.length<=10):Qi Zf (ZD (Qc (Qb 0) (Qk))) (QL kn (Qc (X0 (jf (Qb 1)) [] (Yb) (QB 1 Jk (Qc (Qb 0) (Qk)))) (Qk))) [.val (.str wd),.val (.lst (dF ts)),.un] hp=some (.tup (.str wd::nG ts),hp):=by refine Qn (Xw (QK (Qe rfl)) (by simp)) (Zr (QK (Qhd a c)) rfl) ?_;show(Qy (X3 ([DV.str wd]++nG ts)) >>= _) hp=_;rw[Jq (by unfold nG;simp;lia)];rfl
theorem Ia(h1:PyData.strOk x=true)(h2:PyData.strOk y=true):cG (.str x) (.str y) hp=some (.bl (x==y),hp):=by show(Qy (dW (.str x)&&dW (.str y)) >>= _) hp=_;rw[jX h1,jX h2];rfl
theorem Li{ts:Tx}(a:∀p∈ts,KO p.1 p.2)(c:ts.length<=10)(d:PyData.strOk wd=true)(hs:(wd == "stretch")=false):Yj [.str wd,.lst (dF ts)] hp=some (.tup (.str wd::nG ts),hp):=by
 let E:En:=[.val (.str wd),.val (.lst (dF ts)),.val (.tup (.str wd::nG ts))]
 exact QH (env:=E) ((Qj (aA:=E) (Qv (PJ a c))).trans ((Qj (Xe (Kp (Q0 ((Qn (Qe rfl) rfl (Ia d xf)).trans (by rw[hs])))))).trans (QJ (Qe rfl))))
theorem NK{f:DV->M DV}{g:DV->Hs->Option (Str×Hs)}{r:Str×Hs}{d:DV}{es:List DV}:∀(ds:List DV),(∀d∈ds,g d hp=none/\∃v,f d hp=some (v,hp))->g d hp=some r->jt f g (ds++d::es) hp=some r
  | [],_,h=>by show(match g d hp with|some r=>some r|none=>_)=_;rw[h]
  |c::ds,k,h=>by obtain⟨h1,v,h2⟩:=k c (.head _);show(match g c hp with|some r=>some r|none=>(f c hp).bind λz=>jt f g (ds++d::es) z.2)=_;rw[h1,h2];exact NK ds (λe a=>k e (.tail _ a)) h
theorem gy{f:DV->M DV}{g:DV->Hs->Option (Str×Hs)}:∀(ds:List DV),(∀d∈ds,g d hp=none/\∃v,f d hp=some (v,hp))->jt f g ds hp=none
  | [],_=>rfl
  |c::ds,k=>by obtain⟨h1,v,h2⟩:=k c (.head _);show(match g c hp with|some r=>some r|none=>(f c hp).bind λz=>jt f g ds z.2)=_;rw[h1,h2];exact gy ds (λe a=>k e (.tail _ a))
theorem K5{ts:Tx}{es:List DV}(c:∀p∈ts,KO p.1 p.2)(e:KB y)(j:(dF ts++.str y::es).length<=10):Xz [.str wd,.lst (dF ts++.str y::es)] hp=NR hp:=by
 let E:En:=[.val (.str wd),.val (.lst (dF ts++.str y::es)),.un]
 refine JW (n:=3) (ds:=[.str wd,.lst (dF ts++.str y::es)]) (Kt ?_);show yM _ (xE (jf (Qb 1)) [] (QB 1 Jk (Qc (Qb 0) (Qk))) (YQ 1 X7 (Qc (Qb 0) (Qk)))) E hp=_;unfold yM xE;rw[J0 (Xw (QK (Qe rfl)) (by simp)),J0 (rfl:jf (Qb 1) E hp=some (dF ts++.str y::es,hp)),Jq ⋯,Cf rfl];refine NK (dF ts) (λd hd=>?_) (yJ (QK (Qe rfl)) rfl (WQ e));obtain⟨p,a,rfl⟩:=List.mem_map.mp hd;exact⟨YR (QK (Qe rfl)) rfl (Hl (c p a)),_,QP (QK (Qe rfl)) rfl (Df (c p a))⟩
theorem Lj(k1:KO x n)(k2:KO y i)(h:i<=n):Xz [.str "stretch", .lst [.str x,.str y]] hp=NR hp:=by
 let ts:Tx:=[(x,n),(y,i)]
 have c:∀p∈ts,KO p.1 p.2:=λp hp=>by
  rcases Bk.mp hp with rfl|hp
  ·exact k1
  ·rcases Bk.mp hp with rfl|hp
   ·exact k2
   ·cases hp
 let E0:En:=[.val (.str "stretch"),.val (.lst (dF ts)),.un]
 let T:DV:=.tup [.str "stretch", .int n,.int i]
 let E:En:=[.val (.str "stretch"),.val (.lst (dF ts)),.val T]
 refine JW (n:=3) (ds:=[.str "stretch", .lst (dF ts)]) ((zQ ?_).trans ?_)
 ·show yM _ (xE (jf (Qb 1)) [] (QB 1 Jk (Qc (Qb 0) (Qk))) (YQ 1 X7 (Qc (Qb 0) (Qk)))) E0 hp=_;unfold yM xE;rw[J0 (Xw (QK (Qe rfl)) (by simp)),J0 (rfl:jf (Qb 1) E0 hp=some (dF ts,hp)),Jq (by show 2<=100000;decide),Cf rfl];refine gy (dF ts) λd hd=>?_;obtain⟨p,a,rfl⟩:=List.mem_map.mp hd;exact⟨YR (QK (Qe rfl)) rfl (Hl (c p a)),_,QP (QK (Qe rfl)) rfl (Df (c p a))⟩
 ·refine(ZQ (aA:=E) (Qv (PJ (wd := "stretch") (ts:=ts) c (by show 2<=10;decide)))).trans ((js ((Kq (Q0 ((Qn (Qe rfl) rfl (Ia xf xf)).trans (by rfl)))).trans (Q0 ((Qn (Qn (x:=T) (Qe rfl) rfl rfl) (Qn (x:=T) (Qe rfl) rfl rfl) rfl).trans ?_)))).trans rfl);show some (DV.bl (decide (n≥i)),hp)=_;rw[Ch h]
end
def T1:List (Str×Int):=[("find", 1),("put", 2),("cut", 1),("stretch", 2)]
def T2:List (Str×Int):=[("move", 1),("finish", 0),("answer", 1),("table", 0),("sound", 0),("pack", 0)]
structure RW(row wd:Str)(ts:List Str):Prop where
 s:Txt.split row blank=wd::ts
 l:row.length<=600
 t:ts.length<=10
section
variable{hp:Hs}{x y wd row:Str}{ts:List Str}{n:Int}{v:DV}{r:Str×Hs}
def E3(row wd:Str)(ts:List Str):En:=[.val (.str row),.val (.lst ((wd::ts).map .str)),.val (.str wd),.val (.lst (ts.map .str))]
theorem oH(R:RW row wd ts):QD 1 (Zo "str" VD (Qb 0) (Qc (eC (.str " ")) (Qk))) [.val (.str row),.un,.un,.un] hp=some ((.nx,[.val (.str row),.val (.lst ((wd::ts).map .str)),.un,.un]),hp):=by
 refine Qv (d:=.lst ((wd::ts).map .str)) ?_;unfold Zo;rw[Ql (Qe (d:=.str row) rfl)];show(VD (.str row) [.str blank]) hp=_;show(Qy (decide (0<blank.length/\row.length+2<=sizeLine/\(Txt.split row blank).length<=sizeLine)) >>= λ_=>pure (DV.lst ((Txt.split row blank).map .str))) hp=_;have sz:1000<=sizeLine:=by decide +kernel
 have a:=R.l;have c:=R.t;rw[R.s,Ch (show 0<blank.length/\row.length+2<=sizeLine/\(wd::ts).length<=sizeLine from⟨by decide,⋯,by rw[Be];lia⟩)];rfl
theorem Fy{E:En}(h:E[1]?=some (.val (.lst ((wd::ts).map .str)))):Qi bR (Qb 1) (eC (.int 0)) E hp=some (.str wd,hp):=by refine Qn (Qe h) rfl ?_;show bR (.lst (.str wd::ts.map .str)) (.int ((0:Nat):Int)) hp=_;have a:atI (DV.str wd::ts.map .str) ((0:Nat):Int)=some (.str wd):=jO rfl;simp[bR,cO,jE]at a ⊢;rw[a];rfl
theorem HB(R:RW row wd ts){f:aB}:Qr (QD 2 (Qi bR (Qb 1) (eC (.int 0)))) (Qr (QD 3 (cA (Qb 1) (Zw (eC (.int 1))) (ZS))) f) [.val (.str row),.val (.lst ((wd::ts).map .str)),.un,.un] hp=f (E3 row wd ts) hp:=by refine(Qj (aA:=[.val (.str row),.val (.lst ((wd::ts).map .str)),.val (.str wd),.un]) (hp1:=hp) (Qv (Fy rfl))).trans (Qj (aA:=E3 row wd ts) (hp1:=hp) (Qv (d:=.lst (ts.map .str)) ?_));show(fO (.lst ((wd::ts).map .str)) (some 1) none) hp=_;show some (DV.lst _,hp)=_;rw[show(some (1:Int))=some (((1:Nat):Int))from rfl,Kl];rfl
theorem Hh(T:List (Str×Int)):eB (Qi cG (zP T (Qb 2)) (QL XX (Qc (Qb 3) (Qk)))) (E3 row wd ts) hp=some (decide (T.lookup wd=some (ts.length:Int)),hp):=by
  have a:zP T (Qb 2) (E3 row wd ts) hp=some (oI (T.lookup wd),hp):=rfl;have c:QL XX (Qc (Qb 3) (Qk)) (E3 row wd ts) hp=some (.int (ts.length:Int),hp):=by show some (DV.int ((ts.map DV.str).length:Int),hp)=_;rw[Bm]
  refine Q0 (Qn a c ?_);cases q:T.lookup wd with
  |none=>rfl
  |some j=>show cG (.int j) (.int (ts.length:Int)) hp=_;rw[JU (Jh j (ts.length:Int)) hp];congr 3;rw[Bool.eq_iff_iff];simp
theorem tE{T:List (Str×Int)}{c:Nat}(h:T.lookup wd≠some (c:Int))(a:ts.length=c):eB (Qi cG (zP T (Qb 2)) (QL XX (Qc (Qb 3) (Qk)))) (E3 row wd ts) hp=some (false,hp):=by rw[Hh,a,Cj h]
theorem tu{T:List (Str×Int)}{c:Nat}(h:T.lookup wd=some (c:Int))(a:ts.length=c):eB (Qi cG (zP T (Qb 2)) (QL XX (Qc (Qb 3) (Qk)))) (E3 row wd ts) hp=some (true,hp):=by rw[Hh,a,Ch h]
theorem HF(R:RW row wd ts)(h:T1.lookup wd=some (ts.length:Int))(hd:Yj [.str wd,.lst (ts.map .str)] hp=some (v,hp)):Zm [.str row] hp=some (v,hp):=by refine QH (env:=E3 row wd ts) ((Qj (oH R)).trans ((HB R).trans ?_));exact ZP ((J8 (tu (T:=T1) h rfl)).trans (QJ (QP (Zn (Qe rfl) (Qe rfl)) rfl hd)))
theorem HD(R:RW row wd [x])(h1:T1.lookup wd≠some ((1:Nat):Int))(h2:T2.lookup wd=some ((1:Nat):Int))(K:SO x n):Zm [.str row] hp=some (.tup [.str wd,.int n],hp):=by
 refine QH (env:=E3 row wd [x]) ((Qj (oH R)).trans ((HB R).trans ?_));refine(Qj (Xe (tE (T:=T1) (c:=1) h1 rfl))).trans ?_;have e:zj (E3 row wd [x]) hp=some (.lst [.int n],hp):=by
  unfold zj X0;rw[Ql (rfl:jf (Qb 3) (E3 row wd [x]) hp=some ([.str x],hp)),Ql (rfl:Qy (X3 (List.map DV.str [x])) hp=some ((),hp))];have q:=qO (hp:=hp) (f:=λd=>QB 1 Jf (Qc (Qb 0) (Qk)) (cE [] (E3 row wd [x]) d)) (λp:Str=>DV.str p) (λ_=>DV.int n) [x] λp a=>by rw[Au.mp a];exact QP (QK (Qe rfl)) rfl (Dd K)
  exact(Ql q).trans rfl
 exact ZP ((J8 (tu (T:=T2) (c:=1) h2 rfl)).trans (QJ (Qn (Xw (QK (Qe rfl)) (by simp)) (Zr (QK e) rfl) rfl)))
theorem B_(R:RW row wd ts){f:bO}:Xu (QD 2 (Qi bR (Qb 1) (eC (.int 0)))) (Xu (QD 3 (cA (Qb 1) (Zw (eC (.int 1))) (ZS))) f) [.val (.str row),.val (.lst ((wd::ts).map .str)),.un,.un] hp=f (E3 row wd ts) hp:=by refine(ZQ (aA:=[.val (.str row),.val (.lst ((wd::ts).map .str)),.val (.str wd),.un]) (hp1:=hp) (Qv (Fy rfl))).trans (ZQ (aA:=E3 row wd ts) (hp1:=hp) (Qv (d:=.lst (ts.map .str)) ?_));show(fO (.lst ((wd::ts).map .str)) (some 1) none) hp=_;show some (DV.lst _,hp)=_;rw[show(some (1:Int))=some (((1:Nat):Int))from rfl,Kl];rfl
theorem W7(R:RW row wd ts)(h:T1.lookup wd=some (ts.length:Int))(hd:Xz [.str wd,.lst (ts.map .str)] hp=some r):Z3 [.str row] hp=some r:=by refine JW (n:=4) (ds:=[.str row]) ((ZQ (oH R)).trans ((B_ R).trans ?_));exact Kt ((js (tu (T:=T1) h rfl)).trans (yJ (Zn (Qe rfl) (Qe rfl)) rfl hd))
theorem W6(R:RW row wd ts)(h1:T1.lookup wd≠some (ts.length:Int))(h2:T2.lookup wd≠some (ts.length:Int)):Z3 [.str row] hp=NR hp:=by have a:=tE (hp:=hp) (row:=row) (T:=T1) h1 rfl;have c:=tE (hp:=hp) (row:=row) (T:=T2) h2 rfl;exact JW (n:=4) (ds:=[.str row]) ((ZQ (oH R)).trans ((B_ R).trans ((zQ ((yK a).trans rfl)).trans ((ZQ (aA:=E3 row wd ts) (Xe a)).trans ((zQ ((yK c).trans rfl)).trans ((ZQ (aA:=E3 row wd ts) (Xe c)).trans rfl))))))
end
def oM(x:Str):Bool:=decide (x.length<=600)&&decide ((cg x).length<=600)&&PyData.strOk x
def Fq(x:Str)(n:Int):Bool:=oM x&&c1 x 31&&!c2 x&&(PySem.intText? x==some n)&&decide (n.natAbs<=big)
def kbB(x:Str):Bool:=oM x&&(!c1 x 31||c2 x)
def Ft(x:Str)(n:Int):Bool:=oM x&&c1 x 31&&!c2 x&&(PySem.intText? x==some n)&&decide (big<n.natAbs)
section
variable{x:Str}{n:Int}
theorem NT.of(h:oM x=true):NT x:=by simp only[oM,Bg,decide_eq_true_eq]at h;exact⟨h.1.1,h.1.2,h.2⟩
theorem KO.of(h:Fq x n=true):KO x n:=by simp only[Fq,Bg,decide_eq_true_eq,beq_iff_eq,By]at h;exact⟨NT.of h.1.1.1.1,h.1.1.1.2,h.1.1.2,h.1.2,h.2⟩
theorem KB.of(h:kbB x=true):KB x:=by simp only[kbB,Bg,Bool.or_eq_true,By]at h;exact⟨NT.of h.1,.inl h.2⟩
theorem KB.far(h:Ft x n=true):KB x:=by simp only[Ft,Bg,decide_eq_true_eq,beq_iff_eq,By]at h;exact⟨NT.of h.1.1.1.1,.inr ⟨n,h.1.1.1.2,h.1.1.2,h.1.2,h.2⟩⟩
end
theorem CV(x:Str)(c:Nat):Txt.startswith x ⟨#[c]⟩=decide ((cl x)[0]?=some c):=by
 rw[Bool.eq_iff_iff];unfold Txt.startswith
 rw[Bg,decide_eq_true_eq,decide_eq_true_eq];exact StrLaws.subAt_one x c 0
theorem gc{x:Str}(h:(cl x)[0]?≠some 45):cg x=x:=by unfold cg;rw[show("-" : Str)=⟨#[45]⟩from rfl,CV,Cj h];rfl
theorem Ie:∀c:Nat,c<128->Txt.contains "0123456789" ⟨#[c]⟩=(decide (48<=c)&&decide (c<=57)):=by decide +kernel
def pH(l:List Nat):Bool:=l.all λc=>decide (48<=c)&&decide (c<=57)
theorem D3{x:Str}(h:pH (cl x)=true):dg x=true:=by
 unfold dg;rw[List.all_eq_true];intro c a;have:=List.all_eq_true.mp h c a;have q:c<128:=by simp only[Bg,decide_eq_true_eq]at this;lia
 rw[Ie c q];exact this
theorem IW{x:Str}{c:Nat}(a:c∈cl x)(q:c<128)(h:(decide (48<=c)&&decide (c<=57))=false):dg x=false:=by
  cases z:dg x with
  |false=>rfl
  |true=>have:=List.all_eq_true.mp z c a;rw[Ie c q,h]at this;cases this
theorem tQ{x:Str}(h:∀c∈cl x,c<128):PyData.strOk x=true:=by unfold PyData.strOk;rw[Array.all_eq_true'];intro c a;have:=h c (Array.mem_toList_iff.mpr a);exact Ch ⋯
def lq(n:Nat)(l:List Nat):Bool:=pH l&&decide (1<=l.length)&&decide (l.length<=3)&&(n==0||!(l[0]?==some 48))&&(!(n==0)||l==[48])
theorem D2:∀d:Nat,d<10->(Nat.digitChar d).toNat=48+d:=by decide
theorem tM{n:Nat}(h:n<10):(Nat.toDigits 10 n).map Char.toNat=[48+n]:=by rw[Nat.toDigits_of_lt_base h,Bf,D2 n h];rfl
theorem Di{n:Nat}(h:10<=n):(Nat.toDigits 10 n).map Char.toNat=(Nat.toDigits 10 (n / 10)).map Char.toNat++[48+n % 10]:=by have t:Nat.toDigits 10 (n / 10)++Nat.toDigits 10 (n % 10)=Nat.toDigits 10 (10 * (n / 10)+n % 10):=Nat.toDigits_append_toDigits (by decide) ⋯ ⋯;rw[Nat.div_add_mod]at t;rw[<- t,List.map_append,tM (n:=n % 10) ⋯]
theorem QjB(n:Nat)(h:n<1000):lq n (cl (txt n))=true:=by
 have e:cl (txt n)=(Nat.toDigits 10 n).map Char.toNat:=PySem.W.KIN.signs_num n;have z:∀a,a≠0->¬ 48+a=48:=λa h=>⋯
 unfold lq;by_cases h1:n<10
 ·rw[e,tM h1];by_cases c:n=0
  ·rw[c];rfl
  ·simp[pH,c];lia
 ·by_cases h2:n<100
  ·rw[e,Di ⋯,tM ⋯];simp[pH];lia
  ·rw[e,Di ⋯,Di ⋯,tM ⋯];simp[pH];lia
structure TQ(n:Nat)(x:Str):Prop where
 l:x.length<=3
 s:SO x n
 k:KO x n
 f:32∉cl x
 g:cl x≠[]
 b:n≠0->KB ("0" ++ x)/\KB ("+" ++ x)/\KB (x++("a" : Str))
theorem TQ.of{n:Nat}(h:n<1000):TQ n (txt n):=by
 have q:=QjB n h;generalize hx:txt n=x at q ⊢;simp only[lq,Bg,decide_eq_true_eq,By,Bool.or_eq_true,beq_iff_eq]at q;obtain⟨⟨⟨⟨h1,h2⟩,h3⟩,h4⟩,h5⟩:=q;have hd:∀c∈cl x,48<=c/\c<=57:=λc a=>by have:=List.all_eq_true.mp h1 c a;simpa only[Bg,decide_eq_true_eq]using this
 have i:PySem.intText? x=some (n:Int):=by rw[<- hx];exact PySem.W.KIN.num_reads ⋯ ⋯
 have d:(cl x)[0]?≠some 45:=λz=>by have:=hd 45 (Ax z);lia
 have e:=gc d;have j:x.length=(cl x).length:=Kh x;have E:=tQ λc a=>by have:=hd c a;lia
 have nx:NT x:=⟨⋯,by rw[e];lia,E⟩;have o:∀m,3<=m->c1 x m=true:=λm hm=>by unfold c1;rw[e,Ch ⋯,Ch ⋯,D3 h1];rfl
 have r:c2 x=false:=by
  unfold c2;rw[e,show("0" : Str)=⟨#[48]⟩from rfl,CV];rcases h4 with h4|h4
  ·rcases h5 with h5|h5
   ·rw[h4]at h5;cases h5
   ·have:x=⟨#[48]⟩:=Dz h5;rw[this];rfl
  ·rw[Cj (by simpa using h4)];rfl
 refine⟨⋯,⟨nx,o 3 ⋯,r,i,⋯⟩,⟨nx,o 31 ⋯,r,i,by unfold big;lia⟩,λz=>?_,λz=>?_,λhn=>?_⟩
 ·have:=hd 32 z;lia
 ·rw[z]at h2;exact absurd h2 (by decide)
 ·have k0:cl (("0" : Str)++x)=48::cl x:=ZV _ _;have k1:cl (("+" : Str)++x)=43::cl x:=ZV _ _;have k2:cl (x++("a" : Str))=cl x++[97]:=ZV _ _;have u:cg (("0" : Str)++x)=("0" : Str)++x:=gc (by rw[k0];simp);have v:cg (("+" : Str)++x)=("+" : Str)++x:=gc (by rw[k1];simp);have y:cg (x++("a" : Str))=x++("a" : Str):=gc (by rw[k2,Aj ⋯];exact d);have C:(("0" : Str)++x).length=x.length+1:=by rw[Kh,k0,Be,j]
  have F:(("+" : Str)++x).length=x.length+1:=by rw[Kh,k1,Be,j]
  have G:(x++("a" : Str)).length=x.length+1:=by rw[Kh,k2,Ap,j];rfl
  refine⟨⟨⟨⋯,by rw[u];lia,tQ λc a=>?_⟩,.inl (.inr ?_)⟩,⟨⟨⋯,by rw[v];lia,tQ λc a=>?_⟩,.inl (.inl ?_)⟩,⟨⟨⋯,by rw[y];lia,tQ λc a=>?_⟩,.inl (.inl ?_)⟩⟩
  ·rw[k0]at a;rcases Bk.mp a with rfl|a
   ·decide
   ·have:=hd c a;lia
  ·unfold c2;rw[u,show("0" : Str)=⟨#[48]⟩from rfl,CV];have:(cl ((⟨#[48]⟩:Str)++x))[0]?=some 48:=by rw[show cl ((⟨#[48]⟩:Str)++x)=48::cl x from ZV _ _];rfl
   rw[Ch this,Bool.true_and,By,beq_eq_false_iff_ne];intro z;have:=congrArg Str.length z;rw[show("0" : Str)=⟨#[48]⟩from rfl]at C;rw[C]at this;have z2:(⟨#[48]⟩:Str).length=1:=rfl;lia
  ·rw[k1]at a;rcases Bk.mp a with rfl|a
   ·decide
   ·have:=hd c a;lia
  ·unfold c1;rw[v,IW (c:=43) (by rw[k1];exact .head _) (by decide) rfl,Bool.and_false]
  ·rw[k2]at a;rcases Ak.mp a with a|a
   ·have:=hd c a;lia
   ·rw[Au.mp a];decide
  ·unfold c1;rw[y,IW (c:=97) (by rw[k2];exact Am _ (.head _)) (by decide) rfl,Bool.and_false]
def bM:Str:=("1" : Str)++Txt.mul "0" 29++("1" : Str)
def rows(t:Str):List Str:=[Str.ofString "", Str.ofString " ", Str.ofString "find", Str.ofString "put", Str.ofString "cut", Str.ofString "stretch", Str.ofString "move", Str.ofString "answer", Str.ofString "find ", Str.ofString "find  " ++ t,Str.ofString " find " ++ t,
 Str.ofString "find " ++ t++Str.ofString " ", Str.ofString "find " ++ t++Str.ofString " 1", Str.ofString "put " ++ t,Str.ofString "put " ++ t++Str.ofString " 1 2", Str.ofString "cut " ++ t++Str.ofString " 1",
 Str.ofString "stretch " ++ t,Str.ofString "stretch " ++ t++Str.ofString " " ++ t,Str.ofString "stretch " ++ t++Str.ofString " 0", Str.ofString "Find " ++ t,Str.ofString "find 0" ++ t,
 Str.ofString "find +" ++ t,Str.ofString "find -0", Str.ofString "find " ++ t++Str.ofString "a", Str.ofString "find " ++ bM,Str.ofString "cut -" ++ bM,
 Str.ofString "move -1", Str.ofString "move 0001", Str.ofString "move 1 2", Str.ofString "answer -1", Str.ofString "answer 01", Str.ofString "answer 1000", Str.ofString "finish 1", Str.ofString "finish ",
 Str.ofString "table 1", Str.ofString "sounds", Str.ofString "pack 1", Str.ofString "put - 1", Str.ofString "put " ++ t++Str.ofString " --1", Str.ofString "find 1_0",
 Str.ofString "put " ++ t++Str.ofString " " ++ bM,Str.ofString "put " ++ t++Str.ofString " -" ++ bM,Str.ofString "stretch " ++ t++Str.ofString " " ++ bM]
section
variable{hp:Hs}{a b t u wd:Str}{ts:List Str}{n:Nat}
theorem fn:∀p∈([]:List Str),32∉cl p:=λ_ h=>by cases h
theorem fc{x:Str}{l:List Str}(h:32∉cl x)(k:∀p∈l,32∉cl p):∀p∈x::l,32∉cl p:=λp hp=>by
 rcases Bk.mp hp with rfl|hp
 ·exact h
 ·exact k p hp
theorem W0{row:Str}(d:cl row=lj 32 (wd::ts))(c:cl row≠[])(l:row.length<=600)(hf:∀p∈wd::ts,32∉cl p)(e:ts.length<=10):RW row wd ts:=⟨Qgd (by simp) hf d c,l,e⟩
def Ea{α:Type}{x y:List α}(h:x≠[]):x++y≠[]:=λz=>h (List.append_eq_nil_iff.mp z).1
theorem W1(c:cl a++cl t=lj 32 (wd::ts))(ha:cl a≠[])(e:a.length<=100)(lt:t.length<=100)(hf:∀p∈wd::ts,32∉cl p)(d:ts.length<=10):RW (a++t) wd ts :=
 W0 ((ZV a t).trans c) (by rw[ZV];exact Ea ha) (by rw[Str.length_append];lia) hf d
theorem W2(c:cl a++(cl t++cl b)=lj 32 (wd::ts))(ha:cl a≠[])(e:a.length<=100)(lt:t.length<=100)(i:b.length<=100)(hf:∀p∈wd::ts,32∉cl p)(d:ts.length<=10):RW (a++t++b) wd ts :=
 W0 (by rw[ZV,ZV,A0];exact c) (by rw[ZV,ZV,A0];exact Ea ha) (by rw[Str.length_append,Str.length_append];lia) hf d
theorem W3(c:cl a++(cl t++(cl b++cl u))=lj 32 (wd::ts))(ha:cl a≠[])(e:a.length<=100)(lt:t.length<=100)(i:b.length<=100)(j:u.length<=100)(hf:∀p∈wd::ts,32∉cl p)(d:ts.length<=10):RW (a++t++b++u) wd ts :=
 W0 (by rw[ZV,ZV,ZV,A0,A0];exact c) (by rw[ZV,ZV,ZV,A0,A0];exact Ea ha) (by rw[Str.length_append,Str.length_append,Str.length_append];lia) hf d
theorem y6{row:Str}{c:Nat}(R:RW row wd ts)(d:ts.length=c)(h1:T1.lookup wd≠some (c:Int))(h2:T2.lookup wd≠some (c:Int)):Z3 [.str row] hp=NR hp:=W6 R (by rw[d];exact h1) (by rw[d];exact h2)
theorem y4{row:Str}{c:Nat}{r:Str×Hs}(R:RW row wd ts)(d:ts.length=c)(h1:T1.lookup wd=some (c:Int))(hd:Xz [.str wd,.lst (ts.map .str)] hp=some r):Z3 [.str row] hp=some r:=W7 R (by rw[d];exact h1) hd
theorem Nj:KB bM:=KB.far (n:=1000000000000000000000000000001) (by decide +kernel)
theorem Qhc:KB (("-" : Str)++bM):=KB.far (n:=-1000000000000000000000000000001) (by decide +kernel)
theorem Z_:KO "0" 0:=KO.of (by decide +kernel)
theorem RY:KB "--1" := KB.of (by decide +kernel)
theorem kt{x:Str}{n:Int}(h:KO x n):∀p∈([(x,n)]:Tx),KO p.1 p.2:=λp hp=>by rw[Au.mp hp];exact h
theorem k0:∀p∈([]:Tx),KO p.1 p.2:=λ_ h=>by cases h
theorem WR(Q:TQ n t)(hn:n≠0):∀x∈rows t,Z3 [.str x] hp=NR hp:=by
 have lt:t.length<=100:=Bj Q.l (by decide);obtain⟨d,e,i⟩:=Q.b hn;intro x hx;simp only[rows,Bk,Bu,or_false]at hx;rcases hx with rfl|rfl|rfl|rfl|rfl|rfl|rfl|rfl|rfl|rfl|rfl|rfl|rfl|rfl|rfl|rfl|rfl|rfl|rfl|rfl|rfl|rfl|rfl|rfl|rfl|rfl|rfl|rfl|rfl|rfl|rfl|rfl|rfl|rfl|rfl|rfl|rfl|rfl|rfl|rfl|rfl|rfl|rfl
 ·kernel_rfl
 ·kernel_rfl
 ·kernel_rfl
 ·kernel_rfl
 ·kernel_rfl
 ·kernel_rfl
 ·kernel_rfl
 ·kernel_rfl
 ·kernel_rfl
 ·exact y6 (c:=2) (W1 (wd := "find") (ts:=["", t]) (by kernel_rfl) (by decide +kernel) (by decide +kernel) lt (fc (by decide +kernel) (fc (by decide +kernel) (fc Q.f fn))) (Nat.le_of_ble_eq_true rfl)) rfl (by decide +kernel) (by decide +kernel)
 ·exact y6 (c:=2) (W1 (wd := "") (ts:=["find", t]) (by kernel_rfl) (by decide +kernel) (by decide +kernel) lt (fc (by decide +kernel) (fc (by decide +kernel) (fc Q.f fn))) (Nat.le_of_ble_eq_true rfl)) rfl (by decide +kernel) (by decide +kernel)
 ·exact y6 (c:=2) (W2 (wd := "find") (ts:=[t, ""]) (by kernel_rfl) (by decide +kernel) (by decide +kernel) lt (by decide +kernel) (fc (by decide +kernel) (fc Q.f (fc (by decide +kernel) fn))) (Nat.le_of_ble_eq_true rfl)) rfl (by decide +kernel) (by decide +kernel)
 ·exact y6 (c:=2) (W2 (wd := "find") (ts:=[t, "1"]) (by kernel_rfl) (by decide +kernel) (by decide +kernel) lt (by decide +kernel) (fc (by decide +kernel) (fc Q.f (fc (by decide +kernel) fn))) (Nat.le_of_ble_eq_true rfl)) rfl (by decide +kernel) (by decide +kernel)
 ·exact y6 (c:=1) (W1 (wd := "put") (ts:=[t]) (by kernel_rfl) (by decide +kernel) (by decide +kernel) lt (fc (by decide +kernel) (fc Q.f fn)) (Nat.le_of_ble_eq_true rfl)) rfl (by decide +kernel) (by decide +kernel)
 ·exact y6 (c:=3) (W2 (wd := "put") (ts:=[t, "1", "2"]) (by kernel_rfl) (by decide +kernel) (by decide +kernel) lt (by decide +kernel) (fc (by decide +kernel) (fc Q.f (fc (by decide +kernel) (fc (by decide +kernel) fn)))) (Nat.le_of_ble_eq_true rfl)) rfl (by decide +kernel) (by decide +kernel)
 ·exact y6 (c:=2) (W2 (wd := "cut") (ts:=[t, "1"]) (by kernel_rfl) (by decide +kernel) (by decide +kernel) lt (by decide +kernel) (fc (by decide +kernel) (fc Q.f (fc (by decide +kernel) fn))) (Nat.le_of_ble_eq_true rfl)) rfl (by decide +kernel) (by decide +kernel)
 ·exact y6 (c:=1) (W1 (wd := "stretch") (ts:=[t]) (by kernel_rfl) (by decide +kernel) (by decide +kernel) lt (fc (by decide +kernel) (fc Q.f fn)) (Nat.le_of_ble_eq_true rfl)) rfl (by decide +kernel) (by decide +kernel)
 ·exact y4 (c:=2) (W3 (wd := "stretch") (ts:=[t,t]) (by kernel_rfl) (by decide +kernel) (by decide +kernel) lt (by decide +kernel) lt (fc (by decide +kernel) (fc Q.f (fc Q.f fn))) (Nat.le_of_ble_eq_true rfl)) rfl (by decide +kernel) (Lj Q.k Q.k (Int.le_refl _))
 ·exact y4 (c:=2) (W2 (wd := "stretch") (ts:=[t, "0"]) (by kernel_rfl) (by decide +kernel) (by decide +kernel) lt (by decide +kernel) (fc (by decide +kernel) (fc Q.f (fc (by decide +kernel) fn))) (Nat.le_of_ble_eq_true rfl)) rfl (by decide +kernel) (Lj Q.k Z_ ⋯)
 ·exact y6 (c:=1) (W1 (wd := "Find") (ts:=[t]) (by kernel_rfl) (by decide +kernel) (by decide +kernel) lt (fc (by decide +kernel) (fc Q.f fn)) (Nat.le_of_ble_eq_true rfl)) rfl (by decide +kernel) (by decide +kernel)
 ·exact y4 (c:=1) (W1 (wd := "find") (ts:=["0" ++ t]) (by rw[lj,lj,ZV];kernel_rfl) (by decide +kernel) (by decide +kernel) lt (fc (by decide +kernel) (fc (by rw[ZV];simp[Q.f];decide +kernel) fn)) (Nat.le_of_ble_eq_true rfl)) rfl (by decide +kernel) (K5 (ts:=[]) (es:=[]) k0 d (Nat.le_of_ble_eq_true rfl))
 ·exact y4 (c:=1) (W1 (wd := "find") (ts:=["+" ++ t]) (by rw[lj,lj,ZV];kernel_rfl) (by decide +kernel) (by decide +kernel) lt (fc (by decide +kernel) (fc (by rw[ZV];simp[Q.f];decide +kernel) fn)) (Nat.le_of_ble_eq_true rfl)) rfl (by decide +kernel) (K5 (ts:=[]) (es:=[]) k0 e (Nat.le_of_ble_eq_true rfl))
 ·kernel_rfl
 ·exact y4 (c:=1) (W2 (wd := "find") (ts:=[t++("a" : Str)]) (by rw[lj,lj,ZV];kernel_rfl) (by decide +kernel) (by decide +kernel) lt (by decide +kernel) (fc (by decide +kernel) (fc (by rw[ZV];simp[Q.f];decide +kernel) fn)) (Nat.le_of_ble_eq_true rfl)) rfl (by decide +kernel) (K5 (ts:=[]) (es:=[]) k0 i (Nat.le_of_ble_eq_true rfl))
 ·kernel_rfl
 ·kernel_rfl
 ·kernel_rfl
 ·kernel_rfl
 ·kernel_rfl
 ·kernel_rfl
 ·kernel_rfl
 ·kernel_rfl
 ·kernel_rfl
 ·kernel_rfl
 ·kernel_rfl
 ·kernel_rfl
 ·kernel_rfl
 ·kernel_rfl
 ·exact y4 (c:=2) (W2 (wd := "put") (ts:=[t, "--1"]) (by kernel_rfl) (by decide +kernel) (by decide +kernel) lt (by decide +kernel) (fc (by decide +kernel) (fc Q.f (fc (by decide +kernel) fn))) (Nat.le_of_ble_eq_true rfl)) rfl (by decide +kernel) (K5 (ts:=[(t,n)]) (es:=[]) (kt Q.k) RY (Nat.le_of_ble_eq_true rfl))
 ·kernel_rfl
 ·exact y4 (c:=2) (W3 (wd := "put") (ts:=[t,bM]) (by kernel_rfl) (by decide +kernel) (by decide +kernel) lt (by decide +kernel) (by decide +kernel) (fc (by decide +kernel) (fc Q.f (fc (by decide +kernel) fn))) (Nat.le_of_ble_eq_true rfl)) rfl (by decide +kernel) (K5 (ts:=[(t,n)]) (es:=[]) (kt Q.k) Nj (Nat.le_of_ble_eq_true rfl))
 ·exact y4 (c:=2) (W3 (wd := "put") (ts:=[t,("-" : Str)++bM]) (by kernel_rfl) (by decide +kernel) (by decide +kernel) lt (by decide +kernel) (by decide +kernel) (fc (by decide +kernel) (fc Q.f (fc (by decide +kernel) fn))) (Nat.le_of_ble_eq_true rfl)) rfl (by decide +kernel) (K5 (ts:=[(t,n)]) (es:=[]) (kt Q.k) Qhc (Nat.le_of_ble_eq_true rfl))
 ·exact y4 (c:=2) (W3 (wd := "stretch") (ts:=[t,bM]) (by kernel_rfl) (by decide +kernel) (by decide +kernel) lt (by decide +kernel) (by decide +kernel) (fc (by decide +kernel) (fc Q.f (fc (by decide +kernel) fn))) (Nat.le_of_ble_eq_true rfl)) rfl (by decide +kernel) (K5 (ts:=[(t,n)]) (es:=[]) (kt Q.k) Nj (Nat.le_of_ble_eq_true rfl))
end
theorem QgF:1000<=sizeLine:=by decide +kernel
section
variable{hp:Hs}{t u c d:Str}{E:En}
theorem jN{x y:Str}(hx:x.length<=400)(a:y.length<=400):Q1 (.str x) (.str y) hp=some (.str (x++y),hp):=uK (Ch (by have:=QgF;lia))
theorem A1{i:Nat}(a:c.length<=100)(h:E[i]?=some (.val (.str t)))(lt:t.length<=100):Qi Q1 (eC (.str c)) (Qb i) E hp=some (.str (c++t),hp):=Qn rfl (Qe h) (jN ⋯ ⋯)
theorem A2(a:c.length<=100)(h:E[1]?=some (.val (.str t)))(lt:t.length<=100)(hd:d.length<=100):Qi Q1 (Qi Q1 (eC (.str c)) (Qb 1)) (eC (.str d)) E hp=some (.str (c++t++d),hp):=Qn (A1 a h lt) rfl (jN (by rw[Str.length_append];lia) ⋯)
theorem A3{j:Nat}(a:c.length<=100)(h:E[1]?=some (.val (.str t)))(lt:t.length<=100)(hd:d.length<=100)(e:E[j]?=some (.val (.str u)))(i:u.length<=100):Qi Q1 (Qi Q1 (Qi Q1 (eC (.str c)) (Qb 1)) (eC (.str d))) (Qb j) E hp=some (.str (c++t++d++u),hp):=Qn (A2 a h lt hd) (Qe e) (jN (by rw[Str.length_append,Str.length_append];lia) ⋯)
theorem Mg{fa:aW}{ds:List DV}(ha:fa E hp=some (ds,hp))(hs:ds.length<=100000):Ja fa E hp=some (.lst ds,hp):=by unfold Ja;rw[Ql ha,Jq hs];rfl
theorem zF{fa:aW}{ds es:List DV}(h:E[2]?=some (.val (.lst ds)))(ha:fa E hp=some (es,hp))(hs:ds.length+es.length<=1000):QD 2 (Qi Zf (Qb 2) (Ja fa)) E hp=some ((.nx,E.set 2 (.val (.lst (ds++es)))),hp):=by refine Qv (Qn (Qe h) (Mg ha ⋯) ?_);show(Qy (X3 (ds++es)) >>= _) hp=_;rw[Jq (by rw[Ap];lia)];rfl
theorem MV(i:Int):∃n x,n<1000/\n≠0/\x∈rows (txt (n:Nat))/\Vp [.int i] hp=some (.str x,hp):=by
 have I:0<=i / 43 % 900:=Int.emod_nonneg _ (by decide);have J:i / 43 % 900<900:=Int.emod_lt_of_pos _ (by decide);have m:0<=i % 43:=Int.emod_nonneg _ (by decide);have L:i % 43<43:=Int.emod_lt_of_pos _ (by decide)
 let n:Nat:=(i / 43 % 900+1).toNat
 have hn:(n:Int)=i / 43 % 900+1:=by show((i / 43 % 900+1).toNat:Int)=_;lia
 have Q:TQ n (txt n):=TQ.of ⋯;have lt:(txt n).length<=100:=Bj Q.l (by decide);have lf:bM.length<=100:=by decide +kernel
 generalize j:txt n=t at Q lt
 let V:List Str->Sl:=λl=>.val (.lst (l.map .str))
 let E0:En:=[.val (.int i),.un,.un,.un]
 let e:Sl->Sl->En:=λy z=>[.val (.int i),.val (.str t),y,z]
 let R:=rows t
 have G:QD 1 (QL JY (Qc (Qi Zf (Qi Xg (Qi Y5 (Qb 0) (eC (.int 43))) (eC (.int 900))) (eC (.int 1))) (Qk))) E0 hp=some ((.nx,e .un .un),hp):=by refine Qv (Zr (QK (Qn (Qn (Qn (Qe rfl) rfl (JU (qP i 43 (by decide) (by decide)) hp)) rfl (JU (Xh (i / 43) 900 (by decide)) hp)) rfl rfl)) ?_);show JY [.int (i / 43 % 900+1)] hp=_;rw[yo (Ya ⋯),<- hn,j]
 have u1:∀z,(e z .un)[1]?=some (.val (.str t)):=λ_=>rfl;refine⟨n,R.getD (i % 43).toNat "", by lia,⋯,by rw[j,List.getD_eq_getElem?_getD,Af (by show(i % 43).toNat<43;lia)];exact List.getElem_mem _,?_⟩;have g1:QD 2 (Ja (Qc (eC (.str "")) (Qc (eC (.str " ")) (Qc (eC (.str "find")) (Qc (eC (.str "put")) (Qc (eC (.str "cut")) (Qc (eC (.str "stretch")) (Qc (eC (.str "move")) (Qc (eC (.str "answer")) (Qc (eC (.str "find ")) (Qc (Qi Q1 (eC (.str "find  ")) (Qb 1)) (Qc (Qi Q1 (eC (.str " find ")) (Qb 1)) (Qk))))))))))))) (e .un .un) hp=some ((.nx,e (V (R.take 11)) .un),hp):=by
  refine Qv (Mg ?_ (Nat.le_of_ble_eq_true rfl))
  (repeat' first|exact Jp|refine Yk (hp1:=hp) ?_ ?_)<;>first|rfl|exact A1 (by decide +kernel) rfl lt
 have g2:QD 2 (Qi Zf (Qb 2) (Ja (Qc (Qi Q1 (Qi Q1 (eC (.str "find ")) (Qb 1)) (eC (.str " "))) (Qc (Qi Q1 (Qi Q1 (eC (.str "find ")) (Qb 1)) (eC (.str " 1"))) (Qc (Qi Q1 (eC (.str "put ")) (Qb 1)) (Qc (Qi Q1 (Qi Q1 (eC (.str "put ")) (Qb 1)) (eC (.str " 1 2"))) (Qc (Qi Q1 (Qi Q1 (eC (.str "cut ")) (Qb 1)) (eC (.str " 1"))) (Qk)))))))) (e (V (R.take 11)) .un) hp=some ((.nx,e (V (R.take 16)) .un),hp):=by
  refine zF (ds:=(R.take 11).map .str) (es:=((R.drop 11).take 5).map .str) rfl ?_ (Nat.le_of_ble_eq_true rfl)
  (repeat' first|exact Jp|refine Yk (hp1:=hp) ?_ ?_)<;>first|exact A1 (by decide +kernel) rfl lt|exact A2 (by decide +kernel) rfl lt (by decide +kernel)
 have g3:QD 2 (Qi Zf (Qb 2) (Ja (Qc (Qi Q1 (eC (.str "stretch ")) (Qb 1)) (Qc (Qi Q1 (Qi Q1 (Qi Q1 (eC (.str "stretch ")) (Qb 1)) (eC (.str " "))) (Qb 1)) (Qc (Qi Q1 (Qi Q1 (eC (.str "stretch ")) (Qb 1)) (eC (.str " 0"))) (Qk)))))) (e (V (R.take 16)) .un) hp=some ((.nx,e (V (R.take 19)) .un),hp):=by
  refine zF (ds:=(R.take 16).map .str) (es:=((R.drop 16).take 3).map .str) rfl ?_ (Nat.le_of_ble_eq_true rfl)
  (repeat' first|exact Jp|refine Yk (hp1:=hp) ?_ ?_)<;>first|exact A1 (by decide +kernel) rfl lt|exact A2 (by decide +kernel) rfl lt (by decide +kernel)|exact A3 (by decide +kernel) rfl lt (by decide +kernel) rfl lt
 have g4:QD 2 (Qi Zf (Qb 2) (Ja (Qc (Qi Q1 (eC (.str "Find ")) (Qb 1)) (Qc (Qi Q1 (eC (.str "find 0")) (Qb 1)) (Qk))))) (e (V (R.take 19)) .un) hp=some ((.nx,e (V (R.take 21)) .un),hp):=by
  refine zF (ds:=(R.take 19).map .str) (es:=((R.drop 19).take 2).map .str) rfl ?_ (Nat.le_of_ble_eq_true rfl)
  (repeat' first|exact Jp|refine Yk (hp1:=hp) ?_ ?_)<;>exact A1 (by decide +kernel) rfl lt
 have o:QD 3 (Qi Q1 (Qi Q1 (eC (.str "1")) (Qi sI (eC (.str "0")) (eC (.int 29)))) (eC (.str "1"))) (e (V (R.take 21)) .un) hp=some ((.nx,e (V (R.take 21)) (.val (.str bM))),hp):=by kernel_rfl
 have q:QD 2 (Qi Zf (Qb 2) (Ja (Qc (Qi Q1 (eC (.str "find +")) (Qb 1)) (Qc (eC (.str "find -0")) (Qc (Qi Q1 (Qi Q1 (eC (.str "find ")) (Qb 1)) (eC (.str "a"))) (Qc (Qi Q1 (eC (.str "find ")) (Qb 3)) (Qc (Qi Q1 (eC (.str "cut -")) (Qb 3)) (Qk)))))))) (e (V (R.take 21)) (.val (.str bM))) hp=some ((.nx,e (V (R.take 26)) (.val (.str bM))),hp):=by
  refine zF (ds:=(R.take 21).map .str) (es:=((R.drop 21).take 5).map .str) rfl ?_ (Nat.le_of_ble_eq_true rfl)
  (repeat' first|exact Jp|refine Yk (hp1:=hp) ?_ ?_)<;>first|exact A1 (by decide +kernel) rfl lt|exact A1 (by decide +kernel) rfl lf|exact A2 (by decide +kernel) rfl lt (by decide +kernel)|rfl
 have r:QD 2 (Qi Zf (Qb 2) (Ja (Qc (eC (.str "move -1")) (Qc (eC (.str "move 0001")) (Qc (eC (.str "move 1 2")) (Qc (eC (.str "answer -1")) (Qc (eC (.str "answer 01")) (Qc (eC (.str "answer 1000")) (Qc (eC (.str "finish 1")) (Qc (eC (.str "finish ")) (Qk))))))))))) (e (V (R.take 26)) (.val (.str bM))) hp=some ((.nx,e (V (R.take 34)) (.val (.str bM))),hp):=by
  refine zF (ds:=(R.take 26).map .str) (es:=((R.drop 26).take 8).map .str) rfl ?_ (Nat.le_of_ble_eq_true rfl)
  (repeat' first|exact Jp|refine Yk (hp1:=hp) ?_ ?_)<;>rfl
 have v:QD 2 (Qi Zf (Qb 2) (Ja (Qc (eC (.str "table 1")) (Qc (eC (.str "sounds")) (Qc (eC (.str "pack 1")) (Qc (eC (.str "put - 1")) (Qc (Qi Q1 (Qi Q1 (eC (.str "put ")) (Qb 1)) (eC (.str " --1"))) (Qc (eC (.str "find 1_0")) (Qk))))))))) (e (V (R.take 34)) (.val (.str bM))) hp=some ((.nx,e (V (R.take 40)) (.val (.str bM))),hp):=by
  refine zF (ds:=(R.take 34).map .str) (es:=((R.drop 34).take 6).map .str) rfl ?_ (Nat.le_of_ble_eq_true rfl)
  (repeat' first|exact Jp|refine Yk (hp1:=hp) ?_ ?_)<;>first|exact A2 (by decide +kernel) rfl lt (by decide +kernel)|rfl
 have C:QD 2 (Qi Zf (Qb 2) (Ja (Qc (Qi Q1 (Qi Q1 (Qi Q1 (eC (.str "put ")) (Qb 1)) (eC (.str " "))) (Qb 3)) (Qc (Qi Q1 (Qi Q1 (Qi Q1 (eC (.str "put ")) (Qb 1)) (eC (.str " -"))) (Qb 3)) (Qc (Qi Q1 (Qi Q1 (Qi Q1 (eC (.str "stretch ")) (Qb 1)) (eC (.str " "))) (Qb 3)) (Qk)))))) (e (V (R.take 40)) (.val (.str bM))) hp=some ((.nx,e (V R) (.val (.str bM))),hp):=by
  refine zF (ds:=(R.take 40).map .str) (es:=(R.drop 40).map .str) rfl ?_ (Nat.le_of_ble_eq_true rfl)
  (repeat' first|exact Jp|refine Yk (hp1:=hp) ?_ ?_)<;>exact A3 (by decide +kernel) rfl lt (by decide +kernel) rfl lf
 refine QH (env:=e (V R) (.val (.str bM))) ((Qj G).trans ((Qj g1).trans ((Qj g2).trans ((Qj g3).trans ((Qj g4).trans ((Qj o).trans ((Qj q).trans ((Qj r).trans ((Qj v).trans ((Qj C).trans (QJ (Qn (Qe rfl) (Qn (Qe rfl) rfl (JU (Xh i 43 (by decide)) hp)) ?_))))))))))));have F:(R.map DV.str)[(i % 43).toNat]?=some (.str (R.getD (i % 43).toNat "")):=by rw[Bp,List.getD_eq_getElem?_getD,Af (by show(i % 43).toNat<43;lia)];rfl
 have a:=jO F;rw[Int.toNat_of_nonneg m]at a;show(match atI (R.map DV.str) (i % 43)with|some d=>pure d|none=>failure:M DV) hp=_;rw[a];rfl
end
section
variable{w hp:Hs}{b s r nd c a H n:Nat}{k:Int}{e e':ES}{L:Nat->Nat}{x t wd row:Str}
theorem Mm{i:Int}(K:SO x i):YA [.str x] hp=none:=by
 let E:En:=[.val (.str x),.val (.int i)]
 show(dM _ _ _ hp)=none;exact(zQ (YR (Zn (Qe rfl) rfl) rfl (BR (m:=3) K.N K.h1 K.h2))).trans ((ZQ (aA:=E) (Qv (QP (Zn (Qe rfl) rfl) rfl (pR (m:=3) K.N K.h1 K.h2 K.hi)))).trans ((yK (Q0 (Qn (Qe rfl) rfl (show some (DV.bl (decide (i<0)),hp)=some (.bl false,hp)by rw[Cj (by have:=K.ha;lia)])))).trans rfl))
theorem Qg4{f:aB}{g:bO}{env aA:En}{hp1:Hs}{v:DV}(h:f env hp=some ((.rt v,aA),hp1)):Xu f g env hp=none:=by unfold Xu;rw[J0 h]
theorem Ho{i:Int}(R:RW row wd [x])(h1:T1.lookup wd≠some ((1:Nat):Int))(h2:T2.lookup wd=some ((1:Nat):Int))(K:SO x i):Z3 [.str row] hp=none:=by
 let E:=E3 row wd [x]
 have m:=tE (hp:=hp) (row:=row) (wd:=wd) (ts:=[x]) (T:=T1) (c:=1) h1 rfl;have o:=tu (hp:=hp) (row:=row) (wd:=wd) (ts:=[x]) (T:=T2) (c:=1) h2 rfl;have u:Yz E hp=some (.lst [.int i],hp):=by
  unfold Yz X0;rw[Ql (rfl:jf (Qb 3) E hp=some ([.str x],hp)),Ql (rfl:Qy (X3 (List.map DV.str [x])) hp=some ((),hp))];have q:=qO (hp:=hp) (f:=λd=>QB 1 Jf (Qc (Qb 0) (Qk)) (cE [] E d)) (λp:Str=>DV.str p) (λ_=>DV.int i) [x] λp j=>by rw[Au.mp j];exact QP (QK (Qe rfl)) rfl (Dd K)
  exact(Ql q).trans rfl
 have rt:aJ (eB (Qi cG (zP T2 (Qb 2)) (QL XX (Qc (Qb 3) (Qk))))) (QR (Qi Zf (ZD (Qc (Qb 2) (Qk))) (QL kn (Qc (Yz) (Qk))))) (Q7) E hp=some ((.rt (.tup [.str wd,.int i]),E),hp):=(J8 o).trans (QJ (Qn (Xw (QK (Qe rfl)) (by simp)) (Zr (QK u) rfl) rfl));show(Xu _ _ _ hp)=none;refine(ZQ (oH R)).trans ((B_ R).trans ((zQ ((yK m).trans rfl)).trans ((ZQ (aA:=E) (Xe m)).trans ((zQ ((js o).trans ?_)).trans ?_))))
 ·show yM _ (xE (jf (Qb 3)) [] (QB 1 Jf (Qc (Qb 0) (Qk))) (YQ 1 YA (Qc (Qb 0) (Qk)))) E hp=_;unfold yM xE;rw[J0 (Xw (QK (Qe rfl)) (by simp)),J0 (rfl:jf (Qb 3) E hp=some ([.str x],hp)),show X3 (List.map DV.str [x])=true from rfl,Cf rfl];exact gy [.str x] λd hd=>by rw[Au.mp hd];exact⟨YR (QK (Qe rfl)) rfl (Mm K),_,QP (QK (Qe rfl)) rfl (Dd K)⟩
 ·exact Qg4 rt
theorem Cp{told:DV}{g:bO}{q:Str×Hs}(d:Z3 [.str row] w=none)(h1:Zm [.str row] w=some (told,w))(i:aF told (.int 0) w=some (.str wd,w))(hd:Jo [told] w=some (.bl false,w))
  (hg:g [.val (.ref b),.val (.str row),.val told,.val (.str wd)] w=some q):dM (YQ 1 Z3 (Qc (Qb 1) (Qk))) (Xu (QD 2 (QB 1 Zm (Qc (Qb 1) (Qk)))) (Xu (QD 3 (Qi aF (Qb 2) (eC (.int 0)))) (Xu (aJ (eB (QB 1 Jo (Qc (Qb 2) (Qk)))) (QR (QL JY (Qc (QM "Desk" "note_deed" 2 Q8 (Qb 0) (Qc (Qb 2) (Qk))) (Qk)))) (Q7)) g))) [.val (.ref b),.val (.str row),.un,.un] w=some q :=
 (zQ (YR (QK (Qe rfl)) rfl d)).trans ((ZQ (aA:=[.val (.ref b),.val (.str row),.val told,.un]) (Qv (QP (QK (Qe rfl)) rfl h1))).trans ((ZQ (aA:=[.val (.ref b),.val (.str row),.val told,.val (.str wd)]) (Qv (Qn (Qe rfl) rfl i))).trans ((ZQ (Xe (Q0 (QP (QK (Qe rfl)) rfl hd)))).trans hg)))
def S0(h:Z3 [.str row] w=NR w):Zq [.ref b,.str row] w=NR w:=JW (n:=4) (ds:=[.ref b,.str row]) (Kt (yJ (QK (Qe rfl)) rfl h))
theorem Pq(Q:TQ n t):RW ("move " ++ t) "move" [t]:=W1 (wd := "move") (ts:=[t]) (by kernel_rfl) (by decide +kernel) (by decide +kernel) (Bj Q.l (by decide)) (fc (by decide +kernel) (fc Q.f fn)) (Nat.le_of_ble_eq_true rfl)
theorem vE(Q:TQ n t):RW ("answer " ++ t) "answer" [t]:=W1 (wd := "answer") (ts:=[t]) (by kernel_rfl) (by decide +kernel) (by decide +kernel) (Bj Q.l (by decide)) (fc (by decide +kernel) (fc Q.f fn)) (Nat.le_of_ble_eq_true rfl)
theorem Qhj(R:Rs w b s r k nd e L)(Q:TQ n t)(hn:e.hs.length<=n):Zq [.ref b,.str ("move " ++ t)] w=some (("NoHand" : Str),w):=by
 let T:DV:=.tup [.str "move", .int n]
 let E:En:=[.val (.ref b),.val (.str ("move " ++ t)),.val T,.val (.str "move")]
 have d:Ye [.ref (b+3),.int n] w=some (("NoHand" : Str),w):=by refine JW (n:=2) (ds:=[.ref (b+3),.int n]) ((js ((J_ R.wv R.hd).trans ?_)).trans rfl);rw[Bm,Cj (p:=(n:Int)<(e.hs.length:Int)) ⋯];simp
 refine JW (n:=4) (ds:=[.ref b,.str ("move " ++ t)]) (Cp (wd := "move") (told:=T) (Ho (Pq Q) (by decide +kernel) (by decide +kernel) Q.s) (HD (Pq Q) (by decide +kernel) (by decide +kernel) Q.s) (Ze (i:=0) rfl w) (by kernel_rfl) (Kt ((js (Q0 (Qn (Qe rfl) rfl (pD (b:=true) (by decide +kernel) (by decide +kernel) (by decide +kernel) w)))).trans ?_)));show dX (eC (.str " ") E) (λx=>dX (Xf "str" x) λ_=>X1 "Weaver" "move" 2 Ye (QT "Desk" "weaver" (Qb 0)) (Qc (Qi aF (Qb 2) (eC (.int 1))) (Qk)) E) w=_;rw[J0 (rfl:eC (.str " ") E w=some (.str " ", w)),J0 (rfl:Xf "str" (.str " ") w=some ((),w))];exact yL (QV (Qe rfl) R.dk (X8 ..)) R.wv (Lb ..) (QK (Qn (x:=T) (Qe rfl) rfl (Ze (i:=1) rfl w))) rfl d
def Kv{E:En}{x y:Str}{f:aB}{g:bO}(h:E[3]?=some (.val (.str x)))(hx:x∈iM)(d:y∈iM)(hn:(x==y)=false):Xu (aJ (eB (Qi bK (Qb 3) (eC (.str y)))) f Q7) g E w=g E w:=ZQ (skip h hx d hn)
def Cu{E:En}{x y:Str}{f g:bO}(h:E[3]?=some (.val (.str x)))(hx:x∈iM)(d:y∈iM)(hn:(x==y)=false):dM (dY (eB (Qi bK (Qb 3) (eC (.str y)))) f fK) g E w=g E w:=zQ ((yK (Q0 (Qn (Qe h) rfl (pD hx d hn w)))).trans rfl)
theorem Qhi(R:Rs w b s r k nd e L)(Q:TQ n t)(hn:nd<=n):Zq [.ref b,.str ("answer " ++ t)] w=some (("NoDeed" : Str),w):=by
 let T:DV:=.tup [.str "answer", .int n]
 let E:En:=[.val (.ref b),.val (.str ("answer " ++ t)),.val T,.val (.str "answer")]
 have d:X6 [.ref b,.int n] w=some (("NoDeed" : Str),w):=JW (n:=2) (ds:=[.ref b,.int n]) ((js (Q0 (Qn (Qe rfl) (QV (Qe rfl) R.dk (kP ..)) (show some (DV.bl (decide ((n:Int)≥(nd:Int))),w)=some (.bl true,w)by rw[Ch ⋯])))).trans rfl);refine JW (n:=4) (ds:=[.ref b,.str ("answer " ++ t)]) (Cp (wd := "answer") (told:=T) (Ho (vE Q) (by decide +kernel) (by decide +kernel) Q.s) (HD (vE Q) (by decide +kernel) (by decide +kernel) Q.s) (Ze (i:=0) rfl w) (by kernel_rfl) ?_);refine(Cu rfl (by decide +kernel) (by decide +kernel) (by decide +kernel)).trans ((Kv rfl (by decide +kernel) (by decide +kernel) (by decide +kernel)).trans ((Kv rfl (by decide +kernel) (by decide +kernel) (by decide +kernel)).trans (Kt ((js (Q0 (Qn (Qe rfl) rfl (pD (b:=true) (by decide +kernel) (by decide +kernel) (by decide +kernel) w)))).trans ?_))));exact yL (Qe rfl) R.dk (IV ..) (QK (Qn (x:=T) (Qe rfl) rfl (Ze (i:=1) rfl w))) rfl d
theorem Qhk(R:Rs w b s r k nd e L)(j:e.hs.length<=8)(m:e.tk≠nd):Zq [.ref b,.str "pack"] w=some (("Busy" : Str),w):=by
 let T:DV:=.tup [.str "pack"]
 let E:En:=[.val (.ref b),.val (.str "pack"),.val T,.val (.str "pack")]
 have d:XG [.ref b] w=some (("Busy" : Str),w):=JW (n:=1) (ds:=[.ref b]) ((js (Z5 (b:=false) (Q0 ((QY (QV (Qe rfl) R.dk (X8 ..)) R.wv (CT ..) Jp rfl (Ip R j)).trans (by rw[Cj m]))))).trans rfl);refine JW (n:=4) (ds:=[.ref b,.str "pack"]) (Cp (wd := "pack") (told:=T) (by kernel_rfl) (by kernel_rfl) (Ze (i:=0) rfl w) (by kernel_rfl) ?_);refine(Cu rfl (by decide +kernel) (by decide +kernel) (by decide +kernel)).trans ((Kv rfl (by decide +kernel) (by decide +kernel) (by decide +kernel)).trans ((Kv rfl (by decide +kernel) (by decide +kernel) (by decide +kernel)).trans ((Cu rfl (by decide +kernel) (by decide +kernel) (by decide +kernel)).trans ((Kv rfl (by decide +kernel) (by decide +kernel) (by decide +kernel)).trans ((Kv rfl (by decide +kernel) (by decide +kernel) (by decide +kernel)).trans ((Kv rfl (by decide +kernel) (by decide +kernel) (by decide +kernel)).trans ?_))))));exact yL (Qe rfl) R.dk (IK ..) Jp rfl d
end
theorem Dh{f g:aB}{env:En}{hp:Hs}{r:(Fl×En)×Hs}(h:f env hp=some r):h_ f g env hp=some r:=by unfold h_;rw[h]
theorem vY{f g:aB}{env:En}{hp:Hs}(h:f env hp=none):h_ f g env hp=g env hp:=by unfold h_;rw[h]
theorem sU{g:bO}{c:Str}{a d e j:Bool}{i r o:Nat}{env:En}{hp hp1:Hs}(h:g env hp=some (c,hp1))(hi:i<env.length):qX g c a d e j i r o env hp=some ((.nx,(((env.set i .un).set r (.val (.lst [.bl a,.bl d,.bl e,.bl j]))).set o (.val (.bl true))).set i .un),hp1):=by unfold qX;rw[h];show(if c=c/\i<env.length then _ else _)=_;rw[Cf ⟨rfl,hi⟩]
theorem n8{g:bO}{c d:Str}{a e j m:Bool}{i r o:Nat}{env:En}{hp hp1:Hs}(h:g env hp=some (d,hp1))(hn:d≠c):qX g c a e j m i r o env hp=none:=by unfold qX;rw[h];show(if d=c/\i<env.length then _ else _)=_;rw[Ce (λz=>hn z.1)]
section
variable{w hp:Hs}{b s r nd c a H n:Nat}{k:Int}{e e':ES}{L:Nat->Nat}{x t wd row due:Str}
theorem j7(R:Rs w b s r k nd e L)(u:Zq [.ref b,.str row] w=some (due,w))(hd:due = "NoRow" ∨ due = "NoHand" ∨ due = "NoDeed" ∨ due = "Busy"):JN [.ref b,.str row,.str due] w=some (.bl true,w):=by
 let E:Sl->Sl->En:=λx y=>[.val (.ref b),.val (.str row),.val (.str due),x,y,.un]
 let q:En:=E (.val (.lst [])) (.val (.bl false))
 have g:X1 "Desk" "say" 2 Zq (Qb 0) (Qc (Qb 1) (Qk)) q w=some (due,w):=yL (Qe rfl) R.dk (zO ..) (QK (Qe rfl)) rfl u;have d:∀(i j m o:Bool),(QR (XZ (Qb 4) (Qi bK (Qb 3) (Ja (Qc (Qi bK (Qb 2) (eC (.str "NoRow"))) (Qc (Qi bK (Qb 2) (eC (.str "NoHand"))) (Qc (Qi bK (Qb 2) (eC (.str "NoDeed"))) (Qc (Qi bK (Qb 2) (eC (.str "Busy"))) (Qk)))))))) (E (.val (.lst [.bl i,.bl j,.bl m,.bl o])) (.val (.bl true))) w=some ((.rt (.bl true),E (.val (.lst [.bl i,.bl j,.bl m,.bl o])) (.val (.bl true))),w))->(h_ (qX (X1 "Desk" "say" 2 Zq (Qb 0) (Qc (Qb 1) (Qk))) "NoRow" true false false false 5 3 4) (h_ (qX (X1 "Desk" "say" 2 Zq (Qb 0) (Qc (Qb 1) (Qk))) "NoHand" false true false false 5 3 4) (h_ (qX (X1 "Desk" "say" 2 Zq (Qb 0) (Qc (Qb 1) (Qk))) "NoDeed" false false true false 5 3 4) (qX (X1 "Desk" "say" 2 Zq (Qb 0) (Qc (Qb 1) (Qk))) "Busy" false false false true 5 3 4)))) q w=some ((.nx,E (.val (.lst [.bl i,.bl j,.bl m,.bl o])) (.val (.bl true))),w)->JN [.ref b,.str row,.str due] w=some (.bl true,w):=λi j m o h2 h1 =>
  QH (env:=E (.val (.lst [.bl i,.bl j,.bl m,.bl o])) (.val (.bl true))) ((Qj (aA:=E (.val (.lst [])) .un) (hp1:=w) rfl).trans ((Qj (aA:=q) (hp1:=w) rfl).trans ((Qj h1).trans h2)))
 rcases hd with rfl|rfl|rfl|rfl
 ·exact d true false false false (by kernel_rfl) (Dh (sU g (Nat.le_of_ble_eq_true rfl)))
 ·exact d false true false false (by kernel_rfl) ((vY (n8 g (by decide +kernel))).trans (Dh (sU g (Nat.le_of_ble_eq_true rfl))))
 ·exact d false false true false (by kernel_rfl) ((vY (n8 g (by decide +kernel))).trans ((vY (n8 g (by decide +kernel))).trans (Dh (sU g (Nat.le_of_ble_eq_true rfl)))))
 ·exact d false false false true (by kernel_rfl) ((vY (n8 g (by decide +kernel))).trans ((vY (n8 g (by decide +kernel))).trans ((vY (n8 g (by decide +kernel))).trans (sU g (Nat.le_of_ble_eq_true rfl)))))
theorem KU{f:aD}{E:En}{d:Str}(hf:f E hp=some (.int (n:Int),hp))(h1:n<1000)(i:d.length<=100):Qi Q1 (eC (.str d)) (QL JY (Qc f (Qk))) E hp=some (.str (d++txt n),hp) :=
 Qn rfl (Zr (QK hf) (yo (Ya ⋯))) (jN ⋯ (Bj (TQ.of h1).l (by decide)))
theorem Qi0(R:Rs w b s r k nd e L)(P:e.hs.length=H)(O:H<=8)(G:e.tk≠nd)(hn:nd=3)(i:Int):∃row due,x4 [.int i,.int H] w=some (.tup [.str row,.str due],w)/\JN [.ref b,.str row,.str due] w=some (.bl true,w):=by
  let E:En:=[.val (.int i),.val (.int H)]
  have q:Qi Xg (Qb 0) (eC (.int 4)) E w=some (.int (i % 4),w):=Qn (Qe rfl) rfl (JU (Xh i 4 (by decide)) w);have m:Qi Y5 (Qb 0) (eC (.int 4)) E w=some (.int (i / 4),w):=Qn (Qe rfl) rfl (JU (qP i 4 (by decide) (by decide)) w);have c1:eB (Qi cD (Qi Xg (Qb 0) (eC (.int 4))) (eC (.int 2))) E w=some (decide (i % 4<2),w):=Q0 (Qn q rfl rfl);have c2:eB (Qi cG (Qi Xg (Qb 0) (eC (.int 4))) (eC (.int 2))) E w=some (i % 4==2,w):=Q0 (Qn q rfl (JU (Jh _ _) w));have j:eB (Qi cG (Qi Xg (Qi Y5 (Qb 0) (eC (.int 4))) (eC (.int 3))) (eC (.int 0))) E w=some (i / 4 % 3==0,w):=Q0 (Qn (Qn m rfl (JU (Xh (i / 4) 3 (by decide)) w)) rfl (JU (Jh _ _) w));cases v:decide (i % 4<2)with
  |true =>rw[v]at c1;obtain⟨n,x,J,I,hx,ex⟩:=MV (hp:=w) (i / 4);refine⟨x, "NoRow", QH (env:=E) (ZP ((J8 c1).trans (QJ (Xw (Zn (QP (QK m) rfl ex) rfl) (by simp))))),j7 R (S0 (WR (TQ.of J) I x hx)) (.inl rfl)⟩
  |false =>
    rw[v]at c1;cases y:i % 4==2 with
    |true =>
      rw[y]at c2;have u:(0:Int)<1000-(H:Int):=⋯
      have C:=Int.emod_nonneg (i / 4) (show(1000-(H:Int))≠0 by lia);have F:=Int.emod_lt_of_pos (i / 4) u;obtain⟨n,d⟩:∃n:Nat,(n:Int)=(H:Int)+i / 4 % (1000-(H:Int)):=⟨((H:Int)+i / 4 % (1000-(H:Int))).toNat,⋯⟩;have o:Qi Zf (Qb 1) (Qi Xg (Qi Y5 (Qb 0) (eC (.int 4))) (Qi VU (eC (.int 1000)) (Qb 1))) E w=some (.int (n:Int),w):=by rw[d];exact Qn (Qe rfl) (Qn m (Qn rfl (Qe rfl) rfl) (JU (Xh (i / 4) (1000-(H:Int)) u) w)) rfl
      exact⟨"move " ++ txt n, "NoHand", QH (env:=E) ((Qj (Xe c1)).trans (ZP ((J8 c2).trans (QJ (Xw (Zn (KU o ⋯ (by decide +kernel)) rfl) (by simp)))))),j7 R (Qhj R (TQ.of ⋯) ⋯) (.inr (.inl rfl))⟩
    |false =>
      rw[y]at c2;cases z:i / 4 % 3==0 with
      |true =>rw[z]at j;exact⟨"pack", "Busy", QH (env:=E) ((Qj (Xe c1)).trans ((Qj (Xe c2)).trans (ZP ((J8 j).trans (QJ rfl))))),j7 R (Qhk R ⋯ G) (.inr (.inr (.inr rfl)))⟩
      |false =>
        rw[z]at j;have C:=Int.emod_nonneg (i / 12) (show(997:Int)≠0 by decide);have F:=Int.emod_lt_of_pos (i / 12) (show(0:Int)<997 by decide);obtain⟨n,d⟩:∃n:Nat,(n:Int)=3+i / 12 % 997:=⟨(3+i / 12 % 997).toNat,⋯⟩;have o:Qi Zf (eC (.int 3)) (Qi Xg (Qi Y5 (Qb 0) (eC (.int 12))) (eC (.int 997))) E w=some (.int (n:Int),w):=by rw[d];exact Qn rfl (Qn (Qn (Qe rfl) rfl (JU (qP i 12 (by decide) (by decide)) w)) rfl (JU (Xh (i / 12) 997 (by decide)) w)) rfl
        exact⟨"answer " ++ txt n, "NoDeed", QH (env:=E) ((Qj (Xe c1)).trans ((Qj (Xe c2)).trans ((Qj (Xe j)).trans (QJ (Xw (Zn (KU o ⋯ (by decide +kernel)) rfl) (by simp)))))),j7 R (Qhi R (TQ.of ⋯) ⋯) (.inr (.inr (.inl rfl)))⟩
end
theorem Y_:KO "7" 7:=KO.of (by decide +kernel)
theorem DB:KO "-8" (-8):=KO.of (by decide +kernel)
section
variable{w hp:Hs}{b s r nd c a H n:Nat}{k:Int}{e e':ES}{L:Nat->Nat}{x t wd row due:Str}
theorem Mj{n m:Nat}{y:Str}{v:Int}(hn:n<1000)(i:KO y v)(d:32∉cl y)(j:y.length<=50):Zm [.str (("put " : Str)++txt n++(blank++y))] hp=some (.tup [.str "put", .int n,.int v],hp):=by
 have Q:=TQ.of hn;have R:RW (("put " : Str)++txt n++(blank++y)) "put" [txt n,y]:=W2 (wd := "put") (ts:=[txt n,y]) (by rw[ZV];kernel_rfl) (by decide +kernel) (by decide +kernel) (Bj Q.l (by decide)) (by rw[Str.length_append];have:blank.length=1:=rfl;lia) (fc (by decide +kernel) (fc Q.f (fc d fn))) (Nat.le_of_ble_eq_true rfl);refine HF R (by show T1.lookup ("put" : Str)=some ((2:Nat):Int);decide +kernel) ?_;exact Li (ts:=[(txt n,n),(y,v)]) (λp hp=>by
  rcases Bk.mp hp with rfl|hp
  ·exact Q.k
  ·rw[Au.mp hp];exact i) (Nat.le_of_ble_eq_true rfl) YG (by decide +kernel)
theorem Qg0{n:Nat}(hn:n<1000):Zm [.str (("find " : Str)++txt n)] hp=some (.tup [.str "find", .int n],hp):=by have Q:=TQ.of hn;have R:RW (("find " : Str)++txt n) "find" [txt n]:=W1 (wd := "find") (ts:=[txt n]) (by kernel_rfl) (by decide +kernel) (by decide +kernel) (Bj Q.l (by decide)) (fc (by decide +kernel) (fc Q.f fn)) (Nat.le_of_ble_eq_true rfl);refine HF R (by show T1.lookup ("find" : Str)=some ((1:Nat):Int);decide +kernel) ?_;exact Li (ts:=[(txt n,n)]) (kt Q.k) (Nat.le_of_ble_eq_true rfl) zf (by decide +kernel)
theorem Qia{s:Nat}(z:H<=8):Jd [.ref hp.length,.ref s,.int H] (hp++[.ins "Weaver" []])=some (.non,hp++[.ins "Weaver" [("shelf", .ref s),("deeds", .ref (hp.length+1)),("taken", .int 0),("held", .ref (hp.length+2)),("done", .ref (hp.length+3))],.lst [],.lst (List.replicate H .non),.lst []]):=by
 let E:En:=[.val (.ref hp.length),.val (.ref s),.val (.int H)]
 let n:=hp.length
 let w:List (Str×DV)->Hs->Hs:=λfs t=>hp++.ins "Weaver" fs::t
 have st:∀(nm:Str) (e:aD) (v:DV) (fs:List (Str×DV)) (t t':Hs),e E (w fs t)=some (v,w fs t')->fs.length<1000->Q9 "Weaver" nm (Qb 0) e E (w fs t)=some ((.nx,E),w (Ju nm v fs) t'):=λnm e v fs t t' m q=>by rw[Jy m (Qe rfl) J7 q,xZ]
 have i:∀(fs:List (Str×DV))(t:Hs)(o:OV),JZ o (w fs t)=some (.ref (n+(t.length+1)),w fs (t++[o])):=λfs t o=>by show some (DV.ref (hp++_::t).length,(hp++_::t)++[o])=_;simp[w,n]
 have j:∀(fs:List (Str×DV))(t:Hs),Z8 Qk E (w fs t)=some (.ref (n+(t.length+1)),w fs (t++[.lst []])):=λfs t=>i fs t (.lst [])
 let d:List (Str×DV):=[("shelf", .ref s),("deeds", .ref (n+1)),("taken", .int 0)]
 have u:Qi pK (Ja (Qc (eC .non) (Qk))) (Qb 2) E (w d [.lst []])=some (.ref (n+2),w d [.lst [],.lst (List.replicate H .non)]):=by refine Qn (x:=.lst [.non]) (y:=.int H) rfl (Qe rfl) ?_;unfold pK;show(Qy (decide (0<=(H:Int)/\(H:Int).toNat<=100000)) >>= λ_=>JZ (.lst (List.replicate (H:Int).toNat .non)):M DV) _=_;rw[Ch ⟨⋯,⋯⟩,Ql (rfl:Qy true (w d [.lst []])=some ((),w d [.lst []]))];exact i d [.lst []] _
 refine US (env:=E) ?_;refine(Qj (st "shelf" _ (.ref s) [] [] [] (Qe rfl) (by decide))).trans ?_;refine(Qj (st "deeds" _ (.ref (n+1)) [("shelf", .ref s)] [] [.lst []] (j _ []) (Nat.le_of_ble_eq_true rfl))).trans ?_;refine(Qj (st "taken" _ (.int 0) [("shelf", .ref s),("deeds", .ref (n+1))] [.lst []] [.lst []] rfl (Nat.le_of_ble_eq_true rfl))).trans ?_;refine(Qj (st "held" _ (.ref (n+2)) d [.lst []] [.lst [],.lst (List.replicate H .non)] u (Nat.le_of_ble_eq_true rfl))).trans ?_;exact st "done" _ (.ref (n+3)) [("shelf", .ref s),("deeds", .ref (n+1)),("taken", .int 0),("held", .ref (n+2))] [.lst [],.lst (List.replicate H .non)] [.lst [],.lst (List.replicate H .non),.lst []] (j _ [.lst [],.lst (List.replicate H .non)]) (Nat.le_of_ble_eq_true rfl)
theorem Qi4(P:H<=8){E:En}{fa:aW}(ha:fa E w=some ([.int r,.int H],w)):∃q,Js "Desk" 3 Xl fa E w=some (.ref w.length,q)/\Rs q w.length (w.length+1) r k 0 ⟨0,0,List.replicate H none,[]⟩ (λ_=>0)/\w.length<q.length/\∀x,x<w.length->q[x]?=w[x]?:=by
 let b:=w.length
 let D:List (Str×DV)->OV:=λfs=>.ins "Desk" fs
 let Sh:OV:=.ins "Shelf" (aO r (b+2) 0 0 0)
 let W:OV:=.ins "Weaver" (bV (b+1) b 0)
 let i:Hs:=w++[D []]
 let G:List (Str×DV):=[("shelf", .ref (b+1))]
 let O:List (Str×DV):=[("shelf", .ref (b+1)),("weaver", .ref (b+3))]
 let d:Hs:=w++[D G,Sh,.lst [emp]]
 let J:Hs:=w++[D O,Sh,.lst [emp],W,.lst [],.lst (List.replicate H .non),.lst []]
 let u:Hs:=w++[D (eE (b+1) (b+3) 0),Sh,.lst [emp],W,.lst [],.lst (List.replicate H .non),.lst []]
 let F:En:=[.val (.ref b),.val (.int r),.val (.int H)]
 have R:i.length=b+1:=by simp[i,b]
 have S:d.length=b+3:=by simp[d,b]
 have T:Q9 "Desk" "shelf" (Qb 0) (Js "Shelf" 2 ZI (Qc (Qb 1) (Qk))) F i=some ((.nx,F),d):=by have I:=RB (r:=r) (hp:=i) (hp0:=i) (env:=F) (fa:=Qc (Qb 1) (Qk)) (QK (Qe rfl));rw[R]at I;refine(Jy I (Qe rfl) (fs:=[]) (Yv J7) (by decide)).trans ?_;show some (_,((w++[_])++[_,_]).set w.length _)=_;rw[A0];show some (_,(w++_::_).set w.length _)=_;rw[xZ];rfl
 have Y:Js "Weaver" 3 Jd (Qc (QT "Desk" "shelf" (Qb 0)) (Qc (Qb 2) (Qk))) F d=some (.ref (b+3),w++[D G,Sh,.lst [emp],W,.lst [],.lst (List.replicate H .non),.lst []]):=by unfold Js;rw[Ql (Zn (QV (Qe rfl) J7 rfl) (Qe rfl))];have z:Qy (decide ([DV.ref (b+1),DV.int (H:Int)].length+1=3)) d=some ((),d):=rfl;have y:JZ (.ins "Weaver" []) d=some (.ref d.length,d++[.ins "Weaver" []]):=rfl;rw[Ql z,Ql y,Ql (Qia (hp:=d) (s:=b+1) P),S];show some (DV.ref (b+3),(w++[_,_,_])++_)=_;rw[A0];rfl
 have U:Q9 "Desk" "weaver" (Qb 0) (Js "Weaver" 3 Jd (Qc (QT "Desk" "shelf" (Qb 0)) (Qc (Qb 2) (Qk)))) F d=some ((.nx,F),J):=by refine(Jy Y (Qe rfl) J7 (Nat.le_of_ble_eq_true rfl)).trans ?_;rw[xZ];rfl
 have X:Q9 "Desk" "deed_count" (Qb 0) (eC (.int 0)) F J=some ((.nx,F),u):=by refine(Jy (v:=.int 0) rfl (Qe rfl) J7 (Nat.le_of_ble_eq_true rfl)).trans ?_;rw[xZ];rfl
 have hm:(List.replicate H none:List (Option Nat)).map (hD λ_=>0)=List.replicate H .non:=by rw[List.map_replicate];rfl
 refine⟨u,?_,⟨J7,⟨0,0,XJ (j:=1) rfl⟩,XJ (j:=2) rfl,XJ (j:=3) rfl,XJ (j:=4) rfl,by show _=some (OV.lst (List.map _ (List.replicate H none)));rw[hm];exact XJ (j:=5) rfl,XJ (j:=6) rfl,λn hn=>(by cases hn),λn hn=>(by cases hn),λn m _ h=>absurd h (Nat.not_lt_zero _),λn h=>absurd h (Nat.not_lt_zero _),λo Q=>List.eq_of_mem_replicate Q,Ai _⟩,by simp[u],λx hx=>Aj hx⟩;unfold Js;rw[Ql ha];have z:Qy (decide ([DV.int (r:Int),DV.int (H:Int)].length+1=3)) w=some ((),w):=rfl;have y:JZ (.ins "Desk" []) w=some (.ref w.length,i):=rfl;have C:Xl [.ref b,.int r,.int H] i=some (.non,u):=US (env:=F) ((Qj T).trans ((Qj U).trans X));rw[Ql z,Ql y,Ql C];rfl
end
def eA(H:Nat):ES:=⟨2,2,List.replicate H none,[0,1]⟩
def mJ(H:Nat):ES:=⟨2,3,List.replicate H none,[0,1,2]⟩
theorem Me{H:Nat}(h1:1<=H)(a:H<=8):∃c,kW 2 H 60 0 ⟨0,0,List.replicate H none,[]⟩=some (eA H,c)/\c<100:=by
 obtain rfl|rfl|rfl|rfl|rfl|rfl|rfl|rfl:H=1∨H=2∨H=3∨H=4∨H=5∨H=6∨H=7∨H=8:=⋯
 all_goals exact⟨_,rfl,by decide⟩
theorem Md{H:Nat}(h1:1<=H)(a:H<=8):∃c,kW 3 H 60 0 (eA H)=some (mJ H,c)/\c<100:=by
 obtain rfl|rfl|rfl|rfl|rfl|rfl|rfl|rfl:H=1∨H=2∨H=3∨H=4∨H=5∨H=6∨H=7∨H=8:=⋯
 all_goals exact⟨_,rfl,by decide⟩
section
variable{w hp:Hs}{b s r nd c a H n:Nat}{k:Int}{e e':ES}{L:Nat->Nat}{x t wd row due:Str}
theorem PN(r2:2<=r)(h1:1<=H)(q:H<=8)(i:Int)(hn:(n:Int)=i % 100):∃v L,Jr [.int r,.int H,.int i] w=some (.ref w.length,v)/\Rs v w.length (w.length+1) r n 3 (eA H) L/\∀x,x<w.length->v[x]?=w[x]?:=by
 have b0:0<=i % 100:=Int.emod_nonneg _ (by decide);have b1:i % 100<100:=Int.emod_lt_of_pos _ (by decide)
 let b:=w.length
 let E:Sl->En:=λz=>[.val (.int r),.val (.int H),.val (.int i),z]
 let F:En:=E (.val (.ref b))
 obtain⟨J,Z,C,l1,Q⟩:=Qi4 (w:=w) (k:=(n:Int)) (r:=r) q (E:=E .un) (fa:=Qc (Qb 0) (Qc (Qb 1) (Qk))) (Zn (Qe rfl) (Qe rfl));have u:∀w:Hs,Qi Xg (Qb 2) (eC (.int 100)) F w=some (.int (n:Int),w):=λw=>by rw[hn];exact Qn (Qe rfl) rfl (JU (Xh i 100 (by decide)) w)
 have I:∀m:Nat,m<1000->(("put " : Str)++txt m).length<=400:=λm hm=>by have:=(TQ.of hm).l;rw[Str.length_append,show("put " : Str).length=4 from by decide +kernel];lia
 obtain⟨d,e2,R2,l2,R⟩:=Gm (row:=("put " : Str)++txt n++(" 7" : Str)) C (by decide) (by rw[show(" 7" : Str)=blank++("7" : Str)by decide +kernel];exact Mj (n:=n) (m:=0) ⋯ Y_ (by decide +kernel) (by decide +kernel))
 have t2:Zd (QM "Desk" "say" 2 Q2 (Qb 3) (Qc (Qi Q1 (Qi Q1 (eC (.str "put ")) (QL JY (Qc (Qi Xg (Qb 2) (eC (.int 100))) (Qk)))) (eC (.str " 7"))) (Qk))) F J=some ((.nx,F),d) :=
  ZG (QY (Qe rfl) C.dk (zO ..) (QK (Qn (KU (u J) ⋯ (by decide +kernel)) rfl (jN (I n ⋯) (by decide +kernel)))) rfl e2)
 obtain⟨O,e3,R3,a6,S⟩:=Gm (row:=("put " : Str)++txt ((200+n:Nat):Int)++(" -8" : Str)) R2 (by decide) (by rw[show(" -8" : Str)=blank++("-8" : Str)by decide +kernel];have:=Mj (hp:=d) (n:=200+n) (m:=0) ⋯ DB (by decide +kernel) (by decide +kernel);rw[this];show some (DV.tup [_,.int ((200+n:Nat):Int),_],d)=some (DV.tup [_,.int (200+(n:Int)),_],d);rw[Int.natCast_add];rfl)
 have t3:Zd (QM "Desk" "say" 2 Q2 (Qb 3) (Qc (Qi Q1 (Qi Q1 (eC (.str "put ")) (QL JY (Qc (Qi Zf (eC (.int 200)) (Qi Xg (Qb 2) (eC (.int 100)))) (Qk)))) (eC (.str " -8"))) (Qk))) F d=some ((.nx,F),O):=by
  have ev:Qi Zf (eC (.int 200)) (Qi Xg (Qb 2) (eC (.int 100))) F d=some (.int ((200+n:Nat):Int),d):=by rw[Int.natCast_add];exact Qn rfl (u d) rfl
  exact ZG (QY (Qe rfl) R2.dk (zO ..) (QK (Qn (KU ev ⋯ (by decide +kernel)) rfl (jN (I (200+n) ⋯) (by decide +kernel)))) rfl e3)
 obtain⟨c,fc,hc⟩:=Me h1 q;obtain⟨y,X,e4,G,l4,T,_,_⟩:=gS R3 r2 (by decide) q (by simp) (Bh _) fc (λo j=>List.eq_of_mem_replicate j) ⋯;have t4:Zd (QM "Desk" "say" 2 Q2 (Qb 3) (Qc (eC (.str "finish")) (Qk))) F O=some ((.nx,F),y):=ZG (QY (Qe rfl) R3.dk (zO ..) (QK rfl) rfl e4);obtain⟨P,e5,Y,l5,U⟩:=Gm (row:=("find " : Str)++txt n) G (by decide) (Qg0 (n:=n) ⋯);have t5:Zd (QM "Desk" "say" 2 Q2 (Qb 3) (Qc (Qi Q1 (eC (.str "find ")) (QL JY (Qc (Qi Xg (Qb 2) (eC (.int 100))) (Qk)))) (Qk))) F y=some ((.nx,F),P):=ZG (QY (Qe rfl) G.dk (zO ..) (QK (KU (u y) ⋯ (by decide +kernel))) rfl e5);refine⟨P,X,QH (env:=F) ((Qj (aA:=F) (Qv Z)).trans ((Qj t2).trans ((Qj t3).trans ((Qj t4).trans ((Qj t5).trans (QJ (Qe rfl))))))),Y,λx hx=>?_⟩;have j:Out w.length x:=.inl hx;rw[U x j,T x ⋯ j,S x j,R x j,Q x hx]
end
theorem QgK(ns:List Int)(k:Nat)(c:ns.length<=63):∃x,JM [.lst (ns.map .int),.int k]=pure (.int x):=by
 by_cases h:k<ns.length
 ·have a:=jO (xs:=ns.map DV.int) (j:=k) (v:=.int ns[k]) (by simp[h]);refine⟨ns[k],?_⟩;have h':(k:Int)<(ns.length:Int):=⋯
  simp[JM,qD,Q3,Qr,QD,QR,jH,aJ,Q7,zJ,xi,y9,yg,Qi,Qb,eC,eB,c7,XC,cJ,Z2,XZ,yI,jr,b_,yb,Qk,Qc,ZD,Ja,QB,QL,Qy,gN,JG,J2,Xm,XO,XM,XL,J1,zV,jF,K2,Jh,XR,XX,bR,cO,a,h']
 ·have h':¬ (k:Int)<(ns.length:Int):=⋯
  exact⟨0,by simp[JM,qD,Q3,Qr,QD,QR,jH,aJ,Q7,zJ,xi,y9,yg,Qi,Qb,eC,eB,c7,XC,cJ,Z2,XZ,yI,jr,b_,yb,Qk,Qc,ZD,Ja,QB,QL,Qy,gN,JG,J2,Xm,XO,XM,XL,J1,zV,jF,K2,Jh,XR,XX,h']⟩
theorem JQ{nxt:NX}{bd:DV->aB}{env aA:En}{hp hp1:Hs}{d:DV}{m i:Nat}(a:nxt i hp=some (some d,hp))(c:bd d env hp=some ((.nx,aA),hp1)):Ut nxt bd (m+1) i env hp=Ut nxt bd m (i+1) aA hp1:=by show(nxt i >>= _) hp=_;rw[Ql a];show(bd d env >>= _) hp=_;rw[Ql c]
theorem kZ{nxt:NX}{bd:DV->aB}{env:En}{hp:Hs}{m i:Nat}(a:nxt i hp=some (none,hp)):Ut nxt bd (m+1) i env hp=some ((.nx,env),hp):=by show(nxt i >>= _) hp=_;rw[Ql a];rfl
theorem Ks{bd:DV->aB}{hp:Hs}(I:En->Prop)(ds:List DV)(c:∀d∈ds,∀env,I env->∃a,bd d env hp=some ((.nx,a),hp)/\I a):∀(m i:Nat)(env:En)(f:Nat),m+i=ds.length->m<f->I env->∃a,Ut (fH ds) bd f i env hp=some ((.nx,a),hp)/\I a
  |0,i,env,f,h,hf,hI=>by obtain⟨f,rfl⟩:∃g,f=g+1:=⟨f-1,⋯⟩;refine⟨env,kZ ?_,hI⟩;rw[D_ ds i ⋯ hp,List.getElem?_eq_none ⋯]
  |m+1,i,env,f,h,hf,hI=>by
    obtain⟨f,rfl⟩:∃g,f=g+1:=⟨f-1,⋯⟩;have hi:i<ds.length:=⋯
    obtain⟨aA,n,e⟩:=c ds[i] (List.getElem_mem hi) env hI;obtain⟨q,o,j⟩:=Ks I ds c m (i+1) aA f ⋯ ⋯ e;refine⟨q,(JQ ?_ n).trans o,j⟩;rw[D_ ds i ⋯ hp,Af hi]
section
variable{w w1 w2 hp:Hs}{b s r nd c a H n:Nat}{k:Int}{e e':ES}{L:Nat->Nat}{x t wd row due T:Str}
theorem neT(h:PyData.strOk T=true):eN (.str T) (.str T) hp=some (.bl false,hp):=by have q:=iH (b:=true) hp h h (by simp);unfold bK at q;unfold eN;obtain⟨z,hp1,d,i⟩:=Qg q;obtain⟨j,m⟩:=Qm i;subst m;cases j;rw[Ql d];rfl
theorem Cz{i:Nat}{E:En}{fs d:List (Str×DV)}(h4:E[4]?=some (.val (.ref b)))(h5:E[5]?=some (.val (.ref i)))(j:E[6]?=some (.val (.str row)))(d1:w[b]?=some (.ins "Desk" fs))(u:fs.lookup ("say" : Str)=none)(o:Q2 [.ref b,.str row] w=some (.str T,w1))(m:w1[i]?=some (.ins "Desk" d))(v:d.lookup ("say" : Str)=none)(q:Q2 [.ref i,.str row] w1=some (.str T,w2))(ok:PyData.strOk T=true):qp E w=some ((.nx,E),w2) :=
 Xe (Q0 (Qn (QY (Qe h4) d1 u (QK (Qe j)) rfl o) (QY (Qe h5) m v (QK (Qe j)) rfl q) (neT ok)))
theorem MG{i s':Nat}{j:Nat->Nat}{E:En}(P:∀{w:Hs}{b s:Nat}{L:Nat->Nat},Rs w b s r k nd e L->∃g,Q2 [.ref b,.str row] w=some (.str T,w++g))(d:Rs w b s r k nd e L)(R2:Rs w i s' r k nd e j)(ok:PyData.strOk T=true)(h4:E[4]?=some (.val (.ref b)))(h5:E[5]?=some (.val (.ref i)))(q:E[6]?=some (.val (.str row))):∃g,qp E w=some ((.nx,E),w++g):=by obtain⟨g1,m⟩:=P d;obtain⟨g2,o⟩:=P (R2.app g1);refine⟨g1++g2,(Cz h4 h5 q d.dk (zO ..) m (R2.app g1).dk (zO ..) o ok).trans ?_⟩;rw[A0]
def He{n:Nat}(h:n<1000):PyData.strOk (txt n)=true:=(TQ.of h).s.N.s
def HL:List DV:=[.str "table", .str "sound", .str "answer 0", .str "answer 1", .str "answer 2", .str "finish", .str "answer 2", .str "pack", .str "table"]
end
theorem Qfb(ns:List Int)(h:ns.length<=63):∃hp,kz [.lst (ns.map .int)] []=some (.bl true,hp):=by
 obtain⟨a,ec⟩:=QgK ns 0 h;have a0:0<=a % 8:=Int.emod_nonneg _ (by decide);have a1:a % 8<8:=Int.emod_lt_of_pos _ (by decide);have a2:0<=a / 8 % 4:=Int.emod_nonneg _ (by decide);have a3:a / 8 % 4<4:=Int.emod_lt_of_pos _ (by decide);have a4:0<=a / 32 % 100:=Int.emod_nonneg _ (by decide);have a5:a / 32 % 100<100:=Int.emod_lt_of_pos _ (by decide);obtain⟨H,hH⟩:∃H:Nat,(H:Int)=1+a % 8:=⟨(1+a % 8).toNat,⋯⟩;obtain⟨r,hr⟩:∃r:Nat,(r:Int)=2+a / 8 % 4:=⟨(2+a / 8 % 4).toNat,⋯⟩;obtain⟨n,hn⟩:∃n:Nat,(n:Int)=a / 32 % 100:=⟨(a / 32 % 100).toNat,⋯⟩;have h1:1<=H:=⋯
 have F:H<=8:=⋯
 have I:2<=r:=⋯
 have r5:r<=5:=⋯
 have S:∀x:ES,x=eA H∨x=mJ H->x.hs.length=H:=λx hx=>by rcases hx with rfl|rfl<;>simp[eA,mJ]
 let SC:DV:=.lst (ns.map .int)
 let E:Sl->Sl->Sl->Sl->Sl->Sl->Sl->En:=λy z u v p q o=>[.val SC,y,z,u,v,p,q,o]
 obtain⟨U,L1,e1,Z,_⟩:=PN (w:=[]) (n:=n) I h1 F (a / 32) hn
 let B:=U.length
 obtain⟨C,L2,e2,R2,F2⟩:=PN (w:=U) (n:=n) I h1 F (a / 32) hn;have O:0+6<B:=yN Z.dn;have ac:B+6<C.length:=yN R2.dn;have k1:∀m,m<2->L1 m<B:=λm hm=>by have:=(Z.lo m hm).2;lia
 have k2:∀m,m<2->B+6<L2 m:=λm hm=>(R2.lo m hm).1;have Hj:Rs C 0 1 r n 3 (eA H) L1:=Z.keep (c:=B) ⋯ (λx hx _=>F2 x hx) (.inl O) ⟨.inl (show 1<B by lia),.inl (show 2<B by lia)⟩ λm hm=>.inl (k1 m hm)
 let V:Sl->Sl->Sl->En:=λy q o=>E y (.val (.int H)) (.val (.int r)) (.val (.ref 0)) (.val (.ref B)) q o
 have s1:QD 1 (QB 2 JM (Qc (Qb 0) (Qc (eC (.int 0)) (Qk)))) (E .un .un .un .un .un .un .un) []=some ((.nx,E (.val (.int a)) .un .un .un .un .un .un),[]):=Qv (QP (Zn (Qe rfl) rfl) rfl (JU ec []));have s2:QD 2 (Qi Zf (eC (.int 1)) (Qi Xg (Qb 1) (eC (.int 8)))) (E (.val (.int a)) .un .un .un .un .un .un) []=some ((.nx,E (.val (.int a)) (.val (.int H)) .un .un .un .un .un),[]):=by rw[hH];exact Qv (Qn rfl (Qn (Qe rfl) rfl (JU (Xh a 8 (by decide)) [])) rfl)
 have s3:QD 3 (Qi Zf (eC (.int 2)) (Qi Xg (Qi Y5 (Qb 1) (eC (.int 8))) (eC (.int 4)))) (E (.val (.int a)) (.val (.int H)) .un .un .un .un .un) []=some ((.nx,E (.val (.int a)) (.val (.int H)) (.val (.int r)) .un .un .un .un),[]):=by rw[hr];exact Qv (Qn rfl (Qn (Qn (Qe rfl) rfl (JU (qP a 8 (by decide) (by decide)) [])) rfl (JU (Xh (a / 8) 4 (by decide)) [])) rfl)
 have bg:∀{x:Sl}{w j:Hs}{v:DV},Jr [.int r,.int H,.int (a / 32)] w=some (v,j)->QB 3 Jr (Qc (Qb 3) (Qc (Qb 2) (Qc (Qi Y5 (Qb 1) (eC (.int 32))) (Qk)))) (E (.val (.int a)) (.val (.int H)) (.val (.int r)) x .un .un .un) w=some (v,j):=λ{x w j v} h=>QP (xx (Qe rfl) (Qe rfl) (Qn (Qe rfl) rfl (JU (qP a 32 (by decide) (by decide)) w))) rfl h;have s4:QD 4 (QB 3 Jr (Qc (Qb 3) (Qc (Qb 2) (Qc (Qi Y5 (Qb 1) (eC (.int 32))) (Qk))))) (E (.val (.int a)) (.val (.int H)) (.val (.int r)) .un .un .un .un) []=some ((.nx,E (.val (.int a)) (.val (.int H)) (.val (.int r)) (.val (.ref 0)) .un .un .un),U):=Qv (bg e1);have s5:QD 5 (QB 3 Jr (Qc (Qb 3) (Qc (Qb 2) (Qc (Qi Y5 (Qb 1) (eC (.int 32))) (Qk))))) (E (.val (.int a)) (.val (.int H)) (.val (.int r)) (.val (.ref 0)) .un .un .un) U=some ((.nx,V (.val (.int a)) .un .un),C):=Qv (bg e2);obtain⟨ev,lp,y,q,o,rfl⟩:∃env,Q_ (V (.val (.int a)) .un .un) C=some ((.nx,env),C)/\∃y q o,env=V y q o:=by
  obtain⟨env,e3,I3⟩:=Ks (bd:=λd env=>do let env' <- gN 1 d env;Nv env') (hp:=C) (λenv=>∃y q o,env=V y q o) (ns.map .int) (λd hd env hI=>by obtain⟨y,q,o,rfl⟩:=hI;obtain⟨i,_,rfl⟩:=List.mem_map.mp hd;obtain⟨row,J,ec,er⟩:=Qi0 Hj (S _ (.inl rfl)) F (by show 2≠3;decide) rfl i;refine⟨V (.val (.int i)) (.val (.str row)) (.val (.str J)),V2 ((Qj (aA:=V (.val (.int i)) (.val (.str row)) (.val (.str J))) (hp1:=C) (gR (QP (Zn (Qe rfl) (Qe rfl)) rfl ec) rfl)).trans (Xe ((tK (Z5 (b:=true) (Q0 (QP (xx (Qe rfl) (Qe rfl) (Qe rfl)) rfl er)))).trans (Z5 (b:=true) (Q0 (QP (xx (Qe rfl) (Qe rfl) (Qe rfl)) rfl er)))))),_,_,_,rfl⟩) ns.length 0 (V (.val (.int a)) .un .un) 100000 (by simp) ⋯ ⟨_,_,_,rfl⟩
  exact⟨env,XW (hp1:=C) rfl e3,I3⟩
 let Q:Str->En:=λrow=>V y (.val (.str row)) o
 have Fo:PyData.strOk (tT n)=true:=by have z:=MN n ⋯;unfold tU at z;simp only[Bg]at z;exact z.2
 have G:∀{T:Str}{e:ES}{row:Str}{w:Hs}{s s':Nat}{L L':Nat->Nat},(∀{w:Hs}{b s:Nat}{L:Nat->Nat},Rs w b s r n 3 e L->∃g,Q2 [.ref b,.str row] w=some (.str T,w++g))->PyData.strOk T=true->Rs w 0 s r n 3 e L->Rs w B s' r n 3 e L'->∃j,qp (Q row) w=some ((.nx,Q row),j)/\Rs j 0 s r n 3 e L/\Rs j B s' r n 3 e L':=λ{T e row w s s' L L'} P ok R R'=>by obtain⟨g,eg⟩:=MG (E:=Q row) P R R' ok rfl rfl rfl;exact⟨_,eg,R.app g,R'.app g⟩
 have X:∀{m:Nat} {row:Str},m<3->(∀hp,Zm [.str row] hp=some (.tup [.str "answer", .int m],hp))->(m=0∨m=1∨m=2)->∀{w:Hs} {b s:Nat} {L:Nat->Nat},Rs w b s r n 3 (eA H) L->∃g,Q2 [.ref b,.str row] w=some (.str "-", w++g):=λ{m row} hm rd hc {w b s L} R=>by
  rcases hc with rfl|rfl|rfl
  all_goals exact Ol (v:=.non) (ps:=[(.inl 0,.non),(.inl 1,.non)]) R hm (by show 2<=10;decide) (rd _) rfl rfl λ_=>rfl
 have Hi:∀{w:Hs} {b s:Nat} {L:Nat->Nat},Rs w b s r n 3 (mJ H) L->∃g,Q2 [.ref b,.str "answer 2"] w=some (.str (txt 7),w++g):=λ{w b s L} R=>Ol (m:=2) (v:=.int 7) (ps:=[(.inl 0,.non),(.inl 1,.non),(.inl 2,.int 7)]) R (by decide) (by show 3<=10;decide) (by kernel_rfl) rfl rfl λ_=>by kernel_rfl
 obtain⟨w3,t3,A3,B3⟩:=G (row := "table") (T:=tT n) (λR=>Oi R rfl ⋯ ⋯) Fo Hj R2;obtain⟨w4,t4,A4,B4⟩:=G (row := "sound") (T := "yes") (λR=>QhV R rfl) (by decide +kernel) A3 B3;obtain⟨w5,t5,A5,B5⟩:=G (row := "answer 0") (T := "-") (X (m:=0) (by decide) (λ_=>by kernel_rfl) (.inl rfl)) (by decide +kernel) A4 B4;obtain⟨w6,t6,A6,B6⟩:=G (row := "answer 1") (T := "-") (X (m:=1) (by decide) (λ_=>by kernel_rfl) (.inr (.inl rfl))) (by decide +kernel) A5 B5;obtain⟨w7,t7,A7,B7⟩:=G (row := "answer 2") (T := "-") (X (m:=2) (by decide) (λ_=>by kernel_rfl) (.inr (.inr rfl))) (by decide +kernel) A6 B6;have ad:B+6<w7.length:=yN B7.dn;obtain⟨c,fc,hc⟩:=Md h1 F;obtain⟨w8,Y,e8,A8,l8,F8,K8,M8⟩:=gS A7 I (by decide) F (S _ (.inl rfl)) (by show 2<=10;decide) fc (λo ho=>List.eq_of_mem_replicate ho) ⋯;have B8:Rs w8 B (B+1) r n 3 (eA H) L2:=B7.keep (c:=0) ⋯ F8 (.inr O) ⟨.inr ⋯,.inr ⋯⟩ λm hm=>.inr (by have:=k2 m hm;lia);obtain⟨w9,L9,e9,B9,l9,F9,K9,M9⟩:=gS B8 I (by decide) F (S _ (.inl rfl)) (by show 2<=10;decide) fc (λo ho=>List.eq_of_mem_replicate ho) ⋯;have o8:∀m,m<3->Out B (Y m):=λm hm=>by
  by_cases z:m<2
  ·rw[K8 m z];exact .inl (k1 m z)
  ·exact .inr (by have:=M8 m (show 2<=m by lia) hm;lia)
 have A9:Rs w9 0 1 r n 3 (mJ H) Y:=A8.keep (c:=B) ⋯ F9 (.inl O) ⟨.inl (show 1<B by lia),.inl (show 2<B by lia)⟩ o8;have o9:∀m,m<3->Out 0 (L9 m):=λm hm=>by
  by_cases z:m<2
  ·rw[K9 m z];exact .inr (by have:=k2 m z;lia)
  ·exact .inr (by have:=M9 m (show 2<=m by lia) hm;lia)
 have t9:qp (Q "finish") w7=some ((.nx,Q "finish"),w9):=Cz rfl rfl rfl A7.dk (zO ..) e8 B8.dk (zO ..) e9 (He ⋯);obtain⟨wa,ta,Aa,Ba⟩:=G (row := "answer 2") (T:=txt 7) Hi (by decide +kernel) A9 B9;have ae:B+6<wa.length:=yN Ba.dn;obtain⟨wb,sb,eb,Ab,a6,a7,Fb⟩:=Oj Aa (by rw[S _ (.inr rfl)];exact F) rfl rfl I r5;have Bb:Rs wb B (B+1) r n 3 (mJ H) L9:=Ba.keep (c:=0) ⋯ Fb (.inr O) ⟨.inr ⋯,.inr ⋯⟩ o9;obtain⟨wc,sc,WD,Bc,a8,a9,Fc⟩:=Oj Bb (by rw[S _ (.inr rfl)];exact F) rfl rfl I r5;have Ac:Rs wc 0 sb r n 3 (mJ H) Y:=Ab.keep (c:=B) ⋯ Fc (.inl O) ⟨.inr ⋯,.inr ⋯⟩ o8;have tc:qp (Q "pack") wa=some ((.nx,Q "pack"),wc):=Cz rfl rfl rfl Aa.dk (zO ..) eb Bb.dk (zO ..) WD (by decide +kernel);obtain⟨wd,td,Ad,Bd⟩:=G (row := "table") (T:=tT n) (λR=>Oi R rfl ⋯ ⋯) Fo Ac Bc;obtain⟨g,eg⟩:=Hi Ad
 let bd:DV->aB:=λd env=>do let env' <- gN 6 d env;qp env'
 have bs:∀{row:Str}{w j:Hs}{q':Sl},qp (Q row) w=some ((.nx,Q row),j)->bd (.str row) (V y q' o) w=some ((.nx,Q row),j):=λh=>V2 h;have LL:Ra (V y q o) C=some ((.nx,Q "table"),wd):=by refine XW (nxt:=fH HL) (hp1:=C) rfl ?_;refine(JQ (bd:=bd) (m:=99999) (i:=0) (d:=.str "table") rfl (bs t3)).trans ?_;refine(JQ (bd:=bd) (m:=99998) (i:=1) (d:=.str "sound") rfl (bs t4)).trans ?_;refine(JQ (bd:=bd) (m:=99997) (i:=2) (d:=.str "answer 0") rfl (bs t5)).trans ?_;refine(JQ (bd:=bd) (m:=99996) (i:=3) (d:=.str "answer 1") rfl (bs t6)).trans ?_;refine(JQ (bd:=bd) (m:=99995) (i:=4) (d:=.str "answer 2") rfl (bs t7)).trans ?_;refine(JQ (bd:=bd) (m:=99994) (i:=5) (d:=.str "finish") rfl (bs t9)).trans ?_;refine(JQ (bd:=bd) (m:=99993) (i:=6) (d:=.str "answer 2") rfl (bs ta)).trans ?_;refine(JQ (bd:=bd) (m:=99992) (i:=7) (d:=.str "pack") rfl (bs tc)).trans ?_;refine(JQ (bd:=bd) (m:=99991) (i:=8) (d:=.str "table") rfl (bs td)).trans ?_;exact kZ (bd:=bd) (m:=99990) (i:=9) rfl
 refine⟨wd++g,QH (env:=Q "table") ?_⟩;refine(Qj s1).trans ?_;refine(Qj s2).trans ?_;refine(Qj s3).trans ?_;refine(Qj s4).trans ?_;refine(Qj s5).trans ?_;refine(Qj lp).trans ?_;refine(Qj LL).trans ?_;exact QJ (Qn (QY (Qe rfl) Ad.dk (zO ..) (QK rfl) rfl eg) rfl (iH _ (by decide +kernel) (by decide +kernel) (by decide +kernel)))
def vD{K:Ae}{d a c:Addr}{d0 d1 e:Option Addr}{n o q:Nat}{s0 r u:Array (Option Value)}{v:Tok}(i:K.lookup d=some ⟨.type "tuple", d0,.seq #[.int 0 v,.ref a,.ref c,.none,.none] n,s0⟩)(m:K.lookup c=some ⟨.type "tuple", e,.seq #[] q,u⟩)(j:K.lookup a=some ⟨.type "tuple", d1,.seq #[] o,r⟩):bB K (.tup [.int 0,.tup [],.tup [],.non,.non]) (.ref d):=(Du (xs:=[.int 0,.ref a,.ref c,.non,.non]) i (Nat.le_of_ble_eq_true rfl) (.cons ⟨_,rfl⟩ (.cons rfl (.cons rfl (.cons rfl (.cons rfl .nil))))) (jy RH (jy (Du (xs:=[]) j (Nat.le_of_ble_eq_true rfl) .nil gz) (jy (Du (xs:=[]) m (Nat.le_of_ble_eq_true rfl) .nil gz) (jy Ni (jy Ni gz))))))
theorem RF{P:Program}{w:World}{K:Ae}{h:Heap}{mg:Co}{fa f:Addr}{m kV i j a ct:Value}{od e:Option Addr}{o:Array (Option Value)}(X:K.In h)(G:h.Ns mainGlobals mg)(d:mg "law" = some (.ref fa))(Z:Al K mg)(n:PySem.W.nsIn K mainGlobals "law" = some (some (.ref f)))(l:K.lookup f=some ⟨m,od,.func (PySem.W.fnOf "law" "law" (J5 Uc) (ZM Uc) (Qp Uc) .none kV i j e a ct),o⟩)(c:PySem.W.codeIn K a "law" = true)(k:PySem.W.keepIn K (.ref f)=true):∃fd:FuncData,(∀(s:Shared) (v:Value),BindsTo s fd ⟨[v],[]⟩ [("script", v)])/\∀O8:Heap,K.In O8->O8.Ns mainGlobals mg->Y4 P w K mg O8 CX0 12 fa fd ["script"] (f9 K 1 kz):=by cases d.symm.trans (PySem.W.mg_of X G n);exact⟨PySem.W.fnOf "law" "law" (J5 Uc) (ZM Uc) (Qp Uc) .none kV i j e a ct,λs v=>.of_eq rfl,λO8 _ _=>law_fn Z (gf l c k)⟩
theorem walk{l:PySem.W.OpenLaw}{q:Program}{c:List Str}{j:(Co)->Heap->Prop}{i:World->Heap->Prop}{d:DefRec}{K:Params->Ae}(hn:l.most=some 63)(e:d.params.defaults=[])
  (hY:∀(w:World)(h:Heap),i w h->(K w.params).In h)
  (F:∀(w:World)(mg:Co)(fa:Addr)(h:Heap),(K w.params).In h->h.Ns mainGlobals mg->mg d.name=some (.ref fa) ->
   ∃fd:FuncData,(∀(s:Shared) (u:Value),BindsTo s fd ⟨[u],[]⟩ [("script", u)])/\∀O8:Heap,(K w.params).In O8->O8.Ns mainGlobals mg->Y4 l.prog w (K w.params) mg O8 CX0 12 fa fd ["script"] (f9 (K w.params) 1 kz)) :
  PySem.W.WalkO q c j i l.row.toRowW d [] (λf vs=>PySem.call f vs) :=
 L2.Qc6 (n:=63) (k:=12) (x := "script") (CX:=λ_=>CX0) (sp:=λw=>f9 (K w.params) 1 kz) hn (by decide) e ⟨rfl,by decide,by decide⟩ hY F (λw _ a ns o _ m=>RC (Qfb ns o) m) λ_ _ _ _ _ z=>z
end K72
namespace PySem.W.Fast
def tw3553439392842059857:=0
def tw16712011450788640717:=0
def tw17141648192295041546:=0
def tw2904027698084447065:=0
def tw5029043161760893293:=0
def tw1138826493030503550:=0
def tw13043281952452438751:=0
def tw2610854027236209800:=0
def tw18114418773732870432:=0
def tw4013037476811291078:=0
def tw6779575538360260886:=0
def tw9374594549876107744:=0
def tw8696195181241370600:=0
def tw12224528066926774165:=0
def tw16914779394500497385:=0
def tw10192411715750896321:=0
def tw15467577063337205699:=0
def tw395256776287818145:=0
def tw521871945871135791:=0
def tw13751302432755296115:=0
def tw15348511289429210647:=0
def tw4038618693437345432:=0
def tw16265633736953031484:=0
def tw4239437239973029396:=0
def tw13199327901093791052:=0
def tw8401014344748500990:=0
def tw11520326038516877967:=0
def tw4514745751597710477:=0
def tw11109376190904626224:=0
def tw5154071725967295847:=0
def tw12975183846612153663:=0
def tw13301583191835988979:=0
def tw80236324933477527:=0
def tw10374657530557824656:=0
def tw12073470156400443142:=0
def tw13237860744876132722:=0
def tw5961481537719382086:=0
def tw10363754068280646205:=0
def tw165300862801575679:=0
def tw1179154677741450533:=0
def tw6454684921350745170:=0
def tw2091551153198234068:=0
def tw17089767982861885814:=0
def tw2250940770451352390:=0
def tw7876452054223941016:=0
def tw3642613345262702722:=0
def tw12083513964658189932:=0
def tw14511705349342826031:=0
def tw13741076838025629644:=0
def tw531217463269956792:=0
def tw18383262019055961980:=0
def tw4301839578350612333:=0
def tw5747784554139778285:=0
def tw13933214117948072829:=0
def tw9793220028318808514:=0
def tw14198303810751334505:=0
def tw5587131717418393625:=0
def tw4678158204970293263:=0
def tw10453431283564329242:=0
def tw12990626330382027777:=0
def tw11680600044955867556:=0
def tw11440305799273399426:=0
def tw6742806543511898724:=0
def tw16105353400778772756:=0
def tw5627071369251867924:=0
def tw9554078384851739119:=0
def tw16921577591814189630:=0
def tw13230962976021704295:=0
def tw12645400204703750938:=0
def tw10076110818922463078:=0
def tw17096628456157070626:=0
def tw13656326431386213087:=0
def tw12367999539402192125:=0
def tw11365743095987475969:=0
def tw10256532386203355886:=0
def tw16624673439975517482:=0
def tw4591777154916454114:=0
def tw15993905922202940502:=0
def tw17875831369815481841:=0
def tw17237714864247813518:=0
def tw2954916082931548864:=0
def tw15828927768311651272:=0
def tw12693174224667970075:=0
def tw9816946700663859815:=0
def tw17568847194193335149:=0
def tw10069189008019862999:=0
def tw8609371482744531158:=0
def tw8689863023410995372:=0
def tw8413415958374979083:=0
def tw12718189664941906747:=0
def tw1710471819372385944:=0
def tw3533926590124035545:=0
def tw4615086383743483651:=0
def tw11812545227971346466:=0
def tw7776961300162788681:=0
def tw4137169328334305356:=0
def tw7702060194376265045:=0
def tw7842173002447042559:=0
def tw9569248241093281684:=0
def tw12266668769944692833:=0
def tw16520247132731873550:=0
def tw12775569118761046132:=0
def tw9270782691945127337:=0
def tw6059359180258100983:=0
def tw9101154722452782983:=0
def tw16922146302610237726:=0
def tw436151740459128913:=0
def tw14583806114298888945:=0
def tw6794329360353478190:=0
def tw3080399778842414207:=0
def tw11725938560368628812:=0
def tw7349493019125124463:=0
def tw18410189328014234520:=0
def tw12796068568983946291:=0
def tw418284864781498679:=0
def tw15756705890767732068:=0
def tw3214151518148832590:=0
def tw8145605115700231467:=0
def tw4070032292217447768:=0
def tw15235790744491812887:=0
def tw475030523356807702:=0
def tw4874732887248434752:=0
def tw4639781764945813860:=0
def tw14781415130953994743:=0
def tw12597798003945824792:=0
def tw2370559130333089851:=0
def tw14806680515848920376:=0
def tw1036510034004826806:=0
def tw14556914842389284011:=0
def tw4231583696338054741:=0
def tw7978587154642654856:=0
def tw15794062622708875647:=0
def tw16722001007375386698:=0
def tw1200841412737197836:=0
def tw10366109330033738362:=0
def tw7773632782769739865:=0
def tw17364925188535477072:=0
def tw2265576121506458492:=0
def tw16776961732299038621:=0
def tw2819195496967718088:=0
def tw14333223671574627683:=0
def tw6230986182951850203:=0
def tw4252556699525653409:=0
def tw5378302261147519784:=0
def tw17721788501970766124:=0
def tw8288885109571634754:=0
def tw12980831667920852074:=0
def tw9833539233330163659:=0
def tw905281111171140080:=0
def tw4142740727648415073:=0
def tw13464422857525650686:=0
def tw2537338775966848163:=0
def tw15461106619374895953:=0
def tw4240960157732731291:=0
def tw2997332363296384011:=0
def tw3172794584144193390:=0
def tw6501811450889662254:=0
def tw9128217223218185792:=0
def tw14333285786252302980:=0
def tw2954454157235825896:=0
def tw7312693968677408101:=0
def tw6767519176866060068:=0
def tw2222272839054475965:=0
def tw7642417544448632457:=0
def tw16241009145579377373:=0
def tw14074878442253608248:=0
def tw10425114073095944901:=0
def tw13171490204819527850:=0
def tw16012867069992199776:=0
def tw7878971529249162915:=0
def tw3906932451387747943:=0
def tw6854630086407861126:=0
def tw4689742908988414651:=0
def tw9043048333423162410:=0
def tw1793423123309696479:=0
def tw17057435039535274125:=0
def tw1125064177130178149:=0
def tw15311007761946237336:=0
def tw7314183174068655697:=0
def tw4171205833270152123:=0
def tw3090770991642797385:=0
def tw10178780173290883059:=0
def tw7997395360264559668:=0
def tw10034260165157757484:=0
def tw1791410907901386178:=0
def tw5980725841210870874:=0
def tw1403301926626152504:=0
def tw2577173554415895613:=0
def tw9454046240841815022:=0
def tw3407335813564006125:=0
def tw17069566693812268883:=0
def tw17372537448426457553:=0
def tw10825457836093825247:=0
def tw11571244786283397057:=0
def tw13597863681452148421:=0
def tw6175887075839704061:=0
def tw7257295674001332802:=0
def tw6248144742401236403:=0
def tw1979849369731873005:=0
def tw9736733403925502196:=0
def tw16095318521781379300:=0
def tw16074302139508769395:=0
def tw4814849681607482126:=0
def tw4569213587592624883:=0
def tw916902396443889018:=0
def tw2485637501857124849:=0
def tw14503485450751201056:=0
def tw8429971244595005037:=0
def tw3565486667839728365:=0
def tw17304449508338325219:=0
def tw12385293967670643227:=0
def tw18136497014390962954:=0
def tw6223163536595061324:=0
def tw12082031583032954639:=0
def tw15463902334112910560:=0
def tw5278965679556226538:=0
def tw7880301811662780120:=0
def tw3406093587815168453:=0
def tw6108529547318537280:=0
def tw10757019311454180476:=0
def tw6443776038550500414:=0
def tw14842433074285407354:=0
def tw9824316160276133310:=0
def tw17186618573205317041:=0
def tw10316547799007005711:=0
def tw6972056492833115951:=0
def tw18327764543187580326:=0
def tw2812841649604816504:=0
def tw16782694617336742049:=0
def tw17859654444170781717:=0
def tw3313230783294464013:=0
def tw11419953664904850510:=0
def tw15129355668367403748:=0
def tw13196104375390672873:=0
def tw8073018619162278433:=0
def tw10265836499688269963:=0
def tw7237736990446020810:=0
def tw11719069824141485622:=0
def tw17978736607290040849:=0
def tw16289972753308723788:=0
def tw9936968970685432255:=0
def tw5026213059499388312:=0
def tw9311345424410043421:=0
def tw15510184482341466910:=0
def tw6973239617194123655:=0
def tw15901338194928094128:=0
def tw17938373463647828553:=0
def tw10141058163699109455:=0
def tw2096595314480700281:=0
def tw14473382195866929048:=0
def tw2273467113555125150:=0
def tw3547501139330438955:=0
def tw1518948888317447964:=0
def tw18291639456337974449:=0
def tw2083765248951731369:=0
def tw3839425157445341656:=0
def tw10857074252268091219:=0
def tw10837896003750815314:=0
def tw14060487502438092445:=0
def tw3950092079110950963:=0
def tw16654097184837841804:=0
def tw2421811162364912872:=0
def tw6266704286521988831:=0
def tw7675706369877459302:=0
def tw2853671740998679336:=0
def tw10673533433173512054:=0
def tw8775327848388433024:=0
def tw6969241824453728316:=0
def tw12881390158977544824:=0
def tw6703891722745478951:=0
def tw3401196193443848189:=0
def tw7396661404965024953:=0
def tw15690975158695352024:=0
def tw14225778268417750168:=0
def tw2188508589933298165:=0
def tw11975698525886312587:=0
def tw704777875626478302:=0
def tw18123153011646570594:=0
def tw1221657549039020714:=0
def tw3905299997109426743:=0
def tw18099133888203450702:=0
def tw5077702823241984848:=0
def tw1825163252954526550:=0
def tw17611893096785144869:=0
def tw10667482281364482304:=0
def tw9114748334954088649:=0
def tw1987059248150129059:=0
def tw2905691087180797669:=0
def tw5728282722931365174:=0
def tw14243728266818709438:=0
def tw17732554576880720376:=0
def tw11628000165361369909:=0
def tw8420014000034891578:=0
def tw7488597771439885327:=0
def tw15314488764083617565:=0
def tw7134466934835074634:=0
def tw3237638123745976539:=0
def tw17236565256969308289:=0
def tw13608057752583336193:=0
def tw10780004243134393660:=0
def tw1627512400607543983:=0
def tw4938738544903996842:=0
def tw1401234380544585537:=0
def tw3321414685710622977:=0
def tw4449010753804026877:=0
def tw17791607308779145249:=0
def tw7121152958382139378:=0
def tw10298238956529425431:=0
def tw8702449445871631708:=0
def tw15391727677916877346:=0
def tw16607475155880674991:=0
def tw4453273296504384074:=0
def tw9751721549376142794:=0
def tw12495438956846097792:=0
def tw14896873056301491009:=0
def tw7138644573318636430:=0
def tw4755210377203864895:=0
def tw10794113336785771185:=0
def tw17623825958725737168:=0
def tw8795661365968298854:=0
def tw17849746682199600071:=0
def tw17832151251011672071:=0
def tw13023772730710393614:=0
def tw6704451870101980845:=0
def tw12084962499165282696:=0
def tw12573330632220887138:=0
def tw16861199721164933799:=0
def tw1296041971799351633:=0
def tw2394486870784575597:=0
def tw4450180798176966820:=0
def tw15894623809146771000:=0
def tw9726252129404380918:=0
def tw17813707806788904916:=0
def tw2055380802524461881:=0
def tw11555328012415845928:=0
def tw9378529904622904688:=0
def tw8802607194929831421:=0
def tw6930256948027058844:=0
def tw14724240982884386488:=0
def tw12450200998620119700:=0
def tw3009154219922878987:=0
def tw8216359658007623140:=0
def tw7245997987559417105:=0
def tw13879786752988046420:=0
def tw17314349038764105295:=0
def tw2092832635349231392:=0
def tw5155242478691538532:=0
def tw16690579667440889604:=0
def tw11173221773106645257:=0
def tw6659695722948501944:=0
def tw15205041566623554885:=0
def tw7760559140570982134:=0
def tw1400316277636701607:=0
def tw2119162087063971965:=0
def tw11758951140726937382:=0
def tw13363725895620563222:=0
def tw5090970948923490765:=0
def tw6631541173071189509:=0
def tw17874562427342904251:=0
def tw8084117531594705409:=0
def tw10480859918630073242:=0
def tw165389705908958911:=0
def tw7480227281468520219:=0
def tw489612186096566346:=0
def tw5941909471326723577:=0
def tw6129141253027262672:=0
def tw4355057831502805606:=0
def tw2045444274546034899:=0
def tw2268996598099096778:=0
def tw1700210527639942516:=0
def tw7930758299232799023:=0
def tw3232739466402706273:=0
def tw12467065315283134035:=0
def tw11878236780794973065:=0
def tw10867853111540489979:=0
def tw12754298687107708276:=0
def tw4948133755586132634:=0
def tw10522016024432614573:=0
def tw16098567295808657128:=0
def tw3152824337615805746:=0
def tw3665547025916861386:=0
def tw8970097709184723776:=0
def tw7884072505529491515:=0
def tw4897081277538603949:=0
def tw2607958185304546071:=0
def tw7718124148412294981:=0
def tw5254029042674784232:=0
def tw9572860857108231632:=0
def tw12829861157473283348:=0
def tw4846913741334915544:=0
def tw7349212009812198341:=0
def tw8744653024335882718:=0
def tw8465052728062104437:=0
def tw453482047425673836:=0
def tw10751222794428656490:=0
def tw11295844777035258527:=0
def tw1605070199844371766:=0
def tw8140788604920036935:=0
def tw6920759766241343980:=0
def tw10423885895129206834:=0
def tw16265090560866049106:=0
def tw12707448511986148219:=0
def tw1176948018326126198:=0
def tw17744766787629466700:=0
def tw15219584079633494675:=0
def tw17383189616042744171:=0
def tw13281799943703076987:=0
def tw9905715714500891522:=0
def tw1179137145856678363:=0
def tw7607223537240963393:=0
def tw14837747419211257055:=0
def tw2098387911381839564:=0
def tw16398961440093891878:=0
def tw12663254582582955909:=0
def tw14382583376166584855:=0
def tw1645427578512760848:=0
def tw6258972565849099801:=0
def tw15296088923706816648:=0
def tw4406100244919702429:=0
def tw220776122220569590:=0
def tw16518434893540779574:=0
def tw12808301754799604746:=0
def tw1734031284041202319:=0
def tw9276850591632794099:=0
def tw16295869074805195363:=0
def tw12461906369967345367:=0
def tw12658707872884088428:=0
def tw2595941412592884301:=0
def tw4938146220473713571:=0
def tw14104188018425072177:=0
def tw8059847153849017564:=0
def tw13576549547729354434:=0
def tw11327615676001203872:=0
def tw14128844255151197172:=0
def tw7612983309722835766:=0
def tw5503624084809546754:=0
def tw3709738263757544206:=0
def tw2076382515711707370:=0
def tw17837643115728020646:=0
def tw7397213705400096004:=0
def tw4298883888347116474:=0
def tw9546850924182396510:=0
def tw15344942643948435594:=0
def tw10934931159711790564:=0
def tw2688145974005098575:=0
def tw9527813947302840551:=0
def tw15235382641999109254:=0
def tw5034017636772471788:=0
def tw3348959524279618698:=0
def tw17060604968020070638:=0
def tw13497340776396932902:=0
def tw8523065454360054544:=0
def tw15770424057346583872:=0
def tw3203904726929723222:=0
def tw6484493889315149108:=0
def tw4907443192449176912:=0
def tw11843690112710157632:=0
def tw18059222832980691050:=0
def tw14861668405362496454:=0
def tw16130565513780983751:=0
def tw6481882005751514815:=0
def tw1597128754323901359:=0
def tw18391881986330597914:=0
def tw15496583210669790742:=0
def tw13439837166483444234:=0
def tw17104675984464282587:=0
def tw15645990124798757666:=0
def tw1811704959252642021:=0
def tw3992399499566298123:=0
def tw11417634197189159237:=0
def tw13955462135550302001:=0
def tw1680024943637000495:=0
def tw15582348946196803245:=0
end PySem.W.Fast
open PySem PySem.W PyProof.Rows
open D in
set_option maxRecDepth 100000 in
set_option maxHeartbeats 0 in
theorem PySem.Challenge.cw_sidelink_k72_rows_refused_holds : PySem.Challenge.rw_sidelink_k72_rows_refused.Holds := by
 w_on;o_law;k_head;(case hw=>w_witness2)
 k_fill
 refine K72.walk (l:=PySem.Challenge.rw_sidelink_k72_rows_refused) rfl rfl (fun w h Y=>PySem.W.kIn_of Y) ?F
 case F =>
  intro w mg fa h KX G hmg;have c0:UC _ "Shelf" := uc KX (by k_is) (by k_is) (by k_is) (by k_is) (by k_is);have c1:UC _ "Weaver" := uc KX (by k_is) (by k_is) (by k_is) (by k_is) (by k_is);have c2:UC _ "Desk" := uc KX (by k_is) (by k_is) (by k_is) (by k_is) (by k_is);have c3:UC _ "Walk" := uc KX (by k_is) (by k_is) (by k_is) (by k_is) (by k_is);exact K72.RF KX G hmg (by constructor;(case x0=>(refine' ux KX G ?ua ?ub;(case ua=>k_is);(case ub=>k_exc)));(case x1=>(refine' ux KX G ?ua ?ub;(case ua=>k_is);(case ub=>k_exc)));(case x2=>(refine' ux KX G ?ua ?ub;(case ua=>k_is);(case ub=>k_exc)));(case x3=>(refine' ux KX G ?ua ?ub;(case ua=>k_is);(case ub=>k_exc)));(case y0=>(refine' uz KX G ?ua ?ub ?uc ?ud ?ue ?uf ?ug ?uh ?ui ?uj ?uk ?ul ?um ?un ?uo ?up ?uq ?ur ?us ?ut ?uu;(case ua=>k_is);(case ub=>k_is);(case uc=>k_is);(case ud=>k_is);(case ue=>k_is);(case uf=>k_is);(case ug=>k_is);(case uh=>k_is);(case ui=>k_is);(case uj=>k_is);(case uk=>k_is);(case ul=>k_is);(case um=>k_is);(case un=>k_is);(case uo=>kts_exm);(case up=>kit_is);(case uq=>kit_is);(case ur=>kit_is);(case us=>kit_is);(case ut=>kit_is);(case uu=>kit_is)));(case y1=>(refine' uz KX G ?ua ?ub ?uc ?ud ?ue ?uf ?ug ?uh ?ui ?uj ?uk ?ul ?um ?un ?uo ?up ?uq ?ur ?us ?ut ?uu;(case ua=>k_is);(case ub=>k_is);(case uc=>k_is);(case ud=>k_is);(case ue=>k_is);(case uf=>k_is);(case ug=>k_is);(case uh=>k_is);(case ui=>k_is);(case uj=>k_is);(case uk=>k_is);(case ul=>k_is);(case um=>k_is);(case un=>k_is);(case uo=>kts_exm);(case up=>kit_is);(case uq=>kit_is);(case ur=>kit_is);(case us=>kit_is);(case ut=>kit_is);(case uu=>kit_is)));(case y2=>(refine' uz KX G ?ua ?ub ?uc ?ud ?ue ?uf ?ug ?uh ?ui ?uj ?uk ?ul ?um ?un ?uo ?up ?uq ?ur ?us ?ut ?uu;(case ua=>k_is);(case ub=>k_is);(case uc=>k_is);(case ud=>k_is);(case ue=>k_is);(case uf=>k_is);(case ug=>k_is);(case uh=>k_is);(case ui=>k_is);(case uj=>k_is);(case uk=>k_is);(case ul=>k_is);(case um=>k_is);(case un=>k_is);(case uo=>kts_exm);(case up=>kit_is);(case uq=>kit_is);(case ur=>kit_is);(case us=>kit_is);(case ut=>kit_is);(case uu=>kit_is)));(case y3=>(refine' uz KX G ?ua ?ub ?uc ?ud ?ue ?uf ?ug ?uh ?ui ?uj ?uk ?ul ?um ?un ?uo ?up ?uq ?ur ?us ?ut ?uu;(case ua=>k_is);(case ub=>k_is);(case uc=>k_is);(case ud=>k_is);(case ue=>k_is);(case uf=>k_is);(case ug=>k_is);(case uh=>k_is);(case ui=>k_is);(case uj=>k_is);(case uk=>k_is);(case ul=>k_is);(case um=>k_is);(case un=>k_is);(case uo=>kts_exm);(case up=>kit_is);(case uq=>kit_is);(case ur=>kit_is);(case us=>kit_is);(case ut=>kit_is);(case uu=>kit_is)));all_goals first|exact PySem.W.mg_none_of KX G (by k_is)|exact uf KX G (by k_is) (by k_is) (by k_is) (by k_is)|exact ug KX G (by k_is)|exact Ld KX G (by k_is) (by k_is) (by first|rfl|with_unfolding_all rfl)|exact Ld KX G (by k_is) (by k_is) (by first|rfl|with_unfolding_all rfl)|exact ut KX G (by k_is) (K72.vD (by k_is) (by k_is) (by k_is))|exact uk KX c0 (by k_is) (by k_is)|exact um KX c0 (by k_is) (by k_is) (by k_is) (by k_is) (by k_is) (by k_is)|exact uk KX c1 (by k_is) (by k_is)|exact um KX c1 (by k_is) (by k_is) (by k_is) (by k_is) (by k_is) (by k_is)|exact uk KX c2 (by k_is) (by k_is)|exact um KX c2 (by k_is) (by k_is) (by k_is) (by k_is) (by k_is) (by k_is)|exact uk KX c3 (by k_is) (by k_is)|exact um KX c3 (by k_is) (by k_is) (by k_is) (by k_is) (by k_is) (by k_is)|exact ui KX G (by k_is) (by k_is) (by k_is) (by k_is) (by k_is) (by k_is) (by k_is) (by k_is)) (by k_is) (by k_is) (by k_is) (by k_is)

import PyProof.Rows.All
import Wide.All
import OpenK.AllK
import Wide.FinOn
import Lean
import PyProof.EqAt
import PyProof.EqKinds
import PyProof.TupleCall
import PySem.Challenge.RW_sidelink_k52_faults_of_spoilt_trees
local macro_rules|`(⋯)=>`(by lia)
local macro_rules|`(command|$d:definition)=>`(command|noncomputable $d:definition)
local macro_rules|`(command|$d:abbrev)=>`(command|noncomputable $d:abbrev)
noncomputable section
section
open PySem PySem.Spec PyProof.Rows
abbrev Aa:=PySem.W.Frag
def Ab:=@List.getElem?_eq_getElem
def Ac:=@List.getElem?_eq_some_iff
def Ad:=@Heap.get?_push_of_some
def Ae:=@Nat.le_refl
def Af:=@List.getElem?_append_left
def Ag:=@List.mem_append
def Ah:=@List.mem_append_right
def Ai:=@Option.some.inj
def Aj:=@List.getElem?_set_ne
def Ak:=@List.length_append
def Am:=@List.size_toArray
def An:=@Heap.lt_size
def Ao:=@List.getElem?_append_right
def Ap:=@List.mem_singleton
def Aq:=@List.getElem?_set_self
def Ar:=@Heap.get?_push_size
def As:=@List.mem_of_getElem?
def At:=@List.mem_cons_of_mem
def Au:=@Nat.lt_of_lt_of_le
def Av:=@Bool.false_eq_true
def Aw:=@List.append_assoc
def Ax:=@List.length_take
def Ay:=@List.length_cons
def Az:=@List.map_cons
def A0:=@Bool.and_eq_true
def A5:=@Nat.zero_le
def A6:=@Nat.ne_of_lt
def A7:=@List.drop_eq_getElem_cons
def A8:=@Nat.le_trans
def A9:=@List.mem_cons
def Ba:=@List.length_drop
def Bb:=@List.length_map
def Bc:=@List.append_nil
def Be:=@List.getElem?_map
def Bf:=@Bool.false_ne_true
def Bg:=@List.take_append_drop
def Bh:=@List.find?_cons
def Bi:=@List.getElem_mem
def Bj:=@List.not_mem_nil
def Bk:=@Option.map_eq_some_iff
def Bm:=@List.mem_range
def Bo:=@List.take_of_length_le
def Bp:=@List.prefix_rfl
def Bq:=@Heap.size_push
def Br:=@List.getD_eq_getElem?_getD
def Bs:=@List.any_cons
def Bt:=@Nat.lt_irrefl
def Bu:=@List.getElem?_eq_none
def Bv:=@Nat.lt_succ_self
def Bw:=@List.all_cons
def Bx:=@Nat.ne_of_gt
def By:=@List.mem_map
def Bz:=@List.mem_cons_self
def B0:=@wpAny_bind
def B7:=@if_neg
def B8:=@if_pos
def B9:=@wpAny_pure
def Ca:=@decide_eq_true
def Cb:=@of_decide_eq_true
def Cc:=@decide_eq_false
def Cd:=@pure_bind
abbrev Ce:=Value->Shared->Prop
abbrev Cf:=List (Addr×Obj)
abbrev Cg:=Str->Option Value
abbrev Ci:=Addr->Prop
abbrev Cj:=List Addr
end
-- CHANGE: your row's module here,as the last of these rows
set_option Elab.async false
set_option linter.all false
set_option maxRecDepth 100000
namespace L2
open PySem PySem.Spec PyProof.Rows
abbrev Key:=Sum Int Str
def Kb:Key->Value->Bool
 |.inl k,v=>Value.isInt k v
 |.inr x,v=>Value.isStrOf x v
def Lg(w:World):Key->Int
 |.inl k=>hashInt k
 |.inr x=>hashStr w x
theorem ZY:∀{k:Key}{v:Value},Kb k v=true->(∃i t,k=Sum.inl i/\v=Value.int i t)∨(∃x t,k=Sum.inr x/\v=Value.str x t)
  |.inl i,v,h=>by obtain⟨t,e⟩:=Value.isInt_shape (k:=i) (v:=v) h;exact .inl ⟨i,t,rfl,e⟩
  |.inr x,v,h=>by obtain⟨t,e⟩:=Value.isStrOf_shape (x:=x) (v:=v) h;exact .inr ⟨x,t,rfl,e⟩
theorem BD(i:Int)(t:Tok):Kb (.inl i) (.int i t)=true:=by simp[Kb,Value.isInt]
theorem BC(x:Str)(t:Tok):Kb (.inr x) (.str x t)=true:=by simp[Kb,Value.isStrOf]
theorem O4(a b:Int):decide ((Sum.inl a:Key)=Sum.inl b)=(a==b):=by
 by_cases e:a=b
 ·subst e;simp
 ·have h:¬ (Sum.inl a:Key)=Sum.inl b:=λq=>e (Sum.inl.inj q);rw[Cc h];exact(beq_eq_false_iff_ne.mpr e).symm
theorem O1(a b:Str):decide ((Sum.inr a:Key)=Sum.inr b)=decide (a=b):=by
 by_cases e:a=b
 ·subst e;simp
 ·have h:¬ (Sum.inr a:Key)=Sum.inr b:=λq=>e (Sum.inr.inj q);rw[Cc h,Cc e]
def O3(a:Int)(b:Str):decide ((Sum.inl a:Key)=Sum.inr b)=false:=Cc (λq=>nomatch q)
def O2(a:Str)(b:Int):decide ((Sum.inr a:Key)=Sum.inl b)=false:=Cc (λq=>nomatch q)
def Jq(prog:Program)(w:World):PySem.KeyKind prog w Key where
 is:=Kb
 hash:=Lg w
 inj:=λv a b g f=>by
  rcases ZY g with ⟨i,t,rfl,rfl⟩|⟨x,t,rfl,rfl⟩
  ·rcases ZY f with ⟨j,u,rfl,e⟩|⟨y,u,rfl,e⟩
   ·injection e with c _;rw[c]
   ·exact nomatch e
  ·rcases ZY f with ⟨j,u,rfl,e⟩|⟨y,u,rfl,e⟩
   ·exact nomatch e
   ·injection e with c _;rw[c]
 byValue:=λk v h=>by rcases ZY h with ⟨i,t,rfl,rfl⟩|⟨x,t,rfl,rfl⟩<;>rfl
 pyHash:=λd h=>by
  rcases ZY d with ⟨i,t,rfl,rfl⟩|⟨x,t,rfl,rfl⟩
  ·exact wpAny_pyHash_int h
  ·exact wpAny_pyHash_str h
 eqBool:=λl d h=>by
  rcases ZY l with ⟨i,t,rfl,rfl⟩|⟨x,t,rfl,rfl⟩
  ·rcases ZY d with ⟨j,u,rfl,rfl⟩|⟨y,u,rfl,rfl⟩
   ·rw[O4]at h;exact wpAny_eqBool_int h
   ·rw[O3]at h;exact SeqAt.EqAt.int_str i t y u _ _ _ _ h
  ·rcases ZY d with ⟨j,u,rfl,rfl⟩|⟨y,u,rfl,rfl⟩
   ·rw[O2]at h;exact SeqAt.EqAt.str_int x t j u _ _ _ _ h
   ·rw[O1]at h;exact wpAny_eqBool_str h
 «strs»:=λk x t v h=>by
  rcases ZY h with ⟨i,u,rfl,e⟩|⟨y,u,rfl,e⟩
  ·exact nomatch e
  ·injection e with c _;subst c;cases v<;>rfl
def vd(prog:Program)(w:World)(i:Int)(t:Tok):(Jq prog w).is (.inl i) (.int i t)=true:=BD i t
def ve(prog:Program)(w:World)(x:Str)(t:Tok):(Jq prog w).is (.inr x) (.str x t)=true:=BC x t
inductive V where
 |non|bl (b:Bool)|int (i:Int)|str (x:Str)|byt (b:Array UInt8)|flt (b:UInt64)|ref (a:Addr)|ty (n:String)
 deriving DecidableEq
def RelV:V->Value->Prop
 |.non,u=>u=Value.none
 |.bl b,u=>u=Value.bool b
 |.int i,u=>∃t,u=Value.int i t
 |.str x,u=>∃t,u=Value.str x t
 |.byt b,u=>∃t,u=Value.bytes b t
 |.flt b,u=>∃t,u=Value.float b t
 |.ref a,u=>u=Value.ref a
 |.ty n,u=>u=Value.type n
abbrev Vals:List V->List Value->Prop:=Paired RelV
def Vals.length{xs:List V}{us:List Value}(r:Vals xs us):xs.length=us.length:=Paired.length r
theorem Vals.get:∀{xs:List V}{us:List Value}{i:Nat}{x:V},Vals xs us->xs[i]?=some x->∃u,us[i]?=some u/\RelV x u
  |_,_,_,_,.nil,e=>by simp at e
  |_,_,0,_,.cons r _,e=>by simp at e;subst e;exact⟨_,rfl,r⟩
  |_,_,i+1,x,.cons _ t,e=>by obtain⟨u,a,c⟩:=Vals.get (i:=i) (x:=x) t (by simpa using e);exact⟨u,by simpa using a,c⟩
theorem Vals.set{x:V}{u:Value}(r:RelV x u):∀{xs:List V}{us:List Value}(i:Nat),Vals xs us->Vals (xs.set i x) (us.set i u)
 |_,_,_,.nil=>.nil
 |_,_,0,.cons _ t=>.cons r t
 |_,_,i+1,.cons q t=>.cons q (Vals.set r i t)
theorem Vals.append:∀{xs ys:List V}{us a:List Value},Vals xs us->Vals ys a->Vals (xs++ys) (us++a)
 |_,_,_,_,.nil,s=>s
 |_,_,_,_,.cons r t,s=>.cons r (Vals.append t s)
theorem Vals.take:∀{xs:List V}{us:List Value}(n:Nat),Vals xs us->Vals (xs.take n) (us.take n)
 |_,_,0,_=>.nil
 |_,_,_+1,.nil=>.nil
 |_,_,n+1,.cons r t=>.cons r (Vals.take n t)
theorem Vals.drop:∀{xs:List V}{us:List Value}(n:Nat),Vals xs us->Vals (xs.drop n) (us.drop n)
 |_,_,0,r=>r
 |_,_,_+1,.nil=>.nil
 |_,_,n+1,.cons _ t=>Vals.drop n t
def RelO:Option V->Option Value->Prop
 |some v,some u=>RelV v u
 |none,none=>True
 |_,_=>False
def KV{κ:Type}:List (κ×V)->List (κ×Value)->Prop:=Paired λ(p:κ×V)(q:κ×Value)=>p.1=q.1/\RelV p.2 q.2
def kV:Key->V
 |.inl i=>.int i
 |.inr x=>.str x
inductive HO where
  |lst (xs:List V)
  |tup (xs:List V)
  |dK (kvs:List (Key×V))|dT (kvs:List (List Key×V))
  |set (S:Int->Bool) (n:Nat)
  |ins (C dx:Addr) (fs:List (Str×V))
  |own (x:Addr)
  |xd (fs:List (Str×V))
  |met (f x:Addr)
  |rng (lo hi:Int)
  |frz (o:Obj) (u:HO)
  |tbl (ps:Array Value)
  |ext (φ:Heap->Prop)
abbrev Hp:=Addr->Option HO
def upd(H:Hp)(a:Addr)(o:HO):Hp:=λb=>if b=a then some o else H b
theorem Q3{H:Hp}{a:Addr}{o:HO}:upd H a o a=some o:=by unfold upd;rw[B8 rfl]
theorem QN{H:Hp}{a b:Addr}{o:HO}(h:b≠a):upd H a o b=H b:=by unfold upd;rw[B7 h]
theorem MP{H:Hp}{a b:Addr}{o u:HO}(h:H a=some o)(h':H b=some u)(d:o≠u):a≠b:=by intro e;subst e;rw[h]at h';exact d (Ai h')
theorem ZD{H:Hp}{a b:Addr}{o:HO}(h:H a=some o)(h':H b=none):a≠b:=by intro e;subst e;rw[h]at h';cases h'
section
variable(P:Program)(w:World)
def ObjOk(H:Hp)(h:Heap)(a:Addr):HO->Prop
 |.lst xs=>xs.length<=sizeLine/\∃(c:List Value) (n:Nat),Vals xs c/\h.get? a=some { cls:=.type "list", data:=.seq c.toArray n }
 |.tup xs=>xs.length<=sizeLine/\∃c:List Value,Vals xs c/\IsTup h a c.toArray
 |.dK d=>d.length<=sizeLine/\(a==sysModules)=false/\∃vs,KV d vs/\h.DictOf (Jq P w) a vs
 |.dT d=>d.length<=sizeLine/\(a==sysModules)=false/\∃xs:List (List Key×Addr×Value),
   Paired (λ(p:List Key×V)(q:List Key×Addr×Value)=>p.1=q.1/\H q.2.1=some (.tup (p.1.map kV))/\RelV p.2 q.2.2) d xs /\
   ∃o i m,h.get? a=some o/\o.ExactDict/\o.data=.dict i m/\i.toList=xs.map (entryOfKey (tupleKind (Jq P w)))/\(xs.map (·.1)).Nodup
 |.set S n=>h.SetOf (intKind P w) a S n
 |.ins C g fs=>H g=some (.own a)/\fs.length<=1000/\g≠a/\h.get? a=some (PySem.W.instObj C g) /\
   ∃e,h.Ns1 g e/\(∀f,RelO (fs.lookup f) (e f))/\PySem.Within e (fs.map (·.1))
 |.own _=>∃o,h.get? a=some o
 |.xd fs=>∃e,h.Ns1 a e/\∀f,RelO (fs.lookup f) (e f)
 |.rng r hi=>∃t u v,h.get? a=some { cls:=.type "range", data:=.fields #[.int r t,.int hi u,.int 1 v] }
 |.frz o u=>h.get? a=some o/\ObjOk H h a u
 |.tbl ps=>h.get? a=some { cls:=.none,data:=.fields ps }
 |.met f x=>h.get? a=some (PySem.W.methodObj (.ref f) (.ref x))
 |.ext φ=>φ h/\(∃o,h.get? a=some o)/\∀j l:Heap,φ j->(∀o,j.get? a=some o->l.get? a=some o)->φ l
def HOk(H:Hp)(h:Heap):Prop:=∀a o,H a=some o->ObjOk P w H h a o
end
section
variable{P:Program}{w:World}{H H':Hp}{h h':Heap}{a:Addr}{o:HO}
theorem ObjOk.lt(x:ObjOk P w H h a o):a<h.objs.size:=by
 cases o with
 |lst xs=>obtain⟨_,_,_,_,e⟩:=x;exact An e
 |tup xs=>obtain⟨_,_,_,p⟩:=x;exact p.lt
 |dK c=>obtain⟨_,_,_,_,o,_,_,e,_⟩:=x;exact An e
 |dT c=>obtain⟨_,_,_,_,o,_,_,e,_⟩:=x;exact An e
 |set S n=>obtain⟨o,_,_,_,e,_⟩:=x;exact An e
 |ins C d fs=>obtain⟨_,_,_,e,_⟩:=x;exact An e
 |own y=>obtain⟨_,e⟩:=x;exact An e
 |xd fs=>obtain⟨_,⟨_,_,_,e,_⟩,_⟩:=x;exact An e
 |rng g hi=>obtain⟨_,_,_,e⟩:=x;exact An e
 |frz i u=>obtain⟨e,_⟩:=x;exact An e
 |tbl ps=>exact An (show h.get? a=some _ from x)
 |met f y=>exact An (show h.get? a=some _ from x)
 |ext φ=>obtain⟨_,⟨_,e⟩,_⟩:=x;exact An e
theorem Paired.mapP{α β:Type}{F G:α->β->Prop}:∀{l₁:List α}{l₂:List β},Paired F l₁ l₂->(∀a b,F a b->G a b)->Paired G l₁ l₂
 |_,_,.nil,_=>.nil
 |_,_,.cons r t,f=>.cons (f _ _ r) (Paired.mapP t f)
theorem ObjOk.stay(x:ObjOk P w H h a o)(k:∀b u,(b=a∨H b=some (.own a))->h.get? b=some u->h'.get? b=some u)
    (ho:∀b,H b=some (.own a)->H' b=some (.own a)) (ht:∀b xs,H b=some (.tup xs)->H' b=some (.tup xs)):ObjOk P w H' h' a o:=by
  induction o with
  |lst xs=>obtain⟨z,l,n,r,e⟩:=x;exact⟨z,l,n,r,k _ _ (.inl rfl) e⟩
  |tup xs=>obtain⟨z,l,r,g,e,c⟩:=x;exact⟨z,l,r,g,k _ _ (.inl rfl) e,c⟩
  |dK m=>obtain⟨z,y,vs,r,g,j,i,e,c⟩:=x;exact⟨z,y,vs,r,g,j,i,k _ _ (.inl rfl) e,c⟩
  |dT m=>obtain⟨z,y,xs,r,g,j,i,e,c⟩:=x;exact⟨z,y,xs,Paired.mapP r λp q z=>⟨z.1,ht _ _ z.2.1,z.2.2⟩,g,j,i,k _ _ (.inl rfl) e,c⟩
  |set S n=>obtain⟨g,j,i,t,e,c⟩:=x;exact⟨g,j,i,t,k _ _ (.inl rfl) e,c⟩
  |ins C L fs=>obtain⟨d,z,ne,e,E,⟨F,j,i,I,c⟩,r⟩:=x;exact⟨ho _ d,z,ne,k _ _ (.inl rfl) e,E,⟨F,j,i,k _ _ (.inr d) I,c⟩,r⟩
  |own y=>obtain⟨g,e⟩:=x;exact⟨g,k _ _ (.inl rfl) e⟩
  |xd fs=>obtain⟨E,⟨F,j,i,e,c⟩,r⟩:=x;exact⟨E,⟨F,j,i,k _ _ (.inl rfl) e,c⟩,r⟩
  |rng O hi=>obtain⟨t,u,v,e⟩:=x;exact⟨t,u,v,k _ _ (.inl rfl) e⟩
  |frz g u J=>obtain⟨e,q⟩:=x;exact⟨k _ _ (.inl rfl) e,J q⟩
  |tbl ps=>have e:h.get? a=some { cls:=.none,data:=.fields ps }:=x;show h'.get? a=some { cls:=.none,data:=.fields ps };exact k a _ (.inl rfl) e
  |met f y=>have e:h.get? a=some (PySem.W.methodObj (.ref f) (.ref y)):=x;show h'.get? a=some (PySem.W.methodObj (.ref f) (.ref y));exact k a _ (.inl rfl) e
  |ext φ=>obtain⟨p,⟨o,e⟩,G⟩:=x;exact⟨G _ _ p λo q=>k _ _ (.inl rfl) q,⟨o,k _ _ (.inl rfl) e⟩,G⟩
def HOk.lt(x:HOk P w H h)(e:H a=some o):a<h.objs.size:=(x a o e).lt
theorem HOk.fresh(x:HOk P w H h)(e:h.objs.size<=a):H a=none:=by
 cases q:H a with
 |none=>rfl
 |some u=>exact absurd (Au (x.lt q) e) (Bt _)
theorem HOk.kept(x:HOk P w H h)(k:∀b u,h.get? b=some u->h'.get? b=some u):HOk P w H h':=λa o e =>
 (x a o e).stay (λb u _ q=>k b u q) (λ_ q=>q) λ_ _ q=>q
theorem HOk.laid(x:HOk P w H h)(k:∀b u,h.get? b=some u->h'.get? b=some u)(U:h.objs.size<=a)(new:ObjOk P w (upd H a o) h' a o):HOk P w (upd H a o) h':=λb u e=>by
 have f:=x.fresh U;by_cases d:b=a
 ·subst d;rw[Q3]at e;cases e;exact new
 ·rw[QN d]at e;exact(x b u e).stay (λc v _ q=>k c v q) (λc q=>by rw[QN (ZD q f)];exact q) λc xs q=>by rw[QN (ZD q f)];exact q
end
def Rd(H:Hp)(a:Addr)(u:HO):Prop:=H a=some u∨∃o,H a=some (.frz o u)
theorem Rd.ok{P:Program}{w:World}{H:Hp}{h:Heap}{a:Addr}{u:HO}(r:Rd H a u)(x:HOk P w H h):ObjOk P w H h a u:=by
 rcases r with r|⟨o,r⟩
 ·exact x a u r
 ·obtain⟨_,q⟩:=x a _ r;exact q
def Mut:Option HO->Prop
 |some (.lst _)=>True
 |some (.dK _)=>True
 |some (.dT _)=>True
 |some (.set _ _)=>True
 |some (.ins _ _ _)=>True
 |some (.ext _)=>True
 |_=>False
section
variable{P:Program}{w:World}{H:Hp}{h h':Heap}{x e:Addr}{o':HO}
theorem HOk.write(ok:HOk P w H h)(j:Mut (H x))(m:e=x∨H e=some (.own x))(k:∀b u,b≠e->h.get? b=some u->h'.get? b=some u)(l:∃u,h'.get? e=some u)
  (new:ObjOk P w (upd H x o') h' x o'):HOk P w (upd H x o') h':=λb u q=>by
 have d:∀c y,H c=some (.own y)->c≠x:=λc y r z=>by subst z;rw[r]at j;exact j
 have f:∀c xs,H c=some (.tup xs)->c≠x:=λc xs r z=>by subst z;rw[r]at j;exact j
 by_cases g:b=x
 ·subst g;rw[Q3]at q;cases q;exact new
 ·rw[QN g]at q;by_cases a:b=e
  ·have n:H b=some (.own x):=by
    rcases m with z|z
    ·exact absurd (a.trans z) g
    ·rw[a];exact z
   rw[q]at n;cases n;obtain⟨v,o⟩:=l;exact⟨v,by rw[a];exact o⟩
  ·refine(ok b u q).stay (λc v i r=>k c v ?_ r) (λc r=>by rw[QN (d c b r)];exact r) λc xs r=>by rw[QN (f c xs r)];exact r
   rcases i with rfl|i
   ·exact a
   ·rintro rfl;rcases m with z|z
    ·exact d c b i z
    ·rw[i]at z;cases z;exact g rfl
end
structure Un(fs ex:Cj)(H H':Hp)(h h':Heap):Prop where
 keep:∀b o,h.get? b=some o->H b=none->b∉fs->b∉ex->h'.get? b=some o
 slot:∀b o,h.get? b=some o->H b=none->b∈fs->b∉ex->∃sl,h'.get? b=some { o with slots:=sl }
 free:∀b o,h.get? b=some o->H b=none->b∉ex->H' b=none
 there:∀b o,h.get? b=some o->b∉ex->∃o',h'.get? b=some o'
 tups:∀b xs,H b=some (.tup xs)->H' b=some (.tup xs)
 frzs:∀b o u,H b=some (.frz o u)->H' b=some (.frz o u)
 tbls:∀b ps,H b=some (.tbl ps)->∃more,H' b=some (.tbl (ps++more))
section
variable{fs fs' ex ex':Cj}{H H1 H2:Hp}{h h1 h2 h':Heap}{a x e:Addr}{o:HO}
theorem Un.any(u:Un fs ex H H1 h h1){b:Addr}{c:Obj}(q:h.get? b=some c)(n:H b=none)(hx:b∉ex):∃f,h1.get? b=some { c with slots:=f }:=by
 by_cases d:b∈fs
 ·exact u.slot b c q n d hx
 ·exact⟨c.slots,u.keep b c q n d hx⟩
theorem Un.kept(k:∀b u,h.get? b=some u->h'.get? b=some u):Un fs ex H H h h' :=
 ⟨λb c q _ _ _=>k b c q,λb c q _ _ _=>⟨c.slots,k b c q⟩,λ_ _ _ n _=>n,λb c q _=>⟨c,k b c q⟩,λ_ _ q=>q,λ_ _ _ q=>q,λ_ ps q=>⟨#[],by rw[q];simp⟩⟩
def Un.refl:Un fs ex H H h h:=Un.kept λ_ _ q=>q
theorem Un.laid(k:∀b u,h.get? b=some u->h'.get? b=some u)(U:h.objs.size<=a)(c:H a=none):Un fs ex H (upd H a o) h h' where
 keep:=λb u q _ _ _=>k b u q
 slot:=λb u q _ _ _=>⟨u.slots,k b u q⟩
 free:=λb u q n _=>by rw[QN (A6 (Au (An q) U))];exact n
 there:=λb u q _=>⟨u,k b u q⟩
 tups:=λb xs q=>by rw[QN (ZD q c)];exact q
 frzs:=λb u xs q=>by rw[QN (ZD q c)];exact q
 tbls:=λb ps q=>⟨#[],by rw[QN (ZD q c),q];simp⟩
theorem Un.write(d:Mut (H x))(j:e=x∨H e=some (.own x))(k:∀b u,b≠e->h.get? b=some u->h'.get? b=some u)(f:∃u,h'.get? e=some u):Un fs ex H (upd H x o) h h':=by
 have hx:∀b,H b=none->b≠x:=λb n z=>by subst z;rw[n]at d;exact d
 have i:∀b,H b=none->b≠e:=λb n z=>by
  subst z;rcases j with r|r
  ·exact hx b n r
  ·rw[n]at r;cases r
 have g:∀b u,H b=some u->¬ Mut (some u)->b≠x:=λb u q nm z=>by subst z;rw[q]at d;exact nm d
 refine⟨λb u q n _ _=>k b u (i b n) q,λb u q n _ _=>⟨u.slots,k b u (i b n) q⟩,λb u q n _=>by rw[QN (hx b n)];exact n,λb u q _=>?_,
  λb xs q=>by rw[QN (g b _ q λz=>z)];exact q,λb u xs q=>by rw[QN (g b _ q λz=>z)];exact q,λb ps q=>⟨#[],by rw[QN (g b _ q λz=>z),q];simp⟩⟩
 by_cases c:b=e
 ·subst c;exact f
 ·exact⟨u,k b u c q⟩
end
def trk(h:Heap)(H:Hp):List Addr:=(List.range h.objs.size).filter λa=>(H a).isSome
def K3(h:Heap)(H:Hp):Heap:=PySem.W.hideAll h (trk h H)
def BH(h:Heap)(H:Hp):(K3 h H).objs.size=h.objs.size:=PySem.W.hideAll_size _ _
theorem M2{h:Heap}{H:Hp}{b:Addr}{o:Obj}(e:h.get? b=some o)(n:H b=none):(K3 h H).get? b=some o :=
 PySem.W.hideAll_get _ e λa=>by have q:(H b).isSome=true:=(List.mem_filter.mp a).2;rw[n]at q;simp at q
theorem Ro{h:Heap}{H:Hp}{b:Addr}{o:Obj}(e:(K3 h H).get? b=some o):h.get? b=some o/\H b=none:=by
  have a:h.get? b=some o:=PySem.W.of_hideAll (trk h H) e;refine⟨a,?_⟩;cases q:H b with
  |none=>rfl
  |some x=>have c:b∈trk h H:=List.mem_filter.mpr ⟨Bm.mpr (An a),by simp[q]⟩;have z:(K3 h H).get? b=none:=PySem.W.hideAll_none (trk h H) c;rw[z]at e;cases e
def Kz(g h:Heap)(L:Addr):List (Addr×Obj):=(List.range h.objs.size).filterMap λa=>if a=L∨(g.get? a).isSome=true then none else (h.get? a).map λo=>(a,o)
theorem VN{g h:Heap}{L:Addr}{p:Addr×Obj}(U:p∈Kz g h L):p.1≠L/\g.get? p.1=none/\h.get? p.1=some p.2:=by
  obtain⟨b,_,e⟩:=List.mem_filterMap.mp U;split at e
  . cases e
  . rename_i a
    cases q:h.get? b with
    |none=>rw[q]at e;simp at e
    |some u =>
      rw[q]at e;simp only[Option.map_some,Option.some.injEq]at e;subst e;refine⟨λz=>a (.inl z),?_,q⟩;show g.get? b=none;cases r:g.get? b with
      |none=>rfl
      |some v=>exact(a (.inr (by simp[r]))).elim
def rest(g h:Heap)(L d:Addr):List (Addr×Obj):=(Kz g h L).filter λp=>decide (p.1≠d)
def Wi{g h:Heap}{L:Addr}:News g L h (Kz g h L):=λp U=>let ⟨a,b,c⟩:=VN U;⟨c,a,b⟩
structure Mod(K:Aa)(mg:Cg)(O8:Heap):Prop where
 kin:K.In O8
 glob:O8.Ns mainGlobals mg
 blt:∃mb,O8.Ns builtinsNs mb/\∀x:Str,x ≠ "__name__" -> mb x=bootBuiltins x
 nolimit:O8.NoLimit
structure Cx where
 prog:Program
 w:World
 K:Aa
 mg:Str->Option Value
 O8:Heap
 A:Around
 N:List Str
 s₀:Shared
 H₀:Hp
 env:Env
 outer:List Env
 stack:List Env
 ex:List Addr
 fn:Str->Bool
 calm:Bool
 pn:List (Addr×Obj)
 xe:Value->Shared->Prop
def frs(l:List Env):List Addr:=l.filterMap (·.frame)
abbrev Cx.fs(X:Cx):List Addr:=frs X.outer
def Vis(a:Scope)(x:Str):Prop:=a.names.lookup x=some .local∨a.names.lookup x=some .cell∨a.names.lookup x=some .free
def Loc(a:Scope)(x:Str):Prop:=a.names.lookup x=some .local∨a.names.lookup x=some .cell
def HJ(env:Env)(h:Heap)(m:Cg)(x:Str)(u:Value):Prop :=
 (env.kindOf x=some .local/\m x=some u)∨((env.kindOf x=some .cell∨env.kindOf x=some .free)/\∃c,env.cells.lookup x=some c/\h.IsCell c (some u))
structure Cx.Ok(X:Cx):Prop where
 mod:Mod X.K X.mg X.O8
 kind:X.env.scope.kind=.function
 glob:X.env.globals=mainGlobals
 blt:X.env.builtins=builtinsNs
 above:X.s₀.heap.objs.size<=X.env.locals
 inj:∀x y c,X.env.cells.lookup x=some c->X.env.cells.lookup y=some c->x=y
 has:∀x,(X.env.kindOf x=some .cell∨X.env.kindOf x=some .free)->∃c,X.env.cells.lookup x=some c
 cab:∀x c,X.fn x=true->X.env.cells.lookup x=some c->X.s₀.heap.objs.size<=c
 hd:X.calm=true->X.A.handled=none
 frames:X.A.frames=some X.stack
 stk:X.stack=X.outer∨(X.stack=X.env::X.outer/\X.env.frame=some X.env.locals)
 exf:∀b∈X.ex,b≠X.env.locals/\∀x c,X.env.cells.lookup x=some c->c≠b
 bs:∀b o,X.O8.get? b=some o->X.s₀.heap.get? b=some o/\X.H₀ b=none
 bsz:X.O8.objs.size<=X.s₀.heap.objs.size
 noex:∀b o,X.O8.get? b=some o->b∉X.ex
 exfs:∀b∈X.ex,b∉X.fs
 funs:X.s₀.heap.FunFrames X.O8 X.outer
 frf:∀b∈X.fs,X.H₀ b=none
structure Inv(X:Cx)(O9:Cf)(σ:List (Option V))(H:Hp)(s:Shared):Prop where
 ok:X.Ok
 os:s.os=X.s₀.os
 bare:AllBare s.gens
 O8:Un X.fs X.ex X.H₀ H X.s₀.heap s.heap
 loc:∃m,s.heap.Ns X.env.locals m/\∀(i:Nat)(x:Str)(v:V),X.N[i]?=some x->σ[i]?=some (some v)->Vis X.env.scope x->∃u,RelV v u/\HJ X.env s.heap m x u
 cell:∀x c,X.env.cells.lookup x=some c->∃v,s.heap.IsCell c v
 free:H X.env.locals=none
 freeC:∀x c,X.env.cells.lookup x=some c->H c=none
 pin:∀p∈X.pn++O9,s.heap.get? p.1=some p.2/\H p.1=none/\p.1≠X.env.locals/\p.1∉X.fs/\∀v,p.2.data≠.cell v
 hok:HOk X.prog X.w H s.heap
 len:σ.length=X.N.length
section
variable{X:Cx}{O9:Cf}{σ:List (Option V)}{H H':Hp}{s:Shared}{h':Heap}
theorem Cx.Ok.nofr(ok:X.Ok){b:Addr}{o:Obj}(e:X.O8.get? b=some o):b∉X.fs:=λa=>by have:=(ok.funs.mem a).1;rw[e]at this;cases this
theorem Inv.bs(I:Inv X O9 σ H s):∀b o,X.O8.get? b=some o->s.heap.get? b=some o/\H b=none:=λb o e =>
 ⟨I.O8.keep b o (I.ok.bs b o e).1 (I.ok.bs b o e).2 (I.ok.nofr e) (I.ok.noex b o e),I.O8.free b o (I.ok.bs b o e).1 (I.ok.bs b o e).2 (I.ok.noex b o e)⟩
def Inv.bk(I:Inv X O9 σ H s):∀b o,X.O8.get? b=some o->s.heap.get? b=some o:=λb o e=>(I.bs b o e).1
def Inv.mod(I:Inv X O9 σ H s):Mod X.K X.mg X.O8:=I.ok.mod
def Inv.kIn(I:Inv X O9 σ H s):X.K.In s.heap:=I.ok.mod.kin.keeps I.bk
theorem Inv.fr(I:Inv X O9 σ H s):∃m,Fr X.O8 X.env.locals s.heap m :=
 let ⟨m,a,_⟩:=I.loc
 ⟨m,a,I.bk,A8 I.ok.bsz I.ok.above⟩
def Inv.lt(I:Inv X O9 σ H s):X.env.locals<s.heap.objs.size:=let ⟨_,a,_⟩:=I.loc;a.lt
def Inv.sz(I:Inv X O9 σ H s):X.s₀.heap.objs.size<=s.heap.objs.size:=A8 I.ok.above (Nat.le_of_lt I.lt)
theorem Inv.nofs(I:Inv X O9 σ H s){a:Addr}(h:s.heap.objs.size<=a):a∉X.fs:=λc=>by obtain⟨_,o,d,_⟩:=I.ok.funs.mem c;exact absurd (Au (An d) (A8 I.sz h)) (Bt _)
theorem Inv.cne(I:Inv X O9 σ H s):∀x c,X.env.cells.lookup x=some c->c≠X.env.locals:=λx c e z=>by obtain⟨v,o,f,hd⟩:=I.cell x c e;obtain⟨m,⟨o',h,g,d,a,_⟩,_⟩:=I.loc;rw[z,d]at f;cases f;rw[a]at hd;cases hd
theorem Inv.funs(I:Inv X O9 σ H s):s.heap.FunFrames X.O8 X.outer:=by
  have all:∀(l:List Env),(∀b∈frs l,b∈X.fs)->X.s₀.heap.FunFrames X.O8 l->s.heap.FunFrames X.O8 l:=by
    intro l;induction l with
    |nil=>intro _ _;trivial
    |cons env r m=>intro d g;obtain⟨f,⟨L,o,hf,h,i,hd⟩,j⟩:=g;have a:L∈X.fs:=d L (by unfold frs;rw[List.filterMap_cons,hf];exact Bz);obtain⟨n,e⟩:=I.O8.slot L o i (I.ok.frf L a) a λz=>I.ok.exfs L z a;exact⟨f,⟨L,_,hf,h,e,hd⟩,m (λb c=>d b (by unfold frs;rw[List.filterMap_cons,hf];exact At _ c)) j⟩
  exact all X.outer (λ_ c=>c) I.ok.funs
theorem Inv.stack(I:Inv X O9 σ H s):s.heap.FunFrames X.O8 X.stack:=by
 rcases I.ok.stk with e|⟨e,hf⟩
 ·rw[e];exact I.funs
 ·rw[e];obtain⟨m,a,_⟩:=I.loc;refine .cons (by rw[I.ok.kind];decide) hf a ?_ I.funs;exact Heap.get?_none_of_le (A8 I.ok.bsz I.ok.above)
theorem Inv.stkSub(I:Inv X O9 σ H s):∀b∈frs X.stack,b∈X.env.locals::X.fs:=λb a=>by
 rcases I.ok.stk with e|⟨e,hf⟩
 ·rw[e]at a;exact At _ a
 ·rw[e]at a;unfold frs at a;rw[List.filterMap_cons,hf]at a;exact a
theorem Inv.stkFree(I:Inv X O9 σ H s):∀b∈frs X.stack,H b=none:=λb a=>by
 rcases A9.mp (I.stkSub b a)with e|a
 ·rw[e];exact I.free
 ·obtain⟨_,o,c,_⟩:=I.ok.funs.mem a;exact I.O8.free b o c (I.ok.frf b a) λz=>I.ok.exfs b z a
theorem Inv.step{g':Array GenState}{t':Nat}{d':Drawn}{ch:Cj}(I:Inv X O9 σ H s)
  (hch:∀b∈ch,(b∈X.ex∨X.s₀.heap.objs.size<=b)/\b≠X.env.locals/\(∀x c,X.env.cells.lookup x=some c->c≠b)/\∀p∈X.pn++O9,p.1≠b)
  (keep:∀b o,b≠X.env.locals->b∉X.fs->b∉ch->s.heap.get? b=some o->H b=none->h'.get? b=some o)
  (slot:∀b o,b≠X.env.locals->b∈X.fs->b∉ch->s.heap.get? b=some o->H b=none->∃C,h'.get? b=some { o with slots:=C }) (free:∀b o,b∉ch->s.heap.get? b=some o->H b=none->H' b=none)
  (there:∀b o,b∉ch->s.heap.get? b=some o->∃o',h'.get? b=some o')
  (tups:∀b xs,H b=some (.tup xs)->H' b=some (.tup xs)) (frzs:∀b o u,H b=some (.frz o u)->H' b=some (.frz o u)) (tbls:∀b ps,H b=some (.tbl ps)->∃more,H' b=some (.tbl (ps++more)))
  (ns:∀m,s.heap.Ns X.env.locals m->h'.Ns X.env.locals m) (hok:HOk X.prog X.w H' h') (hg:AllBare g') :
  Inv X O9 σ H' { s with heap:=h',gens:=g',drawn:=d',toks:=t' }:=by
 have y:∀b o,X.s₀.heap.get? b=some o->b≠X.env.locals:=λb o e=>A6 (Au (An e) I.ok.above);have g:∀b o,X.s₀.heap.get? b=some o->b∉X.ex->b∉ch:=λb o e hx h=>by
  rcases(hch b h).1 with z|z
  ·exact hx z
  ·exact absurd (Au (An e) z) (Bt _)
 have cellK:∀x c,X.env.cells.lookup x=some c->∀v,s.heap.IsCell c v->h'.IsCell c v:=λx c e v ⟨o,j,hd⟩=>by
  have a:c∉ch:=λz=>(hch c z).2.2.1 x c e rfl;by_cases F:c∈X.fs
  ·obtain⟨C,q⟩:=slot c o (I.cne x c e) F a j (I.freeC x c e);exact⟨_,q,hd⟩
  ·exact⟨o,keep c o (I.cne x c e) F a j (I.freeC x c e),hd⟩
 refine⟨I.ok,I.os,hg,⟨λb o e n h hx=>?_,λb o e n h hx=>?_,λb o e n hx=>?_,λb o e hx=>?_,λb xs e=>tups b xs (I.O8.tups b xs e),λb o xs e=>frzs b o xs (I.O8.frzs b o xs e),λb ps e=>?_⟩,?_,λx c e=>?_,?_,λx c e=>?_,λp U=>?_,hok,I.len⟩
 ·exact keep b o (y b o e) h (g b o e hx) (I.O8.keep b o e n h hx) (I.O8.free b o e n hx)
 ·obtain⟨C,f⟩:=I.O8.slot b o e n h hx;obtain⟨E,t⟩:=slot b _ (y b o e) h (g b o e hx) f (I.O8.free b o e n hx);exact⟨E,t⟩
 ·obtain⟨o',f⟩:=I.O8.there b o e hx;exact free b o' (g b o e hx) f (I.O8.free b o e n hx)
 ·obtain⟨o',f⟩:=I.O8.there b o e hx;exact there b o' (g b o e hx) f
 ·obtain⟨P,f⟩:=I.O8.tbls b ps e;obtain⟨Q,t⟩:=tbls b _ f;exact⟨P++Q,by rw[t,Array.append_assoc]⟩
 ·obtain⟨m,O,L⟩:=I.loc;refine⟨m,ns m O,λi x v f t J=>?_⟩;obtain⟨u,r,l⟩:=L i x v f t J;refine⟨u,r,?_⟩;rcases l with l|⟨k,c,e,z⟩
  ·exact .inl l
  ·exact .inr ⟨k,c,e,cellK x c e _ z⟩
 ·obtain⟨v,z⟩:=I.cell x c e;exact⟨v,cellK x c e v z⟩
 ·obtain⟨m,⟨o,_,_,j,_⟩,_⟩:=I.loc;exact free _ o (λz=>(hch _ z).2.1 rfl) j I.free
 ·obtain⟨v,o,j,hd⟩:=I.cell x c e;exact free c o (λz=>(hch c z).2.2.1 x c e rfl) j (I.freeC x c e)
 ·obtain⟨e,n,ne,G,d⟩:=I.pin p U;have a:p.1∉ch:=λz=>(hch p.1 z).2.2.2 p U rfl;exact⟨keep p.1 p.2 ne G a e n,free p.1 p.2 a e n,ne,G,d⟩
theorem Inv.un{t':Nat}(I:Inv X O9 σ H s)(u:Un X.fs [] H H' s.heap h')(hok:HOk X.prog X.w H' h'):Inv X O9 σ H' { s with heap:=h',toks:=t' }:=by
 obtain⟨m,⟨o,q,l,g,r⟩,_⟩:=id I.loc;obtain⟨v,h⟩:=u.any g I.free (by simp);exact I.step (g':=s.gens) (d':=s.drawn) (ch:=[]) (λ_ z=>nomatch z) (λb o _ f _ e n=>u.keep b o e n f (by simp)) (λb o _ f _ e n=>u.slot b o e n f (by simp)) (λb o _ e n=>u.free b o e n (by simp)) (λb o _ e=>u.there b o e (by simp)) u.tups u.frzs u.tbls (λt i=>by obtain⟨o',d,c,a,j⟩:=i;rw[g]at a;cases a;exact⟨_,d,c,h,j⟩) hok I.bare
theorem Inv.call{g':Array GenState}{t':Nat}{d':Drawn}{ch:Cj}(I:Inv X O9 σ H s)(u:Un (frs X.stack) ch H H' s.heap h')(hok:HOk X.prog X.w H' h')(l:AllBare g')
  (hch:∀b∈ch,(b∈X.ex∨X.s₀.heap.objs.size<=b)/\b≠X.env.locals/\(∀x c,X.env.cells.lookup x=some c->c≠b)/\∀p∈X.pn++O9,p.1≠b) :
  Inv X O9 σ H' { s with heap:=h',gens:=g',drawn:=d',toks:=t' }:=by
 obtain⟨m,⟨o,y,v,i,r⟩,_⟩:=id I.loc;obtain⟨E,h⟩:=u.any i I.free λz=>(hch _ z).2.1 rfl;exact I.step (ch:=ch) hch (λb o h j a e n=>u.keep b o e n (λz=>(A9.mp (I.stkSub b z)).elim h j) a) (λb o _ _ a e n=>u.any e n a) (λb o a e n=>u.free b o e n a) (λb o a e=>u.there b o e a) u.tups u.frzs u.tbls (λC q=>by obtain⟨o',g,f,d,t⟩:=q;rw[i]at d;cases d;exact⟨_,g,f,h,t⟩) hok l
theorem Inv.turned{t':Nat}{a:Addr}(I:Inv X O9 σ H s)(k:∀b o,b≠a->s.heap.get? b=some o->h'.get? b=some o)(t:H a=none)(g:a≠X.env.locals)
  (h1:a∈X.ex∨X.s₀.heap.objs.size<=a) (h2:∀x c,X.env.cells.lookup x=some c->c≠a) (h3:∀p∈X.pn++O9,p.1≠a):Inv X O9 σ H { s with heap:=h',toks:=t' }:=by
 have f:∀b u,H b=some u->b≠a:=λb u e z=>by rw[z,t]at e;cases e
 refine I.step (g':=s.gens) (d':=s.drawn) (ch:=[a]) (λb j=>?_) (λb o _ _ d e _=>k b o (λz=>d (by simp[z])) e) (λb o _ _ d e _=>⟨o.slots,k b o (λz=>d (by simp[z])) e⟩) (λ_ _ _ _ n=>n)
  (λb o d e=>⟨o,k b o (λz=>d (by simp[z])) e⟩) (λ_ _ e=>e) (λ_ _ _ e=>e) (λb ps e=>⟨#[],by rw[e];simp⟩) (λm l=>?_) (λb u e=>?_) I.bare
 ·have e:b=a:=by simpa using j
  subst e;exact⟨h1,g,h2,h3⟩
 ·obtain⟨o,i,h,y,r⟩:=l;exact⟨o,i,h,k _ o (Ne.symm g) y,r⟩
 ·refine(I.hok b u e).stay (λc v d q=>k c v ?_ q) (λ_ q=>q) λ_ _ q=>q;rcases d with z|z
  ·rw[z];exact f b u e
  ·exact f c _ z
def Inv.tok(I:Inv X O9 σ H s)(t:Nat):Inv X O9 σ H { s with toks:=t }:=I.un (h':=s.heap) (t':=t) Un.refl I.hok
def Inv.kept{t':Nat}(I:Inv X O9 σ H s)(k:∀b u,s.heap.get? b=some u->h'.get? b=some u):Inv X O9 σ H { s with heap:=h',toks:=t' }:=I.un (Un.kept k) (I.hok.kept k)
theorem Inv.laid{a:Addr}{o:HO}{t':Nat}(I:Inv X O9 σ H s)(k:∀b u,s.heap.get? b=some u->h'.get? b=some u)(U:s.heap.objs.size<=a)(new:ObjOk X.prog X.w (upd H a o) h' a o) :
  Inv X O9 σ (upd H a o) { s with heap:=h',toks:=t' }:=I.un (Un.laid k U (I.hok.fresh U)) (I.hok.laid k U new)
theorem Inv.write{x e:Addr}{o:HO}{t':Nat}(I:Inv X O9 σ H s)(d:Mut (H x))(c:e=x∨H e=some (.own x))(k:∀b u,b≠e->s.heap.get? b=some u->h'.get? b=some u)(a:∃u,h'.get? e=some u)
  (new:ObjOk X.prog X.w (upd H x o) h' x o):Inv X O9 σ (upd H x o) { s with heap:=h',toks:=t' }:=I.un (Un.write d c k a) (I.hok.write d c k a new)
theorem Inv.pins_of{a:Cf}(I:Inv X O9 σ H s)(h:∀p∈a,s.heap.get? p.1=some p.2/\H p.1=none/\p.1≠X.env.locals/\p.1∉X.fs/\∀v,p.2.data≠.cell v):Inv X a σ H s :=
 ⟨I.ok,I.os,I.bare,I.O8,I.loc,I.cell,I.free,I.freeC,λp U=>(Ag.mp U).elim (λz=>I.pin p (List.mem_append_left _ z)) (h p),I.hok,I.len⟩
theorem vf{N:List Str}(e:N.Nodup){i j:Nat}{x:Str}(a:N[i]?=some x)(b:N[j]?=some x):i=j:=by obtain⟨f,c⟩:=Ac.mp a;obtain⟨g,d⟩:=Ac.mp b;exact(List.getElem_inj e).mp (c.trans d.symm)
theorem Km{M:Model}{A:Around}{E:Ce}{i:Nat}{x:Str}{v:V}{u:Value}{Q:Unit->Shared->Prop}(I:Inv X O9 σ H s)(hN:X.N.Nodup)(hi:X.N[i]?=some x)(hx:Loc X.env.scope x)(r:RelV v u)
  (h:∀s',Inv X O9 (σ.set i (some v)) H s'->(∃a,Heap.SameBut a s.heap s'.heap/\(a=X.env.locals∨X.env.cells.lookup x=some a))->Q () s') (hf:X.fn x=true∨X.env.scope.names.lookup x=some .local:=by first|exact .inl rfl|exact .inr rfl|assumption):wpAny M A (storeName X.env x u) Q E s:=by
 obtain⟨m,hn,hl⟩:=id I.loc;have R:(X.env.scope.kind==.class||(X.env.scope.kind==.module&&X.env.locals != X.env.globals))=false:=by rw[I.ok.kind];rfl
 have hiσ:i<σ.length:=by rw[I.len];exact(Ac.mp hi).1
 have cne:=I.cne;have tracked:∀{a:Addr}{h':Heap},(∃o,s.heap.get? a=some o/\H a=none)->Heap.SameBut a s.heap h'->HOk X.prog X.w H h':=λ{a h'} ha f b ob e=>by
  obtain⟨_,_,t⟩:=ha;refine(I.hok b ob e).stay (λc Z l q=>(f.2 c ?_).trans q) (λ_ q=>q) λ_ _ q=>q;rintro rfl;rcases l with rfl|l
  ·rw[t]at e;cases e
  ·rw[t]at l;cases l
 rcases hx with F|F
 ·refine wpAny_storeName_local F hn (λh' ab f=>?_) R;obtain⟨oL,_,_,ac,_⟩:=id hn;refine h _ ⟨I.ok,I.os,I.bare,⟨λb o e n G hx=>?_,λb o e n G hx=>?_,I.O8.free,λb o e hx=>?_,I.O8.tups,I.O8.frzs,I.O8.tbls⟩,⟨_,ab,λj y v' g C e3=>?_⟩,λy c e=>?_,I.free,I.freeC,λp U=>?_,tracked ⟨oL,ac,I.free⟩ f,by simpa using I.len⟩ ⟨_,f,.inl rfl⟩
  ·exact(f.2 b (A6 (Au (An e) I.ok.above))).trans (I.O8.keep b o e n G hx)
  ·obtain⟨sl,g⟩:=I.O8.slot b o e n G hx;exact⟨sl,(f.2 b (A6 (Au (An e) I.ok.above))).trans g⟩
  ·obtain⟨o',g⟩:=I.O8.there b o e hx;exact⟨o',(f.2 b (A6 (Au (An e) I.ok.above))).trans g⟩
  ·by_cases L:j=i
   ·subst L;rw[hi]at g;cases g;rw[Aq hiσ]at C;cases C;exact⟨u,r,.inl ⟨F,by simp⟩⟩
   ·rw[Aj (Ne.symm L)]at C;obtain⟨u',r',q⟩:=hl j y v' g C e3;refine⟨u',r',?_⟩;rcases q with ⟨k,e⟩|⟨k,c,e,z⟩
    ·refine .inl ⟨k,?_⟩;have:y≠x:=λe=>L (vf hN g (e▸hi));simp[this,e]
    ·exact .inr ⟨k,c,e,z.sameBut f (cne y c e)⟩
  ·obtain⟨Z,z⟩:=I.cell y c e;exact⟨Z,z.sameBut f (cne y c e)⟩
  ·obtain⟨e,n,ne,nf,d⟩:=I.pin p U;exact⟨(f.2 p.1 ne).trans e,n,ne,nf,d⟩
 ·have J:X.fn x=true:=by
   rcases hf with z|z
   ·exact z
   ·rw[z]at F;cases F
  obtain⟨c,l⟩:=I.ok.has x (.inl F);obtain⟨Z,z⟩:=I.cell x c l;refine wpAny_storeName_cell I.ok.kind F l z (λh' O f=>?_);obtain⟨oc,S,T⟩:=id z;refine h { s with heap:=h' } ⟨I.ok,I.os,I.bare,⟨λb o e n G hx=>?_,λb o e n G hx=>?_,I.O8.free,λb o e hx=>?_,I.O8.tups,I.O8.frzs,I.O8.tbls⟩,⟨m,hn.sameBut f (Ne.symm (cne x c l)),λj y v' g C e3=>?_⟩,λy Y e=>?_,I.free,I.freeC,λp U=>?_,tracked ⟨oc,S,I.freeC x c l⟩ f,by simpa using I.len⟩ ⟨c,f,.inr l⟩
  ·exact(f.2 b (A6 (Au (An e) (I.ok.cab x c J l)))).trans (I.O8.keep b o e n G hx)
  ·obtain⟨sl,g⟩:=I.O8.slot b o e n G hx;exact⟨sl,(f.2 b (A6 (Au (An e) (I.ok.cab x c J l)))).trans g⟩
  ·obtain⟨o',g⟩:=I.O8.there b o e hx;exact⟨o',(f.2 b (A6 (Au (An e) (I.ok.cab x c J l)))).trans g⟩
  ·by_cases L:j=i
   ·subst L;rw[hi]at g;cases g;rw[Aq hiσ]at C;cases C;exact⟨u,r,.inr ⟨.inl F,c,l,O⟩⟩
   ·rw[Aj (Ne.symm L)]at C;obtain⟨u',r',q⟩:=hl j y v' g C e3;refine⟨u',r',?_⟩;rcases q with q|⟨k,Y,e,z'⟩
    ·exact .inl q
    ·refine .inr ⟨k,Y,e,z'.sameBut f ?_⟩;rintro rfl;exact L (vf hN g (I.ok.inj _ _ _ e l▸hi))
  ·by_cases P:Y=c
   ·subst P;exact⟨_,O⟩
   ·obtain⟨w2,z2⟩:=I.cell y Y e;exact⟨w2,z2.sameBut f P⟩
  ·obtain⟨e,n,ne,nf,d⟩:=I.pin p U;refine⟨(f.2 p.1 ?_).trans e,n,ne,nf,d⟩;intro q;rw[q,S]at e;have q':oc=p.2:=Ai e;exact d Z (by rw[<- q'];exact T)
theorem vO{M:Model}{A:Around}{E:Ce}{i:Nat}{x:Str}{v:V}{u:Value}{Q:Unit->Shared->Prop}(I:Inv X O9 σ H s)(a:X.N.Nodup)(hi:X.N[i]?=some x)(hx:Loc X.env.scope x)(r:RelV v u)
  (h:∀s',Inv X O9 (σ.set i (some v)) H s'->Q () s') (hf:X.fn x=true∨X.env.scope.names.lookup x=some .local:=by first|exact .inl rfl|exact .inr rfl|assumption):wpAny M A (storeName X.env x u) Q E s :=
 Km I a hi hx r (λs' I' _=>h s' I') hf
theorem Inv.call'{s':Shared}{ch:Cj}(I:Inv X O9 σ H s)(d:s'.os=s.os)(u:Un (frs X.stack) ch H H' s.heap s'.heap)(hok:HOk X.prog X.w H' s'.heap)(a:AllBare s'.gens)
  (hch:∀b∈ch,(b∈X.ex∨X.s₀.heap.objs.size<=b)/\b≠X.env.locals/\(∀x c,X.env.cells.lookup x=some c->c≠b)/\∀p∈X.pn++O9,p.1≠b):Inv X O9 σ H' s':=by
 obtain⟨h',g',d',t',o'⟩:=s';have e:o'=s.os:=d;subst e;exact I.call (g':=g') (t':=t') (d':=d') u hok a hch
end
abbrev XK:=Value->Option Addr->Hp->Prop
abbrev St:=List (Option V)
abbrev VK:=V->Hp->Prop
abbrev TE:=St->Hp->VK->Prop
abbrev TT:=St->Hp->(Bool->Hp->Prop)->Prop
abbrev TA:=St->Hp->(List V->Hp->Prop)->Prop
structure Kq where
 nx:St->Hp->Prop
 rt:VK
 bk:St->Hp->Prop:=λ_ _=>False
 ct:St->Hp->Prop:=λ_ _=>False
abbrev TS:=Kq->St->Hp->Prop
def EP(X:Cx)(a:Cf)(σ:St)(Q:VK)(u:Value)(s':Shared):Prop:=∃v H',Inv X a σ H' s'/\RelV v u/\Q v H'
def TP(X:Cx)(c:Cf)(σ:St)(Q:Bool->Hp->Prop)(b:Bool)(s':Shared):Prop:=∃a,Inv X c σ a s'/\Q b a
def AP(X:Cx)(a:Cf)(σ:St)(Q:List V->Hp->Prop)(us:List Value)(s':Shared):Prop:=∃vs H',Inv X a σ H' s'/\Vals vs us/\Q vs H'
def SP(X:Cx)(a:Cf)(D:Kq)(f:Flow)(s':Shared):Prop :=
 match f with
 |.next=>∃σ' H',Inv X a σ' H' s'/\D.nx σ' H'
 |.brk=>∃σ' H',Inv X a σ' H' s'/\D.bk σ' H'
 |.cont=>∃σ' H',Inv X a σ' H' s'/\D.ct σ' H'
 |.ret u=>∃v σ' H',Inv X a σ' H' s'/\RelV v u/\D.rt v H'
def PE(X:Cx)(e:Expr)(t:TE):Prop :=
 ∀(a:Cf)(s:Shared)(σ:St)(H:Hp)(Q:VK),Inv X a σ H s->t σ H Q->wpAny (model X.prog X.w) X.A (eval e X.env) (EP X a σ Q) X.xe s
def PT(X:Cx)(e:Expr)(t:TT):Prop :=
 ∀(O9:Cf)(s:Shared)(σ:St)(H:Hp)(Q:Bool->Hp->Prop),Inv X O9 σ H s->t σ H Q->wpAny (model X.prog X.w) X.A (isTrue e X.env (eval e X.env)) (TP X O9 σ Q) X.xe s
def PW(X:Cx)(e:Expr)(t:TT):Prop :=
 ∀(whole:Sem Value)(O9:Cf)(s:Shared)(σ:St)(H:Hp)(Q:Bool->Hp->Prop),Inv X O9 σ H s->t σ H Q->wpAny (model X.prog X.w) X.A (isTrue e X.env whole) (TP X O9 σ Q) X.xe s
def PA(X:Cx)(a:List Expr)(t:TA):Prop :=
 ∀(pos:Pos)(O9:Cf)(s:Shared)(σ:St)(H:Hp)(Q:List V->Hp->Prop),Inv X O9 σ H s->t σ H Q->wpAny (model X.prog X.w) X.A (spliced (backTo pos (starEach a X.env))) (AP X O9 σ Q) X.xe s
def PS(X:Cx)(c:Stmt)(t:TS):Prop :=
 ∀(a:Cf)(s:Shared)(σ:St)(H:Hp)(D:Kq),Inv X a σ H s->t D σ H->wpAny (model X.prog X.w) X.A (exec c X.env) (SP X a D) X.xe s
def PSs(X:Cx)(c:List Stmt)(t:TS):Prop :=
 ∀(a:Cf)(s:Shared)(σ:St)(H:Hp)(D:Kq),Inv X a σ H s->t D σ H->wpAny (model X.prog X.w) X.A (execs c X.env) (SP X a D) X.xe s
def thn{α:Type}{t:Sem α}{Q Q':α->Shared->Prop}{M:Model}{A:Around}{E:Ce}{s:Shared}(h:wpAny M A t Q E s)(c:∀a s,Q a s->Q' a s):wpAny M A t Q' E s:=wpAny_mono h c λ_ _ x=>x
section
variable{X:Cx}
theorem bin{a b:Expr}{i j:TE}(l:PE X a i)(m:PE X b j){d:Cf}{s:Shared}{σ:St}{H:Hp}{R:V->V->Hp->Prop}(I:Inv X d σ H s)(h:i σ H λx g=>j σ g λy c=>R x y c)
  {α:Type} {Q:α->Shared->Prop} {f:Value->Value->Sem α}
  (hf:∀v u e x y c,Inv X d σ c e->RelV x v->RelV y u->R x y c->wpAny (model X.prog X.w) X.A (f v u) Q X.xe e) :
  wpAny (model X.prog X.w) X.A (eval a X.env) (λv s₁=>wpAny (model X.prog X.w) X.A (eval b X.env) (λu s₂=>wpAny (model X.prog X.w) X.A (f v u) Q X.xe s₂) X.xe s₁) X.xe s:=by
 refine thn (l d s σ H _ I h) λv n ⟨x,g,I1,r1,q1⟩=>?_;refine thn (m d n σ g _ I1 q1) λu e ⟨y,c,I2,r2,q2⟩=>?_;exact hf v u e x y c I2 r1 r2 q2
def Lp(i:Nat):TE:=λσ H Q=>∃v,σ[i]?=some (some v)/\Q v H
def tC(v:V):TE:=λ_ H Q=>Q v H
theorem Mx{i:Nat}{x:Str}{j:Pos}(q:X.N[i]?=some x)(C:Vis X.env.scope x)(hd:(x==("__debug__" : Str))=false:=by decide)(g:(x==("__classdict__" : Str))=false:=by decide):PE X (.Name x j) (Lp i):=by
 intro o s σ H Q I h;obtain⟨v,e,h⟩:=h;obtain⟨m,z,t⟩:=I.loc;obtain⟨u,r,l⟩:=t i x v q e C;have d:EP X o σ Q u s:=⟨v,H,I,r,h⟩;rcases l with ⟨f,y⟩|⟨f,c,n,a⟩
 ·exact wpAny_Name (wpAny_loadName_local I.ok.kind f z y d) hd
 ·rcases f with f|f
  ·exact wpAny_Name (wpAny_loadName_cell I.ok.kind f n a d) hd
  ·exact wpAny_Name (wpAny_loadName_free I.ok.kind f n a d g) hd
def Ph{i j pos}:PE X (.Constant (.int i) j pos) (tC (.int i)):=λ_ _ _ H _ I h=>wpAny_Constant_int ⟨.int i,H,I.tok _,⟨_,rfl⟩,h⟩
def Nt{b j pos}:PE X (.Constant (.bool b) j pos) (tC (.bl b)):=λ_ _ _ H _ I h=>Constant_bool ⟨.bl b,H,I,rfl,h⟩
def Pb{j pos}:PE X (.Constant .none j pos) (tC .non):=λ_ _ _ H _ I h=>Constant_none ⟨.non,H,I,rfl,h⟩
def MF{x j pos}:PE X (.Constant (.str x) j pos) (tC (.str x)):=λ_ _ _ H _ I h=>Calls.Constant_str ⟨.str x,H,I.tok _,⟨_,rfl⟩,h⟩
def Gl(X:Cx)(x:Str):Prop:=X.env.kindOf x=some .globalImplicit
theorem Ge{E:Ce}{c:Cf}{s:Shared}{σ:St}{H:Hp}{x:Str}{u:Value}{a:Pos}{Q:Ce}(I:Inv X c σ H s)(d:Gl X x)(e:X.mg x=some u)(h:Q u s)
  (hd:(x==("__debug__" : Str))=false:=by decide):wpAny (model X.prog X.w) X.A (eval (.Name x a) X.env) Q E s :=
 Calls.Name_function_global I.ok.kind d (Calls.loadGlobal_global (by rw[I.ok.glob];exact I.mod.glob.keeps I.bk) e h) hd
theorem XM{E:Ce}{c:Cf}{s:Shared}{σ:St}{H:Hp}{x:Str}{u:Value}{a:Pos}{Q:Ce}(I:Inv X c σ H s)(f:Gl X x)(g:X.mg x=none)(i:bootBuiltins x=some u)(h:Q u s)
  (hn:x ≠ "__name__" := by decide) (hd:(x==("__debug__" : Str))=false:=by decide):wpAny (model X.prog X.w) X.A (eval (.Name x a) X.env) Q E s:=by
 obtain⟨j,d,e⟩:=I.mod.blt;exact Calls.Name_function_global I.ok.kind f (Calls.loadGlobal_builtin (by rw[I.ok.glob];exact I.mod.glob.keeps I.bk) g (by rw[I.ok.blt];exact d.keeps I.bk) ((e x hn).trans i) h) hd
theorem kU{x:Str}{v:V}{u:Value}{a:Pos}(c:Gl X x)(d:X.mg x=some u)(r:RelV v u)(hd:(x==("__debug__" : Str))=false:=by decide):PE X (.Name x a) (tC v) :=
 λ_ _ _ H _ I h=>Ge I c d ⟨v,H,I,r,h⟩ hd
theorem Ri{x:Str}{v:V}{u:Value}{a:Pos}(c:Gl X x)(d:X.mg x=none)(f:bootBuiltins x=some u)(r:RelV v u)(e:x ≠ "__name__" := by decide)(hd:(x==("__debug__" : Str))=false:=by decide):PE X (.Name x a) (tC v) :=
 λ_ _ _ H _ I h=>XM I c d f ⟨v,H,I,r,h⟩ e hd
variable{a b:Expr}{ta tb:TE}{pos:Pos}
def PC(X:Cx)(d:CmpOp)(a b:Expr)(t:TE):Prop :=
  ∀(c : List (Addr × Obj))(s : Shared)(σ : St)(H : Hp)(Q : VK), Inv X c σ H s -> t σ H Q ->
    wpAny (model X.prog X.w) X.A (eval a X.env) (λv s₁=>wpAny (model X.prog X.w) X.A (eval b X.env) (λu s₂=>wpAny (model X.prog X.w) X.A (compareOp d v u) (EP X c σ Q) X.xe s₂) X.xe s₁) X.xe s
theorem Wf(b:Expr){c:CmpOp}(h:c≠.In)(f:c≠.NotIn):behindInMarks c b=false:=by
 have d:(c==CmpOp.In)=false:=by cases c<;>first|rfl|exact absurd rfl h
 have e:(c==CmpOp.NotIn)=false:=by cases c<;>first|rfl|exact absurd rfl f
 cases b<;>simp[behindInMarks,d,e]
def tB(t:TE):TT:=λσ H Q=>t σ H λx H1=>∃c,x=.bl c/\Q c H1
theorem RA{f:CmpOp}{t:TE}(h:PC X f a b t)(e:behindInMarks f b=false:=by first|exact Wf _ (by decide) (by decide)|rfl):PT X (.Compare a [f] [b] pos) (tB t):=by intro g s σ H Q I hw;refine wpAny_isTrue_Compare1 (thn (h g s σ H _ I hw) λv j e=>thn e λu l i=>thn i λc m ⟨x,H1,I1,r1,q1⟩=>?_) e;obtain⟨d,rfl,q⟩:=q1;cases r1;exact wpAny_truthy_bool ⟨H1,I1,q⟩
theorem Mi{e:Expr}{t:TE}(h:PE X e t)(f:∀whole,isTrue e X.env whole=(do let v <- whole;standAt e.pos;holding [v] (truthy v)):=by intro _;rfl):PT X e (tB t):=by intro c s σ H Q I hw;refine isTrue_plain (thn (h c s σ H _ I hw) λv g ⟨x,H1,I1,r1,q1⟩=>?_) (f _);obtain⟨d,rfl,q⟩:=q1;cases r1;exact wpAny_truthy_bool ⟨H1,I1,q⟩
variable{tA tB':TT}{rest:List Expr}
def Iz(t u:TT):TT:=λσ H Q=>t σ H λc H1=>if c=true then u σ H1 Q else Q false H1
def tOr(t u:TT):TT:=λσ H Q=>t σ H λc H1=>if c=true then Q true H1 else u σ H1 Q
def Lx(t:TT):TT:=λσ H Q=>t σ H λc H1=>Q (!c) H1
theorem RP(d:PT X a tA):PW X (.BoolOp .And [a] pos) tA:=by
 intro g O9 s σ H Q I h;refine isTrue_and (thn (d O9 s σ H Q I h) λc f e=>?_);cases c with
 |true=>exact isTrue_and_nil e
 |false=>exact e
theorem Mg(d:PT X a tA):PW X (.BoolOp .Or [a] pos) tA:=by
 intro g O9 s σ H Q I h;refine isTrue_or (thn (d O9 s σ H Q I h) λc f e=>?_);cases c with
 |false=>exact isTrue_or_nil e
 |true=>exact e
theorem Mh(e:PT X a tA)(f:PW X (.BoolOp .And (b::rest) pos) tB'):PW X (.BoolOp .And (a::b::rest) pos) (Iz tA tB'):=by
 intro i O9 s σ H Q I h;refine isTrue_and (thn (e O9 s σ H _ I h) λc g ⟨d,I1,q1⟩=>?_);cases c with
 |true=>exact f i O9 g σ d Q I1 q1
 |false=>exact⟨d,I1,q1⟩
theorem Il(e:PT X a tA)(f:PW X (.BoolOp .Or (b::rest) pos) tB'):PW X (.BoolOp .Or (a::b::rest) pos) (tOr tA tB'):=by
 intro i O9 s σ H Q I h;refine isTrue_or (thn (e O9 s σ H _ I h) λc g ⟨d,I1,q1⟩=>?_);cases c with
 |true=>exact⟨d,I1,q1⟩
 |false=>exact f i O9 g σ d Q I1 q1
theorem Mj(e:PT X a tA):PT X (.UnaryOp .Not a pos) (Lx tA):=by intro d s σ H Q I h;exact isTrue_not (e d s σ H (λc H1=>Q (!c) H1) I h)
def Ih(ta tb:TE):TE:=λσ H Q=>ta σ H λx H1=>∃c,x=.bl c/\if c=true then tb σ H1 Q else Q (.bl false) H1
def Lw(ta tb:TE):TE:=λσ H Q=>ta σ H λx H1=>∃c,x=.bl c/\if c=true then Q (.bl true) H1 else tb σ H1 Q
def Pa{op}{t:TE}(h:PE X a t):PE X (.BoolOp op [a] pos) t:=λc s σ H Q I d=>BoolOp_one (h c s σ H Q I d)
theorem Pn(f:PE X a ta)(g:PE X (.BoolOp .And (b::rest) pos) tb):PE X (.BoolOp .And (a::b::rest) pos) (Ih ta tb):=by
 intro e s σ H Q I h;refine BoolOp_and (thn (f e s σ H _ I h) λv i ⟨x,H1,I1,r1,d⟩=>?_);obtain⟨c,rfl,d⟩:=d;cases r1;refine wpAny_truthy_bool ?_;cases c with
 |true=>exact g e i σ H1 Q I1 d
 |false=>exact⟨.bl false,H1,I1,rfl,d⟩
theorem Np(f:PE X a ta)(g:PE X (.BoolOp .Or (b::rest) pos) tb):PE X (.BoolOp .Or (a::b::rest) pos) (Lw ta tb):=by
 intro e s σ H Q I h;refine BoolOp_or (thn (f e s σ H _ I h) λv i ⟨x,H1,I1,r1,d⟩=>?_);obtain⟨c,rfl,d⟩:=d;cases r1;refine wpAny_truthy_bool ?_;cases c with
 |false=>exact g e i σ H1 Q I1 d
 |true=>exact⟨.bl true,H1,I1,rfl,d⟩
def tIf(t:TT)(ta tb:TE):TE:=λσ H Q=>t σ H λc H1=>if c=true then ta σ H1 Q else tb σ H1 Q
theorem X_{c:Expr}(l:PT X c tA)(i:PE X a ta)(j:PE X b tb):PE X (.IfExp c a b pos) (tIf tA ta tb):=by
 intro e s σ H Q I h;refine wpAny_IfExp (thn (l e s σ H _ I h) λd g ⟨f,I1,q1⟩=>?_);cases d with
 |true=>exact i e g σ f Q I1 q1
 |false=>exact j e g σ f Q I1 q1
end
def SqL(K:Aa)(H:Hp)(a:Addr)(xs:List V):Prop :=
 Rd H a (.lst xs) ∨
  ∃(o:Obj) (c:Array Value) (n:Nat),K.lookup a=some o/\o.cls=.type "list" /\ o.dict=none/\o.data=.seq c n/\c.size<=sizeLine/\Vals xs c.toList
def SqT(K:Aa)(H:Hp)(a:Addr)(xs:List V):Prop :=
 Rd H a (.tup xs) ∨
  ∃(o:Obj) (c:Array Value) (n:Nat),K.lookup a=some o/\o.cls=.type "tuple" /\ o.data=.seq c n/\c.size<=sizeLine/\Vals xs c.toList
def HB:Value->Option V
 |.none=>some .non
 |.bool b=>some (.bl b)
 |.int i _=>some (.int i)
 |.str x _=>some (.str x)
 |.bytes b _=>some (.byt b)
 |.float b _=>some (.flt b)
 |.ref a=>some (.ref a)
 |.type n=>some (.ty n)
 |_=>none
theorem RelV.abs{x:V}{u:Value}(r:RelV x u):HB u=some x:=by
 cases x with
 |non=>cases r;rfl
 |bl _=>cases r;rfl
 |int _=>obtain⟨t,rfl⟩:=r;rfl
 |str _=>obtain⟨t,rfl⟩:=r;rfl
 |byt _=>obtain⟨t,rfl⟩:=r;rfl
 |flt _=>obtain⟨t,rfl⟩:=r;rfl
 |ref _=>cases r;rfl
 |ty _=>cases r;rfl
def RelV.inj{x y:V}{u:Value}(r:RelV x u)(q:RelV y u):x=y:=Ai (r.abs.symm.trans q.abs)
theorem Vals.inj:∀{xs ys:List V}{us:List Value},Vals xs us->Vals ys us->xs=ys
 |_,_,_,.nil,.nil=>rfl
 |_,_,_,.cons r t,.cons a t'=>by rw[r.inj a,Vals.inj t t']
section
variable{X:Cx}{O9:Cf}{σ:St}{H:Hp}{s:Shared}{a:Addr}{xs ys:List V}
def SqL.of{K:Aa}(h:H a=some (.lst xs)):SqL K H a xs:=.inl (.inl h)
def SqT.of{K:Aa}(h:H a=some (.tup xs)):SqT K H a xs:=.inl (.inl h)
theorem Inv.list(I:Inv X O9 σ H s)(h:SqL X.K H a xs):∃c:List Value,Vals xs c/\PlainL s.heap a c.toArray/\xs.length<=sizeLine:=by
 rcases h with h|⟨o,c,n,f,d,hd,g,hz,r⟩
 ·obtain⟨z,c,n,r,e⟩:=h.ok I.hok;exact⟨c,r,⟨_,n,e,rfl,rfl,rfl⟩,z⟩
 ·refine⟨c.toList,r,⟨o,n,I.kIn a o f,d,hd,by simpa using g⟩,?_⟩;have e:=r.length;simp only[Array.length_toList]at e;lia
theorem Inv.tuple(I:Inv X O9 σ H s)(h:SqT X.K H a xs):∃c:List Value,Vals xs c/\IsTup s.heap a c.toArray/\xs.length<=sizeLine:=by
 rcases h with h|⟨o,c,n,f,d,g,hz,r⟩
 ·obtain⟨z,c,r,p⟩:=h.ok I.hok;exact⟨c,r,p,z⟩
 ·refine⟨c.toList,r,⟨o,I.kIn a o f,d,n,by simpa using g⟩,?_⟩;have e:=r.length;simp only[Array.length_toList]at e;lia
theorem Inv.list_inj(I:Inv X O9 σ H s)(h:SqL X.K H a xs)(h':SqL X.K H a ys):xs=ys:=by
 obtain⟨c,r,⟨o,n,e,_,_,d⟩,_⟩:=I.list h;obtain⟨its',i,⟨o',j,f,_,_,d'⟩,_⟩:=I.list h';rw[e]at f;cases f;rw[d]at d';injection d' with g _;have:c=its':=by simpa using congrArg Array.toList g
 subst this;exact r.inj i
theorem Inv.tuple_inj(I:Inv X O9 σ H s)(h:SqT X.K H a xs)(h':SqT X.K H a ys):xs=ys:=by
 obtain⟨c,r,⟨o,e,_,n,d⟩,_⟩:=I.tuple h;obtain⟨its',i,⟨o',f,_,j,d'⟩,_⟩:=I.tuple h';rw[e]at f;cases f;rw[d]at d';injection d' with g _;have:c=its':=by simpa using congrArg Array.toList g
 subst this;exact r.inj i
end
abbrev Cx.wish(X:Cx)(E:Ce):Cx:={ X with xe:=E }
abbrev Cx.nox(X:Cx):Cx:=X.wish λ_ _=>False
theorem Cx.Ok.wish{X:Cx}(ok:X.Ok)(E:Ce):(X.wish E).Ok :=
 ⟨ok.mod,ok.kind,ok.glob,ok.blt,ok.above,ok.inj,ok.has,ok.cab,ok.hd,ok.frames,ok.stk,ok.exf,ok.bs,ok.bsz,ok.noex,ok.exfs,ok.funs,ok.frf⟩
theorem Cx.Ok.unwish{X:Cx}{E:Ce}(ok:(X.wish E).Ok):X.Ok :=
 ⟨ok.mod,ok.kind,ok.glob,ok.blt,ok.above,ok.inj,ok.has,ok.cab,ok.hd,ok.frames,ok.stk,ok.exf,ok.bs,ok.bsz,ok.noex,ok.exfs,ok.funs,ok.frf⟩
section
variable{X:Cx}{O9:Cf}{σ:St}{H:Hp}{s:Shared}{E:Ce}
def Inv.wish(I:Inv X O9 σ H s)(E:Ce):Inv (X.wish E) O9 σ H s:=⟨I.ok.wish E,I.os,I.bare,I.O8,I.loc,I.cell,I.free,I.freeC,I.pin,I.hok,I.len⟩
def Inv.unwish(I:Inv (X.wish E) O9 σ H s):Inv X O9 σ H s:=⟨I.ok.unwish,I.os,I.bare,I.O8,I.loc,I.cell,I.free,I.freeC,I.pin,I.hok,I.len⟩
theorem SP.unwish{D:Kq}{f:Flow}{s':Shared}(h:SP (X.wish E) O9 D f s'):SP X O9 D f s':=by
 cases f with
 |next=>obtain⟨σ',a,I,q⟩:=h;exact⟨σ',a,I.unwish,q⟩
 |brk=>obtain⟨σ',a,I,q⟩:=h;exact⟨σ',a,I.unwish,q⟩
 |cont=>obtain⟨σ',a,I,q⟩:=h;exact⟨σ',a,I.unwish,q⟩
 |ret u=>obtain⟨v,σ',a,I,r,q⟩:=h;exact⟨v,σ',a,I.unwish,r,q⟩
theorem PSs.nox{a:List Stmt}{t:TS}(h:PSs X.nox a t):PSs X a t:=λO9 s σ H D I c =>
 wpAny_mono (h O9 s σ H D (I.wish _) c) (λ_ _ q=>q.unwish) λ_ _ z=>False.elim z
end
section
variable{X:Cx}{st:Stmt}{rest:List Stmt}{t u:TS}{e:Expr}{te:TE}{pos:Pos}
def Ia:TS:=λD σ H=>D.nx σ H
def t_(t u:TS):TS:=λD σ H=>t { D with nx:=u D } σ H
def pss_nil:PSs X [] Ia:=λ_ _ σ H _ I h=>wpAny_execs_nil ⟨σ,H,I,h⟩
theorem W4(g:PS X st t)(i:PSs X rest u):PSs X (st::rest) (t_ t u):=by
  intro a s σ H D I h;refine wpAny_execs_cons (thn (g a s σ H { D with nx:=u D } I h) λf j q=>?_);cases f with
  |next=>obtain⟨σ',c,d,q⟩:=q;exact i a j σ' c D d q
  |ret v=>exact q
  |brk=>exact q
  |cont=>exact q
theorem RZ(c:PS X st t):PSs X [st] t:=by
 intro a s σ H D I h;refine wpAny_execs_cons (thn (c a s σ H D I h) λf d q=>?_);cases f with
 |next=>exact wpAny_execs_nil q
 |ret v=>exact q
 |brk=>exact q
 |cont=>exact q
theorem Inv.quiet{a:Cf}{σ:St}{H:Hp}{s:Shared}(I:Inv X a σ H s):interactive X.env=false:=by simp[interactive,I.ok.kind]
def Ib(te:TE):TS:=λD σ H=>te σ H λ_ H1=>D.nx σ H1
theorem Py(c:PE X e te)(d:swapsWith e none pos.line X.env=pure false:=by rfl):PS X (.Expr e pos) (Ib te):=by intro a s σ H D I h;exact wpAny_Expr_any (thn (c a s σ H _ I h) λv f ⟨x,H1,I1,r1,q1⟩=>⟨σ,H1,I1,q1⟩) I.quiet d
def Lr(te:TE):TS:=λD σ H=>te σ H D.rt
theorem Mp(c:PE X e te):PS X (.Return (some e) pos) (Lr te):=by intro a s σ H D I h;exact wpAny_Return_some (thn (c a s σ H _ I h) λv d ⟨x,H1,I1,r1,q1⟩=>⟨x,σ,H1,I1,r1,q1⟩)
def Ir(c:TT)(t u:TS):TS:=λD σ H=>c σ H λb H1=>if b=true then t D σ H1 else u D σ H1
theorem Im{c:Expr}{a b:List Stmt}{j:TT}(n:PT X c j)(l:PSs X a t)(m:PSs X b u):PS X (.If c a b pos) (Ir j t u):=by
 intro f s σ H D I h;refine wpAny_If (thn (n f s σ H _ I h) λd i ⟨g,I1,q1⟩=>?_);cases d with
 |true=>exact l f i σ g D I1 q1
 |false=>exact m f i σ g D I1 q1
def LK:TS:=λ_ _ _=>False
def W6:PS X st LK:=λ_ _ _ _ _ _ h=>h.elim
end
abbrev TG:=V->St->Hp->(St->Hp->Prop)->Prop
abbrev TGs:=List V->St->Hp->(St->Hp->Prop)->Prop
def PG(X:Cx)(target:Expr)(t:TG):Prop :=
  ∀(O9 : List (Addr × Obj))(s : Shared)(σ : St)(H : Hp)(v : V)(u : Value)(Q : St -> Hp -> Prop), Inv X O9 σ H s -> RelV v u -> t v σ H Q ->
    wpAny (model X.prog X.w) X.A (assign target X.env u) (λ_ s'=>∃σ' H',Inv X O9 σ' H' s'/\Q σ' H') X.xe s
def PGs(X:Cx)(a:List Expr)(t:TGs):Prop :=
  ∀(O9 : List (Addr × Obj))(s : Shared)(σ : St)(H : Hp)(vs : List V)(us : List Value)(Q : St -> Hp -> Prop), Inv X O9 σ H s -> Vals vs us -> t vs σ H Q ->
    wpAny (model X.prog X.w) X.A (assignInOrder ((assignEach a X.env).map (·.2)) us) (λ_ s'=>∃σ' H',Inv X O9 σ' H' s'/\Q σ' H') X.xe s
abbrev oJ:=V->V->V->Hp->(Hp->Prop)->Prop
def oM(X:Cx)(t:oJ):Prop :=
  ∀(O9 : List (Addr × Obj))(s : Shared)(σ : St)(H : Hp)(o i v : V)(ov iv u : Value)(Q : Hp -> Prop), Inv X O9 σ H s -> RelV o ov -> RelV i iv -> RelV v u -> t o i v H Q ->
    wpAny (model X.prog X.w) X.A (setItem ov iv u) (λ_ s'=>∃a,Inv X O9 σ a s'/\Q a) X.xe s
section
variable{X:Cx}{pos:Pos}
def kD(i:Nat):TG:=λv σ H Q=>Q (σ.set i (some v)) H
theorem Gm{i:Nat}{x:Str}(c:X.N.Nodup)(hi:X.N[i]?=some x)(hx:Loc X.env.scope x)(hf:X.fn x=true∨X.env.scope.names.lookup x=some .local:=by first|exact .inl rfl|exact .inr rfl|assumption):PG X (.Name x pos) (kD i):=by intro d s σ H v u Q I r h;exact wpAny_assign_Name (vO I c hi hx r (λs' a=>⟨_,H,a,h⟩) hf)
def Lk:TGs:=λvs σ H Q=>vs=[]/\Q σ H
def M8(t:TG)(u:TGs):TGs:=λvs σ H Q=>∃v r,vs=v::r/\t v σ H λσ' H'=>u r σ' H' Q
theorem P_:PGs X [] Lk:=by intro a s σ H vs us Q I r h;obtain⟨e,h⟩:=h;subst e;cases r;exact assignInOrder_nil ⟨σ,H,I,h⟩
theorem W9{e:Expr}{a:List Expr}{t:TG}{u:TGs}(f:PG X e t)(g:PGs X a u)
    (hs:(assignEach (e::a) X.env).map (·.2)=assign e X.env::(assignEach a X.env).map (·.2):=by rfl):PGs X (e::a) (M8 t u):=by
  intro c s σ H vs us Q I r h;obtain⟨v,l,d,h⟩:=h;subst d;cases r with
  |cons r i=>rw[hs];refine assignInOrder_cons (thn (f c s σ H _ _ _ I r h) λ_ j ⟨σ1,H1,I1,q1⟩=>?_);exact g c j σ1 H1 _ _ Q I1 i q1
def Li(K:Aa)(n:Nat)(t:TGs):TG:=λv σ H Q=>∃a xs,v=.ref a/\SqT K H a xs/\xs.length=n/\t xs σ H Q
theorem Mu{c:List Expr}{k:Nat}{t:TGs}{n:Nat}(l:X.calm=true)(h:PGs X c t)
  (hn:(assignEach c X.env).length=n:=by rfl) (hst:(assignEach c X.env).findIdx? (·.1)=none:=by rfl):PG X (.Tuple c k pos) (Li X.K n t):=by
 intro f s σ H v u Q I r d;obtain⟨a,xs,j,q,m,d⟩:=d;subst j;cases r;obtain⟨y,g,x,hz⟩:=I.tuple q;refine assign_Tuple_tuple (I.ok.hd l) x (by simp[hn,<- m,g.length]) hst λh' hx=>?_;have i:Inv X f σ H { s with heap:=h' }:=I.kept (t':=s.toks) λb o e=>hx b o (A6 (An e)) e;exact h f _ σ H xs _ Q i (by simpa using g) d
def Lj(to c:TE)(t:oJ):TG:=λv σ H Q=>to σ H λo H1=>c σ H1 λi H2=>t o i v H2 λa=>Q σ a
theorem Mv{o i:Expr}{to e:TE}{t:oJ}(g:PE X o to)(hi:PE X i e)(j:oM X t)
  (ha:∀v,assign (.Subscript o i pos) X.env v=(do
   let a <- holding [v] (eval o X.env)
   let c <- holding [v,a] (eval i X.env)
   standAt pos
   holding [v,a,c] (setItem a c v)
   release [v,a,c] []):=by intro _;rfl):PG X (.Subscript o i pos) (Lj to e t):=by
 intro d s σ H v u Q I r h;rw[ha];refine B0 (wpAny_holding (thn (g d s σ H _ I h) λa l ⟨x,H1,I1,r1,q1⟩=>?_));refine B0 (wpAny_holding (thn (hi d l σ H1 _ I1 q1) λc m ⟨y,H2,I2,r2,q2⟩=>?_));refine B0 (wpAny_standAt (B0 (wpAny_holding (thn (j d m σ H2 x y v a c u _ I2 r1 r2 r q2) λ_ n ⟨f,I3,q3⟩=>?_))));exact wpAny_release ⟨σ,f,I3,q3⟩
def oA(te:TE)(g:TG):TS:=λD σ H=>te σ H λx H1=>g x σ H1 D.nx
theorem Mr{a e:Expr}{te:TE}{g:TG}(d:PE X e te)(f:PG X a g)(i:swapsWithSole [a] e pos.line X.env=pure false:=by rfl)(j:swappedStores [a] e X.env=pure none:=by rfl)
  (h1:(assignEach [a] X.env).map (·.2)=[assign a X.env]:=by rfl):PS X (.Assign [a] e pos) (oA te g):=by
 intro c s σ H D I h;refine wpAny_Assign_stores (thn (d c s σ H _ I h) λv l ⟨x,H1,I1,r1,q1⟩=>?_) i j;rw[h1];exact thn (f c l σ H1 x v _ I1 r1 q1) λ_ m q=>q
theorem Ml{i:Nat}{x:Str}{e:Expr}{te:TE}{a:Pos}(f:X.N.Nodup)(hi:X.N[i]?=some x)(hx:Loc X.env.scope x)(g:PE X e te)(j:swapsWith e (some (.Name x a)) pos.line X.env=pure false:=by rfl)(hf:X.fn x=true∨X.env.scope.names.lookup x=some .local:=by first|exact .inl rfl|exact .inr rfl|assumption) :
  PS X (.Assign [.Name x a] e pos) (oA te (kD i)):=by
 intro d s σ H D I h;refine wpAny_Assign_Name (thn (g d s σ H _ I h) λv l ⟨y,H1,I1,r1,q1⟩=>?_) j;exact vO I1 f hi hx r1 (λm c=>⟨_,H1,c,q1⟩) hf
end
section
variable{X:Cx}{pos:Pos}
def LC(c:TT)(d:TS):TS:=λD σ H=>∃W:Nat->St->Hp->Prop,(∃m,W m σ H)/\∀m σ H,W m σ H ->
 c σ H λb H1=>if b=true then ∃N:St->Hp->Prop,(∀σ' H',N σ' H'->∃a,a<m/\W a σ' H')/\d { D with nx:=N,ct:=N,bk:=D.nx } σ H1 else D.nx σ H1
theorem W5{c:Expr}{body:List Stmt}{x:TT}{u:TS}(U:PassesOwn (model X.prog X.w) X.A X.env X.xe)(z:PT X c x)(y:PSs X body u):PS X (.While c body [] pos) (LC x u):=by
  intro j s σ H D I h;obtain⟨W,⟨C,G⟩,d⟩:=h;refine wpAny_While (codeAny_whileLoop (λn s'=>∃σ' H',Inv X j σ' H' s'/\W n σ' H') ?_ C ⟨σ,H,I,G⟩);rintro n E ⟨σ1,H1,I1,w1⟩;refine wpAny_passesOwn U (thn (z j E σ1 H1 _ I1 (d n σ1 H1 w1)) λb F ⟨r,I2,e⟩=>?_);cases b with
  |true =>
    obtain⟨N,t,e⟩:=e;rw[B8 rfl];refine wpAny_passesOwn U (thn (y j F σ1 r _ I2 e) λf J g=>?_);cases f with
    |next=>obtain⟨σ3,a,i,o⟩:=g;obtain⟨m,l,q⟩:=t σ3 a o;exact⟨m,l,σ3,a,i,q⟩
    |cont=>obtain⟨σ3,a,i,o⟩:=g;obtain⟨m,l,q⟩:=t σ3 a o;exact⟨m,l,σ3,a,i,q⟩
    |brk=>exact g
    |ret v=>exact g
  |false=>rw[B7 Bf];exact wpAny_execs_nil ⟨σ1,r,I2,e⟩
end
structure It where
 go:Nat->Hp->Prop
 yld:Nat->Hp->V->Hp->Prop
 stop:Nat->Hp->Prop
def yx(X:Cx)(a:Cf)(H:Hp)(b:Addr):Prop :=
 H b=none/\b≠X.env.locals/\b∉X.fs/\(b∈X.ex∨X.s₀.heap.objs.size<=b)/\(∀x c,X.env.cells.lookup x=some c->c≠b)/\∀p∈X.pn++a,p.1≠b
theorem Inv.fpOk{X:Cx}{d:Cf}{σ:St}{H H':Hp}{s:Shared}{b:Addr}(I:Inv X d σ H s)(a:s.heap.objs.size<=b)(f:H' b=none):yx X d H' b:=by
 refine⟨f,Bx (Au I.lt a),I.nofs a,.inr (A8 I.sz a),λx c e z=>?_,λp U z=>?_⟩
 ·obtain⟨v,q⟩:=I.cell x c e;exact absurd (Au q.lt (by rw[z];exact a)) (Bt _)
 ·exact absurd (Au (An (I.pin p U).1) (by rw[z];exact a)) (Bt _)
structure lQ(P:Program)(w:World)(K:Aa)(tg:Expr)(J:It)(fp:Cj)(it:Addr)(tn:Nat->Heap->Prop):Prop where
 mem:it∈fp
 obj:∀i h,tn i h->∀b∈fp,∃o,h.get? b=some o/\∀v,o.data≠.cell v
 keep:∀i h h',tn i h->(∀b∈fp,∀o,h.get? b=some o->h'.get? b=some o)->tn i h'
 item:∀(X:Cx),X.prog=P->X.w=w->X.K=K->X.calm=true->∀(i:Nat)(O9:Cf)(s:Shared)(σ:St)(H:Hp)(E:Ce),Inv X O9 σ H s->(∀b∈fp,yx X O9 H b)->tn i s.heap->J.go i H ->
  wpAny (model P w) X.A (pyNext (.ref it)) (λr s1=>∃u,r=some u /\
   wpAny (model P w) X.A (letOwnedTupleGo tg (.ref it) u) (λ_ s2=>∃x H',Inv X O9 σ H' s2/\RelV x u/\J.yld i H x H'/\tn (i+1) s2.heap/\∀b∈fp,H' b=none) E s1) E s
 done:∀(X:Cx),X.prog=P->X.w=w->X.K=K->X.calm=true->∀(i:Nat)(O9:Cf)(s:Shared)(σ:St)(H:Hp)(E:Ce),Inv X O9 σ H s->(∀b∈fp,yx X O9 H b)->tn i s.heap->J.stop i H ->
  wpAny (model P w) X.A (pyNext (.ref it)) (λr s1=>r=none/\Inv X O9 σ H s1) E s
 self:∀(A:Around)(i:Nat)(s:Shared)(Q:Ce)(E:Ce),tn i s.heap->Q (.ref it) s->wpAny (model P w) A (pyIter (.ref it)) Q E s
abbrev TI:=St->Hp->(It->Hp->Prop)->Prop
def PIE(X:Cx)(c:Cf)(σ:St)(e:Expr)(R:It->Hp->Prop)(a:Value)(d:Shared):Prop :=
 ∃(it:Addr)(fp:Cj)(tn:Nat->Heap->Prop)(J:It)(H':Hp),a=.ref it/\Inv X c σ H' d/\lQ X.prog X.w X.K e J fp it tn/\tn 0 d.heap/\(∀b∈fp,yx X c H' b)/\R J H'
def PI(X:Cx)(d a:Expr)(e:TI):Prop :=
  ∀(O9 : List (Addr × Obj))(s : Shared)(σ : St)(H : Hp)(R : It -> Hp -> Prop), Inv X O9 σ H s -> e σ H R ->
    wpAny (model X.prog X.w) X.A (eval a X.env) (λv c=>wpAny (model X.prog X.w) X.A (pyIter v) (PIE X O9 σ d R) X.xe c) X.xe s
theorem rJ{M:Model}{A:Around}{E:Ce}{s:Shared}{c:Expr}{a:Addr}{u:Value}{o:Obj}{n:String}{vs:Array Value}{Q:Unit->Shared->Prop}(e:s.heap.get? a=some o)(d:o.cls=.type n)(hd:o.data=.fields vs)
    (hn:["enumerate", "zip", "dict_itemiterator", "dict_reverseitemiterator", "odict_iterator", "itertools.zip_longest", "itertools.pairwise"].contains n=false) (hQ:Q () s):wpAny M A (letOwnedTupleGo c (.ref a) u) Q E s:=by
  unfold letOwnedTupleGo;cases c<;>first
    |exact B9 hQ
    | (cases u<;>first
        |exact B9 hQ
        | (refine B0 (wpAny_load e ?_)
           rw[d,hd];show wpAny M A (if (["enumerate", "zip", "dict_itemiterator", "dict_reverseitemiterator", "odict_iterator", "itertools.zip_longest", "itertools.pairwise"].contains n&&vs[0]?==some (rawInt _))=true then _ else _) Q E s;rw[B7 (by intro h;rw[hn,Bool.false_and]at h;cases h)];exact B9 hQ))
def Itl(K:Aa)(a:Addr):It :=
 ⟨λi H=>∃xs x,SqL K H a xs/\xs[i]?=some x,λi H x H'=>H'=H/\∀xs,SqL K H a xs->xs[i]?=some x,λi H=>∃xs,SqL K H a xs/\xs.length<=i⟩
def Itt(K:Aa)(a:Addr):It :=
 ⟨λi H=>∃xs x,SqT K H a xs/\xs[i]?=some x,λi H x H'=>H'=H/\∀xs,SqT K H a xs->xs[i]?=some x,λi H=>∃xs,SqT K H a xs/\xs.length<=i⟩
def Itr(a:Int)(n:Nat):It:=⟨λi _=>i<n,λi H x H'=>H'=H/\x=.int (a+i),λi _=>n<=i⟩
theorem WN{P:Program}{w:World}{K:Aa}{tg:Expr}(a j:Addr):lQ P w K tg (Itl K a) [j] j (λi h=>h.IsListIter j a i) where
 mem:=by simp
 obj:=λi h f b g=>by
  have e:b=j:=by simpa using g
  subst e;obtain⟨o,e,c,d⟩:=f;exact⟨o,e,λv z=>by rw[d]at z;cases z⟩
 keep:=λi h h' f k=>f.at λo e=>k j (by simp) o e
 item:=by intro X F G C O i O9 s σ H E I hf f hg;subst F G C;obtain⟨xs,x,m,hx⟩:=hg;obtain⟨J,L,p,hz⟩:=I.list m;obtain⟨u,T,Y⟩:=L.get hx;obtain⟨n,q,S,r,t,y⟩:=hf j (by simp);refine wpAny_pyNext_list_item f p.isList (x:=u) (by simpa using T) λh' l Z=>?_;have Q:Inv X O9 σ H { s with heap:=h' }:=I.turned (t':=s.toks) (λb o g e=>(Z.2 b g).trans e) n q r t y;obtain⟨o,e,c,d⟩:=id l;exact⟨u,rfl,rJ (s:={ s with heap:=h' }) e c d (by decide) ⟨x,H,Q,Y,⟨rfl,λys U=>by rw[I.list_inj U m];exact hx⟩,l,λb g=>(hf b g).1⟩⟩
 done:=by intro X F G C O i O9 s σ H E I hf f hg;subst F G C;obtain⟨xs,m,hx⟩:=hg;obtain⟨J,L,p,hz⟩:=I.list m;obtain⟨n,q,S,r,t,y⟩:=hf j (by simp);have hl:=L.length;exact wpAny_pyNext_list_end (I.ok.hd O) f p.isList (by simp;lia) λh' R=>⟨rfl,I.turned (t':=s.toks) (λb o g e=>R b o g e) n q r t y⟩
 self:=λ_ _ _ _ _ f h=>wpAny_pyIter_listiter f h
theorem gw{P:Program}{w:World}{K:Aa}{tg:Expr}(a j:Addr):lQ P w K tg (Itt K a) [j] j (λi h=>h.IsTupleIter j a i) where
 mem:=by simp
 obj:=λi h f b g=>by
  have e:b=j:=by simpa using g
  subst e;obtain⟨o,e,c,d⟩:=f;exact⟨o,e,λv z=>by rw[d]at z;cases z⟩
 keep:=λi h h' f k=>f.at λo e=>k j (by simp) o e
 item:=by intro X G J F O i O9 s σ H E I hf f hg;subst G J F;obtain⟨xs,x,n,hx⟩:=hg;obtain⟨l,L,p,hz⟩:=I.tuple n;obtain⟨u,T,Y⟩:=L.get hx;obtain⟨q,r,S,t,y,C⟩:=hf j (by simp);refine wpAny_pyNext_tuple_item f (show s.heap.IsTuple a l.toArray from p) (x:=u) (by simpa using T) λh' m Z=>?_;have Q:Inv X O9 σ H { s with heap:=h' }:=I.turned (t':=s.toks) (λb o g e=>(Z.2 b g).trans e) q r t y C;obtain⟨o,e,c,d⟩:=id m;exact⟨u,rfl,rJ (s:={ s with heap:=h' }) e c d (by decide) ⟨x,H,Q,Y,⟨rfl,λys U=>by rw[I.tuple_inj U n];exact hx⟩,m,λb g=>(hf b g).1⟩⟩
 done:=by intro X G J F O i O9 s σ H E I hf f hg;subst G J F;obtain⟨xs,n,hx⟩:=hg;obtain⟨l,L,p,hz⟩:=I.tuple n;obtain⟨q,r,S,t,y,C⟩:=hf j (by simp);have hl:=L.length;exact wpAny_pyNext_tuple_end (I.ok.hd O) f (show s.heap.IsTuple a l.toArray from p) (by simp;lia) λh' R=>⟨rfl,I.turned (t':=s.toks) (λb o g e=>R b o g e) q r t y C⟩
 self:=λ_ _ _ _ _ f h=>wpAny_pyIter_tupleiter f h
theorem gv{P:Program}{w:World}{K:Aa}{R:Expr}(c:Addr)(g:Int)(n:Nat):lQ P w K R (Itr g n) [c] c (λi h=>IsRangeIter h c (g+(i:Nat) * 1) ((n:Int)-(i:Nat)) 1) where
 mem:=by simp
 obj:=λi h a b d=>by
  have e:b=c:=by simpa using d
  subst e;exact⟨_,a,λv z=>by have S:Data.fields _=Data.cell v:=z;cases S⟩
 keep:=λi h h' a k=>k c (by simp) _ a
 item:=by intro X x C u y i O9 s σ H E I hf a hg;subst x C u;obtain⟨j,l,L,m,q,r⟩:=hf c (by simp);have W:=Walks.range (prog:=X.prog) (w:=X.w) (I.ok.hd y) c g 1 n;refine W.item i s _ _ hg a λv h' F O f Q=>?_;obtain⟨t,rfl⟩:=O;have G:Inv X O9 σ H { s with heap:=h',toks:=F }:=I.turned (λb o d e=>Q b o (by simpa using d) e) j l m q r;refine⟨_,rfl,rJ (s:={ s with heap:=h',toks:=F }) (n := "range_iterator") f rfl rfl (by decide) ⟨.int (g+i),H,G,⟨t,?_⟩,⟨rfl,rfl⟩,f,λb d=>(hf b d).1⟩⟩;rw[Int.mul_one]
 done:=by intro X x C u y i O9 s σ H E I hf a hg;subst x C u;obtain⟨j,l,L,m,q,r⟩:=hf c (by simp);exact wpAny_pyNext_range_end (I.ok.hd y) a (by have:n<=i:=hg;lia) λh' J=>⟨rfl,I.turned (t':=s.toks) (λb o d e=>J b o d e) j l m q r⟩
 self:=λ_ _ _ _ _ a h=>wpAny_pyIter_rangeiter a h
section
variable{X:Cx}{tg:Expr}
def M7(K:Aa)(c:TE):TI:=λσ H R=>c σ H λx H1=>∃a,x=.ref a/\(∃xs,SqL K H1 a xs)/\R (Itl K a) H1
def Lh(K:Aa)(c:TE):TI:=λσ H R=>c σ H λx H1=>∃a,x=.ref a/\(∃xs,SqT K H1 a xs)/\R (Itt K a) H1
theorem PX{l:Expr}{d:TE}(i:PE X l d):PI X tg l (M7 X.K d):=by
 intro f s σ H R I h;refine thn (i f s σ H _ I h) λv c ⟨x,H1,I1,r1,q1⟩=>?_;obtain⟨a,e,⟨xs,j⟩,q⟩:=q1;subst e;cases r1;obtain⟨m,n,p,hz⟩:=I1.list j;refine wpAny_pyIter_list p.isList ?_;refine⟨c.heap.objs.size,[c.heap.objs.size],_,_,H1,rfl,I1.kept (t':=c.toks) λb o e=>Ad _ e,WN a _,⟨_,Ar _ rfl,rfl,rfl⟩,λb g=>?_,q⟩;have e:b=c.heap.objs.size:=by simpa using g
 subst e;exact I1.fpOk (Ae _) (I1.hok.fresh (Ae _))
theorem Mt{l:Expr}{f:TE}(j:PE X l f):PI X tg l (Lh X.K f):=by
 intro g s σ H R I h;refine thn (j g s σ H _ I h) λv c ⟨x,H1,I1,r1,q1⟩=>?_;obtain⟨a,e,⟨xs,m⟩,q⟩:=q1;subst e;cases r1;obtain⟨d,n,p,hz⟩:=I1.tuple m;refine wpAny_pyIter_tuple (show c.heap.IsTuple a d.toArray from p) ?_;refine⟨c.heap.objs.size,[c.heap.objs.size],_,_,H1,rfl,I1.kept (t':=c.toks) λb o e=>Ad _ e,gw a _,⟨_,Ar _ rfl,rfl,rfl⟩,λb i=>?_,q⟩;have e:b=c.heap.objs.size:=by simpa using i
 subst e;exact I1.fpOk (Ae _) (I1.hok.fresh (Ae _))
theorem vp{d:Cf}{σ:St}{H:Hp}{s:Shared}{R:It->Hp->Prop}{E:Ce}{a hi:Int}{t u v:Tok}{f:Nat}(I:Inv X d σ H s)(i:-(2 ^ 62)<=a)(j:a<2 ^ 62)(l:-(2 ^ 62)<=hi)(m:hi<2 ^ 62)
  (q:R (Itr a (hi-a).toNat) H):wpAny (model X.prog X.w) X.A (pyIter (.ref s.heap.objs.size)) (PIE X d σ tg R) E { s with heap:=s.heap.push { cls:=.type "range", data:=.fields #[.int a t,.int hi u,.int 1 v] },toks:=f }:=by
 refine wpAny_pyIter_range (IsRange.new ..) (small_one i j l m) ?_;have c:Inv X d σ H { s with heap:=s.heap.push { cls:=.type "range", data:=.fields #[.int a t,.int hi u,.int 1 v] },toks:=f }:=I.kept λb o e=>Ad _ e;refine⟨(s.heap.push { cls:=.type "range", data:=.fields #[.int a t,.int hi u,.int 1 v] }).objs.size,[(s.heap.push { cls:=.type "range", data:=.fields #[.int a t,.int hi u,.int 1 v] }).objs.size],_,_,H,rfl,
  c.kept (t':=f) λb o e=>Ad _ e,gv _ a (hi-a).toNat,?_,λb n=>?_,q⟩
 ·have g:a+((0:Nat):Int) * 1=a:=by simp
  have h:(((hi-a).toNat:Nat):Int)-((0:Nat):Int)=Builtin.Range.rangeSize a hi 1:=by rw[rangeSize_one];split<;>lia
  show IsRangeIter _ _ (a+((0:Nat):Int) * 1) ((((hi-a).toNat:Nat):Int)-((0:Nat):Int)) 1;rw[g,h];exact Ar _ rfl
 ·have e:b=(s.heap.push { cls:=.type "range", data:=.fields #[.int a t,.int hi u,.int 1 v] }).objs.size:=by simpa using n
  subst e;exact c.fpOk (Ae _) (c.hok.fresh (Ae _))
def M6(a:TA):TI:=λσ H R=>a σ H λvs H1=>∃j:Int,vs=[.int j] /\ -(2 ^ 62)<=j/\j<2 ^ 62/\R (Itr 0 j.toNat) H1
def M5(a:TA):TI:=λσ H R=>a σ H λvs H1=>∃i j:Int,vs=[.int i,.int j]/\(-(2 ^ 62)<=i/\i<2 ^ 62 /\ -(2 ^ 62)<=j/\j<2 ^ 62)/\R (Itr i (j-i).toNat) H1
theorem BT{a:Expr}{f:TA}{p c:Pos}(l:Gl X "range")(m:X.mg "range" = none)(i:PA X [a] f)(n:starEach [a] X.env=[(false,eval a X.env)]:=by rfl):PI X tg (.Call (.Name "range" p) [a] [] c) (M6 f):=by
  intro g s σ H R I h;refine Call_ (XM I l m boot_range (PyProof.Rows.callWith_type1 (thn (i c g s σ H _ I h) λus v ⟨vs,H1,I1,r1,d⟩=>?_) n rfl));obtain⟨j,e,d,o,q⟩:=d;subst e;cases r1 with
  |cons r u=>cases u;obtain⟨t,rfl⟩:=r;exact call_range_1 (vp I1 ⋯ ⋯ d o (by simpa using q))
theorem BS{a b:Expr}{l:TA}{p d:Pos}(o:Gl X "range")(u:X.mg "range" = none)(n:PA X [a,b] l)(v:starEach [a,b] X.env=[(false,eval a X.env),(false,eval b X.env)]:=by rfl)(c:starEach [b] X.env=[(false,eval b X.env)]:=by rfl) :
    PI X tg (.Call (.Name "range" p) [a,b] [] d) (M5 l):=by
  intro m s σ H R I h;refine Call_ (XM I o u boot_range (PyProof.Rows.callWith_type1 (thn (n d m s σ H _ I h) λus E ⟨vs,H1,I1,r1,f⟩=>?_) (by rw[v,c]) (by rw[c];rfl)));obtain⟨i,j,e,⟨f,x,y,z⟩,q⟩:=f;subst e;cases r1 with
  |cons r g =>
    cases g with
    |cons C g=>cases g;obtain⟨t,rfl⟩:=r;obtain⟨t',rfl⟩:=C;exact call_range_2 (vp I1 f x y z q)
def Iu(d:TI)(g:TG)(c:TS):TS:=λD σ H=>d σ H λJ H1=>∃W:Nat->Nat->St->Hp->Prop,(∃m,W 0 m σ H1)/\∀i m σ H,W i m σ H ->
 (J.stop i H/\D.nx σ H)∨(J.go i H/\∃N:St->Hp->Prop,(∀σ' H',N σ' H'->∃a,a<m/\W (i+1) a σ' H')/\∀x H',J.yld i H x H'->g x σ H' λσ2 H2=>c { D with nx:=N,ct:=N,bk:=D.nx } σ2 H2)
def VT(a:Cj)(h:Heap):List (Addr×Obj):=a.filterMap λb=>(h.get? b).map λo=>(b,o)
theorem qd{a:Cj}{h:Heap}{b:Addr}{o:Obj}(c:b∈a)(e:h.get? b=some o):(b,o)∈VT a h:=List.mem_filterMap.mpr ⟨b,c,by rw[e];rfl⟩
theorem Do{a:Cj}{h:Heap}{p:Addr×Obj}(U:p∈VT a h):p.1∈a/\h.get? p.1=some p.2:=by
  obtain⟨b,d,e⟩:=List.mem_filterMap.mp U;cases q:h.get? b with
  |none=>rw[q]at e;cases e
  |some o=>rw[q]at e;have c:(b,o)=p:=Ai e;subst c;exact⟨d,q⟩
theorem Inv.pinned{a:Cf}{σ:St}{H:Hp}{s:Shared}{c:Cj}(I:Inv X a σ H s)(hf:∀b∈c,yx X a H b)(l:∀b∈c,∃o,s.heap.get? b=some o/\∀v,o.data≠.cell v):Inv X (a++VT c s.heap) σ H s :=
 I.pins_of λp U=>(Ag.mp U).elim (λz=>I.pin p (Ah _ z)) λz=>by obtain⟨g,e⟩:=Do z;obtain⟨h,i,j,_⟩:=hf p.1 g;obtain⟨o,f,d⟩:=l p.1 g;rw[e]at f;cases f;exact⟨e,h,i,j,d⟩
def Inv.unpinned{a pl:Cf}{σ:St}{H:Hp}{s:Shared}(I:Inv X (a++pl) σ H s):Inv X a σ H s:=I.pins_of λp U=>I.pin p (Ah _ (List.mem_append_left _ U))
theorem w6{l:Expr}{body:List Stmt}{wi:TI}{g:TG}{tb:TS}{O:Pos}(U:PassesOwn (model X.prog X.w) X.A X.env X.xe)(S:X.calm=true)(hi:PI X tg l wi)(hg:PG X tg g)(j:PSs X body tb)
  (hs:∀x,foldedSetIterable l X.env x=pure x:=by intro _;rfl):PS X (.For tg l body [] O) (Iu wi g tb):=by
 intro z s σ H D I h;refine wpAny_For (thn (hi z s σ H _ I h) λv s1 h1=>thn h1 λab s2 h2=>?_) hs;obtain⟨it,C,tn,J,H2,e,I2,T,Q,R,W,⟨m0,w0⟩,F⟩:=h2;subst e;have q:∀{t:Hp},(∀b∈C,t b=none)->∀b∈C,yx X z t b:=λhn b j=>⟨hn b j,(R b j).2⟩;refine codeAny_forLoop_any (λn s'=>∃i σ' t,Inv X z σ' t s'/\tn i s'.heap/\(∀b∈C,t b=none)/\W i n σ' t) ?_ m0 ⟨0,σ,H2,I2,Q,λb j=>(R b j).1,w0⟩;rintro n Y ⟨i,σ3,H3,I3,st3,fr3,w3⟩;rcases F i n σ3 H3 w3 with ⟨stop,qn⟩|⟨go,N,hN,step⟩
 ·refine wpAny_passesOwn U (thn (T.done X rfl rfl rfl S i z Y σ3 H3 X.xe I3 (q fr3) st3 stop) λr s4 ⟨L,I4⟩=>?_);subst L;exact wpAny_execs_nil ⟨σ3,H3,I4,qn⟩
 ·refine wpAny_passesOwn U (thn (T.item X rfl rfl rfl S i z Y σ3 H3 X.xe I3 (q fr3) st3 go) λr s4 ⟨u,L,h4⟩=>?_);subst L;refine wpAny_passesOwn U (thn h4 λ_ Z ⟨x,H5,I5,r5,y5,st5,fr5⟩=>?_);have G:=I5.pinned (q fr5) (T.obj _ _ st5);refine wpAny_passesOwn U (thn (hg _ Z σ3 H5 x u _ G r5 (step x H5 y5)) λ_ s6 ⟨σ6,H6,I6,q6⟩=>?_);refine wpAny_passesOwn U (thn (j _ s6 σ6 H6 _ I6 q6) λf P y=>?_);have again:∀{σ7:St}{a:Hp},Inv X (z++VT C Z.heap) σ7 a P->N σ7 a->∃m,m<n/\∃i σ' t,Inv X z σ' t P/\tn i P.heap/\(∀b∈C,t b=none)/\W i m σ' t:=λ{σ7 a} c E=>by obtain⟨m',hm,w7⟩:=hN σ7 a E;refine⟨m',hm,i+1,σ7,a,c.unpinned,T.keep _ _ _ st5 λb j o e=>(c.pin (b,o) (Ah _ (Ah _ (qd j e)))).1,λb j=>?_,w7⟩;obtain⟨o,e,d⟩:=T.obj _ _ st5 b j;exact(c.pin (b,o) (Ah _ (Ah _ (qd j e)))).2.1
  cases f with
  |next=>obtain⟨σ7,a,c,E⟩:=y;exact again c E
  |cont=>obtain⟨σ7,a,c,E⟩:=y;exact again c E
  |brk=>obtain⟨σ7,a,c,y⟩:=y;exact⟨σ7,a,c.unpinned,y⟩
  |ret v=>obtain⟨x7,σ7,a,c,r7,y⟩:=y;exact⟨x7,σ7,a,c.unpinned,r7,y⟩
end
abbrev R2:=V->V->Hp->VK->Prop
def OpR(X:Cx)(f:Value->Value->Sem Value)(r:R2):Prop :=
  ∀(a : List (Addr × Obj))(s : Shared)(σ : St)(H : Hp)(x y : V)(v u : Value)(Q : VK), Inv X a σ H s -> RelV x v -> RelV y u -> r x y H Q ->
    wpAny (model X.prog X.w) X.A (f v u) (EP X a σ Q) X.xe s
def UnR(X:Cx)(f:Value->Sem Value)(r:V->Hp->VK->Prop):Prop :=
  ∀(a : List (Addr × Obj))(s : Shared)(σ : St)(H : Hp)(x : V)(v : Value)(Q : VK), Inv X a σ H s -> RelV x v -> r x H Q ->
    wpAny (model X.prog X.w) X.A (f v) (EP X a σ Q) X.xe s
def CallR(X:Cx)(f:Value)(r:List V->Hp->VK->Prop):Prop :=
  ∀(a : List (Addr × Obj))(s : Shared)(σ : St)(H : Hp)(xs : List V)(us : List Value)(Q : VK), Inv X a σ H s -> Vals xs us -> r xs H Q ->
    wpAny (model X.prog X.w) X.A (call f us) (EP X a σ Q) X.xe s
def HD(X:Cx)(r:V->Hp->(Bool->Hp->Prop)->Prop):Prop :=
  ∀(O9 : List (Addr × Obj))(s : Shared)(σ : St)(H : Hp)(x : V)(v : Value)(Q : Bool -> Hp -> Prop), Inv X O9 σ H s -> RelV x v -> r x H Q ->
    wpAny (model X.prog X.w) X.A (truthy v) (TP X O9 σ Q) X.xe s
def tOp(r:R2)(a c:TE):TE:=λσ H Q=>a σ H λx H1=>c σ H1 λy H2=>r x y H2 Q
def tUn(r:V->Hp->VK->Prop)(a:TE):TE:=λσ H Q=>a σ H λx H1=>r x H1 Q
def rI(C:Int->Int->Prop)(g:Int->Int->V):R2:=λx y H Q=>∃i j,x=.int i/\y=.int j/\C i j/\Q (g i j) H
def rI0(g:Int->Int->V):R2:=λx y H Q=>∃i j,x=.int i/\y=.int j/\Q (g i j) H
def rU(g:Int->V):V->Hp->VK->Prop:=λx H Q=>∃i,x=.int i/\Q (g i) H
section
variable{X:Cx}{a b c:Expr}{ta tb tc:TE}{pos:Pos}
theorem rm(j:PE X a ta)(l:PE X b tb){e:Cf}{s:Shared}{σ:St}{H:Hp}{R:V->V->Hp->Prop}(I:Inv X e σ H s)
  (h:ta σ H λx i=>tb σ i λy d=>R x y d) {Q:Ce} {f:Value->Value->Sem Value}
  (hf:∀v u g x y d,Inv X e σ d g->RelV x v->RelV y u->R x y d->wpAny (model X.prog X.w) X.A (f v u) Q X.xe g) :
  wpAny (model X.prog X.w) X.A (eval a X.env) (λv s₁=>wpAny (model X.prog X.w) X.A (eval b X.env) (λu s₂=>wpAny (model X.prog X.w) X.A (f v u) Q X.xe s₂) X.xe s₁) X.xe s:=by
 refine thn (j e s σ H _ I h) λv m ⟨x,i,I1,r1,q1⟩=>?_;refine thn (l e m σ i _ I1 q1) λu g ⟨y,d,I2,r2,q2⟩=>?_;exact hf v u g x y d I2 r1 r2 q2
theorem Nq{d:Operator}{r:R2}(i:OpR X (binaryOp d) r)(f:PE X a ta)(g:PE X b tb):PE X (.BinOp a d b pos) (tOp r ta tb):=by intro e s σ H Q I h;exact wpAny_BinOp (rm f g I h λv u m x y H2 I2 j l q=>i e m σ H2 x y v u Q I2 j l q)
theorem Io{e:UnaryOp}{r:V->Hp->VK->Prop}(g:UnR X (unaryOp e) r)(f:PE X a ta):PE X (.UnaryOp e a pos) (tUn r ta):=by intro d s σ H Q I h;exact UnaryOp_ (thn (f d s σ H _ I h) λv i ⟨x,H1,I1,r1,q1⟩=>g d i σ H1 x v Q I1 r1 q1)
theorem opI{f:Value->Value->Sem Value}{C:Int->Int->Prop}{g:Int->Int->Int}
  (rule:∀(i j:Int)(t u:Tok)(s:Shared)(Q:Ce)(E:Ce),C i j->Q (.int (g i j) s.toks) { s with toks:=s.toks+1 }->wpAny (model X.prog X.w) X.A (f (.int i t) (.int j u)) Q E s) :
  OpR X f (rI C λi j=>.int (g i j)):=by
 intro e s σ H x y v u Q I rx ry h;obtain⟨i,j,rfl,rfl,d,q⟩:=h;obtain⟨t,rfl⟩:=rx;obtain⟨t',rfl⟩:=ry;exact rule i j t t' s _ _ d ⟨.int (g i j),H,I.tok _,⟨_,rfl⟩,q⟩
theorem wg{f:Value->Value->Sem Value}{g:Int->Int->Int}
  (rule:∀(i j:Int)(t u:Tok)(s:Shared)(Q:Ce)(E:Ce),Q (.int (g i j) s.toks) { s with toks:=s.toks+1 }->wpAny (model X.prog X.w) X.A (f (.int i t) (.int j u)) Q E s) :
  OpR X f (rI0 λi j=>.int (g i j)):=by
 intro d s σ H x y v u Q I rx ry h;obtain⟨i,j,rfl,rfl,q⟩:=h;obtain⟨t,rfl⟩:=rx;obtain⟨t',rfl⟩:=ry;exact rule i j t t' s _ _ ⟨.int (g i j),H,I.tok _,⟨_,rfl⟩,q⟩
theorem n6{f:Value->Value->Sem Value}{g:Int->Int->Bool}
  (rule:∀(i j:Int)(t u:Tok)(s:Shared)(Q:Ce)(E:Ce),Q (.bool (g i j)) s->wpAny (model X.prog X.w) X.A (f (.int i t) (.int j u)) Q E s) :
  OpR X f (rI0 λi j=>.bl (g i j)):=by
 intro d s σ H x y v u Q I rx ry h;obtain⟨i,j,rfl,rfl,q⟩:=h;obtain⟨t,rfl⟩:=rx;obtain⟨t',rfl⟩:=ry;exact rule i j t t' s _ _ ⟨.bl (g i j),H,I,rfl,q⟩
def HW(i j:Int):Prop:=0<j/\j<1073741824
def HS(i j:Int):Prop:=0<=j/\j<=1000000/\i.natAbs<2 ^ 64
def CMul(i j:Int):Prop:=(-(2 ^ 64)<i/\i<2 ^ 64)∨(-(2 ^ 64)<j/\j<2 ^ 64)
theorem CMul.ok{i j:Int}(h:CMul i j):IntMulOk i j:=by
 rcases h with ⟨d,e⟩|⟨d,e⟩
 ·exact .of_left (intBits_le_64 d e)
 ·exact .of_right (intBits_le_64 d e)
def Oi:OpR X (binaryOp .Add) (rI0 λi j=>.int (i+j)):=wg λ_ _ _ _ _ _ _ q=>add_int q
def Px:OpR X (binaryOp .Sub) (rI0 λi j=>.int (i-j)):=wg λ_ _ _ _ _ _ _ q=>sub_int q
def Oe:OpR X (binaryOp .Mult) (rI CMul λi j=>.int (i * j)):=opI λ_ _ _ _ _ _ _ d q=>mul_int q d.ok
theorem Rm:OpR X (binaryOp .FloorDiv) (rI HW λi j=>.int (i / j)):=opI λi j _ _ _ _ _ d q=>by have e:(0:Int)<j:=d.1;have f:j<1073741824:=d.2;exact floordiv_int ⋯ (by rw[Int.fdiv_eq_ediv_of_nonneg i ⋯];exact q) (.inl (PyProof.noPylong_small ⋯))
theorem Og:OpR X (binaryOp .Mod) (rI (λ_ j=>0<j) λi j=>.int (i % j)):=opI λi j _ _ _ _ _ d q=>by have e:(0:Int)<j:=d;exact mod_int' ⋯ (by rw[Int.fmod_eq_emod_of_nonneg i ⋯];exact q)
def Od:OpR X (binaryOp .Pow) (rI HS λi j=>.int (i ^ j.toNat)):=opI λ_ _ _ _ _ _ _ d q=>pow_int_small d.1 d.2.1 d.2.2 q
theorem unI{f:Value->Sem Value}{g:Int->Int}
  (rule:∀(i:Int)(t:Tok)(s:Shared)(Q:Ce)(E:Ce),Q (.int (g i) s.toks) { s with toks:=s.toks+1 }->wpAny (model X.prog X.w) X.A (f (.int i t)) Q E s) :
  UnR X f (rU λi=>.int (g i)):=by
 intro d s σ H x v Q I rx h;obtain⟨i,rfl,q⟩:=h;obtain⟨t,rfl⟩:=rx;exact rule i t s _ _ ⟨.int (g i),H,I.tok _,⟨_,rfl⟩,q⟩
def Nm:UnR X (unaryOp .USub) (rU λi=>.int (-i)):=unI λ_ _ _ _ _ q=>neg_int q
end
section
variable{X:Cx}{a b c:Expr}{ta tb tc:TE}{pos:Pos}
theorem Cp{d:Cf}{σ:St}{H:Hp}{s:Shared}{Q:VK}{k f:Bool}(I:Inv X d σ H s)(q:Q (.bl k) H)(e:k=f):EP X d σ Q (.bool f) s:=by subst e;exact⟨.bl k,H,I,rfl,q⟩
def Ny:OpR X (compareOp .Lt) (rI0 λi j=>.bl (decide (i<j))):=n6 λ_ _ _ _ _ _ _ q=>lt_int q
def MJ:OpR X (compareOp .LtE) (rI0 λi j=>.bl (decide (i<=j))):=n6 λ_ _ _ _ _ _ _ q=>le_int q
def MK:OpR X (compareOp .Gt) (rI0 λi j=>.bl (decide (j<i))):=n6 λ_ _ _ _ _ _ _ q=>gt_int q
def MN:OpR X (compareOp .GtE) (rI0 λi j=>.bl (decide (j<=i))):=n6 λ_ _ _ _ _ _ _ q=>ge_int q
theorem Oh:OpR X (compareOp .Is) (λx y H Q=>y=.non/\Q (.bl (decide (x=.non))) H):=by
 intro d s σ H x y v u Q I rx ry h;obtain⟨rfl,q⟩:=h;cases ry;refine is_none_gen (Cp I q ?_);cases x<;>first
  | (cases rx;rfl)
  | (obtain⟨t,rfl⟩:=rx;rfl)
theorem Rk:OpR X (compareOp .IsNot) (λx y H Q=>y=.non/\Q (.bl (!decide (x=.non))) H):=by
 intro d s σ H x y v u Q I rx ry h;obtain⟨rfl,q⟩:=h;cases ry;refine isnot_none_gen (Cp I q ?_);cases x<;>first
  | (cases rx;rfl)
  | (obtain⟨t,rfl⟩:=rx;rfl)
theorem Qy(b:Expr){d:CmpOp}(h:d≠.In:=by decide)(g:d≠.NotIn:=by decide):behindInMarks d b=false:=by
 have e:(d==CmpOp.In)=false:=by cases d<;>first|rfl|exact absurd rfl h
 have f:(d==CmpOp.NotIn)=false:=by cases d<;>first|rfl|exact absurd rfl g
 cases b<;>simp[behindInMarks,e,f]
theorem Rg{d:CmpOp}{r:R2}(j:OpR X (compareOp d) r)(f:PE X a ta)(g:PE X b tb)(i:behindInMarks d b=false):PE X (.Compare a [d] [b] pos) (tOp r ta tb):=by intro e s σ H Q I h;exact wpAny_Compare1 (rm f g I h λv u n x y H2 I2 l m q=>j e n σ H2 x y v u Q I2 l m q) i
def wH(t:TE):TT:=λσ H Q=>t σ H λx H'=>∃k,x=.bl k/\Q k H'
theorem RX{f:CmpOp}{r:R2}(l:OpR X (compareOp f) r)(g:PE X a ta)(i:PE X b tb)(j:behindInMarks f b=false):PT X (.Compare a [f] [b] pos) (wH (tOp r ta tb)):=by
 intro d s σ H Q I h;refine wpAny_isTrue_Compare1 (thn (g d s σ H _ I h) λv m ⟨x,H1,I1,r1,q1⟩=>thn (i d m σ H1 _ I1 q1) λu n ⟨y,H2,I2,r2,q2⟩ =>
  thn (l d n σ H2 x y v u _ I2 r1 r2 q2) λc o ⟨z,H3,I3,r3,k,e,q3⟩=>?_) j
 subst e;cases r3;exact wpAny_truthy_bool ⟨H3,I3,q3⟩
def wW(r d:R2)(ta tb tc:TE):TE:=λσ H Q=>ta σ H λx H1=>tb σ H1 λy H2=>r x y H2 λz H3=>∃k,z=.bl k /\
 (if k=true then tc σ H3 λe H4=>d y e H4 Q else Q (.bl false) H3)
theorem WY{j f:CmpOp}{r l:R2}(t:OpR X (compareOp j) r)(i:OpR X (compareOp f) l)(n:PE X a ta)(o:PE X b tb)(q:PE X c tc)
    (hm:lastMarks [j,f] [b,c]=false:=by with_unfolding_all rfl):PT X (.Compare a [j,f] [b,c] pos) (wH (wW r l ta tb tc)):=by
  intro g s σ H Q I h;refine isTrue_chain (thn (n g s σ H _ I h) λv E ⟨x,H1,I1,r1,q1⟩=>test_link (thn (o g E σ H1 _ I1 q1) λu F ⟨y,H2,I2,r2,q2⟩ =>
    thn (t g F σ H2 x y v u _ I2 r1 r2 q2) λd G ⟨z,H3,I3,r3,k,e,q3⟩=>?_)) hm
  subst e;cases r3;refine wpAny_truthy_bool ?_;cases k with
  |false=>obtain⟨P,m,C⟩:=q3;cases m;exact ite_ff ⟨H3,I3,C⟩
  |true=>refine ite_tt (test_last (thn (q g G σ H3 _ I3 q3) λL J ⟨O,H4,I4,r4,q4⟩=>thn (i g J σ H4 y O u L _ I4 r2 r4 q4) λd' R ⟨z2,H5,I5,r5,k2,e2,q5⟩=>?_));subst e2;cases r5;exact wpAny_truthy_bool ⟨H5,I5,q5⟩
def rA(K:Aa)(x:V)(H:Hp)(k:Bool):Prop :=
 match x with
 |.non=>k=false
 |.bl b=>k=b
 |.int i=>k=(i != 0)
 |.str y=>y.length<=sizeLine/\k=((y.length:Int) != 0)
 |.byt y=>y.size<=sizeLine/\k=((y.size:Int) != 0)
 |.ref p=>(∃xs,SqL K H p xs/\k=!xs.isEmpty)∨(∃xs,SqT K H p xs/\k=!xs.isEmpty)∨∃d,H p=some (.dK d)/\k=!d.isEmpty
 |_=>False
theorem uI{κ:Type}{d:List (κ×V)}{vs:List (κ×Value)}(r:KV d vs):(!vs.isEmpty)=!d.isEmpty:=by cases r<;>rfl
theorem VA{xs:List V}{d:List Value}(r:Vals xs d):(!d.toArray.isEmpty)=!xs.isEmpty:=by cases r<;>simp
theorem VH:(sizeLine:Nat)<2 ^ 63:=by rw[sizeLine_eq];decide
theorem Lz:HD X (λx H Q=>∃k,rA X.K x H k/\Q k H):=by
  intro o s σ H x v Q I rx h;obtain⟨k,e,q⟩:=h;have u:=VH;have z:sizeLine=16777216:=sizeLine_eq;cases x with
  |non=>cases rx;have d:k=false:=e;subst d;exact truthy_none ⟨H,I,q⟩
  |bl b=>cases rx;have d:k=b:=e;subst d;exact wpAny_truthy_bool ⟨H,I,q⟩
  |int i=>obtain⟨t,rfl⟩:=rx;have d:k=(i != 0):=e;subst d;exact PySem.P.truthy_int ⟨H,I,q⟩
  |str y=>obtain⟨t,rfl⟩:=rx;obtain⟨n,d⟩:y.length<=sizeLine/\k=((y.length:Int) != 0):=e;subst d;exact PySem.P.truthy_str ⋯ ⟨H,I.tok _,q⟩
  |byt y=>obtain⟨t,rfl⟩:=rx;obtain⟨n,d⟩:y.size<=sizeLine/\k=((y.size:Int) != 0):=e;subst d;exact PySem.W.truthy_bytes ⋯ ⟨H,I.tok _,q⟩
  |ref p =>
    cases rx;have d:(∃xs,SqL X.K H p xs/\k=!xs.isEmpty)∨(∃xs,SqT X.K H p xs/\k=!xs.isEmpty)∨∃f,H p=some (.dK f)/\k=!f.isEmpty:=e;rcases d with ⟨xs,hx,d⟩|⟨xs,hx,d⟩|⟨f,hx,d⟩
    . subst d
      obtain⟨j,r,pl,hz⟩:=I.list hx;have g:=r.length;exact wpAny_truthy_list pl.isList (by simp only[Am];lia) ⟨H,I.tok _,by rw[VA r];exact q⟩
    . subst d
      obtain⟨j,r,pl,hz⟩:=I.tuple hx;have g:=r.length;exact truthy_tuple pl (by simp only[Am];lia) ⟨H,I.tok _,by rw[VA r];exact q⟩
    . subst d
      obtain⟨hz,l,vs,r,m⟩:f.length<=sizeLine/\(p==sysModules)=false/\∃vs,KV f vs/\s.heap.DictOf (Jq X.prog X.w) p vs:=I.hok p _ hx;have g:f.length=vs.length:=Paired.length r;exact wpAny_truthy_dict l m ⋯ ⟨H,I.tok _,by rw[uI r];exact q⟩
  |_=>exact(show False from e).elim
theorem WX(e:PE X a ta)(f:∀whole,isTrue a X.env whole=(do let v <- whole;standAt a.pos;holding [v] (truthy v))) :
  PT X a (λσ H Q=>ta σ H λx H'=>∃k,rA X.K x H' k/\Q k H'):=by
 intro d s σ H Q I h;exact isTrue_plain (thn (e d s σ H _ I h) λv g ⟨x,H1,I1,r1,q1⟩=>Lz d g σ H1 x v Q I1 r1 q1) (f _)
theorem xp{x:V}{us:List Value}(r:Vals [x] us):∃u,us=[u]/\RelV x u:=by
 cases r with
 |cons d e=>cases e;exact⟨_,rfl,d⟩
theorem oV{x y:V}{us:List Value}(r:Vals [x,y] us):∃u d,us=[u,d]/\RelV x u/\RelV y d:=by
  cases r with
  |cons e f =>
    cases f with
    |cons g h=>cases h;exact⟨_,_,rfl,e,g⟩
theorem HA(e:X.calm=true):CallR X (.builtin "max") (λxs H Q=>∃i j,xs=[.int i,.int j]/\Q (.int (if j > i then j else i)) H):=by
 intro f s σ H xs us Q I r h;obtain⟨i,j,rfl,q⟩:=h;obtain⟨u,l,rfl,⟨t,rfl⟩,⟨t',rfl⟩⟩:=oV r;refine max_two_ints (I.ok.hd e) λh' g k=>⟨_,H,I.kept k,?_,q⟩;by_cases d:j > i
 ·rw[B8 d,B8 d];exact⟨_,rfl⟩
 ·rw[B7 d,B7 d];exact⟨_,rfl⟩
theorem Hn(e:X.calm=true):CallR X (.builtin "min") (λxs H Q=>∃i j,xs=[.int i,.int j]/\Q (.int (if j<i then j else i)) H):=by
 intro f s σ H xs us Q I r h;obtain⟨i,j,rfl,q⟩:=h;obtain⟨u,l,rfl,⟨t,rfl⟩,⟨t',rfl⟩⟩:=oV r;refine min_two_ints (I.ok.hd e) λh' g k=>⟨_,H,I.kept k,?_,q⟩;by_cases d:j<i
 ·rw[B8 d,B8 d];exact⟨_,rfl⟩
 ·rw[B7 d,B7 d];exact⟨_,rfl⟩
theorem UY:CallR X (.type "int") (λxs H Q=>(∃i,xs=[.int i]/\Q (.int i) H)∨∃k,xs=[.bl k]/\Q (.int (if k then 1 else 0)) H):=by
 intro e s σ H xs us Q I r h;rcases h with ⟨i,rfl,q⟩|⟨k,rfl,q⟩
 ·obtain⟨u,rfl,t,rfl⟩:=xp r;exact call_int_int ⟨.int i,H,I,⟨_,rfl⟩,q⟩
 ·obtain⟨u,rfl,d⟩:=xp r;cases d;exact call_int_bool ⟨.int (if k then 1 else 0),H,I.tok _,⟨_,rfl⟩,q⟩
end
structure ObjM(h:Heap)(x dx C:Addr)(mA:Cg):Prop where
 obj:h.get? x=some (PySem.W.instObj C dx)
 ns:h.Ns1 dx mA
 ne:dx≠x
theorem HV{h:Heap}{d:Addr}{g:Cg}(n:h.Ns1 d g):∃i,h.get? d=some i/\∀name,PySem.W.lookIn name i=some (g name):=by
 obtain⟨o,f,v,r,hd,l,_,m⟩:=n;refine⟨o,r,λname=>?_⟩;have e:=m name;unfold nsFind findBy at e;rw[<- Array.find?_toList]at e;unfold PySem.W.lookIn;rw[hd];dsimp only;split
 ·rename_i y q;rw[q]at e;exact congrArg some e
 ·rename_i q;rw[q]at e;have a:f.toList.any (·.refKey)=false:=by rw[List.any_eq_false];intro y u;obtain⟨z,t,c⟩:=l y (Array.mem_toList_iff.mp u);simp[DictEntry.refKey,c]
  have j:¬ f.toList.any (·.refKey)=true:=by rw[a];exact Bf
  rw[B7 j];exact congrArg some e
theorem ObjM.look{h:Heap}{x c C:Addr}{d:Cg}(I:ObjM h x c C d):∃a,PySem.W.InstAt h x (PySem.W.instObj C c) C (some a)/\∀name,PySem.W.lookIn name a=some (d name) :=
 let ⟨a,f,e⟩:=HV I.ns
 ⟨a,⟨I.obj,rfl,rfl,f⟩,e⟩
section
variable{prog:Program}{w:World}{A:Around}{E:Ce}{s:Shared}{K:Aa}{x dx C f:Addr}{mA:Cg}{name:Str}{v:Value}
theorem Tv{a:Bool}{Q:Ce}(X:K.In s.heap)(I:ObjM s.heap x dx C mA)(c:PySem.W.plainGet K C name=true)(d:PySem.W.hasDictIn K C=true)
  (ha:PySem.W.findIn K (.ref C) name=some none) (hv:mA name=some v) (hv':PySem.W.handedIn v=true) (h:Q v { s with toks:=s.toks+1 }) :
  wpAny (model prog w) A (getAttr (.ref x) name a) Q E s:=by
 obtain⟨g,J,e⟩:=I.look;exact PySem.W.get_value X J (PySem.W.plainGet_of c).1 (PySem.W.findObj_own d ha rfl (by rw[e,hv])) hv' h
theorem M3{pl:Sem Bool}{Q:Value×List Value->Shared->Prop}(X:K.In s.heap)(I:ObjM s.heap x dx C mA)(a:PySem.W.plainGet K C name=true)
  (hf:PySem.W.findIn K (.ref C) name=some (some (.ref f))) (ht:PySem.W.isFn K (.ref f)=true) (hv:mA name=none) (h:Q (.ref f,[.ref x]) s) :
  wpAny (model prog w) A (getMethod (.ref x) name pl) Q E s:=by
 obtain⟨d,J,c⟩:=I.look;exact PySem.W.method_fn X J (PySem.W.plainGet_of a).1 (PySem.W.plainGet_of a).2 hf (beq_iff_eq.mp ht) (by show(PySem.W.lookIn name d).map (·.isSome)=some false;rw[c,hv];rfl) h
theorem Rx{ns:List Str}{Q:Unit->Shared->Prop}(X:K.In s.heap)(I:ObjM s.heap x dx C mA)
  (hs:PySem.W.findIn K (.ref C) "__setattr__" = some (some (.builtin "object.__setattr__"))) (U:PySem.W.plainOver K C=true) (ht:PySem.W.takerIn K C name=some none) (hh:PySem.W.hasDictIn K C=true)
  (hw:PySem.Within mA ns) (hsz:ns.length<=sizeLine)
  (h:∀h',ObjM h' x dx C (λy=>if y=name then some v else mA y)->Heap.SameBut dx s.heap h'->Q () { s with heap:=h',toks:=s.toks+2 }) :
  wpAny (model prog w) A (setAttr (.ref x) name v) Q E s:=by
 obtain⟨u,J,q⟩:=I.look;refine PySem.W.set_plain X J hs (PySem.W.osa_open (s:={ s with toks:=s.toks+1 }) (r:=none) X J U ht λb=>?_);obtain⟨o,n,g⟩:=PySem.W.any_some hh;have hx:s.heap.get? x=some ⟨.ref C,some dx,.plain,#[]⟩:=I.obj;refine B0 (B9 (B0 (B0 (wpAny_loadPart hx (B0 (PySem.W.Looks.here (s:={ s with toks:=s.toks+1 }) (PySem.W.looks_clsIn X n) ?_))))));rw[g];refine B9 (a:=some dx) (B0 (B9 (B0 ?_)));refine wpAny_nsSet1 (s:={ s with toks:=s.toks+1 }) I.ns λh' c d=>?_;obtain⟨t,m,l,j,i,e⟩:=c.count (PySem.Within.cons name v hw);refine B0 (wpAny_lookBehind j (by rw[i];exact pastItsLine_dict (A8 e (by rw[Ay];lia))) ?_);exact B9 (h _ ⟨(d.2 _ (Ne.symm I.ne)).trans I.obj,c,I.ne⟩ d)
theorem Wo{R:Result->Shared->Prop}{vs:List Value}{a:List (Str×Value)}(X:K.In s.heap)(c:PySem.W.makesIn K C=true)
  (hi:PySem.W.findIn K (.ref C) "__init__" = some (some (.ref f))) (hf:PySem.W.typeIn K (.ref f)=some (.type "function"))
  (h:codeAny (model prog w) (A.under (.builtin "type.__call__" ⟨.ref C::vs,a⟩)) (.call (.ref f) ⟨.ref (s.heap.objs.size+1)::vs,a⟩) (PySem.W.InitBack (s.heap.objs.size+1) R)
   { s with heap:=(s.heap.push PySem.W.emptyDict).push (PySem.W.instObj C s.heap.objs.size) }) :
  codeAny (model prog w) A (.call (.ref C) ⟨vs,a⟩) R s:=by
 obtain⟨e,g,d,t,os⟩:=s;exact PySem.W.make_core (PySem.W.makes_of X c) (PySem.W.looks_findIn X hi) (λself=>PySem.W.bind_fn X self hf) (.inl rfl) h
end
def Yv(f:Str)(v:V):List (Str×V)->List (Str×V)
 | []=>[(f,v)]
 | (g,x)::r=>if g=f then (g,v)::r else (g,x)::Yv f v r
theorem yj(f g:Str)(v:V):∀fs:List (Str×V),(Yv f v fs).lookup g=if g=f then some v else fs.lookup g
  | []=>by
    show List.lookup g [(f,v)]=_;by_cases h:g=f
    . have a:(g==f)=true:=beq_iff_eq.mpr h
      simp only[List.lookup,a,B8 h]
    . have a:(g==f)=false:=beq_eq_false_iff_ne.mpr h
      simp only[List.lookup,a,B7 h]
  | (k,x)::r=>by
    have d:=yj f g v r;rw[show Yv f v ((k,x)::r)=(if k=f then (k,v)::r else (k,x)::Yv f v r)from rfl];by_cases c:k=f
    . rw[B8 c]
      by_cases h:g=k
      . have a:(g==k)=true:=beq_iff_eq.mpr h
        simp only[List.lookup,a,B8 (h.trans c)]
      . have a:(g==k)=false:=beq_eq_false_iff_ne.mpr h
        simp only[List.lookup,a,B7 (λe:g=f=>h (e.trans c.symm))]
    . rw[B7 c]
      by_cases h:g=k
      . have a:(g==k)=true:=beq_iff_eq.mpr h
        simp only[List.lookup,a,B7 (λe:g=f=>c (h.symm.trans e))]
      . have a:(g==k)=false:=beq_eq_false_iff_ne.mpr h
        simp only[List.lookup,a];exact d
theorem xM(f:Str)(v:V):∀fs:List (Str×V),f∈(Yv f v fs).map (·.1)/\∀g,g∈fs.map (·.1)->g∈(Yv f v fs).map (·.1)
  | []=>⟨by simp[Yv],λg h=>by simp at h⟩
  | (k,x)::r=>by
    obtain⟨c,d⟩:=xM f v r;rw[show Yv f v ((k,x)::r)=(if k=f then (k,v)::r else (k,x)::Yv f v r)from rfl];by_cases a:k=f
    . rw[B8 a]
      subst a;exact⟨by simp,λg h=>by simpa using h⟩
    . rw[B7 a]
      refine⟨?_,λg h=>?_⟩
      . rw[Az]
        exact At _ c
      . rw[Az]at h ⊢
        rcases A9.mp h with e|e
        . exact A9.mpr (.inl e)
        . exact At _ (d g e)
theorem yh(f:Str)(v:V):∀fs:List (Str×V),(Yv f v fs).length<=fs.length+1
  | []=>by simp[Yv]
  | (k,x)::r=>by
    have c:=yh f v r;rw[show Yv f v ((k,x)::r)=(if k=f then (k,v)::r else (k,x)::Yv f v r)from rfl];by_cases a:k=f
    . rw[B8 a,Ay,Ay];lia
    . rw[B7 a,Ay,Ay];lia
theorem RelO.some_of{v:V}{o:Option Value}(r:RelO (some v) o):∃u,o=some u/\RelV v u:=by
 cases o with
 |none=>exact(show False from r).elim
 |some u=>exact⟨u,rfl,r⟩
theorem RelO.none_of{o:Option Value}(r:RelO none o):o=none:=by
 cases o with
 |none=>rfl
 |some u=>exact(show False from r).elim
theorem BI{v:V}{u:Value}(r:RelV v u):PySem.W.handedIn u=true:=by
 cases v with
 |non=>cases (show u=Value.none from r);rfl
 |bl b=>cases (show u=Value.bool b from r);rfl
 |int i=>obtain⟨t,e⟩:=(show ∃t,u=Value.int i t from r);cases e;rfl
 |str x=>obtain⟨t,e⟩:=(show ∃t,u=Value.str x t from r);cases e;rfl
 |byt b=>obtain⟨t,e⟩:=(show ∃t,u=Value.bytes b t from r);cases e;rfl
 |flt b=>obtain⟨t,e⟩:=(show ∃t,u=Value.float b t from r);cases e;rfl
 |ref a=>cases (show u=Value.ref a from r);rfl
 |ty n=>cases (show u=Value.type n from r);rfl
section
variable{P:Program}{w:World}{H H':Hp}{h h':Heap}{a C dx:Addr}{fs fs':List (Str×V)}
theorem K5(hok:HOk P w H h)(e:H a=some (.ins C dx fs)):∃c,ObjM h a dx C c/\(∀f,RelO (fs.lookup f) (c f))/\PySem.Within c (fs.map (·.1))/\fs.length<=1000/\H dx=some (.own a):=by obtain⟨d,z,ne,g,c,n,r,q⟩:=(show ObjOk P w H h a (.ins C dx fs)from hok a _ e);exact⟨c,⟨g,n,ne⟩,r,q,z,d⟩
end
structure Cls(K:Aa)(C:Addr):Prop where
 pg:PySem.W.plainGet K C Str.empty=true
 hd:PySem.W.hasDictIn K C=true
 po:PySem.W.plainOver K C=true
 sa:PySem.W.findIn K (.ref C) "__setattr__" = some (some (.builtin "object.__setattr__"))
def Cls.get{K:Aa}{C:Addr}(c:Cls K C)(f:Str):PySem.W.plainGet K C f=true:=c.pg
def NoAttr(K:Aa)(C:Addr)(f:Str):Prop:=PySem.W.findIn K (.ref C) f=some none
theorem NoAttr.taker{K:Aa}{C:Addr}{f:Str}(n:NoAttr K C f):PySem.W.takerIn K C f=some none:=by unfold PySem.W.takerIn;rw[show PySem.W.findIn K (.ref C) f=some none from n];rfl
structure ua(K:Aa)(C:Addr)(m:Str)(f:Addr):Prop where
 at_:PySem.W.findIn K (.ref C) m=some (some (.ref f))
 fn:PySem.W.isFn K (.ref f)=true
 kp:PySem.W.keepIn K (.ref f)=true
section
variable{X:Cx}{O9:Cf}{σ:St}{H:Hp}{s:Shared}{a C dx:Addr}{fs:List (Str×V)}{f:Str}{v:V}{A:Around}{E:Ce}
theorem Vt{b:Bool}{Q:Ce}(I:Inv X O9 σ H s)(e:H a=some (.ins C dx fs))(c:Cls X.K C)(n:NoAttr X.K C f)(l:fs.lookup f=some v)
  (h:∀u s',Inv X O9 σ H s'->RelV v u->Q u s'):wpAny (model X.prog X.w) A (getAttr (.ref a) f b) Q E s:=by
 obtain⟨i,O,r,_,_,_⟩:=K5 I.hok e;obtain⟨u,g,d⟩:=RelO.some_of (v:=v) (o:=i f) (by rw[<- l];exact r f);exact Tv I.kIn O (c.get f) c.hd n g (BI d) (h u _ (I.tok _) d)
theorem jd{m:Str}{g:Addr}{pl:Sem Bool}{Q:Value×List Value->Shared->Prop}(I:Inv X O9 σ H s)(e:H a=some (.ins C dx fs))(c:Cls X.K C)(k:ua X.K C m g)(l:fs.lookup m=none)
  (h:Q (.ref g,[.ref a]) s):wpAny (model X.prog X.w) A (getMethod (.ref a) m pl) Q E s:=by
 obtain⟨i,O,r,_,_,_⟩:=K5 I.hok e;have d:i m=none:=RelO.none_of (by rw[<- l];exact r m);exact M3 I.kIn O (c.get m) k.at_ k.fn d h
theorem Ub{y:V}{u:Value}{Q:Unit->Shared->Prop}(I:Inv X O9 σ H s)(e:H a=some (.ins C dx fs))(c:Cls X.K C)(n:NoAttr X.K C f)(J:fs.length<1000)(F:RelV y u)
  (h:∀s',Inv X O9 σ (upd H a (.ins C dx (Yv f y fs))) s'->Q () s'):wpAny (model X.prog X.w) A (setAttr (.ref a) f u) Q E s:=by
 obtain⟨i,O,r,j,_,d⟩:=K5 I.hok e;have hz:(fs.map (·.1)).length<=sizeLine:=by rw[Bb,sizeLine_eq];lia
 refine Rx I.kIn O c.sa c.po n.taker c.hd j hz λh' O' G=>h _ ?_;have hd:∃o,h'.get? dx=some o:=let ⟨o,_,_,l,_⟩:=O'.ns;⟨o,l⟩;refine I.write (x:=a) (e:=dx) (by rw[e];exact True.intro) (.inr d) (λb q m z=>(G.2 b m).trans z) hd ?_;refine⟨by rw[QN O.ne];exact d,?_,O.ne,O'.obj,_,O'.ns,λg=>?_,λg t=>?_⟩
 ·have:=yh f y fs;lia
 ·show RelO ((Yv f y fs).lookup g) (if g=f then some u else i g);rw[yj];by_cases q:g=f
  ·rw[B8 q,B8 q];exact F
  ·rw[B7 q,B7 q];exact r g
 ·by_cases q:g=f
  ·rw[q];exact(xM f y fs).1
  ·refine(xM f y fs).2 g (j g λz=>t ?_);show(if g=f then some u else i g)=none;rw[B7 q];exact z
theorem Inv.made(I:Inv X O9 σ H s):Inv X O9 σ (upd (upd H s.heap.objs.size (.own (s.heap.objs.size+1))) (s.heap.objs.size+1) (.ins C s.heap.objs.size []))
  { s with heap:=(s.heap.push PySem.W.emptyDict).push (PySem.W.instObj C s.heap.objs.size) }:=by
 have c:(s.heap.push PySem.W.emptyDict).get? s.heap.objs.size=some PySem.W.emptyDict:=Ar s.heap rfl;have g:((s.heap.push PySem.W.emptyDict).push (PySem.W.instObj C s.heap.objs.size)).get? (s.heap.objs.size+1)=some (PySem.W.instObj C s.heap.objs.size):=by
  have:=Ar (s.heap.push PySem.W.emptyDict) (o:=PySem.W.instObj C s.heap.objs.size) rfl
  rwa [Bq]at this
 have h:(s.heap.push PySem.W.emptyDict).Ns s.heap.objs.size (λ_=>none):=⟨PySem.W.emptyDict,#[],_,c,rfl,(λe i=>absurd i (by simp)),λ_=>rfl⟩;have d:=I.laid (a:=s.heap.objs.size) (o:=.own (s.heap.objs.size+1)) (h':=s.heap.push PySem.W.emptyDict) (t':=s.toks) (λb u q=>Ad _ q) (Ae _) ⟨_,c⟩;refine d.laid (a:=s.heap.objs.size+1) (o:=.ins C s.heap.objs.size []) (t':=s.toks) (λb u q=>Ad _ q) (Nat.le_of_eq (Bq _ _)) ?_;have ne:s.heap.objs.size≠s.heap.objs.size+1:=A6 (Bv _);refine⟨by rw[QN ne,Q3],A5 _,ne,g,λ_=>none,(Heap.Ns1.of_empty h).at λo q=>Ad _ q,λ_=>True.intro,λy j=>absurd rfl j⟩
theorem Sv{prog:Program}{w:World}{env:Env}{e:Expr}{f:Str}{c:Pos}{s:Shared}{Q:Ce}(d:attributeBase e f env (eval e env)=eval e env)
  (h:wpAny (model prog w) A (eval e env) (λo s₁=>wpAny (model prog w) A (getAttr o f true) Q E s₁) E s):wpAny (model prog w) A (eval (.Attribute e f c) env) Q E s :=
 Attribute_any_ h (by rw[arm_eval_Attribute,d])
end
def Iv(K:Aa)(d:TE)(f:Str):TE:=λσ H Q=>d σ H λx H1=>∃a C c fs v,x=.ref a/\H1 a=some (.ins C c fs)/\Cls K C/\NoAttr K C f/\fs.lookup f=some v/\Q v H1
def IK(K:Aa)(d e:TE)(f:Str):TS:=λD σ H=>e σ H λy H1=>d σ H1 λx H2=>∃a C c fs,x=.ref a/\H2 a=some (.ins C c fs)/\Cls K C/\NoAttr K C f/\fs.length<1000 /\
 D.nx σ (upd H2 a (.ins C c (Yv f y fs)))
def wA(X:Cx)(c:Operator)(rd:V->V->Hp->VK->Prop):Prop :=
 ∀(a:Cf)(s:Shared)(σ:St)(H:Hp)(x y:V)(u v:Value)(Q:VK),Inv X a σ H s->RelV x u->RelV y v->rd x y H Q->wpAny (model X.prog X.w) X.A (inplaceOp c u v) (EP X a σ Q) X.xe s
def Rz(K:Aa)(h i:TE)(rd:V->V->Hp->VK->Prop)(f:Str):TS:=λD σ H=>h σ H λx H1=>∃a C g fs v,x=.ref a/\H1 a=some (.ins C g fs)/\Cls K C/\NoAttr K C f/\fs.lookup f=some v /\
 i σ H1 λy H2=>rd v y H2 λz e=>∃d c,e a=some (.ins C d c)/\c.length<1000/\D.nx σ (upd e a (.ins C d (Yv f z c)))
section
variable{X:Cx}{o e value:Expr}{f:Str}{pos pos' tpos:Pos}{ta tv:TE}
theorem Pj(y:PE X e ta)(t:attributeBase e f X.env (eval e X.env)=eval e X.env):PE X (.Attribute e f pos) (Iv X.K ta f):=by intro j s σ H Q I h;refine Sv t (thn (y j s σ H _ I h) λu G m=>?_);obtain⟨x,d,g,E,a,C,F,fs,v,ex,r,c,n,l,q⟩:=m;subst ex;obtain rfl:u=Value.ref a:=E;exact Vt g r c n l λL J i z=>⟨v,d,i,z,q⟩
theorem Mq(r:PE X o ta)(v:PE X value tv)(t:swapsWith value (some (.Attribute o f pos')) pos.line X.env=pure false):PS X (.Assign [.Attribute o f pos'] value pos) (IK X.K ta tv f):=by intro d s σ H D I h;refine plainObj_wpAny_Assign_Attribute (thn (v d s σ H _ I h) λu G ⟨y,H1,I1,ry,q⟩=>thn (r d G σ H1 _ I1 q) λz O j=>?_) t;obtain⟨x,J,g,F,a,C,L,fs,ex,m,c,n,l,E⟩:=j;subst ex;obtain rfl:z=Value.ref a:=F;exact Ub g m c n l ry λP i=>⟨σ,_,i,E⟩
theorem MC{m:Operator}{rd:V->V->Hp->VK->Prop}(O:PE X o ta)(P:PE X value tv)(j:wA X m rd):PS X (.AugAssign (.Attribute o f tpos) m value pos) (Rz X.K ta tv rd f):=by intro d s σ H D I h;refine wpAny_AugAssign_AttributeAny (thn (O d s σ H _ I h) λR s1 g=>?_);obtain⟨x,r,t,U,a,C,dx,fs,v,ex,J,c,n,l,q⟩:=g;subst ex;obtain rfl:R=Value.ref a:=U;refine Vt t J c n l λu Z I2 T=>thn (P d Z σ r _ I2 q) λw3 s3 ⟨y,H2,I3,ry,q3⟩=>thn (j d s3 σ H2 v y u w3 _ I3 T ry q3) λw4 s4 g=>?_;obtain⟨z,H3,E,Y,G,L,i,Q,S⟩:=g;exact Ub E i c n Q Y λs5 F=>⟨σ,_,F,S⟩
def Ld:V->V->Hp->VK->Prop:=λx y H Q=>∃i j,x=.int i/\y=.int j/\Q (.int (i+j)) H
theorem O_:wA X .Add Ld:=by rintro a s σ H x y u v Q I rx ry ⟨i,j,rfl,rfl,q⟩;obtain⟨t,rfl⟩:=(show ∃t,u=Value.int i t from rx);obtain⟨t',rfl⟩:=(show ∃t',v=Value.int j t' from ry);exact PyProof.Rows.iadd_int ⟨.int (i+j),H,I.tok _,⟨_,rfl⟩,q⟩
theorem RF{pl:Sem Bool}{m:Str}{d:Pos}{args:List Expr}{n:Cf}{s:Shared}{σ:St}{H:Hp}{Q:Ce}{te:TE}(z:PE X e te)(I:Inv X n σ H s)
  (h:te σ H λx j=>∃a C t fs g,x=.ref a/\j a=some (.ins C t fs)/\Cls X.K C/\ua X.K C m g/\fs.lookup m=none /\
   ∀i,Inv X n σ j i->wpAny (model X.prog X.w) X.A (callWith pos (.ref g) [.ref a] (backTo pos (starEach args X.env)) (backToKw pos (keywordEach [] X.env))) Q X.xe i)
  (ht:eval (.Call (.Attribute e m d) args [] pos) X.env=(do
   let ov <- eval e X.env
   standAt d.atName
   let (f,first) <- holding [ov] (getMethod ov m pl)
   callWith pos f first (backTo pos (starEach args X.env)) (backToKw pos (keywordEach [] X.env)))) :
  wpAny (model X.prog X.w) X.A (eval (.Call (.Attribute e m d) args [] pos) X.env) Q X.xe s:=by
 refine PySem.W.methodCall_KW (pl:=pl) (thn (z n s σ H _ I h) λu i v=>?_) ht;obtain⟨x,j,r,E,a,C,t,fs,g,ex,y,c,k,l,q⟩:=v;subst ex;obtain rfl:u=Value.ref a:=E;exact jd r y c k l (q i r)
end
section
variable{X:Cx}{O9:Cf}{σ:St}{H:Hp}{s:Shared}{A:Around}{E:Ce}{Q:Ce}{c:Value}{b:Bool}
end
structure Room(k:Nat)(A:Around):Prop where
 hd:A.handled=none
 dp:A.depth+3 * k+5<recursionLimit
 un:A.units+16 * k+200<cLine
theorem Room.mono{j k:Nat}{A:Around}(r:Room k A)(h:j<=k):Room j A:=⟨r.hd,by have:=r.dp;lia,by have:=r.un;lia⟩
theorem Room.deeper{k:Nat}{A:Around}(r:Room (k+1) A)(env:Env):Room k (A.deeper env) :=
 ⟨r.hd,by have:=r.dp;show A.depth+1+3 * k+5<_;lia,by have:=r.un;show A.units+3+16 * k+200<_;lia⟩
theorem uN{A:Around}{C:Addr}{us:List Value}{a:List (Str×Value)}:(A.under (.builtin "type.__call__" ⟨.ref C::us,a⟩)).depth=A.depth+1:=by
 first|rfl|simp[Around.under,Code.weight,Code.isCreation,Code.isGuard,Code.isCaller,Code.frames,Code.isFrame,guardIds]
theorem uO{A:Around}{C:Addr}{us:List Value}{a:List (Str×Value)}:(A.under (.builtin "type.__call__" ⟨.ref C::us,a⟩)).units=A.units+1:=by
 first|rfl|simp[Around.under,Code.cUnits,Code.frames,Code.isFrame]
theorem Room.make{k:Nat}{A:Around}(r:Room (k+1) A)(C:Addr)(us:List Value)(a:List (Str×Value)):Room k (A.under (.builtin "type.__call__" ⟨.ref C::us,a⟩)) :=
 ⟨r.hd,by have:=r.dp;rw[uN];lia,by have:=r.un;rw[uO];lia⟩
theorem Room.depth{k:Nat}{A:Around}(r:Room k A):A.depth<recursionLimit:=by have:=r.dp;lia
theorem Room.units{k:Nat}{A:Around}(r:Room k A):A.units+64<cLine:=by have:=r.un;lia
def u_:TA:=λ_ H Q=>Q [] H
def Ie(a:TE)(c:TA):TA:=λσ H Q=>a σ H λx H1=>c σ H1 λxs H2=>Q (x::xs) H2
section
variable{X:Cx}{e:Expr}{es:List Expr}{te:TE}{t:TA}{pos:Pos}
def pa_nil:PA X [] u_:=λ_ _ _ _ H Q I h=>Calls.spliced_nil ⟨[],H,I,.nil,h⟩
theorem Xu(a:PE X e te)(c:PA X es t)(d:starEach (e::es) X.env=(false,eval e X.env)::starEach es X.env:=by rfl):PA X (e::es) (Ie te t):=by intro pos O9 s σ H Q I h;rw[d];show wpAny _ _ (spliced ((false,eval e X.env)::backTo pos (starEach es X.env))) _ _ s;refine Calls.spliced_cons (thn (a O9 s σ H _ I h) λu f ⟨x,H1,I1,r1,q1⟩=>?_);exact thn (c pos O9 f σ H1 _ I1 q1) λus g ⟨xs,H2,I2,r2,q2⟩=>⟨x::xs,H2,I2,.cons r1 r2,q2⟩
def Lq(t:TA):TE:=λσ H Q=>t σ H λxs a=>xs.length<=sizeLine/\∀p,a p=none->Q (.ref p) (upd a p (.tup xs))
def Ip(t:TA):TE:=λσ H Q=>t σ H λxs a=>xs.length<=sizeLine/\∀p,a p=none->Q (.ref p) (upd a p (.lst xs))
theorem Mz{x1}(h:PA X es t):PE X (.Tuple es x1 pos) (Lq t):=by intro c s σ H Q I hq;refine wpAny_Tuple_spliced (thn (h pos c s σ H _ I hq) λus a ⟨xs,H1,I1,r,z,q⟩=>⟨by rw[<- r.length];exact z,?_⟩);have hf:H1 a.heap.objs.size=none:=I1.hok.fresh (Ae _);refine⟨.ref a.heap.objs.size,upd H1 a.heap.objs.size (.tup xs),I1.laid (t':=a.toks) (λb u e=>Ad _ e) (Ae _) ?_,rfl,q _ hf⟩;exact⟨z,us,r,⟨_,Ar _ rfl,rfl,_,rfl⟩⟩
theorem Bl(h:PA X es t):PE X (.List es pos) (Ip t):=by intro c s σ H Q I hq;refine wpAny_List_spliced (thn (h pos c s σ H _ I hq) λus a ⟨xs,H1,I1,r,z,q⟩=>⟨by rw[<- r.length];exact z,?_⟩);have hf:H1 a.heap.objs.size=none:=I1.hok.fresh (Ae _);refine⟨.ref a.heap.objs.size,upd H1 a.heap.objs.size (.lst xs),I1.laid (t':=a.toks) (λb u e=>Ad _ e) (Ae _) ?_,rfl,q _ hf⟩;exact⟨z,us,0,r,Ar _ rfl⟩
end
abbrev Sp:=List V->Hp->VK->XK->Prop
abbrev CXT:=List Env->Hp->Shared->XK->Value->Shared->Prop
structure Env0(P:Program)(w:World)(K:Aa)(mg:Cg)(O8:Heap)(A:Around)(outer:List Env)(s:Shared)(H:Hp):Prop where
 frames:A.frames=some outer
 mod:Mod K mg O8
 bs:∀b o,O8.get? b=some o->s.heap.get? b=some o/\H b=none
 bsz:O8.objs.size<=s.heap.objs.size
 funs:s.heap.FunFrames O8 outer
 frf:∀b∈frs outer,H b=none
 hok:HOk P w H s.heap
 bare:AllBare s.gens
def CE(outer:List Env)(P:Program)(w:World)(H:Hp)(s:Shared)(Q:VK)(u:Value)(s':Shared):Prop :=
 ∃v H',s'.os=s.os/\AllBare s'.gens/\Un (frs outer) [] H H' s.heap s'.heap/\HOk P w H' s'.heap/\RelV v u/\Q v H'
def CR(CX:CXT)(outer:List Env)(P:Program)(w:World)(H:Hp)(s:Shared)(Q:VK)(E:XK)(r:Result)(s':Shared):Prop :=
 match r with
 |.ok (.ret u)=>CE outer P w H s Q u s'
 |.ok _=>False
 |.error e=>CX outer H s E e s'
structure qC(P:Program)(w:World)(K:Aa)(mg:Cg)(O8:Heap)(CX:CXT)(k:Nat)(f:Addr)(fd:FuncData)(ps:List Str)(sp:Sp):Prop where
 len:∀vs H Q E,sp vs H Q E->vs.length=ps.length
 run:∀(A:Around)(outer:List Env)(s:Shared)(H:Hp)(args:Args)(us:List Value)(vs:List V)(Q:VK)(E:XK),Room k A->Env0 P w K mg O8 A outer s H->BindsTo s fd args (ps.zip us)->Vals vs us->sp vs H Q E ->
  codeAny (model P w) A (.call (.ref f) args) (CR CX outer P w H s Q E) s
theorem Env0.make{P:Program}{w:World}{K:Aa}{mg:Cg}{O8:Heap}{A:Around}{outer:List Env}{s:Shared}{H:Hp}(e:Env0 P w K mg O8 A outer s H)(C:Addr)(us:List Value)(a:List (Str×Value)) :
  Env0 P w K mg O8 (A.under (.builtin "type.__call__" ⟨.ref C::us,a⟩)) outer s H:=⟨by first|exact e.frames|(simpa [Around.under,Code.envs,Code.isFrame,pushEnvs]using e.frames),e.mod,e.bs,e.bsz,e.funs,e.frf,e.hok,e.bare⟩
section
variable{X:Cx}{O9:Cf}{σ:St}{H:Hp}{s s':Shared}
theorem Inv.env0(I:Inv X O9 σ H s):Env0 X.prog X.w X.K X.mg X.O8 X.A X.stack s H :=
 ⟨I.ok.frames,I.ok.mod,I.bs,A8 I.ok.bsz I.sz,I.stack,I.stkFree,I.hok,I.bare⟩
theorem Inv.after{Q:VK}{u:Value}(I:Inv X O9 σ H s)(h:CE X.stack X.prog X.w H s Q u s'):EP X O9 σ Q u s':=by obtain⟨v,c,os,bare,un,hok,r,q⟩:=h;obtain⟨e,g,d,t,a⟩:=s';obtain rfl:a=s.os:=os;exact⟨v,c,I.call (h':=e) (g':=g) (d':=d) (t':=t) (ch:=[]) un hok bare (λb z=>absurd z (by simp)),r,q⟩
end
def Ig(sp:Sp)(a:List V)(E:XK)(t:TA):TE:=λσ H Q=>t σ H λvs H1=>sp (vs++a) H1 Q E
def rD(C:Addr)(m:Str)(sp:Sp)(c:List V)(E:XK)(e:TE)(t:TA):TE:=λσ H Q=>e σ H λx H1=>∃a d fs,x=.ref a/\H1 a=some (.ins C d fs)/\fs.lookup m=none /\
 t σ H1 λvs H2=>sp (x::(vs++c)) H2 Q E
def Binds(K:Aa)(fd:FuncData)(ps:List Str)(ds:List Value):Prop :=
 ∀(s:Shared)(us:List Value),K.In s.heap->(us++ds).length=ps.length->BindsTo s fd ⟨us,[]⟩ (ps.zip (us++ds))
theorem Binds.all{K:Aa}{fd:FuncData}{ps:List Str}(h:∀us:List Value,us.length=ps.length->bindArgs fd ⟨us,[]⟩=pure (ps.zip us)):Binds K fd ps []:=λs us _ a=>by rw[Bc]at a ⊢;exact .of_eq (h us a)
def Yh(CX:CXT)(X:Cx)(E:XK):Prop:=∀(a:Cf)(σ:St)(H:Hp)(s:Shared)(e:Value)(s':Shared),Inv X a σ H s->CX X.stack H s E e s'->X.xe e s'
section
variable{X:Cx}{CX:CXT}{k:Nat}{f C:Addr}{fd:FuncData}{ps:List Str}{sp:Sp}{dvs:List V}{ds:List Value}{E:XK}{x m:Str}{p pos apos:Pos}{e o:Expr}{es:List Expr}{ta:TE}{t:TA}
theorem gc{c:Cf}{σ:St}{H:Hp}{s:Shared}{Q:VK}{us:List Value}{vs:List V}(F:qC X.prog X.w X.K X.mg X.O8 CX k f fd ps sp)(j:Room k X.A)(g:Binds X.K fd ps ds)(hd:Vals dvs ds)(hx:Yh CX X E)
    (I:Inv X c σ H s) (r:Vals vs us) (h:sp (vs++dvs) H Q E):wpAny (model X.prog X.w) X.A (call (.ref f) us) (EP X c σ Q) X.xe s:=by
  have d:Vals (vs++dvs) (us++ds):=r.append hd;have i:(us++ds).length=ps.length:=by rw[<- d.length];exact F.len _ _ _ _ h
  refine wpAny_call (codeAny_mono (F.run X.A X.stack s H ⟨us,[]⟩ (us++ds) (vs++dvs) Q E j I.env0 (g s us I.kIn i) d h) λr s' a=>?_);cases r with
  |error e=>exact hx c σ H s e s' I a
  |ok fl =>
    cases fl with
    |ret u=>exact I.after a
    |next=>exact False.elim a
    |brk=>exact False.elim a
    |cont=>exact False.elim a
theorem Rh(F:qC X.prog X.w X.K X.mg X.O8 CX k f fd ps sp)(j:Room k X.A)(d:Gl X x)(i:X.mg x=some (.ref f))(g:PySem.W.keepIn X.K (.ref f)=true)(c:Binds X.K fd ps ds)(hd:Vals dvs ds)(hx:Yh CX X E)
  (ha:PA X (e::es) t) (hdb:(x==("__debug__" : Str))=false:=by decide) (he:starEach (e::es) X.env=(false,eval e X.env)::starEach es X.env:=by rfl) (hpl:(backTo pos (starEach es X.env)).any (·.1)=false:=by rfl) :
  PE X (.Call (.Name x p) (e::es) [] pos) (Ig sp dvs E t):=by
 intro a s σ H Q I h;refine wpAny_Call_Name_kw (Ge I d i ?_ hdb);refine PySem.W.callWith_K (h₀:=X.O8) I.ok.mod.kin g (thn (ha pos a s σ H _ I h) λus l ⟨vs,H1,I1,r,q⟩=>⟨I1.kIn,?_⟩) he hpl;exact gc F j c hd hx I1 r q
theorem Ra{pl:Sem Bool}(G:PE X o ta)(c:Cls X.K C)(i:ua X.K C m f)(F:qC X.prog X.w X.K X.mg X.O8 CX k f fd ps sp)(J:Room k X.A)(z:Binds X.K fd ps ds)(hd:Vals dvs ds)(hx:Yh CX X E)(y:PA X (e::es) t)
  (hst:starEach (e::es) X.env=(false,eval e X.env)::starEach es X.env:=by rfl) (hpl:(backTo pos (starEach es X.env)).any (·.1)=false:=by rfl)
  (ht:eval (.Call (.Attribute o m apos) (e::es) [] pos) X.env=(do
   let ov <- eval o X.env
   standAt apos.atName
   let (f,first) <- holding [ov] (getMethod ov m pl)
   callWith pos f first (backTo pos (starEach (e::es) X.env)) (backToKw pos (keywordEach [] X.env))):=by rfl) :
  PE X (.Call (.Attribute o m apos) (e::es) [] pos) (rD C m sp dvs E ta t):=by
 intro g s σ H Q I h;refine PySem.W.methodCall_KW (pl:=pl) (thn (G g s σ H _ I h) λu O n=>?_) ht;obtain⟨x,j,d,L,a,P,fs,ex,v,l,q⟩:=n;subst ex;obtain rfl:u=Value.ref a:=L;refine jd d v c i l ?_;refine PySem.W.callWith_K (first:=[.ref a]) (h₀:=X.O8) I.ok.mod.kin i.kp (thn (y pos g O σ j _ d q) λus R ⟨vs,H2,I2,r,q2⟩=>⟨I2.kIn,?_⟩) hst hpl;exact gc (us:=.ref a::us) (vs:=.ref a::vs) F J z hd hx I2 (.cons rfl r) q2
theorem W_{pl:Sem Bool}(v:PE X o ta)(c:Cls X.K C)(g:ua X.K C m f)(F:qC X.prog X.w X.K X.mg X.O8 CX k f fd ps sp)(y:Room k X.A)(r:Binds X.K fd ps ds)(hd:Vals dvs ds)(hx:Yh CX X E)
  (ht:eval (.Call (.Attribute o m apos) [] [] pos) X.env=(do
   let ov <- eval o X.env
   standAt apos.atName
   let (f,first) <- holding [ov] (getMethod ov m pl)
   callWith pos f first (backTo pos (starEach [] X.env)) (backToKw pos (keywordEach [] X.env))):=by rfl) :
  PE X (.Call (.Attribute o m apos) [] [] pos) (rD C m sp dvs E ta u_):=by
 intro i s σ H Q I h;refine PySem.W.methodCall_KW (pl:=pl) (thn (v i s σ H _ I h) λu L j=>?_) ht;obtain⟨x,G,d,z,a,J,fs,ex,n,l,q⟩:=j;subst ex;obtain rfl:u=Value.ref a:=z;refine jd d n c g l ?_;exact PySem.W.callWith_K0 (first:=[.ref a]) d.kIn g.kp (gc (us:=[.ref a]) (vs:=[.ref a]) F y r hd hx d (.cons rfl .nil) q)
structure Mk(K:Aa)(C f:Addr):Prop where
 makes:PySem.W.makesIn K C=true
 init:PySem.W.findIn K (.ref C) "__init__" = some (some (.ref f))
 fn:PySem.W.isFn K (.ref f)=true
 kp:PySem.W.keepIn K (.ref C)=true
end
section
variable{X:Cx}{CX:CXT}{k:Nat}{f C:Addr}{fd:FuncData}{ps ks:List Str}{sp:Sp}{E:XK}{x m:Str}{p pos apos kpos:Pos}{e o:Expr}{es:List Expr}{kws:List Keyword}{te ta:TE}{t tk:TA}{nm:Option Str}
variable{g:List Value->List Value->List Value}{gV:List V->List V->List V}
end
structure QD(N P:List Str)(sc:Scope):Prop where
 kind:sc.kind=.function
 co:sc.isCoroutine=false
 gen:sc.isGenerator=false
 nd:N.Nodup
 pre:N.take P.length=P
 par:∀x∈P,sc.names.lookup x=some .local∨sc.names.lookup x=some .cell
 nofree:∀y∈sc.names,y.2≠.free
theorem UX{kindOf:Str->Option NameKind}{x:Str}:∀{binds:List (Str×Value)}{m:Cg},(∀v,(x,v)∉binds)->bindL kindOf binds m x=m x
  | [],_,_=>rfl
  | (n,v)::r,m,h=>by
    unfold bindL;rw[UX λw a=>h w (At _ a)];split
    . have:x≠n:=by rintro rfl;exact h v Bz
      simp[this]
    . rfl
theorem UV{kindOf:Str->Option NameKind}{x:Str}:∀{binds:List (Str×Value)}{m:Cg},(∀v,(x,v)∉binds)->bindC kindOf binds m x=m x
  | [],_,_=>rfl
  | (n,v)::r,m,h=>by
    unfold bindC;rw[UV λw a=>h w (At _ a)];split
    . rfl
    . have:x≠n:=by rintro rfl;exact h v Bz
      simp[this]
theorem UW{kindOf:Str->Option NameKind}{x:Str}{v:Value}:∀{P:List Str}{vs:List Value}{i:Nat}{m:Cg},P.Nodup->P[i]?=some x->vs[i]?=some v->kindOf x=some .local ->
    bindL kindOf (P.zip vs) m x=some v
  | [],_,_,_,_,h,_,_=>by simp at h
  |_::_,[],_,_,_,_,h,_=>by simp at h
  |p::P,w::vs,0,m,nd,a,c,d=>by simp at a c;subst a;subst c;show bindL kindOf ((p,w)::P.zip vs) m p=_;unfold bindL;rw[UX λv e=>(List.nodup_cons.mp nd).1 (List.of_mem_zip e).1,B8 d];simp
  |p::P,w::vs,i+1,m,nd,a,c,d=>by show bindL kindOf ((p,w)::P.zip vs) m x=_;unfold bindL;exact UW (i:=i) (List.nodup_cons.mp nd).2 (by simpa using a) (by simpa using c) d
theorem UU{kindOf:Str->Option NameKind}{x:Str}{v:Value}:∀{P:List Str}{vs:List Value}{i:Nat}{m:Cg},P.Nodup->P[i]?=some x->vs[i]?=some v->kindOf x≠some .local ->
    bindC kindOf (P.zip vs) m x=some v
  | [],_,_,_,_,h,_,_=>by simp at h
  |_::_,[],_,_,_,_,h,_=>by simp at h
  |p::P,w::vs,0,m,nd,a,c,d=>by simp at a c;subst a;subst c;show bindC kindOf ((p,w)::P.zip vs) m p=_;unfold bindC;rw[UV λv e=>(List.nodup_cons.mp nd).1 (List.of_mem_zip e).1,B7 d];simp
  |p::P,w::vs,i+1,m,nd,a,c,d=>by show bindC kindOf ((p,w)::P.zip vs) m x=_;unfold bindC;exact UU (i:=i) (List.nodup_cons.mp nd).2 (by simpa using a) (by simpa using c) d
def zk(N:List Str)(vs:List V):St:=vs.map some++List.replicate (N.length-vs.length) none
def yC(CX:CXT)(P:Program)(w:World)(K:Aa)(mg:Cg)(O8:Heap)(N:List Str)(a:Str)(scope:Scope)(f:Addr)(d:Value)(A:Around)(outer:List Env)(s:Shared)(H:Hp)(E:XK):Cx where
 prog:=P
 w:=w
 K:=K
 mg:=mg
 O8:=O8
 A:=A.deeper (envOfC a scope s.heap.objs.size f d)
 N:=N
 s₀:=s
 H₀:=H
 env:=envOfC a scope s.heap.objs.size f d
 outer:=outer
 stack:=envOfC a scope s.heap.objs.size f d::outer
 ex:=[]
 calm:=true
 fn:=λ_=>true
 pn:=[]
 xe:=λe s'=>wpAny (model P w) (A.deeper (envOfC a scope s.heap.objs.size f d)) (leaving (envOfC a scope s.heap.objs.size f d) e) (λ_ c=>CX outer H s E e c) (λg c=>CX outer H s E g c) s'
theorem GO{a:Scope}{n:Nat}{x:Str}(h:a.names.lookup x=some .cell):∃c,(cellsFrom n a.names []).lookup x=some c:=by have q:=PySem.W.cellsFrom_some a.names n [] (.inl h);exact Option.isSome_iff_exists.mp q
theorem BE{CX:CXT}{P:Program}{w:World}{K:Aa}{mg:Cg}{O8:Heap}{N ps:List Str}{d:Str}{scope:Scope}{f:Addr}{o:Value}{A:Around}{outer:List Env}{s G:Shared}{H:Hp}{E:XK}{us:List Value}{vs:List V}
  (S:QD N ps scope) (hd:A.handled=none) (e0:Env0 P w K mg O8 A outer s H) (hl:vs.length=ps.length) (r:Vals vs us)
  (x:InCallC s s.heap.objs.size (bindL (envOfC d scope s.heap.objs.size f o).kindOf (ps.zip us) λ_=>none) (cellsFrom (s.heap.objs.size+1) scope.names []) (bindC (envOfC d scope s.heap.objs.size f o).kindOf (ps.zip us) λ_=>none) G) :
  Inv (yC CX P w K mg O8 N d scope f o A outer s H E) [] (zk N vs) H G:=by
 have J:ps.length<=N.length:=by have:=congrArg List.length S.pre;rw[Ax]at this;lia
 obtain⟨t,Q,rfl,C⟩:=x.done;have l:∀b:Addr,b∉(yC CX P w K mg O8 N d scope f o A outer s H E).ex:=λb z=>absurd (show b∈([]:Cj)from z) (by simp);refine⟨⟨e0.mod,S.kind,rfl,rfl,Ae _,λy z c t g=>?_,λy j=>?_,λy c _ h=>?_,λ_=>hd,Around.frames_deeper e0.frames,.inr ⟨rfl,rfl⟩,λb z=>absurd z (l b),e0.bs,e0.bsz,λb _ _=>l b,λb z=>absurd z (l b),e0.funs,e0.frf⟩,
  rfl,e0.bare,Un.kept C,⟨_,x.toInCall.ns,λi y v t g O=>?_⟩,λy c h=>⟨_,x.cell y c h⟩,e0.hok.fresh (Ae _),λy c h=>?_,λp U=>absurd (show p∈([]:Cf)from U) (by simp),e0.hok.kept C,?_⟩
 ·exact name_of_addr x.apart (PySem.mem_of_lookup t) (PySem.mem_of_lookup g)
 ·have j:scope.names.lookup y=some .cell∨scope.names.lookup y=some .free:=j;rcases j with j|j
  ·exact GO j
  ·exact absurd rfl (S.nofree _ (PySem.mem_of_lookup j))
 ·exact Nat.le_of_lt (x.above y c (PySem.mem_of_lookup h))
 ·have hi:i<vs.length:=by
   unfold zk at g;by_cases hi:i<vs.length
   ·exact hi
   ·rw[Ao (by simpa using hi)]at g;rw[List.getElem?_replicate]at g;split at g<;>cases g
  have I:vs[i]?=some v:=by
   unfold zk at g;rw[Af (by simpa using hi),Be]at g;cases e:vs[i]? with
   |none=>rw[e]at g;cases g
   |some a=>rw[e]at g;cases g;rfl
  obtain⟨u,F,L⟩:=r.get I;have U:ps[i]?=some y:=by rw[<- S.pre,List.getElem?_take_of_lt ⋯];exact t
  have m:ps.Nodup:=by rw[<- S.pre];exact S.nd.sublist (List.take_sublist _ _)
  refine⟨u,L,?_⟩;rcases S.par y (As U)with k|k
  ·exact .inl ⟨k,UW m U F k⟩
  ·obtain⟨c,e⟩:=GO (n:=s.heap.objs.size+1) k;refine .inr ⟨.inl k,c,e,?_⟩;have q:=x.cell y c e;rw[UU m U F (by show scope.names.lookup y≠_;rw[k];decide)]at q;exact q
 ·exact e0.hok.fresh (Nat.le_of_lt (x.above y c (PySem.mem_of_lookup h)))
 ·unfold zk;show _=N.length;rw[Ak,Bb,List.length_replicate];lia
theorem M_{CX:CXT}{P:Program}{w:World}{K:Aa}{mg:Cg}{O8:Heap}{k:Nat}{f:Addr}{name a:Str}{params:Arguments}{body:List Stmt}{scope:Scope}{G kV i L c ct oc:Value}{F od:Option Addr}
    {osl:Array (Option Value)} {N ps:List Str} {sp:Sp} (lk:K.lookup f=some ⟨oc,od,.func (PySem.W.fnOf name a params body scope G kV i L F c ct),osl⟩) (hcd:PySem.W.codeIn K c a=true) (S:QD N ps scope)
    (len:∀vs H Q E,sp vs H Q E->vs.length=ps.length)
    (hbody:∀(A:Around)(outer:List Env)(s:Shared)(H:Hp)(vs:List V)(Q:VK)(E:XK),Room k (A.deeper (envOfC a scope s.heap.objs.size f c))->sp vs H Q E ->
      ∃t,PSs (yC CX P w K mg O8 N a scope f c A outer s H E) body t/\t { nx:=λ_ d=>Q .non d,rt:=Q } (zk N vs) H) :
    qC P w K mg O8 CX (k+1) f (PySem.W.fnOf name a params body scope G kV i L F c ct) ps sp:=by
  refine⟨len,λA outer s H args us vs Q E m e0 R r l=>?_⟩;have U:=len _ _ _ _ l;have C:K.In s.heap:=e0.mod.kin.keeps λb o e=>(e0.bs b o e).1;have lim:s.heap.NoLimit:=e0.mod.nolimit.keeps λb o e=>(e0.bs b o e).1;have g:∀y∈ps.zip us,scope.names.lookup y.1=some .local∨(scope.names.lookup y.1=some .cell/\((cellsFrom (s.heap.objs.size+1) scope.names []).lookup y.1).isSome=true):=λ⟨n,v⟩ Z=>by
    rcases S.par n (List.of_mem_zip Z).1 with q|q
    . exact .inl q
    . exact .inr ⟨q,PySem.W.cellsFrom_some _ _ _ (.inl q)⟩
  refine codeAny_call_function m.depth (C _ _ lk) rfl S.co S.gen rfl (PySem.W.codeRec_of C hcd) (R _ _ _ _ ?_);refine wpAny_newFunctionEnv_cells S.kind g λenv T O x=>?_;subst T;refine⟨lim.keeps x.toInCall.keep,codeAny_func ?_⟩;obtain⟨t,Y,X⟩:=hbody A outer s H vs Q E (m.deeper _) l;have I:Inv (yC CX P w K mg O8 N a scope f c A outer s H E) [] (zk N vs) H O:=BE S m.hd e0 U r x;refine wpAny_mono (Y [] O (zk N vs) H _ I X) (λfl s' h=>?_) λe s' h=>h;have j:∀{σ':St}{d:Hp}{v:V}{u:Value},Inv (yC CX P w K mg O8 N a scope f c A outer s H E) [] σ' d s'->RelV v u->Q v d->CE outer P w H s Q u s' :=
    λ{σ' d v u} J z q=>⟨v,d,J.os,J.bare,J.O8,J.hok,z,q⟩
  cases fl with
  |ret u=>obtain⟨v,σ',d,J,z,q⟩:=h;exact j J z q
  |next=>obtain⟨σ',d,J,q⟩:=h;exact j (v:=V.non) (u:=Value.none) J rfl q
  |brk=>obtain⟨_,_,_,q⟩:=h;exact False.elim q
  |cont=>obtain⟨_,_,_,q⟩:=h;exact False.elim q
section
variable{X:Cx}{x:Str}{p pos:Pos}{e:Expr}{es:List Expr}{t:TA}{id T:String}{r:List V->Hp->VK->Prop}
def tCB(r:List V->Hp->VK->Prop)(t:TA):TE:=λσ H Q=>t σ H λvs H1=>r vs H1 Q
theorem vi(f:CallR X (.builtin id) r)(g:Gl X x)(i:X.mg x=none)(l:bootBuiltins x=some (.builtin id))(d:PA X (e::es) t)(j:x ≠ "__name__" := by decide)(a:(x==("__debug__" : Str))=false:=by decide)
  (he:starEach (e::es) X.env=(false,eval e X.env)::starEach es X.env:=by rfl) (hpl:(backTo pos (starEach es X.env)).any (·.1)=false:=by rfl):PE X (.Call (.Name x p) (e::es) [] pos) (tCB r t):=by
 intro c s σ H Q I h;refine wpAny_Call_Name_kw (XM I g i l ?_ j a);exact PyProof.Rows.callWith_builtin1 (thn (d pos c s σ H _ I h) λus m ⟨vs,H1,I1,r1,q1⟩=>f c m σ H1 vs us Q I1 r1 q1) he hpl
theorem BY(f:CallR X (.type T) r)(g:Gl X x)(i:X.mg x=none)(l:bootBuiltins x=some (.type T))(d:PA X (e::es) t)(j:x ≠ "__name__" := by decide)(a:(x==("__debug__" : Str))=false:=by decide)
  (he:starEach (e::es) X.env=(false,eval e X.env)::starEach es X.env:=by rfl) (hpl:(backTo pos (starEach es X.env)).any (·.1)=false:=by rfl):PE X (.Call (.Name x p) (e::es) [] pos) (tCB r t):=by
 intro c s σ H Q I h;refine wpAny_Call_Name_kw (XM I g i l ?_ j a);exact PyProof.Rows.callWith_type1 (thn (d pos c s σ H _ I h) λus m ⟨vs,H1,I1,r1,q1⟩=>f c m σ H1 vs us Q I1 r1 q1) he hpl
end
end L2
namespace HT
open PySem PyProof.Rows
section
open PySem.SeqAt
open PySem.AutoSeq1 (wpAny_loadPart')
open PySem.MeetsSeq PySem.MeetsSeq2 PySem.MeetsSeq3
end
section
variable{prog:Program}{w:World}{A:Around}{E:Ce}{s:Shared}
theorem cat_tup{t b:Addr}{vs a:List Value}{Q:Ce}(x:IsTup s.heap t vs.toArray)(v:IsTup s.heap b a.toArray)(q:vs≠[])
  (h1:a=[]->Q (.ref t) s) (h2:a≠[]->Q (.ref s.heap.objs.size) { s with heap:=s.heap.push { cls:=.type "tuple", data:=.seq (vs++a).toArray } })
  (hsz:vs.length+a.length<=sizeLine):wpAny (model prog w) A (binaryOp .Add (.ref t) (.ref b)) Q E s:=by
 obtain⟨⟨cls,m,data,u⟩,i,o,n,hd⟩:=id x;obtain⟨⟨l,d,data2,h⟩,c,f,r,g⟩:=id v;simp only at o hd f g;subst o hd f g;have e:vs.toArray++a.toArray=(vs++a).toArray:=by simp
 by_cases j:a=[]
 ·exact concat_meets ⟨_,i,rfl⟩ ⟨_,c,rfl⟩ noFill_tuple_add seq_tuple_add PySem.F.slot_tuple_add PySem.F.entry_tuple_add (PySem.F.args_tuple_add_2 _ _)
   (tuple_addW1 t b vs.toArray a.toArray n r m d u h (by simpa using q) (by simp[j])) ⟨i,c,h1 j⟩
 ·refine concat_meets ⟨_,i,rfl⟩ ⟨_,c,rfl⟩ noFill_tuple_add seq_tuple_add PySem.F.slot_tuple_add PySem.F.entry_tuple_add (PySem.F.args_tuple_add_2 _ _)
   (tuple_addW2 t b vs.toArray a.toArray n r m d u h (by simpa using q) (by simpa using j) (by rw[Am,Am];exact hsz)) ⟨i,c,?_⟩
  rw[e];exact h2 j
def sIx(n d:Nat):Option Int->Nat
 |none=>d
 |some v=>if v<0 then (v+(n:Int)).toNat else min v.toNat n
theorem sIx_nat(n d k:Nat):sIx n d (some (k:Int))=min k n:=by show(if (k:Int)<0 then ((k:Int)+(n:Int)).toNat else min (k:Int).toNat n)=min k n;rw[B7 ⋯,Int.toNat_natCast]
theorem L_(n d:Nat)(hd:d<=n)(o:Option Int):sIx n d o<=n:=by
  cases o with
  |none=>exact hd
  |some v =>
    show(if v<0 then (v+(n:Int)).toNat else min v.toNat n)<=n;by_cases a:v<0
    . rw[B8 a];lia
    . rw[B7 a];exact Nat.min_le_right _ _
theorem g9(v:Int)(n d:Nat):(if v<0 then max (v+(n:Int)) 0 else min v (n:Int))=((sIx n d (some v):Nat):Int):=by
 show(if v<0 then max (v+(n:Int)) 0 else min v (n:Int))=(((if v<0 then (v+(n:Int)).toNat else min v.toNat n):Nat):Int);by_cases a:v<0
 ·simp only[B8 a];lia
 ·simp only[B7 a];lia
theorem ub(a hi:Option Int)(n:Nat):Builtin.Slice.sliceAdjust a hi 1 (n:Int)=(((sIx n 0 a:Nat):Int),((sIx n n hi:Nat):Int)):=by
 have c:¬ ((1:Int)<0):=⋯
 unfold Builtin.Slice.sliceAdjust;simp only[c,if_false];refine Prod.ext ?_ ?_
 ·cases a with
  |none=>rfl
  |some v=>exact g9 v n 0
 ·cases hi with
  |none=>rfl
  |some v=>exact g9 v n n
theorem uY(i j:Nat):Builtin.Slice.slicePlaces (i:Int) (j:Int) 1=j-i:=by
 unfold Builtin.Slice.slicePlaces;have a:(1:Int) > 0:=⋯
 simp only[a,if_true,Int.ediv_one];split<;>lia
theorem Ud{v:Value}{o:Option Int}{Q:Option Int->Shared->Prop}(p:IsPart v o)(h:Q o s):wpAny (model prog w) A (Builtin.Slice.slicePartIndex v) Q E s:=by
 cases p with
 |none=>exact slicePart_none h
 |int i t=>exact slicePart_int h
theorem sliceApplied_gen{g:Addr}{e f:Value}{a hi:Option Int}{n:Nat}{Q:Int×Int×Nat->Shared->Prop}(j:s.heap.IsSliceOf g e f .none)(pl:IsPart e a)(l:IsPart f hi)
  (h:Q (((sIx n 0 a:Nat):Int),1,sIx n n hi-sIx n 0 a) s):wpAny (model prog w) A (Builtin.Slice.sliceApplied (.ref g) (pure (n:Int))) Q E s:=by
 obtain⟨os,d,i,c⟩:=id j;unfold Builtin.Slice.sliceApplied Builtin.Slice.sliceFields;refine B0 (B0 (wpAny_field d c (x:=e) rfl (B0 (wpAny_field d c (x:=f) rfl (B0 (wpAny_field d c (x:=.none) rfl (B9 ?_)))))));refine B0 (slicePart_none ?_);show wpAny _ _ (if ((1:Int)==0)=true then _ else _) _ _ s;rw[B7 (by decide)];refine B0 (Ud pl (B0 (Ud l (B0 (B9 ?_)))));show wpAny _ _ (match Builtin.Slice.sliceAdjust a hi 1 (n:Int)with|(a,hi)=>pure (a,(1:Int),Builtin.Slice.slicePlaces a hi 1)) _ _ s;rw[ub a hi n];show wpAny _ _ (pure (((sIx n 0 a:Nat):Int),(1:Int),Builtin.Slice.slicePlaces ((sIx n 0 a:Nat):Int) ((sIx n n hi:Nat):Int) 1)) _ _ s;rw[uY];exact B9 h
theorem W8(xs:Array Value)(i k:Nat):((List.range k).filterMap λ(m:Nat)=>xs[((i:Int)+(m:Int) * 1).toNat]?).toArray=((xs.toList.drop i).take k).toArray:=by
 have e:(λ(m:Nat)=>xs[((i:Int)+(m:Int) * 1).toNat]?)=λm=>xs[i+m]?:=by
  funext m;have:((i:Int)+(m:Int) * 1).toNat=i+m:=⋯
  rw[this]
 rw[e];have:=pick_run xs i k;rw[List.filterMap_map]at this;have a:((λx=>xs[x]?)∘λx=>i+x)=λm=>xs[i+m]?:=rfl;rw[a]at this;rw[this]
theorem getItem_tuple_cut{t j:Addr}{items:Array Value}{n o:Value}{c hi:Option Int}{Q:Ce}(d:IsTup s.heap t items)(l:s.heap.IsSliceOf j n o .none)(pl:IsPart n c)(u:IsPart o hi)
  (hw:¬ (sIx items.size 0 c=0/\sIx items.size items.size hi=items.size))
  (h:Q (.ref s.heap.objs.size) { s with heap:=s.heap.push { cls:=.type "tuple", data:=.seq ((items.toList.drop (sIx items.size 0 c)).take (sIx items.size items.size hi-sIx items.size 0 c)).toArray } })
  (hsz:items.size<=sizeLine):wpAny (model prog w) A (getItem (.ref t) (.ref j)) Q E s:=by
 have a:sizeOk (.seq ((items.toList.drop (sIx items.size 0 c)).take (sIx items.size items.size hi-sIx items.size 0 c)).toArray):=by show((items.toList.drop (sIx items.size 0 c)).take (sIx items.size items.size hi-sIx items.size 0 c)).toArray.size<=sizeLine;rw[Am,Ax,Ba,Array.length_toList];lia
 have v:sIx items.size items.size hi<=items.size:=L_ _ _ (Ae _) hi;obtain⟨os,i,f,r⟩:=id l;have e:s.TypeIs (.ref j) "slice" := ⟨os,i,f⟩;unfold getItem
 try with_reducible refine wpAny_holding ?_
 first|refine B0 (B9 ?_)|skip
 refine B0 (wpAny_sequenceKey d.typeIs (by decide) ?_);refine B0 (wpAny_callSpecial?_slot (name:=Str.ofString "__getitem__") d.typeIs PyProof.Rows.slot_tuple_getitem
  (wpAny_call_entry PyProof.Rows.slot_tuple_getitem d.typeIs entry_tuple_getitem ?_ (args_tuple_getitem _ _)))
 show wpAny _ _ (Builtin.Tuple.tupleItemsOf (.ref t) >>= _) _ _ s;refine B0 (tupleItemsOf_ d ?_);refine B0 (wpAny_typeOf e ?_);rw[B8 (by decide)];refine B0 (sliceApplied_gen l pl u ?_);have g:¬ ((((sIx items.size 0 c:Nat):Int)==0&&(1:Int)==1&&(sIx items.size items.size hi-sIx items.size 0 c)==items.size)=true):=by intro q;rw[A0,A0]at q;have x:((sIx items.size 0 c:Nat):Int)=0:=eq_of_beq q.1.1;have y:sIx items.size items.size hi-sIx items.size 0 c=items.size:=eq_of_beq q.2;exact hw ⟨⋯,⋯⟩
 show wpAny _ _ (if (((sIx items.size 0 c:Nat):Int)==0&&(1:Int)==1&&(sIx items.size items.size hi-sIx items.size 0 c)==items.size)=true then _ else _) _ _ s;rw[B7 g,W8]
 first
  |exact B0 (m:=Builtin.Tuple.tupleExact _) (wpAny_newObj_type (B9 ⟨_,rfl,B9 h⟩) a)
  |exact B0 (m:=Builtin.Tuple.tupleExact _) (wpAny_newObj_type (B0 (B9 (B9 ⟨_,rfl,B9 h⟩))) a)
  |exact B0 (B0 (m:=Builtin.Tuple.tupleExact _) (wpAny_newObj_type (B9 (B9 ⟨_,rfl,B9 h⟩)) a))
  |exact B0 (B0 (m:=Builtin.Tuple.tupleExact _) (wpAny_newObj_type (B9 ⟨_,rfl,B9 h⟩) a))
end
end HT
namespace L2
open PySem PySem.Spec PyProof.Rows
abbrev TO:=St->Hp->(Option Int->Hp->Prop)->Prop
def PO(X:Cx)(e:Option Expr)(t:TO):Prop :=
  ∀(O9 : List (Addr × Obj))(s : Shared)(σ : St)(H : Hp)(Q : Option Int -> Hp -> Prop), Inv X O9 σ H s -> t σ H Q ->
    wpAny (model X.prog X.w) X.A (evalPart e X.env) (λu s'=>∃o H',Inv X O9 σ H' s'/\IsPart u o/\Q o H') X.xe s
def Rv:TO:=λ_ H Q=>Q none H
def H_(t:TE):TO:=λσ H Q=>t σ H λx H1=>∃i,x=.int i/\Q (some i) H1
section
variable{X:Cx}{e:Expr}{te:TE}{lo hi:Option Expr}{tl th:TO}{pos p2:Pos}
theorem PJ:PO X none Rv:=by intro a s σ H Q I h;rw[evalPart_none];exact B9 ⟨none,H,I,.none,h⟩
theorem PB(h:PE X e te):PO X (some e) (H_ te):=by intro a s σ H Q I hw;rw[evalPart_some];refine thn (h a s σ H _ I hw) λu c ⟨x,H1,I1,r1,q1⟩=>?_;obtain⟨i,rfl,q⟩:=q1;obtain⟨t,rfl⟩:=r1;exact⟨some i,H1,I1,.int i t,q⟩
def SlR(X:Cx)(r:V->Option Int->Option Int->Hp->VK->Prop):Prop :=
  ∀(a : List (Addr × Obj))(s : Shared)(σ : St)(H : Hp)(x : V)(v d f : Value)(lo hi : Option Int)(c : Addr)(Q : VK), Inv X a σ H s -> RelV x v -> s.heap.IsSliceOf c d f .none -> IsPart d lo -> IsPart f hi -> r x lo hi H Q ->
    ∃T id,typeLookup (.type T) "__getitem__" = pure (some (.builtin id))/\s.TypeIs v T/\wpAny (model X.prog X.w) X.A (getItem v (.ref c)) (EP X a σ Q) X.xe s
def tSl(r:V->Option Int->Option Int->Hp->VK->Prop)(te:TE)(tl th:TO):TE:=λσ H Q=>te σ H λx H1=>tl σ H1 λl H2=>th σ H2 λu H3=>r x l u H3 Q
theorem vj{r:V->Option Int->Option Int->Hp->VK->Prop}(o:SlR X r)(j:PE X e te)(n:PO X lo tl)(y:PO X hi th):PE X (.Subscript e (.Slice lo hi none p2) pos) (tSl r te tl th):=by intro c s σ H Q I h;refine Subscript_ (thn (j c s σ H _ I h) λv z ⟨x,H1,I1,r1,q1⟩=>?_);refine wpAny_Slice (thn (n c z σ H1 _ I1 q1) λd C ⟨l,H2,I2,pl,q2⟩=>thn (y c C σ H2 _ I2 q2) λf a ⟨u,H3,I3,pu,q3⟩=>?_);rw[evalPart_none];refine B9 ?_;have g:Inv X c σ H3 { a with heap:=a.heap.push { cls:=.type "slice", data:=.fields #[d,f,.none] } }:=I3.kept (t':=a.toks) λb E q=>Ad _ q;obtain⟨T,id,i,t,m⟩:=o c { a with heap:=a.heap.push { cls:=.type "slice", data:=.fields #[d,f,.none] } } σ H3 x v d f l u a.heap.objs.size Q g r1 (Heap.IsSliceOf.new ..) pl pu q3;show wpAny (model X.prog X.w) X.A (subscriptTail e (.Slice lo hi none p2) v (.ref a.heap.objs.size)) (EP X c σ Q) X.xe { a with heap:=a.heap.push { cls:=.type "slice", data:=.fields #[d,f,.none] } };exact tail_any (ops:=[.ref a.heap.objs.size,v]) t i m (by with_unfolding_all rfl)
def GR(xs:List V)(lo hi:Option Int):List V:=(xs.drop (HT.sIx xs.length 0 lo)).take (HT.sIx xs.length xs.length hi-HT.sIx xs.length 0 lo)
theorem yd(xs:List V)(lo hi:Option Int):(GR xs lo hi).length<=xs.length:=by unfold GR;rw[Ax,Ba];lia
def IW(K:Aa):V->Option Int->Option Int->Hp->VK->Prop:=λx lo hi H Q=>∃a xs,x=.ref a/\SqT K H a xs /\
 ¬ (HT.sIx xs.length 0 lo=0/\HT.sIx xs.length xs.length hi=xs.length)/\∀p,H p=none->Q (.ref p) (upd H p (.tup (GR xs lo hi)))
theorem LQ:SlR X (IW X.K):=by
 intro i s σ H x v vl vu lo hi sl Q I rx hs pl pu h;obtain⟨a,xs,rfl,hx,g,q⟩:=h;cases rx;obtain⟨d,r,f,hz⟩:=I.tuple hx;have c:d.toArray.size=xs.length:=by rw[Am];exact r.length.symm
 refine⟨"tuple", _,PyProof.Rows.slot_tuple_getitem.lookup,f.typeIs,?_⟩;refine HT.getItem_tuple_cut f hs pl pu (by rw[c];exact g) ?_ (by rw[c];exact hz);rw[c];refine⟨.ref s.heap.objs.size,_,I.laid (t':=s.toks) (o:=.tup (GR xs lo hi)) (λb j q=>Ad _ q) (Ae _) ?_,rfl,q _ (I.hok.fresh (Ae _))⟩;exact⟨A8 (yd xs lo hi) hz,_,(r.drop (HT.sIx xs.length 0 lo)).take (HT.sIx xs.length xs.length hi-HT.sIx xs.length 0 lo),IsTup.new _ _⟩
def Ik(K:Aa):R2:=λx y H Q=>∃a b xs ys,x=.ref a/\y=.ref b/\SqT K H a xs/\SqT K H b ys/\xs≠[]/\xs.length+ys.length<=sizeLine /\
 (ys=[]->Q (.ref a) H)/\(ys≠[]->∀p,H p=none->Q (.ref p) (upd H p (.tup (xs++ys))))
theorem Vals.nil_iff{xs:List V}{us:List Value}(r:Vals xs us):us=[]↔xs=[]:=by
 cases r with
 |nil=>simp
 |cons _ _=>simp
theorem Rn:OpR X (binaryOp .Add) (Ik X.K):=by intro r s σ H x y v u Q I rx ry h;obtain⟨a,b,xs,ys,rfl,rfl,g,i,hx,hz,m,n⟩:=h;cases rx;cases ry;obtain⟨j,d,l,_⟩:=I.tuple g;obtain⟨f,c,p2,_⟩:=I.tuple i;refine HT.cat_tup l p2 (λz=>hx (d.nil_iff.mp z)) (λz=>⟨.ref a,H,I,rfl,m (c.nil_iff.mp z)⟩) (λz=>?_) (by rw[<- d.length,<- c.length];exact hz);refine⟨.ref s.heap.objs.size,_,I.laid (t':=s.toks) (o:=.tup (xs++ys)) (λb t q=>Ad _ q) (Ae _) ?_,rfl,n (λw=>z (c.nil_iff.mpr w)) _ (I.hok.fresh (Ae _))⟩;exact⟨by rw[Ak];exact hz,_,d.append c,IsTup.new _ _⟩
end
def ixN(n:Nat)(i:Int):Option Nat:=if 0<=i then (if i<n then some i.toNat else none)else if -(n:Int)<=i then some (i+n).toNat else none
def atI{α:Type}(xs:List α)(i:Int):Option α:=(ixN xs.length i).bind λj=>xs[j]?
theorem kL{n:Nat}{i:Int}{j:Nat}(h:ixN n i=some j):seqIndex? i n=some j/\j<n /\ -(n:Int)<=i/\i<n:=by
 unfold ixN at h;by_cases c:0<=i
 ·rw[B8 c]at h;by_cases a:i<n
  ·rw[B8 a]at h;have e:i.toNat=j:=Ai h;exact⟨by rw[seqIndex_of c a,e],⋯,⋯,a⟩
  ·rw[B7 a]at h;cases h
 ·rw[B7 c]at h;by_cases a:-(n:Int)<=i
  ·rw[B8 a]at h;have e:(i+n).toNat=j:=Ai h;exact⟨by rw[seqIndex_neg ⋯ a,e],⋯,a,⋯⟩
  ·rw[B7 a]at h;cases h
theorem gQ{α:Type}{xs:List α}{i:Int}{v:α}(h:atI xs i=some v):∃j,seqIndex? i xs.length=some j/\xs[j]?=some v/\j<xs.length /\ -(xs.length:Int)<=i/\i<xs.length:=by
  unfold atI at h;cases e:ixN xs.length i with
  |none=>rw[e]at h;cases h
  |some j=>rw[e]at h;obtain⟨a,c,d,f⟩:=kL e;exact⟨j,a,h,c,d,f⟩
theorem KB{α:Type}{xs:List α}{j:Nat}{v:α}(h:xs[j]?=some v):atI xs (j:Int)=some v:=by
 have a:j<xs.length:=(Ac.mp h).1;have e:ixN xs.length (j:Int)=some j:=by unfold ixN;rw[B8 ⋯,B8 ⋯];simp
 unfold atI;rw[e];exact h
theorem GI{α:Type}(xs:List α)(v:α):atI (xs++[v]) (-1)=some v:=by
 have a:(xs++[v]).length=xs.length+1:=by simp
 have e:ixN (xs++[v]).length (-1)=some xs.length:=by unfold ixN;rw[a,B7 (by decide),B8 ⋯];congr 1;lia
 unfold atI;rw[e];show(xs++[v])[xs.length]?=some v;simp
def Kw(b:Expr):Prop:=∀o i,subscripted b false o i=operate [o,i] (getItem o i)
def IxR(X:Cx)(r:R2):Prop :=
  ∀(value slice : Expr)(a : List (Addr × Obj))(s : Shared)(σ : St)(H : Hp)(x y : V)(v u : Value)(Q : VK), Inv X a σ H s -> RelV x v -> RelV y u -> r x y H Q ->
    subscripted slice false v u=operate [v,u] (getItem v u)->wpAny (model X.prog X.w) X.A (subscriptTail value slice v u) (EP X a σ Q) X.xe s
def MtR(X:Cx)(id:String)(r:V->List V->Hp->VK->Prop):Prop :=
  ∀(a : List (Addr × Obj))(s : Shared)(σ : St)(H : Hp)(x : V)(xs : List V)(v : Value)(us : List Value)(Q : VK), Inv X a σ H s -> RelV x v -> Vals xs us -> r x xs H Q ->
    wpAny (model X.prog X.w) X.A (call (.builtin id) (v::us)) (EP X a σ Q) X.xe s
section
variable{X:Cx}{a b:Expr}{ta tb:TE}{pos:Pos}
theorem wM{r:R2}(f:IxR X r)(d:PE X a ta)(e:PE X b tb)(g:Kw b):PE X (.Subscript a b pos) (tOp r ta tb):=by intro c s σ H Q I h;exact Subscript_ (rm d e I h λv u l x y H2 I2 i j q=>f a b c l σ H2 x y v u Q I2 i j q (g _ _))
def La(K:Aa):R2:=λx y H Q=>∃p xs i v,x=.ref p/\y=.int i/\SqL K H p xs/\atI xs i=some v/\Q v H
def K_(K:Aa):R2:=λx y H Q=>∃p xs i v,x=.ref p/\y=.int i/\SqT K H p xs/\atI xs i=some v/\Q v H
theorem kM:IxR X (La X.K):=by
 intro value slice O9 s σ H x y v u Q I rx ry h hs;obtain⟨p,xs,i,z,rfl,rfl,G,E,q⟩:=h;cases rx;obtain⟨t,rfl⟩:=ry;obtain⟨f,r,pl,hz⟩:=I.list G;obtain⟨j,d,n,J,o,C⟩:=gQ E;obtain⟨w,l,g⟩:=r.get n;have F:=r.length;have L:=VH;have c:EP X O9 σ Q w s:=⟨z,H,I,g,q⟩;by_cases m:0<=i
 ·have e:i.toNat=j:=by rw[seqIndex_of m C]at d;exact Ai d
  exact item_listR pl.isList m ⋯ (by rw[e];simpa using l) c hs
 ·have e:(i+(f.toArray.size:Int)).toNat=j:=by rw[seqIndex_neg ⋯ o]at d;rw[Am,<- F];exact Ai d
  exact subscriptTail_builtinR (x:=w) pl.isList.typeIs slot_list_getitem.lookup
   (wpAny_getItem_list_neg (Q:=λr s'=>r=w/\EP X O9 σ Q r s') pl.isList ⋯ (by rw[Am]<;>lia) ⋯ (by rw[e];simpa using l) ⟨rfl,c⟩) hs
theorem O6:IxR X (K_ X.K):=by
 intro value slice O9 s σ H x y v u Q I rx ry h hs;obtain⟨p,xs,i,z,rfl,rfl,n,l,q⟩:=h;cases rx;obtain⟨t,rfl⟩:=ry;obtain⟨o,r,pl,hz⟩:=I.tuple n;obtain⟨j,f,g,C,E,F⟩:=gQ l;obtain⟨w,e,d⟩:=r.get g;have m:=r.length;have G:=VH;have c:EP X O9 σ Q w s:=⟨z,H,I,d,q⟩;exact subscriptTail_builtinR (x:=w) pl.typeIs slot_tuple_getitem.lookup
  (getItem_tuple (j:=j) (Q:=λr s'=>r=w/\EP X O9 σ Q r s') pl ⋯ ⋯ (by rw[Am,<- m];exact f) (by simpa using e) ⟨rfl,c⟩) hs
theorem uP(c:List Value)(n j:Nat)(u:Value):Obj.mapSeq (·.setIfInBounds j u) { cls:=.type "list", data:=.seq c.toArray n }={ cls:=.type "list", data:=.seq (c.set j u).toArray n }:=by simp[Obj.mapSeq]
theorem Inv.lst{d:Cf}{σ:St}{H:Hp}{s:Shared}{p:Addr}{xs:List V}(I:Inv X d σ H s)(h:H p=some (.lst xs)) :
  ∃(c:List Value) (n:Nat),Vals xs c/\s.heap.get? p=some { cls:=.type "list", data:=.seq c.toArray n }/\xs.length<=sizeLine:=by
 obtain⟨z,c,n,r,e⟩:=I.hok p _ h;exact⟨c,n,r,e,z⟩
theorem Inv.lstUpd{g:Cf}{σ:St}{H:Hp}{s:Shared}{p:Addr}{xs ys:List V}{c its':List Value}{n d:Nat}{f:Obj->Obj}(I:Inv X g σ H s)(h:H p=some (.lst xs))
  (ho:s.heap.get? p=some { cls:=.type "list", data:=.seq c.toArray n }) (hf:f { cls:=.type "list", data:=.seq c.toArray n }={ cls:=.type "list", data:=.seq its'.toArray d }) (r:Vals ys its') (hz:ys.length<=sizeLine) (t:Nat) :
  Inv X g σ (upd H p (.lst ys)) { s with heap:=s.heap.update p f,toks:=t }:=by
 have e:(s.heap.update p f).get? p=some { cls:=.type "list", data:=.seq its'.toArray d }:=by rw[Heap.get?_update_self f ho (by rw[hf]<;>rfl),hf]
 refine I.write (x:=p) (e:=p) (by rw[h];trivial) (.inl rfl) (λb u i q=>(Heap.get?_update_other _ _ (Ne.symm i)).trans q) ⟨_,e⟩ ?_;exact⟨hz,its',d,r,e⟩
def Ii:V->V->V->Hp->(Hp->Prop)->Prop:=λo i v H Q=>∃p xs k j,o=.ref p/\i=.int k/\H p=some (.lst xs)/\ixN xs.length k=some j/\Q (upd H p (.lst (xs.set j v)))
theorem WF:oM X Ii:=by
 intro z s σ H o i v ov iv u Q I ro ri rv h;obtain⟨p,xs,k,j,rfl,rfl,U,C,q⟩:=h;cases ro;obtain⟨t,rfl⟩:=ri;obtain⟨c,n,r,g,hz⟩:=I.lst U;obtain⟨d,E,x,y⟩:=kL C;have f:=r.length;have F:=VH;have l:Inv X z σ (upd H p (.lst (xs.set j v))) { s with heap:=s.heap.update p (Obj.mapSeq (·.setIfInBounds j u)) } :=
  I.lstUpd U g (uP c n j u) (r.set rv j) (by rw[List.length_set];exact hz) s.toks
 by_cases m:0<=k
 ·have e:k.toNat=j:=by rw[seqIndex_of m y]at d;exact Ai d
  exact PySem.W.ki_setAt g m ⋯ (by rw[Am,<- f];exact y) (by rw[e];exact⟨_,l,q⟩)
 ·have e:(k+(c.toArray.size:Int)).toNat=j:=by rw[seqIndex_neg ⋯ x]at d;rw[Am,<- f];exact Ai d
  exact PySem.W.ki_setBack g ⋯ (by rw[Am,<- f];exact x) ⋯ (by rw[e];exact⟨_,l,q⟩)
theorem GB(c hi:Option Int)(n:Nat):(sliceBounds c hi none n).1=((HT.sIx n 0 c:Nat):Int)/\(sliceBounds c hi none n).2.1=((HT.sIx n n hi:Nat):Int)/\(sliceBounds c hi none n).2.2=1:=by
  refine⟨?_,?_,rfl⟩
  . cases c with
    |none=>simp[sliceBounds,HT.sIx]
    |some i =>
      simp only[sliceBounds,HT.sIx,Option.getD_none,show(1:Int) > 0 by decide,if_true];by_cases h:i<0
      . simp only[h,if_true]<;>lia
      . simp only[h,if_false]<;>lia
  . cases hi with
    |none=>simp[sliceBounds,HT.sIx]
    |some i =>
      simp only[sliceBounds,HT.sIx,Option.getD_none,show(1:Int) > 0 by decide,if_true];by_cases h:i<0
      . simp only[h,if_true]<;>lia
      . simp only[h,if_false]<;>lia
theorem UO(c:List Value)(d hi:Option Int):slicePick c.toArray d hi none=((c.drop (HT.sIx c.length 0 d)).take (HT.sIx c.length c.length hi-HT.sIx c.length 0 d)).toArray:=by obtain⟨e,f,g⟩:=GB d hi c.toArray.size;unfold slicePick;rw[e,f,g];simp only[sliceRange_one,pick_run,Am]<;>rfl
def I_(K:Aa):V->Option Int->Option Int->Hp->VK->Prop:=λx c hi H Q=>∃a xs,x=.ref a/\SqL K H a xs/\∀p,H p=none->Q (.ref p) (upd H p (.lst (GR xs c hi)))
theorem CG:SlR X (I_ X.K):=by
 intro f s σ H x v vl vu lo hi sl Q I rx hs pl pu h;obtain⟨a,xs,rfl,hx,q⟩:=h;cases rx;obtain⟨e,r,d,hz⟩:=I.list hx;have c:=r.length;refine⟨"list", _,slot_list_getitem.lookup,d.isList.typeIs,?_⟩;refine wpAny_getItem_list_slice d.isList hs pl pu .none (by simp) ?_ (by rw[Am]<;>lia)
 rw[UO,<- c];refine⟨.ref s.heap.objs.size,_,I.laid (t':=s.toks) (o:=.lst (GR xs lo hi)) (λb g q=>Ad _ q) (Ae _) ?_,rfl,q _ (I.hok.fresh (Ae _))⟩;exact⟨A8 (yd xs lo hi) hz,_,0,(r.drop (HT.sIx xs.length 0 lo)).take (HT.sIx xs.length xs.length hi-HT.sIx xs.length 0 lo),Ar _ rfl⟩
def X8:V->Bool
 |.non=>true
 |.bl _=>true
 |.int _=>true
 |.str _=>true
 |_=>false
def eqV:V->V->Bool
 |.non,.non=>true
 |.bl a,.bl b=>a==b
 |.bl a,.int b=>(if a then 1 else 0)==b
 |.int a,.bl b=>a==(if b then 1 else 0)
 |.int a,.int b=>a==b
 |.str a,.str b=>a==b
 |_,_=>false
theorem NQ{A:Around}{s:Shared}{y x:V}{u v:Value}(e:RelV y u)(c:RelV x v)(f:X8 y=true)(d:X8 x=true):SeqAt.EqAt A s u v (eqV y x):=by
  cases y with
  |non =>
    cases e;cases x with
    |non=>cases c;exact SeqAt.EqAt.same _
    |bl b=>cases c;exact SeqAt.EqAt.none_bool b
    |int b=>obtain⟨t,rfl⟩:=c;exact SeqAt.EqAt.none_int b t
    |str b=>obtain⟨t,rfl⟩:=c;exact SeqAt.EqAt.none_str b t
    |_=>exact absurd (show false=true from d) Bf
  |bl a =>
    cases e;cases x with
    |non=>cases c;exact SeqAt.EqAt.bool_none a
    |bl b=>cases c;exact SeqAt.EqAt.bool_bool a b
    |int b=>obtain⟨t,rfl⟩:=c;exact SeqAt.EqAt.bool_int a b t
    |str b=>obtain⟨t,rfl⟩:=c;exact SeqAt.EqAt.bool_str a b t
    |_=>exact absurd (show false=true from d) Bf
  |int a =>
    obtain⟨t',rfl⟩:=e;cases x with
    |non=>cases c;exact SeqAt.EqAt.int_none a t'
    |bl b=>cases c;exact SeqAt.EqAt.int_bool a t' b
    |int b=>obtain⟨t,rfl⟩:=c;exact SeqAt.EqAt.int_int a t' b t
    |str b=>obtain⟨t,rfl⟩:=c;exact SeqAt.EqAt.int_str a t' b t
    |_=>exact absurd (show false=true from d) Bf
  |str a =>
    obtain⟨t',rfl⟩:=e;cases x with
    |non=>cases c;exact SeqAt.EqAt.str_none a t'
    |bl b=>cases c;exact SeqAt.EqAt.str_bool a t' b
    |int b=>obtain⟨t,rfl⟩:=c;exact SeqAt.EqAt.str_int a t' b t
    |str b=>obtain⟨t,rfl⟩:=c;exact SeqAt.EqAt.str_str a t' b t
    |_=>exact absurd (show false=true from d) Bf
  |_=>exact absurd (show false=true from f) Bf
def eqU(x:V)(u:Value):Bool:=match u with
 |.none=>eqV .non x
 |.bool b=>eqV (.bl b) x
 |.int i _=>eqV (.int i) x
 |.str z _=>eqV (.str z) x
 |_=>false
theorem BK{x y:V}{u:Value}(r:RelV y u)(f:X8 y=true):eqU x u=eqV y x:=by
 cases y with
 |non=>cases r;rfl
 |bl b=>cases r;rfl
 |int i=>obtain⟨t,rfl⟩:=r;rfl
 |str z=>obtain⟨t,rfl⟩:=r;rfl
 |_=>exact absurd (show false=true from f) Bf
theorem KA{x:V}:∀{xs:List V}{us:List Value},Vals xs us->xs.all X8=true->us.any (eqU x)=xs.any λy=>eqV y x
  |_,_,.nil,_=>rfl
  |y::xs,u::us,.cons r t,f=>by rw[Bw,A0]at f;rw[Bs,Bs,BK r f.1,KA t f.2]
theorem VM{A:Around}{s:Shared}{x:V}{v:Value}(e:RelV x v)(d:X8 x=true):∀{xs:List V}{us:List Value},Vals xs us->xs.all X8=true->∀u∈us,SeqAt.EqAt A s u v (eqU x u)
  |_,_,.nil,_=>λu c=>by cases c
  |y::xs,u::us,.cons r t,f=>λg c=>by
    rw[Bw,A0]at f;rcases A9.mp c with rfl|c
    . rw[BK r f.1];exact NQ r e f.1 d
    . exact VM e d t f.2 g c
def inV(x:V)(xs:List V):Bool:=xs.any λy=>eqV y x
def rIn(K:Aa)(c:Bool):R2:=λx y H Q=>∃p xs,y=.ref p/\(SqL K H p xs∨SqT K H p xs)/\X8 x=true/\xs.all X8=true/\Q (.bl (if c then !inV x xs else inV x xs)) H
theorem Gj:OpR X (compareOp .NotIn) (rIn X.K true):=by
 intro g s σ H x y v u Q I rx ry h;obtain⟨p,xs,rfl,d,f,fs,q⟩:=h;cases ry;rcases d with d|d
 ·obtain⟨c,r,pl,hz⟩:=I.list d;refine SeqAt.notIn_listAt (eqU x) pl.isList (λw e=>VM rx f r fs w (by simpa using e)) ⟨.bl _,H,I,rfl,?_⟩;rw[show c.toArray.any (eqU x)=c.any (eqU x)by simp,KA r fs];exact q
 ·obtain⟨c,r,pl,hz⟩:=I.tuple d;refine SeqAt.notIn_tupleAt (eqU x) pl (λw e=>VM rx f r fs w (by simpa using e)) ⟨.bl _,H,I,rfl,?_⟩;rw[show c.toArray.any (eqU x)=c.any (eqU x)by simp,KA r fs];exact q
theorem YX:CallR X (.builtin "len") (λxs H Q=>∃p ys,xs=[.ref p]/\(SqL X.K H p ys∨SqT X.K H p ys)/\Q (.int ys.length) H):=by
 intro i s σ H xs us Q I r h;obtain⟨p,ys,rfl,d,q⟩:=h;obtain⟨u,rfl,g⟩:=xp r;cases g;have j:=VH;rcases d with d|d
 ·obtain⟨e,f,pl,hz⟩:=I.list d;have c:=f.length;exact Calls.call_len_list pl.isList (by simp only[Am]<;>lia) ⟨.int ys.length,H,I.tok _,⟨s.toks+1,by rw[Am,c]⟩,q⟩
 ·obtain⟨e,f,pl,hz⟩:=I.tuple d;have c:=f.length;exact len_tuple pl (by simp only[Am]<;>lia) ⟨.int ys.length,H,I.tok _,⟨s.toks+1,by rw[Am,c]⟩,q⟩
theorem call_list_of:CallR X (.type "list") (λxs H Q=>∃p ys,xs=[.ref p]/\(SqL X.K H p ys∨SqT X.K H p ys)/\∀l,H l=none->Q (.ref l) (upd H l (.lst ys))):=by
 intro v s σ H xs us Q I r h;obtain⟨p,ys,rfl,j,q⟩:=h;obtain⟨u,rfl,x⟩:=xp r;cases x;have g:∀(c:List Value),Vals ys c->ys.length<=sizeLine->∀(h':Heap)(d:Nat),(∀b o',s.heap.get? b=some o'->h'.get? b=some o') ->
   h'.get? s.heap.objs.size=some { cls:=.type "list", dict:=none,data:=.seq c.toArray d,slots:=#[] }->EP X v σ Q (.ref s.heap.objs.size) { s with heap:=h' }:=λc f hz h' d kp e =>
  ⟨.ref s.heap.objs.size,_,I.laid (t':=s.toks) kp (Ae _) (show ObjOk X.prog X.w _ h' _ (.lst ys)from⟨hz,c,d,f,e⟩),rfl,q _ (I.hok.fresh (Ae _))⟩
 rcases j with j|j
 ·obtain⟨c,f,pl,hz⟩:=I.list j;have i:=f.length;obtain⟨o,t,m,n,hd⟩:=pl.isList;exact call_list_seq p (.inl rfl) t m hd (λh' d kp e=>g c f hz h' d kp e) (by simp only[Am]<;>lia)
 ·obtain⟨c,f,pl,hz⟩:=I.tuple j;have i:=f.length;obtain⟨o,t,m,n,hd⟩:=pl;exact call_list_seq p (.inr rfl) t m hd (λh' d kp e=>g c f hz h' d kp e) (by simp only[Am]<;>lia)
theorem Yk:CallR X (.type "tuple") (λxs H Q=>∃p ys,xs=[.ref p]/\((SqL X.K H p ys/\∀l,H l=none->Q (.ref l) (upd H l (.tup ys)))∨(SqT X.K H p ys/\Q (.ref p) H))):=by
 intro i s σ H xs us Q I r h;obtain⟨p,ys,rfl,h⟩:=h;obtain⟨u,rfl,n⟩:=xp r;cases n;rcases h with ⟨d,q⟩|⟨d,q⟩
 ·obtain⟨c,f,pl,hz⟩:=I.list d;have j:=f.length;refine call_tuple_list pl.isList (λh' kp=>?_) (by simp only[Am]<;>lia)
  have g:Inv X i σ H { s with heap:=h' }:=I.kept (t':=s.toks) kp;have m:Inv X i σ (upd H h'.objs.size (.tup ys)) { s with heap:=h'.push { cls:=.type "tuple", data:=.seq c.toArray } } :=
   g.laid (t':=s.toks) (λb o e=>Ad _ e) (Ae _) (show ObjOk X.prog X.w _ _ _ (.tup ys)from⟨hz,c,f,IsTup.new _ _⟩)
  exact⟨.ref h'.objs.size,_,m,rfl,q _ (g.hok.fresh (Ae _))⟩
 ·obtain⟨c,f,pl,hz⟩:=I.tuple d;exact call_tuple_same pl ⟨.ref p,H,I,rfl,q⟩
def tyV(K:Aa)(T:String)(x:V)(H:Hp):Prop:=match x with
 |.str _=>T = "str"
 |.int _=>T = "int"
 |.ref p=>(T = "list" /\ ∃xs,SqL K H p xs)∨(T = "tuple" /\ ∃o,K.lookup p=some o/\o.cls=.type "tuple" /\ o.dict=none) ∨
   (T = "dict" /\ ((∃c,H p=some (.dK c))∨∃c,H p=some (.dT c)))∨(T = "set" /\ ∃S n,H p=some (.set S n))
 |_=>False
theorem wV{j:Cf}{σ:St}{H:Hp}{s:Shared}{T:String}{x:V}{v:Value}(I:Inv X j σ H s)(r:RelV x v)(ty:tyV X.K T x H) :
    s.TypeIs v T/\∀a,v=.ref a->∃h,s.heap.get? a=some h/\h.dict=none:=by
  cases x with
  |str z =>obtain⟨t,rfl⟩:=r;cases (show T = "str" from ty);exact⟨typeIs_str s z t,λ_ e=>nomatch e⟩
  |int i =>obtain⟨t,rfl⟩:=r;cases (show T = "int" from ty);exact⟨typeIs_int s i t,λ_ e=>nomatch e⟩
  |ref p =>
    cases r;rcases ty with ⟨rfl,xs,m⟩|⟨rfl,o,d,l,hd⟩|⟨rfl,d⟩|⟨rfl,S,n,d⟩
    . obtain⟨q,_,pl,_⟩:=I.list m
      refine⟨pl.isList.typeIs,λa e=>?_⟩;cases e;obtain⟨o,n,e,c,hd,_⟩:=pl;exact⟨o,e,hd⟩
    . refine⟨⟨o,I.kIn p o d,l⟩,λa e=>?_⟩
      cases e;exact⟨o,I.kIn _ o d,hd⟩
    . have z:∃o,s.heap.get? p=some o/\o.ExactDict:=by
        rcases d with ⟨g,d⟩|⟨g,d⟩
        . obtain⟨_,_,_,_,o,_,_,e,ex,_⟩:=I.hok p _ d
          exact⟨o,e,ex⟩
        . obtain⟨_,_,_,_,o,_,_,e,ex,_⟩:=I.hok p _ d
          exact⟨o,e,ex⟩
      obtain⟨o,e,ex⟩:=z;refine⟨⟨o,e,ex.1⟩,λa f=>?_⟩;cases f;exact⟨o,e,ex.2.1⟩
    . obtain⟨o,_,_,_,e,ex,_⟩:=I.hok p _ d
      refine⟨⟨o,e,ex.1⟩,λa f=>?_⟩;cases f;exact⟨o,e,ex.2.1⟩
  |_=>exact False.elim ty
def Iw(K:Aa)(T:String)(r:V->List V->Hp->VK->Prop)(to:TE):TE:=λσ H Q=>to σ H λx H1=>tyV K T x H1/\r x [] H1 Q
def tBM(K:Aa)(T:String)(r:V->List V->Hp->VK->Prop)(to:TE)(t:TA):TE:=λσ H Q=>to σ H λx H1=>tyV K T x H1/\t σ H1 λxs H2=>r x xs H2 Q
variable{o e:Expr}{es:List Expr}{to:TE}{t:TA}{name:Str}{apos cpos:Pos}{T id:String}{r:V->List V->Hp->VK->Prop}
theorem Pk(pa:PlainAttrs T)(slot:Slot T name id)(c:typeOf (.builtin id)=pure (.type "method_descriptor"))(i:MtR X id r)(j:PE X o to)
  (hbase:attributeBase o name X.env (eval o X.env)=eval o X.env:=by rfl) (hline:(apos.endLine==cpos.line)=true:=by rfl):PE X (.Call (.Attribute o name apos) [] [] cpos) (Iw X.K T r to):=by
 intro d s σ H Q I h;refine wpAny_Call_method0_late hbase hline (thn (j d s σ H _ I h) λv l ⟨x,H1,I1,r1,ty,q1⟩=>?_);obtain⟨f,g⟩:=wV I1 r1 ty;exact⟨T,id,pa,slot,c,f,g,Calls.callWith_builtin rfl (PySem.evalArgs_none (i d l σ H1 x [] v [] Q I1 r1 .nil q1))⟩
theorem Nr(pa:PlainAttrs T)(slot:Slot T name id)(d:typeOf (.builtin id)=pure (.type "method_descriptor"))(l:MtR X id r)(m:PE X o to)(j:PA X (e::es) t)
  (hbase:attributeBase o name X.env (eval o X.env)=eval o X.env:=by rfl)
  (hfew:((backTo cpos (starEach (e::es) X.env)).all (λx=>!x.1)&&(backToKw cpos (keywordEach [] X.env)).all (λx=>x.1.isSome)
   && decide ((e::es).length+([]:List Keyword).length+(if ([]:List Keyword).isEmpty then 0 else 1)<30))=true:=by rfl)
  (hline:(apos.endLine==cpos.line)=true:=by rfl) (hs:starEach (e::es) X.env=(false,eval e X.env)::starEach es X.env:=by rfl) (hplain:(backTo cpos (starEach es X.env)).any (·.1)=false:=by rfl) :
  PE X (.Call (.Attribute o name apos) (e::es) [] cpos) (tBM X.K T r to t):=by
 intro c s σ H Q I h;refine wpAny_Call_method_late hbase hfew hline rfl (thn (m c s σ H _ I h) λv n ⟨x,H1,I1,r1,ty,q1⟩=>?_);obtain⟨g,i⟩:=wV I1 r1 ty;refine⟨T,id,pa,slot,d,g,i,?_⟩;have f:=j cpos c n σ H1 _ I1 q1;rw[hs]at f ⊢;refine Calls.callWith_builtin (by show(false||(backTo cpos (starEach es X.env)).any (·.1))=false;rw[hplain]<;>rfl) (Calls.evalArgs_plain ?_)
 exact thn f λus q ⟨vs,H2,I2,r2,q2⟩=>l c q σ H2 x vs v us Q I2 r1 r2 q2
/- xs.append(e),list.index on a module's tuple .. are MtR facts of 06m -/
end
def MtM(X:Cx)(id:String)(r:V->List V->Hp->VK->Prop):Prop :=
  ∀(a : List (Addr × Obj))(s : Shared)(σ : St)(H : Hp)(x : V)(xs : List V)(v : Value)(us : List Value)(Q : VK), Inv X a σ H s -> RelV x v -> Vals xs us -> r x xs H Q ->
    wpAny (model X.prog X.w) X.A (call (.builtin id) (v::us)) (EP X a σ Q) X.xe s
theorem Vals.one:∀{x:V}{us:List Value},Vals [x] us->∃u,us=[u]/\RelV x u
 |_,_,.cons r .nil=>⟨_,rfl,r⟩
theorem Vals.zero:∀{us:List Value},Vals [] us->us=[]
 |_,.nil=>rfl
theorem Vals.dropLast{xs:List V}{us:List Value}(h:Vals xs us):Vals xs.dropLast us.dropLast:=by
  induction h with
  |nil=>exact .nil
  |cons r t a =>
    cases t with
    |nil=>exact .nil
    |cons q t'=>exact .cons r a
theorem Vals.reverse{xs:List V}{us:List Value}(h:Vals xs us):Vals xs.reverse us.reverse:=by
 induction h with
 |nil=>exact .nil
 |cons r t a=>rw[List.reverse_cons,List.reverse_cons];exact Vals.append a (.cons r .nil)
theorem uB{α:Type}(l:List α):l.eraseIdx (l.length-1)=l.dropLast:=by
  induction l with
  |nil=>rfl
  |cons a r c =>
    cases r with
    |nil=>rfl
    |cons b r =>
      have e:(a::b::r).length-1=((b::r).length-1)+1:=by have d:(a::b::r).length=r.length+2:=rfl;have f:(b::r).length=r.length+1:=rfl;lia
      rw[e,List.eraseIdx_cons_succ,c]
      all_goals rfl
section
variable{X:Cx}{O9:Cf}{σ:St}{H:Hp}{s:Shared}{l b:Addr}{xs ys zs:List V}
theorem Inv.lset{a its':List Value}{n:Nat}{f:Array Value->Array Value}{t':Nat}(I:Inv X O9 σ H s)(c:H l=some (.lst xs))
  (e:s.heap.get? l=some { cls:=.type "list", data:=.seq a.toArray n }) (hf:f a.toArray=its'.toArray) (hv:Vals ys its') (hz:ys.length<=sizeLine) :
  Inv X O9 σ (upd H l (.lst ys)) { s with heap:=s.heap.update l (Obj.mapSeq f),toks:=t' }:=by
 have q:=PySem.IsL.update e f;rw[hf]at q;refine I.write (x:=l) (e:=l) (by rw[c];exact trivial) (.inl rfl) (λh u d g=>(Heap.get?_update_other s.heap (Obj.mapSeq f) (Ne.symm d)).trans g) ⟨_,q⟩ ?_;exact⟨hz,its',_,hv,q⟩
theorem Inv.lnew{a:List Value}{t':Nat}(I:Inv X O9 σ H s)(c:Vals ys a)(hz:ys.length<=sizeLine) :
  Inv X O9 σ (upd H s.heap.objs.size (.lst ys)) { s with heap:=s.heap.push { cls:=.type "list", data:=.seq a.toArray },toks:=t' } :=
 I.laid (λ_ _ q=>Ad _ q) (Ae _) ⟨hz,a,0,c,Ar _ rfl⟩
def Inv.fresh(I:Inv X O9 σ H s):H s.heap.objs.size=none:=I.hok.fresh (Ae _)
theorem Inv.lstM(I:Inv X O9 σ H s)(c:H l=some (.lst xs)):xs.length<=sizeLine/\∃(a:List Value) (n:Nat),Vals xs a/\xs.length=a.length/\s.heap.get? l=some { cls:=.type "list", data:=.seq a.toArray n }:=by obtain⟨z,a,n,r,e⟩:=I.hok l _ c;exact⟨z,a,n,r,r.length,e⟩
theorem Wd{n:Nat}(h:n<=sizeLine):Builtin.List.listTooLong n=false:=by unfold Builtin.List.listTooLong;exact Cc ⋯
end
section
variable{X:Cx}
def RN:V->List V->Hp->VK->Prop:=λx vs H Q=>∃l xs y,x=.ref l/\vs=[y]/\H l=some (.lst xs)/\xs.length<sizeLine/\Q .non (upd H l (.lst (xs++[y])))
theorem Kh:MtM X "list.append" RN:=by intro f s σ H x vs v us Q I rx rv h;obtain⟨l,xs,y,rfl,rfl,c,hz,q⟩:=h;cases rx;obtain⟨u,rfl,d⟩:=rv.one;obtain⟨z,a,n,r,g,e⟩:=I.lstM c;refine call_meets F.slot_list_append ⟨_,e,rfl⟩ F.entry_list_append (F.args_list_append_2 _ _) (PySem.list_append l a.toArray n u (by rw[Am];lia)) ⟨e,?_⟩;refine⟨.non,_,I.lset (its':=a++[u]) c e (by simp) (r.append (.cons d .nil)) ?_,rfl,q⟩;rw[Ak,List.length_singleton];lia
def RM:V->List V->Hp->VK->Prop:=λx vs H Q=>∃l b xs a,x=.ref l/\vs=[.ref b]/\H l=some (.lst xs)/\H b=some (.lst a)/\xs.length+a.length<=sizeLine/\Q .non (upd H l (.lst (xs++a)))
theorem HP:MtM X "list.extend" RM:=by
 intro y s σ H x vs v us Q I rx rv h;obtain⟨l,b,xs,E,rfl,rfl,f,i,hz,q⟩:=h;cases rx;obtain⟨u,rfl,t⟩:=rv.one;cases t;obtain⟨z,c,n,r,C,e⟩:=I.lstM f;obtain⟨z2,a,m,o,j,g⟩:=I.lstM i;have hsz:c.toArray.size+a.toArray.size<=sizeLine:=by rw[Am,Am];lia
 have d:¬ (!c.toArray.isEmpty&&Builtin.List.listTooLong (c.toArray.size+a.toArray.size))=true:=by rw[Wd hsz,Bool.and_false];exact Bf
 refine call_meets F.slot_list_extend ⟨_,e,rfl⟩ F.entry_list_extend (F.args_list_extend_2 _ _)
  (AutoSeq1.list_extend_list_list_0 l c.toArray n b a.toArray m d (by rw[Am];lia) ⋯) ⟨e,g,?_⟩
 refine⟨.non,_,I.lset (its':=c++a) f e (by simp) (r.append o) ?_,rfl,q⟩;rw[Ak];lia
def J_:V->List V->Hp->VK->Prop:=λx vs H Q=>∃l xs y,x=.ref l/\vs=[]/\H l=some (.lst xs)/\xs[xs.length-1]?=some y/\Q y (upd H l (.lst xs.dropLast))
theorem RC:MtM X "list.pop" J_:=by
 intro o s σ H x vs v us Q I rx rv h;obtain⟨l,xs,y,rfl,rfl,f,j,q⟩:=h;cases rx;have c:=rv.zero;subst c;obtain⟨z,a,n,r,g,e⟩:=I.lstM f;obtain⟨u,i,m⟩:=r.get j;have d:a.toArray[a.toArray.size-1]?=some u:=by show a.toArray[a.length-1]?=some u;rw[<- Array.getElem?_toList,<- g];exact i
 refine call_meets F.slot_list_pop ⟨_,e,rfl⟩ F.entry_list_pop (F.args_list_pop_1 _) (MeetsSeq.list_pop_last l a.toArray n u d (by rw[Am];lia)) ⟨e,?_⟩;refine⟨y,_,I.lset (its':=a.dropLast) f e ?_ r.dropLast ?_,m,q⟩
 ·show a.toArray.eraseIdxIfInBounds (a.toArray.size-1)=a.dropLast.toArray;rw[Am,List.eraseIdxIfInBounds_toArray,uB]
 ·rw[List.length_dropLast];lia
def Mf:V->List V->Hp->VK->Prop:=λx vs H Q=>∃l xs,x=.ref l/\vs=[]/\H l=some (.lst xs)/\Q .non (upd H l (.lst []))
theorem Wl:MtM X "list.clear" Mf:=by intro f s σ H x vs v us Q I rx rv h;obtain⟨l,xs,rfl,rfl,d,q⟩:=h;cases rx;have a:=rv.zero;subst a;obtain⟨z,c,n,r,g,e⟩:=I.lstM d;refine call_meets F.slot_list_clear ⟨_,e,rfl⟩ F.entry_list_clear (F.args_list_clear_1 _) (AutoSeq1.list_clear_list_0 l c.toArray n (by rw[Am];lia)) ⟨e,?_⟩;exact⟨.non,_,I.lset (its':=[]) (ys:=[]) d e rfl .nil (A5 _),rfl,q⟩
end
section
variable{prog:Program}{w:World}{A:Around}{E:Ce}{s:Shared}
end
section
variable{X:Cx}
end
end L2
namespace Att
open PySem PySem.W PySem.Calls PyProof.Rows
theorem yI{P:Params}{h:Heap}:∀(ns:List Int)(vs:List Value),WellAll P h vs (ns.map WData.int)->IntsAre vs ns:=by
  intro ns;induction ns with
  |nil=>intro vs w;rw[List.map_nil]at w;cases w;exact .nil
  |cons n ns c =>
    intro vs w;rw[Az]at w;cases w with
    |cons a b=>cases a;exact .cons _ _ (c _ b)
theorem WV{l:OpenLaw}{n:Nat}(v:l.most=some n){P:Params}{h:Heap}{args:List WData}{c:List Value}
    (hpre:l.row.toRowW.claim.pre args=true) (hwl:WellAll P h c args) :
    ∃a vs ns,c=[Value.ref a]/\args=[WData.list (ns.map WData.int)]/\h.get? a=some { cls:=.type "list", data:=.seq vs.toArray }/\IntsAre vs ns/\ns.length<=n:=by
  have j:WShape.hasAll [] args [.list .int]=true:=(pre_splitW hpre).1;have m:l.pre.holds [] { args:=args }=true:=(pre_splitW hpre).2;obtain⟨d,r,rfl,o,t⟩:=hasAllW_cons j;obtain rfl:=hasAllW_nil t;obtain⟨xs,rfl,u⟩:=hasW_list o;obtain⟨ns,rfl⟩:=items_int u;have f:ns.length<=n:=by
    unfold OpenLaw.pre at m;have g:(WTm.not (.lt (.lit (.int (n:Int))) (.len (.arg 0)))).holds [] { args:=[.list (ns.map .int)] }=true:=by have g:=(holds_andW m).1;rw[v]at g;exact g
    have i:=condW_of g (w_not (w_lt w_lit (w_len_list (w_arg rfl))));rw[Bb]at i;refine Nat.le_of_not_lt λq=>?_;have y:(n:Int)<((ns.length:Nat):Int):=⋯
    first
      | (rw[Ca y] at i;exact absurd i (by decide))
      | (simp at i;lia)
  cases hwl with
  |cons z C =>
    cases C;cases z with
    |list x e=>exact⟨_,_,ns,rfl,rfl,x,yI ns _ e,f⟩
theorem ME(l:OpenLaw)(args:List WData):l.row.toRowW.claim.post args (.bool true) args=true :=
 postW_of (r:=l.row.toRowW) (X:=(true==true))
  (show WShape.has [] (.bool true) .bool=true by first|rfl|decide|simp[WShape.has,WShape.arms,WShape.armsAll])
  (show(WTm.eq .res (.lit (.bool true))).value [] { args:=args,res:=some (.bool true),after:=args }=some (.bool (true==true))from w_eq_bool (w_res rfl) w_lit) rfl
theorem attach_call{l:OpenLaw}{n:Nat}{q:Program}{c:List Str}{u:(Cg)->Heap->Prop}{v:World->Heap->Prop}{d:DefRec}
  (hn:l.most=some n) (hdf:d.params.defaults=[])
  (call:∀(w:World)(s₀ s₁:Shared)(mg m:Cg)(fa:Addr)(o:Obj)(t j e:Value)(a:Addr)(vs:List Value)(ns:List Int),
   Ground q c [] u w s₀ mg m s₁.heap->v w s₁.heap ->
   s₁.heap.get? fa=some o->o.data=.func (docDef d.name d.params d.body d.scope t j e)->s₁.heap.CodeRec j d.name->mg d.name=some (.ref fa) ->
   s₁.heap.get? a=some { cls:=.type "list", data:=.seq vs.toArray }->IntsAre vs ns->ns.length<=n->s₁.gens = #[] ->
   codeAny (model l.prog w) callerA (.call (.ref fa) ⟨[.ref a],[]⟩) (λr s'=>r=.ok (.ret (.bool true))/\OldK s₁.heap s'.heap/\s'.os=s₁.os/\AllBare s'.gens) s₁) :
  WalkO q c u v l.row.toRowW d [] (λf vs=>PySem.call f vs):=by
 intro w s₀ s₁ mg m G Y fa o t j e dV kV ho hd hcd hD hmg hg args vals as hpre hlay hrd hwl hlo;obtain rfl:dV=.none:=Dflts.none hD hdf;obtain rfl:kV=.none:=Dflts.noKw hD;obtain⟨a,vs,ns,rfl,rfl,i,g,h⟩:=WV hn hpre hwl;refine enter_call (codeAny_mono (call w s₀ s₁ mg m fa o t j e a vs ns G Y ho (fd_plain hd) hcd hmg i g h hg) λr s' E=>?_);obtain⟨rfl,x,y,z⟩:=E;exact⟨.inl ⟨.bool true,.bool true,[],rfl,λ_=>rfl,.bool true,ME l _,λ_=>⟨List.Pairwise.nil,λ_ C=>(nomatch C)⟩⟩,x,y,z⟩
section
variable{prog:Program}{w:World}{A:Around}{E:Ce}{s:Shared}{K:Frag}
def RE(h:Heap)(L d:Addr):List (Addr×Obj):=(List.range h.objs.size).filterMap λa=>if a=L∨a=d then none else (h.get? a).map λo=>(a,o)
end
end Att
namespace L2
open PySem PySem.Spec PyProof.Rows
theorem zC:∀{vs:List Value}{ns:List Int},IntsAre vs ns->Vals (ns.map V.int) vs
 |_,_,.nil=>.nil
 |_,_,.cons n t h=>.cons ⟨t,rfl⟩ (zC h)
def rB(H:Hp):Prop:=∀b,H b=none∨∃o xs,H b=some (.frz o (.lst xs))
theorem Wz{P:Program}{w:World}{K:Aa}{mg O:Cg}{CX:CXT}{k:Nat}{fa a:Addr}{fd:FuncData}{x:Str}{sp:Sp}{s₁:Shared}{vs:List Value}{ns:List Int}
    (KX:K.In s₁.heap) (y:s₁.heap.Ns mainGlobals mg) (f:s₁.heap.Ns builtinsNs O) (J:∀x:Str,x ≠ "__name__" -> O x=bootBuiltins x) (hlim:s₁.heap.NoLimit) (hg:s₁.gens = #[])
    (ha:s₁.heap.get? a=some { cls:=.type "list", data:=.seq vs.toArray }) (hi:IntsAre vs ns) (hl:ns.length<=sizeLine) (hr:Room k callerA)
    (F:∀O8:Heap,K.In O8->O8.Ns mainGlobals mg->qC P w K mg O8 CX k fa fd [x] sp) (hbind:∀(s:Shared)(u:Value),BindsTo s fd ⟨[u],[]⟩ [(x,u)])
    (hsp:∀H:Hp,rB H->SqL K H a (ns.map V.int)->sp [.ref a] H (λv _=>v=.bl true) λ_ _ _=>False)
    (hCX:∀H e s',CX [] H s₁ (λ_ _ _=>False) e s'->False) :
    codeAny (model P w) callerA (.call (.ref fa) ⟨[.ref a],[]⟩) (λr s'=>r=.ok (.ret (.bool true))/\OldK s₁.heap s'.heap/\s'.os=s₁.os/\AllBare s'.gens) s₁:=by
  have U:=zC hi;have E:=hi.length;have i:∀H:Hp,rB H->SqL K H a (ns.map V.int)->HOk P w H s₁.heap->(∀b,H b≠none->b=a)->(H a≠none->K.lookup a=none) ->
      codeAny (model P w) callerA (.call (.ref fa) ⟨[.ref a],[]⟩) (λr s'=>r=.ok (.ret (.bool true))/\OldK s₁.heap s'.heap/\s'.os=s₁.os/\AllBare s'.gens) s₁:=by
    intro H T hS hok S hK;have c:∀{b:Addr}{o:Obj},s₁.heap.get? b=some o->H b=none->(K3 s₁.heap H).get? b=some o:=λe n=>M2 e n;have Q:∀{b:Addr}{o:Obj}{l:Array DictEntry}{j:Nat},s₁.heap.get? b=some o->o.data=.dict l j->H b=none:=λ{b o l j} e d=>by
      cases q:H b with
      |none=>rfl
      |some u=>have I:b=a:=S b (by rw[q];simp);subst I;rw[ha]at e;cases e;have d':Data.seq vs.toArray _=Data.dict l j:=d;cases d'
    have g:∀{b:Addr}{m:Cg},s₁.heap.Ns b m->(K3 s₁.heap H).Ns b m:=λ{b m} ⟨o,l,j,e,d,r⟩=>⟨o,l,j,c e (Q e d),d,r⟩;have t:K.In (K3 s₁.heap H):=λb o e=>c (KX b o e) (by
      cases q:H b with
      |none=>rfl
      |some u=>have I:b=a:=S b (by rw[q];simp);subst I;rw[hK (by rw[q];simp)]at e;cases e)
    have hM:Mod K mg (K3 s₁.heap H):=⟨t,g y,⟨O,g f,J⟩,let ⟨mc,Y,Z⟩:=hlim;⟨mc,g Y,Z⟩⟩;have e0:Env0 P w K mg (K3 s₁.heap H) callerA [] s₁ H:=⟨rfl,hM,λb o e=>Ro e,Nat.le_of_eq (BH _ _),trivial,λb f=>absurd (show b∈([]:Cj)from f) (by simp),hok,.of_eq hg⟩;refine codeAny_mono ((F _ t (g y)).run callerA [] s₁ H ⟨[.ref a],[]⟩ [.ref a] [.ref a] _ _ hr e0 (hbind s₁ (.ref a)) (.cons rfl .nil) (hsp H T hS)) λr s' h=>?_;cases r with
    |error e=>exact(hCX H e s' h).elim
    |ok fl =>
      cases fl with
      |next=>exact False.elim h
      |brk=>exact False.elim h
      |cont=>exact False.elim h
      |ret u =>
        obtain⟨v,H',os,bare,un,C,r',q⟩:=h;have q':v=.bl true:=q;subst q';obtain rfl:u=Value.bool true:=r';refine⟨rfl,OldK.of_keep λb o e=>?_,os,bare⟩;cases q:H b with
        |none=>exact un.keep b o e q (by intro z;exact absurd (show b∈([]:Cj)from z) (by simp)) (by simp)
        |some u =>
          rcases T b with z|⟨ob,xs,z⟩
          . rw[q]at z;cases z
          . have z2:=un.frzs b ob _ z
            obtain⟨R,_⟩:=hok b _ z;obtain⟨X,_⟩:=C b _ z2;rw[e]at R;cases R;exact X
  cases L:K.lookup a with
  |some o=>have e:=KX a o L;rw[ha]at e;cases e;refine i (λ_=>none) (λ_=>.inl rfl) (.inr ⟨_,vs.toArray,_,L,rfl,rfl,rfl,by rw[Am,E];exact hl,by simpa using U⟩) (λb u z=>by have G:(none:Option HO)=some u:=z;cases G) (λb z=>absurd rfl z) λz=>absurd rfl z
  |none =>
    refine i (λb=>if b=a then some (.frz { cls:=.type "list", data:=.seq vs.toArray } (.lst (ns.map V.int)))else none) (λb=>?_) (.inl (.inr ⟨{ cls:=.type "list", data:=.seq vs.toArray },B8 rfl⟩)) (λb u z=>?_) (λb z=>?_) λ_=>L
    . by_cases f:b=a
      . exact .inr ⟨_,_,B8 f⟩
      . exact .inl (B7 f)
    . by_cases f:b=a
      . have G:=(B8 f).symm.trans z
        cases G;subst f;exact⟨ha,by rw[Bb];exact hl,vs,_,U,ha⟩
      . have G:=(B7 f).symm.trans z
        cases G
    . by_cases f:b=a
      . exact f
      . exact absurd (B7 f) z
theorem Qah{l:PySem.W.OpenLaw}{n k:Nat}{q:Program}{j:List Str}{z:(Cg)->Heap->Prop}{y:World->Heap->Prop}{d:DefRec}{K:Params->Aa}{CX:World->CXT}{sp:World->Sp}{x:Str}
    (hn:l.most=some n) (hn2:n<=sizeLine) (hdf:d.params.defaults=[]) (hr:Room k callerA)
    (hY:∀(w:World)(h:Heap),y w h->(K w.params).In h)
    (F:∀(w:World)(mg:Cg)(fa:Addr)(h:Heap),(K w.params).In h->h.Ns mainGlobals mg->mg d.name=some (.ref fa) ->
      ∃fd : FuncData, (∀(s : Shared)(u : Value), BindsTo s fd ⟨[u], []⟩ [(x, u)]) /\
        ∀O8:Heap,(K w.params).In O8->O8.Ns mainGlobals mg->qC l.prog w (K w.params) mg O8 (CX w) k fa fd [x] (sp w))
    (hsp:∀(w:World)(H:Hp)(a:Addr)(ns:List Int),ns.length<=n->rB H->SqL (K w.params) H a (ns.map V.int)->sp w [.ref a] H (λv _=>v=.bl true) λ_ _ _=>False)
    (hCX:∀(w:World)(H:Hp)(s:Shared)(e:Value)(s':Shared),CX w [] H s (λ_ _ _=>False) e s'->False) :
    PySem.W.WalkO q j z y l.row.toRowW d [] (λf vs=>PySem.call f vs):=by
  refine Att.attach_call hn hdf λw s₀ s₁ mg S fa o U Q C a vs ns G Y R hd O r m i c P=>?_;have t:=hY w _ Y;obtain⟨fd,L,E⟩:=F w mg fa _ t G.T.g r;exact Wz t G.T.g G.T.b G.T.builtins G.T.nolimit P m i (A8 c hn2) hr E L (λH I J=>hsp w H a ns c I J) λH e s'=>hCX w H s₁ e s'
end L2
/- THE LAST THEOREM (shape; LID, My.* are yours):
   My.Adr: a structure of the addresses that your layer names (classes,functions);My.Txt K t: a structure (Prop) of the equations over K;
   My.txt_mk:{K} {implicit addresses ..} (e1:nsIn K mainGlobals "law" = some (some (.ref f))) (e2:K.lookup f=some ⟨oc,od,.func (fnOf "law" "law" params body scope dV kV doc pm an cdv ct),sl⟩) (e3:codeIn K cdv "law" = true) ..:∃t,My.Txt K t
set_option maxRecDepth 100000 in
set_option maxHeartbeats 0 in
theorem PySem.Challenge.cw_LID_holds : PySem.Challenge.rw_LID.Holds := by
 w_on;o_law;k_head;(case hw=>w_witness2)
 k_fill
 refine L2.Qah (l:=PySem.Challenge.rw_LID) (n:=63) (k:=40) (x := "script") (CX:=fun w=>..) (sp:=fun _=>My.sp_law) rfl (by decide) rfl ⟨rfl,by decide,by decide⟩ (fun w h Y=>PySem.W.kIn_of Y) ?F ?S ?C
 case F =>
  intro w mg fa h KX G hmg;have T:∃t,My.Txt (L2.KOf KX) t:=by
   dsimp only[L2.KOf]                          -- K must stand as «<heap const> w.params» for k_is
   refine' My.txt_mk ?e1 ?e2 ?e3 ..
   (case e1=>PySem.W.k_is)                    -- in the order: a name->its address->its object->its parts
   (case e2=>PySem.W.k_is)
   ..
  obtain⟨t,T⟩:=T;have e0:=hmg.symm.trans (PySem.W.mg_of KX G T.law);cases e0                                       -- fa is the law's own address;exact⟨_,λs u=>.of_eq rfl,λO8 kb nb=>My.law_fn T kb nb⟩     -- if «.of_eq rfl» comes too early: refine' ⟨_,?b,λO8 kb nb=>My.law_fn T kb nb⟩;exact λs u=>.of_eq rfl
 case S=>exact λw H a ns hl hO hS=>..
 case C=>exact ..
(the tactic k_is has no namespace: write k_is) -/
namespace L2
open PySem PySem.Spec PyProof.Rows
def Y5(s:Stmt)(j:Nat):Stmt:=match s with
 |.ClassDef _ _ _ body _ _ _ _ _ _ _=>body.getD j (.Pass ⟨0,0,0,0⟩)
 |_=>.Pass ⟨0,0,0,0⟩
def Ju(s:Stmt):Arguments:=match s with
 |.FunctionDef _ a _ _ _ _ _ _ _ _=>a
 |_=>{ posonlyargs:=[],args:=[],vararg:=none,kwonlyargs:=[],kw_defaults:=[],kwarg:=none,defaults:=[] }
def ZM(s:Stmt):List Stmt:=match s with
 |.FunctionDef _ _ b _ _ _ _ _ _ _=>b
 |_=>[]
def Qr(s:Stmt):Scope:=match s with
 |.FunctionDef _ _ _ _ _ _ a _ _ _=>a
 |_=>{ kind:=.function,names:=[],isGenerator:=false,isCoroutine:=false }
abbrev CX0:CXT:=λ_ _ _ _ _ _=>False
abbrev E0:XK:=λ_ _ _=>False
def QW{X:Cx}:Yh CX0 X E0:=λ_ _ _ _ _ _ _ h=>h.elim
structure Fun(K:Aa)(x qual:Str)(st:Stmt)(f:Addr)(fd:FuncData):Prop where
 ex:∃(oc:Value)(od:Option Addr)(kV doc pm:Value)(an:Option Addr)(cdv ct:Value)(osl:Array (Option Value)),
  fd=PySem.W.fnOf x qual (Ju st) (ZM st) (Qr st) .none kV doc pm an cdv ct/\K.lookup f=some ⟨oc,od,.func fd,osl⟩/\PySem.W.codeIn K cdv qual=true
 kp:PySem.W.keepIn K (.ref f)=true
section
variable{P:Program}{w:World}{K:Aa}{mg:Cg}{O8:Heap}
theorem Fun.ok{x a:Str}{d:Stmt}{f:Addr}{fd:FuncData}{N ps:List Str}{k:Nat}{sp:Sp}(F:Fun K x a d f fd)(S:QD N ps (Qr d))(len:∀vs H Q E,sp vs H Q E->vs.length=ps.length)
  (hbody:∀(c:Value)(A:Around)(outer:List Env)(s:Shared)(H:Hp)(vs:List V)(Q:VK)(E:XK),Room k (A.deeper (envOfC a (Qr d) s.heap.objs.size f c))->sp vs H Q E ->
   ∃t,PSs (yC CX0 P w K mg O8 N a (Qr d) f c A outer s H E).nox (ZM d) t/\t { nx:=λ_ H'=>Q .non H',rt:=Q } (zk N vs) H):qC P w K mg O8 CX0 (k+1) f fd ps sp:=by
 obtain⟨o,r,kV,i,u,n,c,ct,m,rfl,l,e⟩:=F.ex;refine M_ l e S len λA outer s H vs Q E j g=>?_;obtain⟨t,h,q⟩:=hbody c A outer s H vs Q E j g;exact⟨t,h.nox,q⟩
theorem Fun.binds{x a:Str}{e:Stmt}{f:Addr}{fd:FuncData}{ps:List Str}(F:Fun K x a e f fd)
  (h:∀(kV d i:Value)(g:Option Addr)(c ct:Value)(us:List Value),us.length=ps.length->bindArgs (PySem.W.fnOf x a (Ju e) (ZM e) (Qr e) .none kV d i g c ct) ⟨us,[]⟩=pure (ps.zip us)):Binds K fd ps []:=by
 obtain⟨n,o,kV,d,i,g,c,ct,l,rfl,m,j⟩:=F.ex;exact .all (h kV d i g c ct)
theorem KS{x a:Str}{g:Stmt}{f:Addr}{m:Value}{n i:Option Addr}{h:Array (Option Value)}{kV e j d ct:Value}(l:K.lookup f=some ⟨m,n,.func (PySem.W.fnOf x a (Ju g) (ZM g) (Qr g) .none kV e j i d ct),h⟩)
  (c:PySem.W.codeIn K d a=true) (k:PySem.W.keepIn K (.ref f)=true):Fun K x a g f (PySem.W.fnOf x a (Ju g) (ZM g) (Qr g) .none kV e j i d ct):=⟨⟨m,n,kV,e,j,i,d,ct,h,rfl,l,c⟩,k⟩
end
theorem Qq{A:Around}{k:Nat}(a:Room k A):A.units+1<cLine:=Nat.lt_of_le_of_lt (Nat.add_le_add_left (by decide:1<=64) _) a.units
section
variable{X:Cx}
end
theorem K6{A B:Prop}(h:B):if false=true then A else B:=by rw[B7 Bf];exact h
theorem K7{A B:Prop}(h:A):if true=true then A else B:=by rw[B8 rfl];exact h
end L2
set_option maxHeartbeats 4000000
namespace L2
open PySem PySem.Spec PyProof.Rows
section
variable{κ:Type}[DecidableEq κ]
def qx(a:List (κ×V))(k:κ):Option V:=(a.find? λkv=>decide (kv.1=k)).map (·.2)
def j7(a:List (κ×V))(k:κ)(v:V):List (κ×V) :=
 if (a.any λkv=>decide (kv.1=k))=true then a.map (λkv=>if kv.1=k then (kv.1,v)else kv)else a++[(k,v)]
theorem Uj{p:κ×V}{r:List (κ×V)}{k:κ}(e:p.1=k):qx (p::r) k=some p.2:=by simp[qx,Bh,e]
theorem Ui{p:κ×V}{r:List (κ×V)}{k:κ}(e:¬ p.1=k):qx (p::r) k=qx r k:=by simp[qx,Bh,e]
theorem vV(k:κ):∀a:List (κ×V),(a.any λkv=>decide (kv.1=k))=(qx a k).isSome
  | []=>rfl
  |p::r=>by
    rw[Bs];by_cases e:p.1=k
    . simp only[Uj e,Ca e,Bool.true_or,Option.isSome_some]
    . rw[Ui e,Cc e,Bool.false_or];exact vV k r
theorem yi(a:List (κ×V))(k:κ)(v:V):(j7 a k v).length<=a.length+1:=by
 unfold j7;split
 ·rw[Bb];lia
 ·rw[Ak,Ay,List.length_nil];lia
theorem RelO.isSome_eq{o:Option V}{u:Option Value}(r:RelO o u):o.isSome=u.isSome:=by
  cases o with
  |none=>cases u with
    |none=>rfl
    |some _=>exact(show False from r).elim
  |some _=>cases u with
    |none=>exact(show False from r).elim
    |some _=>rfl
theorem KV.val{a:List (κ×V)}{vs:List (κ×Value)}(r:KV a vs)(k:κ):RelO (qx a k) (valueAt vs k):=by
  unfold KV at r;induction r with
  |nil=>exact True.intro
  |@cons p q ps d h t i =>
    obtain⟨f,g⟩:=h;by_cases e:p.1=k
    . have c:q.1=k:=f.symm.trans e
      have b:valueAt (q::d) k=some q.2:=by simp[valueAt,Bh,c]
      rw[Uj e,b];exact g
    . have c:¬ q.1=k:=λz=>e (f.trans z)
      have b:valueAt (q::d) k=valueAt d k:=by simp[valueAt,Bh,c]
      rw[Ui e,b];exact i
theorem KV.any{a:List (κ×V)}{vs:List (κ×Value)}(r:KV a vs)(k:κ):(a.any λkv=>decide (kv.1=k))=vs.any λkv=>decide (kv.1=k):=by
 unfold KV at r;induction r with
 |nil=>rfl
 |cons h t c=>rw[Bs,Bs,c,h.1]
theorem KV.repl{a:List (κ×V)}{vs:List (κ×Value)}(r:KV a vs)(k:κ){y:V}{u:Value}(g:RelV y u) :
    KV (a.map λkv=>if kv.1=k then (kv.1,y)else kv) (vs.map λkv=>if kv.1=k then (kv.1,u)else kv):=by
  unfold KV at r ⊢;induction r with
  |nil=>exact .nil
  |@cons p q ps i h t f =>
    rw[Az,Az];refine .cons ?_ f;obtain⟨c,d⟩:=h;by_cases e:p.1=k
    . rw[B8 e,B8 (c.symm.trans e)];exact⟨c,g⟩
    . rw[B7 e,B7 (λz=>e (c.trans z))];exact⟨c,d⟩
theorem KV.put{a:List (κ×V)}{vs:List (κ×Value)}(r:KV a vs)(k:κ){y:V}{u:Value}(c:RelV y u):KV (j7 a k y) (stored vs k u):=by
 unfold j7 stored;rw[r.any k];by_cases e:(vs.any λkv=>decide (kv.1=k))=true
 ·rw[B8 e,B8 e];exact r.repl k c
 ·rw[B7 e,B7 e];exact Paired.snoc r ⟨rfl,c⟩
def KV.length{a:List (κ×V)}{vs:List (κ×Value)}(r:KV a vs):a.length=vs.length:=Paired.length r
end
theorem kN{P:Program}{w:World}{k:Key}{u:Value}(r:RelV (kV k) u):(Jq P w).is k u=true:=by
 cases k with
 |inl i=>obtain⟨t,e⟩:=(show ∃t,u=Value.int i t from r);subst e;exact vd P w i t
 |inr x=>obtain⟨t,e⟩:=(show ∃t,u=Value.str x t from r);subst e;exact ve P w x t
theorem U9{P:Program}{w:World}:∀{ks:List Key}{us:List Value},Vals (ks.map kV) us->ItemsAre (Jq P w) ks us
  | [],_,r=>by rw[List.map_nil]at r;cases r;exact .nil
  |k::ks,_,r=>by
    rw[Az]at r;cases r with
    |cons h t=>exact .cons (kN h) (U9 t)
abbrev KT(H:Hp):List (List Key×V)->List (List Key×Addr×Value)->Prop:=Paired λp q=>p.1=q.1/\H q.2.1=some (.tup (p.1.map kV))/\RelV p.2 q.2.2
theorem KT.val{H:Hp}{a:List (List Key×V)}{xs:List (List Key×Addr×Value)}(r:KT H a xs)(k:List Key):RelO (qx a k) ((atKey xs k).map (·.2)):=by
  induction r with
  |nil=>exact True.intro
  |@cons p q ps d h t i =>
    obtain⟨f,_,g⟩:=h;by_cases e:p.1=k
    . have c:q.1=k:=f.symm.trans e
      have b:atKey (q::d) k=some q.2:=by simp[atKey,Bh,c]
      rw[Uj e,b];exact g
    . have c:¬ q.1=k:=λz=>e (f.trans z)
      have b:atKey (q::d) k=atKey d k:=by simp[atKey,Bh,c]
      rw[Ui e,b];exact i
theorem KT.repl{H:Hp}{a:List (List Key×V)}{xs:List (List Key×Addr×Value)}(r:KT H a xs)(k:List Key){y:V}{u:Value}(i:RelV y u) :
    KT H (a.map λkv=>if kv.1=k then (kv.1,y)else kv) (xs.map (putAt k u)):=by
  induction r with
  |nil=>exact .nil
  |@cons p q ps j h t g =>
    rw[Az,Az];refine .cons ?_ g;obtain⟨c,d,f⟩:=h;unfold putAt;by_cases e:p.1=k
    . rw[B8 e,B8 (c.symm.trans e)];exact⟨c,d,i⟩
    . rw[B7 e,B7 (λz=>e (c.trans z))];exact⟨c,d,f⟩
theorem KT.put{H:Hp}{a:List (List Key×V)}{xs:List (List Key×Addr×Value)}(r:KT H a xs)(k:List Key){b:Addr}{y:V}{u:Value}(d:H b=some (.tup (k.map kV)))(c:RelV y u) :
  KT H (j7 a k y) (storedH xs k b u):=by
 have e:(a.any λkv=>decide (kv.1=k))=(atKey xs k).isSome:=by rw[vV,(r.val k).isSome_eq,Option.isSome_map]
 unfold j7 storedH;rw[e];by_cases q:(atKey xs k).isSome=true
 ·rw[B8 q,B8 q];exact r.repl k c
 ·rw[B7 q,B7 q];exact Paired.snoc r ⟨rfl,d,c⟩
theorem KT.keeps{H H':Hp}{a:List (List Key×V)}{xs:List (List Key×Addr×Value)}(r:KT H a xs)(c:∀b ys,H b=some (.tup ys)->H' b=some (.tup ys)):KT H' a xs :=
 Paired.mapP r λ_ _ z=>⟨z.1,c _ _ z.2.1,z.2.2⟩
section
variable{P:Program}{w:World}{H:Hp}{h:Heap}{a:Addr}
def wK{u:HO}(ok:HOk P w H h)(e:Rd H a u):ObjOk P w H h a u:=e.ok ok
theorem GV{c:List (Key×V)}(ok:HOk P w H h)(e:Rd H a (.dK c)):c.length<=sizeLine/\(a==sysModules)=false/\∃vs,KV c vs/\h.DictOf (Jq P w) a vs :=
 show ObjOk P w H h a (.dK c)from wK ok e
def Nb{c:List (Key×V)}(ok:HOk P w H h)(e:H a=some (.dK c)):c.length<=sizeLine/\(a==sysModules)=false/\∃vs,KV c vs/\h.DictOf (Jq P w) a vs:=GV ok (.inl e)
theorem K9{ks:List Key}(ok:HOk P w H h)(e:H a=some (.tup (ks.map kV))):(tupleKind (Jq P w)).is h ks a:=by obtain⟨_,c,r,o,d,f,n,g⟩:=(show ObjOk P w H h a (.tup (ks.map kV))from ok a _ e);exact⟨o,c.toArray,n,d,f,g,by simpa using U9 r⟩
theorem kj{c:List (List Key×V)}(ok:HOk P w H h)(e:Rd H a (.dT c)):c.length<=sizeLine/\(a==sysModules)=false /\
    ∃xs,KT H c xs/\h.DictOfH (tupleKind (Jq P w)) a xs:=by
  obtain⟨z,y,xs,r,o,g,f,i,j,n,u,v⟩:=(show ObjOk P w H h a (.dT c)from wK ok e);refine⟨z,y,xs,r,o,g,f,i,j,n,u,λx hx=>?_,v⟩;have all:∀{l:List (List Key×V)}{m:List (List Key×Addr×Value)},KT H l m->∀x∈m,(tupleKind (Jq P w)).is h x.1 x.2.1:=by
    intro l m q;induction q with
    |nil=>intro x hx;exact nomatch hx
    |@cons p q ps E d t C =>
      intro x hx;rcases A9.mp hx with e|hx
      . subst e
        exact K9 ok (by rw[<- d.1];exact d.2.1)
      . exact C x hx
  exact all r x hx
theorem jJ{c:List (List Key×V)}(ok:HOk P w H h)(e:H a=some (.dT c)):c.length<=sizeLine/\(a==sysModules)=false /\
  ∃xs,KT H c xs/\h.DictOfH (tupleKind (Jq P w)) a xs:=kj ok (.inl e)
end
def DGet(H:Hp)(a:Addr)(y:V)(r:Option V):Prop :=
 (∃c k,Rd H a (.dK c)/\y=kV k/\r=qx c k)∨∃c k b,Rd H a (.dT c)/\y=.ref b/\H b=some (.tup (k.map kV))/\r=qx c k
def DPut(H:Hp)(a:Addr)(y v:V)(d:Hp):Prop :=
 (∃c k,H a=some (.dK c)/\y=kV k/\c.length<sizeLine/\d=upd H a (.dK (j7 c k v))) ∨
 ∃c k b,H a=some (.dT c)/\y=.ref b/\H b=some (.tup (k.map kV))/\c.length<sizeLine/\d=upd H a (.dT (j7 c k v))
def DGet.k{H:Hp}{a:Addr}{c:List (Key×V)}{k:Key}(e:H a=some (.dK c)):DGet H a (kV k) (qx c k):=.inl ⟨c,k,.inl e,rfl,rfl⟩
def DPut.k{H:Hp}{a:Addr}{c:List (Key×V)}{k:Key}{v:V}(e:H a=some (.dK c))(d:c.length<sizeLine):DPut H a (kV k) v (upd H a (.dK (j7 c k v))):=.inl ⟨c,k,e,rfl,d,rfl⟩
section
variable{X:Cx}{O9:Cf}{σ:St}{H:Hp}{s:Shared}{a:Addr}{y v:V}{u r:Value}{o:Option V}{A:Around}{E:Ce}
theorem Inv.big(I:Inv X O9 σ H s):sysModules<s.heap.objs.size:=by have h:mainGlobals<s.heap.objs.size:=(I.mod.glob.keeps I.bk).lt;exact Nat.lt_trans (by decide) h
theorem He{Q:Ce}(x:A.units+1<cLine)(I:Inv X O9 σ H s)(g:DGet H a y (some v))(q:RelV y u)(h:∀f s',Inv X O9 σ H s'->RelV v f->Q f s') :
  wpAny (model X.prog X.w) A (getItem (.ref a) u) Q E s:=by
 rcases g with ⟨n,k,e,j,l⟩|⟨n,k,b,e,j,t,l⟩
 ·subst j;obtain⟨z,hd,vs,c,i⟩:=GV I.hok e;obtain⟨f,m,d⟩:=RelO.some_of (v:=v) (o:=valueAt vs k) (by rw[l];exact c.val k);exact wpAny_getItem_of (kN q) i.mapOf m (h f _ (I.tok _) d)
 ·subst j;cases (show u=Value.ref b from q);obtain⟨z,hd,xs,c,i⟩:=kj I.hok e;obtain⟨f,m,d⟩:=RelO.some_of (v:=v) (o:=(atKey xs k).map (·.2)) (by rw[l];exact c.val k);obtain⟨p,U,hp2⟩:=Bk.mp m;refine wpAny_getItem_heap (tupleKind_room_in1 x) (K9 I.hok t) i U ?_;rw[hp2];exact h f _ (I.tok _) d
theorem T5{Q:Ce}(n:A.units+1<cLine)(I:Inv X O9 σ H s)(g:DGet H a y o)(j:RelV y u)(h:∀s',Inv X O9 σ H s'->Q (.bool (!o.isSome)) s') :
  wpAny (model X.prog X.w) A (compareOp .NotIn u (.ref a)) Q E s:=by
 rcases g with ⟨i,k,e,f,l⟩|⟨i,k,b,e,f,m,l⟩
 ·subst f;obtain⟨z,hd,vs,c,d⟩:=GV I.hok e;refine wpAny_notIn_of (kN j) hd d.mapOf ?_;rw[<- (c.val k).isSome_eq,<- l];exact h _ (I.tok _)
 ·subst f;cases (show u=Value.ref b from j);obtain⟨z,hd,xs,c,d⟩:=kj I.hok e;refine wpAny_notIn_heap (tupleKind_room_in1 n) (K9 I.hok m) hd d ?_;have q:=(c.val k).isSome_eq;rw[Option.isSome_map]at q;rw[<- q,<- l];exact h _ (I.tok _)
theorem kc{h':Heap}{t':Nat}{c:HO}(I:Inv X O9 σ H s)(h:Mut (H a))(g:Heap.SameBut a s.heap h')(f:∃q,h'.get? a=some q)(new:ObjOk X.prog X.w (upd H a c) h' a c) :
  Inv X O9 σ (upd H a c) { s with heap:=h',toks:=t' } :=
 I.write (x:=a) (e:=a) h (.inl rfl) (λb q d z=>(g.2 b d).trans z) f new
theorem N5{P:Program}{w:World}{e:Hp}{h':Heap}{c:List (Key×V)}{vs:List (Key×Value)}(z:c.length<=sizeLine)(hd:(a==sysModules)=false)(d:KV c vs)(f:h'.DictOf (Jq P w) a vs) :
  ObjOk P w e h' a (.dK c):=⟨z,hd,vs,d,f⟩
theorem Hc{F:Hp}{Q:Unit->Shared->Prop}(hu:A.units+1<cLine)(I:Inv X O9 σ H s)(g:DPut H a y v F)(O:RelV y u)(L:RelV v r)(h:∀s',Inv X O9 σ F s'->Q () s') :
  wpAny (model X.prog X.w) A (setItem (.ref a) u r) Q E s:=by
 rcases g with ⟨d,k,e,t,l,n⟩|⟨d,k,b,e,t,G,l,n⟩
 ·subst t n;obtain⟨z,hd,vs,f,m⟩:=Nb I.hok e;have hz:vs.length<=sizeLine:=by rw[<- f.length];exact z
  have x:(j7 d k v).length<=sizeLine:=by have:=yi d k v;lia
  refine wpAny_setItem_pairs (hsz:=hz) (kN O) m λh' i C=>h _ ?_;have Z:∃q,h'.get? a=some q:=let ⟨q,_,_,j,_⟩:=i;⟨q,j⟩;exact kc I (by rw[e];exact True.intro) C Z (N5 x hd (f.put k L) i)
 ·subst t n;cases (show u=Value.ref b from O);obtain⟨z,hd,xs,f,m⟩:=jJ I.hok e;have hz:xs.length<=sizeLine:=by rw[<- Paired.length f];exact z
  have x:(j7 d k v).length<=sizeLine:=by have:=yi d k v;lia
  refine wpAny_setItem_heap (hsz:=hz) (tupleKind_room_in1 hu) (K9 I.hok G) m λh' i C=>h _ ?_;obtain⟨q,R,P,j,S,T,U,_,Y⟩:=i;refine kc I (by rw[e];exact True.intro) C ⟨q,j⟩ ⟨x,hd,_,(f.put k G L).keeps λc ys J=>?_,q,R,P,j,S,T,U,Y⟩;rw[QN (MP J e (λz=>nomatch z))];exact J
end
section
variable{X:Cx}{O9:Cf}{σ:St}{H:Hp}{s:Shared}{a:Addr}{kvs:List (Key×V)}{k:Key}{u:Value}{A:Around}{E:Ce}
theorem Ng{Q:Ce}(I:Inv X O9 σ H s)(e:Rd H a (.dK kvs))(h:∀t s',Inv X O9 σ H s'->Q (.int kvs.length t) s'):wpAny (model X.prog X.w) A (call (.builtin "len") [.ref a]) Q E s:=by obtain⟨z,hd,vs,c,d⟩:=GV I.hok e;refine call_len_dict hd d (by rw[<- c.length];rw[sizeLine_eq]at z;lia) ?_;rw[<- c.length];exact h _ _ (I.tok _)
end
theorem GT{X:Cx}{f:Cf}{σ:St}{H:Hp}{s:Shared}{a:Addr}{y:V}{o:Option V}(I:Inv X f σ H s)(g:DGet H a y o):s.TypeIs (.ref a) "dict" := by
 rcases g with ⟨d,k,e,_,_⟩|⟨d,k,b,e,_,_,_⟩
 ·obtain⟨_,_,vs,_,c⟩:=GV I.hok e;exact c.typeIs
 ·obtain⟨_,_,xs,_,c⟩:=kj I.hok e;exact c.typeIs
section
variable{X:Cx}{o i e value:Expr}{pos pos' tpos:Pos}{td ty tv:TE}
end
theorem MS{P:Program}{w:World}{H:Hp}(h:Heap)(a:sysModules<h.objs.size):ObjOk P w H (h.push { cls:=.type "dict", data:=.dict #[] }) h.objs.size (.dK []) :=
 ⟨A5 _,beq_eq_false_iff_ne.mpr (Ne.symm (A6 a)),[],.nil,Heap.DictOf.new h⟩
section
variable{X:Cx}{pos:Pos}
end
section
variable{X:Cx}{O9:Cf}{σ:St}{H:Hp}{s:Shared}{a:Addr}{y d:V}{u r:Value}{o:Option V}{A:Around}{E:Ce}
end
section
variable{X:Cx}{o e f:Expr}{apos cpos:Pos}{td ty tx:TE}
end
section
variable{X:Cx}{O9:Cf}{σ:St}{H:Hp}{s:Shared}{a:Addr}{kvs:List (Key×V)}{A:Around}{E:Ce}
end
section
variable{X:Cx}{O9:Cf}{σ:St}{H:Hp}{s:Shared}{a:Addr}{y:V}{u:Value}{A:Around}{E:Ce}
end
section
variable{X:Cx}
theorem HC:CallR X (.builtin "len") (λxs H Q=>∃a c,xs=[V.ref a]/\H a=some (.dK c)/\Q (.int c.length) H):=by intro g s σ H xs us Q I r h;obtain⟨a,c,rfl,e,q⟩:=h;obtain⟨u,rfl,f⟩:=xp r;cases f;exact Ng I (.inl e) λt s' d=>⟨.int c.length,H,d,⟨t,rfl⟩,q⟩
end
section
variable{κ:Type}[DecidableEq κ]
end
end L2
namespace D
open PySem PySem.Spec PyProof.Rows L2
abbrev St:=L2.St
inductive DV where
 |non|bl (b:Bool)|int (i:Int)|str (x:Str)|tup (xs:List DV)|lst (xs:List DV)|ref (i:Nat)
inductive OV where
 |lst (xs:List DV)
 |aJ (kvs:List (Key×DV))
 |ins (c:Str) (fs:List (Str×DV))
abbrev Hs:=List OV
abbrev M:=StateT Hs Option
abbrev Ck:=List DV->M DV
mutual
def aA(K:Aa)(ρ:Cj)(B:Ci)(H:Hp):DV->V->Prop
 |.non,v=>v=.non
 |.bl b,v=>v=.bl b
 |.int i,v=>v=.int i
 |.str x,v=>v=.str x
 |.tup ds,v=>∃a xs,v=.ref a/\¬ B a/\SqT K H a xs/\aq K ρ B H ds xs
 |.lst ds,v=>∃a xs,v=.ref a/\¬ B a/\SqL K H a xs/\aq K ρ B H ds xs
 |.ref i,v=>∃a,v=.ref a/\ρ[i]?=some a
def aq(K:Aa)(ρ:Cj)(B:Ci)(H:Hp):List DV->List V->Prop
 | [],xs=>xs=[]
 |d::ds,xs=>∃x r,xs=x::r/\aA K ρ B H d x/\aq K ρ B H ds r
end
def bx(K:Aa)(ρ:Cj)(B:Ci)(H:Hp)(a:Addr):OV->Prop
 |.lst ds=>∃xs,H a=some (.lst xs)/\aq K ρ B H ds xs
 |.aJ d=>∃xs:List (Key×V),H a=some (.dK xs)/\xs.map (·.1)=d.map (·.1)/\aq K ρ B H (d.map (·.2)) (xs.map (·.2))
 |.ins c fs=>∃(C e:Addr)(xs:List (Str×V)),PySem.W.nsIn K mainGlobals c=some (some (.ref C))/\H a=some (.ins C e xs)/\xs.map (·.1)=fs.map (·.1)/\aq K ρ B H (fs.map (·.2)) (xs.map (·.2))
structure Gr(K:Aa)(ρ:Cj)(B:Ci)(H:Hp)(ρ':Cj)(B':Ci)(H':Hp):Prop where
 pre:ρ <+: ρ'
 ban:∀a,B a->B' a
 new:∀a,B' a->B a∨(H a=none/\K.lookup a=none)
 cu:∀a∈ρ',a∈ρ∨H a=none
 keep:∀a o,a∉ρ->H a=some o->H' a=some o
 trk:∀a,H' a=none->H a=none
structure aQ(K:Aa)(ρ:Cj)(B:Ci)(U:Hs)(H:Hp):Prop where
 len:ρ.length=U.length
 nd:ρ.Nodup
 obj:∀(i:Nat)(a:Addr)(o:OV),ρ[i]?=some a->U[i]?=some o->bx K ρ B H a o
 rb:∀a∈ρ,B a
 bt:∀a,B a->H a≠none
 bk:∀a,B a->K.lookup a=none
section
variable{K:Aa}{ρ ρ' ρ'':Cj}{B B' B'':Ci}{H H' oX:Hp}
def Gr.refl:Gr K ρ B H ρ B H:=⟨Bp,λ_ h=>h,λ_ h=>.inl h,λ_ h=>.inl h,λ_ _ _ h=>h,λ_ h=>h⟩
theorem Gr.trans(a:Gr K ρ B H ρ' B' H')(b:Gr K ρ' B' H' ρ'' B'' oX):Gr K ρ B H ρ'' B'' oX where
 pre:=a.pre.trans b.pre
 ban:=λx h=>b.ban x (a.ban x h)
 new:=λx h=>(b.new x h).elim (a.new x) λz=>.inr ⟨a.trk x z.1,z.2⟩
 cu:=λx h=>(b.cu x h).elim (a.cu x) λz=>.inr (a.trk x z)
 keep:=λx o c h=>b.keep x o (λz=>(a.cu x z).elim c (λz=>by rw[h]at z;cases z)) (a.keep x o c h)
 trk:=λx h=>a.trk x (b.trk x h)
structure Gs(K:Aa)(ρ:Cj)(B:Ci)(H:Hp)(ρ':Cj)(B':Ci)(H':Hp):Prop where
 pre:ρ <+: ρ'
 new:∀a,B' a->B a∨(H a=none/\K.lookup a=none)
 keep:∀a o,¬ B a->H a=some o->H' a=some o
 trk:∀a,H' a=none->H a=none
def Gr.gs(rb:∀a∈ρ,B a)(g:Gr K ρ B H ρ' B' H'):Gs K ρ B H ρ' B' H':=⟨g.pre,g.new,λa o c h=>g.keep a o (λz=>c (rb a z)) h,g.trk⟩
def Gs.refl:Gs K ρ B H ρ B H:=⟨Bp,λ_ h=>.inl h,λ_ _ _ h=>h,λ_ h=>h⟩
theorem Gs.trans(a:Gs K ρ B H ρ' B' H')(b:Gs K ρ' B' H' ρ'' B'' oX):Gs K ρ B H ρ'' B'' oX where
 pre:=a.pre.trans b.pre
 new:=λx h=>(b.new x h).elim (a.new x) λz=>.inr ⟨a.trk x z.1,z.2⟩
 keep:=λx o c h=>b.keep x o (λz=>(a.new x z).elim c λq=>by rw[h]at q;cases q.1) (a.keep x o c h)
 trk:=λx h=>a.trk x (b.trk x h)
theorem SqT.trk{a:Addr}{xs:List V}(h:SqT K H a xs):H a≠none∨∃o,K.lookup a=some o:=by
 rcases h with (h|⟨o,h⟩)|⟨o,_,_,h,_⟩
 ·exact .inl (by rw[h];simp)
 ·exact .inl (by rw[h];simp)
 ·exact .inr ⟨o,h⟩
theorem SqL.trk{a:Addr}{xs:List V}(h:SqL K H a xs):H a≠none∨∃o,K.lookup a=some o:=by
 rcases h with (h|⟨o,h⟩)|⟨o,_,_,h,_⟩
 ·exact .inl (by rw[h];simp)
 ·exact .inl (by rw[h];simp)
 ·exact .inr ⟨o,h⟩
theorem Gs.ok{a:Addr}(g:Gs K ρ B H ρ' B' H')(c:¬ B a)(t:H a≠none∨∃o,K.lookup a=some o):¬ B' a:=λz =>
 (g.new a z).elim c λ⟨n,k⟩=>t.elim (λq=>q n) λ⟨o,q⟩=>by rw[k]at q;cases q
theorem Gs.nM{a:Addr}{xs:List V}(g:Gs K ρ B H ρ' B' H')(c:¬ B a)(h:SqT K H a xs):SqT K H' a xs:=by
 rcases h with (h|⟨o,h⟩)|h
 ·exact .inl (.inl (g.keep _ _ c h))
 ·exact .inl (.inr ⟨o,g.keep _ _ c h⟩)
 ·exact .inr h
theorem Gs.rW{a:Addr}{xs:List V}(g:Gs K ρ B H ρ' B' H')(c:¬ B a)(h:SqL K H a xs):SqL K H' a xs:=by
 rcases h with (h|⟨o,h⟩)|h
 ·exact .inl (.inl (g.keep _ _ c h))
 ·exact .inl (.inr ⟨o,g.keep _ _ c h⟩)
 ·exact .inr h
theorem kY{i:Nat}{a:Addr}(p:ρ <+: ρ')(h:ρ[i]?=some a):ρ'[i]?=some a:=by obtain⟨t,rfl⟩:=p;rw[Af (Ac.mp h).1];exact h
mutual
theorem aA.gs(g:Gs K ρ B H ρ' B' H'):∀(d:DV)(v:V),aA K ρ B H d v->aA K ρ' B' H' d v
  |.non,_,h=>by unfold aA at h ⊢;exact h
  |.bl _,_,h=>by unfold aA at h ⊢;exact h
  |.int _,_,h=>by unfold aA at h ⊢;exact h
  |.str _,_,h=>by unfold aA at h ⊢;exact h
  |.ref _,_,h=>by unfold aA at h ⊢;obtain⟨a,e,h⟩:=h;exact⟨a,e,kY g.pre h⟩
  |.tup ds,_,h=>by unfold aA at h ⊢;obtain⟨a,xs,e,c,f,i⟩:=h;exact⟨a,xs,e,g.ok c (SqT.trk f),g.nM c f,aq.gs g ds xs i⟩
  |.lst ds,_,h=>by unfold aA at h ⊢;obtain⟨a,xs,e,c,f,i⟩:=h;exact⟨a,xs,e,g.ok c (SqL.trk f),g.rW c f,aq.gs g ds xs i⟩
theorem aq.gs(g:Gs K ρ B H ρ' B' H'):∀(ds:List DV)(xs:List V),aq K ρ B H ds xs->aq K ρ' B' H' ds xs
  | [],_,h=>by unfold aq at h ⊢;exact h
  |d::ds,_,h=>by unfold aq at h ⊢;obtain⟨x,r,e,a,c⟩:=h;exact⟨x,r,e,aA.gs g d x a,aq.gs g ds r c⟩
end
def aA.grow(rb:∀a∈ρ,B a)(g:Gr K ρ B H ρ' B' H')(d:DV)(v:V)(h:aA K ρ B H d v):aA K ρ' B' H' d v:=aA.gs (g.gs rb) d v h
def aq.grow(rb:∀a∈ρ,B a)(g:Gr K ρ B H ρ' B' H')(ds:List DV)(xs:List V)(h:aq K ρ B H ds xs):aq K ρ' B' H' ds xs:=aq.gs (g.gs rb) ds xs h
theorem aq.length:∀{ds:List DV}{xs:List V},aq K ρ B H ds xs->ds.length=xs.length
  | [],_,h=>by unfold aq at h;subst h;rfl
  |d::ds,_,h=>by unfold aq at h;obtain⟨x,r,rfl,_,a⟩:=h;simp[aq.length a]
theorem aq.get:∀{ds:List DV}{xs:List V}{i:Nat}{d:DV},aq K ρ B H ds xs->ds[i]?=some d->∃x,xs[i]?=some x/\aA K ρ B H d x
  | [],_,_,_,_,e=>by simp at e
  |d::ds,_,0,_,h,e=>by unfold aq at h;obtain⟨x,r,rfl,a,_⟩:=h;simp at e;subst e;exact⟨x,rfl,a⟩
  |d::ds,_,i+1,_,h,e=>by unfold aq at h;obtain⟨x,r,rfl,_,c⟩:=h;obtain⟨y,f,g⟩:=aq.get c (by simpa using e);exact⟨y,by simpa using f,g⟩
theorem aq.nil:aq K ρ B H [] []:=by unfold aq;rfl
theorem aq.cons{d:DV}{x:V}{ds:List DV}{xs:List V}(h:aA K ρ B H d x)(t:aq K ρ B H ds xs):aq K ρ B H (d::ds) (x::xs):=by unfold aq;exact⟨x,xs,rfl,h,t⟩
theorem aq.append:∀{ds a:List DV}{xs ys:List V},aq K ρ B H ds xs->aq K ρ B H a ys->aq K ρ B H (ds++a) (xs++ys)
  | [],_,_,_,h,t=>by unfold aq at h;subst h;exact t
  |d::ds,_,_,_,h,t=>by unfold aq at h;obtain⟨x,r,rfl,c,e⟩:=h;exact aq.cons c (aq.append e t)
def aq.one{d:DV}{x:V}(h:aA K ρ B H d x):aq K ρ B H [d] [x]:=aq.cons h aq.nil
theorem aq.take:∀(n:Nat){ds:List DV}{xs:List V},aq K ρ B H ds xs->aq K ρ B H (ds.take n) (xs.take n)
  |0,_,_,_=>by simp;exact aq.nil
  |_+1,[],_,h=>by unfold aq at h;subst h;simp;exact aq.nil
  |n+1,d::ds,_,h=>by unfold aq at h;obtain⟨x,r,rfl,a,c⟩:=h;exact aq.cons a (aq.take n c)
theorem aq.drop:∀(n:Nat){ds:List DV}{xs:List V},aq K ρ B H ds xs->aq K ρ B H (ds.drop n) (xs.drop n)
  |0,_,_,h=>h
  |_+1,[],_,h=>by unfold aq at h;subst h;simp;exact aq.nil
  |n+1,d::ds,_,h=>by unfold aq at h;obtain⟨x,r,rfl,c,a⟩:=h;exact aq.drop n a
theorem aq.reverse:∀{ds:List DV}{xs:List V},aq K ρ B H ds xs->aq K ρ B H ds.reverse xs.reverse
  | [],_,h=>by unfold aq at h;subst h;exact aq.nil
  |d::ds,_,h=>by unfold aq at h;obtain⟨x,r,rfl,a,c⟩:=h;rw[List.reverse_cons,List.reverse_cons];exact aq.append (aq.reverse c) (aq.one a)
theorem Gr.laid{p:Addr}{o:HO}(h:H p=none):Gr K ρ B H ρ B (upd H p o) where
 pre:=Bp
 ban:=λ_ h=>h
 new:=λ_ h=>.inl h
 cu:=λ_ h=>.inl h
 keep:=λa u _ q=>by rw[QN (ZD q h)];exact q
 trk:=λa q=>by
  by_cases e:a=p
  ·subst e;rw[Q3]at q;cases q
  ·rw[QN e]at q;exact q
theorem bx.gs{a:Addr}{o:OV}(g:Gs K ρ B H ρ' B' H')(i:H' a=H a)(h:bx K ρ B H a o):bx K ρ' B' H' a o:=by
  cases o with
  |lst ds=>obtain⟨xs,e,d⟩:=h;exact⟨xs,i.trans e,aq.gs g _ _ d⟩
  |aJ l=>obtain⟨xs,e,f,d⟩:=h;exact⟨xs,i.trans e,f,aq.gs g _ _ d⟩
  |ins c fs=>obtain⟨C,j,xs,m,e,f,d⟩:=h;exact⟨C,j,xs,m,i.trans e,f,aq.gs g _ _ d⟩
theorem aQ.laid{U:Hs}{p:Addr}{o:HO}(W:aQ K ρ B U H)(h:H p=none):aQ K ρ B U (upd H p o) where
 len:=W.len
 nd:=W.nd
 obj:=λi a u e q=>bx.gs ((Gr.laid h).gs W.rb) (by have c:=W.bt a (W.rb a (As e));exact QN (λz=>c (z▸h))) (W.obj i a u e q)
 rb:=W.rb
 bt:=λa z q=>W.bt a z ((Gr.laid (K:=K) (ρ:=ρ) (B:=B) h).trk a q)
 bk:=W.bk
end
inductive Sl where
 |un|val (d:DV)|acc (ds:List DV)
abbrev En:=List Sl
structure Ent where
 ρ:List Addr
 B:Addr->Prop
 H:Hp
structure bN(K:Aa)(Z:Ent)(env:En)(σ:St)(ρ:Cj)(B:Ci)(U:Hs)(H:Hp):Prop where
 gr:Gr K Z.ρ Z.B Z.H ρ B H
 zb:∀a,Z.B a->Z.H a≠none
 wo:aQ K ρ B U H
 slot:∀(i:Nat)(d:DV),env[i]?=some (.val d)->∃v,σ[i]?=some (some v)/\aA K ρ B H d v
 iB:∀(i:Nat)(ds:List DV),env[i]?=some (.acc ds)->∃a xs,σ[i]?=some (some (.ref a))/\H a=some (.lst xs)/\Z.H a=none/\B a/\a∉ρ/\aq K ρ B H ds xs
 iy:∀(i j:Nat)(ds es:List DV)(a:Addr),env[i]?=some (.acc ds)->env[j]?=some (.acc es)->σ[i]?=some (some (.ref a))->σ[j]?=some (some (.ref a))->i=j
 len:σ.length=env.length
theorem bN.grow{K:Aa}{Z:Ent}{env:En}{σ:St}{ρ ρ':Cj}{B B':Ci}{U c:Hs}{H H':Hp}(S:bN K Z env σ ρ B U H)(g:Gr K ρ B H ρ' B' H')(W:aQ K ρ' B' c H'):bN K Z env σ ρ' B' c H' where
 gr:=S.gr.trans g
 zb:=S.zb
 wo:=W
 slot:=λi d e=>let ⟨v,h,f⟩:=S.slot i d e;⟨v,h,aA.grow S.wo.rb g d v f⟩
 iB:=λi ds e=>by
  obtain⟨a,xs,h,f,l,m,j,n⟩:=S.iB i ds e;refine⟨a,xs,h,g.keep a _ j f,l,g.ban a m,λz=>?_,aq.grow S.wo.rb g ds xs n⟩;rcases g.cu a z with q|q
  ·exact j q
  ·rw[f]at q;cases q
 iy:=S.iy
 len:=S.len
abbrev aB:=En->M DV
abbrev bF:=En->M Bool
abbrev bM:=En->M (List DV)
inductive Fl where
 |nx|rt (d:DV)|bk|ct
abbrev aD:=En->M (Fl×En)
def eY(K:Aa)(ρ:Cj)(B:Ci)(H:Hp)(d:DV)(a:Hs)(Q:VK):Prop :=
 ∀v ρ' B' H',Gr K ρ B H ρ' B' H'->aQ K ρ' B' a H'->aA K ρ' B' H' d v->Q v H'
def wB(K:Aa)(ρ:Cj)(B:Ci)(H:Hp)(a:Hs)(Q:Hp->Prop):Prop :=
 ∀ρ' B' H',Gr K ρ B H ρ' B' H'->aQ K ρ' B' a H'->Q H'
def HN(K:Aa)(ρ:Cj)(B:Ci)(H:Hp)(ds:List DV)(a:Hs)(Q:List V->Hp->Prop):Prop :=
 ∀vs ρ' B' H',Gr K ρ B H ρ' B' H'->aQ K ρ' B' a H'->aq K ρ' B' H' ds vs->Q vs H'
def tD(K:Aa)(f:aB):TE:=λσ H Q=>∃Z env ρ B U d a,bN K Z env σ ρ B U H/\f env U=some (d,a)/\eY K ρ B H d a Q
def dI(K:Aa)(f:bF):TT:=λσ H Q=>∃Z env ρ B U d a,bN K Z env σ ρ B U H/\f env U=some (d,a)/\wB K ρ B H a (Q d)
def dR(K:Aa)(f:bM):TA:=λσ H Q=>∃Z env ρ B U ds a,bN K Z env σ ρ B U H/\f env U=some (ds,a)/\HN K ρ B H ds a Q
def DE(X:Cx)(e:Expr)(f:aB):Prop:=PE X e (tD X.K f)
def DT(X:Cx)(e:Expr)(f:bF):Prop:=PT X e (dI X.K f)
def DW(X:Cx)(e:Expr)(f:bF):Prop:=PW X e (dI X.K f)
def DA(X:Cx)(a:List Expr)(f:bM):Prop:=PA X a (dR X.K f)
def iC(K:Aa)(Z:Ent)(ρ:Cj)(B:Ci)(H:Hp)(fl:Fl)(a:En)(c:Hs)(D:Kq):Prop :=
  ∀σ' ρ' B' H', Gs K ρ B H ρ' B' H' -> bN K Z a σ' ρ' B' c H' -> match fl with
    |.nx=>D.nx σ' H'
    |.bk=>D.bk σ' H'
    |.ct=>D.ct σ' H'
    |.rt d=>∀v,aA K ρ' B' H' d v->D.rt v H'
def lG(K:Aa)(f:aD):TS:=λD σ H=>∃Z env ρ B U fl a c,bN K Z env σ ρ B U H/\f env U=some ((fl,a),c)/\iC K Z ρ B H fl a c D
def DS(X:Cx)(a:Stmt)(f:aD):Prop:=PS X a (lG X.K f)
def eN(X:Cx)(a:List Stmt)(f:aD):Prop:=PSs X a (lG X.K f)
section
variable{X:Cx}
def _root_.L2.PE.imp{e:Expr}{t t':TE}(h:PE X e t)(i:∀σ H Q,t' σ H Q->t σ H Q):PE X e t':=λa s σ H Q I q=>h a s σ H Q I (i σ H Q q)
def _root_.L2.PT.imp{e:Expr}{t t':TT}(h:PT X e t)(i:∀σ H Q,t' σ H Q->t σ H Q):PT X e t':=λa s σ H Q I q=>h a s σ H Q I (i σ H Q q)
def _root_.L2.PW.imp{e:Expr}{t t':TT}(h:PW X e t)(i:∀σ H Q,t' σ H Q->t σ H Q):PW X e t':=λa O9 s σ H Q I q=>h a O9 s σ H Q I (i σ H Q q)
def _root_.L2.PA.imp{c:List Expr}{t t':TA}(h:PA X c t)(i:∀σ H Q,t' σ H Q->t σ H Q):PA X c t':=λa O9 s σ H Q I q=>h a O9 s σ H Q I (i σ H Q q)
def _root_.L2.PS.imp{c:Stmt}{t t':TS}(h:PS X c t)(i:∀a σ H,t' a σ H->t a σ H):PS X c t':=λd s σ H a I q=>h d s σ H a I (i a σ H q)
def _root_.L2.PSs.imp{c:List Stmt}{t t':TS}(h:PSs X c t)(i:∀a σ H,t' a σ H->t a σ H):PSs X c t':=λd s σ H a I q=>h d s σ H a I (i a σ H q)
def gC(K:Aa)(H:Hp):Prop:=∀a o,H a=some o->K.lookup a=none
theorem Inv.iJ{d:Cf}{σ:St}{H:Hp}{s:Shared}(I:Inv X d σ H s):gC X.K H:=λa o e=>by
  cases q:X.K.lookup a with
  |none=>rfl
  |some c=>have:=(I.bs a c (I.ok.mod.kin a c q)).2;rw[e]at this;cases this
theorem _root_.L2.PE.kf{e:Expr}{t:TE}(h:PE X e t):PE X e (λσ H Q=>t σ H λv a=>gC X.K a->Q v a):=λc s σ H Q I q =>
 thn (h c s σ H _ I q) λu s' ⟨v,a,I',r,z⟩=>⟨v,a,I',r,z (Inv.iJ I')⟩
theorem Qg{α β:Type}{f:M α}{g:α->M β}{U a:Hs}{y:β}(h:(f >>= g) U=some (y,a)):∃x hp1,f U=some (x,hp1)/\g x hp1=some (y,a):=by
 change (f U).bind (λp=>g p.1 p.2)=some (y,a)at h;cases q:f U with
 |none=>rw[q]at h;cases h
 |some p=>rw[q]at h;exact⟨p.1,p.2,rfl,h⟩
theorem Qm{α:Type}{x y:α}{U a:Hs}(h:(pure x:M α) U=some (y,a)):x=y/\U=a:=by change some (x,U)=some (y,a)at h;cases h;exact⟨rfl,rfl⟩
theorem tD.run{K:Aa}{f:aB}{Z:Ent}{env:En}{σ:St}{ρ:Cj}{B:Ci}{U hp1:Hs}{H:Hp}{d:DV}{Q:VK}(S:bN K Z env σ ρ B U H)(e:f env U=some (d,hp1))
  (k:∀v ρ' B' H',Gr K ρ B H ρ' B' H'->bN K Z env σ ρ' B' hp1 H'->aA K ρ' B' H' d v->Q v H'):tD K f σ H Q :=
 ⟨Z,env,ρ,B,U,d,hp1,S,e,λv ρ' B' H' g W r=>k v ρ' B' H' g (S.grow g W) r⟩
def Qa(i:Nat):aB:=λenv=>match env[i]? with
 |some (.val d)=>pure d
 |_=>failure
def eC(d:DV):aB:=λ_=>pure d
theorem BQ{i:Nat}{env:En}{U a:Hs}{d:DV}(h:Qa i env U=some (d,a)):env[i]?=some (.val d)/\U=a:=by
  unfold Qa at h;cases q:env[i]? with
  |none=>rw[q]at h;cases h
  |some z =>
    rw[q]at h;cases z with
    |val x=>obtain⟨rfl,rfl⟩:=Qm h;exact⟨rfl,rfl⟩
    |un=>cases h
    |acc _=>cases h
theorem Qb(i:Nat){x:Str}{a:Pos}(j:X.N[i]?=some x:=by rfl)(m:Vis X.env.scope x:=by first|exact Or.inl rfl|exact Or.inr (Or.inl rfl)|exact Or.inr (Or.inr rfl))(hd:(x==("__debug__" : Str))=false:=by decide)
  (hcd:(x==("__classdict__" : Str))=false:=by decide):DE X (.Name x a) (Qa i) :=
 (Mx j m hd hcd).imp λσ H Q c=>by obtain⟨Z,env,ρ,B,U,d,l,S,e,k⟩:=c;obtain⟨f,rfl⟩:=BQ e;obtain⟨v,g,h⟩:=S.slot i d f;exact⟨v,g,k v ρ B H Gr.refl S.wo h⟩
theorem qH{e:Expr}{d:DV}{v:V}(h:PE X e (tC v))(r:∀K ρ B H,aA K ρ B H d v):DE X e (eC d) :=
 h.imp λσ H Q a=>by obtain⟨Z,env,ρ,B,U,d',c,S,e,k⟩:=a;obtain⟨rfl,rfl⟩:=Qm e;exact k v ρ B H Gr.refl S.wo (r _ _ _ _)
theorem Ql{i:Int}{j pos}:DE X (.Constant (.int i) j pos) (eC (.int i)):=qH Ph λ_ _ _ _=>by unfold aA;rfl
theorem Vl{b:Bool}{j pos}:DE X (.Constant (.bool b) j pos) (eC (.bl b)):=qH Nt λ_ _ _ _=>by unfold aA;rfl
theorem ZB{j pos}:DE X (.Constant .none j pos) (eC .non):=qH Pb λ_ _ _ _=>by unfold aA;rfl
theorem Yl{x:Str}{j pos}:DE X (.Constant (.str x) j pos) (eC (.str x)):=qH MF λ_ _ _ _=>by unfold aA;rfl
theorem T4{x:Str}{i:Int}{t:Tok}{a:Pos}(c:Gl X x)(d:X.mg x=some (.int i t))(hd:(x==("__debug__" : Str))=false:=by decide):DE X (.Name x a) (eC (.int i)) :=
 qH (kU (v:=.int i) c d ⟨t,rfl⟩ hd) λ_ _ _ _=>by unfold aA;rfl
def lF(K:Aa)(g:DV->DV->M DV):R2:=λx y H Q=>∃ρ B U c e d a,aQ K ρ B U H/\aA K ρ B H c x/\aA K ρ B H e y/\g c e U=some (d,a)/\eY K ρ B H d a Q
def P2(X:Cx)(f:Value->Value->Sem Value)(g:DV->DV->M DV):Prop:=OpR X f (lF X.K g)
def Qe(g:DV->DV->M DV)(a b:aB):aB:=λenv=>do let x <- a env;let y <- b env;g x y
variable{a b c:Expr}{fa fb fc:aB}{pos:Pos}
theorem qM{K:Aa}{g:DV->DV->M DV}{σ:St}{H:Hp}{Q:VK}(h:tD K (Qe g fa fb) σ H Q):tOp (lF K g) (tD K fa) (tD K fb) σ H Q:=by obtain⟨Z,env,ρ,B,U,d,f,S,e,k⟩:=h;obtain⟨x,hp1,j,l⟩:=Qg e;obtain⟨y,hp2,m,n⟩:=Qg l;refine tD.run S j λv ρ1 B1 H1 g1 S1 o=>tD.run S1 m λu ρ2 i H2 g2 S2 q=>?_;exact⟨ρ2,i,hp2,x,y,d,f,S2.wo,aA.grow S1.wo.rb g2 _ _ o,q,n,λw ρ' B' H' g W r=>k w ρ' B' H' (g1.trans (g2.trans g)) W r⟩
theorem Qp{d:Operator}{g:DV->DV->M DV}(i:P2 X (binaryOp d) g)(e:DE X a fa)(f:DE X b fb):DE X (.BinOp a d b pos) (Qe g fa fb) :=
 (Nq i e f).imp λ_ _ _ h=>qM h
theorem ZO{d:CmpOp}{g:DV->DV->M DV}(j:P2 X (compareOp d) g)(e:DE X a fa)(f:DE X b fb)(i:behindInMarks d b=false):DE X (.Compare a [d] [b] pos) (Qe g fa fb) :=
 (Rg j e f i).imp λ_ _ _ h=>qM h
def eX:DV->M Bool
 |.bl b=>pure b
 |_=>failure
def eB(f:aB):bF:=λenv=>do eX (<- f env)
theorem YA{d:DV}{c:Bool}{U e:Hs}(h:eX d U=some (c,e)):d=.bl c/\U=e:=by
 cases d with
 |bl b=>obtain⟨rfl,rfl⟩:=Qm h;exact⟨rfl,rfl⟩
 |_=>cases h
theorem aA.dX{K:Aa}{ρ:Cj}{B:Ci}{H:Hp}{b:Bool}{v:V}(h:aA K ρ B H (.bl b) v):v=.bl b:=by unfold aA at h;exact h
theorem aA.aW{K:Aa}{ρ:Cj}{B:Ci}{H:Hp}{b:Int}{v:V}(h:aA K ρ B H (.int b) v):v=.int b:=by unfold aA at h;exact h
theorem aA.fu{K:Aa}{ρ:Cj}{B:Ci}{H:Hp}{b:Str}{v:V}(h:aA K ρ B H (.str b) v):v=.str b:=by unfold aA at h;exact h
theorem aA.d8{K:Aa}{ρ:Cj}{B:Ci}{H:Hp}{v:V}(h:aA K ρ B H .non v):v=.non:=by unfold aA at h;exact h
theorem aA.tupI{K:Aa}{ρ:Cj}{B:Ci}{H:Hp}{ds:List DV}{v:V}(h:aA K ρ B H (.tup ds) v):∃a xs,v=.ref a/\¬ B a/\SqT K H a xs/\aq K ρ B H ds xs:=by unfold aA at h;exact h
theorem aA.bR{K:Aa}{ρ:Cj}{B:Ci}{H:Hp}{ds:List DV}{v:V}(h:aA K ρ B H (.lst ds) v):∃a xs,v=.ref a/\¬ B a/\SqL K H a xs/\aq K ρ B H ds xs:=by unfold aA at h;exact h
theorem aA.mH{K:Aa}{ρ:Cj}{B:Ci}{H:Hp}{i:Nat}{v:V}(h:aA K ρ B H (.ref i) v):∃a,v=.ref a/\ρ[i]?=some a:=by unfold aA at h;exact h
section
variable{K:Aa}{ρ:Cj}{B:Ci}{H:Hp}
theorem Xl{b:Bool}:aA K ρ B H (.bl b) (.bl b):=by unfold aA;rfl
theorem ZZ{b:Int}:aA K ρ B H (.int b) (.int b):=by unfold aA;rfl
theorem qf:aA K ρ B H .non .non:=by unfold aA;rfl
theorem Yb{a:Addr}{ds:List DV}{xs:List V}(d:¬ B a)(e:SqT K H a xs)(f:aq K ρ B H ds xs):aA K ρ B H (.tup ds) (.ref a):=by unfold aA;exact⟨a,xs,rfl,d,e,f⟩
theorem Go{a:Addr}{ds:List DV}{xs:List V}(d:¬ B a)(e:SqL K H a xs)(f:aq K ρ B H ds xs):aA K ρ B H (.lst ds) (.ref a):=by unfold aA;exact⟨a,xs,rfl,d,e,f⟩
end
theorem jJ{e:Expr}{f:aB}(h:DE X e f)(l:∀whole,isTrue e X.env whole=(do let v <- whole;standAt e.pos;holding [v] (truthy v)):=by intro _;rfl):DT X e (eB f) :=
 (Mi h l).imp λσ H Q g=>by obtain⟨Z,env,ρ,B,U,d,m,S,e,k⟩:=g;obtain⟨x,hp1,i,j⟩:=Qg e;obtain⟨rfl,rfl⟩:=YA j;exact tD.run S i λv ρ1 B1 H1 g1 S1 n=>⟨d,n.dX,k ρ1 B1 H1 g1 S1.wo⟩
theorem QJ{f:CmpOp}{g:DV->DV->M DV}(o:P2 X (compareOp f) g)(l:DE X a fa)(m:DE X b fb)(n:behindInMarks f b=false):DT X (.Compare a [f] [b] pos) (eB (Qe g fa fb)) :=
 (RX o l m n).imp λσ H Q h=>by obtain⟨Z,env,ρ,B,U,d,q,S,e,k⟩:=h;obtain⟨x,hp1,i,j⟩:=Qg e;obtain⟨rfl,rfl⟩:=YA j;exact qM (tD.run S i λv ρ1 B1 H1 g1 S1 r=>⟨d,r.dX,k ρ1 B1 H1 g1 S1.wo⟩)
def Jx(f g:bF):bF:=λenv=>do if <- f env then g env else pure false
def cG(f g:bF):bF:=λenv=>do if <- f env then pure true else g env
def XF(f:bF):bF:=λenv=>do let b <- f env;pure (!b)
def Jy(f g:aB):aB:=λenv=>do if <- eX (<- f env)then g env else pure (.bl false)
def YY(f g:aB):aB:=λenv=>do if <- eX (<- f env)then pure (.bl true)else g env
def Vq(f:aB):aB:=λenv=>do let b <- eX (<- f env);pure (.bl (!b))
def dG(c:bF)(f g:aB):aB:=λenv=>do if <- c env then f env else g env
theorem dI.run{K:Aa}{f:bF}{Z:Ent}{env:En}{σ:St}{ρ:Cj}{B:Ci}{U hp1:Hs}{H:Hp}{d:Bool}{Q:Bool->Hp->Prop}(S:bN K Z env σ ρ B U H)(e:f env U=some (d,hp1))
  (k:∀ρ' B' H',Gr K ρ B H ρ' B' H'->bN K Z env σ ρ' B' hp1 H'->Q d H'):dI K f σ H Q :=
 ⟨Z,env,ρ,B,U,d,hp1,S,e,λρ' B' H' g W=>k ρ' B' H' g (S.grow g W)⟩
variable{ca cb:bF}{rest:List Expr}
def zq(h:DT X a ca):DW X (.BoolOp .And [a] pos) ca:=RP h
def xC(h:DT X a ca):DW X (.BoolOp .Or [a] pos) ca:=Mg h
theorem Yn(i:DT X a ca)(j:DW X (.BoolOp .And (b::rest) pos) cb):DW X (.BoolOp .And (a::b::rest) pos) (Jx ca cb) :=
  (Mh i j).imp λσ H Q g=>by
    obtain⟨Z,env,ρ,B,U,d,l,S,e,k⟩:=g;obtain⟨x,hp1,h,f⟩:=Qg e;refine dI.run S h λρ1 B1 H1 g1 S1=>?_;cases x with
    |true=>exact K7 (dI.run S1 f λρ2 B2 H2 g2 S2=>k ρ2 B2 H2 (g1.trans g2) S2.wo)
    |false=>obtain⟨rfl,rfl⟩:=Qm f;exact K6 (k ρ1 B1 H1 g1 S1.wo)
theorem ye(i:DT X a ca)(j:DW X (.BoolOp .Or (b::rest) pos) cb):DW X (.BoolOp .Or (a::b::rest) pos) (cG ca cb) :=
  (Il i j).imp λσ H Q g=>by
    obtain⟨Z,env,ρ,B,U,d,l,S,e,k⟩:=g;obtain⟨x,hp1,h,f⟩:=Qg e;refine dI.run S h λρ1 B1 H1 g1 S1=>?_;cases x with
    |false=>exact K6 (dI.run S1 f λρ2 B2 H2 g2 S2=>k ρ2 B2 H2 (g1.trans g2) S2.wo)
    |true=>obtain⟨rfl,rfl⟩:=Qm f;exact K7 (k ρ1 B1 H1 g1 S1.wo)
def DW.pt{e:Expr}{f:bF}(h:DW X e f):DT X e f:=h _
theorem qL(h:DT X a ca):DT X (.UnaryOp .Not a pos) (XF ca) :=
 (Mj h).imp λσ H Q f=>by obtain⟨Z,env,ρ,B,U,d,j,S,e,k⟩:=f;obtain⟨x,hp1,g,i⟩:=Qg e;obtain⟨rfl,rfl⟩:=Qm i;exact dI.run S g λρ1 B1 H1 g1 S1=>k ρ1 B1 H1 g1 S1.wo
def qI{d:BoolOp}(h:DE X a fa):DE X (.BoolOp d [a] pos) fa:=Pa h
theorem Vk(l:DE X a fa)(m:DE X (.BoolOp .And (b::rest) pos) fb):DE X (.BoolOp .And (a::b::rest) pos) (Jy fa fb) :=
  (Pn l m).imp λσ H Q g=>by
    obtain⟨Z,env,ρ,B,U,d,n,S,e,k⟩:=g;obtain⟨x,hp1,h,i⟩:=Qg e;obtain⟨c,hp2,j,f⟩:=Qg i;obtain⟨rfl,rfl⟩:=YA j;refine tD.run S h λv ρ1 B1 H1 g1 S1 o=>⟨c,o.dX,?_⟩;cases c with
    |true=>exact K7 (tD.run S1 f λv ρ2 B2 H2 g2 S2 q=>k v ρ2 B2 H2 (g1.trans g2) S2.wo q)
    |false=>obtain⟨rfl,rfl⟩:=Qm f;exact K6 (k _ ρ1 B1 H1 g1 S1.wo Xl)
theorem GS(l:DE X a fa)(m:DE X (.BoolOp .Or (b::rest) pos) fb):DE X (.BoolOp .Or (a::b::rest) pos) (YY fa fb) :=
  (Np l m).imp λσ H Q g=>by
    obtain⟨Z,env,ρ,B,U,d,n,S,e,k⟩:=g;obtain⟨x,hp1,h,i⟩:=Qg e;obtain⟨c,hp2,j,f⟩:=Qg i;obtain⟨rfl,rfl⟩:=YA j;refine tD.run S h λv ρ1 B1 H1 g1 S1 o=>⟨c,o.dX,?_⟩;cases c with
    |false=>exact K6 (tD.run S1 f λv ρ2 B2 H2 g2 S2 q=>k v ρ2 B2 H2 (g1.trans g2) S2.wo q)
    |true=>obtain⟨rfl,rfl⟩:=Qm f;exact K7 (k _ ρ1 B1 H1 g1 S1.wo Xl)
theorem ke(m:DT X c ca)(j:DE X a fa)(l:DE X b fb):DE X (.IfExp c a b pos) (dG ca fa fb) :=
 (X_ m j l).imp λσ H Q h=>by
  obtain⟨Z,env,ρ,B,U,d,n,S,e,k⟩:=h;obtain⟨x,hp1,i,g⟩:=Qg e;refine dI.run S i λρ1 B1 H1 g1 S1=>?_;cases x with
  |true=>exact K7 (tD.run S1 g λv ρ2 B2 H2 g2 S2 f=>k v ρ2 B2 H2 (g1.trans g2) S2.wo f)
  |false=>exact K6 (tD.run S1 g λv ρ2 B2 H2 g2 S2 f=>k v ρ2 B2 H2 (g1.trans g2) S2.wo f)
def Qk:bM:=λ_=>pure []
def Qc(f:aB)(g:bM):bM:=λenv=>do let x <- f env;let xs <- g env;pure (x::xs)
theorem dR.run{K:Aa}{f:bM}{Z:Ent}{env:En}{σ:St}{ρ:Cj}{B:Ci}{U hp1:Hs}{H:Hp}{ds:List DV}{Q:List V->Hp->Prop}(S:bN K Z env σ ρ B U H)(e:f env U=some (ds,hp1))
  (k:∀vs ρ' B' H',Gr K ρ B H ρ' B' H'->bN K Z env σ ρ' B' hp1 H'->aq K ρ' B' H' ds vs->Q vs H'):dR K f σ H Q :=
 ⟨Z,env,ρ,B,U,ds,hp1,S,e,λvs ρ' B' H' g W r=>k vs ρ' B' H' g (S.grow g W) r⟩
theorem Qj:DA X [] Qk:=pa_nil.imp λσ H Q d=>by obtain⟨Z,env,ρ,B,U,ds,f,S,e,k⟩:=d;obtain⟨rfl,rfl⟩:=Qm e;exact k [] ρ B H Gr.refl S.wo aq.nil
theorem Qd{e:Expr}{d:List Expr}{f:aB}{g:bM}(n:DE X e f)(q:DA X d g)(r:starEach (e::d) X.env=(false,eval e X.env)::starEach d X.env:=by rfl):DA X (e::d) (Qc f g) :=
 (Xu n q r).imp λσ H Q h=>by obtain⟨Z,env,ρ,B,U,ds,o,S,e,k⟩:=h;obtain⟨x,hp1,i,j⟩:=Qg e;obtain⟨xs,hp2,l,m⟩:=Qg j;obtain⟨rfl,rfl⟩:=Qm m;exact tD.run S i λv ρ1 B1 H1 g1 S1 t=>dR.run S1 l λvs ρ2 B2 H2 g2 S2 u=>k _ ρ2 B2 H2 (g1.trans g2) S2.wo (aq.cons (aA.grow S1.wo.rb g2 _ _ t) u)
def lim:Nat:=100000
theorem VG:lim<=sizeLine:=by decide
def QG(c:Bool):M Unit:=if c then pure ()else failure
theorem QE{c:Bool}{U d:Hs}{u:Unit}(h:QG c U=some (u,d)):c=true/\U=d:=by
 cases c with
 |true=>obtain⟨_,rfl⟩:=Qm (show(pure ():M Unit) U=some (u,d)from h);exact⟨rfl,rfl⟩
 |false=>cases h
def JV(ds:List DV):Bool:=decide (ds.length<=lim)
def YO{ds:List DV}(h:JV ds=true):ds.length<=sizeLine:=A8 (Cb h) VG
def ZK(f:bM):aB:=λenv=>do let xs <- f env;QG (JV xs);pure (.tup xs)
def Zz(f:bM):aB:=λenv=>do let xs <- f env;QG (JV xs);pure (.lst xs)
theorem zw{K:Aa}{ρ:Cj}{B:Ci}{H:Hp}{U:Hs}{ds:List DV}{xs:List V}{Q:VK}(W:aQ K ρ B U H)(r:aq K ρ B H ds xs)(k:eY K ρ B H (.tup ds) U Q):∀p,H p=none->Q (.ref p) (upd H p (.tup xs)):=λp d =>
 k _ ρ B _ (Gr.laid d) (W.laid d) (Yb (λz=>W.bt p z d) (SqT.of Q3) (aq.grow W.rb (Gr.laid d) _ _ r))
theorem zt{K:Aa}{ρ:Cj}{B:Ci}{H:Hp}{U:Hs}{ds:List DV}{xs:List V}{Q:VK}(W:aQ K ρ B U H)(r:aq K ρ B H ds xs)(k:eY K ρ B H (.lst ds) U Q):∀p,H p=none->Q (.ref p) (upd H p (.lst xs)):=λp d =>
 k _ ρ B _ (Gr.laid d) (W.laid d) (Go (λz=>W.bt p z d) (SqL.of Q3) (aq.grow W.rb (Gr.laid d) _ _ r))
def eY.after{K:Aa}{ρ ρ1:Cj}{B B1:Ci}{H H1:Hp}{e:Hs}{d:DV}{Q:VK}(g:Gr K ρ B H ρ1 B1 H1)(k:eY K ρ B H d e Q):eY K ρ1 B1 H1 d e Q:=λv ρ' B' H' g' W r=>k v ρ' B' H' (g.trans g') W r
theorem Zp{g:List Expr}{f:bM}{x1}(h:DA X g f):DE X (.Tuple g x1 pos) (ZK f) :=
 (Mz h).imp λσ H Q j=>by obtain⟨Z,env,ρ,B,U,d,q,S,e,k⟩:=j;obtain⟨xs,hp1,l,m⟩:=Qg e;obtain⟨_,hp2,n,o⟩:=Qg m;obtain⟨r,rfl⟩:=QE n;obtain⟨rfl,rfl⟩:=Qm o;exact dR.run S l λvs ρ1 B1 H1 g1 S1 i=>⟨by rw[<- i.length];exact YO r,zw S1.wo i (k.after g1)⟩
theorem Jr{g:List Expr}{f:bM}(h:DA X g f):DE X (.List g pos) (Zz f) :=
 (Bl h).imp λσ H Q j=>by obtain⟨Z,env,ρ,B,U,d,q,S,e,k⟩:=j;obtain⟨xs,hp1,l,m⟩:=Qg e;obtain⟨_,hp2,n,o⟩:=Qg m;obtain⟨r,rfl⟩:=QE n;obtain⟨rfl,rfl⟩:=Qm o;exact dR.run S l λvs ρ1 B1 H1 g1 S1 i=>⟨by rw[<- i.length];exact YO r,zt S1.wo i (k.after g1)⟩
end
end D
namespace L2
open PySem PySem.Spec PyProof.Rows
def Xj(X:Cx)(scope:Scope)(a:List (Str×Addr))(C:Addr)(N:List Str)(s₀:Shared)(H₀:Hp)(ex:Cj):Cx where
 prog:=X.prog
 w:=X.w
 K:=X.K
 mg:=X.mg
 O8:=X.O8
 A:=X.A
 N:=N
 s₀:=s₀
 H₀:=H₀
 env:=compEnvC scope a C X.env
 outer:=X.stack
 stack:=X.stack
 ex:=ex
 fn:=λ_=>false
 calm:=X.calm
 pn:=[]
 xe:=λ_ _=>False
def AllP{α:Type}(P:α->Prop):List α->Prop
 | []=>True
 |x::r=>P x/\AllP P r
theorem AllP.mem{α:Type}{P:α->Prop}:∀{l:List α}{x:α},AllP P l->x∈l->P x
 | [],_,_,h=>nomatch h
 |y::r,x,⟨a,c⟩,h=>(A9.mp h).elim (λe=>e▸a) λe=>AllP.mem c e
def cQ(X:Cx)(scope:Scope)(a:List (Str×Addr)):List Str->List Nat->Prop
  | [],[]=>True
  | y :: ys, i :: d => X.N[i]? = some y /\ (X.env.kindOf y = some .cell ∨ X.env.kindOf y = some .free) /\ (∃c, a.lookup y = some c) /\
      (relabel scope X.env).names.lookup y≠some .local/\cQ X scope a ys d
  |_,_=>False
theorem cQ.get{X:Cx}{scope:Scope}{e:List (Str×Addr)}:∀{ys:List Str}{d:List Nat}{j:Nat}{y:Str},cQ X scope e ys d->ys[j]?=some y ->
    ∃i,d[j]?=some i/\X.N[i]?=some y/\(X.env.kindOf y=some .cell∨X.env.kindOf y=some .free)/\(∃c,e.lookup y=some c)/\(relabel scope X.env).names.lookup y≠some .local
  | [],_,_,_,_,h=>by simp at h
  |y::ys,[],_,_,h,_=>by simp[cQ]at h
  |y::ys,i::d,0,z,⟨f,g,l,m,_⟩,h=>by simp at h;subst h;exact⟨i,rfl,f,g,l,m⟩
  |y::ys,i::d,j+1,z,⟨_,_,_,_,n⟩,h=>by obtain⟨k,a,b⟩:=cQ.get n (by simpa using h);exact⟨k,by simpa using a,b⟩
theorem cQ.length{X:Cx}{scope:Scope}{c:List (Str×Addr)}:∀{ys:List Str}{a:List Nat},cQ X scope c ys a->ys.length=a.length
 | [],[],_=>rfl
 | [],_::_,h=>by simp[cQ]at h
 |_::_,[],h=>by simp[cQ]at h
 |_::ys,_::a,⟨_,_,_,_,h⟩=>by simp[cQ.length h]
structure GE(X:Cx)(x:Str)(scope:Scope)(cl:List (Str×Addr))(caps:List Str)(idx:List Nat):Prop where
 clos:closureFor scope X.env=pure cl
 cell:∀y∈scope.names,y.2≠.cell
 kind:scope.kind=.function
 names:∀y∈scope.names,y.2=.local->scope.names.lookup y.1=some .local
 hx:scope.names.lookup x=some .local
 cls:AllP (λp:Str×Addr=>X.env.cells.lookup p.1=some p.2) cl
 has:((relabel scope X.env).names.all λp=>!(p.2==.cell||p.2==.free)||(cl.lookup p.1).isSome)=true
 cps:cQ X scope cl caps idx
 nd:(x::caps).Nodup
def cσ(idx:List Nat)(σ:St)(o:Option V):St:=o::idx.map λi=>(σ[i]?).join
def mq(X:Cx)(a:List Expr)(t:TT):Prop :=
  ∀(O9 : List (Addr × Obj))(s : Shared)(σ : St)(H : Hp)(Q : Bool -> Hp -> Prop), Inv X O9 σ H s -> t σ H Q ->
    wpAny (model X.prog X.w) X.A (forIn a true λc r=>if r=true then do let ok <- isTrue c X.env (eval c X.env);pure (ForInStep.yield ok)else pure (ForInStep.yield r)) (TP X O9 σ Q) X.xe s
def RW{X:Cx}:mq X [] (λ_ H Q=>Q true H):=λa s σ H Q I h=>wpAny_tests_nil ⟨H,I,h⟩
def RV{X:Cx}{c:Expr}{t:TT}(h:PT X c t):mq X [c] t:=λa s σ H Q I q=>wpAny_tests_one (h a s σ H Q I q)
section
variable{prog:Program}{w:World}{A:Around}{R:Result->Shared->Prop}{s:Shared}
theorem KJ{d target a:Expr}{e:List Expr}{scope:Scope}{f:Pos}{g acc:Value}{env:Env}(I:Nat->Shared->Prop)
    (turn:∀n s,I n s->wpAny (model prog w) A (pyNext g) (λr s₁=>match r with
      |none=>R (.ok .next) s₁
      |some v=>wpAny (model prog w) A (letOwnedTupleGo target g v) (λ_ s₁'=>wpAny (model prog w) A (assign target env v) (λ_ s₂ =>
          wpAny (model prog w) A (forIn e true λc r=>if r=true then do let ok <- isTrue c env (eval c env);pure (ForInStep.yield ok)else pure (ForInStep.yield r)) (λok s₃ =>
            if ok=true then wpAny (model prog w) A (eval d env) (λx s₄ =>
              wpAny (model prog w) A (call (.builtin "list.append") [acc,x]) (λ_ s₅=>∃m,m<n/\I m s₅) (λ_ _=>False) s₄) (λ_ _=>False) s₃
            else ∃m,m<n/\I m s₃) (λ_ _=>False) s₂) (λ_ _=>False) s₁') (λ_ _=>False) s₁) (λ_ _=>False) s)
    (n:Nat) (h:I n s) :
    codeAny (model prog w) A (.compLoop (.ListComp d [⟨target,a,e,0⟩] scope f) 0 g acc env) R s:=by
  refine codeAny_loop rfl I (λn s hI=>?_) n h;show wpAny _ A ((compTurn (.ListComp d [⟨target,a,e,0⟩] scope f) 0 g acc env).onRaise (λx=>do noteFrame x env;theTreesLotGoes x)) _ _ s;refine wpAny_noted ?_;rw[compTurn_list];refine B0 (wpAny_standAt (B0 (wpAny_mono (turn n s hI) (λr s₁ h₁=>?_) λ_ _ h'=>h'.elim)));cases r with
  |none=>exact B9 h₁
  |some v =>
    refine B0 (wpAny_mono h₁ (λ_ s₁' h₁'=>?_) λ_ _ h'=>h'.elim);refine B0 (wpAny_mono h₁' (λ_ s₂ h₂=>B0 (wpAny_mono h₂ (λok s₃ h₃=>?_) λ_ _ h'=>h'.elim)) λ_ _ h'=>h'.elim);cases ok with
    |false=>exact B9 ⟨rfl,h₃⟩
    |true=>exact B0 (B0 (wpAny_mono h₃ (λx s₄ h₄=>B0 (wpAny_mono h₄ (λ_ s₅ h₅=>B9 (B9 ⟨rfl,h₅⟩)) λ_ _ h'=>h'.elim)) λ_ _ h'=>h'.elim))
end
def oW(K:Aa)(e:TI)(tt:TT)(te:TE)(idx:List Nat):TE:=λσ H Q=>e σ H λJ d=>∀D,d D=none->K.lookup D=none->∃W:Nat->Nat->List V->Hp->Prop,(∃m,W 0 m [] (upd d D (.lst []))) /\
  ∀i m ys H, W i m ys H -> H D = some (.lst ys) /\ ((J.stop i H /\ Q (.ref D) H) ∨ (J.go i H /\ ∀x H', J.yld i H x H' -> tt (cσ idx σ (some x)) H' λb H2 =>
    if b=true then te (cσ idx σ (some x)) H2 λy H3=>H3 D=some (.lst ys)/\ys.length<sizeLine/\∃a,a<m/\W (i+1) a (ys++[y]) (upd H3 D (.lst (ys++[y])))
    else ∃a,a<m/\W (i+1) a ys H2))
section
variable{X:Cx}{elt iter:Expr}{x:Str}{px:Pos}{ifs:List Expr}{scope:Scope}{cl:List (Str×Addr)}{pos:Pos}{caps:List Str}{idx:List Nat}{wi:TI}{tt:TT}{te:TE}
theorem GQ{E:Ce}{use:Option (Value->Sem Unit)}{QQ:Ce}{iZ:Pos}(S:GE X x scope cl caps idx)(hc:X.calm=true)(hi:PI X (.Name x px) iter wi)
    (ht:∀C s₀ H₀ ex,mq (Xj X scope cl C (x::caps) s₀ H₀ ex) ifs tt) (he:∀C s₀ H₀ ex,PE (Xj X scope cl C (x::caps) s₀ H₀ ex) elt te)
    {O9:Cf} {s:Shared} {σ:St} {H:Hp} {Q:VK} (I:Inv X O9 σ H s) (h:oW X.K wi tt te idx σ H Q)
    (hE:X.xe=E)
    (hend:∀(D C:Addr)(t:Hp)(s':Shared)(m:Cg),Inv X O9 σ t s'->Q (.ref D) t->s'.heap.Ns C m->t C=none->C≠X.env.locals->X.s₀.heap.objs.size<=C->(∀x c,X.env.cells.lookup x=some c->c≠C)->(∀p∈X.pn++O9,p.1≠C) ->
      compPost (model X.prog X.w) X.A E use QQ (.ref D) C (.ok .next) s')
    (hs:∀x,foldedSetIterable iter X.env x=pure x:=by intro _;rfl) :
    wpAny (model X.prog X.w) X.A (comprehension (.ListComp elt [⟨.Name x px,iter,ifs,0⟩] scope pos) scope X.env iZ (newList []) false (eval iter X.env) use) QQ E s:=by
  subst hE;refine wpAny_comprehension_free (use:=use) rfl hs S.clos S.kind S.names (thn (hi O9 s σ H _ I h) λxv s1 h1=>thn h1 λbn F h2=>?_);obtain⟨it,G,tn,J,H2,rfl,I2,T,ag,P,hQ⟩:=h2;refine wpAny_newObj_type (wpAny_newFunctionEnv S.cell (by intro y hy;simp at hy) (λh₁ ab₁ ac₁=>?_) S.kind);dsimp only at ab₁ ac₁ ⊢;generalize Z:F.heap.push { cls:=.type "list", dict:=none,data:=.seq ([]:List Value).toArray }=g at ab₁ ac₁ ⊢;have hC:g.objs.size=F.heap.objs.size+1:=by rw[<- Z,Bq]
  have fV:∀b o,F.heap.get? b=some o->g.get? b=some o:=λb o e=>Z▸Ad _ e;have ba:H2 F.heap.objs.size=none:=I2.hok.fresh (Ae _);have f:Inv X O9 σ (upd H2 F.heap.objs.size (.lst [])) { F with heap:=g } :=
    I2.laid (t':=F.toks) fV (Ae _) ⟨A5 _,[],_,.nil,Z▸Ar _ rfl⟩
  have Fw:X.K.lookup F.heap.objs.size=none:=by
    cases q:X.K.lookup F.heap.objs.size with
    |none=>rfl
    |some o=>exact absurd (An (I2.kIn _ o q)) (Bt _)
  obtain⟨W,⟨m0,w0⟩,av⟩:=hQ _ ba Fw;generalize Fx:F.heap.objs.size=D at *;generalize lM:g.objs.size=C at *;have nT:∀b o,g.get? b=some o->b≠C:=λb o e=>by rw[<- lM];exact A6 (An e)
  have dJ:∀b o,g.get? b=some o->h₁.get? b=some o:=λb o e=>ac₁.extBut b o (nT b o e) (Ad _ e);have El:({ F with heap:=g }:Shared).heap.objs.size=C:=lM;have lC:∀y c,cl.lookup y=some c->X.env.cells.lookup y=some c:=λy c e=>S.cls.mem (PySem.mem_of_lookup e);have mR:∀b∈G,∃o,F.heap.get? b=some o:=λb a=>let ⟨o,e,_⟩:=T.obj _ _ ag b a;⟨o,e⟩;have tR:∀b∈G,b≠C:=λb a=>let ⟨o,e⟩:=mR b a;nT b o (fV b o e);have Hf:∀b∈G,b≠D:=λb a=>let ⟨o,e⟩:=mR b a;by rw[<- Fx];exact A6 (An e)
  have ay:∀b∈G,(upd H2 D (.lst [])) b=none:=λb a=>by rw[QN (Hf b a)];exact(P b a).1
  have lE:∀y c,X.env.cells.lookup y=some c->c≠C:=λy c e=>let ⟨v,o,ho,_⟩:=f.cell y c e;nT c o ho;have iQ:∀b∈G,b∉frs X.stack:=λb a z=>(A9.mp (I2.stkSub b z)).elim (P b a).2.1 (P b a).2.2.1
  let L:=Xj X scope cl C (x::caps) { F with heap:=g } (upd H2 D (.lst [])) G
  have be:L.Ok:=by
    refine⟨f.ok.mod,by show(relabel scope X.env).kind=_;exact S.kind,f.ok.glob,f.ok.blt,by show g.objs.size<=C;rw[lM];exact Ae _,λy z c h1 h2=>f.ok.inj y z c (lC y c h1) (lC z c h2),λy hy=>?_,
      λy c z=>(by cases z),f.ok.hd,f.ok.frames,.inl rfl,λb a=>⟨tR b a,λy c e=>(P b a).2.2.2.2.1 y c (lC y c e)⟩,f.bs,A8 f.ok.bsz f.sz,
      λb o e a=>?_,λb a=>iQ b a,f.stack,f.stkFree⟩
    . have bc:(relabel scope X.env).names.lookup y=some .cell∨(relabel scope X.env).names.lookup y=some .free:=hy
      have q:=S.has;rw[List.all_eq_true]at q;have:(cl.lookup y).isSome=true:=by
        rcases bc with z|z
        . have q:=q _ (PySem.mem_of_lookup z);simpa using q
        . have q:=q _ (PySem.mem_of_lookup z);simpa using q
      exact Option.isSome_iff_exists.mp this
    . have:=(P b a).2.2.2.1
      have e3:=(I2.ok.bs b o e).1;rcases this with z|z
      . exact I2.ok.noex b o e z
      . exact absurd (Au (An e3) z) (Bt _)
  have iw:=S.cps.length;have I4:Inv L [] (cσ idx σ none) (upd H2 D (.lst [])) { F with heap:=h₁,toks:=F.toks+([]:List (Str×Value)).length }:=by
    refine⟨be,rfl,f.bare,Un.kept dJ,⟨_,ab₁,λi y v e1 e2 e3=>?_⟩,λy c e=>?_,?_,λy c e=>f.freeC y c (lC y c e),λp U=>absurd (show p∈([]:Cf)from U) (by simp),f.hok.kept dJ,?_⟩
    . cases i with
      |zero=>exact absurd e2 (by simp[cσ])
      |succ j =>
        obtain⟨k,h1,h2,h3,⟨c,h4⟩,h5⟩:=S.cps.get (show caps[j]?=some y by have aw:(x::caps)[j+1]?=some y:=e1;simpa using aw);have R:(σ[k]?).join=some v:=by simpa [cσ,h1]using e2
        have pX:σ[k]?=some (some v):=by
          cases q:σ[k]? with
          |none=>rw[q]at R;cases R
          |some z=>rw[q]at R;exact congrArg some R
        obtain⟨mL,D7,hl⟩:=f.loc;have bh:Vis X.env.scope y:=by rcases h3 with z|z;exact .inr (.inl z);exact .inr (.inr z)
        obtain⟨u,r,l⟩:=hl k y v h2 pX bh;refine⟨u,r,.inr ⟨?_,c,h4,?_⟩⟩
        . have ax:(relabel scope X.env).names.lookup y=some .local∨(relabel scope X.env).names.lookup y=some .cell∨(relabel scope X.env).names.lookup y=some .free:=e3
          rcases ax with z|z|z
          . exact absurd z h5
          . exact .inl z
          . exact .inr z
        . rcases l with ⟨z,_⟩|⟨_,c',e,z⟩
          . rcases h3 with q|q <;> · rw[q]at z;cases z
          . rw[lC y c h4]at e;cases e
            obtain⟨o,ho,hd⟩:=z;exact⟨o,dJ _ _ ho,hd⟩
    . obtain⟨v,o,ho,hd⟩:=f.cell y c (lC y c e)
      exact⟨v,o,dJ _ _ ho,hd⟩
    . exact f.hok.fresh (by show g.objs.size<=C;rw[lM];exact Ae _)
    . simp[cσ,L,Xj,iw]
  have rT:tn 0 h₁:=T.keep _ _ _ ag λb _ o e=>dJ b o (fV b o e);have pR:∀{t:Hp}{O:Cf},(∀b∈G,t b=none)->(O=[])->∀b∈G,yx L O t b:=λhn e b a=>by subst e;exact⟨hn b a,tR b a,iQ b a,.inl a,λy c e=>(P b a).2.2.2.2.1 y c (lC y c e),λp U=>absurd (show p∈([]:Cf)from U) (by simp)⟩
  have Y:∀s₃:Shared,s₃={ F with heap:=h₁,toks:=F.toks+([]:List (Str×Value)).length } ->
      codeAny (model X.prog X.w) X.A (.compLoop (.ListComp elt [⟨.Name x px,iter,ifs,0⟩] scope pos) 0 (.ref it) (.ref D) (compEnvC scope cl C X.env)) (compPost (model X.prog X.w) X.A X.xe use QQ (.ref D) C) s₃:=by
    rintro s₃ rfl;refine KJ (λn s'=>∃i o t ys,Inv L [] (cσ idx σ o) t s'/\tn i s'.heap/\(∀b∈G,t b=none)/\W i n ys t) ?_ m0 ⟨0,none,_,[],I4,rT,ay,w0⟩;rintro n s5 ⟨i,o,H5,ys,I5,st5,fr5,w5⟩;obtain⟨hD,tw⟩:=av i n ys H5 w5;rcases tw with ⟨stop,q⟩|⟨go,step⟩
    . refine thn (T.done L rfl rfl rfl hc i [] s5 _ H5 _ I5 (pR fr5 rfl) st5 stop) λr s6 ⟨hr,I6⟩=>?_
      subst hr;obtain⟨m6,Fq,_⟩:=I6.loc;have I7:Inv X O9 σ H5 s6:=f.call' (s':=s6) (ch:=G) I6.os I6.O8 I6.hok I6.bare λb a=>⟨(P b a).2.2.2.1,(P b a).2.1,(P b a).2.2.2.2.1,(P b a).2.2.2.2.2⟩;refine hend D C H5 s6 m6 I7 q Fq I6.free ?_ ?_ lE λp U=>?_
      . rw[<- lM];exact Bx f.lt
      . rw[<- lM];exact f.sz
      . exact nT p.1 p.2 (f.pin p U).1
    . refine thn (T.item L rfl rfl rfl hc i [] s5 _ H5 _ I5 (pR fr5 rfl) st5 go) λr s6 ⟨u,hr,h6⟩=>?_
      subst hr;refine thn h6 λ_ s7 ⟨y,H7,I7,r7,y7,mD,G_⟩=>?_;have Dp:=I7.pinned (pR G_ rfl) (T.obj _ _ mD);refine thn (Gm (X:=L) (i:=0) S.nd rfl (.inl (lookup_relabel_local S.hx)) (.inr (lookup_relabel_local S.hx)) _ s7 _ H7 y u (λσ' t=>σ'=cσ idx σ (some y)/\t=H7) Dp r7 ⟨rfl,rfl⟩) λ_ s8 ⟨σ8,H8,I8,e8,Hl⟩=>?_;subst e8;subst Hl;have again:∀{H9:Hp}{s9:Shared}{ae:List V},Inv L ([]++VT G s7.heap) (cσ idx σ (some y)) H9 s9->(∃m',m'<n/\W (i+1) m' ae H9) ->
          ∃m,m<n/\∃i o t ys,Inv L [] (cσ idx σ o) t s9/\tn i s9.heap/\(∀b∈G,t b=none)/\W i m ys t:=λ{H9 s9 ae} I9 ⟨m',hm,w9⟩=>by
        refine⟨m',hm,i+1,some y,H9,ae,I9.unpinned,T.keep _ _ _ mD λb a o e=>(I9.pin (b,o) (Ah _ (Ah _ (qd a e)))).1,λb a=>?_,w9⟩;obtain⟨o,e,d⟩:=T.obj _ _ mD b a;exact(I9.pin (b,o) (Ah _ (Ah _ (qd a e)))).2.1
      refine thn (ht _ _ _ _ _ s8 _ H8 _ I8 (step y H8 y7)) λok s9 ⟨H9,I9,q9⟩=>?_;cases ok with
      |false=>exact again I9 (by rw[B7 Bf]at q9;exact q9)
      |true=>rw[B8 rfl]at q9 ⊢;refine thn (he _ _ _ _ _ s9 _ H9 _ I9 q9) λv Em aF=>?_;obtain⟨z,CN,DB,bg,pJ,af,m',hm,bm⟩:=aF;refine thn (Kh (X:=L) _ Em _ CN (.ref D) [z] (.ref D) [v] (λ_ t=>t=upd CN D (.lst (ys++[z]))) DB rfl (.cons bg .nil) ⟨D,ys,z,rfl,rfl,pJ,af,rfl⟩) λ_ DH ⟨_,RH,Dx,_,pY⟩=>?_;subst pY;exact again Dx ⟨m',hm,bm⟩
  exact codeAny_compStart_list (Y _ rfl) (T.self X.A 0 _ _ _ rT (Y _ rfl))
end
section
variable{X:Cx}{elt iter:Expr}{x:Str}{px:Pos}{ifs:List Expr}{scope:Scope}{cl:List (Str×Addr)}{pos:Pos}{caps:List Str}{idx:List Nat}{wi:TI}{tt:TT}{te:TE}
theorem Rf(S:GE X x scope cl caps idx)(r:X.calm=true)(hi:PI X (.Name x px) iter wi)
  (ht:∀C s₀ H₀ ex,mq (Xj X scope cl C (x::caps) s₀ H₀ ex) ifs tt) (he:∀C s₀ H₀ ex,PE (Xj X scope cl C (x::caps) s₀ H₀ ex) elt te)
  (a:∀x,foldedSetIterable iter X.env x=pure x:=by intro _;rfl):PE X (.ListComp elt [⟨.Name x px,iter,ifs,0⟩] scope pos) (oW X.K wi tt te idx):=by
 intro d s σ H Q I h;rw[eval_ListComp];refine GQ (use:=none) S r hi ht he I h rfl (λD C c s' m I' q t l f g i j=>?_) a;show ∃m,s'.heap.Ns C m/\∀h',Heap.SameBut C s'.heap h'->EP X d σ Q (.ref D) { s' with heap:=h' };exact⟨m,t,λh' a=>⟨.ref D,c,I'.turned (t':=s'.toks) (λb o n e=>a.extBut b o n e) l (Ne.symm (Ne.symm f)) (.inr g) i j,rfl,q⟩⟩
theorem Pz{i:Nat}{y:Str}{f d:Pos}(S:GE X x scope cl caps idx)(J:X.calm=true)(hi:PI X (.Name x px) iter wi)
  (ht:∀C s₀ H₀ ex,mq (Xj X scope cl C (x::caps) s₀ H₀ ex) ifs tt) (he:∀C s₀ H₀ ex,PE (Xj X scope cl C (x::caps) s₀ H₀ ex) elt te)
  (hN:X.N.Nodup) (hy:X.N[i]?=some y) (hx:Loc X.env.scope y) (hsw:swapsWith (.ListComp elt [⟨.Name x px,iter,ifs,0⟩] scope pos) (some (.Name y f)) d.line X.env=pure true)
  (hf:X.fn y=true∨X.env.scope.names.lookup y=some .local:=by first|exact .inl rfl|exact .inr rfl|assumption)
  (hs:∀x,foldedSetIterable iter X.env x=pure x:=by intro _;rfl):PS X (.Assign [.Name y f] (.ListComp elt [⟨.Name x px,iter,ifs,0⟩] scope pos) d) (oA (oW X.K wi tt te idx) (kD i)):=by
 intro n s σ H D I h;rw[exec_Assign_Name_used _ _ _ _ hsw];refine B0 (wpAny_standAt (B0 ?_));show wpAny _ X.A (do let _ <- comprehension (.ListComp elt [⟨.Name x px,iter,ifs,0⟩] scope pos) scope X.env _ (newList []) false (eval iter X.env) (some (assign (.Name y f) X.env))) _ _ s;refine B0 (wpAny_mono (GQ (use:=some (assign (.Name y f) X.env)) (QQ:=λ_ s'=>SP X n D .next s') S J hi ht he I h rfl (λl C u s' m I' q L F r z t E=>?_) hs) (λ_ s' O=>B9 (B9 O)) λ_ _ e=>e);show wpAny _ X.A (assign (.Name y f) X.env (.ref l)) (λ_ c=>∃m,c.heap.Ns C m/\∀h',Heap.SameBut C c.heap h'->SP X n D .next { c with heap:=h' }) _ s';refine wpAny_assign_Name (Km I' hN hy hx (v:=.ref l) rfl (λc DC ⟨a,hs,g⟩=>?_) hf);refine⟨m,L.sameBut hs ?_,λh' j=>⟨_,u,DC.turned (t':=c.toks) (λb o G e=>j.extBut b o G e) F r (.inr z) t E,q⟩⟩;rcases g with rfl|g
 ·exact r
 ·exact Ne.symm (t _ _ g)
end
end L2
namespace D
open PySem PySem.Spec PyProof.Rows L2
section
variable{K:Aa}{Z:Ent}{env:En}{σ:St}{ρ ρ':Cj}{B B':Ci}{U hp':Hs}{H H':Hp}
theorem bN.set{i:Nat}{d:DV}{v:V}(S:bN K Z env σ ρ B U H)(r:aA K ρ B H d v):bN K Z (env.set i (.val d)) (σ.set i (some v)) ρ B U H where
 gr:=S.gr
 zb:=S.zb
 wo:=S.wo
 slot:=λj e h=>by
  by_cases c:j=i
  ·subst c;have f:j<env.length:=by have:=(Ac.mp h).1;simpa using this
   rw[Aq f]at h;cases h;exact⟨v,Aq (by rw[S.len];exact f),r⟩
  ·rw[Aj (Ne.symm c)]at h ⊢;exact S.slot j e h
 iB:=λj ds h=>by
  by_cases c:j=i
  ·subst c;have f:j<env.length:=by have:=(Ac.mp h).1;simpa using this
   rw[Aq f]at h;cases h
  ·rw[Aj (Ne.symm c)]at h ⊢;exact S.iB j ds h
 iy:=λj k ds q a g l m n=>by
  have o:∀{j:Nat}{ds:List DV},(env.set i (.val d))[j]?=some (.acc ds)->j≠i:=λ{j ds} h e=>by
   subst e;have f:j<env.length:=by have:=(Ac.mp h).1;simpa using this
   rw[Aq f]at h;cases h
  have c:=o g;have t:=o l;rw[Aj (Ne.symm c)]at g m;rw[Aj (Ne.symm t)]at l n;exact S.iy j k ds q a g l m n
 len:=by simp[S.len]
end
section
variable{X:Cx}{e a b c:Expr}{f fa fb:aB}{ca cb:bF}{pos:Pos}{st:Stmt}{sts rest:List Stmt}{s s':aD}
theorem iC.after{K:Aa}{Z:Ent}{ρ ρ1:Cj}{B B1:Ci}{H H1:Hp}{fl:Fl}{d:En}{h:Hs}{D:Kq}(g:Gs K ρ B H ρ1 B1 H1)(k:iC K Z ρ B H fl d h D):iC K Z ρ1 B1 H1 fl d h D :=
 λσ' ρ' B' H' g' S=>k σ' ρ' B' H' (g.trans g') S
def Zn:aD:=λenv=>pure (.nx,env)
def Qv(f g:aD):aD:=λenv=>do
 let r <- f env
 match r.1 with
 |.nx=>g r.2
 |_=>pure r
def aN(c:bF)(f g:aD):aD:=λenv=>do if <- c env then f env else g env
def Zc(f:aB):aD:=λenv=>do let d <- f env;pure (.rt d,env)
def VX:aD:=λenv=>pure (.rt .non,env)
def Q5(f:aB):aD:=λenv=>do let _ <- f env;pure (.nx,env)
def Qx(i:Nat)(f:aB):aD:=λenv=>do let d <- f env;pure (.nx,env.set i (.val d))
theorem QO:eN X [] Zn:=pss_nil.imp λD σ H g=>by obtain⟨Z,env,ρ,B,U,fl,d,i,S,e,k⟩:=g;obtain⟨h,rfl⟩:=Qm e;cases h;exact k σ ρ B H Gs.refl S
theorem WQ{K:Aa}{D:Kq}{σ:St}{H:Hp}(h:lG K (Qv s s') D σ H):t_ (lG K s) (lG K s') D σ H:=by
 obtain⟨Z,env,ρ,B,U,fl,i,n,S,e,k⟩:=h;obtain⟨⟨o,aL⟩,hp1,q,m⟩:=Qg e;refine⟨Z,env,ρ,B,U,o,aL,hp1,S,q,λσ' ρ' j H' g l=>?_⟩;cases o with
 |nx=>exact⟨Z,aL,ρ',j,hp1,fl,i,n,l,m,k.after g⟩
 |rt d=>obtain⟨z,rfl⟩:=Qm m;cases z;exact k σ' ρ' j H' g l
 |bk=>obtain⟨z,rfl⟩:=Qm m;cases z;exact k σ' ρ' j H' g l
 |ct=>obtain⟨z,rfl⟩:=Qm m;cases z;exact k σ' ρ' j H' g l
def Qh(d:DS X st s)(g:eN X rest s'):eN X (st::rest) (Qv s s'):=(W4 d g).imp λ_ _ _ h=>WQ h
def Qo(d:DS X st s):eN X [st] s:=RZ d
theorem Zm{x y:List Stmt}(q:DT X c ca)(n:eN X x s)(o:eN X y s'):DS X (.If c x y pos) (aN ca s s') :=
 (Im q n o).imp λD σ H l=>by
  obtain⟨Z,env,ρ,B,U,fl,d,g,S,e,k⟩:=l;obtain⟨x,hp1,m,j⟩:=Qg e;refine dI.run S m λρ1 h H1 g1 i=>?_;cases x with
  |true=>exact K7 ⟨Z,env,ρ1,h,hp1,fl,d,g,i,j,k.after (g1.gs S.wo.rb)⟩
  |false=>exact K6 ⟨Z,env,ρ1,h,hp1,fl,d,g,i,j,k.after (g1.gs S.wo.rb)⟩
theorem QK(h:DE X e f):DS X (.Return (some e) pos) (Zc f) :=
 (Mp h).imp λD σ H i=>by obtain⟨Z,env,ρ,B,U,fl,g,m,S,e,k⟩:=i;obtain⟨d,hp1,j,l⟩:=Qg e;obtain⟨z,rfl⟩:=Qm l;cases z;exact tD.run S j λv ρ1 B1 H1 g1 S1 n=>k σ ρ1 B1 H1 (g1.gs S.wo.rb) S1 v n
theorem QT(h:DE X e f)(n:swapsWith e none pos.line X.env=pure false:=by rfl):DS X (.Expr e pos) (Q5 f) :=
 (Py h n).imp λD σ H i=>by obtain⟨Z,env,ρ,B,U,fl,g,m,S,e,k⟩:=i;obtain⟨d,hp1,j,l⟩:=Qg e;obtain⟨z,rfl⟩:=Qm l;cases z;exact tD.run S j λv ρ1 B1 H1 g1 S1 o=>k σ ρ1 B1 H1 (g1.gs S.wo.rb) S1
theorem vw{K:Aa}{D:Kq}{σ:St}{H:Hp}{i:Nat}{t:TE}(n:∀σ H Q,tD K f σ H Q->t σ H Q)(h:lG K (Qx i f) D σ H):oA t (kD i) D σ H:=by obtain⟨Z,env,ρ,B,U,fl,g,m,S,e,k⟩:=h;obtain⟨d,hp1,j,l⟩:=Qg e;obtain⟨z,rfl⟩:=Qm l;cases z;exact n _ _ _ (tD.run S j λv ρ1 B1 H1 g1 S1 o=>k _ ρ1 B1 H1 (g1.gs S.wo.rb) (S1.set o))
theorem Qu(i:Nat){x:Str}{d:Pos}(g:X.N.Nodup)(j:DE X e f)(hi:X.N[i]?=some x:=by rfl)(hx:Loc X.env.scope x:=by first|exact Or.inl rfl|exact Or.inr rfl)(l:swapsWith e (some (.Name x d)) pos.line X.env=pure false:=by rfl)
  (hf:X.fn x=true∨X.env.scope.names.lookup x=some .local:=by first|exact .inl rfl|exact .inr rfl|assumption):DS X (.Assign [.Name x d] e pos) (Qx i f) :=
 (Ml g hi hx j l hf).imp λ_ _ _ h=>vw (λ_ _ _ q=>q) h
abbrev dY:=DV->En->M En
def iW(K:Aa)(g:dY):TG:=λv σ H Q=>∃Z env ρ B U d h i,bN K Z env σ ρ B U H/\aA K ρ B H d v/\g d env U=some (h,i)/\∀σ' ρ' B' H',Gs K ρ B H ρ' B' H'->bN K Z h σ' ρ' B' i H'->Q σ' H'
def gN(i:Nat):dY:=λd env=>pure (env.set i (.val d))
theorem Zh(i:Nat){x:Str}(l:X.N.Nodup)(hi:X.N[i]?=some x:=by rfl)(hx:Loc X.env.scope x:=by first|exact Or.inl rfl|exact Or.inr rfl)(hf:X.fn x=true∨X.env.scope.names.lookup x=some .local:=by first|exact .inl rfl|exact .inr rfl|assumption):PG X (.Name x pos) (iW X.K (gN i)):=by intro j s σ H v u Q I r h;refine Gm l hi hx hf j s σ H v u Q I r ?_;obtain⟨Z,env,ρ,B,U,d,g,m,S,rd,e,k⟩:=h;obtain⟨rfl,rfl⟩:=Qm e;exact k _ ρ B H Gs.refl (S.set rd)
def lR(K:Aa)(ρ:Cj)(B:Ci)(H:Hp)(ds:List DV)(J:It):Prop :=
 ∀ρ1 h g,Gs K ρ B H ρ1 h g->(∀b∈ρ1,h b)->(∀a,h a->g a≠none)->(∀(i:Nat)(d:DV),ds[i]?=some d->J.go i g/\∀x j,J.yld i g x j->aA K ρ1 h j d x/\(j=g∨∃p o,g p=none/\j=upd g p o))/\J.stop ds.length g
abbrev fD:=En->M (List DV)
def Ed(K:Aa)(f:fD):TI:=λσ H R=>∃Z env ρ B U ds d,bN K Z env σ ρ B U H/\f env U=some (ds,d)/\∀J ρ' B' H',Gr K ρ B H ρ' B' H'->aQ K ρ' B' d H'->lR K ρ' B' H' ds J->R J H'
def DI(X:Cx)(g d:Expr)(f:fD):Prop:=PI X g d (Ed X.K f)
def gt:DV->M (List DV)
 |.tup ds=>pure ds
 |_=>failure
def iK(f:aB):fD:=λenv=>do gt (<- f env)
theorem Xw{d:DV}{ds:List DV}{U g:Hs}(h:gt d U=some (ds,g)):d=.tup ds/\U=g:=by
 cases d with
 |tup xs=>obtain⟨rfl,rfl⟩:=Qm h;exact⟨rfl,rfl⟩
 |_=>cases h
theorem Tp{K:Aa}{ρ:Cj}{B:Ci}{H:Hp}{ds:List DV}{a:Addr}{xs:List V}(m:¬ B a)(o:SqL K H a xs)(n:aq K ρ B H ds xs):lR K ρ B H ds (Itl K a):=λρ1 B1 H1 g _ _=>by have h:=g.rW m o;have j:=aq.gs g _ _ n;refine⟨λi d e=>?_,xs,h,by rw[j.length];exact Ae _⟩;obtain⟨x,hx,r⟩:=j.get e;refine⟨⟨xs,x,h,hx⟩,λy H' ⟨l,q⟩=>?_⟩;subst l;have:=q xs h;rw[hx]at this;cases this;exact⟨r,.inl rfl⟩
theorem O7{K:Aa}{ρ:Cj}{B:Ci}{H:Hp}{ds:List DV}{a:Addr}{xs:List V}(m:¬ B a)(o:SqT K H a xs)(n:aq K ρ B H ds xs):lR K ρ B H ds (Itt K a):=λρ1 B1 H1 g _ _=>by have h:=g.nM m o;have j:=aq.gs g _ _ n;refine⟨λi d e=>?_,xs,h,by rw[j.length];exact Ae _⟩;obtain⟨x,hx,r⟩:=j.get e;refine⟨⟨xs,x,h,hx⟩,λy H' ⟨l,q⟩=>?_⟩;subst l;have:=q xs h;rw[hx]at this;cases this;exact⟨r,.inl rfl⟩
def QZ(d:Int)(n:Nat):List DV:=(List.range n).map λ(i:Nat)=>.int (d+(i:Int))
theorem G7{K:Aa}{ρ:Cj}{B:Ci}{H:Hp}{h:Int}{n:Nat}:lR K ρ B H (QZ h n) (Itr h n):=λρ1 B1 H1 g _ _=>by
 refine⟨λi d e=>?_,by show n<=_;simp[QZ]⟩;have hi:i<n:=by have:=(Ac.mp e).1;simpa [QZ]using this
 refine⟨hi,λy H' ⟨j,q⟩=>?_⟩;subst j q;have:d=.int (h+i):=by simp[QZ,hi]at e;exact e.symm
 subst this;exact⟨ZZ,.inl rfl⟩
variable{tg iter:Expr}
def _root_.L2.PI.imp{g d:TI}(h:PI X tg iter g)(i:∀σ H R,d σ H R->g σ H R):PI X tg iter d:=λj s σ H R I q=>h j s σ H R I (i σ H R q)
theorem uv(h:DE X iter f):DI X tg iter (iK f):=(Mt h).imp λσ H R i=>by obtain⟨Z,env,ρ,B,U,ds,m,S,e,k⟩:=i;obtain⟨d,hp1,j,l⟩:=Qg e;obtain⟨rfl,rfl⟩:=Xw l;refine tD.run S j λv ρ1 B1 H1 g1 S1 o=>?_;obtain⟨a,xs,rfl,n,g,q⟩:=o.tupI;exact⟨a,rfl,⟨xs,g⟩,k _ ρ1 B1 H1 g1 S1.wo (O7 n g q)⟩
def XV(j:Int):Bool:=decide (-(2 ^ 62)<=j/\j<2 ^ 62)
def lO:List DV->M (List DV)
 | [.int j]=>do QG (XV j);pure (QZ 0 j.toNat)
 |_=>failure
def mX:List DV->M (List DV)
 | [.int i,.int j]=>do QG (XV i&&XV j);pure (QZ i (j-i).toNat)
 |_=>failure
def Yp(f:bM):fD:=λenv=>do lO (<- f env)
def uF(f:bM):fD:=λenv=>do mX (<- f env)
theorem MA{ds g:List DV}{U d:Hs}(h:lO ds U=some (g,d)):∃j:Int,ds=[.int j]/\XV j=true/\g=QZ 0 j.toNat/\U=d:=by
 unfold lO at h;split at h
 ·obtain⟨u,hp1,i,l⟩:=Qg h;obtain⟨m,rfl⟩:=QE i;obtain⟨rfl,rfl⟩:=Qm l;exact⟨_,rfl,m,rfl,rfl⟩
 ·cases h
theorem Mo{ds g:List DV}{U d:Hs}(h:mX ds U=some (g,d)):∃i j:Int,ds=[.int i,.int j]/\XV i=true/\XV j=true/\g=QZ i (j-i).toNat/\U=d:=by
 unfold mX at h;split at h
 ·obtain⟨u,hp1,m,n⟩:=Qg h;obtain⟨l,rfl⟩:=QE m;obtain⟨rfl,rfl⟩:=Qm n;rw[A0]at l;exact⟨_,_,rfl,l.1,l.2,rfl,rfl⟩
 ·cases h
theorem aq.ints1{K:Aa}{ρ:Cj}{B:Ci}{H:Hp}{j:Int}{vs:List V}(h:aq K ρ B H [.int j] vs):vs=[.int j]:=by unfold aq at h;obtain⟨x,r,rfl,g,d⟩:=h;unfold aq at d;rw[g.aW,d]
theorem aq.ints2{K:Aa}{ρ:Cj}{B:Ci}{H:Hp}{i j:Int}{vs:List V}(h:aq K ρ B H [.int i,.int j] vs):vs=[.int i,.int j]:=by unfold aq at h;obtain⟨x,r,rfl,d,g⟩:=h;rw[d.aW,g.ints1]
theorem Zw{x:Expr}{p:Pos}{f:bM}(o:Gl X "range")(q:X.mg "range" = none)(n:DA X [x] f)(t:starEach [x] X.env=[(false,eval x X.env)]:=by rfl):DI X tg (.Call (.Name "range" p) [x] [] pos) (Yp f) :=
 (BT o q n t).imp λσ H R h=>by obtain⟨Z,env,ρ,B,U,ds,r,S,e,k⟩:=h;obtain⟨d,hp1,i,l⟩:=Qg e;obtain⟨j,rfl,m,rfl,rfl⟩:=MA l;refine dR.run S i λvs ρ1 B1 H1 g1 S1 u=>?_;have g:=Cb m;exact⟨j,u.ints1,g.1,g.2,k _ ρ1 B1 H1 g1 S1.wo G7⟩
theorem zp{x y:Expr}{p:Pos}{f:bM}(u:Gl X "range")(v:X.mg "range" = none)(t:DA X [x,y] f)(C:starEach [x,y] X.env=[(false,eval x X.env),(false,eval y X.env)]:=by rfl)(l:starEach [y] X.env=[(false,eval y X.env)]:=by rfl) :
  DI X tg (.Call (.Name "range" p) [x,y] [] pos) (uF f) :=
 (BS u v t C l).imp λσ H R m=>by obtain⟨Z,env,ρ,B,U,ds,z,S,e,k⟩:=m;obtain⟨d,hp1,n,o⟩:=Qg e;obtain⟨i,j,rfl,q,r,rfl,rfl⟩:=Mo o;refine dR.run S n λvs ρ1 B1 H1 g1 S1 E=>?_;have g:=Cb q;have h:=Cb r;exact⟨i,j,E.ints2,⟨g.1,g.2,h.1,h.2⟩,k _ ρ1 B1 H1 g1 S1.wo G7⟩
def xG(b:DV->aD):List DV->aD
  | [],env=>pure (.nx,env)
  |d::ds,env=>do
    let r <- b d env
    match r.1 with
    |.nx=>xG b ds r.2
    |.ct=>xG b ds r.2
    |.bk=>pure (.nx,r.2)
    |.rt x=>pure (.rt x,r.2)
def oG(f:fD)(g:dY)(body:aD):aD:=λenv=>do let ds <- f env;xG (λd env=>do let env' <- g d env;body env') ds env
def GC{K:Aa}{ρ:Cj}{B:Ci}{H:Hp}{p:Addr}{o:HO}(rb:∀a∈ρ,B a)(h:H p=none):Gs K ρ B H ρ B (upd H p o):=(Gr.laid h).gs rb
theorem NZ{body:List Stmt}{R:fD}{g:dY}{C:aD}(U:PassesOwn (model X.prog X.w) X.A X.env X.xe)(hc:X.calm=true)(hi:DI X tg iter R)(hg:PG X tg (iW X.K g))(hb:eN X body C)
  (hs:∀x,foldedSetIterable iter X.env x=pure x:=by intro _;rfl):DS X (.For tg iter body [] pos) (oG R g C) :=
 (w6 U hc hi hg hb hs).imp λD σ H aF=>by
  obtain⟨Z,env,ρ,B,U,fl,h,l,S,e,k⟩:=aF;obtain⟨ds,hp1,e1,e2⟩:=Qg e;refine⟨Z,env,ρ,B,U,ds,hp1,S,e1,λJ ρ1 E H1 g1 W1 it=>?_⟩;have k1:=k.after (g1.gs S.wo.rb);refine⟨λi m σ H=>m=ds.length-i/\i<=ds.length/\∃env ρ B U,bN X.K Z env σ ρ B U H/\Gs X.K ρ1 E H1 ρ B H/\xG (λd env=>do let h <- g d env;C h) (ds.drop i) env U=some ((fl,h),l),
   ⟨ds.length,rfl,A5 _,env,ρ1,E,hp1,S.grow g1 W1,Gs.refl,by simpa using e2⟩,?_⟩
  rintro i m σ H ⟨rfl,hi,fC,ρ2,B2,hp2,S2,g2,e3⟩;obtain⟨Y,L⟩:=it ρ2 B2 H g2 S2.wo.rb S2.wo.bt;by_cases j:i<ds.length
  ·have hd:ds[i]?=some ds[i]:=Ab j;obtain⟨go,yl⟩:=Y i _ hd;rw[A7 j]at e3;obtain⟨⟨P,G⟩,F,e4,v⟩:=Qg e3;obtain⟨Q,n,e6,e7⟩:=Qg e4;refine .inr ⟨go,λσ' H'=>∃env ρ B U,bN X.K Z env σ' ρ B U H'/\Gs X.K ρ1 E H1 ρ B H'/\xG (λd env=>do let h <- g d env;C h) (ds.drop (i+1)) env U=some ((fl,h),l),
    λσ' H' q=>⟨ds.length-(i+1),⋯,rfl,j,q⟩,λx H' y=>?_⟩
   obtain⟨rx,hx⟩:=yl x H' y;have O:bN X.K Z fC σ ρ2 B2 hp2 H'/\Gs X.K ρ2 B2 H ρ2 B2 H':=by
    rcases hx with rfl|⟨p,o,I,rfl⟩
    ·exact⟨S2,Gs.refl⟩
    ·exact⟨S2.grow (Gr.laid I) (S2.wo.laid I),GC S2.wo.rb I⟩
   refine⟨Z,fC,ρ2,B2,hp2,ds[i],Q,n,O.1,rx,e6,λσ5 ρ5 T H5 g5 S5=>⟨Z,Q,ρ5,T,n,P,G,F,S5,e7,λσ6 ρ6 r H6 g6 u=>?_⟩⟩;have t:=g2.trans (O.2.trans (g5.trans g6));cases P with
   |nx=>exact⟨G,ρ6,r,F,u,t,v⟩
   |ct=>exact⟨G,ρ6,r,F,u,t,v⟩
   |bk=>obtain⟨z,rfl⟩:=Qm v;cases z;exact k1 σ6 ρ6 r H6 t u
   |rt d=>obtain⟨z,rfl⟩:=Qm v;cases z;exact k1 σ6 ρ6 r H6 t u
  ·have e:i=ds.length:=⋯
   subst e;rw[List.drop_length]at e3;obtain⟨z,rfl⟩:=Qm e3;cases z;exact .inl ⟨L,k1 σ ρ2 B2 H g2 S2⟩
def Z7(c:bF)(b:aD):Nat->aD
  |0,_=>failure
  |n+1,env=>do
    if <- c env then
      let r <- b env
      match r.1 with
      |.nx=>Z7 c b n r.2
      |.ct=>Z7 c b n r.2
      |.bk=>pure (.nx,r.2)
      |.rt x=>pure (.rt x,r.2)
    else pure (.nx,env)
theorem qK(n:Nat){body:List Stmt}{t:aD}(U:PassesOwn (model X.prog X.w) X.A X.env X.xe)(Q:DT X c ca)(P:eN X body t):DS X (.While c body [] pos) (Z7 ca t n) :=
  (W5 U Q P).imp λD σ H I=>by
    obtain⟨Z,env,ρ,B,U,fl,g,i,S,e,k⟩:=I;refine⟨λm σ H1=>∃aL ρ1 h hp1,bN X.K Z aL σ ρ1 h hp1 H1/\Gs X.K ρ B H ρ1 h H1/\Z7 ca t m aL hp1=some ((fl,g),i),⟨n,env,ρ,B,U,S,Gs.refl,e⟩,?_⟩;rintro m σ H1 ⟨aL,ρ1,h,hp1,S1,g1,e1⟩;cases m with
    |zero=>cases e1
    |succ m =>
      obtain⟨x,hp2,J,F⟩:=Qg e1;refine dI.run S1 J λρ2 y H2 g2 E=>?_;have C:=g1.trans (g2.gs S1.wo.rb);cases x with
      |false=>obtain⟨z,rfl⟩:=Qm F;cases z;exact K6 (k σ ρ2 y H2 C E)
      |true =>
        obtain⟨⟨G,v⟩,u,L,r⟩:=Qg F;refine K7 ⟨λσ' H'=>∃aL ρ1 h hp1,bN X.K Z aL σ' ρ1 h hp1 H'/\Gs X.K ρ B H ρ1 h H'/\Z7 ca t m aL hp1=some ((fl,g),i),λσ' H' q=>⟨m,Bv m,q⟩,?_⟩;refine⟨Z,aL,ρ2,y,hp2,G,v,u,E,L,λσ6 ρ6 j H6 O o=>?_⟩;have l:=C.trans O;cases G with
        |nx=>exact⟨v,ρ6,j,u,o,l,r⟩
        |ct=>exact⟨v,ρ6,j,u,o,l,r⟩
        |bk=>obtain⟨z,rfl⟩:=Qm r;cases z;exact k σ6 ρ6 j H6 l o
        |rt d=>obtain⟨z,rfl⟩:=Qm r;cases z;exact k σ6 ρ6 j H6 l o
end
section
variable{K:Aa}{Z:Ent}{env:En}{σ:St}{ρ ρ':Cj}{B B':Ci}{U hp':Hs}{H H':Hp}
def jB(B:Ci)(p:Addr):Addr->Prop:=λa=>B a∨a=p
theorem Gr.banned{p:Addr}{o:HO}(h:H p=none)(kf:K.lookup p=none):Gr K ρ B H ρ (jB B p) (upd H p o) where
 pre:=Bp
 ban:=λ_ h=>.inl h
 new:=λa z=>z.elim .inl λe=>.inr (e▸⟨h,kf⟩)
 cu:=λ_ h=>.inl h
 keep:=λa u _ q=>by rw[QN (ZD q h)];exact q
 trk:=(Gr.laid (K:=K) (ρ:=ρ) (B:=B) h).trk
theorem aQ.banned{p:Addr}{o:HO}(W:aQ K ρ B U H)(h:H p=none)(kf:K.lookup p=none):aQ K ρ (jB B p) U (upd H p o) where
 len:=W.len
 nd:=W.nd
 obj:=λi a u e q=>bx.gs ((Gr.banned h kf).gs W.rb) (QN (λz=>W.bt a (W.rb a (As e)) (z▸h))) (W.obj i a u e q)
 rb:=λa h=>.inl (W.rb a h)
 bt:=λa z q=>by
  have c:=(Gr.laid (K:=K) (ρ:=ρ) (B:=B) h).trk a q;rcases z with z|rfl
  ·exact W.bt a z c
  ·rw[Q3]at q;cases q
 bk:=λa z=>z.elim (W.bk a) λe=>e▸kf
end
section
variable{X:Cx}{e a b c:Expr}{f fa fb:aB}{ca cb:bF}{pos:Pos}{st:Stmt}{sts rest:List Stmt}{s s':aD}
def gf(i:Nat):aD:=λenv=>pure (.nx,env.set i (.acc []))
def GU(i:Nat)(env:En):En:=match env[i]? with
 |some (.acc ds)=>env.set i (.val (.lst ds))
 |_=>env
def gi(i:Nat)(f:aD):aD:=λenv=>f (GU i env)
def gh(i:Nat)(f:aB):aD:=λenv=>do
 let d <- f env
 match env[i]? with
 |some (.acc ds)=>if ds.length<lim then pure (.nx,env.set i (.acc (ds++[d])))else failure
 |_=>failure
def ka(g:DV->M Bool)(f:DV->M DV):List DV->M (List DV)
  | []=>pure []
  |d::ds=>do
    if <- g d then
      let y <- f d
      let ys <- ka g f ds
      pure (y::ys)
    else ka g f ds
def m7:Sl->Sl
 |.val d=>.val d
 |_=>.un
def cE(idx:List Nat)(env:En)(d:DV):En:=.val d::idx.map λi=>m7 ((env[i]?).getD .un)
def qw:bF:=λ_=>pure true
variable{elt iter:Expr}{x:Str}{px:Pos}{ifs:List Expr}{scope:Scope}{cl:List (Str×Addr)}{caps:List Str}{idx:List Nat}{src:fD}{te:bF}
theorem cσ_ok{K:Aa}{Z:Ent}{env:En}{σ:St}{ρ ρ1:Cj}{B l:Ci}{U hp1:Hs}{H m:Hp}{d:DV}{v:V}(S:bN K Z env σ ρ B U H)(g:Gs K ρ B H ρ1 l m)(W:aQ K ρ1 l hp1 m)(r:aA K ρ1 l m d v) :
    bN K ⟨ρ1,l,m⟩ (cE idx env d) (cσ idx σ (some v)) ρ1 l hp1 m:=by
  refine⟨Gr.refl,W.bt,W,λi e h=>?_,λi n h=>?_,λi j n t a h=>?_,by simp[cE,cσ]⟩
  . cases i with
    |zero =>
      have:d=e:=by simpa [cE]using h
      subst this;exact⟨v,by simp[cσ],r⟩
    |succ i =>
      cases q:idx[i]? with
      |none=>simp[cE,q]at h
      |some k =>
        have h':m7 ((env[k]?).getD .un)=.val e:=by simpa [cE,q]using h
        cases z:env[k]? with
        |none=>rw[z]at h';cases h'
        |some E =>
          rw[z]at h';cases E with
          |un=>cases h'
          |acc _=>cases h'
          |val o =>
            have:o=e:=by simpa [m7]using h'
            subst this;obtain⟨u,y,C⟩:=S.slot k o z;exact⟨u,by simp[cσ,q,y],aA.gs g _ _ C⟩
  . exfalso
    cases i with
    |zero=>simp[cE]at h
    |succ i =>
      cases q:idx[i]? with
      |none=>simp[cE,q]at h
      |some k =>
        have h':m7 ((env[k]?).getD .un)=.acc n:=by simpa [cE,q]using h
        cases z:(env[k]?).getD .un with
        |un=>rw[z]at h';cases h'
        |acc _=>rw[z]at h';cases h'
        |val _=>rw[z]at h';cases h'
  . exfalso
    cases i with
    |zero=>simp[cE]at h
    |succ i =>
      cases q:idx[i]? with
      |none=>simp[cE,q]at h
      |some k =>
        have h':m7 ((env[k]?).getD .un)=.acc n:=by simpa [cE,q]using h
        cases z:(env[k]?).getD .un with
        |un=>rw[z]at h';cases h'
        |acc _=>rw[z]at h';cases h'
        |val _=>rw[z]at h';cases h'
def oY(X:Cx)(ifs:List Expr)(t:bF):Prop:=mq X ifs (dI X.K t)
theorem JM:oY X [] qw:=λg s σ H Q I h=>by obtain⟨Z,env,ρ,B,U,d,i,S,e,k⟩:=h;obtain⟨rfl,rfl⟩:=Qm e;exact RW g s σ H Q I (k ρ B H Gr.refl S.wo)
def km{c:Expr}(h:DT X c te):oY X [c] te:=RV h
def Zv(n:Nat)(body:aD):List DV->M DV:=λds=>do
 let r <- body (ds.map .val++List.replicate (n-ds.length) .un)
 match r.1 with
 |.nx=>pure .non
 |.rt d=>pure d
 |_=>failure
def fG(K:Aa)(n:Nat)(F:Ck):Sp:=λvs H Q _=>vs.length=n/\∃ρ B U ds d g,aQ K ρ B U H/\aq K ρ B H ds vs/\F ds U=some (d,g)/\eY K ρ B H d g Q
structure Has(P:Program)(w:World)(K:Aa)(mg:Cg)(O8:Heap)(x:Str)(k n:Nat)(F:Ck):Prop where
 ex:∃(g:Addr)(fd:FuncData)(ps:List Str),qC P w K mg O8 CX0 k g fd ps (fG K n F)/\Binds K fd ps []/\PySem.W.keepIn K (.ref g)=true/\mg x=some (.ref g)
theorem xV{K:Aa}{ρ:Cj}{B:Ci}{U:Hs}{H:Hp}{ds:List DV}{vs:List V}{N:List Str}(W:aQ K ρ B U H)(r:aq K ρ B H ds vs) :
  bN K ⟨ρ,B,H⟩ (ds.map .val++List.replicate (N.length-ds.length) .un) (L2.zk N vs) ρ B U H:=by
 have o:=r.length;have at_:∀{i:Nat}{z:Sl},(ds.map Sl.val++List.replicate (N.length-ds.length) Sl.un)[i]?=some z->z=.un∨∃d,ds[i]?=some d/\z=.val d:=λ{i z} h=>by
  by_cases hi:i<ds.length
  ·rw[Af (by simpa using hi),Be,Ab hi]at h;cases h;exact .inr ⟨_,Ab hi,rfl⟩
  ·rw[Ao (by simpa using hi),List.getElem?_replicate]at h;split at h
   ·cases h;exact .inl rfl
   ·cases h
 refine⟨Gr.refl,W.bt,W,λi d h=>?_,λi l h=>?_,λi j l m a h=>?_,by unfold L2.zk;simp;lia⟩
 ·rcases at_ h with z|⟨d',q,z⟩
  ·cases z
  ·cases z;obtain⟨v,g,n⟩:=r.get q;refine⟨v,?_,n⟩;unfold L2.zk;have hi:i<vs.length:=(Ac.mp g).1;rw[Af (by simpa using hi),Be,g];rfl
 ·rcases at_ h with z|⟨d',q,z⟩<;>cases z
 ·rcases at_ h with z|⟨d',q,z⟩<;>cases z
theorem NP{P:Program}{w:World}{K:Aa}{mg:Cg}{O8:Heap}{x:Str}{i:Stmt}{g:Addr}{fd:FuncData}{N ps:List Str}{k:Nat}{body:aD}(F:Fun K x x i g fd)(o:QD N ps (Qr i))(u:mg x=some (.ref g))
  (hb:∀(kV n C:Value)(q:Option Addr)(j ct:Value)(us:List Value),us.length=ps.length->bindArgs (PySem.W.fnOf x x (Ju i) (ZM i) (Qr i) .none kV n C q j ct) ⟨us,[]⟩=pure (ps.zip us))
  (h:∀(j:Value)(A:Around)(outer:List Env)(s:Shared)(H:Hp)(E:XK),Room k (A.deeper (envOfC x (Qr i) s.heap.objs.size g j))->eN (yC CX0 P w K mg O8 N x (Qr i) g j A outer s H E).nox (ZM i) body) :
  Has P w K mg O8 x (k+1) ps.length (Zv N.length body):=by
 refine⟨g,fd,ps,F.ok o (λvs H Q E h=>h.1) (λj A outer s H vs Q E z sp=>?_),F.binds hb,F.kp,u⟩;obtain⟨I,ρ,B,U,ds,d,y,W,r,e,k⟩:=sp;obtain⟨⟨fl,l⟩,hp1,t,m⟩:=Qg e;refine⟨_,h j A outer s H E z,⟨ρ,B,H⟩,_,ρ,B,U,fl,l,hp1,xV W r,t,λσ' ρ' B' H' g' S'=>?_⟩;cases fl with
 |nx=>obtain⟨rfl,rfl⟩:=Qm m;exact k .non ρ' B' H' S'.gr S'.wo qf
 |rt x=>obtain⟨rfl,rfl⟩:=Qm m;exact λv G=>k v ρ' B' H' S'.gr S'.wo G
 |bk=>cases m
 |ct=>cases m
def Qw(n:Nat)(F:Ck)(a:bM):aB:=λenv=>do
 let ds <- a env
 QG (decide (ds.length=n))
 F ds
theorem QF{y:Str}{k j n:Nat}{F:Ck}{e:Expr}{i:List Expr}{fa:bM}{p:Pos}(h:Has X.prog X.w X.K X.mg X.O8 y j n F)(P:Room k X.A)(I:j<=k)(hx:Yh CX0 X E0)(C:DA X (e::i) fa)(G:Gl X y:=by rfl)
  (hdb:(y==("__debug__" : Str))=false:=by decide) (he:starEach (e::i) X.env=(false,eval e X.env)::starEach i X.env:=by rfl) (hpl:(backTo pos (starEach i X.env)).any (·.1)=false:=by rfl):DE X (.Call (.Name y p) (e::i) [] pos) (Qw n F fa):=by
 obtain⟨g,fd,ps,q,E,J,O⟩:=h.ex;refine L2.PE.imp (Rh q (P.mono I) G O J E .nil hx C hdb he hpl) λσ H Q r=>?_;obtain⟨Z,env,ρ,B,U,d,l,S,e,k⟩:=r;obtain⟨ds,hp1,t,u⟩:=Qg e;obtain⟨_,hp2,v,z⟩:=Qg u;obtain⟨L,rfl⟩:=QE v;refine dR.run S t λvs ρ1 o H1 g1 S1 m=>?_;refine⟨by rw[Bc,<- m.length];exact Cb L,ρ1,o,hp1,ds,d,l,S1.wo,by rw[Bc];exact m,z,k.after g1⟩
end
section
variable{X:Cx}{e a b c:Expr}{f fa fb fc:aB}{ca cb:bF}{pos:Pos}
def qS(C:Int->Int->Bool)(g:Int->Int->DV):DV->DV->M DV
 |.int i,.int j=>if C i j then pure (g i j)else failure
 |_,_=>failure
theorem xJ{C:Int->Int->Bool}{g:Int->Int->DV}{x y d:DV}{U l:Hs}(h:qS C g x y U=some (d,l)):∃i j,x=.int i/\y=.int j/\C i j=true/\d=g i j/\U=l:=by
 unfold qS at h;split at h
 ·rename_i i j;by_cases m:C i j=true
  ·rw[B8 m]at h;obtain⟨rfl,rfl⟩:=Qm h;exact⟨i,j,rfl,rfl,m,rfl,rfl⟩
  ·rw[B7 m]at h;cases h
 ·cases h
theorem Gk{g:Value->Value->Sem Value}{C:Int->Int->Bool}{P:Int->Int->Prop}{q:Int->Int->Int}(o:OpR X g (rI P λi j=>.int (q i j)))(m:∀i j,C i j=true->P i j):P2 X g (qS C λi j=>.int (q i j)):=by intro l s σ H x y v u Q I rx ry h;refine o l s σ H x y v u Q I rx ry ?_;obtain⟨ρ,B,U,E,F,d,r,W,t,z,e,k⟩:=h;obtain⟨i,j,rfl,rfl,n,rfl,rfl⟩:=xJ e;exact⟨i,j,t.aW,z.aW,m i j n,k _ ρ B H Gr.refl W ZZ⟩
theorem Rj{g:Value->Value->Sem Value}{q:Int->Int->Int}(m:OpR X g (rI0 λi j=>.int (q i j))):P2 X g (qS (λ_ _=>true) λi j=>.int (q i j)):=by intro l s σ H x y v u Q I rx ry h;refine m l s σ H x y v u Q I rx ry ?_;obtain⟨ρ,B,U,t,z,d,n,W,o,r,e,k⟩:=h;obtain⟨i,j,rfl,rfl,C,rfl,rfl⟩:=xJ e;exact⟨i,j,o.aW,r.aW,k _ ρ B H Gr.refl W ZZ⟩
theorem yW{g:Value->Value->Sem Value}{q:Int->Int->Bool}(m:OpR X g (rI0 λi j=>.bl (q i j))):P2 X g (qS (λ_ _=>true) λi j=>.bl (q i j)):=by intro l s σ H x y v u Q I rx ry h;refine m l s σ H x y v u Q I rx ry ?_;obtain⟨ρ,B,U,t,z,d,n,W,o,r,e,k⟩:=h;obtain⟨i,j,rfl,rfl,C,rfl,rfl⟩:=xJ e;exact⟨i,j,o.aW,r.aW,k _ ρ B H Gr.refl W Xl⟩
def wk(i j:Int):Bool:=decide ((-(2 ^ 64)<i/\i<2 ^ 64)∨(-(2 ^ 64)<j/\j<2 ^ 64))
def wz(_ j:Int):Bool:=decide (0<j/\j<1073741824)
def wu(_ j:Int):Bool:=decide (0<j)
def Hz(i j:Int):Bool:=decide (0<=j/\j<=1000000/\i.natAbs<2 ^ 64)
def Jj:DV->DV->M DV:=qS (λ_ _=>true) λi j=>.int (i-j)
def qY:DV->DV->M DV:=qS wk λi j=>.int (i * j)
def Xb:DV->DV->M DV:=qS wz λi j=>.int (i / j)
def Za:DV->DV->M DV:=qS wu λi j=>.int (i % j)
def Yt:DV->DV->M DV:=qS Hz λi j=>.int (i ^ j.toNat)
def bW:DV->DV->M DV:=qS (λ_ _=>true) λi j=>.bl (decide (i<j))
def cW:DV->DV->M DV:=qS (λ_ _=>true) λi j=>.bl (decide (i<=j))
def cR:DV->DV->M DV:=qS (λ_ _=>true) λi j=>.bl (decide (j<i))
def iM:DV->DV->M DV:=qS (λ_ _=>true) λi j=>.bl (decide (j<=i))
def Xp:P2 X (binaryOp .Sub) Jj:=Rj Px
def ym:P2 X (binaryOp .Mult) qY:=Gk Oe λi j h=>Cb (p:=(-(2 ^ 64)<i/\i<2 ^ 64)∨(-(2 ^ 64)<j/\j<2 ^ 64)) h
def VR:P2 X (binaryOp .FloorDiv) Xb:=Gk Rm λi j h=>Cb (p:=0<j/\j<1073741824) h
def ZI:P2 X (binaryOp .Mod) Za:=Gk Og λ_ _ h=>Cb h
def yn:P2 X (binaryOp .Pow) Yt:=Gk Od λi j h=>Cb (p:=0<=j/\j<=1000000/\i.natAbs<2 ^ 64) h
def xQ:P2 X (compareOp .Lt) bW:=yW Ny
def uV:P2 X (compareOp .LtE) cW:=yW MJ
def UE:P2 X (compareOp .Gt) cR:=yW MK
def wD:P2 X (compareOp .GtE) iM:=yW MN
def wj:DV->M DV
 |.int i=>pure (.int (-i))
 |_=>failure
def ZV(f:aB):aB:=λenv=>do wj (<- f env)
theorem JE(h:DE X a f):DE X (.UnaryOp .USub a pos) (ZV f):=L2.PE.imp (Io Nm h) λσ H Q j=>by
 obtain⟨Z,env,ρ,B,U,d,m,S,e,k⟩:=j;obtain⟨x,hp1,l,g⟩:=Qg e;refine tD.run S l λv ρ1 B1 H1 g1 S1 n=>?_;cases x with
 |int i=>obtain⟨rfl,rfl⟩:=Qm g;exact⟨i,n.aW,k _ ρ1 B1 H1 g1 S1.wo ZZ⟩
 |_=>cases g
theorem Z_:OpR X (binaryOp .Add) (λx y H Q=>∃a b ys,x=.ref a/\y=.ref b/\SqT X.K H a []/\SqT X.K H b ys/\ys.length<=sizeLine/\Q (.ref b) H):=by
 intro E s σ H x y v u Q I rx ry h;obtain⟨a,b,ys,rfl,rfl,j,l,hz,q⟩:=h;cases rx;cases ry;obtain⟨d,t,o,_⟩:=I.tuple j;obtain⟨i,C,r,_⟩:=I.tuple l;obtain⟨m,F⟩:=I.fr;have z:d=[]:=by cases t;rfl
 subst z;exact add_tuples F (Wi (g:=X.O8) (L:=X.env.locals)) o r (λ_=>⟨.ref b,H,I,rfl,q⟩) (λn=>absurd rfl n) (λn=>absurd rfl n) (by have:=C.length;simp;lia)
def QP:DV->DV->M DV
 |.int i,.int j=>pure (.int (i+j))
 |.tup xs,.tup ys=>do QG (JV (xs++ys));pure (.tup (xs++ys))
 |.lst xs,.lst ys=>do QG (JV (xs++ys));pure (.lst (xs++ys))
 |_,_=>failure
theorem kZ:OpR X (binaryOp .Add) (λx y H Q=>∃l b xs i,x=.ref l/\y=.ref b/\SqL X.K H l xs/\SqL X.K H b i/\xs.length+i.length<=sizeLine/\∀p,H p=none->Q (.ref p) (upd H p (.lst (xs++i)))):=by
 intro O9 s σ H x y v u Q I rx ry h;obtain⟨l,b,xs,i,rfl,rfl,U,S,hz,q⟩:=h;cases rx;cases ry;obtain⟨g,G,⟨⟨k1,Ht,Hu,m⟩,Y,C,o,t,L⟩,_⟩:=I.list U;obtain⟨d,J,⟨⟨k2,P,Re,n⟩,Z,E,r,z,O⟩,_⟩:=I.list S;simp only at o t L r z O;subst o t L r z O;have R:g.toArray++d.toArray=(g++d).toArray:=by simp
 have j:g.length+d.length<=sizeLine:=by rw[<- G.length,<- J.length];exact hz
 refine concat_meets (T := "list") ⟨_,C,rfl⟩ ⟨_,E,rfl⟩ noFill_list_add seq_list_add PySem.F.slot_list_add PySem.F.entry_list_add (PySem.F.args_list_add_2 _ _) (list_addW l b g.toArray d.toArray Y Z none none m n (by simpa using j)) ⟨C,E,?_⟩;rw[R];exact⟨.ref _,_,I.lnew (t':=s.toks) (G.append J) (by rw[Ak];exact hz),rfl,q _ I.fresh⟩
theorem Q4:P2 X (binaryOp .Add) QP:=by
 intro n s σ H x y v u Q I rx ry h;obtain⟨ρ,B,U,L,O,d,J,W,t,z,e,k⟩:=h;unfold QP at e;split at e
 ·obtain⟨rfl,rfl⟩:=Qm e;exact Oi n s σ H x y v u Q I rx ry ⟨_,_,t.aW,z.aW,k _ ρ B H Gr.refl W ZZ⟩
 ·rename_i xs ys;obtain⟨_,hp1,o,q⟩:=Qg e;obtain⟨r,rfl⟩:=QE o;obtain⟨rfl,rfl⟩:=Qm q;obtain⟨a,vs,rfl,F,l,g⟩:=t.tupI;obtain⟨b,j,rfl,G,m,i⟩:=z.tupI;have hz:vs.length+j.length<=sizeLine:=by have:=YO r;rw[Ak]at this;rw[<- g.length,<- i.length];exact this
  by_cases C:vs=[]
  ·subst C;have:xs=[]:=by have:=g.length;cases xs with|nil=>rfl|cons _ _=>simp at this
   subst this;exact Z_ n s σ H _ _ v u Q I rx ry ⟨a,b,j,rfl,rfl,l,m,by simp at hz;exact hz,k _ ρ B H Gr.refl W (Yb G m i)⟩
  ·refine Rn n s σ H _ _ v u Q I rx ry ⟨a,b,vs,j,rfl,rfl,l,m,C,hz,λE=>?_,λE=>zw W (aq.append g i) k⟩;subst E;have:ys=[]:=by have:=i.length;cases ys with|nil=>rfl|cons _ _=>simp at this
   subst this;rw[Bc]at k;exact k _ ρ B H Gr.refl W (Yb F l g)
 ·rename_i xs ys;obtain⟨_,hp1,o,q⟩:=Qg e;obtain⟨r,rfl⟩:=QE o;obtain⟨rfl,rfl⟩:=Qm q;obtain⟨a,vs,rfl,F,l,g⟩:=t.bR;obtain⟨b,j,rfl,G,m,i⟩:=z.bR;have hz:vs.length+j.length<=sizeLine:=by have:=YO r;rw[Ak]at this;rw[<- g.length,<- i.length];exact this
  exact kZ n s σ H _ _ v u Q I rx ry ⟨a,b,vs,j,rfl,rfl,l,m,hz,zt W (aq.append g i) k⟩
 ·cases e
def pF:DV->Bool
 |.non=>true
 |_=>false
theorem kJ{K:Aa}{ρ:Cj}{B:Ci}{H:Hp}{d:DV}{v:V}(r:aA K ρ B H d v):decide (v=.non)=pF d:=by
 cases d with
 |non=>rw[r.d8];rfl
 |bl b=>rw[r.dX];rfl
 |int b=>rw[r.aW];rfl
 |str b=>rw[r.fu];rfl
 |tup b=>obtain⟨a,xs,rfl,_⟩:=r.tupI;rfl
 |lst b=>obtain⟨a,xs,rfl,_⟩:=r.bR;rfl
 |ref b=>obtain⟨a,rfl,_⟩:=r.mH;rfl
def isD:DV->DV->M DV
 |x,.non=>pure (.bl (pF x))
 |.bl p,.bl q=>pure (.bl (p==q))
 |_,_=>failure
def Xt:DV->DV->M DV
 |x,.non=>pure (.bl (!pF x))
 |.bl p,.bl q=>pure (.bl (p != q))
 |_,_=>failure
theorem lZ:P2 X (compareOp .Is) isD:=by
 intro j s σ H x y v u Q I rx ry h;obtain⟨ρ,B,U,m,n,d,l,W,g,i,e,k⟩:=h;unfold isD at e;split at e
 ·obtain⟨rfl,rfl⟩:=Qm e;refine Oh j s σ H x y v u Q I rx ry ⟨i.d8,?_⟩;rw[kJ g];exact k _ ρ B H Gr.refl W Xl
 ·obtain⟨rfl,rfl⟩:=Qm e;obtain rfl:=g.dX;obtain rfl:=i.dX;cases rx;cases ry;exact is_bool ⟨.bl _,H,I,rfl,k _ ρ B H Gr.refl W Xl⟩
 ·cases e
theorem jZ:P2 X (compareOp .IsNot) Xt:=by
 intro j s σ H x y v u Q I rx ry h;obtain⟨ρ,B,U,m,n,d,l,W,g,i,e,k⟩:=h;unfold Xt at e;split at e
 ·obtain⟨rfl,rfl⟩:=Qm e;refine Rk j s σ H x y v u Q I rx ry ⟨i.d8,?_⟩;rw[kJ g];exact k _ ρ B H Gr.refl W Xl
 ·obtain⟨rfl,rfl⟩:=Qm e;obtain rfl:=g.dX;obtain rfl:=i.dX;cases rx;cases ry;exact isnot_bool ⟨.bl _,H,I,rfl,k _ ρ B H Gr.refl W Xl⟩
 ·cases e
theorem KC{K:Aa}{ρ:Cj}{B:Ci}{H:Hp}{ds:List DV}{xs:List V}{i:Int}{d:DV}(r:aq K ρ B H ds xs)(h:atI ds i=some d):∃x,atI xs i=some x/\aA K ρ B H d x:=by
  unfold atI at h ⊢;rw[<- r.length];cases q:ixN ds.length i with
  |none=>rw[q]at h;cases h
  |some j=>rw[q]at h;exact r.get h
def eV:DV->DV->M DV
  |.tup ds,.int i=>match atI ds i with
    |some d=>pure d
    |none=>failure
  |.lst ds,.int i=>match atI ds i with
    |some d=>pure d
    |none=>failure
  |_,_=>failure
theorem wC:IxR X (lF X.K eV):=by
  intro value slice O9 s σ H x y v u Q I rx ry h hsub;obtain⟨ρ,B,U,t,C,d,o,W,m,n,e,k⟩:=h;unfold eV at e;split at e
  . rename_i ds i
    cases q:atI ds i with
    |none=>rw[q]at e;cases e
    |some d' =>rw[q]at e;obtain⟨rfl,rfl⟩:=Qm e;obtain⟨a,xs,rfl,r,j,g⟩:=m.tupI;obtain⟨z,hz,l⟩:=KC g q;exact O6 value slice O9 s σ H _ _ v u Q I rx ry ⟨a,xs,i,z,rfl,n.aW,j,hz,k _ ρ B H Gr.refl W l⟩ hsub
  . rename_i ds i
    cases q:atI ds i with
    |none=>rw[q]at e;cases e
    |some d' =>rw[q]at e;obtain⟨rfl,rfl⟩:=Qm e;obtain⟨a,xs,rfl,r,j,g⟩:=m.bR;obtain⟨z,hz,l⟩:=KC g q;exact kM value slice O9 s σ H _ _ v u Q I rx ry ⟨a,xs,i,z,rfl,n.aW,j,hz,k _ ρ B H Gr.refl W l⟩ hsub
  . cases e
theorem Nf(d:DE X a fa)(g:DE X b fb)(i:Kw b:=by intro _ _;rfl):DE X (.Subscript a b pos) (Qe eV fa fb):=L2.PE.imp (wM wC d g i) λ_ _ _ h=>qM h
end
mutual
def toP:DV->PyData
 |.non=>.none
 |.bl b=>.bool b
 |.int i=>.int i
 |.str x=>.str x
 |.tup xs=>.tuple (bU xs)
 |.lst xs=>.list (bU xs)
 |.ref _=>.none
def bU:List DV->List PyData
 | []=>[]
 |d::ds=>toP d::bU ds
end
mutual
def kR:DV->Bool
 |.ref _=>false
 |.tup xs=>cN xs
 |.lst xs=>cN xs
 |_=>true
def cN:List DV->Bool
 | []=>true
 |d::ds=>kR d&&cN ds
end
section
variable{X:Cx}{O9:Cf}{σ:St}{H:Hp}{s:Shared}{ρ:Cj}{B:Ci}
end
def fK(d:DV):Bool:=kR d&&SeqAt.shaped (toP d)
def tV:DV->DV->M DV:=λx y=>do QG (fK x&&fK y);pure (.bl (PyData.eqv (toP x) (toP y)))
def sS:DV->DV->M DV:=λx y=>do QG (fK x&&fK y);pure (.bl (!PyData.eqv (toP x) (toP y)))
section
variable{X:Cx}{e a b c:Expr}{f fa fb fc:aB}{ca cb:bF}{pos:Pos}
def eO(K:Aa)(g:Ck):List V->Hp->VK->Prop:=λxs H Q=>∃ρ B U ds d h,aQ K ρ B U H/\aq K ρ B H ds xs/\g ds U=some (d,h)/\eY K ρ B H d h Q
def QA(g:Ck)(a:bM):aB:=λenv=>do g (<- a env)
theorem GY{K:Aa}{g:Ck}{fa:bM}{σ:St}{H:Hp}{Q:VK}(h:tD K (QA g fa) σ H Q):tCB (eO K g) (dR K fa) σ H Q:=by obtain⟨Z,env,ρ,B,U,d,i,S,e,k⟩:=h;obtain⟨ds,hp1,l,m⟩:=Qg e;exact dR.run S l λvs ρ1 j H1 g1 S1 n=>⟨ρ1,j,hp1,ds,d,i,S1.wo,n,m,k.after g1⟩
theorem QS{x:Str}{id:String}{g:Ck}{e:Expr}{d:List Expr}{fa:bM}{p:Pos}(l:CallR X (.builtin id) (eO X.K g))(n:X.mg x=none)(q:bootBuiltins x=some (.builtin id))(j:DA X (e::d) fa)(m:Gl X x:=by rfl)(o:x ≠ "__name__" := by decide)(i:(x==("__debug__" : Str))=false:=by decide)
  (he:starEach (e::d) X.env=(false,eval e X.env)::starEach d X.env:=by rfl) (hpl:(backTo pos (starEach d X.env)).any (·.1)=false:=by rfl):DE X (.Call (.Name x p) (e::d) [] pos) (QA g fa) :=
 L2.PE.imp (vi l m n q j o i he hpl) λ_ _ _ h=>GY h
theorem jI{x:Str}{T:String}{g:Ck}{e:Expr}{d:List Expr}{fa:bM}{p:Pos}(l:CallR X (.type T) (eO X.K g))(n:X.mg x=none)(q:bootBuiltins x=some (.type T))(j:DA X (e::d) fa)(m:Gl X x:=by rfl)(o:x ≠ "__name__" := by decide)(i:(x==("__debug__" : Str))=false:=by decide)
  (he:starEach (e::d) X.env=(false,eval e X.env)::starEach d X.env:=by rfl) (hpl:(backTo pos (starEach d X.env)).any (·.1)=false:=by rfl):DE X (.Call (.Name x p) (e::d) [] pos) (QA g fa) :=
 L2.PE.imp (BY l m n q j o i he hpl) λ_ _ _ h=>GY h
theorem aq.bV{K:Aa}{ρ:Cj}{B:Ci}{H:Hp}{d:DV}{vs:List V}(h:aq K ρ B H [d] vs):∃v,vs=[v]/\aA K ρ B H d v:=by unfold aq at h;obtain⟨x,r,rfl,i,g⟩:=h;unfold aq at g;subst g;exact⟨x,rfl,i⟩
def VF:List DV->M DV
 | [.tup ds]=>pure (.int ds.length)
 | [.lst ds]=>pure (.int ds.length)
 |_=>failure
theorem wO:CallR X (.builtin "len") (eO X.K VF):=by
 intro j s σ H xs us Q I r h;obtain⟨ρ,B,U,ds,d,n,W,m,e,k⟩:=h;unfold VF at e;split at e
 ·obtain⟨rfl,rfl⟩:=Qm e;obtain⟨v,rfl,g⟩:=m.bV;obtain⟨a,ys,rfl,_,i,l⟩:=g.tupI;exact YX j s σ H _ us Q I r ⟨a,ys,rfl,.inr i,by rw[<- l.length];exact k _ ρ B H Gr.refl W ZZ⟩
 ·obtain⟨rfl,rfl⟩:=Qm e;obtain⟨v,rfl,g⟩:=m.bV;obtain⟨a,ys,rfl,_,i,l⟩:=g.bR;exact YX j s σ H _ us Q I r ⟨a,ys,rfl,.inl i,by rw[<- l.length];exact k _ ρ B H Gr.refl W ZZ⟩
 ·cases e
def n_:List DV->M DV
 | [.int i,.int j]=>pure (.int (if j<i then j else i))
 |_=>failure
def ou:List DV->M DV
 | [.int i,.int j]=>pure (.int (if j > i then j else i))
 |_=>failure
theorem Nh(i:X.calm=true):CallR X (.builtin "min") (eO X.K n_):=by
 intro g s σ H xs us Q I r h;obtain⟨ρ,B,U,ds,d,j,W,l,e,k⟩:=h;unfold n_ at e;split at e
 ·obtain⟨rfl,rfl⟩:=Qm e;exact Hn i g s σ H xs us Q I r ⟨_,_,l.ints2,k _ ρ B H Gr.refl W ZZ⟩
 ·cases e
theorem Ni(i:X.calm=true):CallR X (.builtin "max") (eO X.K ou):=by
 intro g s σ H xs us Q I r h;obtain⟨ρ,B,U,ds,d,j,W,l,e,k⟩:=h;unfold ou at e;split at e
 ·obtain⟨rfl,rfl⟩:=Qm e;exact HA i g s σ H xs us Q I r ⟨_,_,l.ints2,k _ ρ B H Gr.refl W ZZ⟩
 ·cases e
def uH:List DV->M DV
 | [.int i]=>pure (.int i)
 | [.bl k]=>pure (.int (if k then 1 else 0))
 |_=>failure
theorem wQ:CallR X (.type "int") (eO X.K uH):=by
 intro g s σ H xs us Q I r h;obtain⟨ρ,B,U,ds,d,j,W,i,e,k⟩:=h;unfold uH at e;split at e
 ·obtain⟨rfl,rfl⟩:=Qm e;exact UY g s σ H xs us Q I r (.inl ⟨_,i.ints1,k _ ρ B H Gr.refl W ZZ⟩)
 ·obtain⟨rfl,rfl⟩:=Qm e;obtain⟨v,rfl,l⟩:=i.bV;obtain rfl:=l.dX;exact UY g s σ H _ us Q I r (.inr ⟨_,rfl,k _ ρ B H Gr.refl W ZZ⟩)
 ·cases e
def q_:List DV->M DV
 | [.lst ds]=>pure (.tup ds)
 | [.tup ds]=>pure (.tup ds)
 |_=>failure
theorem T6:CallR X (.type "tuple") (eO X.K q_):=by
 intro j s σ H xs us Q I r h;obtain⟨ρ,B,U,ds,d,n,W,m,e,k⟩:=h;unfold q_ at e;split at e
 ·obtain⟨rfl,rfl⟩:=Qm e;obtain⟨v,rfl,i⟩:=m.bV;obtain⟨a,ys,rfl,_,g,l⟩:=i.bR;exact Yk j s σ H _ us Q I r ⟨a,ys,rfl,.inl ⟨g,zw W l k⟩⟩
 ·obtain⟨rfl,rfl⟩:=Qm e;obtain⟨v,rfl,i⟩:=m.bV;obtain⟨a,ys,rfl,o,g,l⟩:=i.tupI;exact Yk j s σ H _ us Q I r ⟨a,ys,rfl,.inr ⟨g,k _ ρ B H Gr.refl W (Yb o g l)⟩⟩
 ·cases e
def gx:DV->Option String
 |.non=>some "NoneType"
 |.bl _=>some "bool"
 |.int _=>some "int"
 |.str _=>some "str"
 |.tup _=>some "tuple"
 |.lst _=>some "list"
 |.ref _=>none
def oO(t T:String):Bool:=t==T||(t == "bool" && T == "int")
def lY(T:String)(f:aB):aB:=λenv=>do
 match gx (<- f env)with
 |some t=>pure (.bl (oO t T))
 |none=>failure
theorem Nj{T:String}(G:T∈["int", "bool", "tuple", "str", "list"]):CallR X (.builtin "isinstance") (λxs H Q=>∃ρ B d x t,xs=[x,.ty T]/\aA X.K ρ B H d x/\gx d=some t/\Q (.bl (oO t T)) H):=by
  intro J s σ H xs us Q I r h;obtain⟨ρ,B,d,x,t,rfl,m,j,q⟩:=h;obtain⟨u,L,rfl,l,E⟩:=oV r;cases E;have g:∀n,EP X J σ Q (.bool (oO t T)) { s with toks:=n }:=λn=>⟨.bl _,H,I.tok _,rfl,q⟩;have i:PySem.W.kitOne X.K (.type t) (.type T)=some (oO t T):=by
    have:t∈["NoneType", "bool", "int", "str", "tuple", "list"]:=by cases d<;>cases j<;>simp
    simp only[A9,Bj,or_false]at this G;rcases this with rfl|rfl|rfl|rfl|rfl|rfl<;>rcases G with rfl|rfl|rfl|rfl|rfl<;>first|rfl|decide|with_unfolding_all rfl|kernel_rfl
  cases d with
  |non=>obtain rfl:=m.d8;cases j;cases l;exact PySem.W.kia_one PySem.W.kitx_none I.kIn True.intro i (λz=>nomatch z) g
  |bl b=>obtain rfl:=m.dX;cases j;cases l;exact PySem.W.kia_one PySem.W.kitx_bool I.kIn True.intro i (λz=>nomatch z) g
  |int b=>obtain rfl:=m.aW;cases j;obtain⟨n,rfl⟩:=l;exact PySem.W.kia_one PySem.W.kitx_int I.kIn True.intro i (λz=>nomatch z) g
  |str b=>obtain rfl:=m.fu;cases j;obtain⟨n,rfl⟩:=l;exact PySem.W.kia_one PySem.W.kitx_str I.kIn True.intro i (λz=>nomatch z) g
  |ref b=>cases j
  |tup b=>cases j;obtain⟨a,ys,rfl,_,F,_⟩:=m.tupI;cases l;obtain⟨C,_,⟨o,v,y,_⟩,_⟩:=I.tuple F;exact PySem.W.kia_one PySem.W.kitx_tuple I.kIn ⟨o,v,y⟩ i (λz=>nomatch z) g
  |lst b=>cases j;obtain⟨a,ys,rfl,_,F,_⟩:=m.bR;cases l;obtain⟨C,_,⟨o,k,v,y,_⟩,_⟩:=I.list F;exact PySem.W.kia_one PySem.W.kitx_list I.kIn ⟨o,v,y⟩ i (λz=>nomatch z) g
theorem N7{T:String}{p g:Pos}(y:X.mg "isinstance" = none)(l:X.mg (Str.ofString T)=none)(C:bootBuiltins (Str.ofString T)=some (.type T))(r:T∈["int", "bool", "tuple", "str", "list"])(h:DE X e f)(u:Gl X "isinstance" := by rfl)(j:Gl X (Str.ofString T):=by rfl)
    (hn:Str.ofString T ≠ "__name__" := by decide) (hdb:(Str.ofString T==("__debug__" : Str))=false:=by decide) (hs:starEach [e,.Name (Str.ofString T) g] X.env=(false,eval e X.env)::starEach [.Name (Str.ofString T) g] X.env:=by rfl)
    (hs2:starEach [.Name (Str.ofString T) g] X.env=(false,eval (.Name (Str.ofString T) g) X.env)::starEach [] X.env:=by rfl) (hpl:(backTo pos (starEach [.Name (Str.ofString T) g] X.env)).any (·.1)=false:=by rfl):DE X (.Call (.Name "isinstance" p) [e,.Name (Str.ofString T) g] [] pos) (lY T f) :=
  L2.PE.imp (vi (Nj r) u y boot_isinstance (Xu h (Xu (Ri (v:=.ty T) j l C rfl hn hdb) pa_nil hs2) hs) (by decide) (by decide) hs hpl) λσ H Q n=>by
    obtain⟨Z,env,ρ,B,U,d,z,S,e,k⟩:=n;obtain⟨x,hp1,o,i⟩:=Qg e;refine tD.run S o λv ρ1 m H1 g1 S1 E=>?_;cases q:gx x with
    |none=>rw[q]at i;cases i
    |some t=>rw[q]at i;obtain⟨rfl,rfl⟩:=Qm i;exact⟨ρ1,m,x,v,t,rfl,E,q,k _ ρ1 m H1 g1 S1.wo Xl⟩
def qN(g g':DV->DV->M DV)(fa fb fc:aB):aB:=λenv=>do
 let x <- fa env
 let y <- fb env
 let z <- g x y
 if <- eX z then
  let u <- fc env
  g' y u
 else pure (.bl false)
end
section
variable{X:Cx}{e a b c:Expr}{f fa fb fc:aB}{ca cb:bF}{pos:Pos}
theorem ux{K:Aa}{g g':DV->DV->M DV}{σ:St}{H:Hp}{Q:VK}(h:tD K (qN g g' fa fb fc) σ H Q):wW (lF K g) (lF K g') (tD K fa) (tD K fb) (tD K fc) σ H Q:=by
  obtain⟨Z,env,ρ,B,U,d,i,S,e,k⟩:=h;obtain⟨x,hp1,o,e⟩:=Qg e;obtain⟨y,hp2,r,e⟩:=Qg e;obtain⟨z,J,C,e⟩:=Qg e;obtain⟨t,R,E,e⟩:=Qg e;obtain⟨rfl,rfl⟩:=YA E;refine tD.run S o λv ρ1 B1 H1 g1 S1 L=>tD.run S1 r λu ρ2 m H2 g2 S2 l=>?_;refine⟨ρ2,m,hp2,x,y,_,_,S2.wo,aA.grow S1.wo.rb g2 _ _ L,l,C,λw ρ3 B3 H3 g3 W3 O=>⟨t,O.dX,?_⟩⟩;have j:=S2.grow g3 W3;cases t with
  |false=>obtain⟨rfl,rfl⟩:=Qm e;exact K6 (k _ ρ3 B3 H3 (g1.trans (g2.trans g3)) W3 Xl)
  |true=>obtain⟨q,I,F,G⟩:=Qg e;refine K7 (tD.run j F λp ρ4 n H4 g4 S4 P=>?_);exact⟨ρ4,n,I,y,q,d,i,S4.wo,aA.grow j.wo.rb g4 _ _ (aA.grow S2.wo.rb g3 _ _ l),P,G,k.after (g1.trans (g2.trans (g3.trans g4)))⟩
theorem GX{j h:CmpOp}{g g':DV->DV->M DV}(u:P2 X (compareOp j) g)(i:P2 X (compareOp h) g')(o:DE X a fa)(q:DE X b fb)(r:DE X c fc)(t:lastMarks [j,h] [b,c]=false:=by with_unfolding_all rfl):DT X (.Compare a [j,h] [b,c] pos) (eB (qN g g' fa fb fc)) :=
 L2.PT.imp (WY u i o q r t) λσ H Q l=>by obtain⟨Z,env,ρ,B,U,d,y,S,e,k⟩:=l;obtain⟨x,hp1,m,n⟩:=Qg e;obtain⟨rfl,rfl⟩:=YA n;exact ux (tD.run S m λv ρ1 B1 H1 g1 S1 z=>⟨d,z.dX,k ρ1 B1 H1 g1 S1.wo⟩)
abbrev iD:=En->M (Option Int)
def iV(K:Aa)(f:iD):TO:=λσ H Q=>∃Z env ρ B U d g,bN K Z env σ ρ B U H/\f env U=some (d,g)/\wB K ρ B H g (Q d)
def DO(X:Cx)(e:Option Expr)(f:iD):Prop:=PO X e (iV X.K f)
def Zb:iD:=λ_=>pure none
def dM:DV->M Int
 |.int i=>pure i
 |_=>failure
theorem Vd{d:DV}{c:Int}{U g:Hs}(h:dM d U=some (c,g)):d=.int c/\U=g:=by
 cases d with
 |int b=>obtain⟨rfl,rfl⟩:=Qm h;exact⟨rfl,rfl⟩
 |_=>cases h
def QX(f:aB):iD:=λenv=>do let i <- dM (<- f env);pure (some i)
theorem ZP:DO X none Zb:=λg s σ H Q I h=>by obtain⟨Z,env,ρ,B,U,d,i,S,e,k⟩:=h;obtain⟨rfl,rfl⟩:=Qm e;exact PJ g s σ H Q I (k ρ B H Gr.refl S.wo)
theorem ZF(h:DE X e f):DO X (some e) (QX f):=λg s σ H Q I j=>by obtain⟨Z,env,ρ,B,U,d,q,S,e,k⟩:=j;obtain⟨x,hp1,l,m⟩:=Qg e;obtain⟨i,hp2,n,o⟩:=Qg m;obtain⟨rfl,rfl⟩:=Vd n;obtain⟨rfl,rfl⟩:=Qm o;exact PB h g s σ H Q I (tD.run S l λv ρ1 B1 H1 g1 S1 r=>⟨i,r.aW,k ρ1 B1 H1 g1 S1.wo⟩)
theorem iV.run{K:Aa}{f:iD}{Z:Ent}{env:En}{σ:St}{ρ:Cj}{B:Ci}{U hp1:Hs}{H:Hp}{d:Option Int}{Q:Option Int->Hp->Prop}(S:bN K Z env σ ρ B U H)(e:f env U=some (d,hp1))
  (k:∀ρ' B' H',Gr K ρ B H ρ' B' H'->bN K Z env σ ρ' B' hp1 H'->Q d H'):iV K f σ H Q :=
 ⟨Z,env,ρ,B,U,d,hp1,S,e,λρ' B' H' g W=>k ρ' B' H' g (S.grow g W)⟩
def YC(ds:List DV)(d hi:Option Int):List DV:=(ds.drop (HT.sIx ds.length 0 d)).take (HT.sIx ds.length ds.length hi-HT.sIx ds.length 0 d)
theorem Vj{K:Aa}{ρ:Cj}{B:Ci}{H:Hp}{ds:List DV}{xs:List V}{d hi:Option Int}(r:aq K ρ B H ds xs):aq K ρ B H (YC ds d hi) (GR xs d hi):=by unfold YC GR;rw[r.length];exact aq.take _ (aq.drop _ r)
def o8(d:DV)(g hi:Option Int):M DV:=match d with
 |.lst ds=>pure (.lst (YC ds g hi))
 |.tup ds=>pure (.tup (YC ds g hi))
 |_=>failure
def bL(f:aB)(g hi:iD):aB:=λenv=>do let d <- f env;let l <- g env;let h <- hi env;o8 d l h
def Eb(K:Aa):V->Option Int->Option Int->Hp->VK->Prop:=λx h hi H Q=>∃ρ B U d r g,aQ K ρ B U H/\aA K ρ B H d x/\o8 d h hi U=some (r,g)/\eY K ρ B H r g Q
theorem vS{prog:Program}{w:World}{A:Around}{E:Ce}{s:Shared}{t n:Addr}{items:Array Value}{x y:Value}{d hi:Option Int}{Q:Ce}(g:IsTup s.heap t items)(v:s.heap.IsSliceOf n x y .none)(pl:IsPart x d)(C:IsPart y hi)
  (h0:HT.sIx items.size 0 d=0) (h1:HT.sIx items.size items.size hi=items.size) (h:Q (.ref t) s):wpAny (model prog w) A (getItem (.ref t) (.ref n)) Q E s:=by
 obtain⟨os,m,l,z⟩:=id v;have j:s.TypeIs (.ref n) "slice" := ⟨os,m,l⟩;unfold getItem
 try with_reducible refine wpAny_holding ?_
 first|refine B0 (B9 ?_)|skip
 refine B0 (wpAny_sequenceKey g.typeIs (by decide) ?_);refine B0 (wpAny_callSpecial?_slot (name:=Str.ofString "__getitem__") g.typeIs PyProof.Rows.slot_tuple_getitem (wpAny_call_entry PyProof.Rows.slot_tuple_getitem g.typeIs entry_tuple_getitem ?_ (args_tuple_getitem _ _)));show wpAny _ _ (Builtin.Tuple.tupleItemsOf (.ref t) >>= _) _ _ s;refine B0 (tupleItemsOf_ g ?_);refine B0 (wpAny_typeOf j ?_);rw[B8 (by decide)];refine B0 (HT.sliceApplied_gen v pl C ?_);have o:(((HT.sIx items.size 0 d:Nat):Int)==0&&(1:Int)==1&&(HT.sIx items.size items.size hi-HT.sIx items.size 0 d)==items.size)=true:=by rw[h0,h1];simp
 show wpAny _ _ (if (((HT.sIx items.size 0 d:Nat):Int)==0&&(1:Int)==1&&(HT.sIx items.size items.size hi-HT.sIx items.size 0 d)==items.size)=true then _ else _) _ _ s;rw[B8 o];have ex:∀{i:Bool->Shared->Prop}{r:Around}{u:Ce},i true s->wpAny (model prog w) r (Builtin.Tuple.tupleIsExact (.ref t)) i u s:=λ{i r u} q=>by unfold Builtin.Tuple.tupleIsExact;exact B0 (wpAny_typeOf g.typeIs (B9 (by rw[show(Value.type "tuple" == Value.type "tuple")=true from beq_self_eq_true _];exact q)))
 refine B0 (ex ?_);rw[B8 rfl]
 first
  |exact B0 (wpAny_rule (B9 ⟨_,rfl,B9 h⟩))
  |exact B0 (wpAny_rule (B0 (B9 (B9 ⟨_,rfl,B9 h⟩))))
theorem Rw:SlR X (λx j hi H Q=>∃a xs,x=.ref a/\SqT X.K H a xs/\(HT.sIx xs.length 0 j=0/\HT.sIx xs.length xs.length hi=xs.length)/\Q (.ref a) H):=by
 intro n s σ H x v vl vu j hi sl Q I rx hs pl pu h;obtain⟨a,xs,rfl,hx,⟨l,m⟩,q⟩:=h;cases rx;obtain⟨g,r,i,hz⟩:=I.tuple hx;have d:g.toArray.size=xs.length:=by rw[Am];exact r.length.symm
 exact⟨"tuple", _,PyProof.Rows.slot_tuple_getitem.lookup,i.typeIs,vS i hs pl pu (by rw[d];exact l) (by rw[d];exact m) ⟨.ref a,H,I,rfl,q⟩⟩
theorem Hk{α:Type}(ds:List α)(i j:Nat)(d:i=0)(g:j=ds.length):(ds.drop i).take (j-i)=ds:=by subst d g;simp
theorem rC:SlR X (Eb X.K):=by
  intro l s σ H x v vl vu lo hi sl Q I rx hs pl pu h;obtain⟨ρ,B,U,d,r,o,W,n,e,k⟩:=h;cases d with
  |lst ds=>obtain⟨rfl,rfl⟩:=Qm e;obtain⟨a,xs,rfl,m,i,g⟩:=n.bR;exact CG l s σ H _ v vl vu lo hi sl Q I rx hs pl pu ⟨a,xs,rfl,i,zt W (Vj g) k⟩
  |tup ds =>
    obtain⟨rfl,rfl⟩:=Qm e;obtain⟨a,xs,rfl,m,i,g⟩:=n.tupI;by_cases j:HT.sIx xs.length 0 lo=0/\HT.sIx xs.length xs.length hi=xs.length
    . refine Rw l s σ H _ v vl vu lo hi sl Q I rx hs pl pu ⟨a,xs,rfl,i,j,?_⟩
      have:YC ds lo hi=ds:=by unfold YC;exact Hk ds _ _ (by rw[g.length];exact j.1) (by rw[g.length];exact j.2)
      rw[this]at k;exact k _ ρ B H Gr.refl W (Yb m i g)
    . exact LQ l s σ H _ v vl vu lo hi sl Q I rx hs pl pu ⟨a,xs,rfl,i,j,zw W (Vj g) k⟩
  |non=>cases e
  |bl _=>cases e
  |int _=>cases e
  |str _=>cases e
  |ref _=>cases e
theorem Xn{j hi:Option Expr}{n m:iD}{E:Pos}(h:DE X e f)(C:DO X j n)(z:DO X hi m):DE X (.Subscript e (.Slice j hi none E) pos) (bL f n m) :=
 L2.PE.imp (vj rC h C z) λσ H Q q=>by obtain⟨Z,env,ρ,B,U,d,g,S,e,k⟩:=q;obtain⟨x,hp1,r,e⟩:=Qg e;obtain⟨l,hp2,t,e⟩:=Qg e;obtain⟨u,i,y,e⟩:=Qg e;refine tD.run S r λv ρ1 B1 H1 g1 S1 F=>iV.run S1 t λρ2 B2 H2 g2 S2=>iV.run S2 y λρ3 o H3 g3 S3=>?_;exact⟨ρ3,o,i,x,d,g,S3.wo,aA.grow S1.wo.rb (g2.trans g3) _ _ F,e,k.after (g1.trans (g2.trans g3))⟩
theorem M9{P:Program}{w:World}{K:Aa}{mg:Cg}{O8:Heap}{x:Str}{i:Stmt}{g:Addr}{fd:FuncData}{N ps:List Str}{k:Nat}{body:aD}(F:Fun K x x i g fd)(n:QD N ps (Qr i))
  (h:∀(j:Value)(A:Around)(outer:List Env)(s:Shared)(H:Hp)(E:XK),Room k (A.deeper (envOfC x (Qr i) s.heap.objs.size g j))->eN (yC CX0 P w K mg O8 N x (Qr i) g j A outer s H E).nox (ZM i) body) :
  qC P w K mg O8 CX0 (k+1) g fd ps (fG K ps.length (Zv N.length body)):=by
 refine F.ok n (λvs H Q E h=>h.1) (λj A outer s H vs Q E t sp=>?_);obtain⟨y,ρ,B,U,ds,d,q,W,r,e,k⟩:=sp;obtain⟨⟨fl,l⟩,hp1,o,m⟩:=Qg e;refine⟨_,h j A outer s H E t,⟨ρ,B,H⟩,_,ρ,B,U,fl,l,hp1,xV W r,o,λσ' ρ' B' H' g' S'=>?_⟩;cases fl with
 |nx=>obtain⟨rfl,rfl⟩:=Qm m;exact k .non ρ' B' H' S'.gr S'.wo qf
 |rt x=>obtain⟨rfl,rfl⟩:=Qm m;exact λv u=>k v ρ' B' H' S'.gr S'.wo u
 |bk=>cases m
 |ct=>cases m
theorem vq{K:Aa}{ρ:Cj}{B:Ci}{H:Hp}:∀ns:List Int,aq K ρ B H (ns.map DV.int) (ns.map V.int)
 | []=>aq.nil
 |_::r=>aq.cons ZZ (vq r)
theorem Oz{K:Aa}{F:Ck}{H:Hp}{a:Addr}{ns:List Int}{E:XK}(h:∃d,F [.lst (ns.map .int)] []=some (.bl true,d))(g:SqL K H a (ns.map V.int)):fG K 1 F [.ref a] H (λv _=>v=.bl true) E:=by obtain⟨d,h⟩:=h;refine⟨rfl,[],λ_=>False,[],[.lst (ns.map .int)],.bl true,d,⟨rfl,List.nodup_nil,λi a o h=>by simp at h,λa h=>absurd h (by simp),λa h=>absurd h (λz=>z),λa h=>h.elim⟩,aq.one (Go (λz=>z) g (vq ns)),h,λv _ _ _ _ _ r=>r.dX⟩
end
end D
namespace L2
open PySem PySem.Spec PyProof.Rows
section
variable{prog:Program}{w:World}{A:Around}{E:Ce}{s:Shared}
theorem zD{p q:Addr}{n:Nat}{xs:Array Value}{v:Value}{Q:Ce}(d:s.heap.IsTupleIter p q n)(e:s.heap.IsTuple q xs)(f:xs[n]?=some v)
  (k:∀g,g.IsTupleIter p q (n+1)->Heap.SameBut p s.heap g->Q v { s with heap:=g }):wpAny (model prog w) A (Builtin.SmallTypes.nextOf (.ref p)) Q E s:=by
 obtain⟨l,c,h,a⟩:=id d;obtain⟨o,i,_,m,j⟩:=e;unfold Builtin.SmallTypes.nextOf;refine B0 (wpAny_callSpecial?_slot (name:=Str.ofString "__next__") d.typeIs F.slot_tuple_iterator_next (wpAny_call_entry F.slot_tuple_iterator_next d.typeIs F.entry_tuple_iterator_next ?_ (F.args_tuple_iterator_next_1 _)));show wpAny _ _ (field (.ref p) 0 >>= _) _ _ s;refine B0 (wpAny_field c a (x:=.ref q) rfl ?_);show wpAny _ _ (if (Value.ref q==Value.none)=true then _ else _) _ _ s;rw[B7 (show ¬ ((Value.ref q==Value.none)=true)from Bf)];show wpAny _ _ (field (.ref p) 1 >>= _) _ _ s;refine B0 (wpAny_field c a (x:=.int n 0) rfl ?_);show wpAny _ _ (seqItems? (.ref q) >>= _) _ _ s;refine B0 (wpAny_seqItems i j ?_);simp only[Int.toNat_natCast,f];refine B0 (wpAny_setField c a (by simp) (B9 ⟨v,rfl,B9 (k _ ?_ (Heap.SameBut.update ..))⟩));exact⟨_,Heap.get?_update_self _ c (Obj.isFreed_of_fields (Obj.data_mapFields a _)),(Obj.cls_mapFields ..).trans h,by rw[Obj.data_mapFields a];simp[rawInt]⟩
theorem GD{p q:Addr}{n:Nat}{xs:Array Value}{Q:Ce}(f:A.handled=none)(c:s.heap.IsTupleIter p q n)(h:s.heap.IsTuple q xs)(i:xs[n]?=none)
  (k:∀g x,Heap.ExtBut p s.heap g->(∃o,g.get? x=some o/\o.cls=.type "StopIteration")->E (.ref x) { s with heap:=g }):wpAny (model prog w) A (Builtin.SmallTypes.nextOf (.ref p)) Q E s:=by
 obtain⟨t,d,r,e⟩:=id c;obtain⟨u,j,_,m,l⟩:=h;unfold Builtin.SmallTypes.nextOf;refine B0 (wpAny_callSpecial?_slot (name:=Str.ofString "__next__") c.typeIs F.slot_tuple_iterator_next (wpAny_call_entry F.slot_tuple_iterator_next c.typeIs F.entry_tuple_iterator_next ?_ (F.args_tuple_iterator_next_1 _)));show wpAny _ _ (field (.ref p) 0 >>= _) _ _ s;refine B0 (wpAny_field d e (x:=.ref q) rfl ?_);show wpAny _ _ (if (Value.ref q==Value.none)=true then _ else _) _ _ s;rw[B7 (show ¬ ((Value.ref q==Value.none)=true)from Bf)];show wpAny _ _ (field (.ref p) 1 >>= _) _ _ s;refine B0 (wpAny_field d e (x:=.int n 0) rfl ?_);show wpAny _ _ (seqItems? (.ref q) >>= _) _ _ s;refine B0 (wpAny_seqItems j l ?_);simp only[Int.toNat_natCast,i];refine B0 (wpAny_rule (B0 (wpAny_setField d e (by simp) ?_)));show wpAny _ _ (newExc (.type "StopIteration") [] >>= _) _ _ _;refine B0 ?_;simp only[newExc,newTuple];refine B0 (wpAny_newObj_type ?_ (by size_fits));refine B0 (m:=firstArgMember _ _) (wpAny_of_eq (a:=Value.none) (by first|rfl|(simp only[firstArgMember];rfl)) ?_);refine wpAny_newObj_type ?_ (by size_fits);simp only[raiseNew];refine B0 (wpAny_handled ?_)
 first|rw[show A.in1.handled=none from f]|rw[f]
 refine B0 (B9 (wpAny_throw ?_));exact k _ _ (((Heap.SameBut.update ..).extBut.push _).push _) ⟨_,Ar _ rfl,rfl⟩
structure ZA(z p o i j a b:Addr):Prop where
 pz:p≠z
 oz:o≠z
 iz:i≠z
 jz:j≠z
 po:p≠o
 pi:p≠i
 pj:p≠j
 oi:o≠i
 oj:o≠j
 ij:i≠j
 az:a≠z
 ao:a≠o
 ai:a≠i
 aj:a≠j
 bz:b≠z
 bo:b≠o
 bi:b≠i
 bj:b≠j
end
section
variable{X:Cx}{O9:Cf}{σ:L2.St}{H:Hp}{s:Shared}{h':Heap}
theorem Inv.fL{t':Nat}{d:Cj}(I:Inv X O9 σ H s)(hf:∀b∈d,yx X O9 H b)(k:∀b o,b∉d->s.heap.get? b=some o->h'.get? b=some o):Inv X O9 σ H { s with heap:=h',toks:=t' }:=by
 refine I.step (g':=s.gens) (d':=s.drawn) (ch:=d) (λb f=>⟨(hf b f).2.2.2.1,(hf b f).2.1,(hf b f).2.2.2.2.1,(hf b f).2.2.2.2.2⟩) (λb o _ _ a e _=>k b o a e) (λb o _ _ a e _=>⟨o.slots,k b o a e⟩) (λ_ _ _ _ n=>n)
  (λb o a e=>⟨o,k b o a e⟩) (λ_ _ e=>e) (λ_ _ _ e=>e) (λb ps e=>⟨#[],by rw[e];simp⟩) (λm j=>?_) (λb u e=>?_) I.bare
 ·obtain⟨o,i,h,l,r⟩:=j;exact⟨o,i,h,k _ o (λz=>(hf _ z).2.1 rfl) l,r⟩
 ·have g:∀c u,H c=some u->c∉d:=λc u q z=>by rw[(hf c z).1]at q;cases q
  refine(I.hok b u e).stay (λc v a q=>k c v ?_ q) (λ_ q=>q) λ_ _ q=>q;rcases a with z|z
  ·rw[z];exact g b u e
  ·exact g c _ z
theorem Inv.dw{t':Nat}{g:Cj}{vs:List V}{us:List Value}(I:Inv X O9 σ H s)(hf:∀b∈g,yx X O9 H b)(k:∀b o,b∉g->s.heap.get? b=some o->h'.get? b=some o)
  (hv:Vals vs us) (hz:vs.length<=sizeLine) (hT:IsTup h' s.heap.objs.size us.toArray):Inv X O9 σ (upd H s.heap.objs.size (.tup vs)) { s with heap:=h',toks:=t' }:=by
 have f:H s.heap.objs.size=none:=I.hok.fresh (Ae _);refine I.step (g':=s.gens) (d':=s.drawn) (ch:=g) (λb a=>⟨(hf b a).2.2.2.1,(hf b a).2.1,(hf b a).2.2.2.2.1,(hf b a).2.2.2.2.2⟩) (λb o _ _ d e _=>k b o d e) (λb o _ _ d e _=>⟨o.slots,k b o d e⟩)
  (λb o _ e n=>by rw[QN (A6 (An e))];exact n) (λb o d e=>⟨o,k b o d e⟩) (λb xs e=>by rw[QN (ZD e f)];exact e) (λb o u e=>by rw[QN (ZD e f)];exact e) (λb ps e=>⟨#[],by rw[QN (ZD e f),e];simp⟩) (λm l=>?_) (λb u e=>?_) I.bare
 ·obtain⟨o,j,i,t,r⟩:=l;exact⟨o,j,i,k _ o (λz=>(hf _ z).2.1 rfl) t,r⟩
 ·by_cases a:b=s.heap.objs.size
  ·subst a;rw[Q3]at e;cases e;exact⟨hz,us,hv,hT⟩
  ·rw[QN a]at e;have h:∀c u,H c=some u->c∉g:=λc u q z=>by rw[(hf c z).1]at q;cases q
   refine(I.hok b u e).stay (λc v d q=>k c v ?_ q) (λc q=>by rw[QN (ZD q f)];exact q) λc xs q=>by rw[QN (ZD q f)];exact q
   rcases d with z|z
   ·rw[z];exact h b u e
   ·exact h c _ z
end
def mC(K:Aa)(a b:Addr):It :=
  ⟨λi H=>∃xs ys x y,SqT K H a xs/\SqT K H b ys/\xs[i]?=some x/\ys[i]?=some y,
   λi H v H'=>∃p x y,H p=none/\(∀xs,SqT K H a xs->xs[i]?=some x)/\(∀ys,SqT K H b ys->ys[i]?=some y)/\v=.ref p/\H'=upd H p (.tup [x,y]),
   λi H=>∃xs ys,SqT K H a xs/\SqT K H b ys/\(xs.length<=i∨ys.length<=i)⟩
abbrev nq(h:Heap)(a:Addr):Heap:=h.push { cls:=.type "tuple_iterator", data:=.fields #[.ref a,.int 0 0] }
abbrev ni(h:Heap)(a b:Addr):Heap:=(nq h a).push { cls:=.type "tuple_iterator", data:=.fields #[.ref b,.int 0 0] }
abbrev m_(h:Heap)(a b:Addr):Heap:=(ni h a b).push { cls:=.type "tuple", data:=.seq #[.ref h.objs.size,.ref (nq h a).objs.size] }
abbrev m9(h:Heap)(a b:Addr):Heap:=(m_ h a b).push { cls:=.type "tuple", data:=.seq #[.none,.none] }
abbrev fY(h:Heap)(a b:Addr):Heap:=(m9 h a b).push { cls:=.type "zip", data:=.fields #[.none,.bool false,.bool false,.ref (ni h a b).objs.size,.ref (m_ h a b).objs.size] }
theorem R3(a b:Addr)(xs ys:Array Value):Meets (Builtin.«zip.__new__» ⟨[.type "zip", .ref a,.ref b],[]⟩) (λ_ R s=>s.heap.IsTuple a xs/\s.heap.IsTuple b ys/\R (.ok (.ret (.ref (m9 s.heap a b).objs.size))) { s with heap:=fY s.heap a b }) :=
 .of_wp λprog w A R s h=>by
  obtain⟨U,g,d,f,os⟩:=s;obtain⟨j,l,h⟩:=h;have c:=sub_zip;have m:Heap.IsTuple (Shared.heap ⟨U,g,d,f,os⟩) a xs:=j;have n:Heap.IsTuple (Shared.heap ⟨U.push { cls:=.type "tuple_iterator", data:=.fields #[.ref a,.int 0 0] },g,d,f,os⟩) b ys:=let ⟨i,e,r⟩:=l;⟨i,Ad _ e,r⟩
  wp_walk using wpAny_pyIter_tuple m,wpAny_pyIter_tuple n
  exact⟨_,rfl,h⟩
section
variable{X:Cx}{elts:List Expr}{kt:Nat}{p2:Pos}
def M4(K:Aa)(c:TA):TI:=λσ H R=>c σ H λvs H1=>∃a b xs ys,vs=[.ref a,.ref b]/\SqT K H1 a xs/\SqT K H1 b ys/\R (mC K a b) H1
end
end L2
namespace D
open PySem PySem.Spec PyProof.Rows L2
def JA:List DV->List DV->List DV
 |x::xs,y::ys=>.tup [x,y]::JA xs ys
 |_,_=>[]
theorem xr:∀{xs ys:List DV}{i:Nat}{d:DV},(JA xs ys)[i]?=some d->∃x y,xs[i]?=some x/\ys[i]?=some y/\d=.tup [x,y]
  |x::xs,y::ys,0,d,h=>by simp[JA]at h;exact⟨x,y,rfl,rfl,h.symm⟩
  |x::xs,y::ys,i+1,d,h=>by obtain⟨a,b,c,e,f⟩:=xr (xs:=xs) (ys:=ys) (i:=i) (by simpa [JA]using h);exact⟨a,b,by simpa using c,by simpa using e,f⟩
  | [],_,_,_,h=>by simp[JA]at h
  |_::_,[],_,_,h=>by simp[JA]at h
theorem xt:∀(xs ys:List DV),(JA xs ys).length=min xs.length ys.length
 |x::xs,y::ys=>by simp only[JA,Ay,xt xs ys];lia
 | [],_=>by simp[JA]
 |_::_,[]=>by simp[JA]
def lX(f g:aB):fD:=λenv=>do
 let x <- f env
 let xs <- gt x
 let y <- g env
 let ys <- gt y
 pure (JA xs ys)
theorem wY{K:Aa}{ρ:Cj}{B:Ci}{H:Hp}{ds n:List DV}{a b:Addr}{xs ys:List V}(O:¬ B a)(Q:SqT K H a xs)(T:aq K ρ B H ds xs)(P:¬ B b)(R:SqT K H b ys)(rb:aq K ρ B H n ys):lR K ρ B H (JA ds n) (mC K a b):=λρ1 B1 H1 g S Y=>by
 have j:=g.nM O Q;have h:=g.nM P R;have c:=aq.gs g _ _ T;have t:=aq.gs g _ _ rb;refine⟨λi d e=>?_,xs,ys,j,h,?_⟩
 ·obtain⟨x,y,G,I,rfl⟩:=xr e;obtain⟨u,o,U⟩:=c.get G;obtain⟨v,r,X⟩:=t.get I;refine⟨⟨xs,ys,u,v,j,h,o,r⟩,λz H' C=>?_⟩;obtain⟨p,Z,v',f,J,L,E,F⟩:=C;subst E F;have l:=J xs j;have m:=L ys h;rw[o]at l;cases l;rw[r]at m;cases m;refine⟨Yb (λz=>Y p z f) (SqT.of Q3) (aq.gs (GC S f) _ _ (aq.cons U (aq.one X))),.inr ⟨p,_,f,rfl⟩⟩
 ·rw[xt,c.length,t.length];rcases Nat.le_total xs.length ys.length with q|q
  ·exact .inl (by rw[Nat.min_eq_left q];exact Ae _)
  ·exact .inr (by rw[Nat.min_eq_right q];exact Ae _)
section
variable{X:Cx}{elts:List Expr}{kt:Nat}{p2:Pos}{f g:aB}
def gT(a:List Nat):dY:=λd env=>do
 let ds <- gt d
 QG (decide (ds.length=a.length))
 pure ((a.zip ds).foldl (λc q=>c.set q.1 (.val q.2)) env)
def yM(X:Cx):List Nat->List Expr->Prop
 | [],[]=>True
 |i::c,.Name x _::a=>X.N[i]?=some x/\Loc X.env.scope x/\(X.fn x=true∨X.env.scope.names.lookup x=some .local)/\yM X c a
 |_,_=>False
theorem xS(n:X.N.Nodup):∀(l:List Nat)(c:List Expr),yM X l c->(∀a x p,(assignEach (.Name x p::a) X.env).map (·.2)=assign (.Name x p) X.env::(assignEach a X.env).map (·.2)) ->
    PGs X c (λvs σ H Q=>vs.length=l.length/\Q ((l.zip vs).foldl (λs q=>s.set q.1 (some q.2)) σ) H)
  | [],[],_,_=>by
    intro d s σ H vs us Q I r h;obtain⟨e,j⟩:=h;have:vs=[]:=by cases vs with|nil=>rfl|cons _ _=>simp at e
    subst this;exact P_ d s σ H [] us Q I r ⟨rfl,by simpa using j⟩
  |i::z,.Name x p::c,⟨e,j,t,u⟩,o=>by
    intro d s σ H vs us Q I r h;obtain⟨m,y⟩:=h;cases vs with
    |nil=>simp at m
    |cons v vs=>exact W9 (Gm n e j t) (xS n z c u o) (o _ _ _) d s σ H (v::vs) us Q I r ⟨v,vs,rfl,by simpa using m,by simpa using y⟩
theorem KQ{K:Aa}{Z:Ent}{ρ:Cj}{B:Ci}{U:Hs}{H:Hp}:∀(c:List Nat)(ds:List DV)(vs:List V){env:En}{σ:L2.St},aq K ρ B H ds vs->bN K Z env σ ρ B U H ->
    bN K Z ((c.zip ds).foldl (λe q=>e.set q.1 (.val q.2)) env) ((c.zip vs).foldl (λs q=>s.set q.1 (some q.2)) σ) ρ B U H
  | [],_,_,_,_,_,S=>by simpa using S
  |i::a,[],_,_,_,r,S=>by unfold aq at r;subst r;simpa using S
  |i::a,d::ds,_,_,_,r,S=>by unfold aq at r;obtain⟨v,vs,rfl,h,j⟩:=r;simpa using KQ a ds vs j (S.set (i:=i) h)
theorem KM(c:List Nat)(t:X.N.Nodup)(C:yM X c elts)(z:X.calm=true)(y:∀i x p,(assignEach (.Name x p::i) X.env).map (·.2)=assign (.Name x p) X.env::(assignEach i X.env).map (·.2))
  (hl:(assignEach elts X.env).length=c.length:=by rfl) (hst:(assignEach elts X.env).findIdx? (·.1)=none:=by rfl):PG X (.Tuple elts kt p2) (iW X.K (gT c)):=by
 intro n s σ H v u Q I r h;refine Mu z (xS t c elts C y) hl hst n s σ H v u Q I r ?_;obtain⟨Z,env,ρ,B,U,d,l,E,S,rd,e,k⟩:=h;obtain⟨ds,hp1,o,e⟩:=Qg e;obtain⟨rfl,rfl⟩:=Xw o;obtain⟨_,hp2,q,e⟩:=Qg e;obtain⟨F,rfl⟩:=QE q;obtain⟨rfl,rfl⟩:=Qm e;obtain⟨a,xs,rfl,J,G,m⟩:=rd.tupI;have j:xs.length=c.length:=by rw[<- m.length];exact Cb F
 exact⟨a,xs,rfl,G,j,j,k _ ρ B H Gs.refl (KQ c ds xs m S)⟩
def JX(f:aB)(g:dY):aD:=λenv=>do let d <- f env;let env' <- g d env;pure (.nx,env')
theorem Ym{a e:Expr}{g:dY}{h:Pos}(o:DE X e f)(q:PG X a (iW X.K g))(t:swapsWithSole [a] e h.line X.env=pure false:=by rfl)(u:swappedStores [a] e X.env=pure none:=by rfl)
  (h1:(assignEach [a] X.env).map (·.2)=[assign a X.env]:=by rfl):DS X (.Assign [a] e h) (JX f g) :=
 L2.PS.imp (Mr o q t u h1) λD σ H l=>by obtain⟨Z,env,ρ,B,U,fl,c,r,S,e,k⟩:=l;obtain⟨d,hp1,m,e⟩:=Qg e;obtain⟨aL,hp2,n,e⟩:=Qg e;obtain⟨z,rfl⟩:=Qm e;cases z;exact tD.run S m λv ρ1 i H1 g1 j x=>⟨Z,env,ρ1,i,hp1,d,c,hp2,j,x,n,λσ' ρ' B' H' g' S'=>k σ' ρ' B' H' ((g1.gs S.wo.rb).trans g') S'⟩
end
theorem XS{a:Int}{n i:Nat}{d:DV}(h:(QZ a n)[i]?=some d):i<n/\d=.int (a+i):=by
 have hi:i<n:=by have:=(Ac.mp h).1;simpa [QZ]using this
 refine⟨hi,?_⟩;simp[QZ,hi]at h;exact h.symm
theorem Qz(a:Int)(n:Nat):(QZ a n).length=n:=by simp[QZ]
theorem UZ{t:DV->M Bool}{f:DV->M DV}{p:Int->Bool}{g:Int->Int}(a:∀x,t (.int x)=pure (p x))(hf:∀x,f (.int x)=pure (.int (g x))):∀ns:List Int,ka t f (ns.map .int)=pure (((ns.filter p).map g).map .int)
  | []=>rfl
  |n::ns=>by
    rw[Az,ka,a,Cd];cases q:p n with
    |false=>rw[List.filter_cons_of_neg (by rw[q];decide)];exact UZ a hf ns
    |true=>rw[List.filter_cons_of_pos q];simp only[if_true,hf,Cd,UZ a hf ns,Az]
theorem yk:∀ns:List Int,cN (ns.map .int)=true
 | []=>rfl
 |_::r=>by simp[cN,kR,yk r]
theorem xZ:∀ns:List Int,bU (ns.map .int)=ns.map .int
 | []=>rfl
 |_::r=>by simp[bU,toP,xZ r]
theorem yV(i:Int):fK (.int i)=true:=by rfl
theorem BJ(b:Bool):fK (.bl b)=true:=by cases b<;>rfl
theorem vh(ns:List Int):fK (.tup (ns.map .int))=true:=by simp[fK,kR,yk,toP,xZ,SeqAt.shaped,PyData.canLay0,PyData.depth,PySem.W.ke_canLayAll0,PySem.W.ke_depthAll]
def kz(i j:Int):PyData.eqv (.int i) (.int j)=(i==j):=rfl
theorem yf:∀ns c:List Int,PyData.eqvAll (ns.map .int) (c.map .int)=decide (ns=c)
  | [],[]=>by simp[PyData.eqvAll]
  | [],_::_=>by simp[PyData.eqvAll]
  |_::_,[]=>by simp[PyData.eqvAll]
  |a::r,b::t=>by simp only[Az,PyData.eqvAll,PyData.eqv,yf r t];by_cases h:a=b<;>by_cases h':r=t<;>simp[h,h']
theorem YZ(i j:Int):tV (.int i) (.int j)=pure (.bl (i==j)):=by simp only[tV,yV,Bool.and_self,QG,if_true,Cd,toP,kz]
theorem qe(i j:Int):sS (.int i) (.int j)=pure (.bl (!(i==j))):=by simp only[sS,yV,Bool.and_self,QG,if_true,Cd,toP,kz]
theorem Ob{α:Type}{xs:List α}{i:Int}(a:0<=i)(c:i<xs.length):atI xs i=xs[i.toNat]?:=by unfold atI ixN;rw[B8 a,B8 c];rfl
theorem M0(ns:List Int)(h:ns≠[]):∃x,ns.getLast?=some x/\atI (ns.map DV.int) (-1)=some (.int x):=by obtain⟨r,x,rfl⟩:∃r x,ns=r++[x]:=⟨ns.dropLast,ns.getLast h,(List.dropLast_concat_getLast h).symm⟩;refine⟨x,by simp,?_⟩;rw[List.map_append];exact GI _ _
def opt:Option Int->DV
 |none=>.non
 |some i=>.int i
theorem Ji(x y:Int)(h:0<y):Za (.int x) (.int y)=pure (.int (x % y)):=by simp[Za,qS,wu,h]
theorem qJ(x y:Int)(h:0<y)(h':y<1073741824):Xb (.int x) (.int y)=pure (.int (x / y)):=by simp[Xb,qS,wz,h,h']
theorem qZ(x y:Int)(h:-(2 ^ 64)<x)(h':x<2 ^ 64):qY (.int x) (.int y)=pure (.int (x * y)):=by simp only[qY,qS,wk,Ca (Or.inl (b:=(-(2 ^ 64)<y/\y<2 ^ 64)) (And.intro h h')),if_true]
def XC(x y:Int):QP (.int x) (.int y)=pure (.int (x+y)):=rfl
def XW(x y:Int):Jj (.int x) (.int y)=pure (.int (x-y)):=rfl
def Y4(x y:Int):cR (.int x) (.int y)=pure (.bl (decide (y<x))):=rfl
def qc(x y:Int):bW (.int x) (.int y)=pure (.bl (decide (x<y))):=rfl
def Y8(x y:Int):cW (.int x) (.int y)=pure (.bl (decide (x<=y))):=rfl
def Y2(x y:Int):iM (.int x) (.int y)=pure (.bl (decide (y<=x))):=rfl
def XN(x:Int):wj (.int x)=pure (.int (-x)):=rfl
def VV:Yt (.int 10) (.int 30)=pure (.int 1000000000000000000000000000000):=rfl
def VU:Yt (.int 10) (.int 21)=pure (.int 1000000000000000000000):=rfl
def uZ:Yt (.int 10) (.int 9)=pure (.int 1000000000):=rfl
theorem vN{m:Int}(a:0<=m)(c:m<=1000000):XV m=true:=Ca ⟨⋯,⋯⟩
theorem JS(x y:Int)(h:0<y):0<=x % y/\x % y<y:=⟨Int.emod_nonneg _ ⋯,Int.emod_lt_of_pos _ h⟩
theorem CK{f g:aD}{env aL:En}(h:f env=pure (.nx,aL)):Qv f g env=g aL:=by simp only[Qv,h,Cd]
theorem CJ{i:Nat}{f:aB}{env:En}{d:DV}(h:f env=pure d):Qx i f env=pure (.nx,env.set i (.val d)):=by simp only[Qx,h,Cd]
theorem Ry{f:aB}{env:En}{d:DV}(h:f env=pure d):Zc f env=pure (.rt d,env):=by simp only[Zc,h,Cd]
theorem RD{n:Nat}{body:aD}{ds:List DV}{d:DV}{env:En}(h:body (ds.map .val++List.replicate (n-ds.length) .un)=pure (.rt d,env)):Zv n body ds=pure d:=by simp only[Zv,h,Cd]
theorem J2{g:DV->DV->M DV}{f a:aB}{env:En}{x y d:DV}(h:f env=pure x)(h':a env=pure y)(c:g x y=pure d):Qe g f a env=pure d:=by simp only[Qe,h,h',Cd,c]
section
variable{K:Aa}{ρ:Cj}{B:Ci}{U:Hs}{H:Hp}
theorem Gr.cU{p:Addr}{o:HO}(h:H p=none)(kf:K.lookup p=none):Gr K ρ B H (ρ++[p]) (jB B p) (upd H p o) where
 pre:=List.prefix_append _ _
 ban:=λ_ h=>.inl h
 new:=λa z=>z.elim .inl λe=>.inr (e▸⟨h,kf⟩)
 cu:=λa z=>(Ag.mp z).elim .inl λq=>.inr (by rw[Ap.mp q];exact h)
 keep:=λa u _ q=>by rw[QN (ZD q h)];exact q
 trk:=(Gr.laid (K:=K) (ρ:=ρ) (B:=B) h).trk
theorem aQ.cU{p:Addr}{o:HO}{v:OV}(W:aQ K ρ B U H)(h:H p=none)(kf:K.lookup p=none)(g:bx K (ρ++[p]) (jB B p) (upd H p o) p v):aQ K (ρ++[p]) (jB B p) (U++[v]) (upd H p o) where
 len:=by simp[W.len]
 nd:=List.nodup_append.mpr ⟨W.nd,by simp,λa d b f=>by rw[Ap.mp f];exact λz=>W.bt a (W.rb a d) (z▸h)⟩
 obj:=λi a u e q=>by
  by_cases hi:i<ρ.length
  ·rw[Af hi]at e;rw[Af (by rw[<- W.len];exact hi)]at q;exact bx.gs ((Gr.cU h kf).gs W.rb) (QN (λz=>W.bt a (W.rb a (As e)) (z▸h))) (W.obj i a u e q)
  ·rw[Ao ⋯]at e;rw[Ao (by rw[<- W.len];lia)]at q;have c:i-ρ.length=0:=by have:=(Ac.mp e).1;simp at this;lia
   rw[c]at e;rw[<- W.len,c]at q;simp at e q;subst e q;exact g
 rb:=λa z=>(Ag.mp z).elim (λq=>.inl (W.rb a q)) λq=>.inr (Ap.mp q)
 bt:=λa z q=>by
  have j:=(Gr.laid (K:=K) (ρ:=ρ) (B:=B) h).trk a q;rcases z with z|rfl
  ·exact W.bt a z j
  ·rw[Q3]at q;cases q
 bk:=λa z=>z.elim (W.bk a) λe=>e▸kf
theorem Gr.cX{i:Nat}{a:Addr}{o o':HO}(c:ρ[i]?=some a)(h:H a=some o):Gr K ρ B H ρ B (upd H a o') where
 pre:=Bp
 ban:=λ_ h=>h
 new:=λ_ h=>.inl h
 cu:=λ_ h=>.inl h
 keep:=λb u d q=>by rw[QN (show b≠a from λz=>d (by rw[z];exact As c))];exact q
 trk:=λb q=>by
  by_cases e:b=a
  ·subst e;rw[Q3]at q;cases q
  ·rw[QN e]at q;exact q
theorem aQ.cX{i:Nat}{a:Addr}{o o':HO}{v:OV}(W:aQ K ρ B U H)(c:ρ[i]?=some a)(h:H a=some o)(l:bx K ρ B (upd H a o') a v):aQ K ρ B (U.set i v) (upd H a o') where
 len:=by simp[W.len]
 nd:=W.nd
 obj:=λj b u e q=>by
  by_cases d:j=i
  ·subst d;rw[c]at e;cases e;have g:j<U.length:=by rw[<- W.len];exact(Ac.mp c).1
   rw[Aq g]at q;cases q;exact l
  ·rw[Aj (Ne.symm d)]at q;have f:b≠a:=λz=>d (by subst z;exact(List.getElem?_inj (Ac.mp e).1 W.nd).mp (e.trans c.symm))
   exact bx.gs ((Gr.cX c h).gs W.rb) (QN f) (W.obj j b u e q)
 rb:=W.rb
 bt:=λb z q=>W.bt b z ((Gr.cX (K:=K) (B:=B) c h).trk b q)
 bk:=W.bk
end
section
variable{X:Cx}{e a b c:Expr}{f fa fb fc:aB}{pos:Pos}
def Yi(o:OV):M DV:=λh=>some (.ref h.length,h++[o])
def Zx(i:Nat):M OV:=λh=>match h[i]? with
 |some o=>some (o,h)
 |none=>none
def jp(i:Nat)(o:OV):M Unit:=λh=>some ((),h.set i o)
theorem ZC{i:Nat}{o:OV}{U d:Hs}(h:Zx i U=some (o,d)):U[i]?=some o/\U=d:=by
 unfold Zx at h;cases q:U[i]? with
 |none=>rw[q]at h;cases h
 |some z=>rw[q]at h;cases h;exact⟨rfl,rfl⟩
def Zu(f:bM):aB:=λenv=>do let ds <- f env;QG (JV ds);Yi (.lst ds)
theorem kC{K:Aa}{ρ:Cj}{B:Ci}{H:Hp}{U:Hs}{ds:List DV}{xs:List V}{Q:VK}(W:aQ K ρ B U H)(r:aq K ρ B H ds xs)(k:eY K ρ B H (.ref U.length) (U++[.lst ds]) Q):∀p,H p=none->gC K (upd H p (.lst xs))->Q (.ref p) (upd H p (.lst xs)):=λp d kf=>by have kp:=kf p _ Q3;have g:Gr K ρ B H (ρ++[p]) (jB B p) (upd H p (.lst xs)):=Gr.cU d kp;refine k _ _ _ _ g (W.cU d kp ⟨xs,Q3,aq.grow W.rb g _ _ r⟩) ?_;unfold aA;exact⟨p,rfl,by rw[<- W.len];simp⟩
theorem Zg{g:List Expr}{f:bM}(h:DA X g f):DE X (.List g pos) (Zu f) :=
 L2.PE.imp (Bl h).kf λσ H Q j=>by obtain⟨Z,env,ρ,B,U,d,q,S,e,k⟩:=j;obtain⟨xs,hp1,l,m⟩:=Qg e;obtain⟨_,hp2,n,o⟩:=Qg m;obtain⟨r,rfl⟩:=QE n;cases o;exact dR.run S l λvs ρ1 B1 H1 g1 S1 i=>⟨by rw[<- i.length];exact YO r,kC S1.wo i (k.after g1)⟩
theorem aA.bf{K:Aa}{ρ:Cj}{B:Ci}{H:Hp}{U:Hs}{i:Nat}{o:OV}{v:V}(W:aQ K ρ B U H)(r:aA K ρ B H (.ref i) v)(h:U[i]?=some o):∃a,v=.ref a/\ρ[i]?=some a/\bx K ρ B H a o:=by obtain⟨a,rfl,e⟩:=r.mH;exact⟨a,rfl,e,W.obj i a o e h⟩
def D4:DV->DV->M DV
  |.ref n,.int i=>do
    match <- Zx n with
    |.lst ds=>match atI ds i with
      |some d=>pure d
      |none=>failure
    |_=>failure
  |x,y=>eV x y
def yL:List DV->M DV
  | [.ref n]=>do
    match <- Zx n with
    |.lst ds=>pure (.tup ds)
    |_=>failure
  |xs=>q_ xs
theorem jD:CallR X (.type "tuple") (eO X.K yL):=by
  intro j s σ H xs us Q I r h;obtain⟨ρ,B,U,ds,d,i,W,l,e,k⟩:=h;unfold yL at e;split at e
  . rename_i n
    obtain⟨o,hp1,m,g⟩:=Qg e;obtain⟨q,rfl⟩:=ZC m;cases o with
    |aJ _=>cases g
    |ins _ _=>cases g
    |lst y=>obtain⟨rfl,rfl⟩:=Qm g;obtain⟨v,rfl,x⟩:=l.bV;obtain⟨a,rfl,_,ys,t,u⟩:=aA.bf W x q;exact Yk j s σ H _ us Q I r ⟨a,ys,rfl,.inl ⟨SqL.of t,zw W u k⟩⟩
  . exact T6 j s σ H xs us Q I r ⟨ρ,B,U,_,d,i,W,l,e,k⟩
end
section
variable{f g:aD}{env aL fC:En}{c ca cb:bF}{e fa fb:aB}{d x y:DV}{r:Fl×En}
end
theorem Qf{α β:Type}{m:M α}{k:α->M β}{x:α}{U hp1:Hs}(h:m U=some (x,hp1)):(m >>= k) U=k x hp1:=by show(m U).bind (λp=>k p.1 p.2)=_;rw[h];rfl
def Qi{f g:aD}{env aL:En}{U hp1:Hs}(h:f env U=some ((.nx,aL),hp1)):Qv f g env U=g aL hp1:=Qf h
def Qt{i:Nat}{f:aB}{env:En}{d:DV}{U hp1:Hs}(h:f env U=some (d,hp1)):Qx i f env U=some ((.nx,env.set i (.val d)),hp1):=Qf h
theorem Tj{ds:List DV}{i:Int}{d:DV}(h:atI ds i=some d):eV (.tup ds) (.int i)=pure d:=by simp only[eV,h]
theorem Tn{ds:List DV}{i:Int}{d:DV}(h:atI ds i=some d):eV (.lst ds) (.int i)=pure d:=by simp only[eV,h]
theorem jF(ds:List DV)(m:Nat):D.YC ds none (some (m:Int))=ds.take m:=by unfold D.YC;rw[HT.sIx_nat];show(ds.drop 0).take (min m ds.length-0)=ds.take m;simp
theorem jE(ds:List DV)(m:Nat):D.YC ds (some (m:Int)) none=ds.drop m:=by
 unfold D.YC;rw[HT.sIx_nat];show(ds.drop (min m ds.length)).take (ds.length-min m ds.length)=ds.drop m;rcases Nat.le_total m ds.length with h|h
 ·rw[Nat.min_eq_left h,Bo (by simp)]
 ·rw[Nat.min_eq_right h,List.drop_of_length_le h,List.drop_of_length_le (Ae _)];simp
end D
namespace L2
open PySem PySem.Spec PyProof.Rows
section
variable{X:Cx}
def Lb:R2:=λx y H Q=>∃a c k v,x=.ref a/\y=kV k/\H a=some (.dK c)/\qx c k=some v/\Q v H
theorem Tg(f:X.A.units+1<cLine):IxR X Lb:=by intro value slice O9 s σ H x y v u Q I rx ry h hs;obtain⟨a,j,k,z,rfl,rfl,e,i,q⟩:=h;cases rx;have g:DGet H a (kV k) (some z):=i▸DGet.k e;exact tail_any (GT I g) PySem.F.slot_dict_getitem.lookup (He f I g ry λl s' d c=>⟨z,H,d,c,q⟩) hs
theorem UD(f:X.A.units+1<cLine):OpR X (compareOp .NotIn) (λx y H Q=>∃a c k,y=.ref a/\x=kV k/\H a=some (.dK c)/\Q (.bl (!(qx c k).isSome)) H):=by intro g s σ H x y v u Q I rx ry h;obtain⟨a,c,k,rfl,rfl,e,q⟩:=h;cases ry;exact T5 f I (DGet.k e) rx λs' d=>⟨.bl _,H,d,rfl,q⟩
def Ij:V->V->V->Hp->(Hp->Prop)->Prop:=λo i v H Q=>∃a c k,o=.ref a/\i=kV k/\H a=some (.dK c)/\c.length<sizeLine/\Q (upd H a (.dK (j7 c k v)))
theorem WM(f:X.A.units+1<cLine):oM X Ij:=λn s σ H o i v t r u Q I l j m h=>by obtain⟨a,g,k,rfl,rfl,d,e,q⟩:=h;cases l;exact Hc f I (DPut.k d e) j m λs' c=>⟨_,c,q⟩
def qR(n:Nat)(i:Int):Nat:=if i<0 then (i+(n:Int)).toNat else min i.toNat n
def RL:V->List V->Hp->VK->Prop:=λx vs H Q=>∃l xs i y,x=.ref l/\vs=[.int i,y]/\H l=some (.lst xs) /\ -(2 ^ 63)<=i/\i<2 ^ 63/\xs.length<sizeLine /\
 Q .non (upd H l (.lst (xs.take (qR xs.length i)++y::xs.drop (qR xs.length i))))
theorem HM:MtR X "list.insert" RL:=by
 intro E s σ H x vs v us Q I rx rv h;obtain⟨l,xs,i,y,rfl,rfl,c,d,f,hz,q⟩:=h;cases rx;obtain⟨u,u2,rfl,C,o⟩:=oV rv;obtain⟨t,rfl⟩:=C;obtain⟨z,a,n,r,j,e⟩:=I.lstM c;refine call_meets F.slot_list_insert ⟨_,e,rfl⟩ F.entry_list_insert (F.args_list_insert_3 _ _ _) (AutoSeq1.list_insert_list_int_val_1 l a.toArray n i t u2 (by rw[show Builtin.List.listFitsIndex i=true from fitsIndex_both d f];decide) (by rw[Am];lia)) ⟨e,?_⟩;refine⟨.non,_,I.lset (its':=a.take (qR a.length i)++u2::a.drop (qR a.length i)) c e ?_ ?_ ?_,rfl,q⟩
 ·have g:(if i<0 then (i+(a.toArray.size:Int)).toNat else min i.toNat a.toArray.size)=qR a.length i:=by rw[Am];rfl
  have m:qR a.length i<=a.length:=by unfold qR;split<;>lia
  simp only[g];apply Array.toList_inj.mp;simp;exact Bo (by simp)
 ·rw[j];exact(r.take _).append (.cons o (r.drop _))
 ·have:qR xs.length i<=xs.length:=by unfold qR;split<;>lia
  simp only[Ak,Ax,Ay,Ba];lia
end
end L2
namespace D
open PySem PySem.Spec PyProof.Rows L2
def yD:DV->Option Key
 |.int i=>some (.inl i)
 |.str x=>some (.inr x)
 |_=>none
def ZW(a:List (Key×DV))(k:Key):Option DV:=(a.find? λkv=>decide (kv.1=k)).map (·.2)
def Yu(a:List (Key×DV))(k:Key)(d:DV):List (Key×DV) :=
 if (a.any λkv=>decide (kv.1=k))=true then a.map (λkv=>if kv.1=k then (kv.1,d)else kv)else a++[(k,d)]
def wN(a:List (Key×DV))(k:Key):List (Key×DV):=a.filter λkv=>decide (kv.1≠k)
section
variable{K:Aa}{ρ:Cj}{B:Ci}{H:Hp}{U:Hs}
theorem Vn{d:DV}{k:Key}{v:V}(h:yD d=some k)(r:aA K ρ B H d v):v=kV k:=by
 cases d<;>simp[yD]at h<;>subst h
 ·exact r.aW
 ·exact r.fu
abbrev aU(K:Aa)(ρ:Cj)(B:Ci)(H:Hp):List (Key×DV)->List (Key×V)->Prop:=Paired λp q=>p.1=q.1/\aA K ρ B H p.2 q.2
theorem k9:∀{a:List (Key×DV)}{xs:List (Key×V)},xs.map (·.1)=a.map (·.1)->aq K ρ B H (a.map (·.2)) (xs.map (·.2))->aU K ρ B H a xs
  | [],[],_,_=>.nil
  | [],_::_,e,_=>by simp at e
  |_::_,[],e,_=>by simp at e
  |p::a,q::xs,e,r=>by simp only[Az,List.cons.injEq]at e;simp only[Az]at r;unfold aq at r;obtain⟨x,t,c,d,f⟩:=r;simp only[List.cons.injEq]at c;obtain⟨rfl,rfl⟩:=c;exact .cons ⟨e.1.symm,d⟩ (k9 e.2 f)
theorem aU.to{a:List (Key×DV)}{xs:List (Key×V)}(r:aU K ρ B H a xs):xs.map (·.1)=a.map (·.1)/\aq K ρ B H (a.map (·.2)) (xs.map (·.2)):=by
 induction r with
 |nil=>exact⟨rfl,aq.nil⟩
 |cons h _ c=>exact⟨by simp[c.1,h.1],by simpa using aq.cons h.2 c.2⟩
theorem aU.val{a:List (Key×DV)}{xs:List (Key×V)}(r:aU K ρ B H a xs)(k:Key):(ZW a k=none/\qx xs k=none)∨∃d v,ZW a k=some d/\qx xs k=some v/\aA K ρ B H d v:=by
  induction r with
  |nil=>exact .inl ⟨rfl,rfl⟩
  |@cons p q _ _ h _ f =>
    by_cases e:p.1=k
    . exact .inr ⟨p.2,q.2,by simp[ZW,Bh,e],by simp[qx,Bh,h.1▸e],h.2⟩
    . have c:¬ q.1=k:=h.1▸e
      simpa [ZW,qx,Bh,e,c]using f
theorem aU.any{a:List (Key×DV)}{xs:List (Key×V)}(r:aU K ρ B H a xs)(k:Key):(a.any λkv=>decide (kv.1=k))=xs.any λkv=>decide (kv.1=k):=by
 induction r with
 |nil=>rfl
 |cons h _ c=>simp only[Bs,c,h.1]
theorem aU.repl{a:List (Key×DV)}{xs:List (Key×V)}(r:aU K ρ B H a xs)(k:Key){d:DV}{v:V}(rd:aA K ρ B H d v):aU K ρ B H (a.map λkv=>if kv.1=k then (kv.1,d)else kv) (xs.map λkv=>if kv.1=k then (kv.1,v)else kv):=by
  induction r with
  |nil=>exact .nil
  |@cons p q _ _ h _ c =>
    refine .cons ?_ c;dsimp only;by_cases e:p.1=k
    . rw[B8 e,B8 (h.1▸e)];exact⟨h.1,rd⟩
    . rw[B7 e,B7 (h.1▸e)];exact h
theorem aU.snoc{a:List (Key×DV)}{xs:List (Key×V)}(r:aU K ρ B H a xs){k:Key}{d:DV}{v:V}(rd:aA K ρ B H d v):aU K ρ B H (a++[(k,d)]) (xs++[(k,v)]):=by
 induction r with
 |nil=>exact .cons ⟨rfl,rd⟩ .nil
 |cons h _ c=>exact .cons h c
theorem aU.put{a:List (Key×DV)}{xs:List (Key×V)}(r:aU K ρ B H a xs)(k:Key){d:DV}{v:V}(rd:aA K ρ B H d v):aU K ρ B H (Yu a k d) (j7 xs k v):=by
 unfold Yu j7;rw[r.any k];split
 ·exact r.repl k rd
 ·exact r.snoc rd
def aU.len{a:List (Key×DV)}{xs:List (Key×V)}(r:aU K ρ B H a xs):a.length=xs.length:=Paired.length r
def aU.gs{ρ':Cj}{c:Ci}{d:Hp}{a:List (Key×DV)}{xs:List (Key×V)}(g:Gs K ρ B H ρ' c d)(r:aU K ρ B H a xs):aU K ρ' c d a xs:=L2.Paired.mapP r λ_ _ h=>⟨h.1,aA.gs g _ _ h.2⟩
theorem bx.aJ{a:Addr}{c:List (Key×DV)}(h:bx K ρ B H a (.aJ c)):∃xs,H a=some (.dK xs)/\aU K ρ B H c xs:=by obtain⟨xs,e,d,f⟩:=h;exact⟨xs,e,k9 d f⟩
def aU.fO{a:Addr}{c:List (Key×DV)}{xs:List (Key×V)}(r:aU K ρ B H c xs)(e:H a=some (.dK xs)):bx K ρ B H a (.aJ c):=⟨xs,e,r.to.1,r.to.2⟩
theorem SN{n:Nat}{a:Addr}{xs d:List (Key×V)}{c:List (Key×DV)}(W:aQ K ρ B U H)(i:ρ[n]?=some a)(e:H a=some (.dK xs))(r:aU K ρ B H c d):Gr K ρ B H ρ B (upd H a (.dK d))/\aQ K ρ B (U.set n (.aJ c)) (upd H a (.dK d)):=by have g:Gr K ρ B H ρ B (upd H a (.dK d)):=Gr.cX i e;exact⟨g,W.cX (o':=.dK d) (v:=.aJ c) i e ((r.gs (g.gs W.rb)).fO Q3)⟩
theorem zm{n:Nat}{a:Addr}{o:HO}{c:List V}{d:List DV}(W:aQ K ρ B U H)(i:ρ[n]?=some a)(e:H a=some o)(r:aq K ρ B H d c):Gr K ρ B H ρ B (upd H a (.lst c))/\aQ K ρ B (U.set n (.lst d)) (upd H a (.lst c)):=by have g:Gr K ρ B H ρ B (upd H a (.lst c)):=Gr.cX i e;exact⟨g,W.cX (o':=.lst c) (v:=.lst d) i e ⟨c,Q3,aq.grow W.rb g _ _ r⟩⟩
end
section
variable{X:Cx}{e a b c:Expr}{f fa fb fc:aB}{pos:Pos}
def xO(o:Option DV):M DV:=match o with
 |some d=>pure d
 |none=>failure
theorem xP{o:Option DV}{d:DV}{U g:Hs}(h:xO o U=some (d,g)):o=some d/\U=g:=by
 cases o with
 |none=>cases h
 |some z=>obtain⟨rfl,rfl⟩:=Qm h;exact⟨rfl,rfl⟩
def YF(d:DV):M Key:=match yD d with
 |some k=>pure k
 |none=>failure
theorem xL{d:DV}{k:Key}{U g:Hs}(h:YF d U=some (k,g)):yD d=some k/\U=g:=by
 unfold YF at h;cases q:yD d with
 |none=>rw[q]at h;cases h
 |some z=>rw[q]at h;obtain⟨rfl,rfl⟩:=Qm h;exact⟨rfl,rfl⟩
def au:DV->DV->M DV
  |.ref n,y=>do
    match <- Zx n with
    |.lst ds=>do let i <- dM y;xO (atI ds i)
    |.aJ d=>do let k <- YF y;xO (ZW d k)
    |_=>failure
  |x,y=>eV x y
theorem Nx(P:X.A.units+1<cLine):IxR X (lF X.K au):=by
  intro value slice O9 s σ H x y v u Q I rx ry h hsub;obtain⟨ρ,B,U,Y,Z,d,r,W,F,t,e,k⟩:=h;unfold au at e;split at e
  . rename_i n
    obtain⟨o,hp1,J,j⟩:=Qg e;obtain⟨L,rfl⟩:=ZC J;obtain⟨a,rfl,i1,G⟩:=aA.bf W F L;cases o with
    |ins _ _=>cases j
    |aJ R =>
      obtain⟨E,hp2,l,m⟩:=Qg j;obtain⟨O,rfl⟩:=xL l;obtain⟨g,rfl⟩:=xP m;obtain⟨xs,q,rk⟩:=G.aJ;rcases rk.val E with ⟨z,_⟩|⟨d',v',z,T,C⟩
      . rw[g]at z;cases z
      . rw[g]at z;cases z
        exact Tg P value slice O9 s σ H _ _ v u Q I rx ry ⟨a,xs,E,v',rfl,Vn O t,q,T,k _ ρ B H Gr.refl W C⟩ hsub
    |lst ds=>obtain⟨i,hp2,l,m⟩:=Qg j;obtain⟨rfl,rfl⟩:=Vd l;obtain⟨g,rfl⟩:=xP m;obtain⟨xs,q,S⟩:=G;obtain⟨z,hz,C⟩:=KC S g;exact kM value slice O9 s σ H _ _ v u Q I rx ry ⟨a,xs,i,z,rfl,t.aW,SqL.of q,hz,k _ ρ B H Gr.refl W C⟩ hsub
  . exact wC value slice O9 s σ H x y v u Q I rx ry ⟨ρ,B,U,_,_,d,r,W,F,t,e,k⟩ hsub
theorem Qn(j:X.A.units+1<cLine)(d:DE X a fa)(g:DE X b fb)(i:Kw b:=by intro _ _;rfl):DE X (.Subscript a b pos) (Qe au fa fb):=L2.PE.imp (wM (Nx j) d g i) λ_ _ _ h=>qM h
def QV:List DV->M DV
  | [.ref n]=>do
    match <- Zx n with
    |.lst ds=>pure (.int ds.length)
    |.aJ d=>pure (.int d.length)
    |_=>failure
  |xs=>VF xs
theorem Q1:CallR X (.builtin "len") (eO X.K QV):=by
  intro g s σ H xs us Q I r h;obtain⟨ρ,B,U,ds,d,l,W,q,e,k⟩:=h;unfold QV at e;split at e
  . rename_i n
    obtain⟨o,hp1,u,i⟩:=Qg e;obtain⟨x,rfl⟩:=ZC u;obtain⟨v,rfl,z⟩:=q.bV;obtain⟨a,rfl,_,t⟩:=aA.bf W z x;cases o with
    |ins _ _=>cases i
    |lst C=>obtain⟨rfl,rfl⟩:=Qm i;obtain⟨ys,j,m⟩:=t;exact YX g s σ H _ us Q I r ⟨a,ys,rfl,.inl (SqL.of j),by rw[<- m.length];exact k _ ρ B H Gr.refl W ZZ⟩
    |aJ y=>obtain⟨rfl,rfl⟩:=Qm i;obtain⟨ys,j,m⟩:=t.aJ;exact HC g s σ H _ us Q I r ⟨a,ys,rfl,j,by rw[<- m.len];exact k _ ρ B H Gr.refl W ZZ⟩
  . exact wO g s σ H xs us Q I r ⟨ρ,B,U,_,d,l,W,q,e,k⟩
def mV:DV->M (List DV)
  |.tup ds=>pure ds
  |.lst ds=>pure ds
  |.ref n=>do
    match <- Zx n with
    |.lst ds=>pure ds
    |_=>failure
  |_=>failure
theorem vI{d:DV}{ds:List DV}{U g:Hs}{K:Aa}{ρ:Cj}{B:Ci}{H:Hp}{v:V}(W:aQ K ρ B U H)(r:aA K ρ B H d v)(h:mV d U=some (ds,g)):U=g/\∃p xs,v=.ref p/\(SqL K H p xs∨SqT K H p xs)/\aq K ρ B H ds xs:=by
  cases d with
  |tup xs=>obtain⟨rfl,rfl⟩:=Qm h;obtain⟨a,ys,rfl,_,j,l⟩:=r.tupI;exact⟨rfl,a,ys,rfl,.inr j,l⟩
  |lst xs=>obtain⟨rfl,rfl⟩:=Qm h;obtain⟨a,ys,rfl,_,j,l⟩:=r.bR;exact⟨rfl,a,ys,rfl,.inl j,l⟩
  |ref n =>
    obtain⟨o,hp1,m,i⟩:=Qg (show(Zx n >>= λo=>(match o with|.lst ds=>pure ds|_=>failure:M (List DV))) U=some (ds,g)from h);obtain⟨q,rfl⟩:=ZC m;cases o with
    |lst x=>obtain⟨rfl,rfl⟩:=Qm i;obtain⟨a,rfl,_,ys,t,u⟩:=aA.bf W r q;exact⟨rfl,a,ys,rfl,.inl (SqL.of t),u⟩
    |aJ _=>cases i
    |ins _ _=>cases i
  |non=>cases h
  |bl _=>cases h
  |int _=>cases h
  |str _=>cases h
def mj(g:DV->M DV):List DV->M DV
 | [d]=>g d
 |_=>failure
def lV:List DV->M DV:=mj λd=>do let ds <- mV d;pure (.lst ds)
def oU:List DV->M DV:=mj λd=>do let ds <- mV d;Yi (.lst ds)
theorem zx{g:DV->M DV}{ds:List DV}{d:DV}{U i:Hs}(h:mj g ds U=some (d,i)):∃x,ds=[x]/\g x U=some (d,i):=by
 unfold mj at h;split at h
 ·exact⟨_,rfl,h⟩
 ·cases h
theorem BX:CallR X (.type "list") (eO X.K lV):=by intro g s σ H xs us Q I r h;obtain⟨ρ,B,U,ds,d,m,W,n,e,k⟩:=h;obtain⟨x,rfl,e⟩:=zx e;obtain⟨t,hp1,i,j⟩:=Qg e;obtain⟨rfl,rfl⟩:=Qm j;obtain⟨v,rfl,o⟩:=n.bV;obtain⟨rfl,p,ys,rfl,q,l⟩:=vI W o i;exact call_list_of g s σ H _ us Q I r ⟨p,ys,rfl,q,zt W l k⟩
theorem _root_.L2.CallR.kf{f:Value}{r:List V->Hp->VK->Prop}(h:CallR X f r):CallR X f (λxs H Q=>r xs H λv d=>gC X.K d->Q v d):=by intro g s σ H xs us Q I rv q;refine thn (h g s σ H xs us _ I rv q) λv s' ⟨x,d,I',rx,q'⟩=>⟨x,d,I',rx,q' (Inv.iJ I')⟩
theorem Sd:CallR X (.type "list") (eO X.K oU):=by intro g s σ H xs us Q I r h;obtain⟨ρ,B,U,ds,d,m,W,n,e,k⟩:=h;obtain⟨x,rfl,e⟩:=zx e;obtain⟨t,hp1,i,j⟩:=Qg e;obtain⟨v,rfl,o⟩:=n.bV;obtain⟨rfl,p,ys,rfl,q,l⟩:=vI W o i;cases j;exact call_list_of.kf g s σ H _ us Q I r ⟨p,ys,rfl,q,kC W l k⟩
end
def aV:Nat->Hs->DV->Option DV
  |0,_,_=>none
  |n+1,U,d=>match d with
    |.ref i=>match U[i]? with
      |some (.lst ds)=>(ds.mapM (aV n U)).map .lst
      |_=>none
    |.tup ds=>(ds.mapM (aV n U)).map .tup
    |.lst ds=>(ds.mapM (aV n U)).map .lst
    |d=>some d
theorem VL{α β:Type}{f:α->Option β}{x:α}{xs:List α}{ys:List β}(h:(x::xs).mapM f=some ys):∃y a,f x=some y/\xs.mapM f=some a/\ys=y::a:=by
  rw[List.mapM_cons]at h;cases q:f x with
  |none=>rw[q]at h;cases h
  |some y =>
    cases c:xs.mapM f with
    |none=>rw[q,c]at h;cases h
    |some a=>rw[q,c]at h;exact⟨y,a,rfl,rfl,(Ai h).symm⟩
section
variable{X:Cx}{O9:Cf}{σ:St}{H:Hp}{s:Shared}{ρ:Cj}{B:Ci}{U:Hs}
theorem YK(I:Inv X O9 σ H s)(W:aQ X.K ρ B U H):∀(n:Nat)(d d':DV)(v:V)(u:Value),aV n U d=some d'->aA X.K ρ B H d v->RelV v u->∃g,Reads s.heap u (toP d') g
  |0,_,_,_,_,h,_,_=>by cases h
  |n+1,d,d',v,u,h,r,f=>by
    have all:∀(ds c:List DV)(xs:List V)(us:List Value),ds.mapM (aV n U)=some c->aq X.K ρ B H ds xs->Vals xs us->∃g,ReadsAll s.heap us (bU c) g:=by
      intro ds;induction ds with
      |nil=>intro c xs us h r f;rw[List.mapM_nil]at h;cases h;unfold aq at r;subst r;cases f;exact⟨[],by unfold bU;exact .nil⟩
      |cons x ds P =>
        intro c xs us h r f;obtain⟨y,Y,j,F,rfl⟩:=VL h;unfold aq at r;obtain⟨z,t,rfl,S,T⟩:=r;cases f with
        |cons Q R=>obtain⟨g,L⟩:=YK I W n x y z _ j S Q;obtain⟨bs,O⟩:=P Y t _ F T R;exact⟨_,by unfold bU;exact .cons L O⟩
    have lst:∀(ds c:List DV)(a:Addr)(xs:List V),ds.mapM (aV n U)=some c->SqL X.K H a xs->aq X.K ρ B H ds xs->∃g,Reads s.heap (.ref a) (toP (.lst c)) g:=by intro ds c a xs h E C;obtain⟨m,J,⟨o,k,e,G,_,hd⟩,_⟩:=I.list E;obtain⟨g,q⟩:=all ds c xs m h C J;exact⟨_,by unfold toP;exact reads_list_at e G hd (by simpa using q)⟩
    unfold aV at h;cases d with
    |non=>cases h;obtain rfl:=r.d8;cases f;exact⟨[],by unfold toP;exact .none⟩
    |bl b=>cases h;obtain rfl:=r.dX;cases f;exact⟨[],by unfold toP;exact .bool b⟩
    |int i=>cases h;obtain rfl:=r.aW;obtain⟨t,rfl⟩:=f;exact⟨[],by unfold toP;exact .int i t⟩
    |str x=>cases h;obtain rfl:=r.fu;obtain⟨t,rfl⟩:=f;exact⟨[],by unfold toP;exact .str x t⟩
    |tup ds=>obtain⟨c,j,rfl⟩:=Bk.mp h;obtain⟨a,xs,rfl,_,E,C⟩:=r.tupI;cases f;obtain⟨m,J,⟨o,e,G,k,hd⟩,_⟩:=I.tuple E;obtain⟨g,q⟩:=all ds c xs m j C J;exact⟨_,by unfold toP;exact reads_tuple_at e G hd (by simpa using q)⟩
    |lst ds=>obtain⟨c,j,rfl⟩:=Bk.mp h;obtain⟨a,xs,rfl,_,E,C⟩:=r.bR;cases f;exact lst ds c a xs j E C
    |ref i =>
      cases q:U[i]? with
      |none=>simp only[q]at h;cases h
      |some o =>
        simp only[q]at h;cases o with
        |aJ _=>cases h
        |ins _ _=>cases h
        |lst ds=>obtain⟨c,j,rfl⟩:=Bk.mp h;obtain⟨a,rfl,_,xs,F,l⟩:=aA.bf W r q;cases f;exact lst ds c a xs j (SqL.of F) l
end
def uw(d:DV):M DV:=λU=>(aV 40 U d).map λx=>(x,U)
theorem U1{d d':DV}{U a:Hs}(h:uw d U=some (d',a)):aV 40 U d=some d'/\U=a:=by obtain⟨x,c,e⟩:=Bk.mp h;cases e;exact⟨c,rfl⟩
def Xs(x y:DV):M Bool:=do
 let x' <- uw x
 let y' <- uw y
 QG (SeqAt.shaped (toP x')&&SeqAt.shaped (toP y'))
 pure (PyData.eqv (toP x') (toP y'))
def aX:DV->DV->M DV:=λx y=>do let b <- Xs x y;pure (.bl b)
def bC:DV->DV->M DV:=λx y=>do let b <- Xs x y;pure (.bl (!b))
section
variable{X:Cx}{e a b c:Expr}{f fa fb fc:aB}{ca cb:bF}{pos:Pos}
theorem U5{x y:DV}{k:Bool}{U d:Hs}(h:Xs x y U=some (k,d)):∃x' g,aV 40 U x=some x'/\aV 40 U y=some g/\SeqAt.shaped (toP x')=true/\SeqAt.shaped (toP g)=true/\k=PyData.eqv (toP x') (toP g)/\U=d:=by obtain⟨x',hp1,j,h⟩:=Qg h;obtain⟨g,hp2,l,h⟩:=Qg h;obtain⟨_,n,m,h⟩:=Qg h;obtain⟨o,rfl⟩:=U1 j;obtain⟨q,rfl⟩:=U1 l;obtain⟨i,rfl⟩:=QE m;obtain⟨rfl,rfl⟩:=Qm h;rw[A0]at i;exact⟨x',g,o,q,i.1,i.2,rfl,rfl⟩
theorem Jz(n:X.A.units+64<cLine):P2 X (compareOp .Eq) aX:=by intro E s σ H x y v u Q I rx ry h;obtain⟨ρ,B,U,G,J,d,m,W,r,t,e,k⟩:=h;obtain⟨b,hp1,j,l⟩:=Qg e;obtain⟨rfl,rfl⟩:=Qm l;obtain⟨x',L,o,q,z,C,rfl,rfl⟩:=U5 j;obtain⟨F,g⟩:=YK I W _ _ _ _ _ o r rx;obtain⟨bs,i⟩:=YK I W _ _ _ _ _ q t ry;exact eq_dataH g i z C n ⟨.bl _,H,I,rfl,k _ ρ B H Gr.refl W Xl⟩
theorem Ya(n:X.A.units+64<cLine):P2 X (compareOp .NotEq) bC:=by intro E s σ H x y v u Q I rx ry h;obtain⟨ρ,B,U,G,J,d,m,W,r,t,e,k⟩:=h;obtain⟨b,hp1,j,l⟩:=Qg e;obtain⟨rfl,rfl⟩:=Qm l;obtain⟨x',L,o,q,z,C,rfl,rfl⟩:=U5 j;obtain⟨F,g⟩:=YK I W _ _ _ _ _ o r rx;obtain⟨bs,i⟩:=YK I W _ _ _ _ _ q t ry;exact ne_dataH g i z C n ⟨.bl _,H,I,rfl,k _ ρ B H Gr.refl W Xl⟩
def Jt:DV->Bool
 |.non=>true
 |.bl _=>true
 |.int _=>true
 |.str _=>true
 |_=>false
def tU:DV->DV->Bool
 |.non,.non=>true
 |.bl a,.bl b=>a==b
 |.bl a,.int b=>(if a then 1 else 0)==b
 |.int a,.bl b=>a==(if b then 1 else 0)
 |.int a,.int b=>a==b
 |.str a,.str b=>a==b
 |_,_=>false
def iG:DV->V
 |.non=>.non
 |.bl b=>.bl b
 |.int i=>.int i
 |.str x=>.str x
 |_=>.non
theorem Cy{K:Aa}{ρ:Cj}{B:Ci}{H:Hp}{d:DV}{v:V}(h:Jt d=true)(r:aA K ρ B H d v):v=iG d:=by
 cases d<;>simp[Jt]at h
 ·exact r.d8
 ·exact r.dX
 ·exact r.aW
 ·exact r.fu
theorem G1{d:DV}(h:Jt d=true):X8 (iG d)=true:=by cases d<;>simp[Jt]at h<;>rfl
theorem TF{d e:DV}(h:Jt d=true)(h':Jt e=true):eqV (iG d) (iG e)=tU d e:=by cases d<;>simp[Jt]at h<;>cases e<;>simp[Jt]at h'<;>rfl
theorem Cz{K:Aa}{ρ:Cj}{B:Ci}{H:Hp}:∀{ds:List DV}{xs:List V},ds.all Jt=true->aq K ρ B H ds xs->xs=ds.map iG
  | [],_,_,r=>by unfold aq at r;exact r
  |d::ds,_,h,r=>by unfold aq at r;obtain⟨x,t,rfl,g,i⟩:=r;rw[Bw,A0]at h;rw[Cy h.1 g,Cz h.2 i];rfl
def inB(d:DV)(ds:List DV):Bool:=ds.any λy=>tU y d
theorem kG{d:DV}(h:Jt d=true):∀{ds:List DV},ds.all Jt=true->inV (iG d) (ds.map iG)=inB d ds
  | [],_=>rfl
  |x::ds,h'=>by rw[Bw,A0]at h';have g:=kG h h'.2;unfold inV inB at g ⊢;rw[Az,Bs,Bs,g,TF h'.1 h]
theorem GH:∀{ds:List DV},ds.all Jt=true->(ds.map iG).all X8=true
  | [],_=>rfl
  |x::ds,h=>by rw[Bw,A0]at h;rw[Az,Bw,G1 h.1,GH h.2];rfl
def lU(x:DV):DV->M Bool
  |.ref n=>do
    match <- Zx n with
    |.lst ds=>do QG (Jt x&&ds.all Jt);pure (inB x ds)
    |.aJ d=>do let k <- YF x;pure (ZW d k).isSome
    |_=>failure
  |.tup ds=>do QG (Jt x&&ds.all Jt);pure (inB x ds)
  |.lst ds=>do QG (Jt x&&ds.all Jt);pure (inB x ds)
  |_=>failure
def XO:DV->DV->M DV:=λx y=>do let b <- lU x y;pure (.bl (!b))
theorem uQ{x y:DV}{k:Bool}{U d:Hs}{K:Aa}{ρ:Cj}{B:Ci}{H:Hp}{m u:V}(W:aQ K ρ B U H)(E:aA K ρ B H x m)(C:aA K ρ B H y u)(h:lU x y U=some (k,d)):U=d /\
    ((∃p xs,u=.ref p/\(SqL K H p xs∨SqT K H p xs)/\X8 m=true/\xs.all X8=true/\k=inV m xs)∨∃a i r,u=.ref a/\m=kV r/\H a=some (.dK i)/\k=(qx i r).isSome):=by
  have l:∀(ds:List DV)(xs:List V)(p:Addr),(do QG (Jt x&&ds.all Jt);pure (inB x ds):M Bool) U=some (k,d)->aq K ρ B H ds xs->(SqL K H p xs∨SqT K H p xs)->u=.ref p->U=d/\(∃p xs,u=.ref p/\(SqL K H p xs∨SqT K H p xs)/\X8 m=true/\xs.all X8=true/\k=inV m xs):=by intro ds xs p h j t L;obtain⟨_,hp1,v,q⟩:=Qg h;obtain⟨g,rfl⟩:=QE v;obtain⟨rfl,rfl⟩:=Qm q;rw[A0]at g;have ex:=Cz g.2 j;have e0:=Cy g.1 E;subst ex e0;exact⟨rfl,p,_,L,t,G1 g.1,GH g.2,(kG g.1 g.2).symm⟩
  cases y with
  |tup ds=>obtain⟨a,xs,rfl,_,t,j⟩:=C.tupI;exact(l ds xs a h j (.inr t) rfl).imp id .inl
  |lst ds=>obtain⟨a,xs,rfl,_,t,j⟩:=C.bR;exact(l ds xs a h j (.inl t) rfl).imp id .inl
  |ref n =>
    obtain⟨o,hp1,v,q⟩:=Qg h;obtain⟨G,rfl⟩:=ZC v;obtain⟨a,rfl,_,F⟩:=aA.bf W C G;cases o with
    |lst ds=>obtain⟨xs,z,j⟩:=F;exact(l ds xs a q j (.inl (SqL.of z)) rfl).imp id .inl
    |aJ i=>obtain⟨r,hp2,I,J⟩:=Qg q;obtain⟨O,rfl⟩:=xL I;obtain⟨rfl,rfl⟩:=Qm J;obtain⟨xs,z,rk⟩:=F.aJ;refine⟨rfl,.inr ⟨a,xs,r,rfl,Vn O E,z,?_⟩⟩;rcases rk.val r with ⟨z1,z2⟩|⟨_,_,z1,z2,_⟩<;>rw[z1,z2]<;>rfl
    |ins _ _=>cases q
  |non=>cases h
  |bl _=>cases h
  |int _=>cases h
  |str _=>cases h
theorem xR(t:X.A.units+1<cLine):P2 X (compareOp .NotIn) XO:=by
 intro j s σ H x y v u Q I rx ry h;obtain⟨ρ,B,U,G,J,d,r,W,C,E,e,k⟩:=h;obtain⟨b,hp1,l,m⟩:=Qg e;obtain⟨rfl,rfl⟩:=Qm m;obtain⟨rfl,h⟩:=uQ W C E l;have g:=k _ ρ B H Gr.refl W (Xl (b:=!b));rcases h with ⟨p,xs,rfl,F,n,o,rfl⟩|⟨a,i,z,rfl,rfl,q,rfl⟩
 ·exact Gj j s σ H _ _ v u Q I rx ry ⟨p,xs,rfl,F,n,o,g⟩
 ·exact UD t j s σ H _ _ v u Q I rx ry ⟨a,i,z,rfl,rfl,q,g⟩
def Gn(o i d:DV):M Unit:=match o with
  |.ref n=>do
    match <- Zx n with
    |.lst ds=>do
      let k <- dM i
      match ixN ds.length k with
      |some j=>jp n (.lst (ds.set j d))
      |none=>failure
    |.aJ g=>do
      let k <- YF i
      QG (decide (g.length<lim))
      jp n (.aJ (Yu g k d))
    |_=>failure
  |_=>failure
def Ec(K:Aa)(g:DV->DV->DV->M Unit):oJ:=λo i v H Q=>∃ρ B U h j l d,aQ K ρ B U H/\aA K ρ B H h o/\aA K ρ B H j i/\aA K ρ B H l v/\g h j l U=some ((),d)/\∀ρ' B' H',Gr K ρ B H ρ' B' H'->aQ K ρ' B' d H'->Q H'
theorem aq.set{K:Aa}{ρ:Cj}{B:Ci}{H:Hp}{d:DV}{x:V}(r:aA K ρ B H d x):∀{ds:List DV}{xs:List V}(i:Nat),aq K ρ B H ds xs->aq K ρ B H (ds.set i d) (xs.set i x)
  | [],_,i,h=>by unfold aq at h;subst h;exact aq.nil
  |_::ds,_,0,h=>by unfold aq at h;obtain⟨y,t,rfl,_,g⟩:=h;exact aq.cons r g
  |_::ds,_,i+1,h=>by unfold aq at h;obtain⟨y,t,rfl,j,g⟩:=h;exact aq.cons j (aq.set r i g)
theorem Nv(hu:X.A.units+1<cLine):oM X (Ec X.K Gn):=by
  intro y s σ H o i v ov iv u Q I ro ri rv h;obtain⟨ρ,B,U,L,di,dv,Z,W,r1,F,G,e,k⟩:=h;cases L with
  |ref n =>
    obtain⟨ob,hp1,O,t⟩:=Qg e;obtain⟨P,rfl⟩:=ZC O;obtain⟨a,rfl,z,J⟩:=aA.bf W r1 P;cases ob with
    |ins _ _=>cases t
    |lst ds =>
      obtain⟨j,hp2,x,d⟩:=Qg t;obtain⟨rfl,rfl⟩:=Vd x;obtain⟨xs,l,E⟩:=J;cases q:ixN ds.length j with
      |none=>simp only[q]at d;cases d
      |some m=>simp only[q]at d;cases d;obtain⟨g,r⟩:=zm W z l (aq.set G m E);exact WF y s σ H _ _ v ov iv u Q I ro ri rv ⟨a,xs,j,m,rfl,F.aW,l,by rw[<- E.length];exact q,k ρ B _ g r⟩
    |aJ ac=>obtain⟨C,hp2,x,d⟩:=Qg t;obtain⟨T,rfl⟩:=xL x;obtain⟨_,ab,R,S⟩:=Qg d;obtain⟨Y,rfl⟩:=QE R;cases S;obtain⟨xs,l,rk⟩:=J.aJ;obtain⟨g,r⟩:=SN W z l (rk.put C G);exact WM hu y s σ H _ _ v ov iv u Q I ro ri rv ⟨a,xs,C,rfl,Vn T F,l,by rw[<- rk.len];exact Au (Cb Y) VG,k ρ B _ g r⟩
  |non=>cases e
  |bl _=>cases e
  |int _=>cases e
  |str _=>cases e
  |tup _=>cases e
  |lst _=>cases e
def dW(f g:aB):dY:=λd env=>do
 let o <- f env
 let i <- g env
 Gn o i d
 pure env
theorem xy{o i:Expr}{fo l:aB}(G:X.A.units+1<cLine)(E:DE X o fo)(hi:DE X i l)
  (ha:∀v,assign (.Subscript o i pos) X.env v=(do
   let ov <- holding [v] (eval o X.env)
   let iv <- holding [v,ov] (eval i X.env)
   standAt pos
   holding [v,ov,iv] (setItem ov iv v)
   release [v,ov,iv] []):=by intro _;rfl):PG X (.Subscript o i pos) (iW X.K (dW fo l)):=by
 intro n s σ H v u Q I r h;refine Mv E hi (Nv G) ha n s σ H v u Q I r ?_;obtain⟨Z,env,ρ,B,U,d,j,F,S,rd,e,k⟩:=h;obtain⟨x,hp1,q,e⟩:=Qg e;obtain⟨y,hp2,t,e⟩:=Qg e;obtain⟨z,g,C,e⟩:=Qg e;obtain⟨rfl,rfl⟩:=Qm e;refine tD.run S q λO ρ1 B1 H1 g1 S1 J=>tD.run S1 t λP ρ2 m H2 g2 S2 L=>?_;exact⟨ρ2,m,hp2,x,y,d,g,S2.wo,aA.grow S1.wo.rb g2 _ _ J,L,aA.grow S.wo.rb (g1.trans g2) _ _ rd,C,λρ3 B3 H3 g3 W3=>k _ ρ3 B3 H3 ((g1.trans (g2.trans g3)).gs S.wo.rb) (S2.grow g3 W3)⟩
def qk:String->DV->M Unit
  | "list", .lst _=>pure ()
  | "str", .str _=>pure ()
  |T,.ref n=>do
    match <- Zx n with
    |.lst _=>QG (T == "list")
    |.aJ _=>QG (T == "dict")
    |_=>failure
  |_,_=>failure
theorem G8{T:String}{d:DV}{U g:Hs}{K:Aa}{ρ:Cj}{B:Ci}{H:Hp}{v:V}{u:Unit}(W:aQ K ρ B U H)(r:aA K ρ B H d v)(h:qk T d U=some (u,g)):U=g/\tyV K T v H:=by
  unfold qk at h;split at h
  . obtain⟨_,rfl⟩:=Qm h
    obtain⟨a,xs,rfl,_,x,_⟩:=r.bR;exact⟨rfl,.inl ⟨rfl,xs,x⟩⟩
  . obtain⟨_,rfl⟩:=Qm h
    obtain rfl:=r.fu;exact⟨rfl,rfl⟩
  . obtain⟨o,hp1,n,i⟩:=Qg h
    obtain⟨q,rfl⟩:=ZC n;obtain⟨a,rfl,_,m⟩:=aA.bf W r q;cases o with
    |lst ds=>obtain⟨l,rfl⟩:=QE i;obtain⟨xs,j,_⟩:=m;exact⟨rfl,.inl ⟨by simpa using l,xs,SqL.of j⟩⟩
    |aJ t=>obtain⟨l,rfl⟩:=QE i;obtain⟨xs,j,_⟩:=m;exact⟨rfl,.inr (.inr (.inl ⟨by simpa using l,.inl ⟨xs,j⟩⟩))⟩
    |ins _ _=>cases i
  . cases h
def iU(K:Aa)(m:DV->List DV->M DV):V->List V->Hp->VK->Prop:=λx vs H Q=>∃ρ B U h ds d g,aQ K ρ B U H/\aA K ρ B H h x/\aq K ρ B H ds vs/\m h ds U=some (d,g)/\eY K ρ B H d g Q
def Zk(T:String)(m:DV->List DV->M DV)(f:aB)(a:bM):aB:=λenv=>do
 let x <- f env
 qk T x
 let ds <- a env
 m x ds
theorem Ze{T id:String}{name:Str}{o:Expr}{i:List Expr}{fo:aB}{fs:bM}{m:DV->List DV->M DV}{h g:Pos}(J:MtR X id (iU X.K m))(pa:PlainAttrs T)(slot:Slot T name id)(n:typeOf (.builtin id)=pure (.type "method_descriptor"))(L:DE X o fo)(I:DA X (e::i) fs)
  (hbase:attributeBase o name X.env (eval o X.env)=eval o X.env:=by rfl)
  (hfew:((backTo g (starEach (e::i) X.env)).all (λx=>!x.1)&&(backToKw g (keywordEach [] X.env)).all (λx=>x.1.isSome)
   && decide ((e::i).length+([]:List Keyword).length+(if ([]:List Keyword).isEmpty then 0 else 1)<30))=true:=by rfl)
  (hline:(h.endLine==g.line)=true:=by rfl) (hs:starEach (e::i) X.env=(false,eval e X.env)::starEach i X.env:=by rfl) (hplain:(backTo g (starEach i X.env)).any (·.1)=false:=by rfl) :
  DE X (.Call (.Attribute o name h) (e::i) [] g) (Zk T m fo fs) :=
 L2.PE.imp (Nr pa slot n J L I hbase hfew hline hs hplain) λσ H Q u=>by obtain⟨Z,env,ρ,B,U,d,j,S,e,k⟩:=u;obtain⟨x,hp1,y,E⟩:=Qg e;obtain⟨_,hp2,C,F⟩:=Qg E;obtain⟨ds,l,q,G⟩:=Qg F;refine tD.run S y λv ρ1 B1 H1 g1 S1 r=>?_;obtain⟨z,ty⟩:=G8 S1.wo r C;rw[<- z]at q;exact⟨ty,dR.run S1 q λvs ρ2 t H2 g2 S2 O=>⟨ρ2,t,l,x,ds,d,j,S2.wo,aA.grow S1.wo.rb g2 _ _ r,O,G,k.after (g1.trans g2)⟩⟩
theorem TX{T id:String}{name:Str}{o:Expr}{fo:aB}{m:DV->List DV->M DV}{g h:Pos}(F:MtR X id (iU X.K m))(pa:PlainAttrs T)(slot:Slot T name id)(j:typeOf (.builtin id)=pure (.type "method_descriptor"))(G:DE X o fo)
  (hbase:attributeBase o name X.env (eval o X.env)=eval o X.env:=by rfl) (hline:(g.endLine==h.line)=true:=by rfl):DE X (.Call (.Attribute o name g) [] [] h) (Zk T m fo Qk) :=
 L2.PE.imp (Pk pa slot j F G hbase hline) λσ H Q r=>by obtain⟨Z,env,ρ,B,U,d,i,S,e,k⟩:=r;obtain⟨x,hp1,t,C⟩:=Qg e;obtain⟨_,hp2,u,E⟩:=Qg C;obtain⟨ds,I,y,l⟩:=Qg E;obtain⟨z1,z2⟩:=Qm y;refine tD.run S t λv ρ1 q H1 g1 S1 n=>?_;obtain⟨z,ty⟩:=G8 S1.wo n u;rw[<- z1,<- z2,<- z]at l;exact⟨ty,ρ1,q,hp1,x,[],d,i,S1.wo,n,aq.nil,l,k.after g1⟩
def fJ(x:DV)(k:Nat->List DV->M DV):M DV:=match x with
  |.ref n=>do
    match <- Zx n with
    |.lst ds=>k n ds
    |_=>failure
  |_=>failure
def fZ(x:DV)(k:Nat->List (Key×DV)->M DV):M DV:=match x with
  |.ref n=>do
    match <- Zx n with
    |.aJ ds=>k n ds
    |_=>failure
  |_=>failure
theorem q8{x d:DV}{k:Nat->List DV->M DV}{U g:Hs}(h:fJ x k U=some (d,g)):∃n ds,x=.ref n/\U[n]?=some (.lst ds)/\k n ds U=some (d,g):=by
  cases x with
  |ref n =>
    obtain⟨o,hp1,j,i⟩:=Qg h;obtain⟨l,rfl⟩:=ZC j;cases o with
    |lst ds=>exact⟨n,ds,rfl,l,i⟩
    |aJ _=>cases i
    |ins _ _=>cases i
  |_=>cases h
def QY(x:DV):List DV->M DV
 | [d]=>fJ x λn ds=>do QG (decide (ds.length<lim));jp n (.lst (ds++[d]));pure .non
 |_=>failure
theorem Q9:MtR X "list.append" (iU X.K QY):=by
 intro m s σ H x vs v us Q I rx rv h;obtain⟨ρ,B,U,G,J,d,z,W,E,F,e,k⟩:=h;unfold QY at e;split at e
 ·rename_i y;obtain⟨n,ds,rfl,t,e⟩:=q8 e;obtain⟨_,hp1,q,r⟩:=Qg e;obtain⟨u,rfl⟩:=QE q;cases r;obtain⟨a,rfl,C,xs,j,l⟩:=aA.bf W E t;obtain⟨w,rfl,i⟩:=F.bV;obtain⟨g,o⟩:=zm W C j (aq.append l (aq.one i));exact Kh m s σ H _ _ v us Q I rx rv ⟨a,xs,w,rfl,rfl,j,by rw[<- l.length];exact Au (Cb u) VG,k _ ρ B _ g o qf⟩
 ·cases e
def J4(x:DV):List DV->M DV
 | [.int i,d]=>fJ x λn ds=>do QG (decide (ds.length<lim)&&XV i);jp n (.lst (ds.take (qR ds.length i)++d::ds.drop (qR ds.length i)));pure .non
 |_=>failure
theorem Wr:MtR X "list.insert" (iU X.K J4):=by
 intro E s σ H x vs v us Q I rx rv h;obtain⟨ρ,B,U,S,T,d,L,W,P,m,e,k⟩:=h;unfold J4 at e;split at e
 ·rename_i i y;obtain⟨n,ds,rfl,J,e⟩:=q8 e;obtain⟨_,hp1,F,G⟩:=Qg e;obtain⟨o,rfl⟩:=QE F;rw[A0]at o;have hi:=Cb o.2;cases G;obtain⟨a,rfl,O,xs,C,q⟩:=aA.bf W P J;unfold aq at m;obtain⟨z,t,rfl,R,m⟩:=m;obtain rfl:=R.aW;obtain⟨w,rfl,r⟩:=m.bV;have j:=q.length;obtain⟨g,u⟩:=zm W O C (aq.append (aq.take (qR ds.length i) q) (aq.cons r (aq.drop (qR ds.length i) q)));rw[j]at g u;have l:=k .non ρ B _ g;rw[j]at l;exact HM E s σ H _ _ v us Q I rx rv ⟨a,xs,i,w,rfl,rfl,C,⋯,⋯,by rw[<- j];exact Au (Cb o.1) VG,l u qf⟩
 ·cases e
def vc(x:DV):List DV->M DV
  | [y]=>fZ x λn g=>do
    let k <- YF y
    let d <- xO (ZW g k)
    jp n (.aJ (wN g k))
    pure d
  | [y,z]=>fZ x λn g=>do
    let k <- YF y
    match ZW g k with
    |some d=>do jp n (.aJ (wN g k));pure d
    |none=>pure z
  |_=>failure
def vb(x:DV):List DV->M DV
  | [y]=>fZ x λn d=>do
    let k <- YF y
    pure ((ZW d k).getD .non)
  | [y,z]=>fZ x λn d=>do
    let k <- YF y
    pure ((ZW d k).getD z)
  |_=>failure
end
end D
namespace L2
open PySem PySem.Spec PyProof.Rows
theorem Inv.i_{X:Cx}{a:Cf}{σ:St}{H:Hp}{s:Shared}(I:Inv X a σ H s):X.K.lookup s.heap.objs.size=none:=by
 cases q:X.K.lookup s.heap.objs.size with
 |none=>rfl
 |some o=>exact absurd (An (I.kIn _ o q)) (Bt _)
theorem BV{X:Cx}{c:Pos}:PE X (.Dict [] [] c) (λ_ H Q=>∀p,H p=none->X.K.lookup p=none->Q (.ref p) (upd H p (.dK []))):=λd s σ H Q I h =>
 wpAny_Dict_empty ⟨.ref s.heap.objs.size,_,I.laid (a:=s.heap.objs.size) (o:=.dK []) (t':=s.toks) (λ_ _ q=>Ad _ q) (Ae _) (MS s.heap I.big),rfl,h _ (I.hok.fresh (Ae _)) I.i_⟩
end L2
namespace D
open PySem PySem.Spec PyProof.Rows L2
section
variable{X:Cx}{e a b c:Expr}{f fa fb fc:aB}{ca cb:bF}{pos:Pos}
def k_:List (aB×aB)->En->M (List (Key×DV))
  | [],_=>pure []
  | (f,g)::r,env=>do
    let x <- f env
    let k <- YF x
    let y <- g env
    let ps <- k_ r env
    pure ((k,y)::ps)
def Ov(d more:List (Key×DV)):List (Key×DV):=more.foldl (λacc kv=>Yu acc kv.1 kv.2) d
def GZ(ps:List (aB×aB)):aB:=λenv=>do
 let kvs <- k_ ps env
 QG (decide (kvs.length<=15))
 Yi (.aJ (Ov [] kvs))
def XE:aB:=λ_=>Yi (.aJ [])
theorem jH:DE X (.Dict [] [] pos) XE:=L2.PE.imp BV λσ H Q j=>by obtain⟨Z,env,ρ,B,U,d,l,S,e,k⟩:=j;cases e;intro p i h;have g:Gr X.K ρ B H (ρ++[p]) (jB B p) (upd H p (.dK [])):=Gr.cU i h;refine k _ _ _ _ g (S.wo.cU i h (aU.fO (xs:=[]) .nil Q3)) ?_;unfold aA;exact⟨p,rfl,by rw[<- S.wo.len];simp⟩
abbrev NX:=Nat->M (Option DV)
def gF(K:Aa)(ρ:Cj)(B:Ci)(H:Hp)(nxt:NX)(J:It):Prop :=
  ∀ρ1 B1 hp1 g, Gs K ρ B H ρ1 B1 g -> aQ K ρ1 B1 hp1 g -> ∀(i : Nat)(o : Option DV)(hp2 : Hs), nxt i hp1 = some (o, hp2) -> hp2 = hp1 /\ match o with
    |none=>J.stop i g
    |some d=>J.go i g/\∀x h,J.yld i g x h->aA K ρ1 B1 h d x/\(h=g∨∃p o,g p=none/\h=upd g p o)
abbrev eZ:=En->M NX
def rP(K:Aa)(f:eZ):TI:=λσ H R=>∃Z env ρ B U nxt d,bN K Z env σ ρ B U H/\f env U=some (nxt,d)/\∀J ρ' B' H',Gr K ρ B H ρ' B' H'->aQ K ρ' B' d H'->gF K ρ' B' H' nxt J->R J H'
def DX(X:Cx)(g d:Expr)(f:eZ):Prop:=PI X g d (rP X.K f)
def bK(ds:List DV):NX:=λi=>if i<=ds.length then pure ds[i]? else failure
def dU(n:Nat):NX:=λi=>do
 match <- Zx n with
 |.lst ds=>pure ds[i]?
 |_=>failure
theorem uT{K:Aa}{ρ:Cj}{B:Ci}{H:Hp}{ds:List DV}{J:It}(h:lR K ρ B H ds J):gF K ρ B H (bK ds) J:=λρ1 B1 hp1 H1 g W i o hp2 e=>by
  unfold bK at e;by_cases hi:i<=ds.length
  . rw[B8 hi]at e
    obtain⟨rfl,rfl⟩:=Qm e;obtain⟨j,l⟩:=h ρ1 B1 H1 g W.rb W.bt;refine⟨rfl,?_⟩;cases q:ds[i]? with
    |none =>
      have:i=ds.length:=by have:=List.getElem?_eq_none_iff.mp q;lia
      subst this;exact l
    |some d=>exact j i d q
  . rw[B7 hi]at e;cases e
theorem Om{K:Aa}{ρ:Cj}{B:Ci}{H:Hp}{n:Nat}{a:Addr}(z:ρ[n]?=some a)(kf:∀h:Hp,∀xs ys,h a=some (.lst xs)->SqL K h a ys->ys=xs):gF K ρ B H (dU n) (Itl K a):=λρ1 B1 hp1 h g W i o hp2 e=>by
  obtain⟨E,C,t,j⟩:=Qg e;obtain⟨u,rfl⟩:=ZC t;have m:=kY g.pre z;cases E with
  |aJ _=>cases j
  |ins _ _=>cases j
  |lst ds =>
    obtain⟨rfl,rfl⟩:=Qm j;obtain⟨xs,l,r⟩:=W.obj n a _ m u;refine⟨rfl,?_⟩;cases q:ds[i]? with
    |none=>exact⟨xs,SqL.of l,by rw[<- r.length];exact List.getElem?_eq_none_iff.mp q⟩
    |some d=>obtain⟨x,hx,F⟩:=r.get q;refine⟨⟨xs,x,SqL.of l,hx⟩,λy H' ⟨v,hy⟩=>?_⟩;subst v;have:=hy xs (SqL.of l);rw[hx]at this;cases this;exact⟨F,.inl rfl⟩
theorem x_{K:Aa}{a:Addr}(d:K.lookup a=none)(H:Hp)(xs ys:List V)(h:H a=some (.lst xs))(h':SqL K H a ys):ys=xs:=by
 rcases h' with (h'|⟨o,h'⟩)|⟨o,_,_,h',_⟩
 ·rw[h]at h';cases h';rfl
 ·rw[h]at h';cases h'
 ·rw[d]at h';cases h'
def cg(f:fD):eZ:=λenv=>do let ds <- f env;pure (bK ds)
def cH(f:aB):eZ:=λenv=>do
  match <- f env with
  |.lst ds=>pure (bK ds)
  |.ref n=>do
    match <- Zx n with
    |.lst _=>pure (dU n)
    |_=>failure
  |_=>failure
variable{tg iter:Expr}
theorem Js{g:fD}(h:DI X tg iter g):DX X tg iter (cg g):=L2.PI.imp h λσ H R d=>by obtain⟨Z,env,ρ,B,U,nxt,l,S,e,k⟩:=d;obtain⟨ds,hp1,i,j⟩:=Qg e;obtain⟨rfl,rfl⟩:=Qm j;exact⟨Z,env,ρ,B,U,ds,hp1,S,i,λJ ρ' B' H' g W m=>k J ρ' B' H' g W (uT m)⟩
theorem Je(h:DE X iter f):DX X tg iter (cH f):=L2.PI.imp (PX (L2.PE.kf h)) λσ H R r=>by
  obtain⟨Z,env,ρ,B,U,nxt,j,S,e,k⟩:=r;obtain⟨d,hp1,t,g⟩:=Qg e;refine tD.run S t λv ρ1 B1 H1 g1 S1 m kf=>?_;cases d with
  |lst ds=>obtain⟨rfl,rfl⟩:=Qm g;obtain⟨a,xs,rfl,E,q,F⟩:=m.bR;exact⟨a,rfl,⟨xs,q⟩,k _ ρ1 B1 H1 g1 S1.wo (uT (Tp E q F))⟩
  |ref n =>
    obtain⟨o,hp2,u,i⟩:=Qg (show(Zx n >>= λo=>(match o with|.lst _=>pure (dU n)|_=>failure:M NX)) hp1=some (nxt,j)from g);obtain⟨x,y⟩:=ZC u;cases o with
    |lst ds=>obtain⟨rfl,z⟩:=Qm i;rw[<- z,<- y]at k;obtain⟨a,rfl,C,xs,l,_⟩:=aA.bf S1.wo m x;exact⟨a,rfl,⟨xs,SqL.of l⟩,k _ ρ1 B1 H1 g1 S1.wo (Om C (x_ (kf a _ l)))⟩
    |aJ _=>cases i
    |ins _ _=>cases i
  |non=>cases g
  |bl _=>cases g
  |int _=>cases g
  |str _=>cases g
  |tup _=>cases g
def Z8(nxt:NX)(b:DV->aD):Nat->Nat->aD
  |0,_,_=>failure
  |m+1,i,env=>do
    match <- nxt i with
    |none=>pure (.nx,env)
    |some d=>do
      let r <- b d env
      match r.1 with
      |.nx=>Z8 nxt b m (i+1) r.2
      |.ct=>Z8 nxt b m (i+1) r.2
      |.bk=>pure (.nx,r.2)
      |.rt x=>pure (.rt x,r.2)
def ZN(f:eZ)(g:dY)(body:aD):aD:=λenv=>do let nxt <- f env;Z8 nxt (λd env=>do let env' <- g d env;body env') 100000 0 env
theorem Zi{body:List Stmt}{T:eZ}{g:dY}{F:aD}(U:PassesOwn (model X.prog X.w) X.A X.env X.xe)(hc:X.calm=true)(hi:DX X tg iter T)(hg:PG X tg (iW X.K g))(hb:eN X body F)
    (hs:∀x,foldedSetIterable iter X.env x=pure x:=by intro _;rfl):DS X (.For tg iter body [] pos) (ZN T g F) :=
  (w6 U hc hi hg hb hs).imp λD σ H aF=>by
    obtain⟨Z,env,ρ,B,U,fl,h,n,S,e,k⟩:=aF;obtain⟨nxt,hp1,e1,e2⟩:=Qg e;refine⟨Z,env,ρ,B,U,nxt,hp1,S,e1,λJ ρ1 G H1 g1 W1 it=>?_⟩;have k1:=k.after (g1.gs S.wo.rb);refine⟨λi m σ H=>∃env ρ B U,bN X.K Z env σ ρ B U H/\Gs X.K ρ1 G H1 ρ B H/\Z8 nxt (λd env=>do let h <- g d env;F h) m i env U=some ((fl,h),n),
      ⟨100000,env,ρ1,G,hp1,S.grow g1 W1,Gs.refl,e2⟩,?_⟩
    rintro i m σ H ⟨fC,ρ2,B2,hp2,S2,g2,l⟩;cases m with
    |zero=>cases l
    |succ m =>
      obtain⟨o,j,eo,l⟩:=Qg l;obtain⟨rfl,t⟩:=it ρ2 B2 hp2 H g2 S2.wo i o j eo;cases o with
      |none=>obtain⟨z,rfl⟩:=Qm l;cases z;exact .inl ⟨t,k1 σ ρ2 B2 H g2 S2⟩
      |some d =>
        obtain⟨go,yl⟩:=t;obtain⟨⟨Q,L⟩,I,e4,E⟩:=Qg l;obtain⟨R,r,e6,e7⟩:=Qg e4;refine .inr ⟨go,λσ' H'=>∃env ρ B U,bN X.K Z env σ' ρ B U H'/\Gs X.K ρ1 G H1 ρ B H'/\Z8 nxt (λd env=>do let h <- g d env;F h) m (i+1) env U=some ((fl,h),n),
          λσ' H' q=>⟨m,Bv m,q⟩,λx H' y=>?_⟩
        obtain⟨rx,hx⟩:=yl x H' y;have P:bN X.K Z fC σ ρ2 B2 j H'/\Gs X.K ρ2 B2 H ρ2 B2 H':=by
          rcases hx with rfl|⟨p,o,O,rfl⟩
          . exact⟨S2,Gs.refl⟩
          . exact⟨S2.grow (Gr.laid O) (S2.wo.laid O),GC S2.wo.rb O⟩
        refine⟨Z,fC,ρ2,B2,j,d,R,r,P.1,rx,e6,λσ5 ρ5 Y H5 g5 S5=>⟨Z,R,ρ5,Y,r,Q,L,I,S5,e7,λσ6 ρ6 u H6 g6 C=>?_⟩⟩;have v:=g2.trans (P.2.trans (g5.trans g6));cases Q with
        |nx=>exact⟨L,ρ6,u,I,C,v,E⟩
        |ct=>exact⟨L,ρ6,u,I,C,v,E⟩
        |bk=>obtain⟨z,rfl⟩:=Qm E;cases z;exact k1 σ6 ρ6 u H6 v C
        |rt d=>obtain⟨z,rfl⟩:=Qm E;cases z;exact k1 σ6 ρ6 u H6 v C
def Xm(nxt:NX)(g:DV->M Bool)(f:DV->M DV):Nat->Nat->M (List DV)
  |0,_=>failure
  |m+1,i=>do
    match <- nxt i with
    |none=>pure []
    |some d=>do
      if <- g d then
        let y <- f d
        let ys <- Xm nxt g f m (i+1)
        pure (y::ys)
      else Xm nxt g f m (i+1)
def ZQ(nw:Bool)(src:eZ)(idx:List Nat)(t:bF)(f:aB):aB:=λenv=>do
 let nxt <- src env
 let out <- Xm nxt (λd=>t (cE idx env d)) (λd=>f (cE idx env d)) lim 0
 if nw then Yi (.lst out)else pure (.lst out)
variable{elt:Expr}{x:Str}{px:Pos}{ifs:List Expr}{scope:Scope}{cl:List (Str×Addr)}{caps:List Str}{idx:List Nat}{src:eZ}{te:bF}{nw:Bool}
theorem Vo{K:Aa}{σ:St}{H:Hp}{Q:VK}(h:tD K (ZQ nw src idx te f) σ H Q):oW K (rP K src) (dI K te) (tD K f) idx σ H Q:=by
  obtain⟨Z,env,ρ,B,U,d,R,S,e,k⟩:=h;obtain⟨nxt,hp1,e1,e2⟩:=Qg e;obtain⟨Y,ab,e5,e6⟩:=Qg e2;refine⟨Z,env,ρ,B,U,nxt,hp1,S,e1,λJ ρ1 B1 H1 g1 W1 it D F hK=>?_⟩;have FZ:=g1.gs S.wo.rb;refine⟨λi m ys H2=>H2 D=some (.lst ys)/\i+m=lim/\∃ρ2 l hp2 g u,Gr K ρ1 B1 H1 ρ2 l H2/\aQ K ρ2 l hp2 H2/\l D/\D∉ρ2/\aq K ρ2 l H2 g ys/\g.length<=i /\
    Xm nxt (λd=>te (cE idx env d)) (λd=>f (cE idx env d)) m i hp2=some (u,ab)/\g++u=Y,?_,?_⟩
  . exact⟨lim,Q3,Nat.zero_add _,ρ1,jB B1 D,hp1,[],Y,Gr.banned F hK,W1.banned F hK,.inr rfl,λz=>W1.bt D (W1.rb D z) F,aq.nil,Ae _,e5,rfl⟩
  . rintro i m ys H2 ⟨mQ,him,ρ2,l,hp2,g,u,g2,W2,bD,nD,rd,dn,I,e8⟩
    refine⟨mQ,?_⟩;cases m with
    |zero=>cases I
    |succ m =>
      obtain⟨o,r,eo,I⟩:=Qg I;obtain⟨rfl,T⟩:=it ρ2 l hp2 H2 (g2.gs W1.rb) W2 i o r eo;cases o with
      |some d0 =>
        obtain⟨go,yl⟩:=T;obtain⟨b,cA,e9,G⟩:=Qg I;refine .inr ⟨go,λx H3 y=>?_⟩;obtain⟨rx,hx⟩:=yl x H3 y;have E:Gr K ρ2 l H2 ρ2 l H3/\aQ K ρ2 l r H3:=by
          rcases hx with rfl|⟨p,o,hn,rfl⟩
          . exact⟨Gr.refl,W2⟩
          . exact⟨Gr.laid hn,W2.laid hn⟩
        have g3:=g2.trans E.1;have C3:=cσ_ok (idx:=idx) S (FZ.trans (g3.gs W1.rb)) E.2 rx;refine dI.run C3 e9 λρ4 B4 H4 g4 S4=>?_;have pI:H4 D=some (.lst ys):=g4.keep D _ nD (E.1.keep D _ nD mQ);have pA:D∉ρ4:=λz=>(g4.cu D z).elim nD λq=>by rw[E.1.keep D _ nD mQ]at q;cases q
        cases b with
        |false=>exact K6 ⟨m,Bv m,pI,⋯,ρ4,B4,cA,g,u,g3.trans g4,S4.wo,g4.ban D bD,pA,aq.grow W2.rb (E.1.trans g4) _ _ rd,⋯,G,e8⟩
        |true =>
          obtain⟨z,h_,pY,Hr⟩:=Qg G;obtain⟨zs,Fp,Hq,Ho⟩:=Qg Hr;obtain⟨rfl,rfl⟩:=Qm Ho;refine K7 (tD.run S4 pY λv ρ5 B5 H5 L S5 r5=>?_);have Fy:H5 D=some (.lst ys):=L.keep D _ pA pI;have sU:D∉ρ5:=λz=>(L.cu D z).elim pA λq=>by rw[pI]at q;cases q
          have tZ:B5 D:=L.ban D (g4.ban D bD);have C:=g3.trans (g4.trans L);have sE:=aq.grow W2.rb (E.1.trans (g4.trans L)) _ _ rd;have trk:∀b,(upd H5 D (.lst (ys++[v]))) b=none->H5 b=none:=λb q=>by
            by_cases e:b=D
            . subst e;rw[Q3]at q;cases q
            . rw[QN e]at q;exact q
          have g6:Gs K ρ5 B5 H5 ρ5 B5 (upd H5 D (.lst (ys++[v]))):=⟨Bp,λ_ h=>.inl h,λb o nb h=>by rw[QN (show b≠D from λz=>nb (by rw[z];exact tZ))];exact h,trk⟩;refine⟨Fy,?_,m,Bv m,Q3,⋯,ρ5,B5,h_,g++[z],zs,?_,?_,tZ,sU,aq.gs g6 _ _ (aq.append sE (aq.one r5)),by simp;lia,Hq,by rw[<- e8];simp⟩
          . have h1:=sE.length
            have h2:lim<sizeLine:=by decide
            lia
          . exact⟨C.pre,C.ban,C.new,C.cu,λb o nb h=>by rw[QN (show b≠D from λq=>by rw[q,F]at h;cases h)];exact C.keep b o nb h,λb q=>C.trk b (trk b q)⟩
          . exact⟨S5.wo.len,S5.wo.nd,λj b o n t=>bx.gs g6 (QN (show b≠D from λz=>sU (by rw[<- z];exact As n))) (S5.wo.obj j b o n t),S5.wo.rb,λb z q=>S5.wo.bt b z (trk b q),S5.wo.bk⟩
      |none =>
        obtain⟨z,z'⟩:=Qm I;subst z;subst z';refine .inl ⟨T,?_⟩;rw[Bc]at e8;subst e8;cases nw with
        |false =>
          obtain⟨rfl,rfl⟩:=Qm (show(pure (.lst g):M DV) r=some (d,R)from e6);have O:Gs K ρ2 l H2 ρ2 (λb=>l b/\b≠D) H2:=⟨Bp,λ_ h=>.inl h.1,λ_ _ _ h=>h,λ_ h=>h⟩;refine k (.ref D) ρ2 (λb=>l b/\b≠D) H2 (g1.trans ⟨g2.pre,λb z=>⟨g2.ban b z,λq=>W1.bt b z (q▸F)⟩,λb z=>g2.new b z.1,g2.cu,g2.keep,g2.trk⟩)
            ⟨W2.len,W2.nd,λj b o n t=>bx.gs O rfl (W2.obj j b o n t),λb z=>⟨W2.rb b z,λq=>nD (q▸z)⟩,λb z=>W2.bt b z.1,λb z=>W2.bk b z.1⟩ (Go (λz=>z.2 rfl) (SqL.of mQ) (aq.gs O _ _ rd))
        |true =>
          cases (show some (DV.ref r.length,r++[OV.lst g])=some (d,R)from e6);have O:Gs K ρ2 l H2 (ρ2++[D]) l H2:=⟨List.prefix_append _ _,λ_ h=>.inl h,λ_ _ _ h=>h,λ_ h=>h⟩;refine k (.ref D) (ρ2++[D]) l H2 (g1.trans ⟨g2.pre.trans (List.prefix_append _ _),g2.ban,g2.new,λa z=>(Ag.mp z).elim (g2.cu a) λq=>.inr (by rw[Ap.mp q];exact F),g2.keep,g2.trk⟩)
            ⟨by simp[W2.len],List.nodup_append.mpr ⟨W2.nd,by simp,λa ha b hb=>by rw[Ap.mp hb];exact λz=>nD (z▸ha)⟩,λj b o n t=>?_,λb z=>(Ag.mp z).elim (W2.rb b) λq=>by rw[Ap.mp q];exact bD,W2.bt,W2.bk⟩ ?_
          . by_cases hi:j<ρ2.length
            . rw[Af hi]at n
              rw[Af (by rw[<- W2.len];exact hi)]at t;exact bx.gs O rfl (W2.obj j b o n t)
            . rw[Ao ⋯]at n
              rw[Ao (by rw[<- W2.len];lia)]at t;have P:j-ρ2.length=0:=by have:=(Ac.mp n).1;simp at this;lia
              rw[P]at n;rw[<- W2.len,P]at t;simp at n t;subst n t;exact⟨ys,mQ,aq.gs O _ _ rd⟩
          . unfold aA
            exact⟨D,rfl,by rw[<- W2.len];simp⟩
theorem Jh(S:GE X x scope cl caps idx)(d:X.calm=true)(hi:DX X (.Name x px) iter src)
  (ht:∀C s₀ H₀ ex,oY (Xj X scope cl C (x::caps) s₀ H₀ ex) ifs te) (he:∀C s₀ H₀ ex,DE (Xj X scope cl C (x::caps) s₀ H₀ ex) elt f)
  (hs:∀x,foldedSetIterable iter X.env x=pure x:=by intro _;rfl):DE X (.ListComp elt [⟨.Name x px,iter,ifs,0⟩] scope pos) (ZQ nw src idx te f) :=
 L2.PE.imp (Rf (tt:=dI X.K te) (te:=tD X.K f) S d hi ht he hs) λ_ _ _ h=>Vo h
theorem MO(i:Nat){y:Str}{g d:Pos}(j:X.N.Nodup)(S:GE X x scope cl caps idx)(l:X.calm=true)(hi:DX X (.Name x px) iter src)
  (ht:∀C s₀ H₀ ex,oY (Xj X scope cl C (x::caps) s₀ H₀ ex) ifs te) (he:∀C s₀ H₀ ex,DE (Xj X scope cl C (x::caps) s₀ H₀ ex) elt f)
  (hy:X.N[i]?=some y:=by rfl) (hx:Loc X.env.scope y:=by first|exact Or.inl rfl|exact Or.inr rfl)
  (hsw:swapsWith (.ListComp elt [⟨.Name x px,iter,ifs,0⟩] scope pos) (some (.Name y g)) d.line X.env=pure true:=by with_unfolding_all rfl)
  (hf:X.fn y=true∨X.env.scope.names.lookup y=some .local:=by first|exact .inl rfl|exact .inr rfl|assumption)
  (hs:∀x,foldedSetIterable iter X.env x=pure x:=by intro _;rfl):DS X (.Assign [.Name y g] (.ListComp elt [⟨.Name x px,iter,ifs,0⟩] scope pos) d) (Qx i (ZQ nw src idx te f)) :=
 L2.PS.imp (Pz (tt:=dI X.K te) (te:=tD X.K f) S l hi ht he j hy hx hsw hf hs) λ_ _ _ h=>vw (λ_ _ _ q=>Vo q) h
end
def WP{α:Type}(m:M α)(U:Hs)(Q:α->Hs->Prop):Prop:=∃x a,m U=some (x,a)/\Q x a
section
variable{α β:Type}{m:M α}{k:α->M β}{U:Hs}{Q:α->Hs->Prop}{R:β->Hs->Prop}
theorem bQ{x:α}:WP (pure x) U Q↔Q x U:=⟨λ⟨y,h,e,q⟩=>by obtain⟨rfl,rfl⟩:=Qm e;exact q,λq=>⟨x,U,rfl,q⟩⟩
theorem yN:WP (m >>= k) U R↔WP m U λx h=>WP (k x) h R:=⟨λ⟨y,h,e,q⟩=>by obtain⟨x,d,a,c⟩:=Qg e;exact⟨x,d,a,y,h,c,q⟩,λ⟨x,d,a,y,h,c,q⟩=>⟨y,h,(Qf a).trans c,q⟩⟩
def WP.mono{a:α->Hs->Prop}(h:WP m U Q)(d:∀x h,Q x h->a x h):WP m U a:=let ⟨x,c,e,q⟩:=h;⟨x,c,e,d x c q⟩
def WP.of{x:α}{a:Hs}(e:m U=some (x,a))(q:Q x a):WP m U Q:=⟨x,a,e,q⟩
end
section
variable{U:Hs}{env:En}{Q:Fl×En->Hs->Prop}
theorem Rl{b:DV->aD}(I:Nat->En->Hs->Prop)(ds:List DV)(f:I 0 env U)(j:∀(i:Nat) d,ds[i]?=some d->∀env U,I i env U->WP (b d env) U λr h=>match r.1 with
    |.nx=>I (i+1) r.2 h
    |.ct=>I (i+1) r.2 h
    |.bk=>Q (.nx,r.2) h
    |.rt x=>Q (.rt x,r.2) h) (g:∀env U,I ds.length env U->Q (.nx,env) U):WP (xG b ds env) U Q:=by
  suffices h:∀(m i:Nat) env U,m+i=ds.length->I i env U->WP (xG b (ds.drop i) env) U Q by simpa using h ds.length 0 env U rfl f
  intro m;induction m with
  |zero =>
    intro i env U e hI;have:i=ds.length:=⋯
    subst this;rw[List.drop_length];exact bQ.mpr (g env U hI)
  |succ m c =>
    intro i env U e hI;have a:i<ds.length:=⋯
    rw[A7 a,xG,yN];refine(j i ds[i] (Ab a) env U hI).mono λr h q=>?_;obtain⟨fl,aL⟩:=r;cases fl with
    |nx=>exact c (i+1) aL h ⋯ q
    |ct=>exact c (i+1) aL h ⋯ q
    |bk=>exact bQ.mpr q
    |rt x=>exact bQ.mpr q
theorem YW{nxt:NX}{b:DV->aD}(ds:List DV)(I:Nat->En->Hs->Prop)(o:ds.length<100000)(f:∀(i:Nat) env U,i<=ds.length->I i env U->nxt i U=some (ds[i]?,U))(j:I 0 env U)(t:∀(i:Nat) d,ds[i]?=some d->∀env U,I i env U->WP (b d env) U λr h=>match r.1 with
    |.nx=>I (i+1) r.2 h
    |.ct=>I (i+1) r.2 h
    |.bk=>Q (.nx,r.2) h
    |.rt x=>Q (.rt x,r.2) h) (l:∀env U,I ds.length env U->Q (.nx,env) U):WP (Z8 nxt b 100000 0 env) U Q:=by
  suffices h:∀(m i n:Nat) env U,m+i=ds.length->m<n->I i env U->WP (Z8 nxt b n i env) U Q from h ds.length 0 100000 env U rfl o j;intro m;induction m with
  |zero =>
    intro i n env U e c hI;have:i=ds.length:=⋯
    subst this;obtain⟨n,rfl⟩:∃k,n=k+1:=⟨n-1,⋯⟩;rw[Z8,yN];refine WP.of (f _ env U (Ae _) hI) ?_;rw[show ds[ds.length]?=none by simp];exact bQ.mpr (l env U hI)
  |succ m g =>
    intro i n env U e c hI;have a:i<ds.length:=⋯
    obtain⟨n,rfl⟩:∃k,n=k+1:=⟨n-1,⋯⟩;rw[Z8,yN];refine WP.of (f i env U ⋯ hI) ?_;simp only[Ab a];rw[yN];refine(t i ds[i] (Ab a) env U hI).mono λr h q=>?_;obtain⟨fl,aL⟩:=r;cases fl with
    |nx=>exact g (i+1) n aL h ⋯ ⋯ q
    |ct=>exact g (i+1) n aL h ⋯ ⋯ q
    |bk=>exact bQ.mpr q
    |rt x=>exact bQ.mpr q
theorem Ys(ds:List DV)(i:Nat)(h:i<=ds.length)(U:Hs):bK ds i U=some (ds[i]?,U):=by unfold bK;rw[B8 h];rfl
theorem XQ{n:Nat}{ds:List DV}{U:Hs}(h:U[n]?=some (.lst ds))(i:Nat):dU n i U=some (ds[i]?,U):=by
 unfold dU;have:Zx n U=some (.lst ds,U):=by unfold Zx;rw[h]
 rw[Qf this];rfl
theorem Zr{b:DV->aD}(ds:List DV)(I:Nat->En->Hs->Prop)(e:ds.length<100000)(a:I 0 env U)(f:∀(i:Nat) d,ds[i]?=some d->∀env U,I i env U->WP (b d env) U λr h=>match r.1 with
  |.nx=>I (i+1) r.2 h
  |.ct=>I (i+1) r.2 h
  |.bk=>Q (.nx,r.2) h
  |.rt x=>Q (.rt x,r.2) h) (c:∀env U,I ds.length env U->Q (.nx,env) U):WP (Z8 (bK ds) b 100000 0 env) U Q :=
 YW ds I e (λi env U h _=>Ys ds i h U) a f c
end
def kh(n:Nat)(U:Hs)(i:Int):aV (n+1) U (.int i)=some (.int i):=rfl
def BW(n:Nat)(U:Hs)(b:Bool):aV (n+1) U (.bl b)=some (.bl b):=rfl
theorem JW{α:Type}{f:α->Option α}:∀{xs:List α},(∀x∈xs,f x=some x)->xs.mapM f=some xs
  | [],_=>rfl
  |x::xs,h=>by rw[List.mapM_cons,h x (by simp),JW λy a=>h y (At _ a)];rfl
theorem MR(n:Nat)(U:Hs)(ns:List Int):(ns.map DV.int).mapM (aV (n+1) U)=some (ns.map .int):=JW λx hx=>by obtain⟨i,_,rfl⟩:=By.mp hx;rfl
theorem GW(n:Nat)(U:Hs)(ns:List Int):aV (n+2) U (.tup (ns.map .int))=some (.tup (ns.map .int)):=by show((ns.map DV.int).mapM (aV (n+1) U)).map DV.tup=_;rw[MR];rfl
theorem Jn{d d':DV}{U:Hs}(h:aV 40 U d=some d'):uw d U=some (d',U):=by unfold uw;rw[h];rfl
theorem yR{x y x' a:DV}{U:Hs}(hx:aV 40 U x=some x')(e:aV 40 U y=some a)(c:fK x'=true)(d:fK a=true):Xs x y U=some (PyData.eqv (toP x') (toP a),U):=by unfold Xs;simp only[fK,A0]at c d;rw[Qf (Jn hx),Qf (Jn e)];simp only[c.2,d.2,Bool.and_self,QG,if_true,Cd];rfl
def G0(i j:Int)(U:Hs):Xs (.int i) (.int j) U=some (i==j,U):=yR (kh 39 U i) (kh 39 U j) (yV i) (yV j)
theorem ML(a b:Option Int)(U:Hs):Xs (opt a) (opt b) U=some (decide (a=b),U):=by
  have e:∀c:Option Int,aV 40 U (opt c)=some (opt c):=λc=>by cases c<;>rfl
  have s:∀c:Option Int,fK (opt c)=true:=λc=>by cases c<;>rfl
  rw[yR (e a) (e b) (s a) (s b)];cases a with
  |none=>cases b<;>simp[opt,toP,PyData.eqv]
  |some i =>
    cases b with
    |none=>simp[opt,toP,PyData.eqv]
    |some j=>simp only[opt,toP,PyData.eqv,Option.some.injEq];congr 1
theorem U6(a b:List Int)(U:Hs):Xs (.tup (a.map .int)) (.tup (b.map .int)) U=some (decide (a=b),U):=by rw[yR (GW 38 U a) (GW 38 U b) (vh a) (vh b)];simp only[toP,xZ,PyData.eqv,yf]
theorem Jw(p:Key×DV)(r:List (Key×DV))(j:Key):ZW (p::r) j=if p.1=j then some p.2 else ZW r j:=by
 by_cases e:p.1=j
 ·simp[ZW,Bh,e]
 ·simp[ZW,Bh,e]
theorem Uh(a b:List (Key×DV))(j:Key):ZW (a++b) j=match ZW a j with
    |some d=>some d
    |none=>ZW b j:=by
  induction a with
  |nil=>rfl
  |cons p r c =>
    rw[List.cons_append,Jw,Jw];split
    . rfl
    . exact c
theorem xo(a:List (Key×DV))(k:Key):(a.any λkv=>decide (kv.1=k))=(ZW a k).isSome:=by
  induction a with
  |nil=>rfl
  |cons p r c=>rw[Bs,Jw,c];by_cases e:p.1=k<;>simp[e]
theorem WH(c:List (Key×DV))(k j:Key)(d:DV):ZW (c.map λkv=>if kv.1=k then (kv.1,d)else kv) j=(ZW c j).map λx=>if j=k then d else x:=by
  induction c with
  |nil=>rfl
  |cons p r f =>
    rw[Az,Jw,Jw,f];by_cases e:p.1=k
    . rw[B8 e]
      by_cases a:p.1=j
      . have:j=k:=a▸e
        simp[a,this]
      . simp[a]
    . rw[B7 e]
      by_cases a:p.1=j
      . have:¬ j=k:=a▸e
        simp[a,this]
      . simp[a]
theorem S7(a:List (Key×DV))(k j:Key)(d:DV):ZW (Yu a k d) j=if j=k then some d else ZW a j:=by
  unfold Yu;rw[xo];cases q:ZW a k with
  |none =>
    rw[B7 (by simp),Uh,Jw];by_cases e:j=k
    . subst e;simp[q]
    . rw[B7 e,B7 (Ne.symm e)]
      cases ZW a j<;>rfl
  |some x =>
    rw[B8 (show(some x).isSome=true from rfl),WH];by_cases e:j=k
    . subst e;simp[q]
    . simp only[B7 e]
      cases ZW a j<;>rfl
theorem Q8{n:Nat}{o:OV}{U:Hs}(h:U[n]?=some o):Zx n U=some (o,U):=by unfold Zx;rw[h]
theorem WW{n:Nat}{a:List (Key×DV)}{U:Hs}{i d:DV}{k:Key}(h:U[n]?=some (.aJ a))(f:yD i=some k)(g:a.length<100000):Gn (.ref n) i d U=some ((),U.set n (.aJ (Yu a k d))):=by
 show(Zx n >>= _) U=_;rw[Qf (Q8 h)];have c:YF i U=some (k,U):=by unfold YF;rw[f];rfl
 have e:QG (decide (a.length<lim)) U=some ((),U):=by rw[show decide (a.length<lim)=true from Ca g];rfl
 show(YF i >>= λk=>QG (decide (a.length<lim)) >>= λ_=>jp n (.aJ (Yu a k d))) U=_;rw[Qf c,Qf e];rfl
theorem y0{f:aB}{g:dY}{env a:En}{d:DV}{U hp1 hp2:Hs}(h:f env U=some (d,hp1))(h':g d env hp1=some (a,hp2)):JX f g env U=some ((.nx,a),hp2):=by unfold JX;rw[Qf h,Qf h'];rfl
theorem ZE{α:Type}{m:M α}{x:α}(h:m=pure x)(U:Hs):m U=some (x,U):=by rw[h];rfl
theorem wZ{c:bF}{f g:aD}{env:En}{b:Bool}{U hp1:Hs}(h:c env U=some (b,hp1)):aN c f g env U=if b=true then f env hp1 else g env hp1:=by unfold aN;rw[Qf h];cases b<;>rfl
theorem Q2{f:aB}{env:En}{b:Bool}{U hp1:Hs}(h:f env U=some (.bl b,hp1)):eB f env U=some (b,hp1):=by unfold eB;rw[Qf h];rfl
theorem Qs{g:DV->DV->M DV}{f c:aB}{env:En}{x y d:DV}{U hp1 hp2 a:Hs}(h:f env U=some (x,hp1))(h':c env hp1=some (y,hp2))(e:g x y hp2=some (d,a)):Qe g f c env U=some (d,a):=by unfold Qe;rw[Qf h,Qf h',e]
theorem QC{f:aB}{env:En}{d:DV}{U hp1:Hs}(h:f env U=some (d,hp1)):Zc f env U=some ((.rt d,env),hp1):=by unfold Zc;rw[Qf h];rfl
theorem Zo{f g:aD}{env aL:En}{d:DV}{U hp1:Hs}(h:f env U=some ((.rt d,aL),hp1)):Qv f g env U=some ((.rt d,aL),hp1):=by unfold Qv;rw[Qf h];rfl
theorem Q0{f:aB}{env:En}{d:DV}{U hp1:Hs}(h:f env U=some (d,hp1)):Q5 f env U=some ((.nx,env),hp1):=by unfold Q5;rw[Qf h];rfl
theorem QB{n:Nat}{body:aD}{ds:List DV}{d:DV}{env:En}{U hp1:Hs}(h:body (ds.map .val++List.replicate (n-ds.length) .un) U=some ((.rt d,env),hp1)):Zv n body ds U=some (d,hp1):=by unfold Zv;rw[Qf h];rfl
theorem X6{c:bF}{env:En}{b:Bool}{U hp1:Hs}(h:c env U=some (b,hp1)):XF c env U=some (!b,hp1):=by unfold XF;rw[Qf h];rfl
end D
namespace TV
open PySem PyProof PyProof.Rows
theorem VQ:Manifest.owners.lookup (String.ofList ['d','e','s','r','e','v','e','r'].reverse)=some Manifest.sig_reversed:=by kernel_rfl
theorem slot_next:Slot "reversed" "__next__" "reversed.__next__" :=
 .of (owner := "reversed") (n := "__next__") (by rw[typeLookup_type,builtinLookup_eq_fast];kernel_rfl) (by decide +kernel) (by decide +kernel) (by decide +kernel)
  (by first|exact .inl (by decide +kernel)|exact .inr (by decide +kernel)) (by rw[isSubtype_type];kernel_rfl)
theorem Vr:entryFor table "reversed.__next__" = some Builtin.«reversed.__next__»:=entryFor_of_tree (by kernel_rfl)
theorem UR(a:Value):argsOk "reversed.__next__" ⟨[a],[]⟩:=by unfold argsOk;rw[signature?_of (id := "reversed.__next__") (n:=['_','_','t','x','e','n','_','_']) (o:=['d','e','s','r','e','v','e','r']) (by kernel_rfl) VQ];kernel_rfl
theorem Kl:Slot "reversed" "__iter__" "reversed.__iter__" :=
 .of (owner := "reversed") (n := "__iter__") (by rw[typeLookup_type,builtinLookup_eq_fast];kernel_rfl) (by decide +kernel) (by decide +kernel) (by decide +kernel)
  (by first|exact .inl (by decide +kernel)|exact .inr (by decide +kernel)) (by rw[isSubtype_type];kernel_rfl)
theorem HG(a:Value):argsOk "reversed.__iter__" ⟨[a],[]⟩:=by unfold argsOk;rw[signature?_of (id := "reversed.__iter__") (n:=['_','_','r','e','t','i','_','_']) (o:=['d','e','s','r','e','v','e','r']) (by kernel_rfl) VQ];kernel_rfl
theorem uA:entryFor table "reversed.__iter__" = some Builtin.«dict_keyiterator.__iter__» :=
 entryFor_alias (id' := "dict_keyiterator.__iter__") (by kernel_rfl) (by first|rfl|decide +kernel|(unfold String.splitOn;simp +decide [String.splitOnAux])) (by decide +kernel) (by kernel_rfl)
theorem cC:Slot "reversed" "__length_hint__" "reversed.__length_hint__" :=
 .of (owner := "reversed") (n := "__length_hint__") (by rw[typeLookup_type,builtinLookup_eq_fast];kernel_rfl) (by decide +kernel) (by decide +kernel) (by decide +kernel)
  (by first|exact .inl (by decide +kernel)|exact .inr (by decide +kernel)) (by rw[isSubtype_type];kernel_rfl)
theorem uz:entryFor table "reversed.__length_hint__" = some Builtin.«reversed.__length_hint__»:=entryFor_of_tree (by kernel_rfl)
theorem HI(a:Value):argsOk "reversed.__length_hint__" ⟨[a],[]⟩:=by unfold argsOk;rw[signature?_of (id := "reversed.__length_hint__") (n:=['_','_','t','n','i','h','_','h','t','g','n','e','l','_','_']) (o:=['d','e','s','r','e','v','e','r']) (by kernel_rfl) VQ];kernel_rfl
theorem Oo:typeLookup (.type "reversed") "__len__" = pure none:=by rw[typeLookup_type,builtinLookup_eq_fast];kernel_rfl
theorem gu:typeLookup (.type "tuple") "__reversed__" = pure none:=by rw[typeLookup_type,builtinLookup_eq_fast];kernel_rfl
theorem Ue:isSubtype (.type "tuple") (.type "dict")=pure false:=by rw[isSubtype_type];kernel_rfl
theorem WS:Slot "reversed" "__init__" "object.__init__" :=
 .of (owner := "object") (n := "__init__") (by rw[typeLookup_type,builtinLookup_eq_fast];kernel_rfl) (by decide +kernel) (by decide +kernel) (by decide +kernel)
  (by first|exact .inl (by decide +kernel)|exact .inr (by decide +kernel)) (by rw[isSubtype_type];kernel_rfl)
theorem bY:TypeCalled "reversed" "reversed.__new__" "object.__init__" :=
 ⟨by decide +kernel,by decide +kernel,⟨_,_,F.mro_reversed⟩,F.made_reversed,by decide +kernel,by rw[isSubtype_type];kernel_rfl,WS⟩
def su(l:Addr)(i:Int):Obj:={ cls:=.type "reversed", data:=.fields #[.ref l,rawInt i] }
section
variable{prog:Program}{w:World}{A:Around}{E:Ce}{s:Shared}
theorem MV{l:Addr}{items:Array Value}{Q₁:Ce}(d:IsTup s.heap l items)(hz:(items.size:Int)<2 ^ 63)
  (h:∀e,Q₁ (.ref s.heap.objs.size) { s with heap:=s.heap.push (su l ((items.size:Int)-1)),toks:=e }) :
  codeAny (model prog w) A (.call (.builtin "reversed.__new__") ⟨[.type "reversed", .ref l],[]⟩) (wants Q₁ E) s:=by
 refine codeAny_of_tree ?_;show wpAny _ A.in1 (do checkBuiltinCall "reversed.__new__" ⟨[.type "reversed", .ref l],[]⟩;again (.builtin "reversed.__new__" ⟨[.type "reversed", .ref l],[]⟩)) _ _ s;refine B0 (wpAny_of_eq (F.newCall_reversed_1 _) (B9 ⟨plainId_quiet F.plain_reversed_new _,codeAny_builtin F.entry_reversed_new ?_⟩));rw[Around.under_plainId F.plain_reversed_new _];unfold Builtin.«reversed.__new__»;refine B0 (wpAny_of_eq (newClass_reversed _) ?_)
 try dsimp only
 refine B0 (wpAny_of_eq (a:=()) (by first|rfl|kernel_rfl) ?_);refine B0 (wpAny_of_eq (a:=()) (by first|rfl|kernel_rfl) ?_)
 try dsimp only
 refine B0 (wpAny_specialOf d.typeIs gu ?_)
 try dsimp only
 refine B0 ?_
 wp_delta
 refine B0 (wpAny_isInstance (T := "tuple") (b:=false) d.typeIs Ue ?_);refine wpAny_ite_split (λc=>absurd c (by decide)) (λ_=>?_);refine B0 (wpAny_specialOf d.typeIs PyProof.Rows.slot_tuple_getitem.lookup ?_);dsimp only;refine wpAny_ite_split (λ_=>?_) (λc=>absurd (by decide +kernel) c);refine B9 ?_;refine wpAny_ite_split (λc=>absurd c (by decide)) (λ_=>?_);refine B0 (len_tuple d hz ?_);refine B0 (B9 ?_);dsimp only;unfold Builtin.SmallTypes.newRecord;dsimp only;refine B0 (wpAny_newObj_type ?_);exact B9 (h _)
end
def b_(h:Heap)(a l:Addr)(i:Int):Prop:=∃o,h.get? a=some o/\o.cls=.type "reversed" /\ o.data=.fields #[.ref l,rawInt i]
def b_.typeIs{s:Shared}{a l:Addr}{i:Int}(x:b_ s.heap a l i):s.TypeIs (.ref a) "reversed" := let ⟨o,d,c,_⟩:=x;⟨o,d,c⟩
def b_.at{h h':Heap}{a l:Addr}{i:Int}(x:b_ h a l i)(e:∀o,h.get? a=some o->h'.get? a=some o):b_ h' a l i:=let ⟨o,c,r⟩:=x;⟨o,e _ c,r⟩
def IsTup.at{h h':Heap}{a:Addr}{items:Array Value}(x:IsTup h a items)(e:∀o,h.get? a=some o->h'.get? a=some o):IsTup h' a items:=let ⟨o,c,r⟩:=x;⟨o,e _ c,r⟩
section
variable{prog:Program}{w:World}{A:Around}{E:Ce}{s:Shared}
theorem HL{d l:Addr}{i:Nat}{items:Array Value}{x:Value}{Q:Option Value->Shared->Prop}(c:b_ s.heap d l (i:Int))(f:IsTup s.heap l items)(hx:items[i]?=some x)(hz:(items.size:Int)<2 ^ 63)
  (hQ:∀h' h,b_ h' d l ((i:Int)-1)->Heap.SameBut d s.heap h'->Q (some x) { s with heap:=h',toks:=h }):wpAny (model prog w) A (pyNext (.ref d)) Q E s:=by
 obtain⟨o,e,g,hd⟩:=id c;have m:i<items.size:=(Array.getElem?_eq_some_iff.mp hx).1;unfold pyNext;refine B0 (wpAny_attempt (wpAny_callSpecial?_slot (name:=Str.ofString "__next__") c.typeIs slot_next
  (wpAny_call_entry slot_next c.typeIs Vr ?_ (UR _))))
 unfold Builtin.«reversed.__next__»;refine B0 (wpAny_of_eq (a:=(Value.ref d,[])) rfl ?_)
 try dsimp only
 refine B0 (wpAny_field e hd (x:=.ref l) rfl ?_);refine B0 (wpAny_field e hd (x:=rawInt (i:Int)) rfl ?_);show wpAny _ _ (if (i:Int)<0 then _ else _) _ _ s;rw[B7 ⋯];refine B0 (wpAny_specialOf f.typeIs PyProof.Rows.slot_tuple_getitem.lookup ?_);rw[B7 (by simp)];refine B0 (wpAny_mkInt ?_);refine B0 (wpAny_attempt (getItem_tuple (j:=i) (x:=x) f ⋯ ⋯ (seqIndex_of ⋯ ⋯) hx ?_));dsimp only;refine B0 (wpAny_field e hd (x:=rawInt (i:Int)) rfl ?_);show wpAny _ _ (setField (.ref d) 1 (rawInt ((i:Int)-1)) >>= _) _ _ _;refine B0 (wpAny_setField e hd (by simp) ?_);refine B9 ⟨x,rfl,B9 (hQ _ _ ?_ (Heap.SameBut.update ..))⟩;exact⟨_,Heap.get?_update_self _ e (Obj.isFreed_of_fields (Obj.data_mapFields hd _)),(Obj.cls_mapFields ..).trans g,by rw[Obj.data_mapFields hd];simp⟩
theorem Wh{f l:Addr}{Q:Option Value->Shared->Prop}(h:A.handled=none)(c:b_ s.heap f l (-1))
  (hQ:∀h',Heap.ExtBut f s.heap h'->Q none { s with heap:=h' }):wpAny (model prog w) A (pyNext (.ref f)) Q E s:=by
 obtain⟨o,d,i,hd⟩:=id c;unfold pyNext;refine B0 (wpAny_attempt (wpAny_callSpecial?_slot (name:=Str.ofString "__next__") c.typeIs slot_next
  (wpAny_call_entry slot_next c.typeIs Vr ?_ (UR _))))
 unfold Builtin.«reversed.__next__»;refine B0 (wpAny_of_eq (a:=(Value.ref f,[])) rfl ?_)
 try dsimp only
 refine B0 (wpAny_field d hd (x:=.ref l) rfl ?_);refine B0 (wpAny_field d hd (x:=rawInt (-1)) rfl ?_);show wpAny _ _ (if (-1:Int)<0 then _ else _) _ _ s;rw[B8 (by decide)];refine B0 (wpAny_rule ?_);refine B0 ?_
 wp_delta
 refine B0 (wpAny_setField d hd (by simp) ?_);have g1:=Heap.get?_update_self (Obj.mapFields (·.setIfInBounds 1 (rawInt (-1)))) d (Obj.isFreed_of_fields (Obj.data_mapFields hd _));refine wpAny_setField g1 (Obj.data_mapFields hd _) (by simp) ?_
 first
 |show wpAny _ _ (newExc (.type "StopIteration") [] >>= _) _ _ _
 | (refine B0 ?_;show wpAny _ _ (newExc (.type "StopIteration") [] >>= _) _ _ _)
 refine B0 ?_;simp only[newExc,newTuple];refine B0 (wpAny_newObj_type ?_ (by size_fits));refine B0 (m:=firstArgMember _ _) (wpAny_of_eq (a:=Value.none) (by first|rfl|(simp only[firstArgMember];rfl)) ?_);refine wpAny_newObj_type ?_ (by size_fits);simp only[raiseNew];refine B0 (wpAny_handled ?_)
 first|rw[show A.in1.handled=none from h]|rw[h]
 refine B0 (B9 (wpAny_throw ?_));refine B0 (wpAny_isInstance (T := "StopIteration") (b:=true) ⟨_,Ar _ rfl,rfl⟩ isSubtype_stop ?_);refine B9 (hQ _ λb j g e=>?_);refine Ad _ (Ad _ ?_);exact(Heap.get?_update_other _ _ (Ne.symm g)).trans ((Heap.get?_update_other _ _ (Ne.symm g)).trans e)
theorem Ka{c l:Addr}{i:Int}{Q:Ce}(a:b_ s.heap c l i)(h:Q (.ref c) s):wpAny (model prog w) A (pyIter (.ref c)) Q E s:=by refine wpAny_pyIter_slot a.typeIs Kl (wpAny_call_entry Kl a.typeIs uA ?_ (HG _));show wpAny _ _ (ret (.ref c)) _ _ s;exact B9 ⟨_,rfl, "reversed", _,a.typeIs,slot_next.lookup,h⟩
end
theorem Ma{prog:Program}{w:World}{A:Around}(t:A.handled=none)(I l:Addr)(n:l≠I)(items:Array Value)(hz:(items.size:Int)<2 ^ 63) :
  Walks prog w A I [I,l] [I] items.size (λi v=>items[items.size-1-i]?=some v) (λi h=>i<=items.size/\b_ h I l ((items.size:Int)-1-(i:Int))/\IsTup h l items) where
 sub:=λb d=>by simp at d;simp[d]
 frame:=λ_ _ _ x q=>⟨x.1,x.2.1.at λo e=>q I (by simp) o e,TV.IsTup.at x.2.2 λo e=>q l (by simp) o e⟩
 item:=λi s Q E hi x g=>by
  have e:(items.size:Int)-1-(i:Int)=((items.size-1-i:Nat):Int):=⋯
  have a:=x.2.1;rw[e]at a;have hx:items[items.size-1-i]?=some (items[items.size-1-i]'⋯):=Array.getElem?_eq_getElem ⋯;refine HL a x.2.2 hx hz λh' u c j=>?_;have r:((items.size-1-i:Nat):Int)-1=(items.size:Int)-1-((i+1:Nat):Int):=⋯
  rw[r]at c;exact g _ h' u hx ⟨hi,c,TV.IsTup.at x.2.2 λo f=>(j.2 l n).trans f⟩ λb o d f=>j.extBut b o (λh=>d (by simp[h])) f
 done:=λs Q E x g=>by
  have e:(items.size:Int)-1-(items.size:Int) = -1:=⋯
  have a:=x.2.1;rw[e]at a;exact Wh t a λh' m=>g h' s.toks λb o d f=>m b o (λh=>d (by simp[h])) f
 self:=λ_ _ _ _ x g=>Ka x.2.1 g
section
variable{prog:Program}{w:World}{A:Around}{E:Ce}{s:Shared}
theorem RB{I l:Addr}{items:Array Value}{Q:Bool->Shared->Prop}(d:b_ s.heap I l ((items.size:Int)-1))(q:IsTup s.heap l items)(hz:items.size<=2 ^ 24)
  (h:∀b u,Q b { s with toks:=u }):wpAny (model prog w) A (Builtin.List.listLengthHint (.ref I)) Q E s:=by
 obtain⟨o,j,v,hd⟩:=id d;unfold Builtin.List.listLengthHint;refine B0 (wpAny_specialOf d.typeIs Oo ?_);show wpAny _ A (specialOf (Value.ref I) (Str.ofString "__length_hint__") >>= _) _ _ _;refine B0 (wpAny_specialOf d.typeIs cC.lookup ?_);generalize e:("reversed.__length_hint__" : String)=i
 wp_delta
 rw[show splitId i=some ("reversed", "__length_hint__")from by subst e;decide +kernel];subst e;refine B0 (wpAny_isInstance (T := "reversed") (b:=true) d.typeIs (by rw[isSubtype_type];kernel_rfl) ?_);refine wpAny_ite_split (λc=>absurd c (by decide)) (λ_=>?_);refine wpAny_ite_split (λc=>absurd c (by decide +kernel)) (λ_=>?_);refine B0 (wpAny_rule ?_);refine B0 (wpAny_of_eq (cC.bind _) ?_);dsimp only;refine B0 (wpAny_attempt (wpAny_call_entry cC d.typeIs uz ?_ (HI _)));unfold Builtin.«reversed.__length_hint__»;refine B0 (wpAny_of_eq (a:=Value.ref I) rfl ?_);refine B0 (wpAny_field j hd (x:=.ref l) rfl ?_);refine wpAny_ite_split (λc=>absurd (show false=true from c) (by decide)) (λ_=>?_);refine B0 (len_tuple q ⋯ ?_);refine B0 (m:=asInt? _) (B9 ?_);dsimp only;refine B0 (wpAny_field j hd (x:=rawInt ((items.size:Int)-1)) rfl ?_);dsimp only[rawInt];refine wpAny_ite_split (λc=>absurd c ⋯) (λ_=>?_);refine B0 (wpAny_mkInt (B9 ⟨_,rfl,?_⟩));dsimp only;refine B0 (m:=asInt? _) (B9 ?_);dsimp only;have n:(items.size:Int)-1+1=(items.size:Int):=⋯
 rw[n];generalize y:(items.size:Int)=m;have r:0<=m:=⋯
 have t:m<=2 ^ 24:=⋯
 have g:Builtin.List.listTooLong m.toNat=false:=by simp[Builtin.List.listTooLong,sizeLine];lia
 have f:Builtin.List.listFitsIndex m=true:=by unfold Builtin.List.listFitsIndex;simp;lia
 refine wpAny_ite_split (λc=>absurd c (by rw[f];decide)) (λ_=>?_);refine wpAny_ite_split (λc=>absurd c ⋯) (λ_=>?_);exact wpAny_ite_split (λc=>absurd c (by rw[g];decide)) (λ_=>B9 (h _ _))
theorem ge{I l:Addr}{items:Array Value}{Q:List Value->Shared->Prop}(X:A.handled=none)(n:b_ s.heap I l ((items.size:Int)-1))(O:IsTup s.heap l items)(hz:items.size<=2 ^ 24)(L:l≠I)
    (hQ:∀(h':Heap)(x:Nat)(acc:Array Value),(∀b o',b≠I->s.heap.get? b=some o'->h'.get? b=some o')->ItemsOf (λi v=>items[items.size-1-i]?=some v) acc items.size->Q acc.toList { s with heap:=h',toks:=x }) :
    wpAny (model prog w) A (collect (.ref I)) Q E s:=by
  have W:=(Ma (prog:=prog) (w:=w) (A:=A.in1) X I l L items ⋯).toS;have C:I<s.heap.objs.size:=An n.choose_spec.1;have t:l<s.heap.objs.size:=O.lt;have g:s.heap.objs.size≠I:=Bx C;have J:s.heap.objs.size∉[I,l]:=λz=>by
    rcases A9.mp z with e|e
    . exact g e
    . exact Bx t (Ap.mp e)
  unfold collect;refine B0 (wpAny_runValue (codeAny_builtin F.entry_proto_collect ?_));rw[Around.under_plainId F.plain_proto_collect _];show wpAny _ A.in1 (newList [] >>= λl=>again (.builtin "list.__iadd__" ⟨[l,.ref I],[]⟩)) _ _ s;refine B0 (wpAny_newObj_type ?_);refine B9 ⟨plainId_quiet F.plain_list_iadd _,codeAny_builtin F.entry_list_iadd ?_⟩;rw[Around.under_plainId F.plain_list_iadd _];show wpAny _ A.in1 (Builtin.List.listExtendWith (.ref s.heap.objs.size) (.ref I) (.ref s.heap.objs.size)) _ _ _;have d:b_ (s.heap.push { cls:=.type "list", data:=.seq ([]:List Value).toArray }) I l ((items.size:Int)-1):=n.at λo e=>Ad _ e;have q:IsTup (s.heap.push { cls:=.type "list", data:=.seq ([]:List Value).toArray }) l items:=O.push _;have u:∀(h:Heap) (c₁ x:Nat),(∀b o,b≠s.heap.objs.size->(s.heap.push { cls:=.type "list", data:=.seq ([]:List Value).toArray }).get? b=some o->h.get? b=some o) ->
      h.get? s.heap.objs.size=some { cls:=.type "list", data:=.seq #[] c₁ }->codeAny (model prog w) A (.builtin "list.extend.loop" ⟨[.ref s.heap.objs.size,.ref I,.ref s.heap.objs.size],[]⟩) (λr s'=>match r with
      |.ok (.ret v)=>wpAny (model prog w) A (match v with
        |.ref a=>do
          let o <- load a
          match o.data with
            |.seq xs _=>pure xs.toList
            |_=>unsupported "internal:collect"
        |_=>unsupported "internal:collect") Q E s'
      |.ok _=>False
      |.error e=>E e s') { s with heap:=h,toks:=x }:=by
    intro h c₁ x hk hS₁;refine codeAny_extend_loopS W (by rw[sizeLine_eq];lia) _ J _ items.size 0 _ #[] c₁ rfl (A5 _) ⟨A5 _,by simpa using d.at λo e=>hk I o (Ne.symm g) e,TV.IsTup.at q λo e=>hk l o (A6 t) e⟩ hS₁ (ItemsOf.nil _) λs' j Y z G m=>?_;rw[Moved.eq_with z];show wpAny _ A (load s.heap.objs.size >>= _) _ _ _;refine B0 (wpAny_load G (B9 ?_));refine hQ s'.heap s'.toks j (λb o y e=>z.heap b o (λf=>?_) (hk b o (A6 (An e)) (Ad _ e))) m;rcases A9.mp f with P|f
    . exact A6 (An e) P
    . exact y (Ap.mp f)
  have hS₁:(s.heap.push { cls:=.type "list", data:=.seq ([]:List Value).toArray }).get? s.heap.objs.size=some { cls:=.type "list", data:=.seq #[] 0 }:=Ar _ rfl;unfold Builtin.List.listExtendWith;refine B0 (wpAny_typeOf (T := "reversed") d.typeIs ?_);have R:Builtin.List.listSameRef (.ref s.heap.objs.size) (.ref I)=false:=by simp[Builtin.List.listSameRef,g]
  have S:(Value.type "reversed" == Value.type "list")=false:=by decide
  have U:(Value.type "reversed" == Value.type "tuple")=false:=by decide
  simp only[R,S,U,Bool.or_false,Av,if_false];refine B0 (Ka d ?_);refine B0 (wpAny_holding (RB d q hz λb x=>?_));refine wpAny_ite_split (λ_=>?_) (λ_=>B9 ⟨plainId_quiet F.plain_extend_loop _,u _ 0 _ (λb o _ e=>e) hS₁⟩);refine B0 (wpAny_rule ?_);refine B0 ?_;show wpAny _ _ (updateSeq s.heap.objs.size (·.push .none) >>= λ_=>updateSeq s.heap.objs.size (·.pop)) _ _ _;refine B0 (wpAny_updateSeq hS₁ rfl ?_);have hS₂:=Heap.get?_update_self (Obj.mapSeq (·.push Value.none)) hS₁ rfl;refine wpAny_updateSeq (hz:=by seq_fits) hS₂ rfl ?_;have hS₃:=Heap.get?_update_self (Obj.mapSeq (·.pop)) hS₂ rfl;refine B9 ⟨plainId_quiet F.plain_extend_loop _,u _ _ _ (λb o y e=>?_) hS₃⟩;exact(Heap.get?_update_other _ _ (Ne.symm y)).trans ((Heap.get?_update_other _ _ (Ne.symm y)).trans e)
theorem Vi{Q₁:Ce}{I l:Addr}{items:Array Value}(n:A.handled=none)(c:b_ s.heap I l ((items.size:Int)-1))(o:IsTup s.heap l items)(hz:items.size<=2 ^ 24)(g:l≠I)
  (h:∀(h':Heap) (j:Nat) (acc:Array Value),(∀b o',b≠I->s.heap.get? b=some o'->h'.get? b=some o')->ItemsOf (λi v=>items[items.size-1-i]?=some v) acc items.size->Q₁ (.ref h'.objs.size) { s with heap:=h'.push { cls:=.type "tuple", data:=.seq acc },toks:=j }) :
  codeAny (model prog w) A (.call (.builtin "tuple.__new__") ⟨[.type "tuple", .ref I],[]⟩) (wants Q₁ E) s:=by
 refine codeAny_of_tree ?_;show wpAny _ A.in1 (do checkBuiltinCall "tuple.__new__" ⟨[.type "tuple", .ref I],[]⟩;again (.builtin "tuple.__new__" ⟨[.type "tuple", .ref I],[]⟩)) _ _ s;refine B0 (wpAny_of_eq (F.newCall_tuple_1 _) (B9 ⟨plainId_quiet F.plain_tuple_new _,codeAny_builtin F.entry_tuple_new ?_⟩));rw[Around.under_plainId F.plain_tuple_new _];have m:=sub_tuple_self;have f:=init_tuple_lookup;have r:=madeHere_tuple;have d:s.TypeIs (.ref I) "reversed" := c.typeIs
 wp_walk using wpAny_typeOf d,ge (A:=A.in1) n c o hz g
 intro h' j acc q a;show wpAny _ _ (Builtin.Tuple.tupleExact acc.toList.toArray >>= λv=>ret v) _ _ _;unfold Builtin.Tuple.tupleExact;have sz:items.size<=sizeLine:=A8 hz (by decide);refine B0 (wpAny_newObj_type ?_ (by show acc.toList.toArray.size<=sizeLine;simp only[Array.toArray_toList];rw[a.1];exact sz));refine B9 ?_;have e:acc.toList.toArray=acc:=by simp
 rw[e];exact h h' j acc q a
theorem cP{Q:Ce}{I l:Addr}{items:Array Value}(f:A.handled=none)(c:b_ s.heap I l ((items.size:Int)-1))(g:IsTup s.heap l items)(hz:items.size<=2 ^ 24)(d:l≠I)
  (hQ:∀(h':Heap) (e:Nat) (acc:Array Value),(∀b o',b≠I->s.heap.get? b=some o'->h'.get? b=some o')->ItemsOf (λi v=>items[items.size-1-i]?=some v) acc items.size->Q (.ref h'.objs.size) { s with heap:=h'.push { cls:=.type "tuple", data:=.seq acc },toks:=e }) :
  wpAny (model prog w) A (call (.type "tuple") [.ref I]) Q E s:=by
 refine callType_codes (Q₁:=λobj s₁=>s₁.TypeIs obj "tuple" /\ Q obj s₁) F.called_tuple (F.typeCall_tuple_1 _) F.entry_object_init
  (Vi (A:=A.in1) f c g hz d λh' e acc j a=>⟨⟨_,Ar _ rfl,rfl⟩,hQ h' e acc j a⟩) λobj s₁ h₁=>?_
 exact⟨h₁.1,F.args_object_init_2 obj _,object_init_meets F.called_tuple.init.lookup F.called_tuple.made (by decide) prog w A.in1 _ s₁ ⟨h₁.1,rfl,h₁.2⟩⟩
theorem fX{Q:Ce}{l:Addr}{items:Array Value}(c:IsTup s.heap l items)(hz:(items.size:Int)<2 ^ 63)
  (hQ:∀a,Q (.ref s.heap.objs.size) { s with heap:=s.heap.push (su l ((items.size:Int)-1)),toks:=a }) :
  wpAny (model prog w) A (call (.type "reversed") [.ref l]) Q E s:=by
 refine callType_codes (Q₁:=λobj s₁=>s₁.TypeIs obj "reversed" /\ Q obj s₁) bY (F.typeCall_reversed_1 _) F.entry_object_init
  (MV (A:=A.in1) c hz λa=>⟨⟨_,Ar _ rfl,rfl⟩,hQ a⟩) λobj s₁ h₁=>?_
 exact⟨h₁.1,F.args_object_init_2 obj _,object_init_meets bY.init.lookup bY.made (by decide) prog w A.in1 _ s₁ ⟨h₁.1,rfl,h₁.2⟩⟩
end
end TV
namespace D
open PySem PySem.Spec PyProof.Rows L2
variable{X:Cx}
theorem zC:∀{us:List Value}{ns:List Int},IntsAre us ns->Vals (ns.map V.int) us
 |_,_,.nil=>.nil
 |_,_,.cons n t r=>.cons ⟨t,rfl⟩ (zC r)
theorem kH:∀{us:List Value}{ns:List Int},us.length=ns.length->(∀(j:Nat)(u:Value)(n:Int),us[j]?=some u->ns[j]?=some n->∃t,u=.int n t)->IntsAre us ns
  | [],[],_,_=>.nil
  |u::us,n::ns,c,h=>by obtain⟨t,rfl⟩:=h 0 u n rfl rfl;exact .cons n t (kH (by simpa using c) λj u n a b=>h (j+1) u n a b)
variable{K:Aa}{ρ:Cj}{B:Ci}{H:Hp}
abbrev bH(K:Aa)(c:Str)(C:Addr):Prop:=PySem.W.nsIn K mainGlobals c=some (some (.ref C))
theorem bH.uniq{K:Aa}{c:Str}{C C':Addr}(h:bH K c C)(h':bH K c C'):C=C':=by have e:=h.symm.trans h';cases e;rfl
structure Kr(K:Aa)(c f:Str):Prop where
 ex:∃C,bH K c C/\Cls K C/\NoAttr K C f
structure Ul(P:Program)(w:World)(K:Aa)(mg:Cg)(O8:Heap)(c m:Str)(k n:Nat)(F:Ck):Prop where
 ex:∃(C f:Addr)(fd:FuncData)(ps:List Str),bH K c C/\Cls K C/\ua K C m f/\qC P w K mg O8 CX0 k f fd ps (fG K n F)/\Binds K fd ps []
structure oN(P:Program)(w:World)(K:Aa)(mg:Cg)(O8:Heap)(c:Str)(k n:Nat)(F:Ck):Prop where
 ex:∃(C f:Addr)(fd:FuncData)(ps:List Str),bH K c C/\mg c=some (.ref C)/\Mk K C f/\qC P w K mg O8 CX0 k f fd ps (fG K n F)/\Binds K fd ps []
section
variable{K:Aa}{ρ:Cj}{B:Ci}{H:Hp}{U:Hs}
abbrev bO(K:Aa)(ρ:Cj)(B:Ci)(H:Hp):List (Str×DV)->List (Str×V)->Prop:=Paired λp q=>p.1=q.1/\aA K ρ B H p.2 q.2
theorem k6:∀{fs:List (Str×DV)}{xs:List (Str×V)},xs.map (·.1)=fs.map (·.1)->aq K ρ B H (fs.map (·.2)) (xs.map (·.2))->bO K ρ B H fs xs
  | [],[],_,_=>.nil
  | [],_::_,e,_=>by simp at e
  |_::_,[],e,_=>by simp at e
  |p::fs,q::xs,e,r=>by simp only[Az,List.cons.injEq]at e;simp only[Az]at r;unfold aq at r;obtain⟨x,t,a,c,d⟩:=r;simp only[List.cons.injEq]at a;obtain⟨rfl,rfl⟩:=a;exact .cons ⟨e.1.symm,c⟩ (k6 e.2 d)
theorem bO.to{fs:List (Str×DV)}{xs:List (Str×V)}(r:bO K ρ B H fs xs):xs.map (·.1)=fs.map (·.1)/\aq K ρ B H (fs.map (·.2)) (xs.map (·.2)):=by
 induction r with
 |nil=>exact⟨rfl,aq.nil⟩
 |cons h _ a=>exact⟨by simp[a.1,h.1],by simpa using aq.cons h.2 a.2⟩
theorem bO.look{fs:List (Str×DV)}{xs:List (Str×V)}(r:bO K ρ B H fs xs)(f:Str):(fs.lookup f=none/\xs.lookup f=none)∨∃d v,fs.lookup f=some d/\xs.lookup f=some v/\aA K ρ B H d v:=by
  induction r with
  |nil=>exact .inl ⟨rfl,rfl⟩
  |@cons p q _ _ h _ i =>
    obtain⟨c,j⟩:=p;obtain⟨l,m⟩:=q;obtain⟨a,g⟩:=h;have a:c=l:=a;subst a;cases e:f==c with
    |true=>exact .inr ⟨j,m,by simp[List.lookup,e],by simp[List.lookup,e],g⟩
    |false=>simpa [List.lookup,e]using i
def zd(f:Str)(d:DV):List (Str×DV)->List (Str×DV)
 | []=>[(f,d)]
 | (g,x)::r=>if g=f then (g,d)::r else (g,x)::zd f d r
theorem bO.put{fs:List (Str×DV)}{xs:List (Str×V)}(r:bO K ρ B H fs xs)(f:Str){d:DV}{v:V}(rd:aA K ρ B H d v):bO K ρ B H (zd f d fs) (Yv f v xs):=by
  induction r with
  |nil=>exact .cons ⟨rfl,rd⟩ .nil
  |@cons p q _ _ h t i =>
    obtain⟨c,l⟩:=p;obtain⟨j,m⟩:=q;obtain⟨a,g⟩:=h;have a:c=j:=a;subst a;unfold zd Yv;by_cases e:c=f
    . rw[B8 e,B8 e];exact .cons ⟨rfl,rd⟩ t
    . rw[B7 e,B7 e];exact .cons ⟨rfl,g⟩ i
def bO.len{fs:List (Str×DV)}{xs:List (Str×V)}(r:bO K ρ B H fs xs):fs.length=xs.length:=Paired.length r
def bO.gs{ρ':Cj}{a:Ci}{c:Hp}{fs:List (Str×DV)}{xs:List (Str×V)}(g:Gs K ρ B H ρ' a c)(r:bO K ρ B H fs xs):bO K ρ' a c fs xs:=L2.Paired.mapP r λ_ _ h=>⟨h.1,aA.gs g _ _ h.2⟩
theorem bx.ins{a:Addr}{c:Str}{fs:List (Str×DV)}(h:bx K ρ B H a (.ins c fs)):∃C d xs,bH K c C/\H a=some (.ins C d xs)/\bO K ρ B H fs xs:=by obtain⟨C,d,xs,g,e,f,i⟩:=h;exact⟨C,d,xs,g,e,k6 f i⟩
def bO.fO{a C d:Addr}{c:Str}{fs:List (Str×DV)}{xs:List (Str×V)}(f:bH K c C)(r:bO K ρ B H fs xs)(e:H a=some (.ins C d xs)):bx K ρ B H a (.ins c fs):=⟨C,d,xs,f,e,r.to.1,r.to.2⟩
theorem SM{n:Nat}{a C h:Addr}{c:Str}{xs d:List (Str×V)}{f:List (Str×DV)}(W:aQ K ρ B U H)(i:ρ[n]?=some a)(j:bH K c C)(e:H a=some (.ins C h xs))(r:bO K ρ B H f d):Gr K ρ B H ρ B (upd H a (.ins C h d))/\aQ K ρ B (U.set n (.ins c f)) (upd H a (.ins C h d)):=by have g:Gr K ρ B H ρ B (upd H a (.ins C h d)):=Gr.cX i e;exact⟨g,W.cX (o':=.ins C h d) (v:=.ins c f) i e ((r.gs (g.gs W.rb)).fO j Q3)⟩
end
def fQ{α:Type}(c:Str)(x:DV)(k:Nat->List (Str×DV)->M α):M α:=match x with
  |.ref n=>do
    match <- Zx n with
    |.ins a fs=>do QG (decide (a=c));k n fs
    |_=>failure
  |_=>failure
theorem jX{α:Type}{c:Str}{x:DV}{d:α}{k:Nat->List (Str×DV)->M α}{U a:Hs}(h:fQ c x k U=some (d,a)):∃n fs,x=.ref n/\U[n]?=some (.ins c fs)/\k n fs U=some (d,a):=by
  cases x with
  |ref n =>
    obtain⟨o,hp1,g,e⟩:=Qg (show(Zx n >>= λo=>(match o with|.ins f fs=>do QG (decide (f=c));k n fs|_=>failure:M α)) U=some (d,a)from h);obtain⟨i,rfl⟩:=ZC g;cases o with
    |ins f fs=>obtain⟨_,hp2,j,l⟩:=Qg e;obtain⟨m,rfl⟩:=QE j;obtain rfl:=Cb m;exact⟨n,fs,rfl,i,l⟩
    |lst _=>cases e
    |aJ _=>cases e
  |non=>cases h
  |bl _=>cases h
  |int _=>cases h
  |str _=>cases h
  |tup _=>cases h
  |lst _=>cases h
def KU(c f:Str)(x:DV):M DV:=fQ c x λ_ fs=>xO (fs.lookup f)
def vJ(c f:Str)(x d:DV):M Unit:=fQ c x λn fs=>do QG (decide (fs.length<1000));jp n (.ins c (zd f d fs))
def jK(c f:Str)(g:aB):aB:=λenv=>do let x <- g env;KU c f x
def qo(c f:Str)(fo a:aB):aD:=λenv=>do let y <- a env;let x <- fo env;vJ c f x y;pure (.nx,env)
def yo(c f:Str)(d:DV->DV->M DV)(fo a:aB):aD:=λenv=>do let x <- fo env;let v <- KU c f x;let y <- a env;let z <- d v y;vJ c f x z;pure (.nx,env)
def Kx:DV->DV->M DV
 |.int i,.int j=>pure (.int (i+j))
 |_,_=>failure
def mU:DV->DV->M DV
 |.int i,.int j=>pure (.int (i-j))
 |_,_=>failure
def Z9(c m:Str)(n:Nat)(F:Ck)(fo:aB)(fa:bM):aB:=λenv=>do
 let x <- fo env
 fQ c x λ_ fs=>QG (fs.lookup m).isNone
 let ds <- fa env
 QG (decide (ds.length+1=n))
 F (x::ds)
def jL(c:Str)(n:Nat)(F:Ck)(fa:bM):aB:=λenv=>do
 let ds <- fa env
 QG (decide (ds.length+1=n))
 let x <- Yi (.ins c [])
 let r <- F (x::ds)
 match r with
 |.non=>pure x
 |_=>failure
section
variable{X:Cx}{o e value:Expr}{c f m:Str}{pos pos' tpos apos:Pos}{fo fv:aB}
theorem G3{K:Aa}{ρ:Cj}{B:Ci}{H:Hp}{U g:Hs}{x d:DV}{v:V}(W:aQ K ρ B U H)(r:aA K ρ B H x v)(h:KU c f x U=some (d,g)):U=g/\∃a C j xs u,v=.ref a/\bH K c C/\H a=some (.ins C j xs)/\xs.lookup f=some u/\aA K ρ B H d u:=by
 obtain⟨n,fs,rfl,q,t⟩:=jX h;obtain⟨l,rfl⟩:=xP t;obtain⟨a,rfl,i,F⟩:=aA.bf W r q;obtain⟨C,j,xs,y,e,E⟩:=F.ins;rcases E.look f with ⟨z,_⟩|⟨d',u,z,I,G⟩
 ·rw[l]at z;cases z
 ·rw[l]at z;cases z;exact⟨rfl,a,C,j,xs,u,rfl,y,e,I,G⟩
theorem vK{K:Aa}{ρ:Cj}{B:Ci}{H:Hp}{U l:Hs}{x d:DV}{v y:V}{z:Unit}(W:aQ K ρ B U H)(r:aA K ρ B H x v)(rd:aA K ρ B H d y)(h:vJ c f x d U=some (z,l)):∃a C j xs,v=.ref a/\bH K c C/\H a=some (.ins C j xs)/\xs.length<1000/\Gr K ρ B H ρ B (upd H a (.ins C j (Yv f y xs)))/\aQ K ρ B l (upd H a (.ins C j (Yv f y xs))):=by obtain⟨n,fs,rfl,E,F⟩:=jX h;obtain⟨_,hp1,G,I⟩:=Qg F;obtain⟨J,rfl⟩:=QE G;cases I;obtain⟨a,rfl,i,L⟩:=aA.bf W r E;obtain⟨C,j,xs,q,e,t⟩:=L.ins;obtain⟨g,u⟩:=SM W i q e (t.put f rd);exact⟨a,C,j,xs,rfl,q,e,by rw[<- t.len];exact Cb J,g,u⟩
theorem xw(t:Kr X.K c f)(z:DE X o fo)(r:attributeBase o f X.env (eval o X.env)=eval o X.env:=by rfl):DE X (.Attribute o f pos) (jK c f fo) :=
 L2.PE.imp (Pj z r) λσ H Q g=>by obtain⟨Z,env,ρ,B,U,d,E,S,e,k⟩:=g;obtain⟨x,hp1,j,l⟩:=Qg e;refine tD.run S j λv ρ1 B1 H1 g1 S1 I=>?_;obtain⟨rfl,a,C,i,xs,u,rfl,G,n,y,J⟩:=G3 S1.wo I l;obtain⟨L,q,h,F⟩:=t.ex;obtain rfl:=G.uniq q;exact⟨a,C,i,xs,u,rfl,n,h,F,y,k u ρ1 B1 H1 g1 S1.wo J⟩
theorem xB(F:Kr X.K c f)(I:DE X o fo)(P:DE X value fv)(O:swapsWith value (some (.Attribute o f pos')) pos.line X.env=pure false:=by rfl):DS X (.Assign [.Attribute o f pos'] value pos) (qo c f fo fv) :=
 L2.PS.imp (Mq I P O) λD σ H h=>by obtain⟨Z,env,ρ,B,U,fl,d,J,S,e,k⟩:=h;obtain⟨y,hp1,l,e⟩:=Qg e;obtain⟨x,hp2,n,e⟩:=Qg e;obtain⟨z,L,r,e⟩:=Qg e;obtain⟨q,rfl⟩:=Qm e;cases q;refine tD.run S l λu ρ1 B1 H1 g1 S1 T=>tD.run S1 n λv ρ2 B2 H2 g2 S2 Y=>?_;obtain⟨a,C,j,xs,rfl,R,t,G,g,W⟩:=vK S2.wo Y (aA.grow S1.wo.rb g2 _ _ T) r;obtain⟨C',E,i,Q⟩:=F.ex;obtain rfl:=R.uniq E;exact⟨a,C,j,xs,rfl,t,i,Q,G,k σ ρ2 B2 _ ((g1.trans (g2.trans g)).gs S.wo.rb) (S2.grow g W)⟩
theorem U3(Y:Kr X.K c f)(ho:DE X o fo)(hv:DE X value fv):DS X (.AugAssign (.Attribute o f tpos) .Add value pos) (yo c f Kx fo fv) :=
 L2.PS.imp (MC ho hv O_) λD σ H G=>by
  obtain⟨Z,env,ρ,B,U,fl,r,ab,S,e,k⟩:=G;obtain⟨x,hp1,L,e⟩:=Qg e;obtain⟨v,hp2,O,e⟩:=Qg e;obtain⟨y,ac,P,e⟩:=Qg e;obtain⟨z,cA,d,e⟩:=Qg e;obtain⟨_,h_,Q,e⟩:=Qg e;obtain⟨q,rfl⟩:=Qm e;cases q;refine tD.run S L λvx ρ1 B1 H1 g1 S1 E=>?_;obtain⟨rfl,a,C,J,xs,u,rfl,t,R,hl,ru⟩:=G3 S1.wo E O;obtain⟨C',T,I,na⟩:=Y.ex;obtain rfl:=t.uniq T;refine⟨a,C,J,xs,u,rfl,R,I,na,hl,tD.run S1 P λw ρ2 B2 H2 g2 S2 r2=>?_⟩;have o9:=aA.grow S1.wo.rb g2 _ _ ru;have l:=aA.grow S1.wo.rb g2 _ _ E;unfold Kx at d;split at d
  ·obtain⟨rfl,rfl⟩:=Qm d;refine⟨_,_,o9.aW,r2.aW,?_⟩;obtain⟨a',C2,h,n,q1,F,i,j,g,W⟩:=vK S2.wo l ZZ Q;cases q1;obtain rfl:=F.uniq t;exact⟨h,n,i,j,k σ ρ2 B2 _ ((g1.trans (g2.trans g)).gs S.wo.rb) (S2.grow g W)⟩
  ·cases d
theorem Wm{C:Addr}{n:Nat}{F:Ck}{fa:bM}{σ:St}{H:Hp}{Q:VK}(R:bH X.K c C)(h:tD X.K (Z9 c m n F fo fa) σ H Q):rD C m (fG X.K n F) [] E0 (tD X.K fo) (dR X.K fa) σ H Q:=by
 obtain⟨Z,env,ρ,B,U,d,g,S,e,k⟩:=h;obtain⟨x,hp1,y,e⟩:=Qg e;obtain⟨_,hp2,E,e⟩:=Qg e;obtain⟨ds,j,G,e⟩:=Qg e;obtain⟨_,cA,I,L⟩:=Qg e;obtain⟨P,rfl⟩:=QE I;refine tD.run S y λv ρ1 B1 H1 g1 S1 q=>?_;obtain⟨i,fs,rfl,w1,w2⟩:=jX E;obtain⟨l,rfl⟩:=QE w2;obtain⟨a,rfl,_,Y⟩:=aA.bf S1.wo q w1;obtain⟨C',u,xs,O,J,T⟩:=Y.ins;obtain rfl:=O.uniq R;have hx:xs.lookup m=none:=by
  rcases T.look m with ⟨_,z⟩|⟨_,_,z,_,_⟩
  ·exact z
  ·rw[z]at l;cases l
 refine⟨a,u,xs,rfl,J,hx,dR.run S1 G λvs ρ2 t H2 g2 S2 r=>?_⟩;refine⟨?_,ρ2,t,j,_,d,g,S2.wo,?_,L,k.after (g1.trans g2)⟩
 ·rw[Bc,Ay,<- r.length];exact Cb P
 ·rw[Bc];exact aq.cons (aA.grow S1.wo.rb g2 _ _ q) r
theorem jG{k j n:Nat}{F:Ck}{a:List Expr}{fa:bM}{pl:Sem Bool}(h:Ul X.prog X.w X.K X.mg X.O8 c m j n F)(x:Room k X.A)(t:j<=k)(hx:Yh CX0 X E0)(v:DE X o fo)(l:DA X (e::a) fa)
  (hst:starEach (e::a) X.env=(false,eval e X.env)::starEach a X.env:=by rfl) (hpl:(backTo pos (starEach a X.env)).any (·.1)=false:=by rfl)
  (ht:eval (.Call (.Attribute o m apos) (e::a) [] pos) X.env=(do
   let ov <- eval o X.env
   standAt apos.atName
   let (f,first) <- holding [ov] (getMethod ov m pl)
   callWith pos f first (backTo pos (starEach (e::a) X.env)) (backToKw pos (keywordEach [] X.env))):=by rfl):DE X (.Call (.Attribute o m apos) (e::a) [] pos) (Z9 c m n F fo fa):=by
 obtain⟨C,g,fd,ps,y,i,u,d,r⟩:=h.ex;exact L2.PE.imp (Ra (pl:=pl) v i u d (x.mono t) r .nil hx l hst hpl ht) λσ H Q q=>Wm y q
theorem J9{k j n:Nat}{F:Ck}{pl:Sem Bool}(h:Ul X.prog X.w X.K X.mg X.O8 c m j n F)(hr:Room k X.A)(hj:j<=k)(hx:Yh CX0 X E0)(ho:DE X o fo)
  (ht:eval (.Call (.Attribute o m apos) [] [] pos) X.env=(do
   let ov <- eval o X.env
   standAt apos.atName
   let (f,first) <- holding [ov] (getMethod ov m pl)
   callWith pos f first (backTo pos (starEach [] X.env)) (backToKw pos (keywordEach [] X.env))):=by rfl):DE X (.Call (.Attribute o m apos) [] [] pos) (Z9 c m n F fo Qk):=by
 obtain⟨C,g,fd,ps,nc,E,hm,y,Y⟩:=h.ex;refine L2.PE.imp (W_ (pl:=pl) ho E hm y (hr.mono hj) Y .nil hx ht) λσ H Q q=>?_;obtain⟨Z,env,ρ,B,U,d,l,S,e,k⟩:=q;obtain⟨x,hp1,I,e⟩:=Qg e;obtain⟨_,hp2,J,e⟩:=Qg e;obtain⟨ds,ab,L,e⟩:=Qg e;obtain⟨_,cA,O,R⟩:=Qg e;obtain⟨hl,rfl⟩:=QE O;obtain⟨rfl,rfl⟩:=Qm L;refine tD.run S I λv ρ1 u H1 g1 S1 t=>?_;obtain⟨i,fs,rfl,w1,w2⟩:=jX J;obtain⟨r,rfl⟩:=QE w2;obtain⟨a,rfl,_,ro⟩:=aA.bf S1.wo t w1;obtain⟨C',G,xs,T,P,rf⟩:=ro.ins;obtain rfl:=T.uniq nc;have hx:xs.lookup m=none:=by
  rcases rf.look m with ⟨_,z⟩|⟨_,_,z,_,_⟩
  ·exact z
  ·rw[z]at r;cases r
 exact⟨a,G,xs,rfl,P,hx,Cb hl,ρ1,u,hp1,_,d,l,S1.wo,aq.cons t aq.nil,R,k.after g1⟩
theorem Me{k:Nat}{C g:Addr}{fd:FuncData}{ps:List Str}{sp:Sp}{d:Cf}{σ:St}{H:Hp}{s:Shared}{Q:VK}{us:List Value}{vs:List V}(M:Mk X.K C g)(F:qC X.prog X.w X.K X.mg X.O8 CX0 k g fd ps sp)(G:Room (k+1) X.A)(E:Binds X.K fd ps [])
    (hx:Yh CX0 X E0) (I:Inv X d σ H s) (r:Vals vs us)
    (h:∀x a,H x=none->H a=none->a≠x->X.K.lookup x=none->sp (.ref x::vs) (upd (upd H a (.own x)) x (.ins C a [])) (λv H2=>v=.non/\Q (.ref x) H2) E0) :
    wpAny (model X.prog X.w) X.A (call (.ref C) us) (EP X d σ Q) X.xe s:=by
  have kf:X.K.lookup (s.heap.objs.size+1)=none:=by
    cases q:X.K.lookup (s.heap.objs.size+1)with
    |none=>rfl
    |some o=>exact absurd (An (I.kIn _ _ q)) (Nat.not_lt.mpr (Nat.le_succ _))
  have j:=h _ _ (I.hok.fresh (Nat.le_succ _)) (I.hok.fresh (Ae _)) (A6 (Bv _)) kf;have J:=Inv.made (C:=C) I;have l:Vals (V.ref (s.heap.objs.size+1)::vs) (Value.ref (s.heap.objs.size+1)::us):=.cons rfl r;have L:((Value.ref (s.heap.objs.size+1)::us)++[]).length=ps.length:=by rw[Bc,<- l.length];exact F.len _ _ _ _ j
  have i:=E _ (Value.ref (s.heap.objs.size+1)::us) J.kIn L;rw[Bc]at i;refine wpAny_call (Wo (f:=g) I.kIn M.makes M.init (beq_iff_eq.mp M.fn) (codeAny_mono (F.run _ X.stack _ _ ⟨Value.ref (s.heap.objs.size+1)::us,[]⟩ _ _ _ E0 (G.make C us []) (J.env0.make C us []) i l j) λq s' z=>?_));cases q with
  |error e=>exact hx d σ _ _ e s' J z
  |ok fl =>
    cases fl with
    |ret u=>obtain⟨v,n,t,P,y,O⟩:=J.after z;subst y;exact⟨P,⟨V.ref (s.heap.objs.size+1),n,t,rfl,O⟩⟩
    |next=>exact z.elim
    |brk=>exact z.elim
    |cont=>exact z.elim
theorem Wq{C:Addr}{n:Nat}{F:Ck}{vs:List V}{K:Aa}{ρ:Cj}{B:Ci}{U g:Hs}{H:Hp}{ds:List DV}{d:DV}{Q:VK}(I:bH K c C)(G:ds.length+1=n)(W:aQ K ρ B U H)(r:aq K ρ B H ds vs)
  (e:(do let x <- Yi (.ins c []);let r <- F (x::ds);match r with|.non=>pure x|_=>failure:M DV) U=some (d,g)) (k:eY K ρ B H d g Q) :
  ∀x a,H x=none->H a=none->a≠x->K.lookup x=none->fG K n F (.ref x::vs) (upd (upd H a (.own x)) x (.ins C a [])) (λv H2=>v=.non/\Q (.ref x) H2) E0:=by
 intro x a hx i ne kf;have l:F (.ref U.length::ds) (U++[.ins c []])=some (.non,g)/\d=.ref U.length:=by
  obtain⟨y,hp1,u,z⟩:=Qg e;cases u;obtain⟨y,hp2,E,h⟩:=Qg z;cases y with
  |non=>obtain⟨rfl,rfl⟩:=Qm h;exact⟨E,rfl⟩
  |bl _=>cases h
  |int _=>cases h
  |str _=>cases h
  |tup _=>cases h
  |lst _=>cases h
  |ref _=>cases h
 obtain⟨l,rfl⟩:=l;have j:upd H a (.own x) x=none:=by rw[QN (Ne.symm ne)];exact hx
 have g0:Gr K ρ B H ρ B (upd H a (.own x)):=Gr.laid i;have g1:Gr K ρ B (upd H a (.own x)) (ρ++[x]) (jB B x) (upd (upd H a (.own x)) x (.ins C a [])):=Gr.cU j kf;have q:aQ K (ρ++[x]) (jB B x) (U++[.ins c []]) (upd (upd H a (.own x)) x (.ins C a [])):=(W.laid i).cU j kf (bO.fO I .nil Q3);have t:aA K (ρ++[x]) (jB B x) (upd (upd H a (.own x)) x (.ins C a [])) (.ref U.length) (.ref x):=by unfold aA;exact⟨x,rfl,by rw[<- W.len];simp⟩
 refine⟨?_,ρ++[x],jB B x,U++[.ins c []],.ref U.length::ds,.non,g,q,aq.cons t (aq.grow W.rb (g0.trans g1) _ _ r),l,λv ρ' B' H' g' W' J=>?_⟩
 ·rw[Ay,<- r.length];exact G
 ·exact⟨J.d8,k _ ρ' B' H' ((g0.trans g1).trans g') W' (aA.grow q.rb g' _ _ t)⟩
theorem TY{k j n:Nat}{F:Ck}{a:List Expr}{fa:bM}{p:Pos}(h:oN X.prog X.w X.K X.mg X.O8 c j n F)(R:Room k X.A)(J:j+1<=k)(hx:Yh CX0 X E0)(z:DA X (e::a) fa)(G:Gl X c:=by rfl)
  (hdb:(c==("__debug__" : Str))=false:=by decide) (he:starEach (e::a) X.env=(false,eval e X.env)::starEach a X.env:=by rfl) (hpl:(backTo pos (starEach a X.env)).any (·.1)=false:=by rfl):DE X (.Call (.Name c p) (e::a) [] pos) (jL c n F fa):=by
 obtain⟨C,g,fd,ps,T,O,M,i,E⟩:=h.ex;intro t s σ H Q I q;obtain⟨Z,env,ρ,B,U,d,P,S,e,k⟩:=q;obtain⟨ds,hp1,u,v⟩:=Qg e;obtain⟨_,hp2,x,y⟩:=Qg v;obtain⟨L,rfl⟩:=QE x;refine wpAny_Call_Name_kw (Ge I G O ?_ hdb);refine PySem.W.callWith_K (h₀:=X.O8) I.ok.mod.kin M.kp (thn (z pos t s σ H _ I (dR.run S u λvs ρ1 B1 l g1 S1 Y=>Wq (Q:=Q) T (Cb L) S1.wo Y y (k.after g1))) λus s1 ⟨vs,l,I1,r,q⟩=>⟨I1.kIn,?_⟩) he hpl;exact Me M i (R.mono J) E hx I1 r q
end
theorem BZ{P:Program}{w:World}{K:Aa}{mg:Cg}{O8:Heap}{x a:Str}{c:Stmt}{g:Addr}{fd:FuncData}{N ps:List Str}{k:Nat}{body:aD}(F:Fun K x a c g fd)(l:QD N ps (Qr c))
  (h:∀(f:Value)(A:Around)(outer:List Env)(s:Shared)(H:Hp)(E:XK),Room k (A.deeper (envOfC a (Qr c) s.heap.objs.size g f))->eN (yC CX0 P w K mg O8 N a (Qr c) g f A outer s H E).nox (ZM c) body) :
  qC P w K mg O8 CX0 (k+1) g fd ps (fG K ps.length (Zv N.length body)):=by
 refine F.ok l (λvs H Q E h=>h.1) (λf A outer s H vs Q E o sp=>?_);obtain⟨t,ρ,B,U,ds,d,n,W,r,e,k⟩:=sp;obtain⟨⟨fl,i⟩,hp1,m,j⟩:=Qg e;refine⟨_,h f A outer s H E o,⟨ρ,B,H⟩,_,ρ,B,U,fl,i,hp1,xV W r,m,λσ' ρ' B' H' g' S'=>?_⟩;cases fl with
 |nx=>obtain⟨rfl,rfl⟩:=Qm j;exact k .non ρ' B' H' S'.gr S'.wo qf
 |rt x=>obtain⟨rfl,rfl⟩:=Qm j;exact λv q=>k v ρ' B' H' S'.gr S'.wo q
 |bk=>cases j
 |ct=>cases j
theorem Wn{P:Program}{w:World}{K:Aa}{mg:Cg}{O8:Heap}{c m d:Str}{a:Stmt}{C g:Addr}{fd:FuncData}{N ps:List Str}{k:Nat}{body:aD}(o:bH K c C)(l:Cls K C)(n:ua K C m g)(F:Fun K m d a g fd)(i:QD N ps (Qr a))
  (hb:∀(kV f q:Value)(j:Option Addr)(e ct:Value)(us:List Value),us.length=ps.length->bindArgs (PySem.W.fnOf m d (Ju a) (ZM a) (Qr a) .none kV f q j e ct) ⟨us,[]⟩=pure (ps.zip us))
  (h:∀(e:Value)(A:Around)(outer:List Env)(s:Shared)(H:Hp)(E:XK),Room k (A.deeper (envOfC d (Qr a) s.heap.objs.size g e))->eN (yC CX0 P w K mg O8 N d (Qr a) g e A outer s H E).nox (ZM a) body) :
  Ul P w K mg O8 c m (k+1) ps.length (Zv N.length body):=⟨C,g,fd,ps,o,l,n,BZ F i h,F.binds hb⟩
theorem WL{P:Program}{w:World}{K:Aa}{mg:Cg}{O8:Heap}{c d:Str}{a:Stmt}{C g:Addr}{fd:FuncData}{N ps:List Str}{k:Nat}{body:aD}(n:bH K c C)(l:mg c=some (.ref C))(m:Mk K C g)(F:Fun K "__init__" d a g fd)(i:QD N ps (Qr a))
  (hb:∀(kV f o:Value) (j:Option Addr) (e ct:Value) (us:List Value),us.length=ps.length->bindArgs (PySem.W.fnOf "__init__" d (Ju a) (ZM a) (Qr a) .none kV f o j e ct) ⟨us,[]⟩=pure (ps.zip us))
  (h:∀(e:Value)(A:Around)(outer:List Env)(s:Shared)(H:Hp)(E:XK),Room k (A.deeper (envOfC d (Qr a) s.heap.objs.size g e))->eN (yC CX0 P w K mg O8 N d (Qr a) g e A outer s H E).nox (ZM a) body) :
  oN P w K mg O8 c (k+1) ps.length (Zv N.length body):=⟨C,g,fd,ps,n,l,m,BZ F i h,F.binds hb⟩
section
variable{X:Cx}
def wJ:aD:=λ_=>failure
theorem TJ{a:Stmt}:DS X a wJ:=L2.PS.imp W6 λD σ H ⟨Z,env,ρ,B,U,fl,env',hp',S,e,k⟩=>by cases e
def mW(i:Nat)(c:DV->DV->M DV)(a:aB):aD:=λenv=>do let v <- Qa i env;let y <- a env;let z <- c v y;pure (.nx,env.set i (.val z))
end
theorem ze{α β:Type}(m:M α)(k:α->M β)(U:Hs):(m >>= k) U=(m U).bind λp=>k p.1 p.2:=by
 show(StateT.bind m k U)=_;unfold StateT.bind;cases m U with
 |none=>rfl
 |some p=>obtain⟨a,h⟩:=p;rfl
theorem xa{α β:Type}(f:α->β)(m:M α)(U:Hs):(f <$> m) U=(m U).map λp=>(f p.1,p.2):=by
 show(StateT.map f m U)=_;unfold StateT.map;cases m U with
 |none=>rfl
 |some p=>obtain⟨a,h⟩:=p;rfl
def zh{α:Type}(a:α)(U:Hs):(pure a:M α) U=some (a,U):=rfl
def zf{α:Type}(U:Hs):(failure:M α) U=none:=rfl
theorem YM(b:Bool)(U:Hs):QG b U=if b=true then some ((),U)else none:=by cases b<;>rfl
theorem j9(n:Nat)(U:Hs):Zx n U=(U[n]?).map λo=>(o,U):=by unfold Zx;cases U[n]?<;>rfl
def xc(n:Nat)(o:OV)(U:Hs):jp n o U=some ((),U.set n o):=rfl
def xb(o:OV)(U:Hs):Yi o U=some (.ref U.length,U++[o]):=rfl
theorem Xd(U:Hs)(k:Nat)(X:OV)(h:(U[k]?).isSome=true):(U.set k X)[k]?=some X:=by
 have:k<U.length:=by
  rcases Nat.lt_or_ge k U.length with q|q
  ·exact q
  ·rw[Bu q]at h;cases h
 rw[Aq this]
def YE(U:Hs)(k n:Nat)(X:OV)(h:k≠n):(U.set k X)[n]?=U[n]?:=Aj h
theorem XG(U:Hs)(X:OV):(U++[X])[U.length]?=some X:=by simp
mutual
def aZ(K:Aa):DV->V->Prop
 |.non,v=>v=.non
 |.bl b,v=>v=.bl b
 |.int i,v=>v=.int i
 |.str x,v=>v=.str x
 |.tup ds,v=>∃(a:Addr) (o:Obj) (c:Array Value) (n:Nat) (xs:List V),v=.ref a/\K.lookup a=some o/\o.cls=.type "tuple" /\ o.data=.seq c n/\c.size<=sizeLine/\Vals xs c.toList/\bB K ds xs
 |_,_=>False
def bB(K:Aa):List DV->List V->Prop
 | [],xs=>xs=[]
 |d::ds,xs=>∃x r,xs=x::r/\aZ K d x/\bB K ds r
end
mutual
theorem aZ.rep{K:Aa}{ρ:Cj}{B:Ci}{H:Hp}(f:∀a,B a->K.lookup a=none):∀(d:DV)(v:V),aZ K d v->aA K ρ B H d v
  |.non,_,h=>by unfold aZ at h;unfold aA;exact h
  |.bl _,_,h=>by unfold aZ at h;unfold aA;exact h
  |.int _,_,h=>by unfold aZ at h;unfold aA;exact h
  |.str _,_,h=>by unfold aZ at h;unfold aA;exact h
  |.lst _,_,h=>by unfold aZ at h;exact h.elim
  |.ref _,_,h=>by unfold aZ at h;exact h.elim
  |.tup ds,_,h=>by unfold aZ at h;unfold aA;obtain⟨a,o,e,n,xs,rfl,c,g,i,j,l,m⟩:=h;exact⟨a,xs,rfl,λz=>(by rw[f a z]at c;cases c),.inr ⟨o,e,n,c,g,i,j,l⟩,bB.rep f ds xs m⟩
theorem bB.rep{K:Aa}{ρ:Cj}{B:Ci}{H:Hp}(c:∀a,B a->K.lookup a=none):∀(ds:List DV)(xs:List V),bB K ds xs->aq K ρ B H ds xs
  | [],_,h=>by unfold bB at h;unfold aq;exact h
  |d::ds,_,h=>by unfold bB at h;unfold aq;obtain⟨x,r,e,f,g⟩:=h;exact⟨x,r,e,aZ.rep c d x f,bB.rep c ds r g⟩
end
theorem uK{K:Aa}{ds:List DV}{a:Addr}{g:Option Addr}{c:Array Value}{n:Nat}{i:Array (Option Value)}{xs:List V}(h:K.lookup a=some ⟨.type "tuple", g,.seq c n,i⟩)(e:c.size<=sizeLine)(f:Vals xs c.toList)(d:bB K ds xs):aZ K (.tup ds) (.ref a):=by unfold aZ;exact⟨a,_,c,n,xs,rfl,h,rfl,rfl,e,f,d⟩
theorem wX{K:Aa}:aZ K .non .non:=by unfold aZ;rfl
theorem OJ{K:Aa}{i:Int}:aZ K (.int i) (.int i):=by unfold aZ;rfl
theorem Ga{K:Aa}:bB K [] []:=by unfold bB;rfl
theorem qU{K:Aa}{d:DV}{ds:List DV}{x:V}{r:List V}(h:aZ K d x)(h':bB K ds r):bB K (d::ds) (x::r):=by unfold bB;exact⟨x,r,rfl,h,h'⟩
theorem T3{X:Cx}{x:Str}{ds:List DV}{a:Addr}{c:Pos}(f:Gl X x)(h:X.mg x=some (.ref a))(g:aZ X.K (.tup ds) (.ref a))(hd:(x==("__debug__" : Str))=false:=by decide):DE X (.Name x c) (eC (.tup ds)) :=
 (kU (v:=.ref a) f h rfl hd).imp λσ H Q d=>by obtain⟨Z,env,ρ,B,U,d',i,S,e,k⟩:=d;obtain⟨rfl,rfl⟩:=Qm e;exact k _ ρ B H Gr.refl S.wo (aZ.rep S.wo.bk _ _ g)
theorem Tw{b:DV->aD}{d:DV}{ds:List DV}{env aL:En}{U hp1:Hs}(h:b d env U=some ((.nx,aL),hp1)):xG b (d::ds) env U=xG b ds aL hp1:=by rw[xG,Qf h]
theorem Nz(U:Hs)(x:OV)(t:Hs):(U++x::t)[U.length]?=some x:=by simp
theorem LR(U:Hs)(x y:OV)(t:Hs):(U++x::t).set U.length y=U++y::t:=by rw[List.set_append_right _ _ (Ae _)];simp
theorem Jv{n i:Nat}{d:DV}(h:(QZ 0 n)[i]?=some d):i<n/\d=.int (i:Int):=by obtain⟨a,c⟩:=XS h;exact⟨a,by rw[c];simp⟩
theorem xY{n:Nat}(h:n<=1000000):XV (n:Int)=true:=vN ⋯ ⋯
theorem kK{n i:Nat}(h:i<n):ixN n (i:Int)=some i:=by unfold ixN;rw[B8 ⋯,B8 ⋯];simp
theorem Q6{f:eZ}{g:dY}{body:aD}{env:En}{U hp1:Hs}{ds:List DV}{r:(Fl×En)×Hs}(h:f env U=some (bK ds,hp1))(h':Z8 (bK ds) (λd env=>do let env' <- g d env;body env') 100000 0 env hp1=some r):ZN f g body env U=some r:=by unfold ZN;rw[Qf h];exact h'
theorem Md{f:fD}{g:dY}{body:aD}{env:En}{U hp1:Hs}{ds:List DV}{r:(Fl×En)×Hs}(h:f env U=some (ds,hp1))(h':xG (λd env=>do let env' <- g d env;body env') ds env hp1=some r):oG f g body env U=some r:=by unfold oG;rw[Qf h];exact h'
theorem RG{m:Nat}(h:m<=1000000)(U:Hs):lO [.int (m:Int)] U=some (QZ 0 m,U):=by
 have e:lO [.int (m:Int)]=pure (QZ 0 (m:Int).toNat):=by simp only[lO,xY h,QG,if_true,Cd]
 rw[e,Int.toNat_natCast];rfl
theorem Z3{f:bM}{env:En}{U hp1:Hs}{m:Nat}(h:f env U=some ([.int (m:Int)],hp1))(a:m<=1000000):Yp f env U=some (QZ 0 m,hp1):=by unfold Yp;rw[Qf h];exact RG a hp1
theorem zn{f:aB}{env:En}{U hp1:Hs}{ds:List DV}(h:f env U=some (.lst ds,hp1)):cH f env U=some (bK ds,hp1):=by unfold cH;rw[Qf h];rfl
section
variable{X:Cx}
def Jf(x:DV):List DV->M DV
 | [y]=>fJ x λn ds=>fJ y λ_ a=>do QG (decide (ds.length+a.length<=lim));jp n (.lst (ds++a));pure .non
 |_=>failure
theorem Xg:MtR X "list.extend" (iU X.K Jf):=by
 intro o s σ H x vs v us Q I rx rv h;obtain⟨ρ,B,U,L,O,d,E,W,G,J,e,k⟩:=h;unfold Jf at e;split at e
 ·rename_i y;obtain⟨n,ds,rfl,u,e⟩:=q8 e;obtain⟨m,R,rfl,c,e⟩:=q8 e;obtain⟨_,hp1,r,t⟩:=Qg e;obtain⟨C,rfl⟩:=QE r;cases t;obtain⟨a,rfl,F,xs,i,j⟩:=aA.bf W G u;obtain⟨w,rfl,f⟩:=J.bV;obtain⟨b,rfl,P,ys,z,l⟩:=aA.bf W f c;obtain⟨g,q⟩:=zm W F i (aq.append j l);exact HP o s σ H _ _ v us Q I rx rv ⟨a,b,xs,ys,rfl,rfl,i,z,by rw[<- j.length,<- l.length];exact A8 (Cb C) VG,k _ ρ B _ g q qf⟩
 ·cases e
def Gf(x:DV):List DV->M DV
 | []=>fJ x λn _=>do jp n (.lst []);pure .non
 |_=>failure
theorem T8:MtR X "list.clear" (iU X.K Gf):=by
 intro i s σ H x vs v us Q I rx rv h;obtain⟨ρ,B,U,t,u,d,m,W,r,f,e,k⟩:=h;unfold Gf at e;split at e
 ·obtain⟨n,ds,rfl,l,e⟩:=q8 e;cases e;obtain⟨a,rfl,q,xs,c,y⟩:=aA.bf W r l;have o:vs=[]:=by unfold aq at f;exact f
  obtain⟨g,j⟩:=zm W q c aq.nil;exact Wl i s σ H _ _ v us Q I rx rv ⟨a,xs,rfl,o,c,k _ ρ B _ g j qf⟩
 ·cases e
end
end D
namespace L2
open PySem PySem.Spec PyProof.Rows
abbrev Xi(h:Heap)(z p o:Addr)(f:Value)(b:Bool):Prop:=h.get? z=some { cls:=Value.type "zip", data:=Data.fields #[f,Value.bool b,Value.bool false,Value.ref p,Value.ref o] }
structure ZU(h:Heap)(z p o i j a b:Addr)(n:Nat):Prop where
 zz:∃f fl,Xi h z p o f fl/\(f=.none∨∃T:Nat,f=rawInt T)
 pp:IsPair h p (.ref i) (.ref j)
 oo:∃x y,IsPair h o x y
 ii:h.IsTupleIter i a n
 jj:h.IsTupleIter j b n
section
variable{prog:Program}{w:World}{A:Around}{E:Ce}{s:Shared}
theorem vW{a:Addr}{Q:Option Obj->Shared->Prop}(h:Q (s.heap.get? a) s):wpAny (model prog w) A (loadIfAlive a) Q E s:=by intro Γ p hΓ;unfold loadIfAlive;rw[Sem.wp_loadIfAlive];exact B9 (M:=model prog w) (A:=A) (E:=E) h Γ p hΓ
theorem Cv{z p o:Addr}{f:Value}{fl:Bool}{Q:Bool->Shared->Prop}(zz:Xi s.heap z p o f fl)(hf:f=.none∨∃T:Nat,f=rawInt T)(a:Q true s)(c:∀g,Xi g z p o f true->Heap.ExtBut z s.heap g->g.objs.size=s.heap.objs.size->Q false { s with heap:=g }) :
    wpAny (model prog w) A (Builtin.SmallTypes.ownedTupleIsFree (.ref z)) Q E s:=by
  unfold Builtin.SmallTypes.ownedTupleIsFree;rcases hf with rfl|⟨T,rfl⟩
  . exact B0 (wpAny_field zz rfl (x:=.none) rfl (B9 a))
  . refine B0 (wpAny_field zz rfl (x:=rawInt T) rfl ?_)
    show wpAny _ _ (loadIfAlive (T:Int).toNat >>= _) _ _ _;refine B0 (vW ?_);cases d:s.heap.get? (T:Int).toNat with
    |none=>exact B9 a
    |some h =>
      show wpAny _ _ (field (.ref z) 1 >>= _) _ _ _;refine B0 (wpAny_field zz rfl (x:=.bool fl) rfl ?_);cases fl with
      |true=>exact B9 (c _ zz (λ_ _ _ e=>e) rfl)
      |false=>show wpAny _ _ (setField (.ref z) 1 (.bool true) >>= _) _ _ _;exact B0 (wpAny_setField_rec zz (by simp) λg z1 k1=>B9 (c g z1 k1.extBut k1.1))
theorem Cu{z p o i j a b:Addr}{n:Nat}{xs ys:Array Value}{x y:Value}{Q:Ce}(D:ZA z p o i j a b)(S:ZU s.heap z p o i j a b n)(Y:s.heap.IsTuple a xs)(Z:s.heap.IsTuple b ys)(hx:xs[n]?=some x)(hy:ys[n]?=some y)
  (k:∀g,ZU g z p o i j a b (n+1)->IsPair g s.heap.objs.size x y->g.objs.size=s.heap.objs.size+1->(∀c u,c≠z->c≠o->c≠i->c≠j->s.heap.get? c=some u->g.get? c=some u)->Q (.ref s.heap.objs.size) { s with heap:=g }) :
  wpAny (model prog w) A (Builtin.«zip.__next__» ⟨[.ref z],[]⟩) (λP s'=>∃v,P=.done (.ret v)/\Q v s') E s:=by
 obtain⟨⟨f,fl,zz,hf⟩,pp,⟨u1,u2,oo⟩,ii,jj⟩:=S;have F:∀{g g':Heap}{q c:Addr}{vs:Array Value},Heap.SameBut q g g'->c≠q->g.IsTuple c vs->g'.IsTuple c vs:=λ{g g' q c vs} sb hc ⟨I,e,r⟩=>⟨I,sb.extBut _ _ hc e,r⟩;show wpAny _ _ (field (.ref z) 2 >>= _) _ _ _;refine B0 (wpAny_field zz rfl (x:=.bool false) rfl ?_);show wpAny _ _ (field (.ref z) 3 >>= _) _ _ _;refine B0 (wpAny_field zz rfl (x:=.ref p) rfl ?_);refine B0 (wpAny_seqItems pp rfl ?_);show wpAny _ _ (Builtin.SmallTypes.ownedTupleIsFree (.ref z) >>= _) _ _ _;refine B0 (Cv zz hf ?_ ?_)
 ·simp only[if_true];refine B0 (wpAny_rule ?_);refine B0 (wpAny_field zz rfl (x:=.ref o) rfl ?_);refine B0 (wpAny_setField_rec zz (by simp) λg1 z1 k1=>?_);replace z1:Xi g1 z p o .ellipsis fl:=z1;refine B0 ?_;simp only[List.zipIdx_cons,List.zipIdx_nil,List.forIn_cons,List.forIn_nil];refine B0 (B0 (wpAny_onRaise ?_));show wpAny _ _ (Builtin.SmallTypes.nextOf (.ref i) >>= _) _ _ _;refine B0 (zD (ii.extBut k1.extBut D.iz) (F k1 D.az Y) hx λg2 R k2=>B9 ?_);have o2:IsPair g2 o u1 u2:=k2.extBut _ _ D.oi (k1.extBut _ _ D.oz oo);refine B0 (wpAny_seqItems o2 rfl ?_);refine B0 (wpAny_updateSeq_pair o2 λg3 X k3=>?_);replace X:IsPair g3 o x u2:=X;refine B0 (wpAny_letGo (B9 ?_));refine B0 (B0 (wpAny_onRaise ?_));show wpAny _ _ (Builtin.SmallTypes.nextOf (.ref j) >>= _) _ _ _;refine B0 (zD (((jj.extBut k1.extBut D.jz).extBut k2.extBut D.ij.symm).extBut k3.extBut D.oj.symm) (F k3 D.bo (F k2 D.bi (F k1 D.bz Z))) hy λg4 j4 k4=>B9 ?_);have o4:IsPair g4 o x u2:=k4.extBut _ _ D.oj X;refine B0 (wpAny_seqItems o4 rfl ?_);refine B0 (wpAny_updateSeq_pair o4 λd O G=>?_);replace O:IsPair d o x y:=O;refine B0 (wpAny_letGo (B9 (B9 ?_)));refine B0 (wpAny_seqItems O rfl ?_);refine B0 (wpAny_newTuple ?_);have sz:d.objs.size=s.heap.objs.size:=by rw[G.1,k4.1,k3.1,k2.1,k1.1]
  have z5:Xi d z p o .ellipsis fl:=G.extBut _ _ D.oz.symm (k4.extBut _ _ D.jz.symm (k3.extBut _ _ D.oz.symm (k2.extBut _ _ D.iz.symm z1)));have t:∀c u,c≠z->c≠o->c≠i->c≠j->s.heap.get? c=some u->d.get? c=some u:=λc u h L l m e=>G.extBut _ _ L (k4.extBut _ _ m (k3.extBut _ _ L (k2.extBut _ _ l (k1.extBut _ _ h e))));have i5:d.IsTupleIter i a (n+1):=((R.extBut k3.extBut D.oi.symm).extBut k4.extBut D.ij).extBut G.extBut D.oi.symm;have j5:d.IsTupleIter j b (n+1):=j4.extBut G.extBut D.oj.symm;have zl:z<d.objs.size:=An z5;show wpAny _ _ (Builtin.SmallTypes.ownedTupleHandOut (.ref z) (.ref d.objs.size) >>= _) _ _ _;refine B0 ?_;unfold Builtin.SmallTypes.ownedTupleHandOut;have z6:Xi (d.push { cls:=.type "tuple", data:=.seq #[x,y] }) z p o .ellipsis fl:=Ad _ z5;refine B0 (wpAny_setField_rec z6 (by simp) λg7 z7 T=>?_);replace z7:Xi g7 z p o (rawInt d.objs.size) fl:=z7;refine wpAny_setField_rec z7 (by simp) λC z8 U=>?_;replace z8:Xi C z p o (rawInt d.objs.size) false:=z8;have J:∀c u,c≠z->d.get? c=some u->C.get? c=some u:=λc u h e=>U.extBut _ _ h (T.extBut _ _ h (Ad _ e));have t8:IsPair C d.objs.size x y:=U.extBut _ _ (Bx zl) (T.extBut _ _ (Bx zl) (Ar _ rfl));have s8:C.objs.size=d.objs.size+1:=by rw[U.1,T.1,Bq]
  refine B9 ⟨_,rfl,?_⟩;show Q (.ref d.objs.size) _;rw[sz]at z8 t8 s8;rw[sz];exact k C ⟨⟨_,_,z8,.inr ⟨_,rfl⟩⟩,J _ _ D.pz (t _ _ D.pz D.po D.pi D.pj pp),⟨x,y,J _ _ D.oz O⟩,i5.at λu e=>J _ u D.iz e,j5.at λu e=>J _ u D.jz e⟩ t8 s8 λc u h L l m e=>J c u h (t c u h L l m e)
 ·intro g1 z1 k1 rQ;simp only[Av,if_false];refine B0 ?_;have nW:g1.IsTuple a xs:=let ⟨I,e,r⟩:=Y;⟨I,k1 _ _ D.az e,r⟩;have pG:g1.IsTuple b ys:=let ⟨I,e,r⟩:=Z;⟨I,k1 _ _ D.bz e,r⟩;simp only[List.forIn_toArray,List.forIn_cons,List.forIn_nil];refine B0 (B0 (wpAny_holding ?_));show wpAny _ _ (Builtin.SmallTypes.nextOf (.ref i) >>= _) _ _ _;refine B0 (zD (s:={ s with heap:=g1 }) (ii.extBut k1 D.iz) nW hx λg2 R k2=>B9 (B9 ?_));refine B0 (B0 (wpAny_holding ?_));show wpAny _ _ (Builtin.SmallTypes.nextOf (.ref j) >>= _) _ _ _;refine B0 (zD (s:={ s with heap:=g2 }) ((jj.extBut k1 D.jz).extBut k2.extBut D.ij.symm) (F k2 D.bi pG) hy λg3 j3 k3=>B9 (B9 ?_));refine B9 ?_;refine B0 (wpAny_newTuple ?_ (show(2:Nat)<=sizeLine by decide));have sz:g3.objs.size=s.heap.objs.size:=by rw[k3.1,k2.1,rQ]
  have t:∀c u,c≠z->c≠i->c≠j->s.heap.get? c=some u->(g3.push { cls:=.type "tuple", data:=.seq #[x,y] }).get? c=some u:=λc u h l m e=>Ad _ (k3.extBut _ _ m (k2.extBut _ _ l (k1 _ _ h e)));have z3:Xi (g3.push { cls:=.type "tuple", data:=.seq #[x,y] }) z p o f true:=Ad _ (k3.extBut _ _ D.jz.symm (k2.extBut _ _ D.iz.symm z1));refine B9 ⟨_,rfl,?_⟩;show Q (.ref g3.objs.size) _;rw[sz];refine k _ ⟨⟨f,true,z3,hf⟩,t _ _ D.pz D.pi D.pj pp,⟨u1,u2,t _ _ D.oz D.oi D.oj oo⟩,(R.extBut k3.extBut D.ij).at λu e=>Ad _ e,j3.at λu e=>Ad _ e⟩ ?_ (by rw[Bq,sz]) λc u h _ l m e=>t c u h l m e;rw[<- sz];exact Ar _ rfl
theorem Cr{z p o i j a b:Addr}{n:Nat}{xs ys:Array Value}{Q:PySem.Fin->Shared->Prop}(F:A.handled=none)(D:ZA z p o i j a b)(S:ZU s.heap z p o i j a b n)(I:s.heap.IsTuple a xs)(P:s.heap.IsTuple b ys)(R:xs[n]?=none∨ys[n]?=none)
    (k:∀g x,(∀c u,c≠z->c≠o->c≠i->c≠j->s.heap.get? c=some u->g.get? c=some u)->(∃u,g.get? x=some u/\u.cls=.type "StopIteration")->E (.ref x) { s with heap:=g }) :
    wpAny (model prog w) A (Builtin.«zip.__next__» ⟨[.ref z],[]⟩) Q E s:=by
  obtain⟨⟨f,fl,zz,hf⟩,pp,⟨u1,u2,oo⟩,ii,jj⟩:=S;have v:∀{g g':Heap}{q c:Addr}{vs:Array Value},Heap.SameBut q g g'->c≠q->g.IsTuple c vs->g'.IsTuple c vs:=λ{g g' q c vs} sb hc ⟨C,e,r⟩=>⟨C,sb.extBut _ _ hc e,r⟩;show wpAny _ _ (field (.ref z) 2 >>= _) _ _ _;refine B0 (wpAny_field zz rfl (x:=.bool false) rfl ?_);show wpAny _ _ (field (.ref z) 3 >>= _) _ _ _;refine B0 (wpAny_field zz rfl (x:=.ref p) rfl ?_);refine B0 (wpAny_seqItems pp rfl ?_);show wpAny _ _ (Builtin.SmallTypes.ownedTupleIsFree (.ref z) >>= _) _ _ _;refine B0 (Cv zz hf ?_ ?_)
  . simp only[if_true]
    refine B0 (wpAny_rule ?_);refine B0 (wpAny_field zz rfl (x:=.ref o) rfl ?_);refine B0 (wpAny_setField_rec zz (by simp) λg1 z1 k1=>?_);replace z1:Xi g1 z p o .ellipsis fl:=z1;refine B0 ?_;simp only[List.zipIdx_cons,List.zipIdx_nil,List.forIn_cons,List.forIn_nil];refine B0 (B0 (wpAny_onRaise ?_));show wpAny _ _ (Builtin.SmallTypes.nextOf (.ref i) >>= _) _ _ _;cases hx:xs[n]? with
    |none =>
      refine B0 (GD F (ii.extBut k1.extBut D.iz) (v k1 D.az I) hx λg2 x k2 m=>?_);obtain⟨L,t,y⟩:=m;have z2:Xi g2 z p o .ellipsis fl:=k2 _ _ D.iz.symm z1;have O:x≠z:=λq=>by subst q;rw[z2]at t;cases t;simp at y
      exact wpAny_setField_rec z2 (by simp) λg3 _ k3=>k g3 x (λc u d _ l _ e=>k3.extBut _ _ d (k2 _ _ l (k1.extBut _ _ d e))) ⟨L,k3.extBut _ _ O t,y⟩
    |some x0 =>
      have J:ys[n]?=none:=by rcases R with h|h;rw[hx]at h;cases h;exact h
      refine B0 (zD (ii.extBut k1.extBut D.iz) (v k1 D.az I) hx λg2 i2 k2=>B9 ?_);have X:IsPair g2 o u1 u2:=k2.extBut _ _ D.oi (k1.extBut _ _ D.oz oo);refine B0 (wpAny_seqItems X rfl ?_);refine B0 (wpAny_updateSeq_pair X λg3 o3 k3=>?_);refine B0 (wpAny_letGo (B9 ?_));refine B0 (B0 (wpAny_onRaise ?_));show wpAny _ _ (Builtin.SmallTypes.nextOf (.ref j) >>= _) _ _ _;refine B0 (GD F (((jj.extBut k1.extBut D.jz).extBut k2.extBut D.ij.symm).extBut k3.extBut D.oj.symm) (v k3 D.bo (v k2 D.bi (v k1 D.bz P))) J λg4 x k4 m=>?_);obtain⟨L,t,y⟩:=m;have z4:Xi g4 z p o .ellipsis fl:=k4 _ _ D.jz.symm (k3.extBut _ _ D.oz.symm (k2.extBut _ _ D.iz.symm z1));have O:x≠z:=λq=>by subst q;rw[z4]at t;cases t;simp at y
      exact wpAny_setField_rec z4 (by simp) λZ _ T=>k Z x (λc u d Y l G e=>T.extBut _ _ d (k4 _ _ G (k3.extBut _ _ Y (k2.extBut _ _ l (k1.extBut _ _ d e))))) ⟨L,T.extBut _ _ O t,y⟩
  . intro g1 z1 k1 rQ
    simp only[Av,if_false];refine B0 ?_;have U:g1.IsTuple a xs:=let ⟨C,e,r⟩:=I;⟨C,k1 _ _ D.az e,r⟩;have pG:g1.IsTuple b ys:=let ⟨C,e,r⟩:=P;⟨C,k1 _ _ D.bz e,r⟩;simp only[List.forIn_toArray,List.forIn_cons,List.forIn_nil];refine B0 (B0 (wpAny_holding ?_));show wpAny _ _ (Builtin.SmallTypes.nextOf (.ref i) >>= _) _ _ _;cases hx:xs[n]? with
    |none=>exact B0 (GD (s:={ s with heap:=g1 }) F (ii.extBut k1 D.iz) U hx λg2 x k2 m=>k g2 x (λc u d _ l _ e=>k2 _ _ l (k1 _ _ d e)) m)
    |some x0 =>
      have J:ys[n]?=none:=by rcases R with h|h;rw[hx]at h;cases h;exact h
      refine B0 (zD (s:={ s with heap:=g1 }) (ii.extBut k1 D.iz) U hx λg2 i2 k2=>B9 (B9 ?_));refine B0 (B0 (wpAny_holding ?_));show wpAny _ _ (Builtin.SmallTypes.nextOf (.ref j) >>= _) _ _ _;exact B0 (GD (s:={ s with heap:=g2 }) F ((jj.extBut k1 D.jz).extBut k2.extBut D.ij.symm) (v k2 D.bi pG) J λg3 x k3 m=>k g3 x (λc u d _ l G e=>k3 _ _ G (k2.extBut _ _ l (k1 _ _ d e))) m)
end
theorem ZU.at{h h':Heap}{z p o i j a b:Addr}{n:Nat}(S:ZU h z p o i j a b n)(k:∀c∈[z,p,o,i,j],∀u,h.get? c=some u->h'.get? c=some u):ZU h' z p o i j a b n:=by obtain⟨⟨f,fl,zz,hf⟩,pp,⟨u1,u2,oo⟩,ii,jj⟩:=S;exact⟨⟨f,fl,k z (by simp) _ zz,hf⟩,k p (by simp) _ pp,⟨u1,u2,k o (by simp) _ oo⟩,ii.at λu e=>k i (by simp) u e,jj.at λu e=>k j (by simp) u e⟩
inductive mY:Expr->Prop
 |nm (x:Str) (p:Pos):mY (.Name x p)
 |tp (l:List Expr) (k:Nat) (p:Pos):mY (.Tuple l k p)
theorem HY{prog:Program}{w:World}{A:Around}{E:Ce}{s:Shared}{g:Expr}(h:mY g){z p o i j a b T:Addr}{n:Nat}{Q:Unit->Shared->Prop}(D:ZA z p o i j a b)(S:ZU s.heap z p o i j a b n)(d:∀h',ZU h' z p o i j a b n->Heap.ExtBut z s.heap h'->Q () { s with heap:=h' }):wpAny (model prog w) A (letOwnedTupleGo g (.ref z) (.ref T)) Q E s:=by
  cases h with
  |nm x m=>exact B9 (d s.heap S λ_ _ _ e=>e)
  |tp l k m =>
    obtain⟨f,fl,zz,hf⟩:=S.zz;unfold letOwnedTupleGo;refine B0 (wpAny_load zz ?_);dsimp only;split
    . refine B0 (wpAny_rule ?_)
      show wpAny _ _ (setField (.ref z) 0 .none) Q E s;obtain⟨_,pp,⟨u1,u2,oo⟩,ii,jj⟩:=S;exact wpAny_setField_rec zz (by simp) λh' q c=>d h' ⟨⟨.none,fl,q,.inl rfl⟩,c.extBut _ _ D.pz pp,⟨u1,u2,c.extBut _ _ D.oz oo⟩,ii.extBut c.extBut D.iz,jj.extBut c.extBut D.jz⟩ c.extBut
    . exact B9 (d s.heap S λ_ _ _ e=>e)
theorem Kn{P:Program}{w:World}{K:Aa}{tg:Expr}(ht:mY tg){z p o i j a b:Addr}(D:ZA z p o i j a b):lQ P w K tg (mC K a b) [z,p,o,i,j] z (λn h=>ZU h z p o i j a b n) where
 mem:=by simp
 obj:=λn h S c d=>by
  obtain⟨⟨f,fl,zz,hf⟩,pp,⟨u1,u2,oo⟩,⟨oi,J,ci,di⟩,⟨oj,L,cj,dj⟩⟩:=S;simp only[A9,Bj,or_false]at d;rcases d with rfl|rfl|rfl|rfl|rfl
  ·exact⟨_,zz,λv q=>by have r:Data.fields _=Data.cell v:=q;cases r⟩
  ·exact⟨_,pp,λv q=>by have r:Data.seq _ _=Data.cell v:=q;cases r⟩
  ·exact⟨_,oo,λv q=>by have r:Data.seq _ _=Data.cell v:=q;cases r⟩
  ·exact⟨oi,J,λv q=>by rw[di]at q;cases q⟩
  ·exact⟨oj,L,λv q=>by rw[dj]at q;cases q⟩
 keep:=λn h h' S k=>S.at k
 item:=by
  intro X Q R O d n O9 s σ H E I hf S hg;subst Q R O;obtain⟨xs,ys,x,y,t,C,hx,hy⟩:=hg;obtain⟨U,ra,pa,_⟩:=I.tuple t;obtain⟨Y,rb,pb,_⟩:=I.tuple C;obtain⟨u,hu,ru⟩:=ra.get hx;obtain⟨v,hv,rv⟩:=rb.get hy;obtain⟨f0,lN,m,lJ⟩:=S.zz;have l:s.TypeIs (.ref z) "zip" := ⟨_,m,rfl⟩;unfold pyNext;refine B0 (wpAny_attempt (wpAny_callSpecial?_slot (name:=Str.ofString "__next__") l F.slot_zip_next (wpAny_call_entry F.slot_zip_next l F.entry_zip_next
   (Cu D S (show s.heap.IsTuple a U.toArray from pa) (show s.heap.IsTuple b Y.toArray from pb) (by simpa using hu) (by simpa using hv) λg' G tp sz kp=>B9 ?_) (F.args_zip_next_1 _))))
  refine⟨_,rfl,HY (s:={ s with heap:=g' }) ht D G λg2 G kx=>?_⟩;replace tp:=kx _ _ (Bx (An m)) tp;have Z:∀c q,c∉[z,p,o,i,j]->s.heap.get? c=some q->g2.get? c=some q:=λc q d e=>by simp only[A9,Bj,or_false,not_or]at d;refine kx _ _ d.1 (kp c q d.1 d.2.2.1 d.2.2.2.1 d.2.2.2.2 e)
  have ne:∀c∈[z,p,o,i,j],c≠s.heap.objs.size:=λc d e=>by
   obtain⟨_,pp,⟨u1,u2,oo⟩,⟨oi,J,_⟩,⟨oj,L,_⟩⟩:=S;simp only[A9,Bj,or_false]at d;rcases d with rfl|rfl|rfl|rfl|rfl
   ·exact A6 (An m) e
   ·exact A6 (An pp) e
   ·exact A6 (An oo) e
   ·exact A6 (An J) e
   ·exact A6 (An L) e
  refine⟨.ref s.heap.objs.size,upd H s.heap.objs.size (.tup [x,y]),I.dw (t':=s.toks) hf Z (us:=[u,v]) (.cons ru (.cons rv .nil)) (show 2<=sizeLine by decide) ⟨_,tp,rfl,_,rfl⟩,rfl,
   ⟨_,x,y,I.hok.fresh (Ae _),λab h=>by rw[I.tuple_inj h t];exact hx,λac h=>by rw[I.tuple_inj h C];exact hy,rfl,rfl⟩,G,λc d=>?_⟩
  rw[QN (ne c d)];exact(hf c d).1
 done:=by
  intro X Q R O d n O9 s σ H E I hf S hg;subst Q R O;obtain⟨xs,ys,t,C,hs⟩:=hg;obtain⟨U,ra,pa,_⟩:=I.tuple t;obtain⟨Y,rb,pb,_⟩:=I.tuple C;have l1:=ra.length;have l2:=rb.length;obtain⟨f0,lN,m,lJ⟩:=S.zz;have l:s.TypeIs (.ref z) "zip" := ⟨_,m,rfl⟩;unfold pyNext;refine B0 (wpAny_attempt (wpAny_callSpecial?_slot (name:=Str.ofString "__next__") l F.slot_zip_next (wpAny_call_entry F.slot_zip_next l F.entry_zip_next
   (Cr (I.ok.hd d) D S (show s.heap.IsTuple a U.toArray from pa) (show s.heap.IsTuple b Y.toArray from pb) (by rcases hs with q|q;exact .inl (by simp;lia);exact .inr (by simp;lia)) λg x kp hx=>?_) (F.args_zip_next_1 _))))
  obtain⟨ox,h1,h2⟩:=hx;refine B0 (wpAny_isInstance (T := "StopIteration") (b:=true) ⟨ox,h1,h2⟩ isSubtype_stop ?_);refine B9 ⟨rfl,I.fL (t':=s.toks) hf λc q d e=>?_⟩;simp only[A9,Bj,or_false,not_or]at d;exact kp c q d.1 d.2.2.1 d.2.2.2.1 d.2.2.2.2 e
 self:=λ_ _ _ _ _ S h=>by obtain⟨f0,lN,m,lJ⟩:=S.zz;have l:Shared.TypeIs _ (Value.ref z) "zip" := ⟨_,m,rfl⟩;refine wpAny_pyIter_slot l F.slot_zip_iter (wpAny_call_entry F.slot_zip_iter l F.entry_zip_iter ?_ (F.args_zip_iter_1 _));exact B9 ⟨_,rfl, "zip", _,l,(F.slot_zip_next).1,h⟩
section
variable{X:Cx}{xn:Str}{p2:Pos}{O9:Cf}{σ:L2.St}
theorem wU{H:Hp}{s:Shared}{E:Ce}{Q:Ce}{a b:Addr}{xs ys:List V}(I:Inv X O9 σ H s)(t:SqT X.K H a xs)(u:SqT X.K H b ys)
  (k:∀(s':Shared) (z p o i j:Addr),Inv X O9 σ H s'->ZA z p o i j a b->ZU s'.heap z p o i j a b 0->(∀c∈[z,p,o,i,j],yx X O9 H c)->Q (.ref z) s'):wpAny (model X.prog X.w) X.A (call (.type "zip") [.ref a,.ref b]) Q E s:=by
 obtain⟨h,v,pa,_⟩:=I.tuple t;obtain⟨l,rb,q,_⟩:=I.tuple u;refine callType_new F.called_zip (by decide) (F.typeCall_zip_2 _ _) (F.newCall_zip_2 _ _) (λobj=>F.args_object_init_3 obj _ _) F.entry_zip_new (R3 a b h.toArray l.toArray) ⟨show s.heap.IsTuple a h.toArray from pa,show s.heap.IsTuple b l.toArray from q,?_⟩;have z1:(nq s.heap a).objs.size=s.heap.objs.size+1:=Bq ..;have z2:(ni s.heap a b).objs.size=s.heap.objs.size+2:=by rw[Bq,z1]
 have z3:(m_ s.heap a b).objs.size=s.heap.objs.size+3:=by rw[Bq,z2]
 have z4:(m9 s.heap a b).objs.size=s.heap.objs.size+4:=by rw[Bq,z3]
 have f:(fY s.heap a b).get? (m9 s.heap a b).objs.size=some _:=Ar _ rfl;have g4:(fY s.heap a b).get? (m_ s.heap a b).objs.size=some _:=Ad _ (Ar _ rfl);have g3:(fY s.heap a b).get? (ni s.heap a b).objs.size=some _:=Ad _ (Ad _ (Ar _ rfl));have g2:(fY s.heap a b).get? (nq s.heap a).objs.size=some _:=Ad _ (Ad _ (Ad _ (Ar _ rfl)));have g1:(fY s.heap a b).get? s.heap.objs.size=some _:=Ad _ (Ad _ (Ad _ (Ad _ (Ar _ rfl))));show _/\_;have kp:∀c o,s.heap.get? c=some o->(fY s.heap a b).get? c=some o:=λc o e=>Ad _ (Ad _ (Ad _ (Ad _ (Ad _ e))));refine⟨⟨_,f,rfl⟩,?_⟩;rw[z2,z3,z4]at f;rw[z1,z2]at g3;rw[z3]at g4;rw[z1]at g2;rw[z4];have m:a<s.heap.objs.size:=by obtain⟨o,e,_⟩:=pa;exact An e
 have n:b<s.heap.objs.size:=by obtain⟨o,e,_⟩:=q;exact An e
 have D:ZA (s.heap.objs.size+4) (s.heap.objs.size+2) (s.heap.objs.size+3) s.heap.objs.size (s.heap.objs.size+1) a b:=by constructor<;>first|exact A6 m|exact A6 n|exact A6 (Au m (Nat.le_add_right _ _))|exact A6 (Au n (Nat.le_add_right _ _))|exact A6 ⋯|exact Bx ⋯
 have r:Inv X O9 σ H { s with heap:=fY s.heap a b }:=I.kept (t':=s.toks) kp;have S:ZU (fY s.heap a b) (s.heap.objs.size+4) (s.heap.objs.size+2) (s.heap.objs.size+3) s.heap.objs.size (s.heap.objs.size+1) a b 0:=⟨⟨_,_,f,.inl rfl⟩,g3,⟨_,_,g4⟩,⟨_,g1,rfl,rfl⟩,⟨_,g2,rfl,rfl⟩⟩;refine k { s with heap:=fY s.heap a b } _ _ _ _ _ r D S λc g=>?_;have d:s.heap.objs.size<=c:=by simp only[A9,Bj,or_false]at g;rcases g with rfl|rfl|rfl|rfl|rfl<;>first|exact Ae _|exact Nat.le_add_right _ _
 exact I.fpOk d (I.hok.fresh d)
theorem Cw{d:Expr}(c:mY d){H:Hp}{s:Shared}{R:It->Hp->Prop}{E:Ce}{a b:Addr}{xs ys:List V}(I:Inv X O9 σ H s)(f:SqT X.K H a xs)(g:SqT X.K H b ys)(q:R (mC X.K a b) H) :
  wpAny (model X.prog X.w) X.A (call (.type "zip") [.ref a,.ref b]) (λv h=>wpAny (model X.prog X.w) X.A (pyIter v) (PIE X O9 σ d R) E h) E s :=
 wU I f g λs' z p o i j e D S hf=>(Kn (K:=X.K) c D).self _ _ _ _ _ S ⟨_,[z,p,o,i,j],_,mC X.K a b,H,rfl,e,Kn c D,S,hf,q⟩
theorem PL{x y:Expr}{g:TA}{p d:Pos}(j:Gl X "zip")(l:X.mg "zip" = none)(i:PA X [x,y] g)(m:starEach [x,y] X.env=[(false,eval x X.env),(false,eval y X.env)]:=by rfl)(c:starEach [y] X.env=[(false,eval y X.env)]:=by rfl) :
    PI X (.Name xn p2) (.Call (.Name "zip" p) [x,y] [] d) (M4 X.K g):=by
  intro O9 s σ H R I h;refine Call_ (XM I j l boot_zip (PyProof.Rows.callWith_type1 (thn (i d O9 s σ H _ I h) λus u ⟨vs,H1,I1,r1,q1⟩=>?_) (by rw[m,c]) (by rw[c];rfl)));obtain⟨a,b,xs,ys,e,n,o,q⟩:=q1;subst e;cases r1 with
  |cons r f =>
    cases f with
    |cons t f=>cases f;cases r;cases t;exact Cw (.nm ..) I1 n o q
end
end L2
namespace D
open PySem PySem.Spec PyProof.Rows L2
section
variable{X:Cx}{xn:Str}{p2:Pos}{f g:aB}
theorem TQ{x y:Expr}{p d:Pos}(r:Gl X "zip")(t:X.mg "zip" = none)(hx:DE X x f)(E:DE X y g)(h:starEach [x,y] X.env=[(false,eval x X.env),(false,eval y X.env)]:=by rfl)(c:starEach [y] X.env=[(false,eval y X.env)]:=by rfl) :
  DI X (.Name xn p2) (.Call (.Name "zip" p) [x,y] [] d) (lX f g) :=
 L2.PI.imp (PL r t (Xu hx (Xu E pa_nil (by rw[c];rfl)) (by rw[h,c])) h c) λσ H R l=>by obtain⟨Z,env,ρ,B,U,ds,z,S,e,k⟩:=l;obtain⟨Q,hp1,m,e⟩:=Qg e;obtain⟨xs,hp2,n,e⟩:=Qg e;obtain⟨rfl,rfl⟩:=Xw n;obtain⟨T,C,o,e⟩:=Qg e;obtain⟨ys,P,q,e⟩:=Qg e;obtain⟨rfl,rfl⟩:=Xw q;obtain⟨rfl,rfl⟩:=Qm e;refine tD.run S m λv ρ1 B1 H1 g1 S1 L=>tD.run S1 o λu ρ2 B2 H2 g2 S2 O=>?_;obtain⟨a,vs,rfl,I,i,F⟩:=(aA.grow S1.wo.rb g2 _ _ L).tupI;obtain⟨b,us,rfl,J,j,G⟩:=O.tupI;exact⟨a,b,vs,us,rfl,i,j,k _ ρ2 B2 H2 (g1.trans g2) S2.wo (wY I i F J j G)⟩
end
def bJ(ps:List (Int×Int)):List DV:=ps.map λp=>.tup [.int p.1,.int p.2]
section
variable(s f q:Nat)(d a g p n w e x:DV)
end
section
variable{c f m:Str}{o e:aB}{fa:bM}{env:En}{U hp1 hp2:Hs}{a n:Nat}{fs:List (Str×DV)}{d v:DV}{ds:List DV}{F:Ck}
theorem kS{α:Type}{k:Nat->List (Str×DV)->M α}(h:U[a]?=some (.ins c fs)):fQ c (.ref a) k U=k a fs U:=by show(Zx a >>= _) U=_;rw[Qf (Q8 h)];show(QG (decide (c=c)) >>= λ_=>k a fs) U=_;rw[Ca rfl];rfl
theorem Cm(g:o env U=some (.ref a,hp1))(h:hp1[a]?=some (.ins c fs))(hf:fs.lookup f=some d):jK c f o env U=some (d,hp1):=by unfold jK;rw[Qf g];unfold KU;rw[kS h,hf];rfl
theorem jW(q:o env U=some (.ref a,U))(h:U[a]?=some (.ins c fs))(j:fs.lookup m=none)(i:fa env U=some (ds,hp1))(l:ds.length+1=n)(g:F (.ref a::ds) hp1=some (d,hp2)):Z9 c m n F o fa env U=some (d,hp2):=by
 unfold Z9;rw[Qf q];have:fQ c (.ref a) (λ_ fs=>QG (fs.lookup m).isNone) U=some ((),U):=by rw[kS h,j];rfl
 rw[Qf this,Qf i,Ca l];show(QG true >>= λ_=>F (.ref a::ds)) hp1=_;exact g
def wR:Qk env U=some ([],U):=rfl
theorem QR(h:e env U=some (v,hp1)):Qc e Qk env U=some ([v],hp1):=by unfold Qc;rw[Qf h];rfl
theorem Zy{g:aB}{v':DV}(h:e env U=some (v,hp1))(h':g env hp1=some (v',hp2)):Qc e (Qc g Qk) env U=some ([v,v'],hp2):=by have:=QR h';unfold Qc at this ⊢;rw[Qf h,Qf this];rfl
theorem UQ{q g:aB}{v' j:DV}{i:Hs}(h:e env U=some (v,hp1))(h':q env hp1=some (v',hp2))(l:g env hp2=some (j,i)):Qc e (Qc q (Qc g Qk)) env U=some ([v,v',j],i):=by have:=Zy h' l;unfold Qc at this ⊢;rw[Qf h,Qf this];rfl
theorem ak{i:Nat}(h:env[i]?=some (.val d)):Qa i env U=some (d,U):=by unfold Qa;rw[h];rfl
theorem QI{k:Nat}(h:fa env U=some (ds,hp1))(i:ds.length=k)(g:F ds hp1=some (d,hp2)):Qw k F fa env U=some (d,hp2):=by unfold Qw;rw[Qf h,Ca i];exact g
theorem Zf{c:bF}{f g:aD}(h:c env U=some (true,hp1)):aN c f g env U=f env hp1:=by rw[wZ h];rfl
theorem QL{c:bF}{f g:aD}(h:c env U=some (false,hp1)):aN c f g env U=g env hp1:=by rw[wZ h];rfl
def QM:Zn env U=some ((.nx,env),U):=rfl
theorem Ti{i:Nat}(h:U[a]?=some (.lst ds))(hd:ds[i]?=some d):au (.ref a) (.int i) U=some (d,U):=by show(Zx a >>= _) U=_;rw[Qf (Q8 h)];show(dM (.int (i:Int)) >>= λi=>xO (atI ds i)) U=_;simp only[dM,Cd,KB hd];rfl
end
theorem Ly{xs:List DV}{i:Nat}{d:DV}(h:xs[i]?=some d)(U:Hs):au (.tup xs) (.int i) U=some (d,U):=by show eV (.tup xs) (.int i) U=_;simp only[eV,KB h];rfl
section
variable{e e' e'' e3 e4:aB}{fa:bM}{env:En}{U hp1 hp2 hp3 cA h_:Hs}{v v' v'' v3 v4 d:DV}{ds:List DV}
theorem qg(a:fa env U=some (ds,hp1))(c:ds.length<=100000):ZK fa env U=some (.tup ds,hp1):=by unfold ZK;rw[Qf a];have:JV ds=true:=Ca c;rw[this];rfl
theorem gI(h:e env U=some (v,hp1))(h':e' env hp1=some (v',hp2))(a:e'' env hp2=some (v'',hp3))(c:e3 env hp3=some (v3,cA)):Qc e (Qc e' (Qc e'' (Qc e3 Qk))) env U=some ([v,v',v'',v3],cA):=by have:=UQ h' a c;unfold Qc at this ⊢;rw[Qf h,Qf this];rfl
theorem rH(h:e env U=some (v,hp1))(h':e' env hp1=some (v',hp2))(a:e'' env hp2=some (v'',hp3))(c:e3 env hp3=some (v3,cA))(f:e4 env cA=some (v4,h_)):Qc e (Qc e' (Qc e'' (Qc e3 (Qc e4 Qk)))) env U=some ([v,v',v'',v3,v4],h_):=by have:=gI h' a c f;unfold Qc at this ⊢;rw[Qf h,Qf this];rfl
end
theorem BN{o:aB}{fa:bM}{env:En}{U:Hs}{a b:Nat}{ds c:List DV}(i:o env U=some (.ref a,U))(h:U[a]?=some (.lst ds))(e:fa env U=some ([.ref b],U))(f:U[b]?=some (.lst c))(g:ds.length+c.length<=100000):Zk "list" Jf o fa env U=some (.non,U.set a (.lst (ds++c))):=by
 unfold Zk;rw[Qf i];have d:qk "list" (.ref a) U=some ((),U):=by show(Zx a >>= _) U=_;rw[Qf (Q8 h)];rfl
 rw[Qf d,Qf e];show(Zx a >>= _) U=_;rw[Qf (Q8 h)];show(Zx b >>= _) U=_;rw[Qf (Q8 f)];show(QG (decide (ds.length+c.length<=lim)) >>= λ_=>jp a (.lst (ds++c)) >>= λ_=>pure DV.non) U=_;rw[show decide (ds.length+c.length<=lim)=true from Ca g];rfl
theorem zy(o:Option Int):isD (opt o) .non=pure (.bl o.isNone):=by cases o<;>rfl
theorem VP(o:Option Int):Xt (opt o) .non=pure (.bl o.isSome):=by cases o<;>rfl
section
variable{c c':bF}{e e':aB}{env:En}{U hp1:Hs}{b:Bool}
theorem kr(h:c env U=some (true,hp1)):cG c c' env U=some (true,hp1):=by unfold cG;rw[Qf h];rfl
theorem kq(h:c env U=some (false,hp1)):cG c c' env U=c' env hp1:=by unfold cG;rw[Qf h];rfl
theorem xE(h:c env U=some (true,hp1)):Jx c c' env U=c' env hp1:=by unfold Jx;rw[Qf h];rfl
theorem xD(h:c env U=some (false,hp1)):Jx c c' env U=some (false,hp1):=by unfold Jx;rw[Qf h];rfl
theorem ko(h:c env U=some (true,hp1)):dG c e e' env U=e env hp1:=by unfold dG;rw[Qf h];rfl
theorem kn(h:c env U=some (false,hp1)):dG c e e' env U=e' env hp1:=by unfold dG;rw[Qf h];rfl
end
section
variable{f g:aB}{fa:bM}{env:En}{U hp1 hp2:Hs}{d x y:DV}{ds:List DV}{F:Ck}
theorem Jd(h:fa env U=some (ds,hp1))(a:F ds hp1=some (d,hp2)):QA F fa env U=some (d,hp2):=by unfold QA;rw[Qf h];exact a
def Wx(ds:List DV)(U:Hs):QV [.lst ds] U=some (.int ds.length,U):=rfl
theorem Ww{n:Nat}(h:U[n]?=some (.lst ds)):QV [.ref n] U=some (.int ds.length,U):=by show(Zx n >>= _) U=_;rw[Qf (Q8 h)];rfl
def Ws(ds:List DV)(U:Hs):lV [.tup ds] U=some (.lst ds,U):=rfl
theorem nQ(i j:Int)(U:Hs):bC (.int i) (.int j) U=some (.bl (!(i==j)),U):=by unfold bC;rw[Qf (G0 i j U)];rfl
theorem Hh(i j:Int)(U:Hs):aX (.int i) (.int j) U=some (.bl (i==j),U):=by unfold aX;rw[Qf (G0 i j U)];rfl
theorem Lf(b:Bool)(U:Hs):bC (.bl b) (.bl b) U=some (.bl false,U):=by have e:=yR (BW 39 U b) (BW 39 U b) (BJ b) (BJ b);unfold bC;rw[Qf e];cases b<;>rfl
end
theorem ZS{f:fD}{env:En}{U hp1:Hs}{ds:List DV}(h:f env U=some (ds,hp1)):cg f env U=some (bK ds,hp1):=by unfold cg;rw[Qf h];rfl
theorem yS{f:bM}{env:En}{U hp1:Hs}{a b:Nat}(h:f env U=some ([.int (a:Int),.int (b:Int)],hp1))(c:a<=1000000)(d:b<=1000000):uF f env U=some (QZ a (b-a),hp1):=by
 unfold uF;rw[Qf h];have e:mX [.int (a:Int),.int (b:Int)]=pure (QZ a ((b:Int)-a).toNat):=by simp only[mX,xY c,xY d,Bool.and_self,QG,if_true,Cd]
 rw[e,show((b:Int)-a).toNat=b-a by lia];rfl
section
variable{c:bF}{b:aD}{n:Nat}{env aL:En}{U hp1 hp2:Hs}
theorem xq(h:c env U=some (true,hp1))(a:b env hp1=some ((.nx,aL),hp2)):Z7 c b (n+1) env U=Z7 c b n aL hp2:=by rw[Z7,Qf h];simp only[if_true];rw[Qf a]
theorem qh(h:c env U=some (false,hp1)):Z7 c b (n+1) env U=some ((.nx,env),hp1):=by rw[Z7,Qf h];rfl
end
theorem HK{o e:aB}{env:En}{U:Hs}{a:Nat}{ds:List DV}{d:DV}(i:o env U=some (.ref a,U))(h:U[a]?=some (.lst ds))(f:e env U=some (d,U))(g:ds.length<100000):Zk "list" QY o (Qc e Qk) env U=some (.non,U.set a (.lst (ds++[d]))):=by
 unfold Zk;rw[Qf i];have c:qk "list" (.ref a) U=some ((),U):=by show(Zx a >>= _) U=_;rw[Qf (Q8 h)];rfl
 rw[Qf c,Qf (QR f)];show(Zx a >>= _) U=_;rw[Qf (Q8 h)];show(QG (decide (ds.length<lim)) >>= λ_=>jp a (.lst (ds++[d])) >>= λ_=>pure DV.non) U=_;rw[show decide (ds.length<lim)=true from Ca g];rfl
def Pl:Nat->DV->Prop
 |_,.non=>True
 |_,.bl _=>True
 |_,.int _=>True
 |_,.str x=>PyData.strOk x=true
 |n+1,.tup ds=>∀d∈ds,Pl n d
 |n+1,.lst ds=>∀d∈ds,Pl n d
 |_,_=>False
theorem xA:∀(n:Nat)(d:DV)(k:Nat)(U:Hs),Pl n d->aV (n+k+1) U d=some d
  |n,.non,k,U,_=>rfl
  |n,.bl _,k,U,_=>rfl
  |n,.int _,k,U,_=>rfl
  |n,.str _,k,U,_=>rfl
  |0,.tup ds,k,U,h=>h.elim
  |0,.lst ds,k,U,h=>h.elim
  |0,.ref _,k,U,h=>h.elim
  |n+1,.ref _,k,U,h=>h.elim
  |n+1,.tup ds,k,U,h=>by show(ds.mapM (aV (n+1+k) U)).map DV.tup=_;rw[JW λd hd=>(by rw[Nat.add_right_comm];exact xA n d k U (h d hd))];rfl
  |n+1,.lst ds,k,U,h=>by show(ds.mapM (aV (n+1+k) U)).map DV.lst=_;rw[JW λd hd=>(by rw[Nat.add_right_comm];exact xA n d k U (h d hd))];rfl
theorem Gc:∀(ds:List DV),(∀d∈ds,(toP d).canLay0=true)->PyData.canLayAll0 (bU ds)=true
 | [],_=>by unfold bU PyData.canLayAll0;rfl
 |d::ds,h=>by unfold bU PyData.canLayAll0;rw[h d (by simp),Gc ds λx hx=>h x (At _ hx)];rfl
theorem Gd:∀(n:Nat)(d:DV),Pl n d->(toP d).canLay0=true
 |n,.non,_=>by unfold toP PyData.canLay0;rfl
 |n,.bl _,_=>by unfold toP PyData.canLay0;rfl
 |n,.int _,_=>by unfold toP PyData.canLay0;rfl
 |n,.str x,h=>by cases n<;>(unfold toP PyData.canLay0;exact h)
 |0,.tup ds,h=>h.elim
 |0,.lst ds,h=>h.elim
 |0,.ref _,h=>h.elim
 |n+1,.ref _,h=>h.elim
 |n+1,.tup ds,h=>by unfold toP PyData.canLay0;exact Gc ds λd hd=>Gd n d (h d hd)
 |n+1,.lst ds,h=>by unfold toP PyData.canLay0;exact Gc ds λd hd=>Gd n d (h d hd)
theorem xx(n:Nat):∀(ds:List DV),(∀d∈ds,(toP d).depth<=n)->PyData.depthAll (bU ds)<=n
 | [],_=>by unfold bU PyData.depthAll;exact A5 _
 |d::ds,h=>by unfold bU PyData.depthAll;exact Nat.max_le.mpr ⟨h d (by simp),xx n ds λx hx=>h x (At _ hx)⟩
theorem Vm:∀(n:Nat)(d:DV),Pl n d->(toP d).depth<=n
 |n,.non,_=>by unfold toP PyData.depth;exact A5 _
 |n,.bl _,_=>by unfold toP PyData.depth;exact A5 _
 |n,.int _,_=>by unfold toP PyData.depth;exact A5 _
 |n,.str x,h=>by unfold toP PyData.depth;exact A5 _
 |0,.tup ds,h=>h.elim
 |0,.lst ds,h=>h.elim
 |0,.ref _,h=>h.elim
 |n+1,.ref _,h=>h.elim
 |n+1,.tup ds,h=>by unfold toP PyData.depth;exact Nat.succ_le_succ (xx n ds λd hd=>Vm n d (h d hd))
 |n+1,.lst ds,h=>by unfold toP PyData.depth;exact Nat.succ_le_succ (xx n ds λd hd=>Vm n d (h d hd))
theorem Kk{n:Nat}{d:DV}(h:Pl n d)(a:n<=64):SeqAt.shaped (toP d)=true:=by unfold SeqAt.shaped;rw[Gd n d h,Ca (A8 (Vm n d h) a)];rfl
theorem XD{n:Nat}{d:DV}(h:Pl n d)(a:n<40)(U:Hs):aV 40 U d=some d:=by
 have:=xA n d (39-n) U h
 rwa [show n+(39-n)+1=40 by lia]at this
theorem Pl.mono:∀{n m:Nat}{d:DV},Pl n d->n<=m->Pl m d
 |n,m,.non,h,a=>by cases m<;>trivial
 |n,m,.bl _,h,a=>by cases m<;>trivial
 |n,m,.int _,h,a=>by cases m<;>trivial
 |n,m,.str _,h,a=>by cases n<;>cases m<;>exact h
 |0,m,.tup ds,h,a=>h.elim
 |0,m,.lst ds,h,a=>h.elim
 |0,m,.ref _,h,a=>h.elim
 |n+1,m,.ref _,h,a=>h.elim
 |n+1,0,.tup ds,h,a=>absurd a (Nat.not_succ_le_zero _)
 |n+1,0,.lst ds,h,a=>absurd a (Nat.not_succ_le_zero _)
 |n+1,m+1,.tup ds,h,a=>λd hd=>(h d hd).mono (Nat.le_of_succ_le_succ a)
 |n+1,m+1,.lst ds,h,a=>λd hd=>(h d hd).mono (Nat.le_of_succ_le_succ a)
theorem zc(n:Nat)(i:Int):Pl n (.int i):=by cases n<;>trivial
theorem wL(n:Nat)(b:Bool):Pl n (.bl b):=by cases n<;>trivial
theorem z_{n:Nat}{x:Str}(h:PyData.strOk x=true):Pl n (.str x):=by cases n<;>exact h
def uX{n:Nat}{ds:List DV}(h:∀d∈ds,Pl n d):Pl (n+1) (.tup ds):=h
def Ms{n:Nat}{ds:List DV}(h:∀d∈ds,Pl n d):Pl (n+1) (.lst ds):=h
theorem zr{x y:DV}{n m:Nat}(h:Pl n x)(h':Pl m y)(c:n<40)(a:m<40)(U:Hs):Xs x y U=some (PyData.eqv (toP x) (toP y),U):=by unfold Xs uw;show((Option.map _ (aV 40 U x)).bind _)=_;rw[XD h c];show((Option.map _ (aV 40 U y)).bind _)=_;rw[XD h' a];show(QG (SeqAt.shaped (toP x)&&SeqAt.shaped (toP y)) >>= λ_=>pure (PyData.eqv (toP x) (toP y)):M Bool) U=_;rw[Kk h ⋯,Kk h' ⋯];rfl
theorem U4{x:DV}{n:Nat}(h:Pl n x)(a:n<40)(U:Hs):Xs x x U=some (true,U):=by rw[zr h h a a,SeqAt.eqv_refl _ (Gd n x h)]
theorem Hm{t:DV->M Bool}{f:DV->M DV}{g:DV->DV}{U:Hs}(ds:List DV)(o:∀d∈ds,t d U=some (true,U))(hf:∀d∈ds,f d U=some (g d,U))(l:ds.length<100000):Xm (bK ds) t f 100000 0 U=some (ds.map g,U):=by
  suffices h:∀(m i n:Nat),m+i=ds.length->m<n->Xm (bK ds) t f n i U=some ((ds.drop i).map g,U)by simpa using h ds.length 0 100000 rfl l
  intro m;induction m with
  |zero =>
    intro i n e j;obtain⟨n,rfl⟩:∃k,n=k+1:=⟨n-1,⋯⟩;have:i=ds.length:=⋯
    subst this;have c:=Ys ds ds.length (Ae _) U;rw[show ds[ds.length]?=none by simp]at c;rw[Xm,Qf c,List.drop_length];rfl
  |succ m q =>
    intro i n e j;obtain⟨n,rfl⟩:∃k,n=k+1:=⟨n-1,⋯⟩;have a:i<ds.length:=⋯
    have c:=Ys ds i ⋯ U;rw[Ab a]at c;rw[Xm,Qf c];simp only;rw[Qf (o ds[i] (Bi a)),A7 a];simp only[if_true];rw[Qf (hf ds[i] (Bi a)),Qf (q (i+1) n ⋯ ⋯)];rfl
section
variable{env:En}{U hp1 hp2 hp3 cA h_ Fp D6:Hs}{e e' e'' e3 e4 e5 e6:aB}{v v' v'' v3 v4 v5 v6:DV}
end
section
variable{X:Cx}{tg e a b c:Expr}{f fa fb:aB}{pos:Pos}
def m8:DV->DV->M DV
  |.ref n,.lst ys=>do
    match <- Zx n with
    |.lst xs=>do QG (JV (xs++ys));pure (.lst (xs++ys))
    |_=>failure
  |x,y=>QP x y
theorem Pq:P2 X (binaryOp .Add) m8:=by
  intro j s σ H x y v u Q I rx ry h;obtain⟨ρ,B,U,P,R,d,i,W,r,t,e,k⟩:=h;unfold m8 at e;split at e
  . rename_i n ys
    obtain⟨o,hp1,C,g⟩:=Qg e;obtain⟨E,rfl⟩:=ZC C;cases o with
    |aJ _=>cases g
    |ins _ _=>cases g
    |lst xs =>
      obtain⟨_,hp1,F,G⟩:=Qg g;obtain⟨L,rfl⟩:=QE F;obtain⟨rfl,rfl⟩:=Qm G;obtain⟨l,rfl,_,vs,J,m⟩:=aA.bf W r E;obtain⟨b,z,rfl,S,O,q⟩:=t.bR;have hz:vs.length+z.length<=sizeLine:=by have:=YO L;rw[Ak]at this;rw[<- m.length,<- q.length];exact this
      exact kZ j s σ H _ _ v u Q I rx ry ⟨l,b,vs,z,rfl,rfl,SqL.of J,O,hz,zt W (aq.append m q) k⟩
  . exact Q4 j s σ H x y v u Q I rx ry ⟨ρ,B,U,_,_,d,i,W,r,t,e,k⟩
end
section
variable{X:Cx}{tg e a b c:Expr}{f fa fb:aB}{pos:Pos}
def rO:DV->M Bool
  |.lst ds=>pure (!ds.isEmpty)
  |.tup ds=>pure (!ds.isEmpty)
  |.ref n=>do
    match <- Zx n with
    |.lst ds=>pure (!ds.isEmpty)
    |_=>failure
  |_=>failure
theorem KO{α β:Type}{xs:List α}{ys:List β}(h:xs.length=ys.length):xs.isEmpty=ys.isEmpty:=by cases xs<;>cases ys<;>first|rfl|cases h
theorem Rr{K:Aa}{ρ:Cj}{B:Ci}{H:Hp}{U g:Hs}{d:DV}{v:V}{k:Bool}(W:aQ K ρ B U H)(r:aA K ρ B H d v)(h:rO d U=some (k,g)):U=g/\rA K v H k:=by
  cases d with
  |lst ds=>obtain⟨rfl,rfl⟩:=Qm h;obtain⟨a,xs,rfl,x,l,j⟩:=r.bR;exact⟨rfl,.inl ⟨xs,l,by rw[KO j.length]⟩⟩
  |tup ds=>obtain⟨rfl,rfl⟩:=Qm h;obtain⟨a,xs,rfl,x,l,j⟩:=r.tupI;exact⟨rfl,.inr (.inl ⟨xs,l,by rw[KO j.length]⟩)⟩
  |ref n =>
    obtain⟨o,hp1,m,i⟩:=Qg h;obtain⟨q,rfl⟩:=ZC m;cases o with
    |lst y=>obtain⟨rfl,rfl⟩:=Qm i;obtain⟨a,rfl,_,ys,t,u⟩:=aA.bf W r q;exact⟨rfl,.inl ⟨ys,SqL.of t,by rw[KO u.length]⟩⟩
    |aJ _=>cases i
    |ins _ _=>cases i
  |non=>cases h
  |bl _=>cases h
  |int _=>cases h
  |str _=>cases h
def uy(f:aB):bF:=λenv=>do rO (<- f env)
theorem BR(h:DE X e f)(l:∀whole,isTrue e X.env whole=(do let v <- whole;standAt e.pos;holding [v] (truthy v)):=by intro _;rfl):DT X e (uy f) :=
 (WX h l).imp λσ H Q g=>by obtain⟨Z,env,ρ,B,U,d,m,S,e,k⟩:=g;obtain⟨x,hp1,i,j⟩:=Qg e;refine tD.run S i λv ρ1 B1 H1 g1 S1 n=>?_;obtain⟨rfl,t⟩:=Rr S1.wo n j;exact⟨d,t,k ρ1 B1 H1 g1 S1.wo⟩
def rY(d:DV)(g hi:Option Int):M DV:=match d with
  |.ref n=>do
    match <- Zx n with
    |.lst ds=>pure (.lst (YC ds g hi))
    |_=>failure
  |d=>o8 d g hi
def jM(f:aB)(g hi:iD):aB:=λenv=>do let d <- f env;let l <- g env;let h <- hi env;rY d l h
def Ls(K:Aa):V->Option Int->Option Int->Hp->VK->Prop:=λx h hi H Q=>∃ρ B U d r g,aQ K ρ B U H/\aA K ρ B H d x/\rY d h hi U=some (r,g)/\eY K ρ B H r g Q
theorem Nu:SlR X (Ls X.K):=by
  intro i s σ H x v vl vu lo hi sl Q I rx hs pl pu h;obtain⟨ρ,B,U,d,r,g,W,l,e,k⟩:=h;cases d with
  |ref n =>
    obtain⟨o,hp1,m,j⟩:=Qg e;obtain⟨q,rfl⟩:=ZC m;cases o with
    |lst ds=>obtain⟨rfl,rfl⟩:=Qm j;obtain⟨a,rfl,_,xs,t,u⟩:=aA.bf W l q;exact CG i s σ H _ v vl vu lo hi sl Q I rx hs pl pu ⟨a,xs,rfl,SqL.of t,zt W (Vj u) k⟩
    |aJ _=>cases j
    |ins _ _=>cases j
  |lst ds=>exact rC i s σ H x v vl vu lo hi sl Q I rx hs pl pu ⟨ρ,B,U,_,r,g,W,l,e,k⟩
  |tup ds=>exact rC i s σ H x v vl vu lo hi sl Q I rx hs pl pu ⟨ρ,B,U,_,r,g,W,l,e,k⟩
  |non=>cases e
  |bl _=>cases e
  |int _=>cases e
  |str _=>cases e
theorem KL{j hi:Option Expr}{n m:iD}{E:Pos}(h:DE X e f)(C:DO X j n)(z:DO X hi m):DE X (.Subscript e (.Slice j hi none E) pos) (jM f n m) :=
 L2.PE.imp (vj Nu h C z) λσ H Q q=>by obtain⟨Z,env,ρ,B,U,d,g,S,e,k⟩:=q;obtain⟨x,hp1,r,e⟩:=Qg e;obtain⟨l,hp2,t,e⟩:=Qg e;obtain⟨u,i,y,e⟩:=Qg e;refine tD.run S r λv ρ1 B1 H1 g1 S1 F=>iV.run S1 t λρ2 B2 H2 g2 S2=>iV.run S2 y λρ3 o H3 g3 S3=>?_;exact⟨ρ3,o,i,x,d,g,S3.wo,aA.grow S1.wo.rb (g2.trans g3) _ _ F,e,k.after (g1.trans (g2.trans g3))⟩
end
theorem Hy(ds:List DV)(a b:Nat)(h:a<=b):D.YC ds (some (a:Int)) (some (b:Int))=(ds.drop a).take (b-a):=by
 unfold D.YC;rw[HT.sIx_nat,HT.sIx_nat];rcases Nat.le_total a ds.length with q|q
 ·rw[Nat.min_eq_left q];rcases Nat.le_total b ds.length with c|c
  ·rw[Nat.min_eq_left c]
  ·rw[Nat.min_eq_right c,Bo (by simp),Bo (by simp;lia)]
 ·rw[Nat.min_eq_right q,List.drop_of_length_le q,List.drop_of_length_le (Ae _)];simp
section
variable{env:En}{U hp1 hp2 hp3:Hs}{f g h:aB}{ds:List DV}{d:DV}
theorem v_{a b:Nat}(hf:f env U=some (.lst ds,U))(l:g env U=some (.int (a:Int),U))(m:h env U=some (.int (b:Int),U))(c:a<=b):bL f (QX g) (QX h) env U=some (.lst ((ds.drop a).take (b-a)),U):=by
 unfold bL QX;rw[Qf hf];have e:(do let i <- dM (<- g env);pure (some i):M (Option Int)) U=some (some (a:Int),U):=by rw[Qf l];rfl
 have j:(do let i <- dM (<- h env);pure (some i):M (Option Int)) U=some (some (b:Int),U):=by rw[Qf m];rfl
 rw[Qf e,Qf j,<- Hy ds a b c];rfl
theorem Ru{a:Nat}(hf:f env U=some (.lst ds,U))(e:g env U=some (.int (a:Int),U)):bL f (QX g) Zb env U=some (.lst (ds.drop a),U):=by
 unfold bL QX Zb;rw[Qf hf];have c:(do let i <- dM (<- g env);pure (some i):M (Option Int)) U=some (some (a:Int),U):=by rw[Qf e];rfl
 rw[Qf c,Qf (rfl:(pure none:M (Option Int)) U=some (none,U)),<- jE ds a];rfl
theorem Zl{i:Nat}(hf:f env U=some (.lst ds,U))(a:g env U=some (.int (i:Int),U))(hd:ds[i]?=some d):Qe au f g env U=some (d,U):=by
 refine Qs hf a ?_;show eV (.lst ds) (.int (i:Int)) U=_;rw[Tn (d:=d)]
 ·rfl
 ·rw[Ob ⋯ (by have:=(Ac.mp hd).1;lia)];exact hd
def JQ{i:Nat}(hf:f env U=some (.tup ds,U))(a:g env U=some (.int (i:Int),U))(hd:ds[i]?=some d):Qe au f g env U=some (d,U):=Qs hf a (Ly hd U)
def Z6{i n:Nat}(hf:f env U=some (.ref n,U))(c:U[n]?=some (.lst ds))(a:g env U=some (.int (i:Int),U))(hd:ds[i]?=some d):Qe au f g env U=some (d,U):=Qs hf a (Ti c hd)
def Ow(hf:f env U=some (.lst ds,U)):QA QV (Qc f Qk) env U=some (.int ds.length,U):=Jd (QR hf) (Wx ds U)
def ZT{n:Nat}(hf:f env U=some (.ref n,U))(a:U[n]?=some (.lst ds)):QA QV (Qc f Qk) env U=some (.int ds.length,U):=Jd (QR hf) (Ww a)
def Q7{i j:Int}(hf:f env U=some (.int i,U))(a:g env U=some (.int j,U)):Qe QP f g env U=some (.int (i+j),U):=Qs hf a rfl
def Z0{i j:Int}(hf:f env U=some (.int i,U))(a:g env U=some (.int j,U)):Qe Jj f g env U=some (.int (i-j),U):=Qs hf a rfl
theorem gJ{i j:Nat}(hf:f env U=some (.int (i:Int),U))(a:g env U=some (.int (j:Int),U)):Qe QP f g env U=some (.int ((i+j:Nat):Int),U):=by rw[Q7 hf a];simp
def Yo{i j:Int}(hf:f env U=some (.int i,U))(a:g env U=some (.int j,U)):Qe cR f g env U=some (.bl (decide (j<i)),U):=Qs hf a rfl
def jg{i j:Int}(hf:f env U=some (.int i,U))(a:g env U=some (.int j,U)):Qe bW f g env U=some (.bl (decide (i<j)),U):=Qs hf a rfl
def Y0{i j:Int}(hf:f env U=some (.int i,U))(a:g env U=some (.int j,U)):Qe aX f g env U=some (.bl (i==j),U):=Qs hf a (Hh i j U)
theorem KK{nw:Bool}{src:eZ}{idx:List Nat}{t:bF}{e:aB}{m:DV->DV}(i:src env U=some (bK ds,U))(j:∀x∈ds,t (cE idx env x) U=some (true,U))(a:∀x∈ds,e (cE idx env x) U=some (m x,U))(c:ds.length<100000):ZQ false src idx t e env U=some (.lst (ds.map m),U):=by unfold ZQ;rw[Qf i];exact(Qf (Hm (t:=λd=>t (cE idx env d)) (f:=λd=>e (cE idx env d)) ds j a c)).trans rfl
end
section
variable{prog:Program}{w:World}{A:Around}{E:Ce}{s:Shared}
end
section
variable{prog:Program}{w:World}{K:Type}[DecidableEq K]{knd:KeyKind prog w K}{A:Around}{R:Result->Shared->Prop}
end
section
variable{prog:Program}{w:World}{K:Type}[DecidableEq K]{knd:KeyKind prog w K}{A:Around}{E:Ce}{s:Shared}
end
section
variable{X:Cx}
def d9:DV->M (List DV)
  |.lst ds=>pure ds
  |.ref n=>do
    match <- Zx n with
    |.lst ds=>pure ds
    |_=>failure
  |_=>failure
theorem X9{d:DV}{ds:List DV}{U c:Hs}{K:Aa}{ρ:Cj}{B:Ci}{H:Hp}{v:V}(W:aQ K ρ B U H)(r:aA K ρ B H d v)(h:d9 d U=some (ds,c)):U=c/\∃p xs,v=.ref p/\SqL K H p xs/\aq K ρ B H ds xs:=by
  cases d with
  |lst xs=>obtain⟨rfl,rfl⟩:=Qm h;obtain⟨a,ys,rfl,_,m,l⟩:=r.bR;exact⟨rfl,a,ys,rfl,m,l⟩
  |ref n =>
    obtain⟨o,hp1,f,e⟩:=Qg (show(Zx n >>= λo=>(match o with|.lst ds=>pure ds|_=>failure:M (List DV))) U=some (ds,c)from h);obtain⟨g,rfl⟩:=ZC f;cases o with
    |lst q=>obtain⟨rfl,rfl⟩:=Qm e;obtain⟨a,rfl,_,ys,i,j⟩:=aA.bf W r g;exact⟨rfl,a,ys,rfl,SqL.of i,j⟩
    |aJ _=>cases e
    |ins _ _=>cases e
  |non=>cases h
  |bl _=>cases h
  |int _=>cases h
  |str _=>cases h
  |tup _=>cases h
def iI(o:Option α):M α:=match o with
 |some a=>pure a
 |none=>failure
theorem VO{o:Option α}{a:α}{U c:Hs}(h:iI o U=some (a,c)):o=some a/\U=c:=by
 cases o with
 |none=>cases h
 |some z=>obtain⟨rfl,rfl⟩:=Qm h;exact⟨rfl,rfl⟩
end
def iR:List DV->Option (List Bool)
 | []=>some []
 |.bl b::r=>(iR r).map (b :: ·)
 |_=>none
def ud:List DV->M DV:=mj λd=>do
 let ds <- d9 d
 let bs <- iI (iR ds)
 pure (.bl (bs.all id))
section
variable{prog:Program}{w:World}{A:Around}{E:Ce}{s:Shared}
theorem MB(bs:List Bool):(List.range bs.length).all (λi=>bs.getD i false)=bs.all id:=by
  induction bs with
  |nil=>rfl
  |cons b bs a=>rw[Ay,List.range_succ_eq_map,Bw,List.all_map,Bw,<- a];rfl
theorem Uu{l:Addr}{items:Array Value}{bs:List Bool}{Q:Ce}(n:A.handled=none)(c:s.heap.IsList l items)(a:items.size=bs.length)(m:∀(i:Nat)(v:Value),items[i]?=some v->v=.bool (bs.getD i false))
  (h:∀h' f,(∀b o,s.heap.get? b=some o->h'.get? b=some o)->Q (.bool (bs.all id)) { s with heap:=h',toks:=f }):wpAny (model prog w) A (call (.builtin "all") [.ref l]) Q E s:=by
 refine call_all_walk (wpAny_pyIter_list c ?_);have d:l≠s.heap.objs.size:=λe=>by obtain⟨o,r,_⟩:=c;exact Bt _ (e▸An r)
 refine⟨s.heap.objs.size,_,_,_,_,_,λi=>bs.getD i false,rfl,Walks.list (by exact n) s.heap.objs.size l d items,?_,λi v s' Q' E' g j=>?_,λh' f q=>?_⟩
 ·exact⟨⟨_,Ar _ rfl,rfl,rfl⟩,c.push _⟩
 ·have:v=.bool (bs.getD i false):=m i v g;subst this;exact B9 j
 ·rw[a,MB];refine h h' f λb o e=>q b o (λz=>?_) (Ad _ e);have:b=s.heap.objs.size:=by simpa using z
  exact Bt _ (this▸An e)
end
section
variable{X:Cx}
theorem Sh{K:Aa}{ρ:Cj}{B:Ci}{H:Hp}:∀{ds:List DV}{bs:List Bool}{ys:List V}{a:List Value},iR ds=some bs->aq K ρ B H ds ys->Vals ys a->a.length=bs.length/\∀(i:Nat)(v:Value),a[i]?=some v->v=.bool (bs.getD i false):=by
  intro ds;induction ds with
  |nil=>intro bs ys a h r v;cases h;unfold aq at r;subst r;cases v;exact⟨rfl,λi v h=>by simp at h⟩
  |cons d ds m =>
    intro bs ys a h r v;unfold aq at r;obtain⟨y,t,rfl,e,n⟩:=r;cases v with
    |@cons _ u _ us o q =>
    cases d<;>first|(simp[iR]at h;done)|skip
    rename_i b;have h:(iR ds).map (b :: ·)=some bs:=h;obtain⟨j,l,rfl⟩:=Bk.mp h;obtain⟨f,g⟩:=m l n q;unfold aA at e;subst e;cases o;refine⟨by simp[f],λi v c=>?_⟩;cases i with
    |zero=>cases c;rfl
    |succ i=>exact g i v c
theorem rG(o:X.calm=true):CallR X (.builtin "all") (eO X.K ud):=by intro J s σ H xs us Q I r h;obtain⟨ρ,B,U,ds,d,q,W,z,e,k⟩:=h;obtain⟨x,rfl,e⟩:=zx e;obtain⟨L,hp1,f,g⟩:=Qg e;obtain⟨bs,hp2,j,m⟩:=Qg g;obtain⟨n,rfl⟩:=VO j;obtain⟨rfl,rfl⟩:=Qm m;obtain⟨v,rfl,C⟩:=z.bV;obtain⟨rfl,p,ys,rfl,F,l⟩:=X9 W C f;obtain⟨u,rfl,E⟩:=xp r;cases E;obtain⟨t,y,pl,hz⟩:=I.list F;obtain⟨a,c⟩:=Sh n l y;refine Uu (bs:=bs) (I.ok.hd o) pl.isList (by simpa using a) (λi v h=>c i v (by simpa using h)) λh' G kp=>?_;exact⟨.bl (bs.all id),H,I.kept (t':=G) kp,rfl,k _ ρ B H Gr.refl W (by unfold aA;rfl)⟩
end
end D
namespace L2
open PySem PySem.Spec PyProof.Rows
theorem gy:typeLookup (.type "zip") "__len__" = pure none:=am_miss_of_fast (by decide +kernel)
theorem vX:typeLookup (.type "zip") "__length_hint__" = pure none:=am_miss_of_fast (by decide +kernel)
section
variable{X:Cx}{O9:Cf}{σ:L2.St}
def gG(H0 H:Hp)(xs ys:List V)(c:List V):Prop:=∀(m:Nat)(t:V),c[m]?=some t->∃(a:Addr)(x y:V),t=.ref a/\xs[m]?=some x/\ys[m]?=some y/\H0 a=none/\H a=some (.tup [x,y])
theorem R6{A:Around}{R:Result->Shared->Prop}{H0:Hp}{z p o i j a b S:Addr}{xs ys:List V}{res:Value}(hh:A.handled=none)(D:ZA z p o i j a b)(qa:SqT X.K H0 a xs)(qb:SqT X.K H0 b ys)(ab:H0 S=none)(tE:S∉[z,p,o,i,j]) :
    ∀(k n : Nat)(s : Shared)(H : Hp)(l : List V), min xs.length ys.length-n = k -> n <= min xs.length ys.length -> Inv X O9 σ H s -> (∀c ∈ [z, p, o, i, j], yx X O9 H c) -> ZU s.heap z p o i j a b n -> (∀c q, H0 c = some q -> H c = some q) ->
      H S=some (.lst l)->l.length=n->gG H0 H xs ys l ->
      (∀(s':Shared)(Q:Hp)(C:List V),Inv X O9 σ Q s'->(∀c q,H0 c=some q->Q c=some q)->Q S=some (.lst C)->C.length=min xs.length ys.length->gG H0 Q xs ys C->R (.ok (.ret res)) s') ->
    codeAny (model X.prog X.w) A (.builtin "list.extend.loop" ⟨[.ref S,.ref z,res],[]⟩) R s:=by
  intro k;induction k with
  |zero =>
    intro n s H l hk hn I hf Z kp E hl Y hR;have P:∀{c:Addr}{vs:List V},SqT X.K H0 c vs->SqT X.K H c vs:=λ{c vs} q=>by
      rcases q with q|q
      . exact .inl (by rcases q with q|⟨oo,q⟩;exact .inl (kp _ _ q);exact .inr ⟨oo,kp _ _ q⟩)
      . exact .inr q
    obtain⟨ia,ra,pa,_⟩:=I.tuple (P qa);obtain⟨ib,rb,pb,_⟩:=I.tuple (P qb);have l1:=ra.length;have l2:=rb.length;obtain⟨f0,lN,U,lJ⟩:=Z.zz;have L:s.TypeIs (.ref z) "zip" := ⟨_,U,rfl⟩;refine codeAny_builtin F.entry_extend_loop ?_;rw[Around.under_plainId F.plain_extend_loop _];show wpAny _ A.in1 (pyNext (.ref z) >>= _) _ _ s;refine B0 ?_;unfold pyNext;refine B0 (wpAny_attempt (wpAny_callSpecial?_slot (name:=Str.ofString "__next__") L F.slot_zip_next (wpAny_call_entry F.slot_zip_next L F.entry_zip_next
      (Cr (by exact hh) D Z (show s.heap.IsTuple a ia.toArray from pa) (show s.heap.IsTuple b ib.toArray from pb) (by rcases Nat.le_total xs.length ys.length with q|q;exact .inl (by simp;lia);exact .inr (by simp;lia)) λg x r hx=>?_) (F.args_zip_next_1 _))))
    obtain⟨ox,h1,h2⟩:=hx;refine B0 (wpAny_isInstance (T := "StopIteration") (b:=true) ⟨ox,h1,h2⟩ isSubtype_stop ?_);refine B9 ?_;refine B9 (hR _ H l (I.fL (t':=s.toks) hf λc q d e=>?_) kp E ⋯ Y);simp only[A9,Bj,or_false,not_or]at d;exact r c q d.1 d.2.2.1 d.2.2.2.1 d.2.2.2.2 e
  |succ k ih =>
    intro n s H l hk hn I hf Z kp E hl Y hR;have P:∀{c:Addr}{vs:List V},SqT X.K H0 c vs->SqT X.K H c vs:=λ{c vs} q=>by
      rcases q with q|q
      . exact .inl (by rcases q with q|⟨oo,q⟩;exact .inl (kp _ _ q);exact .inr ⟨oo,kp _ _ q⟩)
      . exact .inr q
    obtain⟨ia,ra,pa,za⟩:=I.tuple (P qa);obtain⟨ib,rb,pb,_⟩:=I.tuple (P qb);have hx:xs[n]?=some xs[n]:=Ab ⋯;have hy:ys[n]?=some ys[n]:=Ab ⋯;obtain⟨u,hu,ru⟩:=ra.get hx;obtain⟨v,hv,rv⟩:=rb.get hy;obtain⟨f0,lN,U,lJ⟩:=Z.zz;have L:s.TypeIs (.ref z) "zip" := ⟨_,U,rfl⟩;refine codeAny_builtin F.entry_extend_loop ?_;rw[Around.under_plainId F.plain_extend_loop _];show wpAny _ A.in1 (pyNext (.ref z) >>= _) _ _ s;refine B0 ?_;unfold pyNext;refine B0 (wpAny_attempt (wpAny_callSpecial?_slot (name:=Str.ofString "__next__") L F.slot_zip_next (wpAny_call_entry F.slot_zip_next L F.entry_zip_next
      (Cu D Z (show s.heap.IsTuple a ia.toArray from pa) (show s.heap.IsTuple b ib.toArray from pb) (by simpa using hu) (by simpa using hv) λg' S' tp sz nU=>B9 ?_) (F.args_zip_next_1 _))))
    have r:∀c q,c∉[z,p,o,i,j]->s.heap.get? c=some q->g'.get? c=some q:=λc q d e=>by simp only[A9,Bj,or_false,not_or]at d;exact nU c q d.1 d.2.2.1 d.2.2.2.1 d.2.2.2.2 e
    have ne:∀c∈[z,p,o,i,j],c≠s.heap.objs.size:=λc d e=>by
      obtain⟨_,pp,⟨u1,u2,oo⟩,⟨oi,ei,_⟩,⟨oj,ej,_⟩⟩:=Z;simp only[A9,Bj,or_false]at d;rcases d with rfl|rfl|rfl|rfl|rfl
      . exact A6 (An U) e
      . exact A6 (An pp) e
      . exact A6 (An oo) e
      . exact A6 (An ei) e
      . exact A6 (An ej) e
    have fr:=I.fresh;have I1:=I.dw (t':=s.toks) hf r (us:=[u,v]) (.cons ru (.cons rv .nil)) (show 2<=sizeLine by decide) ⟨_,tp,rfl,_,rfl⟩;have tG:S≠s.heap.objs.size:=λe=>by rw[e,fr]at E;cases E
    have J:upd H s.heap.objs.size (.tup [xs[n],ys[n]]) S=some (.lst l):=by rw[QN tG];exact E
    obtain⟨zl,ae,c,vl,ll,e1⟩:=I1.lstM J;have ac:(l++[V.ref s.heap.objs.size]).length<=sizeLine:=by rw[Ak];simp;lia
    have I2:=I1.lset (t':=s.toks) (its':=ae++[.ref s.heap.objs.size]) (f:=(·.push (.ref s.heap.objs.size))) J e1 (by simp) (vl.append (.cons (show RelV (V.ref s.heap.objs.size) (Value.ref s.heap.objs.size)from rfl) .nil)) ac;show wpAny _ A.in1 (updateSeq S (·.push (.ref s.heap.objs.size)) >>= _) _ _ _;refine B0 ?_;refine wpAny_updateSeq (s:={ s with heap:=g' }) e1 rfl (B9 ⟨plainId_quiet F.plain_extend_loop _,ih (n+1) _ _ (l++[.ref s.heap.objs.size]) ⋯ ⋯ I2 (λc d=>?_) (S'.at λc d q e=>?_) (λc q e=>?_) Q3 (by rw[Ak];simp;lia) ?_ hR⟩) (by simp;lia) (by simp;lia)
    . have f:=hf c d
      refine⟨?_,f.2⟩;rw[QN (show c≠S from λe=>tE (e▸d)),QN (ne c d)];exact f.1
    . exact(Heap.get?_update_other _ _ (λh:S=c=>tE (h▸d))).trans e
    . rw[QN (λz=>by rw[z,ab]at e;cases e),QN (λz=>by have:=kp c q e;rw[z,fr]at this;cases this)];exact kp c q e
    . intro m t G
      by_cases hm:m<l.length
      . rw[Af hm]at G
        obtain⟨aa,x,y,r1,r2,r3,r4,O⟩:=Y m t G;refine⟨aa,x,y,r1,r2,r3,r4,?_⟩;rw[QN (λz=>by rw[z,E]at O;cases O),QN (λz=>by rw[z,fr]at O;cases O)];exact O
      . rw[Ao ⋯]at G
        have m0:m-l.length=0:=by have:=(Ac.mp G).1;simp at this;lia
        rw[m0]at G;cases G;have mn:m=n:=⋯
        subst mn;refine⟨_,_,_,rfl,hx,hy,?_,?_⟩
        . cases q:H0 s.heap.objs.size with
          |none=>rfl
          |some w=>rw[kp _ _ q]at fr;cases fr
        . rw[QN (Ne.symm tG),Q3]
theorem R7{H:Hp}{s:Shared}{E:Ce}{Q:Ce}{z p o i j a b:Addr}{xs ys:List V}(I:Inv X O9 σ H s)(g:X.calm=true)(D:ZA z p o i j a b)(Z:ZU s.heap z p o i j a b 0)(hf:∀c∈[z,p,o,i,j],yx X O9 H c)
  (qa:SqT X.K H a xs) (qb:SqT X.K H b ys) (q:∀(s':Shared)(l:Hp)(x:List V),Inv X O9 σ l s'->(∀c q,H c=some q->l c=some q)->l s.heap.objs.size=some (.lst x)->x.length=min xs.length ys.length->gG H l xs ys x->Q (.ref s.heap.objs.size) s') :
  wpAny (model X.prog X.w) X.A (call (.type "list") [.ref z]) Q E s:=by
 have Y:=I.ok.hd g;have v:∀c∈[z,p,o,i,j],c<s.heap.objs.size:=λc g=>by
  obtain⟨⟨R,lN,r,lJ⟩,pp,⟨u1,u2,oo⟩,⟨oi,O,_⟩,⟨oj,P,_⟩⟩:=Z;simp only[A9,Bj,or_false]at g;rcases g with rfl|rfl|rfl|rfl|rfl
  ·exact An r
  ·exact An pp
  ·exact An oo
  ·exact An O
  ·exact An P
 refine callType_codes (Q₁:=λobj s₁=>obj=.ref s.heap.objs.size/\s₁={ s with heap:=s.heap.push { cls:=.type "list", data:=.seq #[] } }) F.called_list (F.typeCall_list_1 _) F.entry_list_init
  (code_list_new _ ⟨rfl,rfl⟩) λobj s₁ h₁=>?_
 obtain⟨rfl,rfl⟩:=h₁;have d:(s.heap.push { cls:=.type "list", data:=.seq #[] }).get? s.heap.objs.size=some { cls:=.type "list", data:=.seq #[] }:=Ar _ rfl;refine⟨⟨_,d,rfl⟩,F.args_list_init_2 _ _,?_⟩;show wpAny _ _ (do let old <- Builtin.List.listItems (.ref s.heap.objs.size);Builtin.List.listUpdate (.ref s.heap.objs.size) (λ_=>#[]);letGo old.toList.reverse;Builtin.List.listExtendWith (.ref s.heap.objs.size) (.ref z) .none) _ _ _;refine B0 ?_;unfold Builtin.List.listItems;refine B0 (wpAny_seqItems d rfl (B9 ?_));show wpAny _ _ (updateSeq s.heap.objs.size (λ_=>#[]) >>= λ_=>letGo (#[]:Array Value).toList.reverse >>= λ_=>Builtin.List.listExtendWith (.ref s.heap.objs.size) (.ref z) .none) _ _ _;refine B0 (wpAny_updateSeq d rfl ?_);have d₁:=Heap.get?_update_self (Obj.mapSeq (λ_=>(#[]:Array Value))) d rfl;refine B0 (wpAny_letGo ?_);have C:z≠s.heap.objs.size:=A6 (v z (by simp));obtain⟨R,lN,r,lJ⟩:=Z.zz;have L:((s.heap.push { cls:=.type "list", data:=.seq #[] }).update s.heap.objs.size (Obj.mapSeq λ_=>(#[]:Array Value))).get? z=_:=(Heap.get?_update_other _ _ (Ne.symm C)).trans (Ad _ r);have n:∀(s':Shared),s'.heap=(s.heap.push { cls:=.type "list", data:=.seq #[] }).update s.heap.objs.size (Obj.mapSeq λ_=>(#[]:Array Value))->s'.TypeIs (.ref z) "zip" := λs' e=>⟨_,by rw[e];exact L,rfl⟩;unfold Builtin.List.listExtendWith;refine B0 (wpAny_typeOf (n _ rfl) ?_);have S:Builtin.List.listSameRef (.ref s.heap.objs.size) (.ref z)=false:=by simp[Builtin.List.listSameRef,Ne.symm C]
 have T:(Value.type "zip" == Value.type "list")=false:=by decide
 have U:(Value.type "zip" == Value.type "tuple")=false:=by decide
 simp only[S,T,U,Bool.or_false,Av,if_false];refine B0 (wpAny_pyIter_slot (n _ rfl) F.slot_zip_iter (wpAny_call_entry F.slot_zip_iter (n _ rfl) F.entry_zip_iter (B9 ⟨_,rfl, "zip", _,n _ rfl,(F.slot_zip_next).1,?_⟩) (F.args_zip_iter_1 _)));refine B0 (wpAny_holding ?_);unfold Builtin.List.listLengthHint;refine B0 (wpAny_specialOf (n _ rfl) gy ?_);show wpAny _ _ (specialOf (Value.ref z) (Str.ofString "__length_hint__") >>= _) _ _ _;refine B0 (wpAny_specialOf (n _ rfl) vX ?_);refine B9 ?_;show wpAny _ _ (rule "list.extend.makes-room" >>= λ_=>Builtin.List.listTouch (.ref s.heap.objs.size) >>= λ_ =>
  again (.builtin "list.extend.loop" ⟨[.ref s.heap.objs.size,.ref z,.none],[]⟩)) _ _ _
 refine B0 (wpAny_rule ?_);refine B0 ?_;show wpAny _ _ (updateSeq s.heap.objs.size (·.push .none) >>= λ_=>updateSeq s.heap.objs.size (·.pop)) _ _ _;refine B0 (wpAny_updateSeq d₁ rfl ?_);have d₂:=Heap.get?_update_self (Obj.mapSeq (·.push Value.none)) d₁ rfl;refine wpAny_updateSeq (hz:=by seq_fits) d₂ rfl ?_;have d₃:=Heap.get?_update_self (Obj.mapSeq (·.pop)) d₂ rfl;have kept:∀c u,s.heap.get? c=some u->((((s.heap.push { cls:=.type "list", data:=.seq #[] }).update s.heap.objs.size (Obj.mapSeq λ_=>(#[]:Array Value))).update s.heap.objs.size (Obj.mapSeq (·.push Value.none))).update s.heap.objs.size (Obj.mapSeq (·.pop))).get? c=some u:=λc u e=>by have ne:s.heap.objs.size≠c:=Ne.symm (A6 (An e));exact(Heap.get?_update_other _ _ ne).trans ((Heap.get?_update_other _ _ ne).trans ((Heap.get?_update_other _ _ ne).trans (Ad _ e)))
 have G:=I.laid (a:=s.heap.objs.size) (o:=.lst []) (t':=s.toks) kept (Ae _) ⟨by simp,[],_,.nil,d₃⟩;refine B9 ⟨plainId_quiet F.plain_extend_loop _,R6 (H0:=H) (by exact Y) D qa qb I.fresh (λhm=>Bt _ (v _ hm)) _ 0 _ _ [] rfl (A5 _) G (λc g=>?_) (Z.at λc g u e=>kept c u e) (λc u e=>?_) Q3 rfl (λm t ht=>by simp at ht) λs' l y J k1 k2 k3 k4=>⟨rfl,q s' l y J k1 k2 k3 k4⟩⟩
 ·have f:=hf c g;refine⟨?_,f.2⟩;rw[QN (A6 (v c g))];exact f.1
 ·rw[QN (λz=>by rw[z,I.fresh]at e;cases e)];exact e
end
section
variable{X:Cx}
theorem Rb{x y:Expr}{G:TA}{p n u d:Pos}(T:Gl X "list")(t:X.mg "list" = none)(R:Gl X "zip")(S:X.mg "zip" = none)(P:X.calm=true)(O:PA X [x,y] G)
    (hs:starEach [x,y] X.env=[(false,eval x X.env),(false,eval y X.env)]:=by rfl) (hs2:starEach [y] X.env=[(false,eval y X.env)]:=by rfl) (hs3:starEach [.Call (.Name "zip" n) [x,y] [] d] X.env=[(false,eval (.Call (.Name "zip" n) [x,y] [] d) X.env)]:=by rfl) :
    PE X (.Call (.Name "list" p) [.Call (.Name "zip" n) [x,y] [] d] [] u) (λσ H Q=>G σ H λvs f=>∃a b xs ys,vs=[.ref a,.ref b]/\SqT X.K f a xs/\SqT X.K f b ys /\
      ∀(l:Addr)(m:Hp)(g:List V),f l=none->(∀c q,f c=some q->m c=some q)->m l=some (.lst g)->g.length=min xs.length ys.length->gG f m xs ys g->Q (.ref l) m):=by
  intro L s σ H Q I h;refine wpAny_Call_Name_kw (XM I T t boot_list ?_);refine PyProof.Rows.callWith_type1 ?_ hs3 rfl;rw[hs3];show wpAny _ _ (spliced ((false,eval (.Call (.Name "zip" n) [x,y] [] d) X.env)::[])) _ _ s;refine Calls.spliced_cons (Call_ (XM I R S boot_zip (PyProof.Rows.callWith_type1 (thn (O d L s σ H _ I h) λus s1 ⟨vs,f,I1,r1,q1⟩=>?_) (by rw[hs,hs2]) (by rw[hs2];rfl))));obtain⟨a,b,xs,ys,e,E,F,q⟩:=q1;subst e;cases r1 with
  |cons r v =>
    cases v with
    |cons U v=>cases v;cases r;cases U;refine wU I1 E F λY z pp o i j I2 D Z hf=>Calls.spliced_nil ?_;refine R7 I2 P D Z hf E F λs3 C g J k1 k2 k3 k4=>⟨.ref Y.heap.objs.size,C,J,rfl,q _ C g I2.fresh k1 k2 k3 k4⟩
end
end L2
namespace D
open PySem PySem.Spec PyProof.Rows L2
theorem aq.of_get{K:Aa}{ρ:Cj}{B:Ci}{H:Hp}:∀{ds:List DV}{a:List V},ds.length=a.length->(∀(m:Nat)(d:DV)(t:V),ds[m]?=some d->a[m]?=some t->aA K ρ B H d t)->aq K ρ B H ds a
  | [],[],_,_=>by unfold aq;rfl
  | [],_::_,h,_=>by cases h
  |_::_,[],h,_=>by cases h
  |d::ds,t::a,h,f=>by unfold aq;exact⟨t,a,rfl,f 0 d t rfl rfl,aq.of_get (Nat.succ.inj h) λm x y c e=>f (m+1) x y c e⟩
theorem Gr.more{K:Aa}{ρ:Cj}{B:Ci}{H H':Hp}(kp:∀c q,H c=some q->H' c=some q):Gr K ρ B H ρ B H' :=
 ⟨Bp,λ_ h=>h,λ_ h=>.inl h,λ_ z=>.inl z,λa o _ h=>kp a o h,λa q=>by
  cases e:H a with
  |none=>rfl
  |some o=>rw[kp a o e]at q;cases q⟩
theorem aQ.more{K:Aa}{ρ:Cj}{B:Ci}{U:Hs}{H H':Hp}(W:aQ K ρ B U H)(kp:∀c q,H c=some q->H' c=some q):aQ K ρ B U H' where
 len:=W.len
 nd:=W.nd
 obj:=λi a u e q=>by
  refine bx.gs ((Gr.more kp).gs W.rb) ?_ (W.obj i a u e q);have:=W.bt a (W.rb a (As e));cases z:H a with
  |none=>exact absurd z this
  |some o=>exact kp a o z
 rb:=W.rb
 bt:=λa h z=>by
  have:=W.bt a h;cases y:H a with
  |none=>exact this y
  |some o=>rw[kp a o y]at z;cases z
 bk:=W.bk
section
variable{X:Cx}{f g:aB}
end
section
variable{X:Cx}{e:Expr}{f:aB}{pos:Pos}
def Vp(f g:aB):aB:=λenv=>do
 let ds <- lX f g env
 Yi (.lst ds)
def fB(H:Hp)(l:Addr):Hp:=λa=>if a=l then none else H a
theorem RJ{H:Hp}{l:Addr}{o:HO}(h:H l=some o):upd (fB H l) l o=H:=by
 funext a;by_cases e:a=l
 ·subst e;rw[Q3,h]
 ·rw[QN e];unfold fB;rw[B7 e]
theorem kg{x y:Expr}{g:aB}{p o pos h:Pos}(n:X.mg "list" = none)(hm:X.mg "zip" = none)(hc:X.calm=true)(hx:DE X x f)(hy:DE X y g)(pH:Gl X "list" := by rfl)(hg:Gl X "zip" := by rfl)
  (hs:starEach [x,y] X.env=[(false,eval x X.env),(false,eval y X.env)]:=by rfl) (hs2:starEach [y] X.env=[(false,eval y X.env)]:=by rfl) (hs3:starEach [.Call (.Name "zip" o) [x,y] [] h] X.env=[(false,eval (.Call (.Name "zip" o) [x,y] [] h) X.env)]:=by rfl) :
  DE X (.Call (.Name "list" p) [.Call (.Name "zip" o) [x,y] [] h] [] pos) (Vp f g) :=
 L2.PE.imp (Rb pH n hg hm hc (Xu hx (Xu hy pa_nil (by rw[hs2];rfl)) (by rw[hs,hs2])) hs hs2 hs3).kf λσ H Q Y=>by
  obtain⟨Z,env,ρ,B,U,d,ab,S,e,k⟩:=Y;obtain⟨ds,ac,e0,e⟩:=Qg e;cases e;obtain⟨d1,hp1,e1,e0⟩:=Qg e0;obtain⟨xs,hp2,e2,e0⟩:=Qg e0;obtain⟨rfl,rfl⟩:=Xw e2;obtain⟨d2,ae,e3,e0⟩:=Qg e0;obtain⟨ys,cA,e4,e0⟩:=Qg e0;obtain⟨rfl,rfl⟩:=Xw e4;obtain⟨rfl,rfl⟩:=Qm e0;refine tD.run S e1 λv ρ1 B1 H1 g1 S1 r1=>tD.run S1 e3 λu ρ2 B2 C g2 S2 r2=>?_;obtain⟨a,vs,rfl,na,qa,J⟩:=(aA.grow S1.wo.rb g2 _ _ r1).tupI;obtain⟨b,us,rfl,nb,qb,L⟩:=r2.tupI;refine⟨a,b,vs,us,rfl,qa,qb,λl H' i hn kp j len pr kf=>?_⟩;have O:(fB H' l) l=none:=by unfold fB;rw[B8 rfl]
  have I:X.K.lookup l=none:=kf l _ j;have P:∀c q,C c=some q->(fB H' l) c=some q:=λc q e=>by unfold fB;rw[B7 (λz=>by rw[z,hn]at e;cases e)];exact kp c q e
  have W0:=S2.wo.more P;have g3:Gr X.K ρ2 B2 C ρ2 B2 (fB H' l):=Gr.more P;have g4:Gr X.K ρ2 B2 (fB H' l) (ρ2++[l]) (jB B2 l) (upd (fB H' l) l (.lst i)):=Gr.cU O I;have rl:aq X.K ρ2 B2 (fB H' l) (JA xs ys) i:=aq.of_get (by rw[xt,J.length,L.length];exact len.symm) λm d t h1 h2=>by
   obtain⟨x',y',q1,q2,rfl⟩:=xr h1;obtain⟨u',hu,ru⟩:=J.get q1;obtain⟨v',hv,rv⟩:=L.get q2;obtain⟨F,x2,y2,rfl,R,T,p3,r⟩:=pr m t h2;rw[hu]at R;cases R;rw[hv]at T;cases T;have p5:(fB H' l) F=some (.tup [u',v']):=by unfold fB;rw[B7 (λz=>by rw[z,j]at r;cases r)];exact r
   exact Yb (λz=>S2.wo.bt F z p3) (SqT.of p5) (aq.gs (g3.gs S2.wo.rb) _ _ (aq.cons ru (aq.one rv)))
  have oR:bx X.K (ρ2++[l]) (jB B2 l) (upd (fB H' l) l (.lst i)) l (.lst (JA xs ys)):=⟨i,Q3,aq.gs (g4.gs W0.rb) _ _ rl⟩;have E:=W0.cU O I oR;have G:=(g1.trans g2).trans (g3.trans g4);rw[RJ j]at E G;refine k _ _ _ _ G E ?_;unfold aA;exact⟨l,rfl,by rw[<- S2.wo.len];simp⟩
end
structure UF(K:Aa)(mg:Cg)(x:Str)(st:Stmt):Prop where
 ex:∃g fd,Fun K x x st g fd/\mg x=some (.ref g)
structure UC(K:Aa)(c:Str):Prop where
 ex:∀C,bH K c C->Cls K C
structure UM(K:Aa)(c m q:Str)(st:Stmt):Prop where
 ex:∃C g fd,Fun K m q st g fd/\bH K c C/\Cls K C/\ua K C m g
structure UI(K:Aa)(mg:Cg)(c q:Str)(st:Stmt):Prop where
 ex:∃C g fd,Fun K "__init__" q st g fd/\bH K c C/\mg c=some (.ref C)/\Mk K C g
structure UG(mg:Cg)(x:Str)(i:Int):Prop where
 ex:∃t,mg x=some (.int i t)
structure UT(K:Aa)(mg:Cg)(x:Str)(d:DV):Prop where
 ex:∃a,mg x=some (.ref a)/\aZ K d (.ref a)
section
variable{K:Aa}{h:Heap}{mg:Cg}{f C:Addr}{x c m q:Str}{st:Stmt}{oc:Value}{od an:Option Addr}{osl:Array (Option Value)}{kV doc pm cdv ct:Value}{i:Int}{t:Tok}{d:DV}{a:Addr}
def uf(X:K.In h)(G:h.Ns mainGlobals mg)(n:PySem.W.nsIn K mainGlobals x=some (some (.ref f)))(l:K.lookup f=some ⟨oc,od,.func (PySem.W.fnOf x x (Ju st) (ZM st) (Qr st) .none kV doc pm an cdv ct),osl⟩)(e:PySem.W.codeIn K cdv x=true)(k:PySem.W.keepIn K (.ref f)=true):UF K mg x st:=⟨_,_,KS l e k,PySem.W.mg_of X G n⟩
theorem uc(X:K.In h)(n:PySem.W.nsIn K mainGlobals c=some (some (.ref C)))(p:PySem.W.plainGet K C Str.empty=true)(e:PySem.W.hasDictIn K C=true)(o:PySem.W.plainOver K C=true)(s:PySem.W.findIn K (.ref C) "__setattr__" = some (some (.builtin "object.__setattr__"))):UC K c:=⟨λj g=>by cases bH.uniq (show bH K c C from n) g;exact⟨p,e,o,s⟩⟩
def um(X:K.In h)(u:UC K c)(n:PySem.W.nsIn K mainGlobals c=some (some (.ref C)))(a:PySem.W.findIn K (.ref C) m=some (some (.ref f)))(b:PySem.W.isFn K (.ref f)=true)(l:K.lookup f=some ⟨oc,od,.func (PySem.W.fnOf m q (Ju st) (ZM st) (Qr st) .none kV doc pm an cdv ct),osl⟩)(e:PySem.W.codeIn K cdv q=true)(k:PySem.W.keepIn K (.ref f)=true):UM K c m q st:=⟨_,_,_,KS l e k,n,u.ex _ n,a,b,k⟩
def ui(X:K.In h)(G:h.Ns mainGlobals mg)(n:PySem.W.nsIn K mainGlobals c=some (some (.ref C)))(a:PySem.W.findIn K (.ref C) "__init__" = some (some (.ref f)))(b:PySem.W.isFn K (.ref f)=true)(l:K.lookup f=some ⟨oc,od,.func (PySem.W.fnOf "__init__" q (Ju st) (ZM st) (Qr st) .none kV doc pm an cdv ct),osl⟩)(e:PySem.W.codeIn K cdv q=true)(k:PySem.W.keepIn K (.ref f)=true)(v:PySem.W.makesIn K C=true)(z:PySem.W.keepIn K (.ref C)=true):UI K mg c q st:=⟨_,_,_,KS l e k,n,PySem.W.mg_of X G n,v,a,b,z⟩
def uk(X:K.In h)(u:UC K c)(n:PySem.W.nsIn K mainGlobals c=some (some (.ref C)))(a:PySem.W.findIn K (.ref C) x=some none):Kr K c x:=⟨C,n,u.ex _ n,a⟩
def ug(X:K.In h)(G:h.Ns mainGlobals mg)(n:PySem.W.nsIn K mainGlobals x=some (some (.int i t))):UG mg x i:=⟨_,PySem.W.mg_of X G n⟩
def ut(X:K.In h)(G:h.Ns mainGlobals mg)(n:PySem.W.nsIn K mainGlobals x=some (some (.ref a)))(r:aZ K d (.ref a)):UT K mg x d:=⟨_,PySem.W.mg_of X G n,r⟩
theorem Zq{N ps:List Str}{s:Scope}(h:(s.kind==.function&&!s.isCoroutine&&!s.isGenerator&&decide N.Nodup&&decide (N.take ps.length=ps)&&ps.all (λx=>decide (s.names.lookup x=some .local)||decide (s.names.lookup x=some .cell))&&s.names.all λy=>decide (y.2≠.free))=true:=by decide +kernel):QD N ps s:=by simp only[A0,Bool.not_eq_true',decide_eq_true_eq,List.all_eq_true,Bool.or_eq_true]at h;obtain⟨⟨⟨⟨⟨⟨a,b⟩,c⟩,d⟩,e⟩,f⟩,g⟩:=h;refine⟨?_,b,c,d,e,f,λy j=>by have:=g y j;simpa using this⟩;revert a;cases s.kind<;>first|(intro _;rfl)|(intro z;exact absurd z (by decide))
end
section
variable{P:Program}{w:World}{K:Aa}{mg:Cg}{O8:Heap}{x c m q:Str}{st:Stmt}{N ps:List Str}{k:Nat}{body:aD}
def Bn(ps:List Str)(x q:Str)(st:Stmt):Prop:=∀(kV d f:Value)(e:Option Addr)(a ct:Value)(us:List Value),us.length=ps.length->bindArgs (PySem.W.fnOf x q (Ju st) (ZM st) (Qr st) .none kV d f e a ct) ⟨us,[]⟩=pure (ps.zip us)
def Bd(P:Program)(w:World)(K:Aa)(mg:Cg)(O8:Heap)(N:List Str)(k:Nat)(q:Str)(st:Stmt)(body:aD):Prop:=∀(g:Addr)(a:Value)(A:Around)(outer:List Env)(s:Shared)(H:Hp)(E:XK),Room k (A.deeper (envOfC q (Qr st) s.heap.objs.size g a))->eN (yC CX0 P w K mg O8 N q (Qr st) g a A outer s H E).nox (ZM st) body
theorem hf(u:UF K mg x st)(a:QD N ps (Qr st))(h:N.Nodup->Bd P w K mg O8 N k x st body:=by intro s _ _ _ _ _ _ _ g;trivial)(d:Bn ps x x st:=by intro _ _ _ _ _ _ us e;rcases us with _|⟨_,_|⟨_,_|⟨_,_|⟨_,_|⟨_,_|⟨_,_⟩⟩⟩⟩⟩⟩<;>first|rfl|cases e):Has P w K mg O8 x (k+1) ps.length (Zv N.length body):=let ⟨_,_,F,f⟩:=u.ex;NP F a f d (h a.nd _)
theorem hM(u:UM K c m q st)(a:QD N ps (Qr st))(h:N.Nodup->Bd P w K mg O8 N k q st body:=by intro s _ _ _ _ _ _ _ j;trivial)(e:Bn ps m q st:=by intro _ _ _ _ _ _ us f;rcases us with _|⟨_,_|⟨_,_|⟨_,_|⟨_,_|⟨_,_|⟨_,_⟩⟩⟩⟩⟩⟩<;>first|rfl|cases f):Ul P w K mg O8 c m (k+1) ps.length (Zv N.length body):=let ⟨_,_,_,F,i,d,g⟩:=u.ex;Wn i d g F a e (h a.nd _)
theorem hI(u:UI K mg c q st)(a:QD N ps (Qr st))(h:N.Nodup->Bd P w K mg O8 N k q st body:=by intro s _ _ _ _ _ _ _ j;trivial)(d:Bn ps "__init__" q st:=by intro _ _ _ _ _ _ us e;rcases us with _|⟨_,_|⟨_,_|⟨_,_|⟨_,_|⟨_,_|⟨_,_⟩⟩⟩⟩⟩⟩<;>first|rfl|cases e):oN P w K mg O8 c (k+1) ps.length (Zv N.length body):=let ⟨_,_,_,F,i,f,g⟩:=u.ex;WL i f g F a d (h a.nd _)
end
end D
namespace L2
open PySem PySem.Spec PyProof.Rows
def m5(K:Aa)(a b:Addr):It :=
  ⟨λi H=>∃xs ys x y,SqL K H a xs/\SqL K H b ys/\xs[i]?=some x/\ys[i]?=some y,
   λi H v H'=>∃p x y,H p=none/\(∀xs,SqL K H a xs->xs[i]?=some x)/\(∀ys,SqL K H b ys->ys[i]?=some y)/\v=.ref p/\H'=upd H p (.tup [x,y]),
   λi H=>∃xs ys,SqL K H a xs/\SqL K H b ys/\(xs.length<=i∨ys.length<=i)⟩
structure ZL(h:Heap)(z p o i j a b:Addr)(n:Nat)(f:Value):Prop where
 zz:IsZip h z p o f
 pp:IsPair h p (.ref i) (.ref j)
 oo:∃x y,IsPair h o x y
 ii:h.IsListIter i a n
 jj:h.IsListIter j b n
theorem ZL.at{h h':Heap}{z p o i j a b:Addr}{n:Nat}{f:Value}(S:ZL h z p o i j a b n f)(k:∀c∈[z,p,o,i,j],∀u,h.get? c=some u->h'.get? c=some u):ZL h' z p o i j a b n f:=by obtain⟨zz,pp,⟨u1,u2,oo⟩,ii,jj⟩:=S;exact⟨k z (by simp) _ zz,k p (by simp) _ pp,⟨u1,u2,k o (by simp) _ oo⟩,ii.at λu e=>k i (by simp) u e,jj.at λu e=>k j (by simp) u e⟩
theorem WJ{P:Program}{w:World}{K:Aa}{l:List Expr}{kt:Nat}{Z:Pos}{z p o i j a b:Addr}(D:ZipApart z p o i j a b):lQ P w K (.Tuple l kt Z) (m5 K a b) [z,p,o,i,j] z (λn h=>ZL h z p o i j a b n .none) where
 mem:=by simp
 obj:=λn h S c d=>by
  obtain⟨zz,pp,⟨u1,u2,oo⟩,⟨oi,G,ci,di⟩,⟨oj,J,cj,dj⟩⟩:=S;simp only[A9,Bj,or_false]at d;rcases d with rfl|rfl|rfl|rfl|rfl
  ·exact⟨_,zz,λv q=>by have r:Data.fields _=Data.cell v:=q;cases r⟩
  ·exact⟨_,pp,λv q=>by have r:Data.seq _ _=Data.cell v:=q;cases r⟩
  ·exact⟨_,oo,λv q=>by have r:Data.seq _ _=Data.cell v:=q;cases r⟩
  ·exact⟨oi,G,λv q=>by rw[di]at q;cases q⟩
  ·exact⟨oj,J,λv q=>by rw[dj]at q;cases q⟩
 keep:=λn h h' S k=>S.at k
 item:=by
  intro X O Q L d n O9 s σ H E I hf S hg;subst O Q L;obtain⟨xs,ys,x,y,t,C,hx,hy⟩:=hg;obtain⟨ia,ra,pa,_⟩:=I.list t;obtain⟨ib,rb,Y,_⟩:=I.list C;obtain⟨u,hu,ru⟩:=ra.get hx;obtain⟨v,hv,rv⟩:=rb.get hy;obtain⟨zz,pp,⟨u1,u2,oo⟩,ii,jj⟩:=id S;have m:s.TypeIs (.ref z) "zip" := ⟨_,zz,rfl⟩;unfold pyNext;refine B0 (wpAny_attempt (wpAny_callSpecial?_slot (name:=Str.ofString "__next__") m F.slot_zip_next (wpAny_call_entry F.slot_zip_next m F.entry_zip_next
   (zip_next_item D zz pp oo ii jj pa.isList Y.isList (by simpa using hu) (by simpa using hv) λg CQ U Fo Fi tp sz kp=>B9 ?_) (F.args_zip_next_1 _))))
  refine⟨_,rfl,wpAny_letOwnedTupleGo_zip CQ λg' z' f=>?_⟩;have R:∀c q,c∉[z,p,o,i,j]->s.heap.get? c=some q->g'.get? c=some q:=λc q d e=>by simp only[A9,Bj,or_false,not_or]at d;exact f.extBut _ _ d.1 (kp c q d.1 d.2.2.1 d.2.2.2.1 d.2.2.2.2 e)
  have zl:z<s.heap.objs.size:=An zz;have Ea:IsPair g' s.heap.objs.size u v:=f.extBut _ _ (Bx zl) tp;have ne:∀c∈[z,p,o,i,j],c≠s.heap.objs.size:=λc d e=>by
   obtain⟨zz,pp,⟨u1,u2,oo⟩,⟨oi,G,_⟩,⟨oj,J,_⟩⟩:=S;simp only[A9,Bj,or_false]at d;rcases d with rfl|rfl|rfl|rfl|rfl
   ·exact A6 (An zz) e
   ·exact A6 (An pp) e
   ·exact A6 (An oo) e
   ·exact A6 (An G) e
   ·exact A6 (An J) e
  refine⟨.ref s.heap.objs.size,upd H s.heap.objs.size (.tup [x,y]),I.dw (t':=s.toks) hf R (us:=[u,v]) (.cons ru (.cons rv .nil)) (show 2<=sizeLine by decide) ⟨_,Ea,rfl,_,rfl⟩,rfl,
   ⟨_,x,y,I.hok.fresh (Ae _),λab h=>by rw[I.list_inj h t];exact hx,λac h=>by rw[I.list_inj h C];exact hy,rfl,rfl⟩,?_,λc d=>?_⟩
  ·exact⟨z',f.extBut _ _ D.TIz (kp _ _ D.TIz D.TITO D.TIi1 D.TIi2 pp),⟨_,_,f.extBut _ _ D.TOz U⟩,Fo.extBut f.extBut D.i1z,Fi.extBut f.extBut D.i2z⟩
  ·rw[QN (ne c d)];exact(hf c d).1
 done:=by
  intro X O Q L d n O9 s σ H E I hf S hg;subst O Q L;obtain⟨xs,ys,t,C,hs⟩:=hg;obtain⟨ia,ra,pa,_⟩:=I.list t;obtain⟨ib,rb,Y,_⟩:=I.list C;have l1:=ra.length;have l2:=rb.length;obtain⟨zz,pp,⟨u1,u2,oo⟩,ii,jj⟩:=S;have m:s.TypeIs (.ref z) "zip" := ⟨_,zz,rfl⟩;unfold pyNext;refine B0 (wpAny_attempt (wpAny_callSpecial?_slot (name:=Str.ofString "__next__") m F.slot_zip_next (wpAny_call_entry F.slot_zip_next m F.entry_zip_next
   (zip_next_end (I.ok.hd d) D zz pp oo ii jj pa.isList Y.isList (by rcases hs with q|q;exact .inl (by simp;lia);exact .inr (by simp;lia)) λg x kp hx=>?_) (F.args_zip_next_1 _))))
  obtain⟨ox,h1,h2⟩:=hx;refine B0 (wpAny_isInstance (T := "StopIteration") (b:=true) ⟨ox,h1,h2⟩ isSubtype_stop ?_);refine B9 ⟨rfl,I.fL (t':=s.toks) hf λc q d e=>?_⟩;simp only[A9,Bj,or_false,not_or]at d;exact kp c q d.1 d.2.2.1 d.2.2.2.1 d.2.2.2.2 e
 self:=λ_ _ _ _ _ S h=>wpAny_pyIter_zip S.zz h
section
variable{X:Cx}{elts:List Expr}{kt:Nat}{p2:Pos}
theorem R9{f:Cf}{σ:L2.St}{H:Hp}{s:Shared}{R:It->Hp->Prop}{E:Ce}{a b:Addr}{xs ys:List V}(I:Inv X f σ H s)(x:SqL X.K H a xs)(y:SqL X.K H b ys)(q:R (m5 X.K a b) H) :
  wpAny (model X.prog X.w) X.A (call (.type "zip") [.ref a,.ref b]) (λv z=>wpAny (model X.prog X.w) X.A (pyIter v) (PIE X f σ (.Tuple elts kt p2) R) E z) E s:=by
 obtain⟨C,G,pa,_⟩:=I.list x;obtain⟨F,rb,m,_⟩:=I.list y;have t:a<s.heap.objs.size:=by obtain⟨o,_,e,_⟩:=pa;exact An e
 have u:b<s.heap.objs.size:=by obtain⟨o,_,e,_⟩:=m;exact An e
 refine call_zip_2 pa.isList m.isList λh' hz g h i j _ r=>?_;have n:Inv X f σ H { s with heap:=h' }:=I.kept (t':=s.toks) r;refine wpAny_pyIter_zip (s:={ s with heap:=h' }) hz ⟨_,[s.heap.objs.size+4,s.heap.objs.size+2,s.heap.objs.size+3,s.heap.objs.size,s.heap.objs.size+1],_,m5 X.K a b,H,rfl,n,WJ (zipApart_new t u),⟨hz,g,⟨_,_,h⟩,i,j⟩,λc l=>?_,q⟩;have d:s.heap.objs.size<=c:=by simp only[A9,Bj,or_false]at l;rcases l with rfl|rfl|rfl|rfl|rfl<;>first|exact Ae _|exact Nat.le_add_right _ _
 exact I.fpOk d (I.hok.fresh d)
theorem PN{x y:Expr}{m:TA}{p f:Pos}(t:Gl X "zip")(u:X.mg "zip" = none)(o:PA X [x,y] m)(v:starEach [x,y] X.env=[(false,eval x X.env),(false,eval y X.env)]:=by rfl)(d:starEach [y] X.env=[(false,eval y X.env)]:=by rfl) :
    PI X (.Tuple elts kt p2) (.Call (.Name "zip" p) [x,y] [] f) (λσ H R=>m σ H λvs c=>∃a b,vs=[.ref a,.ref b]/\((∃xs ys,SqT X.K c a xs/\SqT X.K c b ys/\R (mC X.K a b) c)∨∃xs ys,SqL X.K c a xs/\SqL X.K c b ys/\R (m5 X.K a b) c)):=by
  intro n s σ H R I h;refine Call_ (XM I t u boot_zip (PyProof.Rows.callWith_type1 (thn (o f n s σ H _ I h) λus G z=>?_) (by rw[v,d]) (by rw[d];rfl)));obtain⟨vs,c,l,F,a,b,e,C⟩:=z;subst e;cases F with
  |cons r j =>
    cases j with
    |cons E j =>
      cases j;cases r;cases E;rcases C with ⟨xs,ys,g,i,q⟩|⟨xs,ys,g,i,q⟩
      . exact Cw (.tp ..) l g i q
      . exact R9 l g i q
end
end L2
namespace D
open PySem PySem.Spec PyProof.Rows L2
def lH(x y:DV):NX:=λi=>do
 let xs <- d9 x
 let ys <- d9 y
 pure (JA (xs.drop i) (ys.drop i)).head?
def oH(f g:aB):eZ:=λenv=>do
  let x <- f env
  let y <- g env
  match x,y with
  |.tup xs,.tup ys=>pure (bK (JA xs ys))
  |x,y=>do
    let _ <- d9 x
    let _ <- d9 y
    pure (lH x y)
theorem Oj{K:Aa}{ρ:Cj}{B:Ci}{H:Hp}{x y:DV}{a b:Addr}(O:aA K ρ B H x (.ref a))(rb:aA K ρ B H y (.ref b)):gF K ρ B H (lH x y) (m5 K a b):=λρ1 B1 hp1 H1 g W i o hp2 e=>by
 obtain⟨xs,I,h,e⟩:=Qg e;obtain⟨ys,T,j,e⟩:=Qg e;obtain⟨rfl,rfl⟩:=Qm e;obtain⟨rfl,R,us,J,sa,C⟩:=X9 W (aA.gs g _ _ O) h;obtain⟨rfl,S,vs,L,f,E⟩:=X9 W (aA.gs g _ _ rb) j;cases J;cases L;refine⟨rfl,?_⟩;by_cases c:i<xs.length
 ·by_cases d:i<ys.length
  ·rw[A7 c,A7 d];obtain⟨u,r,P⟩:=C.get (Ab c);obtain⟨v,t,Q⟩:=E.get (Ab d);refine⟨⟨us,vs,u,v,sa,f,r,t⟩,λz H' q=>?_⟩;obtain⟨p,U,v',l,F,G,h,j⟩:=q;subst h j;have m:=F us sa;have n:=G vs f;rw[r]at m;cases m;rw[t]at n;cases n;exact⟨Yb (λz=>W.bt p z l) (SqT.of Q3) (aq.gs (GC W.rb l) _ _ (aq.cons P (aq.one Q))),.inr ⟨p,_,l,rfl⟩⟩
  ·rw[List.drop_eq_nil_of_le (Nat.le_of_not_lt d),A7 c];exact⟨us,vs,sa,f,.inr (by rw[<- E.length];exact Nat.le_of_not_lt d)⟩
 ·rw[List.drop_eq_nil_of_le (Nat.le_of_not_lt c)];exact⟨us,vs,sa,f,.inl (by rw[<- C.length];exact Nat.le_of_not_lt c)⟩
section
variable{X:Cx}{elts:List Expr}{kt:Nat}{p2:Pos}{f g:aB}
theorem NT{x y:Expr}{p m:Pos}(J:Gl X "zip")(L:X.mg "zip" = none)(hx:DE X x f)(O:DE X y g)(o:starEach [x,y] X.env=[(false,eval x X.env),(false,eval y X.env)]:=by rfl)(c:starEach [y] X.env=[(false,eval y X.env)]:=by rfl) :
  DX X (.Tuple elts kt p2) (.Call (.Name "zip" p) [x,y] [] m) (oH f g) :=
 L2.PI.imp (PN J L (Xu hx (Xu O pa_nil (by rw[c];rfl)) (by rw[o,c])) o c) λσ H R zz=>by
  obtain⟨Z,env,ρ,B,U,nxt,d,S,e,k⟩:=zz;obtain⟨j,hp1,C,e⟩:=Qg e;obtain⟨l,h,E,e⟩:=Qg e;refine tD.run S C λv ρ1 B1 H1 g1 S1 i=>tD.run S1 E λu ρ2 B2 H2 g2 S2 n=>?_;have i:=aA.grow S1.wo.rb g2 _ _ i;have G:=g1.trans g2;have tt:(∃xs ys,j=.tup xs/\l=.tup ys/\nxt=bK (JA xs ys)/\d=h)∨(do let _ <- d9 j;let _ <- d9 l;pure (lH j l):M NX) h=some (nxt,d):=by
   cases j<;>first
    |exact .inr e
    | (cases l<;>first
      |exact .inr e
      | (obtain⟨rfl,rfl⟩:=Qm e;exact .inl ⟨_,_,rfl,rfl,rfl,rfl⟩))
  rcases tt with ⟨xs,ys,rfl,rfl,rfl,rfl⟩|e
  ·obtain⟨a,vs,rfl,P,t,q⟩:=i.tupI;obtain⟨b,us,rfl,Q,z,r⟩:=n.tupI;exact⟨a,b,rfl,.inl ⟨vs,us,t,z,k _ ρ2 B2 H2 G S2.wo (uT (wY P t q Q z r))⟩⟩
  ·obtain⟨xs,Y,F,e⟩:=Qg e;obtain⟨ys,h_,I,e⟩:=Qg e;obtain⟨rfl,rfl⟩:=Qm e;obtain⟨rfl,a,us,rfl,sa,q⟩:=X9 S2.wo i F;obtain⟨rfl,b,vs,rfl,T,r⟩:=X9 S2.wo n I;exact⟨a,b,rfl,.inr ⟨us,vs,sa,T,k _ ρ2 B2 H2 G S2.wo (Oj i n)⟩⟩
end
section
variable{X:Cx}{e:Expr}{f:aB}{pos:Pos}
end
section
variable{X:Cx}
def g_:List DV->Option (List Int)
 | []=>some []
 |.int b::r=>(g_ r).map (b :: ·)
 |_=>none
end
section
variable{prog:Program}{w:World}{A:Around}{E:Ce}{s:Shared}
end
section
variable{X:Cx}
theorem kF{K:Aa}{ρ:Cj}{B:Ci}{H:Hp}:∀{ds:List DV}{bs:List Int}{ys:List V}{a:List Value},g_ ds=some bs->aq K ρ B H ds ys->Vals ys a->a.length=bs.length/\∀(i:Nat)(v:Value),a[i]?=some v->∃t,v=.int (bs.getD i 0) t:=by
  intro ds;induction ds with
  |nil=>intro bs ys a h r v;cases h;unfold aq at r;subst r;cases v;exact⟨rfl,λi v h=>by simp at h⟩
  |cons d ds m =>
    intro bs ys a h r v;unfold aq at r;obtain⟨y,x,rfl,e,n⟩:=r;cases v with
    |@cons _ u _ us o q =>
    cases d<;>first|(simp[g_]at h;done)|skip
    rename_i b;have h:(g_ ds).map (b :: ·)=some bs:=h;obtain⟨j,l,rfl⟩:=Bk.mp h;obtain⟨f,g⟩:=m l n q;unfold aA at e;subst e;obtain⟨t,rfl⟩:=o;refine⟨by simp[f],λi v c=>?_⟩;cases i with
    |zero=>cases c;exact⟨t,rfl⟩
    |succ i=>exact g i v c
end
end D
namespace L2
open PySem PySem.Spec PyProof.Rows
section
variable{X:Cx}
def isI(i:Int):Value->Bool
 |.int a _=>a==i
 |_=>false
theorem Vz:∀{vs:List Value}{ns:List Int},IntsAre vs ns->∀(j:Nat)(n:Int),ns[j]?=some n->∃t,vs[j]?=some (.int n t)
 |_,_,.cons _ t h,0,n,e=>by cases e;exact⟨t,rfl⟩
 |_,_,.cons _ t h,j+1,n,e=>Vz h j n e
theorem kI{i:Int}{t:Tok}:∀{vs:List Value}{ns:List Int},IntsAre vs ns->∀y∈vs,PySem.MeetsSeq.EqGives y (.int i t) (isI i y)
  |_,_,.cons _ u h,y,a=>by
    rcases A9.mp a with rfl|a
    . exact PySem.MeetsSeq.EqGives.int _ _ _ _
    . exact kI h y a
end
end L2
namespace D
open PySem PySem.Spec PyProof.Rows L2
section
variable{X:Cx}
theorem MG(ns:List Int)(i:Int)(h:i∈ns):ns[ns.idxOf i]?=some i/\(∀m,m<ns.idxOf i->ns[m]?≠some i)/\ns.eraseIdx (ns.idxOf i)=ns.erase i:=by
 refine⟨?_,λm c q=>?_,?_⟩
 ·rw[Ab (List.idxOf_lt_length_iff.mpr h),List.getElem_idxOf]
 ·have a:m<ns.length:=(Ac.mp q).1;have:=List.not_of_lt_findIdx (xs:=ns) (p:=(· == i)) c;rw[Ab a]at q;cases q;simp at this
 ·rw[List.erase_eq_eraseIdx_of_idxOf rfl]
end
section
variable{X:Cx}
theorem JG{x:Str}{i:Int}{a:Pos}(u:UG X.mg x i)(c:Gl X x:=by rfl)(hd:(x==("__debug__" : Str))=false:=by decide):DE X (.Name x a) (eC (.int i)):=let ⟨_,h⟩:=u.ex;T4 c h hd
end
section
variable{env aL:En}{U hp1:Hs}{f g:aD}{c:bF}{r:Option ((Fl×En)×Hs)}
end
end D
namespace L2
open PySem PySem.Spec PyProof.Rows
section
variable{X:Cx}
theorem SX{xs:List V}{a:List Value}{acc:Array Value}(r:Vals xs a)(h:ItemsOf (λi v=>a.toArray[a.toArray.size-1-i]?=some v) acc a.toArray.size):Vals xs.reverse acc.toList:=by
 have e:acc.toList=a.reverse:=by
  refine List.ext_getElem? λi=>?_;have d:acc.size=a.length:=by rw[h.1];simp
  rw[Array.getElem?_toList];by_cases q:i<acc.size
  ·have c:=Array.getElem?_eq_getElem q;have:=h.2 i _ c;rw[c,List.getElem?_reverse ⋯];rw[<- this];simp
  ·rw[Array.getElem?_eq_none ⋯,Bu (by simp;lia)]
 rw[e];exact r.reverse
theorem BU{x:Expr}{G:TE}{p i z c:Pos}(m:Gl X "tuple")(n:X.mg "tuple" = none)(L:Gl X "reversed")(P:X.mg "reversed" = none)(J:X.calm=true)(hx:PE X x G)
  (hs:starEach [x] X.env=[(false,eval x X.env)]:=by rfl) (hs3:starEach [.Call (.Name "reversed" i) [x] [] c] X.env=[(false,eval (.Call (.Name "reversed" i) [x] [] c) X.env)]:=by rfl) :
  PE X (.Call (.Name "tuple" p) [.Call (.Name "reversed" i) [x] [] c] [] z) (λσ H Q=>G σ H λv d=>∃a xs,v=.ref a/\SqT X.K d a xs/\∀l,d l=none->Q (.ref l) (upd d l (.tup xs.reverse))):=by
 intro E s σ H Q I h;refine wpAny_Call_Name_kw (XM I m n boot_tuple ?_);refine PyProof.Rows.callWith_type1 ?_ hs3 rfl;rw[hs3];show wpAny _ _ (spliced ((false,eval (.Call (.Name "reversed" i) [x] [] c) X.env)::[])) _ _ s;refine Calls.spliced_cons (Call_ (XM I L P boot_reversed (PyProof.Rows.callWith_type1 ?_ hs rfl)));rw[hs];show wpAny _ _ (spliced ((false,eval x X.env)::[])) _ _ s;refine Calls.spliced_cons (thn (hx E s σ H _ I h) λv F ⟨y,d,I1,r1,q1⟩=>Calls.spliced_nil ?_);obtain⟨a,xs,rfl,R,q⟩:=q1;cases r1;obtain⟨f,r,pl,hz⟩:=I1.tuple R;have O:=r.length;have t:f.toArray.size<=2 ^ 24:=by rw[Am,<- O];exact hz
 refine TV.fX pl ⋯ λT=>Calls.spliced_nil ?_;have j:a<F.heap.objs.size:=pl.lt;refine TV.cP (l:=a) (items:=f.toArray) (I1.ok.hd J) ⟨_,Ar _ rfl,rfl,rfl⟩ (pl.push _) t (A6 j) λh' g acc k S=>?_;have C:Inv X E σ d { F with heap:=h',toks:=g }:=I1.kept λb o e=>k b o (A6 (An e)) (Ad _ e);have hf:d h'.objs.size=none:=C.hok.fresh (Ae _);refine⟨.ref h'.objs.size,upd d h'.objs.size (.tup xs.reverse),C.laid (t':=g) (λb u e=>Ad _ e) (Ae _) ?_,rfl,q _ hf⟩;exact⟨by rw[List.length_reverse];exact hz,acc.toList,SX r S,⟨_,Ar _ rfl,rfl,_,rfl⟩⟩
end
end L2
namespace D
open PySem PySem.Spec PyProof.Rows L2
section
variable{X:Cx}{x:Expr}{f:aB}{p p' pos pos':Pos}
def IV:DV->M DV
 |.tup ds=>pure (.tup ds.reverse)
 |_=>failure
def yQ(f:aB):aB:=λenv=>do let d <- f env;IV d
theorem Hb(h:X.mg "tuple" = none)(n:X.mg "reversed" = none)(l:X.calm=true)(hx:DE X x f)(g:Gl X "tuple" := by rfl)(m:Gl X "reversed" := by rfl)
    (hs:starEach [x] X.env=[(false,eval x X.env)]:=by rfl) (hs3:starEach [.Call (.Name "reversed" p') [x] [] pos'] X.env=[(false,eval (.Call (.Name "reversed" p') [x] [] pos') X.env)]:=by rfl) :
    DE X (.Call (.Name "tuple" p) [.Call (.Name "reversed" p') [x] [] pos'] [] pos) (yQ f) :=
  (BU g h m n l hx hs hs3).imp λσ H Q i=>by
    obtain⟨Z,env,ρ,B,U,d,o,S,e,k⟩:=i;obtain⟨y,hp1,j,c⟩:=Qg e;refine tD.run S j λv ρ1 B1 H1 g1 S1 q=>?_;cases y with
    |tup ds=>obtain⟨rfl,rfl⟩:=Qm c;obtain⟨a,xs,rfl,u,t,r⟩:=q.tupI;exact⟨a,xs,rfl,t,zw S1.wo r.reverse (k.after g1)⟩
    |lst _=>cases c
    |non=>cases c
    |bl _=>cases c
    |int _=>cases c
    |str _=>cases c
    |ref _=>cases c
theorem WO{env:En}{U hp1:Hs}{ds:List DV}(h:f env U=some (.tup ds,hp1)):yQ f env U=some (.tup ds.reverse,hp1):=by unfold yQ;rw[Qf h];rfl
end
end D
namespace L2
open PySem PySem.Spec PyProof.Rows
section
variable{prog:Program}{w:World}{A:Around}{E:Ce}{s:Shared}
theorem U0{c l:Addr}{items:Array Value}(e:l≠c):∀(n i:Nat)(s:Shared)(Q:List Value->Shared->Prop),s.heap.IsListIter c l i->s.heap.IsList l items->i+n<=items.size ->
    (∀h',h'.IsListIter c l (i+n)->Heap.SameBut c s.heap h'->Q ((items.toList.drop i).take n) { s with heap:=h' })->wpAny (model prog w) A (draw (.ref c) n) Q E s
  |0,i,s,Q,a,_,_,g=>by show wpAny _ _ (pure []) Q E s;exact B9 (by simpa using g s.heap a (Heap.SameBut.refl ..))
  |n+1,i,s,Q,a,j,m,g=>by
    have d:i<items.size:=⋯
    show wpAny _ _ (pyNext (.ref c) >>= _) Q E s;refine B0 (wpAny_pyNext_list_item a j (x:=items[i]) (by simp[d]) λh₁ a₁ f₁=>?_);refine B0 (wpAny_holding (U0 e n (i+1) _ _ a₁ (j.extBut f₁.extBut e) ⋯ λh₂ a₂ f₂=>B9 ?_));have hd:items.toList.drop i=items[i]::items.toList.drop (i+1):=by simp[A7,d]
    have:=g h₂ (by rw[show i+(n+1)=i+1+n by lia];exact a₂) (f₁.trans f₂);rw[hd,List.take_succ_cons]at this;exact this
theorem vT{l:Addr}{items:Array Value}{a:List (Bool×(Value->Sem Unit))}{Q:Unit->Shared->Prop}(n:A.handled=none)(c:s.heap.IsList l items)
  (hn:a.length=items.size) (hstar:a.findIdx? (·.1)=none)
  (h:∀h',Heap.ExtBut s.heap.objs.size s.heap h'->wpAny (model prog w) A (assignInOrder (a.map (·.2)) items.toList) Q E { s with heap:=h' }) :
  wpAny (model prog w) A (unpack (.ref l) a) Q E s:=by
 have f:l≠s.heap.objs.size:=by obtain⟨o,q,_⟩:=c;exact A6 (An q)
 unfold unpack;rw[hn,hstar];refine B0 (wpAny_holding ?_);unfold unpackItems;refine B0 ?_
 ·unfold notIterableAtAll;refine B0 (wpAny_specialOf c.typeIs slot_list_iter.lookup ?_);refine B9 ?_;simp only[Av,if_false];refine B0 (wpAny_holding (wpAny_pyIter_list c ?_));refine B0 (wpAny_holding (U0 f items.size 0 _ _ ⟨_,Ar _ rfl,rfl,rfl⟩ (c.push _) ⋯ λh₁ g₁ j₁=>?_));have d:List.take items.size (List.drop 0 items.toList)=items.toList:=by rw[List.drop_zero];exact Bo (by simp)
  rw[d];rw[B7 (by simp)];have c₁:h₁.IsList l items:=(c.push _).extBut j₁.extBut f;refine B0 (wpAny_holding (wpAny_pyNext_list_end n g₁ c₁ (by simp) λh₂ m₂=>?_));simp only[Option.isSome_none,Av,if_false];refine B9 (h h₂ λb o i e=>m₂ b o i (j₁.extBut b o i (Ad _ e)))
end
section
variable{X:Cx}{pos:Pos}
def Ln(K:Aa)(n:Nat)(t:TGs):TG:=λv σ H Q=>∃a xs,v=.ref a/\SqL K H a xs/\xs.length=n/\t xs σ H Q
theorem Mw{c:List Expr}{k:Nat}{t:TGs}{n:Nat}(l:X.calm=true)(h:PGs X c t)
  (hn:(assignEach c X.env).length=n:=by rfl) (hst:(assignEach c X.env).findIdx? (·.1)=none:=by rfl):PG X (.Tuple c k pos) (Ln X.K n t):=by
 intro f s σ H v u Q I r d;obtain⟨a,xs,j,q,m,d⟩:=d;subst j;cases r;obtain⟨x,g,pl,hz⟩:=I.list q;rw[assign_Tuple];refine B0 (wpAny_standAt (vT (I.ok.hd l) pl.isList (by simp[hn,<- m,g.length]) hst λh' hx=>?_));have i:Inv X f σ H { s with heap:=h' }:=I.kept (t':=s.toks) λb o e=>hx b o (A6 (An e)) e;exact h f _ σ H xs _ Q i (by simpa using g) d
theorem Uv{prog:Program}{w:World}{A:Around}{E:Ce}{s:Shared}{l:Addr}{items:Array Value}{f:List Int}{Q:Ce}(m:A.handled=none)(g:s.heap.IsList l items)(c:items.size=f.length)(a:∀(i:Nat)(v:Value),items[i]?=some v->∃t,v=.int (f.getD i 0) t)
  (h:∀t h' j,(∀b o,s.heap.get? b=some o->h'.get? b=some o)->Q (.int (preSum (λi=>f.getD i 0) f.length) t) { s with heap:=h',toks:=j }):wpAny (model prog w) A (call (.builtin "sum") [.ref l]) Q E s:=by
 refine call_sum_walkG (wpAny_pyIter_list g ?_);have d:l<s.heap.objs.size:=by obtain⟨_,e,_⟩:=g;exact An e
 refine⟨s.heap.objs.size,_,_,_,_,_,λi=>f.getD i 0,rfl,Walks.list (by exact m) s.heap.objs.size l (A6 d) items,⟨⟨_,Ar _ rfl,rfl,rfl⟩,g.push _⟩,λb a=>?_,a,λh' j t' n=>?_⟩
 ·show b<(s.heap.push _).objs.size;rw[Bq];rcases A9.mp a with rfl|a
  ·exact Bv _
  ·rcases A9.mp a with rfl|a
   ·exact Nat.lt_succ_of_lt d
   ·cases a
 ·rw[c];exact h t' h' j (old_kept n)
end
end L2
namespace D
open PySem PySem.Spec PyProof.Rows L2
section
variable{X:Cx}{elts:List Expr}{kt:Nat}{p2:Pos}
def pL(a:List Nat):dY:=λd env=>do
 let ds <- d9 d
 QG (decide (ds.length=a.length))
 pure ((a.zip ds).foldl (λc q=>c.set q.1 (.val q.2)) env)
theorem N6(c:List Nat)(o:X.N.Nodup)(y:yM X c elts)(t:X.calm=true)(q:∀f x p,(assignEach (.Name x p::f) X.env).map (·.2)=assign (.Name x p) X.env::(assignEach f X.env).map (·.2))
  (hl:(assignEach elts X.env).length=c.length:=by rfl) (hst:(assignEach elts X.env).findIdx? (·.1)=none:=by rfl):PG X (.Tuple elts kt p2) (iW X.K (pL c)):=by
 intro l s σ H v u Q I r h;refine Mw t (xS o c elts y q) hl hst l s σ H v u Q I r ?_;obtain⟨Z,env,ρ,B,U,d,i,z,S,rd,e,k⟩:=h;obtain⟨ds,hp1,m,e⟩:=Qg e;obtain⟨rfl,a,xs,rfl,E,j⟩:=X9 S.wo rd m;obtain⟨_,hp2,n,e⟩:=Qg e;obtain⟨C,rfl⟩:=QE n;obtain⟨rfl,rfl⟩:=Qm e;have g:xs.length=c.length:=by rw[<- j.length];exact Cb C
 exact⟨a,xs,rfl,E,g,g,k _ ρ B H Gs.refl (KQ c ds xs j S)⟩
def oF(a:List Int):Int:=preSum (λi=>a.getD i 0) a.length
def oE:List DV->M DV:=mj λd=>do
 let ds <- d9 d
 let is <- iI (g_ ds)
 pure (.int (oF is))
theorem N8(m:X.calm=true):CallR X (.builtin "sum") (eO X.K oE):=by intro L s σ H xs us Q I r h;obtain⟨ρ,B,U,ds,d,n,W,F,e,k⟩:=h;obtain⟨x,rfl,e⟩:=zx e;obtain⟨ys,hp1,g,e⟩:=Qg e;obtain⟨q,hp2,j,e⟩:=Qg e;obtain⟨l,rfl⟩:=VO j;obtain⟨rfl,rfl⟩:=Qm e;obtain⟨v,rfl,G⟩:=F.bV;obtain⟨rfl,a,vs,rfl,sa,C⟩:=X9 W G g;obtain⟨u,rfl,J⟩:=xp r;cases J;obtain⟨y,E,pl,hz⟩:=I.list sa;obtain⟨c,f⟩:=kF l C E;refine Uv (I.ok.hd m) pl.isList (by rw[Am];exact c) (λi v o=>f i v (by simpa using o)) λt h' O z=>?_;exact⟨.int (oF q),H,I.kept z,⟨t,rfl⟩,k _ ρ B H Gr.refl W ZZ⟩
def VJ(x:DV):List DV->M DV
  | [.int i]=>do
    let ds <- d9 x
    let ns <- iI (g_ ds)
    QG (decide (i∈ns))
    QG (JV ds)
    pure (.int (ns.idxOf i:Nat))
  |_=>failure
theorem T7:MtR X "list.index" (iU X.K VJ):=by
 intro O9 s σ H x vs v us Q I rx rv h;obtain⟨ρ,B,U,dx,es,d,ab,W,r1,r2,e,k⟩:=h;unfold VJ at e;split at e
 ·rename_i i;obtain⟨ds,hp1,l,e⟩:=Qg e;obtain⟨ns,hp2,Y,e⟩:=Qg e;obtain⟨Z,rfl⟩:=VO Y;obtain⟨_,ac,e4,e⟩:=Qg e;obtain⟨hi,rfl⟩:=QE e4;obtain⟨_,cA,e5,e⟩:=Qg e;obtain⟨hs,rfl⟩:=QE e5;obtain⟨rfl,rfl⟩:=Qm e;obtain⟨rfl,a,ys,rfl,sa,la⟩:=X9 W r1 l;obtain⟨w,rfl,q⟩:=r2.bV;obtain rfl:=q.aW;obtain⟨u,rfl,t,rfl⟩:=xp rv;cases rx;obtain⟨c,L,pl,hz⟩:=I.list sa;obtain⟨S,T⟩:=kF Z la L;have g:IntsAre c ns:=kH S λj u m hu n=>by obtain⟨t,e⟩:=T j u hu;rw[Br,n]at e;exact⟨t,e⟩
  obtain⟨P,R,_⟩:=MG ns i (Cb hi);obtain⟨⟨k1,Ht,Hu,r⟩,n1,l,C,E,O⟩:=pl;simp only at C E O;subst C E O;obtain⟨tj,G⟩:=Vz g _ i P;have J:ns.idxOf i<c.toArray.size:=by rw[Am];exact(Ac.mp G).1
  have ej:c.toArray[ns.idxOf i]=.int i tj:=by have:=(Ac.mp G).2;simpa using this
  have o:c.length<=sizeLine:=by rw[<- L.length];exact hz
  have ae:c.length<=2 ^ 24:=o;rw[Am]at J;refine call_meets PySem.F.slot_list_index ⟨_,l,rfl⟩ PySem.F.entry_list_index (PySem.F.args_list_index_2 _ _) (PySem.SeqAt.list_indexAt a c.toArray n1 none r (.int i t) (isI i) (ns.idxOf i) (by rw[Am];exact J) ⋯ ?_ ?_) ⟨l,λy hy=>(kI g y (by simpa using hy)).at _ _,?_⟩
  ·rw[ej];exact beq_self_eq_true i
  ·intro m n Ft;have f:m<ns.length:=by have:=g.length;rw[Am]at n;lia
   obtain⟨tm,gm⟩:=Vz g m ns[m] (Ab f);have em:c.toArray[m]=.int ns[m] tm:=by have:=(Ac.mp gm).2;simpa using this
   rw[em];refine Bool.eq_false_iff.mpr λz=>R m Ft ?_;rw[Ab f,beq_iff_eq.mp z]
  ·exact⟨.int (ns.idxOf i:Nat),H,I.tok _,⟨_,rfl⟩,k _ ρ B H Gr.refl W ZZ⟩
 ·cases e
end
end D
namespace K52
open PySem PySem.Spec PyProof.Rows L2 D
def top (i:Nat):Stmt:=PySem.Challenge.pw_sidelink_k52_faults_of_spoilt_trees.main.body.getD i (.Pass ⟨0,0,0,0⟩)
abbrev xf:Stmt:=Y5 (top 27) 4
def KD:aD:=Zc (jK "Shelf" "top" (Qa 0))
def Ja:List DV->M DV:=Zv 1 KD
abbrev yr:Stmt:=top 14
def GK:aD:=Qv (aN (cG (XF (uy (Qa 1))) (XF (uy (Qe au (Qe au (Qa 0) (Qe au (Qa 1) (eC (.int 0)))) (eC (.int 2)))))) (Zc (eC .non)) (Zn)) (Zc (Qe au (Qe au (Qe au (Qa 0) (Qe au (Qa 1) (eC (.int 0)))) (eC (.int 2))) (eC (.int 0))))
def J6:List DV->M DV:=Zv 2 GK
abbrev V2:Stmt:=top 13
def jT:aD:=Qv (JX (eC (.bl true)) (dW (Qa 2) (Qa 4))) (Qv (Q5 (Zk "list" QY (Qa 3) (Qc (Qa 4) (Qk)))) (Qx 4 (Qe au (Qe au (Qa 0) (Qa 4)) (eC (.int 4)))))
def jw:aD:=Z7 (Jx (eB (Qe Xt (Qa 4) (eC .non))) (Jx (eB (qN cW bW (eC (.int 0)) (Qa 4) (QA QV (Qc (Qa 0) (Qk))))) (eB (Qe XO (Qa 4) (Qa 2))))) (jT) 100000
def uo:aD:=Qv (Qx 3 (Zu (Qk))) (Qv (Qx 4 (Qa 1)) (Qv (jw) (Zc (Qa 3))))
def YV:List DV->M DV:=Zv 5 uo
abbrev zU:Stmt:=top 12
def qm:aD:=Qv (Qx 5 (Qw 3 YV (Qc (Qa 0) (Qc (Qa 4) (Qc (Qa 3) (Qk)))))) (Qv (Q5 (Zk "list" QY (Qa 2) (Qc (Qa 5) (Qk)))) (Qx 4 (Qw 2 J6 (Qc (Qa 0) (Qc (Qa 5) (Qk))))))
def qj:aD:=Z7 (eB (Qe cW (QA QV (Qc (Qa 2) (Qk))) (Qe au (Qe au (Qa 0) (Qa 1)) (eC (.int 0))))) (qm) 100000
def Ur:aD:=Qv (Qx 2 (Zu (Qk))) (Qv (Qx 3 (XE)) (Qv (Qx 4 (Qa 1)) (Qv (qj) (Zc (Qa 2)))))
def Z1:List DV->M DV:=Zv 6 Ur
abbrev qr:Stmt:=Y5 (top 27) 11
def yA:aD:=Zc (QA lV (Qc (jK "Shelf" "kept" (Qa 0)) (Qk)))
def ZX:List DV->M DV:=Zv 1 yA
abbrev V3:Stmt:=top 11
def jU:aD:=Q5 (Zk "list" Jf (Qa 2) (Qc (Vp (Qe au (Qe au (Qa 1) (Qa 3)) (eC (.int 1))) (Qe au (Qe au (Qa 1) (Qa 3)) (eC (.int 2)))) (Qk)))
def Kv:aD:=ZN (cH (Qe au (Qw 2 Z1 (Qc (Qa 1) (Qc (Z9 "Shelf" "root" 1 Ja (Qa 0) Qk) (Qk)))) (ZV (eC (.int 1))))) (gN 3) (jU)
def uq:aD:=Qv (Qx 1 (Z9 "Shelf" "picture" 1 ZX (Qa 0) Qk)) (Qv (Qx 2 (Zu (Qk))) (Qv (Kv) (Zc (Qa 2))))
def zZ:List DV->M DV:=Zv 4 uq
abbrev Yf:Stmt:=top 45
def Xo:aD:=Q5 (Zk "list" Jf (Qa 3) (Qc (Vp (Qe au (Qe au (Qa 1) (Qa 4)) (eC (.int 1))) (Qe au (Qe au (Qa 1) (Qa 4)) (eC (.int 2)))) (Qk)))
def zE:aD:=ZN (cH (Qa 2)) (gN 4) (Xo)
def jA:aD:=Qv (Qx 3 (Zu (Qk))) (Qv (zE) (Zc (Qe aX (Qw 1 zZ (Qc (Qa 0) (Qk))) (Qa 3))))
def JK:List DV->M DV:=Zv 5 jA
abbrev xh:Stmt:=top 21
def XI:aD:=Qv (Qx 8 (Qe au (Qa 4) (Qa 7))) (aN (cG (eB (Qe iM (Qa 7) (QA QV (Qc (Qa 5) (Qk))))) (cG (eB (Qe XO (Qa 8) (Qa 3))) (eB (Qe bC (Qe au (Qa 3) (Qa 8)) (Qe au (Qa 5) (Qa 7)))))) (Q5 (Zk "list" QY (Qa 6) (Qc (ZK (Qc (eC (.str "kid")) (Qc (Qa 0) (Qc (Qa 7) (Qk))))) (Qk)))) (Zn))
def y6:aD:=ZN (cg (Yp (Qc (QA QV (Qc (Qa 4) (Qk))) (Qk)))) (gN 7) (XI)
def KG:aD:=Qv (Qx 4 (Qe au (Qa 1) (eC (.int 2)))) (Qv (Qx 5 (Qe QP (ZK (Qc (Qa 2) (Qk))) (Qe au (Qa 1) (eC (.int 1))))) (Qv (Qx 6 (Zu (Qk))) (Qv (y6) (Zc (Qa 6)))))
def JH:List DV->M DV:=Zv 9 KG
abbrev zj:Stmt:=top 20
def Vf:aD:=Zc (dG (eB (Qe aX (Qe au (Qa 0) (eC (.int 0))) (eC (.int 0)))) (QA QV (Qc (Qe au (Qa 0) (eC (.int 1))) (Qk))) (Qe QP (QA QV (Qc (Qe au (Qa 0) (eC (.int 1))) (Qk))) (eC (.int 1))))
def JL:List DV->M DV:=Zv 1 Vf
abbrev xg:Stmt:=top 19
def Xx:aB:=ZQ false (cg (iK (Qa 2))) [3] (qw) (Qe bW (Qa 0) (Qa 1))
def Xy:aB:=ZQ false (cg (iK (Qa 2))) [1] (qw) (Qe cW (Qa 1) (Qa 0))
def qy:aB:=ZQ false (cg (lX (Qa 2) (bL (Qa 2) (QX (eC (.int 1))) (Zb)))) [] (qw) (Qe bW (Qe au (Qa 0) (eC (.int 0))) (Qe au (Qa 0) (eC (.int 1))))
def KF:aD:=Qv (Qx 2 (Qe au (Qa 0) (eC (.int 1)))) (Qv (Qx 3 (Qe au (Qa 0) (eC (.int 3)))) (Qv (aN (XF (eB (QA ud (Qc (qy) (Qk))))) (Zc (eC (.bl false))) (Zn)) (Qv (aN (Jx (eB (Qe Xt (Qa 1) (eC .non))) (XF (eB (QA ud (Qc (Xy) (Qk)))))) (Zc (eC (.bl false))) (Zn)) (Qv (aN (Jx (eB (Qe Xt (Qa 3) (eC .non))) (XF (eB (QA ud (Qc (Xx) (Qk)))))) (Zc (eC (.bl false))) (Zn)) (Zc (YY (Qe isD (Qa 1) (eC .non)) (YY (Qe isD (Qa 3) (eC .non)) (Qe bW (Qa 1) (Qa 3)))))))))
def Xq:List DV->M DV:=Zv 4 KF
abbrev zX:Stmt:=top 18
def Ut:aD:=Qv (Qx 5 (Zu (Qk))) (Qv (aN (eB (Qe bC (Qe au (Qa 1) (eC (.int 0))) (Qa 2))) (Q5 (Zk "list" QY (Qa 5) (Qc (ZK (Qc (eC (.str "level")) (Qc (Qa 0) (Qk)))) (Qk)))) (Zn)) (Qv (aN (XF (eB (Qw 2 Xq (Qc (Qa 1) (Qc (Qa 3) (Qk)))))) (Q5 (Zk "list" QY (Qa 5) (Qc (ZK (Qc (eC (.str "order")) (Qc (Qa 0) (Qk)))) (Qk)))) (Zn)) (Qv (aN (eB (Qe bC (QA QV (Qc (Qe au (Qa 1) (eC (.int 2))) (Qk))) (Qw 1 JL (Qc (Qa 1) (Qk))))) (Q5 (Zk "list" QY (Qa 5) (Qc (ZK (Qc (eC (.str "parts")) (Qc (Qa 0) (Qk)))) (Qk)))) (Zn)) (Qv (aN (cG (eB (Qe bC (Qe isD (Qe au (Qa 1) (eC (.int 3))) (eC .non)) (Qe isD (Qe au (Qa 1) (eC (.int 4))) (eC .non)))) (eB (Qe bC (Qe au (Qa 1) (eC (.int 4))) (Qa 4)))) (Q5 (Zk "list" QY (Qa 5) (Qc (ZK (Qc (eC (.str "links")) (Qc (Qa 0) (Qk)))) (Qk)))) (Zn)) (Zc (Qa 5))))))
def J1:List DV->M DV:=Zv 6 Ut
abbrev yq:Stmt:=top 16
def zP:aD:=Qv (JX (Qa 3) (dW (Qa 2) (Qa 4))) (Qx 3 (Qe au (Qe au (Qa 0) (Qa 4)) (eC (.int 3))))
def Um:aD:=ZN (cH (Qa 1)) (gN 4) (zP)
def GJ:aD:=Qv (Qx 2 (XE)) (Qv (Qx 3 (eC .non)) (Qv (Um) (Zc (Qa 2))))
def XY:List DV->M DV:=Zv 5 GJ
abbrev zW:Stmt:=top 17
def Xk:aD:=Qv (Qx 8 (Qe au (Qa 1) (Qa 7))) (Qv (Qx 9 (Qe au (Qa 0) (Qa 8))) (Qv (Qx 10 (dG (eB (Qe bW (Qe QP (Qa 7) (eC (.int 1))) (QA QV (Qc (Qa 1) (Qk))))) (Qe au (Qa 1) (Qe QP (Qa 7) (eC (.int 1)))) (eC .non))) (Qv (Q5 (Zk "list" Jf (Qa 6) (Qc (Qw 5 J1 (Qc (Qa 8) (Qc (Qa 9) (Qc (Qa 2) (Qc (Qe au (Qa 4) (Qa 8)) (Qc (Qa 10) (Qk))))))) (Qk)))) (aN (eB (Qe cR (Qa 2) (eC (.int 0)))) (Q5 (Zk "list" Jf (Qa 6) (Qc (Qw 4 JH (Qc (Qa 8) (Qc (Qa 9) (Qc (Qe au (Qa 4) (Qa 8)) (Qc (Qa 5) (Qk)))))) (Qk)))) (Zn)))))
def yz:aD:=ZN (cg (Yp (Qc (QA QV (Qc (Qa 1) (Qk))) (Qk)))) (gN 7) (Xk)
def Us:aD:=Qv (Qx 4 (Qw 2 XY (Qc (Qa 0) (Qc (Qa 1) (Qk))))) (Qv (Qx 5 (Qw 2 XY (Qc (Qa 0) (Qc (Qa 3) (Qk))))) (Qv (Qx 6 (Zu (Qk))) (Qv (yz) (Zc (Qa 6)))))
def J0:List DV->M DV:=Zv 11 Us
abbrev vz:Stmt:=top 8
def VC:aD:=Qv (Qx 5 (Qe Jj (Qe Jj (QA QV (Qc (Qa 2) (Qk))) (eC (.int 1))) (Qa 4))) (Qv (Qx 6 (dG (eB (Qe cR (Qa 5) (eC (.int 0)))) (Qe au (Qa 2) (Qe QP (Qa 4) (eC (.int 1)))) (Zz (Qk)))) (Q5 (Zk "list" Jf (Qa 3) (Qc (Qw 4 J0 (Qc (Qa 1) (Qc (Qe au (Qa 2) (Qa 4)) (Qc (Qa 5) (Qc (Qa 6) (Qk)))))) (Qk)))))
def vY:aD:=ZN (cg (Yp (Qc (QA QV (Qc (Qa 2) (Qk))) (Qk)))) (gN 4) (VC)
def MZ:aD:=Qv (Qx 1 (Z9 "Shelf" "picture" 1 ZX (Qa 0) Qk)) (Qv (Qx 2 (Qw 2 Z1 (Qc (Qa 1) (Qc (Z9 "Shelf" "root" 1 Ja (Qa 0) Qk) (Qk))))) (Qv (Qx 3 (Zu (Qk))) (Qv (vY) (Zc (Qa 3)))))
def Yy:List DV->M DV:=Zv 7 MZ
abbrev VY:Stmt:=top 9
def ue:aD:=Zc (Qe aX (Qw 1 Yy (Qc (Qa 0) (Qk))) (Zz (Qk)))
def YT:List DV->M DV:=Zv 1 ue
abbrev Ki:Stmt:=top 15
def qV:aD:=JX (eC (.bl true)) (dW (Qa 2) (Qa 4))
def yb:aD:=oG (iK (Qe au (Qe au (Qa 0) (Qa 3)) (eC (.int 2)))) (gN 4) (qV)
def yg:aD:=yb
def GG:aD:=ZN (cH (Qa 1)) (gN 3) (yg)
def HE:aD:=Qv (Qx 2 (XE)) (Qv (GG) (Zc (Qa 2)))
def zo:List DV->M DV:=Zv 5 HE
abbrev vB:Stmt:=top 10
def y4:aB:=ZQ true (cH (Qe au (Qa 2) (Qa 4))) [5] (eB (Qe XO (Qa 0) (Qa 1))) (Qa 0)
def VD:aD:=Qv (Qx 5 (Qw 2 zo (Qc (Qa 1) (Qc (Qe au (Qa 2) (Qe Jj (Qa 4) (eC (.int 1)))) (Qk))))) (Q5 (Zk "list" Jf (Qa 3) (Qc (y4) (Qk))))
def vZ:aD:=ZN (cg (uF (Qc (eC (.int 1)) (Qc (QA QV (Qc (Qa 2) (Qk))) (Qk))))) (gN 4) (VD)
def MX:aD:=Qv (Qx 1 (Z9 "Shelf" "picture" 1 ZX (Qa 0) Qk)) (Qv (Qx 2 (Qw 2 Z1 (Qc (Qa 1) (Qc (Z9 "Shelf" "root" 1 Ja (Qa 0) Qk) (Qk))))) (Qv (Qx 3 (Zu (Qk))) (Qv (vZ) (Zc (Qa 3)))))
def qB:List DV->M DV:=Zv 6 MX
abbrev vA:Stmt:=top 7
def MY:aD:=Zc (Qw 2 Z1 (Qc (Z9 "Shelf" "picture" 1 ZX (Qa 0) Qk) (Qc (Z9 "Shelf" "root" 1 Ja (Qa 0) Qk) (Qk))))
def qA:List DV->M DV:=Zv 1 MY
abbrev zi:Stmt:=top 44
def Yx:aB:=ZQ true (cH (Qe au (Qa 1) (Qa 3))) [4] (eB (Qe XO (Qa 0) (Qa 1))) (Qa 0)
def YG:aD:=Q5 (Zk "list" Jf (Qa 4) (Qc (QA oU (Qc (Qe au (Qe au (Qa 0) (Qa 5)) (eC (.int 2))) (Qk))) (Qk)))
def Yz:aD:=ZN (cH (Qe au (Qa 1) (Qe Jj (Qa 3) (eC (.int 1))))) (gN 5) (YG)
def YH:aD:=Qv (Qx 4 (Zu (Qk))) (Qv (Yz) (Q5 (Zk "list" Jf (Qa 2) (Qc (Yx) (Qk)))))
def xu:aD:=ZN (cg (uF (Qc (eC (.int 1)) (Qc (QA QV (Qc (Qa 1) (Qk))) (Qk))))) (gN 3) (YH)
def Ve:aD:=Qv (Qx 2 (Zu (Qk))) (Qv (xu) (Zc (Qa 2)))
def JJ:List DV->M DV:=Zv 6 Ve
abbrev qt:Stmt:=top 42
def yB:aD:=Qv (Qx 5 (Qe au (Qe au (Qa 1) (eC (.int 2))) (Qa 2))) (Qv (aN (cG (eB (Qe XO (Qa 5) (Qa 4))) (eB (Qe cR (Qa 2) (QA QV (Qc (Qe au (Qa 1) (eC (.int 1))) (Qk)))))) (Zc (eC (.bl true))) (Zn)) (Qv (Qx 6 (Zk "list" VJ (Qa 4) (Qc (Qa 5) (Qk)))) (Qv (Qx 7 (eC .non)) (Qv (aN (eB (Qe cR (Qa 6) (eC (.int 0)))) (Qx 7 (Qe au (Qe au (Qa 0) (Qe au (Qa 4) (Qe Jj (Qa 6) (eC (.int 1))))) (eC (.int 3)))) (Zn)) (Zc (Qe bC (Qa 7) (Qe au (Qe QP (Zz (Qc (Qa 3) (Qk))) (QA lV (Qc (Qe au (Qa 1) (eC (.int 1))) (Qk)))) (Qa 2))))))))
def JB:List DV->M DV:=Zv 8 yB
abbrev XT:Stmt:=top 41
def Xf:aD:=Qv (Qx 2 (YY (Qa 2) (Jy (Qe cR (Qa 3) (eC (.int 0))) (Qe cW (Qe au (Qa 5) (Qa 3)) (Qe au (Qa 5) (Qe Jj (Qa 3) (eC (.int 1)))))))) (Qv (Qx 2 (YY (Qa 2) (Jy (Qe Xt (Qa 1) (eC .non)) (Qe bW (Qe au (Qa 5) (Qa 3)) (Qa 1))))) (Qx 2 (YY (Qa 2) (Jy (Qe Xt (Qa 7) (eC .non)) (Qe iM (Qe au (Qa 5) (Qa 3)) (Qa 7))))))
def qF:aD:=ZN (cg (Yp (Qc (QA QV (Qc (Qa 5) (Qk))) (Qk)))) (gN 3) (Xf)
def ja:aD:=Qv (JX (Qa 0) (gT [4,5,6,7,8])) (Qv (Qx 2 (Jy (Qe Xt (Qa 1) (eC .non)) (Jy (Qe Xt (Qa 7) (eC .non)) (Qe cW (Qa 7) (Qa 1))))) (Qv (qF) (Zc (Qa 2))))
def Jb:List DV->M DV:=Zv 9 ja
abbrev xi:Stmt:=top 43
def XJ:aD:=aN (eB (Qw 5 JB (Qc (Qa 0) (Qc (Qa 6) (Qc (Qa 9) (Qc (Qa 7) (Qc (Qe au (Qa 1) (Qe QP (Qa 3) (eC (.int 1)))) (Qk)))))))) (Q5 (Zk "list" QY (Qa 2) (Qc (ZK (Qc (eC (.str "kid")) (Qc (Qa 5) (Qc (Qa 9) (Qk))))) (Qk)))) (Zn)
def qD:aD:=ZN (cg (Yp (Qc (QA QV (Qc (Qe au (Qa 6) (eC (.int 2))) (Qk))) (Qk)))) (gN 9) (XJ)
def XL:aD:=Qv (Qx 5 (Qe au (Qe au (Qa 1) (Qa 3)) (Qa 4))) (Qv (Qx 6 (Qe au (Qa 0) (Qa 5))) (Qv (Qx 7 (eC .non)) (Qv (aN (eB (Qe cR (Qa 4) (eC (.int 0)))) (Qx 7 (Qe au (Qe au (Qa 0) (Qe au (Qe au (Qa 1) (Qa 3)) (Qe Jj (Qa 4) (eC (.int 1))))) (eC (.int 3)))) (Zn)) (Qv (Qx 8 (Qe au (Qe m8 (Qe au (Qa 1) (Qa 3)) (Zz (Qc (eC .non) (Qk)))) (Qe QP (Qa 4) (eC (.int 1))))) (Qv (aN (eB (Qe bC (Qe au (Qa 6) (eC (.int 0))) (Qe Jj (Qe Jj (QA QV (Qc (Qa 1) (Qk))) (eC (.int 1))) (Qa 3)))) (Q5 (Zk "list" QY (Qa 2) (Qc (ZK (Qc (eC (.str "level")) (Qc (Qa 5) (Qk)))) (Qk)))) (Zn)) (Qv (aN (eB (Qw 2 Jb (Qc (Qa 6) (Qc (Qa 7) (Qk))))) (Q5 (Zk "list" QY (Qa 2) (Qc (ZK (Qc (eC (.str "order")) (Qc (Qa 5) (Qk)))) (Qk)))) (Zn)) (Qv (aN (eB (Qe bC (Qe Jj (QA QV (Qc (Qe au (Qa 6) (eC (.int 2))) (Qk))) (QA QV (Qc (Qe au (Qa 6) (eC (.int 1))) (Qk)))) (Qe au (Zz (Qc (eC (.int 1)) (Qc (eC (.int 0)) (Qk)))) (QA uH (Qc (Qe aX (Qe au (Qa 6) (eC (.int 0))) (eC (.int 0))) (Qk)))))) (Q5 (Zk "list" QY (Qa 2) (Qc (ZK (Qc (eC (.str "parts")) (Qc (Qa 5) (Qk)))) (Qk)))) (Zn)) (Qv (aN (cG (eB (Qe bC (Qe isD (Qe au (Qa 6) (eC (.int 3))) (eC .non)) (Qe isD (Qe au (Qa 6) (eC (.int 4))) (eC .non)))) (eB (Qe bC (Qe au (Qa 6) (eC (.int 4))) (Qa 8)))) (Q5 (Zk "list" QY (Qa 2) (Qc (ZK (Qc (eC (.str "links")) (Qc (Qa 5) (Qk)))) (Qk)))) (Zn)) (aN (eB (Qe bW (Qe QP (Qa 3) (eC (.int 1))) (QA QV (Qc (Qa 1) (Qk))))) (qD) (Zn))))))))))
def Va:aD:=ZN (cg (Yp (Qc (QA QV (Qc (Qe au (Qa 1) (Qa 3)) (Qk))) (Qk)))) (gN 4) (XL)
def qW:aD:=Va
def Vb:aD:=ZN (cg (Yp (Qc (QA QV (Qc (Qa 1) (Qk))) (Qk)))) (gN 3) (qW)
def KH:aD:=Qv (Qx 2 (Zu (Qk))) (Qv (Vb) (Zc (Qa 2)))
def Xr:List DV->M DV:=Zv 10 KH
abbrev V0:Stmt:=top 40
def jP:aD:=Qv (Q5 (Zk "list" QY (Qa 6) (Qc (Qa 4) (Qk)))) (Qv (Q5 (Zk "list" QY (Qa 3) (Qc (Qa 4) (Qk)))) (Qx 4 (Qe au (Qe au (Qa 0) (Qa 4)) (eC (.int 4)))))
def js:aD:=Z7 (Jx (eB (Qe Xt (Qa 4) (eC .non))) (Jx (eB (Qe cW (eC (.int 0)) (Qa 4))) (Jx (eB (Qe bW (Qa 4) (QA QV (Qc (Qa 0) (Qk))))) (eB (Qe XO (Qa 4) (Qa 3)))))) (jP) 100000
def Y6:aD:=Qv (Qx 6 (Zu (Qk))) (Qv (js) (Qv (Q5 (Zk "list" QY (Qa 2) (Qc (Qa 6) (Qk)))) (Qv (Qx 4 (eC .non)) (aN (Jx (eB (Qe bC (Qa 6) (Zz (Qk)))) (eB (Qe bC (Qe au (Qe au (Qa 0) (Qe au (Qa 6) (eC (.int 0)))) (eC (.int 2))) (ZK (Qk))))) (Qx 4 (Qe au (Qe au (Qe au (Qa 0) (Qe au (Qa 6) (eC (.int 0)))) (eC (.int 2))) (eC (.int 0)))) (Zn)))))
def Kt:aD:=ZN (cg (Yp (Qc (Qe QP (Qe au (Qe au (Qa 0) (Qa 1)) (eC (.int 0))) (eC (.int 1))) (Qk)))) (gN 5) (Y6)
def uj:aD:=Qv (Qx 2 (Zu (Qk))) (Qv (Qx 3 (Zu (Qk))) (Qv (Qx 4 (Qa 1)) (Qv (Kt) (Zc (Qa 2)))))
def YU:List DV->M DV:=Zv 7 uj
abbrev Xh:Stmt:=Y5 (top 27) 12
def J7:aD:=aN (XF (eB (qN cW bW (eC (.int 0)) (Qa 1) (QA QV (Qc (jK "Shelf" "kept" (Qa 0)) (Qk)))))) (wJ) (Zn)
def ZG:List DV->M DV:=Zv 2 J7
abbrev Yc:Stmt:=Y5 (top 27) 5
def X5:aD:=Qv (Q5 (Z9 "Shelf" "check_number" 2 ZG (Qa 0) (Qc (Qa 1) (Qk)))) (qo "Shelf" "top" (Qa 0) (Qa 1))
def Jk:List DV->M DV:=Zv 2 X5
abbrev zR:Stmt:=Y5 (top 27) 2
def zN:aD:=Qv (Q5 (Z9 "Shelf" "check_number" 2 ZG (Qa 0) (Qc (Qa 1) (Qk)))) (Qv (yo "Shelf" "write_count" Kx (Qa 0) (eC (.int 1))) (JX (Qa 2) (dW (jK "Shelf" "kept" (Qa 0)) (Qa 1))))
def JY:List DV->M DV:=Zv 3 zN
abbrev yp:Stmt:=Y5 (top 27) 3
def yc:aD:=Qv (yo "Shelf" "write_count" Kx (Qa 0) (eC (.int 1))) (Qv (Q5 (Zk "list" QY (jK "Shelf" "kept" (Qa 0)) (Qc (Qa 1) (Qk)))) (Zc (Qe Jj (QA QV (Qc (jK "Shelf" "kept" (Qa 0)) (Qk))) (eC (.int 1)))))
def XX:List DV->M DV:=Zv 2 yc
abbrev YN:Stmt:=Y5 (top 27) 0
def YB:aD:=Qv (qo "Shelf" "page_room" (Qa 0) (Qa 1)) (Qv (qo "Shelf" "kept" (Qa 0) (Zu (Qc (eC (.tup [.int 0,.tup [],.tup [],.non,.non])) (Qk)))) (Qv (qo "Shelf" "top" (Qa 0) (eC (.int 0))) (Qv (qo "Shelf" "read_count" (Qa 0) (eC (.int 0))) (qo "Shelf" "write_count" (Qa 0) (eC (.int 0))))))
def Z5:List DV->M DV:=Zv 2 YB
abbrev yw:Stmt:=top 36
def zQ:aD:=Q5 (Z9 "Shelf" "lay" 2 XX (Qa 2) (Qc (Qe au (Qa 0) (Qa 3)) (Qk)))
def Up:aD:=ZN (cg (uF (Qc (eC (.int 1)) (Qc (QA QV (Qc (Qa 0) (Qk))) (Qk))))) (gN 3) (zQ)
def GN:aD:=Qv (Qx 2 (jL "Shelf" 2 Z5 (Qc (eC (.int 8)) (Qk)))) (Qv (Up) (Qv (Q5 (Z9 "Shelf" "write" 3 JY (Qa 2) (Qc (eC (.int 0)) (Qc (Qe au (Qa 0) (eC (.int 0))) (Qk))))) (Qv (Q5 (Z9 "Shelf" "make_root" 2 Jk (Qa 2) (Qc (Qa 1) (Qk)))) (Zc (Qa 2)))))
def X4:List DV->M DV:=Zv 4 GN
abbrev zS:Stmt:=top 29
def Yj:aD:=Qv (aN (eB (Qe bW (Qa 1) (QA VF (Qc (Qa 0) (Qk))))) (Zc (Qe eV (Qa 0) (Qa 1))) (Zn)) (Zc (eC (.int 0)))
def Zj:List DV->M DV:=Zv 2 Yj
abbrev yu:Stmt:=top 30
def GL:aD:=Qv (Qx 2 (Qe Za (Qe QP (Qe Za (Qa 0) (eC (.int 982451653))) (Qe qY (eC (.int 7368787)) (Qe QP (Qa 1) (eC (.int 1))))) (eC (.int 982451653)))) (Qv (Qx 2 (Qe QP (Qe Za (Qe qY (Qa 2) (Qa 2)) (eC (.int 982451653))) (Qe qY (eC (.int 3)) (Qa 1)))) (Zc (Qe Za (Qe qY (Qa 2) (Qe QP (Qa 2) (eC (.int 15485863)))) (eC (.int 899809343)))))
def QH:List DV->M DV:=Zv 3 GL
abbrev XU:Stmt:=top 38
def jb:aD:=Qv (aN (eB (Qe aX (Qa 0) (ZK (Qk)))) (Zc (ZK (Qc (Qe Jj (Qe Za (Qa 2) (Qe QP (Qa 1) (eC (.int 2)))) (eC (.int 1))) (Qk)))) (Zn)) (Qv (Qx 3 (Qe Za (Qe Xb (Qa 2) (eC (.int 4))) (QA QV (Qc (Qa 0) (Qk))))) (Qv (aN (eB (Qe aX (Qe Za (Qa 2) (eC (.int 4))) (eC (.int 0)))) (Zc (Qe QP (bL (Qa 0) (Zb) (QX (Qa 3))) (bL (Qa 0) (QX (Qe QP (Qa 3) (eC (.int 1)))) (Zb)))) (Zn)) (Qv (aN (eB (Qe aX (Qe Za (Qa 2) (eC (.int 4))) (eC (.int 1)))) (Zc (Qe QP (Qe QP (bL (Qa 0) (Zb) (QX (Qa 3))) (ZK (Qc (Qe au (Qa 0) (Qa 3)) (Qk)))) (bL (Qa 0) (QX (Qa 3)) (Zb)))) (Zn)) (Zc (Qe QP (Qe QP (bL (Qa 0) (Zb) (QX (Qa 3))) (ZK (Qc (Qe Jj (Qe Za (Qe Xb (Qa 2) (eC (.int 100))) (Qe QP (Qa 1) (eC (.int 2)))) (eC (.int 1))) (Qk)))) (bL (Qa 0) (QX (Qe QP (Qa 3) (eC (.int 1)))) (Zb)))))))
def Jc:List DV->M DV:=Zv 4 jb
abbrev Yd:Stmt:=top 37
def jx:aD:=Qv (aN (eB (Qe aX (Qa 0) (ZK (Qk)))) (Zc (ZK (Qc (Qe Jj (Qe Za (Qa 1) (eC (.int 9))) (eC (.int 4))) (Qk)))) (Zn)) (Qv (Qx 2 (Qe Za (Qe Xb (Qa 1) (eC (.int 5))) (QA QV (Qc (Qa 0) (Qk))))) (Qv (aN (eB (Qe aX (Qe Za (Qa 1) (eC (.int 5))) (eC (.int 0)))) (Zc (Qe QP (bL (Qa 0) (Zb) (QX (Qa 2))) (bL (Qa 0) (QX (Qe QP (Qa 2) (eC (.int 1)))) (Zb)))) (Zn)) (Qv (aN (eB (Qe aX (Qe Za (Qa 1) (eC (.int 5))) (eC (.int 1)))) (Zc (Qe QP (Qe QP (bL (Qa 0) (Zb) (QX (Qa 2))) (ZK (Qc (Qe au (Qa 0) (Qa 2)) (Qk)))) (bL (Qa 0) (QX (Qa 2)) (Zb)))) (Zn)) (Qv (aN (eB (Qe aX (Qe Za (Qa 1) (eC (.int 5))) (eC (.int 2)))) (Zc (Qe QP (Qe QP (bL (Qa 0) (Zb) (QX (Qa 2))) (ZK (Qc (Qe QP (Qe au (Qa 0) (Qa 2)) (Qe au (Zz (Qc (eC (.int 1)) (Qc (ZV (eC (.int 1))) (Qc (Qe Yt (eC (.int 10)) (eC (.int 29))) (Qk))))) (Qe Za (Qe Xb (Qa 1) (eC (.int 25))) (eC (.int 3))))) (Qk)))) (bL (Qa 0) (QX (Qe QP (Qa 2) (eC (.int 1)))) (Zb)))) (Zn)) (Qv (aN (eB (Qe aX (Qe Za (Qa 1) (eC (.int 5))) (eC (.int 3)))) (Zc (yQ (Qa 0))) (Zn)) (Zc (Qe QP (Qa 0) (ZK (Qc (Qe QP (Qe au (Qa 0) (ZV (eC (.int 1)))) (eC (.int 1))) (Qk))))))))))
def Jl:List DV->M DV:=Zv 3 jx
abbrev Ye:Stmt:=top 39
def jy:aD:=Qv (JX (Qa 0) (gT [5,6,7,8,9])) (Qv (Qx 4 (Qe Za (Qe au (Qa 3) (eC (.int 0))) (eC (.int 6)))) (Qv (aN (eB (Qe aX (Qa 4) (eC (.int 0)))) (Zc (ZK (Qc (Qe Za (Qe au (Qa 3) (eC (.int 1))) (eC (.int 5))) (Qc (Qa 6) (Qc (Qa 7) (Qc (Qa 8) (Qc (Qa 9) (Qk)))))))) (Zn)) (Qv (aN (eB (Qe aX (Qa 4) (eC (.int 1)))) (Zc (ZK (Qc (Qa 5) (Qc (Qw 2 Jl (Qc (Qa 6) (Qc (Qe au (Qa 3) (eC (.int 1))) (Qk)))) (Qc (Qa 7) (Qc (Qa 8) (Qc (Qa 9) (Qk)))))))) (Zn)) (Qv (aN (eB (Qe bW (Qa 4) (eC (.int 4)))) (Zc (ZK (Qc (Qa 5) (Qc (Qa 6) (Qc (Qw 3 Jc (Qc (Qa 7) (Qc (Qa 2) (Qc (Qe au (Qa 3) (eC (.int 1))) (Qk))))) (Qc (Qa 8) (Qc (Qa 9) (Qk)))))))) (Zn)) (Qv (aN (Jx (eB (Qe aX (Qa 4) (eC (.int 4)))) (Jx (eB (Qe Xt (Qa 8) (eC .non))) (eB (Qe cR (Qe Za (Qe au (Qa 3) (eC (.int 1))) (eC (.int 3))) (eC (.int 0)))))) (Zc (ZK (Qc (Qa 5) (Qc (Qa 6) (Qc (Qa 7) (Qc (QA ou (Qc (ZV (Qe Yt (eC (.int 10)) (eC (.int 30)))) (Qc (Qe QP (Qa 8) (Qe au (Zz (Qc (eC (.int 1)) (Qc (ZV (eC (.int 1))) (Qc (ZV (Qe Yt (eC (.int 10)) (eC (.int 29)))) (Qc (Qe Yt (eC (.int 10)) (eC (.int 29))) (Qk)))))) (Qe Za (Qe Xb (Qe au (Qa 3) (eC (.int 1))) (eC (.int 3))) (eC (.int 4))))) (Qk)))) (Qc (Qa 9) (Qk)))))))) (Zn)) (Qv (aN (eB (Qe aX (Qa 4) (eC (.int 4)))) (Zc (ZK (Qc (Qa 5) (Qc (Qa 6) (Qc (Qa 7) (Qc (Qe au (Zz (Qc (eC .non) (Qc (ZV (Qe Yt (eC (.int 10)) (eC (.int 30)))) (Qc (Qe Yt (eC (.int 10)) (eC (.int 30))) (Qk))))) (Qe Za (Qe au (Qa 3) (eC (.int 1))) (eC (.int 3)))) (Qc (Qa 9) (Qk)))))))) (Zn)) (Zc (ZK (Qc (Qa 5) (Qc (Qa 6) (Qc (Qa 7) (Qc (Qa 8) (Qc (Qe au (Zz (Qc (eC .non) (Qc (Qa 1) (Qc (Qe Za (Qe Xb (Qe au (Qa 3) (eC (.int 1))) (eC (.int 4))) (Qa 2)) (Qc (Qe au (Zz (Qc (Qa 2) (Qc (ZV (eC (.int 1))) (Qk)))) (Qe Za (Qe Xb (Qe au (Qa 3) (eC (.int 1))) (eC (.int 4))) (eC (.int 2)))) (Qk)))))) (Qe Za (Qe au (Qa 3) (eC (.int 1))) (eC (.int 4)))) (Qk))))))))))))))
def Jm:List DV->M DV:=Zv 10 jy
abbrev zT:Stmt:=top 34
def ql:aD:=Q5 (Zk "list" J4 (Qa 2) (Qc (Qe Za (Qw 2 QH (Qc (Qa 0) (Qc (Qe QP (eC (.int 700)) (Qa 3)) (Qk)))) (Qe QP (Qa 3) (eC (.int 1)))) (Qc (Qa 3) (Qk))))
def yy:aD:=ZN (cg (Yp (Qc (Qa 1) (Qk)))) (gN 3) (ql)
def Uq:aD:=Qv (Qx 2 (Zu (Qk))) (Qv (yy) (Zc (Qa 2)))
def JZ:List DV->M DV:=Zv 4 Uq
abbrev yv:Stmt:=top 33
def Yg:aB:=ZQ false (cH (jM (Qa 7) (QX (eC (.int 1))) (Zb))) [0] (qw) (Qe au (Qe au (Qa 1) (Qa 0)) (eC (.int 0)))
def Yq:aD:=aN (eB (Qe cR (Qe Za (Qw 2 QH (Qc (Qa 1) (Qc (Qe QP (Qe QP (eC (.int 200)) (Qe qY (eC (.int 90)) (Qa 2))) (Qa 8)) (Qk)))) (eC (.int 5))) (eC (.int 0)))) (Q5 (Zk "list" QY (Qa 7) (Qc (Qa 8) (Qk)))) (Zn)
def zM:aD:=ZN (cg (uF (Qc (Qe QP (Qa 4) (eC (.int 1))) (Qc (QA n_ (Qc (Qe QP (Qa 4) (Qa 6)) (Qc (QA QV (Qc (Qa 0) (Qk))) (Qk)))) (Qk))))) (gN 8) (Yq)
def Yr:aD:=Qv (Qx 6 (Qe QP (eC (.int 2)) (Qe Za (Qw 2 QH (Qc (Qa 1) (Qc (Qe QP (Qe QP (eC (.int 50)) (Qe qY (eC (.int 7)) (Qa 2))) (Qa 4)) (Qk)))) (Qa 5)))) (Qv (Qx 7 (Zu (Qc (Qa 4) (Qk)))) (Qv (zM) (Qv (Q5 (Zk "list" QY (Qa 3) (Qc (Zz (Qc (Qe au (Qe au (Qa 0) (Qa 4)) (eC (.int 0))) (Qc (QA yL (Qc (Yg) (Qk))) (Qc (Qa 7) (Qk))))) (Qk)))) (Qx 4 (Qe QP (Qa 4) (Qa 6))))))
def Uo:aD:=Z7 (eB (Qe bW (Qa 4) (QA QV (Qc (Qa 0) (Qk))))) (Yr) 100000
def GM:aD:=Qv (Qx 3 (Zu (Qk))) (Qv (Qx 4 (eC (.int 0))) (Qv (Qx 5 (Qe au (Zz (Qc (eC (.int 3)) (Qc (eC (.int 8)) (Qk)))) (QA uH (Qc (Qe aX (Qe Za (Qw 2 QH (Qc (Qa 1) (Qc (eC (.int 49)) (Qk)))) (eC (.int 4))) (eC (.int 0))) (Qk))))) (Qv (Uo) (Zc (Qa 3)))))
def XZ:List DV->M DV:=Zv 9 GM
abbrev VZ:Stmt:=top 31
def jO:aD:=Qv (Qx 3 (Qe QP (eC (.int 1)) (Qe Za (Qw 2 QH (Qc (Qa 2) (Qc (eC (.int 1)) (Qk)))) (eC (.int 3))))) (Qv (aN (eB (Qe aX (Qe Za (Qw 2 QH (Qc (Qa 2) (Qc (eC (.int 2)) (Qk)))) (eC (.int 4))) (eC (.int 0)))) (Qx 3 (Qe QP (eC (.int 1)) (Qe qY (Qw 2 QH (Qc (Qa 2) (Qc (eC (.int 3)) (Qk)))) (Qe Yt (eC (.int 10)) (eC (.int 19)))))) (Zn)) (Q5 (Zk "list" QY (Qa 1) (Qc (Qe QP (Qe au (Qa 1) (ZV (eC (.int 1)))) (Qa 3)) (Qk)))))
def Ks:aD:=ZN (cH (Qa 0)) (gN 2) (jO)
def uh:aD:=Qv (Qx 1 (Zu (Qc (ZV (Qe Yt (eC (.int 10)) (eC (.int 30)))) (Qk)))) (Qv (Ks) (Zc (Qa 1)))
def XA:List DV->M DV:=Zv 4 uh
abbrev xj:Stmt:=top 32
def Xz:aB:=ZQ false (cH (Qe au (Qa 2) (Qa 0))) [] (qw) (Qe au (Qa 0) (eC (.int 0)))
def qz:aB:=ZQ true (cg (Yp (Qc (QA QV (Qc (Qa 2) (Qk))) (Qk)))) [2,3] (qw) (Zz (Qc (Qe au (Qa 1) (Qa 0)) (Qc (QA yL (Qc (Xz) (Qk))) (Qc (Qe au (Qa 2) (Qa 0)) (Qk)))))
def qX:aD:=Qv (aN (eB (Qe aX (Qe Za (Qw 2 QH (Qc (Qa 4) (Qc (eC (.int 4)) (Qk)))) (eC (.int 4))) (eC (.int 0)))) (Qv (Q5 (Zk "list" QY (Qa 2) (Qc (Qa 5) (Qk)))) (Q5 (Zk "list" QY (Qa 3) (Qc (Zu (Qk)) (Qk))))) (Zn)) (aN (eB (Qe cR (Qe Za (Qw 2 QH (Qc (Qa 4) (Qc (eC (.int 5)) (Qk)))) (eC (.int 5))) (eC (.int 0)))) (Q5 (Zk "list" QY (Qe au (Qa 3) (ZV (eC (.int 1)))) (Qc (ZK (Qc (Qa 5) (Qc (Qe Jj (Qe Za (Qw 2 QH (Qc (Qa 4) (Qc (eC (.int 6)) (Qk)))) (eC (.int 9))) (eC (.int 4))) (Qk)))) (Qk)))) (Zn))
def qE:aD:=ZN (oH (Qa 0) (jM (Qa 1) (QX (eC (.int 1))) (Zb))) (gT [4,5]) (qX)
def KI:aD:=Qv (Qx 2 (Zu (Qc (eC .non) (Qk)))) (Qv (Qx 3 (Zu (Qc (Zu (Qk)) (Qk)))) (Qv (qE) (Zc (qz))))
def JI:List DV->M DV:=Zv 6 KI
abbrev V1:Stmt:=top 35
def jr:aB:=ZQ true (cg (Yp (Qc (QA QV (Qc (Qa 6) (Qk))) (Qk)))) [6] (qw) (Qe au (Qa 1) (Qa 0))
def YQ:aB:=ZQ false (cH (Qa 14)) [] (qw) (Qe au (Qa 0) (eC (.int 1)))
def YR:aB:=ZQ false (cH (Qa 14)) [4,7] (qw) (Qe au (Qe au (Qa 1) (Qe Jj (Qa 2) (eC (.int 1)))) (Qa 0))
def Y7:aD:=Qv (JX (Qe au (Qe au (Qa 2) (Qa 7)) (Qa 8)) (pL [12,13,14])) (Qv (Qx 9 (dG (eB (Qe aX (Qa 7) (eC (.int 0)))) (QA yL (Qc (YQ) (Qk))) (QA yL (Qc (YR) (Qk))))) (Qv (Qx 10 (eC .non)) (Qv (Qx 11 (eC .non)) (Qv (aN (eB (Qe bW (Qe QP (Qa 8) (eC (.int 1))) (QA QV (Qc (Qe au (Qa 2) (Qa 7)) (Qk))))) (Qv (Qx 10 (Qe au (Qe au (Qe au (Qa 2) (Qa 7)) (Qe QP (Qa 8) (eC (.int 1)))) (eC (.int 0)))) (Qx 11 (Qe au (Qe au (Qa 4) (Qa 7)) (Qe QP (Qa 8) (eC (.int 1)))))) (Zn)) (JX (ZK (Qc (Qa 7) (Qc (Qa 13) (Qc (Qa 9) (Qc (Qa 10) (Qc (Qa 11) (Qk))))))) (dW (Qa 6) (Qe au (Qe au (Qa 4) (Qa 7)) (Qa 8))))))))
def jt:aD:=ZN (cg (Yp (Qc (QA QV (Qc (Qe au (Qa 2) (Qa 7)) (Qk))) (Qk)))) (gN 8) (Y7)
def jQ:aD:=jt
def ju:aD:=ZN (cg (Yp (Qc (QA QV (Qc (Qa 2) (Qk))) (Qk)))) (gN 7) (jQ)
def jR:aD:=Qv (Q5 (Zk "list" QY (Qa 4) (Qc (jM (Qa 3) (Zb) (QX (QA QV (Qc (Qa 5) (Qk))))) (Qk)))) (Qx 3 (jM (Qa 3) (QX (QA QV (Qc (Qa 5) (Qk)))) (Zb)))
def jv:aD:=ZN (cH (Qa 2)) (gN 5) (jR)
def YS:aB:=ZQ false (cH (Qa 2)) [] (qw) (QA QV (Qc (Qa 0) (Qk)))
def jS:aD:=Q5 (Zk "list" QY (Qa 2) (Qc (Qw 3 XZ (Qc (Qe au (Qa 2) (ZV (eC (.int 1)))) (Qc (Qw 2 Zj (Qc (Qa 0) (Qc (eC (.int 1)) (Qk)))) (Qc (QA QV (Qc (Qa 2) (Qk))) (Qk))))) (Qk)))
def Ku:aD:=Z7 (eB (Qe cR (QA QV (Qc (Qe au (Qa 2) (ZV (eC (.int 1)))) (Qk))) (eC (.int 1)))) (jS) 100000
def ul:aD:=Qv (Qx 1 (bL (Qa 0) (QX (eC (.int 2))) (QX (eC (.int 102))))) (Qv (Qx 2 (Zu (Qc (Qw 2 JI (Qc (Qa 1) (Qc (Qw 1 XA (Qc (Qa 1) (Qk))) (Qk)))) (Qk)))) (Qv (Ku) (Qv (Qx 3 (Qw 2 JZ (Qc (Qw 2 Zj (Qc (Qa 0) (Qc (eC (.int 0)) (Qk)))) (Qc (QA oE (Qc (YS) (Qk))) (Qk))))) (Qv (Qx 4 (Zu (Qk))) (Qv (jv) (Qv (Qx 6 (XE)) (Qv (ju) (Zc (ZK (Qc (Qa 4) (Qc (jr) (Qk))))))))))))
def XB:List DV->M DV:=Zv 15 ul
abbrev yt:Stmt:=top 46
def kP:aD:=Q5 (Zk "list" Gf (Qa 14) Qk)
def Sy:aD:=ZN (cH (Qa 12)) (gN 14) (kP)
def Gb:aD:=Qv (Qx 12 (Zz (Qc (Qw 1 qA (Qc (Qa 3) (Qk))) (Qc (Qw 1 Yy (Qc (Qa 3) (Qk))) (Qc (Qw 1 qB (Qc (Qa 3) (Qk))) (Qk)))))) (Qv (Qx 13 (Qw 1 YT (Qc (Qa 3) (Qk)))) (Qv (aN (cG (eB (Qe bC (Qa 12) (Zz (Qc (Qa 4) (Qc (Qa 5) (Qc (Qa 6) (Qk))))))) (cG (XF (eB (lY "bool" (Qa 13)))) (eB (Qe bC (Qa 13) (Qe aX (Qa 5) (Zz (Qk))))))) (Zc (eC (.bl false))) (Zn)) (Sy)))
def Sx:aD:=ZN (cg (Yp (Qc (eC (.int 2)) (Qk)))) (gN 7) (Gb)
def gz:aB:=ZQ false (cg (Yp (Qc (eC (.int 3)) (Qk)))) [0,2] (qw) (Qw 2 QH (Qc (Qw 2 Zj (Qc (Qa 1) (Qc (eC (.int 3)) (Qk)))) (Qc (Qe QP (Qe qY (eC (.int 3)) (Qa 2)) (Qa 0)) (Qk))))
def kQ:aD:=Qv (Qx 10 (gz)) (Qv (Qx 11 (Qe Za (Qe au (Qa 10) (eC (.int 2))) (QA QV (Qc (Qa 9) (Qk))))) (JX (Qw 4 Jm (Qc (Qe au (Qa 9) (Qa 11)) (Qc (Qa 11) (Qc (QA QV (Qc (Qa 9) (Qk))) (Qc (Qa 10) (Qk)))))) (dW (Qa 9) (Qa 11))))
def gE:aD:=ZN (cg (Yp (Qc (Qe QP (eC (.int 1)) (Qe Za (Qw 2 QH (Qc (Qw 2 Zj (Qc (Qa 0) (Qc (eC (.int 2)) (Qk)))) (Qc (eC (.int 0)) (Qk)))) (eC (.int 4)))) (Qk)))) (gN 2) (kQ)
def Nk:aD:=Qv (JX (Qw 1 XB (Qc (Qe QP (bL (Qa 0) (Zb) (QX (eC (.int 2)))) (bL (Qa 0) (QX (eC (.int 4))) (Zb))) (Qk))) (gT [8,9])) (Qv (Qx 1 (Qe au (Qe au (Qa 8) (ZV (eC (.int 1)))) (eC (.int 0)))) (Qv (gE) (Qv (Qx 3 (Qw 2 X4 (Qc (Qa 9) (Qc (Qa 1) (Qk))))) (Qv (Qx 4 (Qw 2 YU (Qc (Qa 9) (Qc (Qa 1) (Qk))))) (Qv (Qx 5 (Qw 2 Xr (Qc (Qa 9) (Qc (Qa 4) (Qk))))) (Qv (Qx 6 (Qw 2 JJ (Qc (Qa 9) (Qc (Qa 4) (Qk))))) (Qv (Sx) (Zc (Qw 3 JK (Qc (Qa 3) (Qc (Qa 9) (Qc (Qe au (Qa 4) (ZV (eC (.int 1)))) (Qk)))))))))))))
def GF:List DV->M DV:=Zv 15 Nk
structure Al(K:Aa)(mg:Cg):Prop where
 z0:mg "len" = none
 z1:mg "list" = none
 z2:mg "zip" = none
 z3:mg "range" = none
 z4:mg "all" = none
 z5:mg "int" = none
 z6:mg "tuple" = none
 z7:mg "reversed" = none
 z8:mg "max" = none
 z9:mg "min" = none
 aY:mg "sum" = none
 aR:mg "isinstance" = none
 cL:mg "bool" = none
 g0:UG mg "PARTS" 2
 g1:UG mg "SIDE" 4
 g2:UG mg "LEVEL" 0
 g3:UG mg "KEYS" 1
 g4:UG mg "HIGH" 3
 t0:UT K mg "EMPTY_LEAF" (.tup [.int 0,.tup [],.tup [],.non,.non])
 k0:Kr K "Shelf" "top"
 k1:Kr K "Shelf" "kept"
 k2:Kr K "Shelf" "write_count"
 k3:Kr K "Shelf" "read_count"
 k4:Kr K "Shelf" "page_room"
 u0:UM K "Shelf" "root" "Shelf.root" xf
 u1:UF K mg "first_kid" yr
 u2:UF K mg "side_run" V2
 u3:UF K mg "level_lists" zU
 u4:UM K "Shelf" "picture" "Shelf.picture" qr
 u5:UF K mg "table_of" V3
 u6:UF K mg "_law_table_right" Yf
 u7:UF K mg "kid_faults" xh
 u8:UF K mg "wanted_parts" zj
 u9:UF K mg "is_ordered" xg
 D_:UF K mg "page_faults" zX
 DY:UF K mg "begins_of" yq
 DR:UF K mg "list_faults" zW
 DQ:UF K mg "faults" vz
 DP:UF K mg "is_sound" VY
 DN:UF K mg "kids_of" Ki
 u16:UF K mg "untold" vB
 DK:UF K mg "levels" vA
 DG:UF K mg "_law_left_out" zi
 Dz:UF K mg "_law_kid_wrong" qt
 Dy:UF K mg "_law_out_of_order" XT
 Dw:UF K mg "_law_faults" xi
 Dv:UF K mg "_law_rows" V0
 Du:UM K "Shelf" "check_number" "Shelf.check_number" Xh
 Dt:UM K "Shelf" "make_root" "Shelf.make_root" Yc
 Ds:UM K "Shelf" "write" "Shelf.write" zR
 Dr:UM K "Shelf" "lay" "Shelf.lay" yp
 Dq:UI K mg "Shelf" "Shelf.__init__" YN
 Dm:UF K mg "_law_shelf" yw
 Dl:UF K mg "_law_cell_at" zS
 Dk:UF K mg "_law_dealt" yu
 Dj:UF K mg "_law_parts_spoilt" XU
 u32:UF K mg "_law_keys_spoilt" Yd
 Di:UF K mg "_law_page_spoilt" Ye
 Dh:UF K mg "_law_numbers" zT
 Dg:UF K mg "_law_forks" yv
 Df:UF K mg "_law_keys" VZ
 Dd:UF K mg "_law_leaves" xj
 Dc:UF K mg "_law_tree" V1
def UH:QD ["self"] ["self"] (Qr xf):=Zq
def Gw:QD ["pages", "numbers"] ["pages", "numbers"] (Qr yr):=Zq
def vG:QD ["pages", "leftmost", "listed", "numbers", "number"] ["pages", "leftmost", "listed"] (Qr V2):=Zq
def V7:QD ["pages", "root", "lists", "listed", "leftmost", "numbers"] ["pages", "root"] (Qr zU):=Zq
def xW:QD ["self"] ["self"] (Qr qr):=Zq
def vH:QD ["shelf", "pages", "table", "number"] ["shelf"] (Qr V3):=Zq
def jo:QD ["shelf", "pages", "row", "pairs", "number"] ["shelf", "pages", "row"] (Qr Yf):=Zq
def UK:QD ["number", "page", "begin", "kid_begins", "kids", "wanted", "told", "place", "kid"] ["number", "page", "begin", "kid_begins"] (Qr xh):=Zq
def yK:QD ["page"] ["page"] (Qr zj):=Zq
def UJ:QD ["page", "begin", "keys", "high"] ["page", "begin"] (Qr xg):=Zq
def V9:QD ["number", "page", "level", "begin", "follower", "told"] ["number", "page", "level", "begin", "follower"] (Qr zX):=Zq
def Gv:QD ["pages", "numbers", "begins", "begin", "number"] ["pages", "numbers"] (Qr yq):=Zq
def V8:QD ["pages", "numbers", "level", "beneath", "begins", "kid_begins", "told", "place", "number", "page", "follower"] ["pages", "numbers", "level", "beneath"] (Qr zW):=Zq
def Mc:QD ["shelf", "pages", "lists", "told", "place", "level", "beneath"] ["shelf"] (Qr vz):=Zq
def vC:QD ["shelf"] ["shelf"] (Qr VY):=Zq
def gk:QD ["pages", "numbers", "kids", "number", "kid"] ["pages", "numbers"] (Qr Ki):=Zq
def WZ:QD ["shelf", "pages", "lists", "told", "place", "kids"] ["shelf"] (Qr vB):=Zq
def Mb:QD ["shelf"] ["shelf"] (Qr vA):=Zq
def yJ:QD ["pages", "rows", "found", "depth", "kids", "number"] ["pages", "rows"] (Qr zi):=Zq
def xX:QD ["pages", "page", "place", "ahead", "beneath", "kid", "at", "bound"] ["pages", "page", "place", "ahead", "beneath"] (Qr qt):=Zq
def zJ:QD ["page", "ahead", "wrong", "k", "level", "keys", "parts", "high", "side"] ["page", "ahead"] (Qr XT):=Zq
def UL:QD ["pages", "rows", "found", "depth", "at", "number", "page", "ahead", "behind", "place"] ["pages", "rows"] (Qr xi):=Zq
def vE:QD ["pages", "root", "rows", "seen", "first", "level", "row"] ["pages", "root"] (Qr V0):=Zq
def qv:QD ["self", "number"] ["self", "number"] (Qr Xh):=Zq
def jk:QD ["self", "number"] ["self", "number"] (Qr Yc):=Zq
def V4:QD ["self", "number", "page"] ["self", "number", "page"] (Qr zR):=Zq
def Gu:QD ["self", "page"] ["self", "page"] (Qr yp):=Zq
def xk:QD ["self", "room"] ["self", "room"] (Qr YN):=Zq
def Gz:QD ["pages", "root", "shelf", "k"] ["pages", "root"] (Qr yw):=Zq
def V5:QD ["script", "k"] ["script", "k"] (Qr zS):=Zq
def Gx:QD ["cell", "k", "stir"] ["cell", "k"] (Qr yu):=Zq
def zL:QD ["parts", "many", "x", "at"] ["parts", "many", "x"] (Qr XU):=Zq
def jm:QD ["keys", "x", "at"] ["keys", "x"] (Qr Yd):=Zq
def jn:QD ["page", "number", "many", "xs", "kind", "level", "keys", "parts", "high", "side"] ["page", "number", "many", "xs"] (Qr Ye):=Zq
def V6:QD ["cell", "many", "found", "k"] ["cell", "many"] (Qr zT):=Zq
def Gy:QD ["row", "cell", "level", "found", "at", "wide", "size", "kids", "k"] ["row", "cell", "level"] (Qr yv):=Zq
def vD:QD ["cells", "keys", "cell", "gap"] ["cells"] (Qr VZ):=Zq
def UN:QD ["cells", "keys", "begins", "pairs", "cell", "key"] ["cells", "keys"] (Qr xj):=Zq
def vF:QD ["script", "cells", "rows", "numbers", "named", "row", "pages", "level", "k", "parts", "high", "side", "begin", "keys", "some"] ["script"] (Qr V1):=Zq
def fM:QD ["script", "root", "k", "shelf", "rows", "due", "left", "turn", "named", "pages", "xs", "number", "told", "sound", "some"] ["script"] (Qr yt):=Zq
section
variable{P:Program}{w:World}{K:Aa}{mg:Cg}{O8:Heap}(Z:Al K mg)
include Z
def JP:Ul P w K mg O8 "Shelf" "root" 1 1 Ja:=hM Z.u0 UH λs _ _ _ _ _ _ _ a=>Qo (QK (xw Z.k0 (Qb 0)))
def Ux:Has P w K mg O8 "first_kid" 1 2 J6:=hf Z.u1 Gw λs _ _ _ _ _ _ _ a=>Qh (Zm (DW.pt (ye (qL (BR (Qb 1))) (xC (qL (BR (Qn (Qq a) (Qn (Qq a) (Qb 0) (Qn (Qq a) (Qb 1) Ql)) (JG Z.g0))))))) (Qo (QK ZB)) QO) (Qo (QK (Qn (Qq a) (Qn (Qq a) (Qn (Qq a) (Qb 0) (Qn (Qq a) (Qb 1) Ql)) (JG Z.g0)) Ql)))
theorem K1:Has P w K mg O8 "side_run" 1 3 YV:=hf Z.u2 vG λs _ _ _ _ _ _ _ a=>Qh (Qu 3 s (Zg Qj)) (Qh (Qu 4 s (Qb 1)) (Qh (qK 100000 PassesOwn.never (DW.pt (Yn (QJ jZ (Qb 4) ZB (Qy _)) (Yn (GX uV xQ Ql (Qb 4) (QS Q1 Z.z0 PySem.boot_len (Qd (Qb 0) Qj))) (zq (QJ (xR (Qq a)) (Qb 4) (Qb 2) (by with_unfolding_all rfl)))))) (Qh (Ym Vl (xy (Qq a) (Qb 2) (Qb 4))) (Qh (QT (Ze Q9 PySem.F.plainAttrs_list PySem.F.slot_list_append PySem.F.type_list_append (Qb 3) (Qd (Qb 4) Qj))) (Qo (Qu 4 s (Qn (Qq a) (Qn (Qq a) (Qb 0) (Qb 4)) (JG Z.g1))))))) (Qo (QK (Qb 3)))))
theorem JD:Has P w K mg O8 "level_lists" 2 2 Z1:=hf Z.u3 V7 λs _ _ _ _ _ _ _ a=>Qh (Qu 2 s (Zg Qj)) (Qh (Qu 3 s jH) (Qh (Qu 4 s (Qb 1)) (Qh (qK 100000 PassesOwn.never (QJ uV (QS Q1 Z.z0 PySem.boot_len (Qd (Qb 2) Qj)) (Qn (Qq a) (Qn (Qq a) (Qb 0) (Qb 1)) (JG Z.g2)) (Qy _)) (Qh (Qu 5 s (QF (K1 Z) a (by decide) QW (Qd (Qb 0) (Qd (Qb 4) (Qd (Qb 3) Qj))))) (Qh (QT (Ze Q9 PySem.F.plainAttrs_list PySem.F.slot_list_append PySem.F.type_list_append (Qb 2) (Qd (Qb 5) Qj))) (Qo (Qu 4 s (QF (Ux Z) a (by decide) QW (Qd (Qb 0) (Qd (Qb 5) Qj)))))))) (Qo (QK (Qb 2))))))
def Jp:Ul P w K mg O8 "Shelf" "picture" 1 1 ZX:=hM Z.u4 xW λs _ _ _ _ _ _ _ a=>Qo (QK (jI BX Z.z1 boot_list (Qd (xw Z.k1 (Qb 0)) Qj)))
theorem K2:Has P w K mg O8 "table_of" 3 1 zZ:=hf Z.u5 vH λs _ _ _ _ _ _ _ a=>Qh (Qu 1 s (J9 (Jp Z) a (by decide) QW (Qb 0))) (Qh (Qu 2 s (Zg Qj)) (Qh (Zi PassesOwn.never rfl (Je (Qn (Qq a) (QF (JD Z) a (by decide) QW (Qd (Qb 1) (Qd (J9 (JP Z) a (by decide) QW (Qb 0)) Qj))) (JE Ql))) (Zh 3 s) (Qo (QT (Ze Xg PySem.F.plainAttrs_list PySem.F.slot_list_extend PySem.F.type_list_extend (Qb 2) (Qd (kg Z.z1 Z.z2 rfl (Qn (Qq a) (Qn (Qq a) (Qb 1) (Qb 3)) (JG Z.g3)) (Qn (Qq a) (Qn (Qq a) (Qb 1) (Qb 3)) (JG Z.g0))) Qj))))) (Qo (QK (Qb 2)))))
theorem zI:Has P w K mg O8 "_law_table_right" 4 3 JK:=hf Z.u6 jo λs _ _ _ _ _ _ _ a=>Qh (Qu 3 s (Zg Qj)) (Qh (Zi PassesOwn.never rfl (Je (Qb 2)) (Zh 4 s) (Qo (QT (Ze Xg PySem.F.plainAttrs_list PySem.F.slot_list_extend PySem.F.type_list_extend (Qb 3) (Qd (kg Z.z1 Z.z2 rfl (Qn (Qq a) (Qn (Qq a) (Qb 1) (Qb 4)) Ql) (Qn (Qq a) (Qn (Qq a) (Qb 1) (Qb 4)) Ql)) Qj))))) (Qo (QK (ZO (Jz a.units) (QF (K2 Z) a (by decide) QW (Qd (Qb 0) Qj)) (Qb 3) (Qy _)))))
theorem Vw:Has P w K mg O8 "kid_faults" 1 4 JH:=hf Z.u7 UK λs _ _ _ _ _ _ _ a=>Qh (Qu 4 s (Qn (Qq a) (Qb 1) (JG Z.g0))) (Qh (Qu 5 s (Qp Q4 (Zp (Qd (Qb 2) Qj)) (Qn (Qq a) (Qb 1) (JG Z.g3)))) (Qh (Qu 6 s (Zg Qj)) (Qh (Zi PassesOwn.never rfl (Js (Zw rfl Z.z3 (Qd (QS Q1 Z.z0 PySem.boot_len (Qd (Qb 4) Qj)) Qj))) (Zh 7 s) (Qh (Qu 8 s (Qn (Qq a) (Qb 4) (Qb 7))) (Qo (Zm (DW.pt (ye (QJ wD (Qb 7) (QS Q1 Z.z0 PySem.boot_len (Qd (Qb 5) Qj)) (Qy _)) (ye (QJ (xR (Qq a)) (Qb 8) (Qb 3) (by with_unfolding_all rfl)) (xC (QJ (Ya a.units) (Qn (Qq a) (Qb 3) (Qb 8)) (Qn (Qq a) (Qb 5) (Qb 7)) (Qy _)))))) (Qo (QT (Ze Q9 PySem.F.plainAttrs_list PySem.F.slot_list_append PySem.F.type_list_append (Qb 6) (Qd (Zp (Qd Yl (Qd (Qb 0) (Qd (Qb 7) Qj)))) Qj)))) QO)))) (Qo (QK (Qb 6))))))
def xI:Has P w K mg O8 "wanted_parts" 1 1 JL:=hf Z.u8 yK λs _ _ _ _ _ _ _ a=>Qo (QK (ke (QJ (Jz a.units) (Qn (Qq a) (Qb 0) (JG Z.g2)) Ql (Qy _)) (QS Q1 Z.z0 PySem.boot_len (Qd (Qn (Qq a) (Qb 0) (JG Z.g3)) Qj)) (Qp Q4 (QS Q1 Z.z0 PySem.boot_len (Qd (Qn (Qq a) (Qb 0) (JG Z.g3)) Qj)) Ql)))
theorem Vv:Has P w K mg O8 "is_ordered" 1 2 Xq:=hf Z.u9 UJ λs _ _ _ _ _ _ _ a=>Qh (Qu 2 s (Qn (Qq a) (Qb 0) (JG Z.g3))) (Qh (Qu 3 s (Qn (Qq a) (Qb 0) (JG Z.g4))) (Qh (Zm (qL (jJ (QS (rG rfl) Z.z4 boot_all (Qd (Jh (caps:=[]) (idx:=[]) ⟨by with_unfolding_all rfl,by decide +kernel,rfl,by decide +kernel,rfl,(by exact trivial),by with_unfolding_all rfl,(by exact trivial),by decide⟩ rfl (Js (TQ (by rfl) (by exact Z.z2) (Qb 2) (Xn (Qb 2) (ZF Ql) ZP))) (λ_ _ _ _=>JM) (λ_ _ _ _=>ZO xQ (Qn (Qq a) (Qb 0) Ql) (Qn (Qq a) (Qb 0) Ql) (Qy _))) Qj)))) (Qo (QK Vl)) QO) (Qh (Zm (DW.pt (Yn (QJ jZ (Qb 1) ZB (Qy _)) (zq (qL (jJ (QS (rG rfl) Z.z4 boot_all (Qd (Jh (caps:=["begin"]) (idx:=[1]) ⟨by with_unfolding_all rfl,by decide +kernel,rfl,by decide +kernel,rfl,(by exact⟨rfl,trivial⟩),by with_unfolding_all rfl,(by exact⟨rfl,.inl rfl,⟨_,rfl⟩,(λh=>NameKind.noConfusion (Ai (show some NameKind.cell=some NameKind.local from h))),trivial⟩),by decide⟩ rfl (Js (uv (Qb 2))) (λ_ _ _ _=>JM) (λ_ _ _ _=>ZO uV (Qb 1) (Qb 0) (Qy _))) Qj))))))) (Qo (QK Vl)) QO) (Qh (Zm (DW.pt (Yn (QJ jZ (Qb 3) ZB (Qy _)) (zq (qL (jJ (QS (rG rfl) Z.z4 boot_all (Qd (Jh (caps:=["high"]) (idx:=[3]) ⟨by with_unfolding_all rfl,by decide +kernel,rfl,by decide +kernel,rfl,(by exact⟨rfl,trivial⟩),by with_unfolding_all rfl,(by exact⟨rfl,.inl rfl,⟨_,rfl⟩,(λh=>NameKind.noConfusion (Ai (show some NameKind.cell=some NameKind.local from h))),trivial⟩),by decide⟩ rfl (Js (uv (Qb 2))) (λ_ _ _ _=>JM) (λ_ _ _ _=>ZO xQ (Qb 0) (Qb 1) (Qy _))) Qj))))))) (Qo (QK Vl)) QO) (Qo (QK (GS (ZO lZ (Qb 1) ZB (Qy _)) (GS (ZO lZ (Qb 3) ZB (Qy _)) (qI (ZO xQ (Qb 1) (Qb 3) (Qy _)))))))))))
theorem yH:Has P w K mg O8 "page_faults" 2 5 J1:=hf Z.D_ V9 λs _ _ _ _ _ _ _ a=>Qh (Qu 5 s (Zg Qj)) (Qh (Zm (QJ (Ya a.units) (Qn (Qq a) (Qb 1) (JG Z.g2)) (Qb 2) (Qy _)) (Qo (QT (Ze Q9 PySem.F.plainAttrs_list PySem.F.slot_list_append PySem.F.type_list_append (Qb 5) (Qd (Zp (Qd Yl (Qd (Qb 0) Qj))) Qj)))) QO) (Qh (Zm (qL (jJ (QF (Vv Z) a (by decide) QW (Qd (Qb 1) (Qd (Qb 3) Qj))))) (Qo (QT (Ze Q9 PySem.F.plainAttrs_list PySem.F.slot_list_append PySem.F.type_list_append (Qb 5) (Qd (Zp (Qd Yl (Qd (Qb 0) Qj))) Qj)))) QO) (Qh (Zm (QJ (Ya a.units) (QS Q1 Z.z0 PySem.boot_len (Qd (Qn (Qq a) (Qb 1) (JG Z.g0)) Qj)) (QF (xI Z) a (by decide) QW (Qd (Qb 1) Qj)) (Qy _)) (Qo (QT (Ze Q9 PySem.F.plainAttrs_list PySem.F.slot_list_append PySem.F.type_list_append (Qb 5) (Qd (Zp (Qd Yl (Qd (Qb 0) Qj))) Qj)))) QO) (Qh (Zm (DW.pt (ye (QJ (Ya a.units) (ZO lZ (Qn (Qq a) (Qb 1) (JG Z.g4)) ZB (Qy _)) (ZO lZ (Qn (Qq a) (Qb 1) (JG Z.g1)) ZB (Qy _)) (Qy _)) (xC (QJ (Ya a.units) (Qn (Qq a) (Qb 1) (JG Z.g1)) (Qb 4) (Qy _))))) (Qo (QT (Ze Q9 PySem.F.plainAttrs_list PySem.F.slot_list_append PySem.F.type_list_append (Qb 5) (Qd (Zp (Qd Yl (Qd (Qb 0) Qj))) Qj)))) QO) (Qo (QK (Qb 5)))))))
def zO:Has P w K mg O8 "begins_of" 1 2 XY:=hf Z.DY Gv λs _ _ _ _ _ _ _ a=>Qh (Qu 2 s jH) (Qh (Qu 3 s ZB) (Qh (Zi PassesOwn.never rfl (Je (Qb 1)) (Zh 4 s) (Qh (Ym (Qb 3) (xy (Qq a) (Qb 2) (Qb 4))) (Qo (Qu 3 s (Qn (Qq a) (Qn (Qq a) (Qb 0) (Qb 4)) (JG Z.g4)))))) (Qo (QK (Qb 2)))))
theorem yG:Has P w K mg O8 "list_faults" 3 4 J0:=hf Z.DR V8 λs _ _ _ _ _ _ _ a=>Qh (Qu 4 s (QF (zO Z) a (by decide) QW (Qd (Qb 0) (Qd (Qb 1) Qj)))) (Qh (Qu 5 s (QF (zO Z) a (by decide) QW (Qd (Qb 0) (Qd (Qb 3) Qj)))) (Qh (Qu 6 s (Zg Qj)) (Qh (Zi PassesOwn.never rfl (Js (Zw rfl Z.z3 (Qd (QS Q1 Z.z0 PySem.boot_len (Qd (Qb 1) Qj)) Qj))) (Zh 7 s) (Qh (Qu 8 s (Qn (Qq a) (Qb 1) (Qb 7))) (Qh (Qu 9 s (Qn (Qq a) (Qb 0) (Qb 8))) (Qh (Qu 10 s (ke (QJ xQ (Qp Q4 (Qb 7) Ql) (QS Q1 Z.z0 PySem.boot_len (Qd (Qb 1) Qj)) (Qy _)) (Qn (Qq a) (Qb 1) (Qp Q4 (Qb 7) Ql)) ZB)) (Qh (QT (Ze Xg PySem.F.plainAttrs_list PySem.F.slot_list_extend PySem.F.type_list_extend (Qb 6) (Qd (QF (yH Z) a (by decide) QW (Qd (Qb 8) (Qd (Qb 9) (Qd (Qb 2) (Qd (Qn (Qq a) (Qb 4) (Qb 8)) (Qd (Qb 10) Qj)))))) Qj))) (Qo (Zm (QJ UE (Qb 2) Ql (Qy _)) (Qo (QT (Ze Xg PySem.F.plainAttrs_list PySem.F.slot_list_extend PySem.F.type_list_extend (Qb 6) (Qd (QF (Vw Z) a (by decide) QW (Qd (Qb 8) (Qd (Qb 9) (Qd (Qn (Qq a) (Qb 4) (Qb 8)) (Qd (Qb 5) Qj))))) Qj)))) QO))))))) (Qo (QK (Qb 6))))))
theorem Vu:Has P w K mg O8 "faults" 4 1 Yy:=hf Z.DQ Mc λs _ _ _ _ _ _ _ a=>Qh (Qu 1 s (J9 (Jp Z) a (by decide) QW (Qb 0))) (Qh (Qu 2 s (QF (JD Z) a (by decide) QW (Qd (Qb 1) (Qd (J9 (JP Z) a (by decide) QW (Qb 0)) Qj)))) (Qh (Qu 3 s (Zg Qj)) (Qh (Zi PassesOwn.never rfl (Js (Zw rfl Z.z3 (Qd (QS Q1 Z.z0 PySem.boot_len (Qd (Qb 2) Qj)) Qj))) (Zh 4 s) (Qh (Qu 5 s (Qp Xp (Qp Xp (QS Q1 Z.z0 PySem.boot_len (Qd (Qb 2) Qj)) Ql) (Qb 4))) (Qh (Qu 6 s (ke (QJ UE (Qb 5) Ql (Qy _)) (Qn (Qq a) (Qb 2) (Qp Q4 (Qb 4) Ql)) (Jr Qj))) (Qo (QT (Ze Xg PySem.F.plainAttrs_list PySem.F.slot_list_extend PySem.F.type_list_extend (Qb 3) (Qd (QF (yG Z) a (by decide) QW (Qd (Qb 1) (Qd (Qn (Qq a) (Qb 2) (Qb 4)) (Qd (Qb 5) (Qd (Qb 6) Qj))))) Qj))))))) (Qo (QK (Qb 3))))))
theorem KW:Has P w K mg O8 "is_sound" 5 1 YT:=hf Z.DP vC λs _ _ _ _ _ _ _ a=>Qo (QK (ZO (Jz a.units) (QF (Vu Z) a (by decide) QW (Qd (Qb 0) Qj)) (Jr Qj) (Qy _)))
def G4:Has P w K mg O8 "kids_of" 1 2 zo:=hf Z.DN gk λs _ _ _ _ _ _ _ a=>Qh (Qu 2 s jH) (Qh (Zi PassesOwn.never rfl (Je (Qb 1)) (Zh 3 s) (Qo (NZ PassesOwn.never rfl (uv (Qn (Qq a) (Qn (Qq a) (Qb 0) (Qb 3)) (JG Z.g0))) (Zh 4 s) (Qo (Ym Vl (xy (Qq a) (Qb 2) (Qb 4))))))) (Qo (QK (Qb 2))))
theorem uE:Has P w K mg O8 "untold" 3 1 qB:=hf Z.u16 WZ λs _ _ _ _ _ _ _ a=>Qh (Qu 1 s (J9 (Jp Z) a (by decide) QW (Qb 0))) (Qh (Qu 2 s (QF (JD Z) a (by decide) QW (Qd (Qb 1) (Qd (J9 (JP Z) a (by decide) QW (Qb 0)) Qj)))) (Qh (Qu 3 s (Zg Qj)) (Qh (Zi PassesOwn.never rfl (Js (zp rfl Z.z3 (Qd Ql (Qd (QS Q1 Z.z0 PySem.boot_len (Qd (Qb 2) Qj)) Qj)))) (Zh 4 s) (Qh (Qu 5 s (QF (G4 Z) a (by decide) QW (Qd (Qb 1) (Qd (Qn (Qq a) (Qb 2) (Qp Xp (Qb 4) Ql)) Qj)))) (Qo (QT (Ze Xg PySem.F.plainAttrs_list PySem.F.slot_list_extend PySem.F.type_list_extend (Qb 3) (Qd (Jh (caps:=["kids"]) (idx:=[5]) ⟨by with_unfolding_all rfl,by decide +kernel,rfl,by decide +kernel,rfl,(by exact⟨rfl,trivial⟩),by with_unfolding_all rfl,(by exact⟨rfl,.inl rfl,⟨_,rfl⟩,(λh=>NameKind.noConfusion (Ai (show some NameKind.cell=some NameKind.local from h))),trivial⟩),by decide⟩ rfl (Je (Qn (Qq a) (Qb 2) (Qb 4))) (λ_ _ _ _=>km (QJ (xR (Qq a)) (Qb 0) (Qb 1) (by with_unfolding_all rfl))) (λ_ _ _ _=>Qb 0)) Qj)))))) (Qo (QK (Qb 3))))))
theorem uD:Has P w K mg O8 "levels" 3 1 qA:=hf Z.DK Mb λs _ _ _ _ _ _ _ a=>Qo (QK (QF (JD Z) a (by decide) QW (Qd (J9 (Jp Z) a (by decide) QW (Qb 0)) (Qd (J9 (JP Z) a (by decide) QW (Qb 0)) Qj))))
theorem xH:Has P w K mg O8 "_law_left_out" 1 2 JJ:=hf Z.DG yJ λs _ _ _ _ _ _ _ a=>Qh (Qu 2 s (Zg Qj)) (Qh (Zi PassesOwn.never rfl (Js (zp rfl Z.z3 (Qd Ql (Qd (QS Q1 Z.z0 PySem.boot_len (Qd (Qb 1) Qj)) Qj)))) (Zh 3 s) (Qh (Qu 4 s (Zg Qj)) (Qh (Zi PassesOwn.never rfl (Je (Qn (Qq a) (Qb 1) (Qp Xp (Qb 3) Ql))) (Zh 5 s) (Qo (QT (Ze Xg PySem.F.plainAttrs_list PySem.F.slot_list_extend PySem.F.type_list_extend (Qb 4) (Qd (jI Sd Z.z1 boot_list (Qd (Qn (Qq a) (Qn (Qq a) (Qb 0) (Qb 5)) Ql) Qj)) Qj))))) (Qo (QT (Ze Xg PySem.F.plainAttrs_list PySem.F.slot_list_extend PySem.F.type_list_extend (Qb 2) (Qd (Jh (caps:=["kids"]) (idx:=[4]) ⟨by with_unfolding_all rfl,by decide +kernel,rfl,by decide +kernel,rfl,(by exact⟨rfl,trivial⟩),by with_unfolding_all rfl,(by exact⟨rfl,.inl rfl,⟨_,rfl⟩,(λh=>NameKind.noConfusion (Ai (show some NameKind.cell=some NameKind.local from h))),trivial⟩),by decide⟩ rfl (Je (Qn (Qq a) (Qb 1) (Qb 3))) (λ_ _ _ _=>km (QJ (xR (Qq a)) (Qb 0) (Qb 1) (by with_unfolding_all rfl))) (λ_ _ _ _=>Qb 0)) Qj))))))) (Qo (QK (Qb 2))))
theorem jN:Has P w K mg O8 "_law_kid_wrong" 1 5 JB:=hf Z.Dz xX λs _ _ _ _ _ _ _ a=>Qh (Qu 5 s (Qn (Qq a) (Qn (Qq a) (Qb 1) Ql) (Qb 2))) (Qh (Zm (DW.pt (ye (QJ (xR (Qq a)) (Qb 5) (Qb 4) (by with_unfolding_all rfl)) (xC (QJ UE (Qb 2) (QS Q1 Z.z0 PySem.boot_len (Qd (Qn (Qq a) (Qb 1) Ql) Qj)) (Qy _))))) (Qo (QK Vl)) QO) (Qh (Qu 6 s (Ze T7 PySem.F.plainAttrs_list PySem.F.slot_list_index PySem.F.type_list_index (Qb 4) (Qd (Qb 5) Qj))) (Qh (Qu 7 s ZB) (Qh (Zm (QJ UE (Qb 6) Ql (Qy _)) (Qo (Qu 7 s (Qn (Qq a) (Qn (Qq a) (Qb 0) (Qn (Qq a) (Qb 4) (Qp Xp (Qb 6) Ql))) Ql))) QO) (Qo (QK (ZO (Ya a.units) (Qb 7) (Qn (Qq a) (Qp Q4 (Jr (Qd (Qb 3) Qj)) (jI BX Z.z1 boot_list (Qd (Qn (Qq a) (Qb 1) Ql) Qj))) (Qb 2)) (Qy _))))))))
theorem qP:Has P w K mg O8 "_law_out_of_order" 1 2 Jb:=hf Z.Dy zJ λs _ _ _ _ _ _ _ a=>Qh (Ym (Qb 0) (KM [4,5,6,7,8] s (by repeat' (first|exact trivial|refine⟨rfl,(by first|exact .inl rfl|exact .inr rfl),.inl rfl,?_⟩)) rfl (λ_ _ _=>rfl))) (Qh (Qu 2 s (Vk (ZO jZ (Qb 1) ZB (Qy _)) (Vk (ZO jZ (Qb 7) ZB (Qy _)) (qI (ZO uV (Qb 7) (Qb 1) (Qy _)))))) (Qh (Zi PassesOwn.never rfl (Js (Zw rfl Z.z3 (Qd (QS Q1 Z.z0 PySem.boot_len (Qd (Qb 5) Qj)) Qj))) (Zh 3 s) (Qh (Qu 2 s (GS (Qb 2) (qI (Vk (ZO UE (Qb 3) Ql (Qy _)) (qI (ZO uV (Qn (Qq a) (Qb 5) (Qb 3)) (Qn (Qq a) (Qb 5) (Qp Xp (Qb 3) Ql)) (Qy _))))))) (Qh (Qu 2 s (GS (Qb 2) (qI (Vk (ZO jZ (Qb 1) ZB (Qy _)) (qI (ZO xQ (Qn (Qq a) (Qb 5) (Qb 3)) (Qb 1) (Qy _))))))) (Qo (Qu 2 s (GS (Qb 2) (qI (Vk (ZO jZ (Qb 7) ZB (Qy _)) (qI (ZO wD (Qn (Qq a) (Qb 5) (Qb 3)) (Qb 7) (Qy _))))))))))) (Qo (QK (Qb 2)))))
theorem Vx:Has P w K mg O8 "_law_faults" 2 2 Xr:=hf Z.Dw UL λs _ _ _ _ _ _ _ a=>Qh (Qu 2 s (Zg Qj)) (Qh (Zi PassesOwn.never rfl (Js (Zw rfl Z.z3 (Qd (QS Q1 Z.z0 PySem.boot_len (Qd (Qb 1) Qj)) Qj))) (Zh 3 s) (Qo (Zi PassesOwn.never rfl (Js (Zw rfl Z.z3 (Qd (QS Q1 Z.z0 PySem.boot_len (Qd (Qn (Qq a) (Qb 1) (Qb 3)) Qj)) Qj))) (Zh 4 s) (Qh (Qu 5 s (Qn (Qq a) (Qn (Qq a) (Qb 1) (Qb 3)) (Qb 4))) (Qh (Qu 6 s (Qn (Qq a) (Qb 0) (Qb 5))) (Qh (Qu 7 s ZB) (Qh (Zm (QJ UE (Qb 4) Ql (Qy _)) (Qo (Qu 7 s (Qn (Qq a) (Qn (Qq a) (Qb 0) (Qn (Qq a) (Qn (Qq a) (Qb 1) (Qb 3)) (Qp Xp (Qb 4) Ql))) Ql))) QO) (Qh (Qu 8 s (Qn (Qq a) (Qp Pq (Qn (Qq a) (Qb 1) (Qb 3)) (Jr (Qd ZB Qj))) (Qp Q4 (Qb 4) Ql))) (Qh (Zm (QJ (Ya a.units) (Qn (Qq a) (Qb 6) Ql) (Qp Xp (Qp Xp (QS Q1 Z.z0 PySem.boot_len (Qd (Qb 1) Qj)) Ql) (Qb 3)) (Qy _)) (Qo (QT (Ze Q9 PySem.F.plainAttrs_list PySem.F.slot_list_append PySem.F.type_list_append (Qb 2) (Qd (Zp (Qd Yl (Qd (Qb 5) Qj))) Qj)))) QO) (Qh (Zm (jJ (QF (qP Z) a (by decide) QW (Qd (Qb 6) (Qd (Qb 7) Qj)))) (Qo (QT (Ze Q9 PySem.F.plainAttrs_list PySem.F.slot_list_append PySem.F.type_list_append (Qb 2) (Qd (Zp (Qd Yl (Qd (Qb 5) Qj))) Qj)))) QO) (Qh (Zm (QJ (Ya a.units) (Qp Xp (QS Q1 Z.z0 PySem.boot_len (Qd (Qn (Qq a) (Qb 6) Ql) Qj)) (QS Q1 Z.z0 PySem.boot_len (Qd (Qn (Qq a) (Qb 6) Ql) Qj))) (Qn (Qq a) (Jr (Qd Ql (Qd Ql Qj))) (jI wQ Z.z5 boot_int (Qd (ZO (Jz a.units) (Qn (Qq a) (Qb 6) Ql) Ql (Qy _)) Qj))) (Qy _)) (Qo (QT (Ze Q9 PySem.F.plainAttrs_list PySem.F.slot_list_append PySem.F.type_list_append (Qb 2) (Qd (Zp (Qd Yl (Qd (Qb 5) Qj))) Qj)))) QO) (Qh (Zm (DW.pt (ye (QJ (Ya a.units) (ZO lZ (Qn (Qq a) (Qb 6) Ql) ZB (Qy _)) (ZO lZ (Qn (Qq a) (Qb 6) Ql) ZB (Qy _)) (Qy _)) (xC (QJ (Ya a.units) (Qn (Qq a) (Qb 6) Ql) (Qb 8) (Qy _))))) (Qo (QT (Ze Q9 PySem.F.plainAttrs_list PySem.F.slot_list_append PySem.F.type_list_append (Qb 2) (Qd (Zp (Qd Yl (Qd (Qb 5) Qj))) Qj)))) QO) (Qo (Zm (QJ xQ (Qp Q4 (Qb 3) Ql) (QS Q1 Z.z0 PySem.boot_len (Qd (Qb 1) Qj)) (Qy _)) (Qo (Zi PassesOwn.never rfl (Js (Zw rfl Z.z3 (Qd (QS Q1 Z.z0 PySem.boot_len (Qd (Qn (Qq a) (Qb 6) Ql) Qj)) Qj))) (Zh 9 s) (Qo (Zm (jJ (QF (jN Z) a (by decide) QW (Qd (Qb 0) (Qd (Qb 6) (Qd (Qb 9) (Qd (Qb 7) (Qd (Qn (Qq a) (Qb 1) (Qp Q4 (Qb 3) Ql)) Qj))))))) (Qo (QT (Ze Q9 PySem.F.plainAttrs_list PySem.F.slot_list_append PySem.F.type_list_append (Qb 2) (Qd (Zp (Qd Yl (Qd (Qb 5) (Qd (Qb 9) Qj)))) Qj)))) QO)))) QO)))))))))))))) (Qo (QK (Qb 2))))
theorem KZ:Has P w K mg O8 "_law_rows" 1 2 YU:=hf Z.Dv vE λs _ _ _ _ _ _ _ a=>Qh (Qu 2 s (Zg Qj)) (Qh (Qu 3 s (Zg Qj)) (Qh (Qu 4 s (Qb 1)) (Qh (Zi PassesOwn.never rfl (Js (Zw rfl Z.z3 (Qd (Qp Q4 (Qn (Qq a) (Qn (Qq a) (Qb 0) (Qb 1)) Ql) Ql) Qj))) (Zh 5 s) (Qh (Qu 6 s (Zg Qj)) (Qh (qK 100000 PassesOwn.never (DW.pt (Yn (QJ jZ (Qb 4) ZB (Qy _)) (Yn (QJ uV Ql (Qb 4) (Qy _)) (Yn (QJ xQ (Qb 4) (QS Q1 Z.z0 PySem.boot_len (Qd (Qb 0) Qj)) (Qy _)) (zq (QJ (xR (Qq a)) (Qb 4) (Qb 3) (by with_unfolding_all rfl))))))) (Qh (QT (Ze Q9 PySem.F.plainAttrs_list PySem.F.slot_list_append PySem.F.type_list_append (Qb 6) (Qd (Qb 4) Qj))) (Qh (QT (Ze Q9 PySem.F.plainAttrs_list PySem.F.slot_list_append PySem.F.type_list_append (Qb 3) (Qd (Qb 4) Qj))) (Qo (Qu 4 s (Qn (Qq a) (Qn (Qq a) (Qb 0) (Qb 4)) Ql)))))) (Qh (QT (Ze Q9 PySem.F.plainAttrs_list PySem.F.slot_list_append PySem.F.type_list_append (Qb 2) (Qd (Qb 6) Qj))) (Qh (Qu 4 s ZB) (Qo (Zm (DW.pt (Yn (QJ (Ya a.units) (Qb 6) (Jr Qj) (Qy _)) (zq (QJ (Ya a.units) (Qn (Qq a) (Qn (Qq a) (Qb 0) (Qn (Qq a) (Qb 6) Ql)) Ql) (Zp Qj) (Qy _))))) (Qo (Qu 4 s (Qn (Qq a) (Qn (Qq a) (Qn (Qq a) (Qb 0) (Qn (Qq a) (Qb 6) Ql)) Ql) Ql))) QO))))))) (Qo (QK (Qb 2))))))
def JO:Ul P w K mg O8 "Shelf" "check_number" 1 2 ZG:=hM Z.Du qv λs _ _ _ _ _ _ _ a=>Qo (Zm (qL (GX uV xQ Ql (Qb 1) (QS Q1 Z.z0 PySem.boot_len (Qd (xw Z.k1 (Qb 0)) Qj)))) (Qo TJ) QO)
theorem zF:Ul P w K mg O8 "Shelf" "make_root" 2 2 Jk:=hM Z.Dt jk λs _ _ _ _ _ _ _ a=>Qh (QT (jG (JO Z) a (by decide) QW (Qb 0) (Qd (Qb 1) Qj))) (Qo (xB Z.k0 (Qb 0) (Qb 1)))
theorem yE:Ul P w K mg O8 "Shelf" "write" 2 3 JY:=hM Z.Ds V4 λs _ _ _ _ _ _ _ a=>Qh (QT (jG (JO Z) a (by decide) QW (Qb 0) (Qd (Qb 1) Qj))) (Qh (U3 Z.k2 (Qb 0) Ql) (Qo (Ym (Qb 2) (xy (Qq a) (xw Z.k1 (Qb 0)) (Qb 1)))))
def Uw:Ul P w K mg O8 "Shelf" "lay" 1 2 XX:=hM Z.Dr Gu λs _ _ _ _ _ _ _ a=>Qh (U3 Z.k2 (Qb 0) Ql) (Qh (QT (Ze Q9 PySem.F.plainAttrs_list PySem.F.slot_list_append PySem.F.type_list_append (xw Z.k1 (Qb 0)) (Qd (Qb 1) Qj))) (Qo (QK (Qp Xp (QS Q1 Z.z0 PySem.boot_len (Qd (xw Z.k1 (Qb 0)) Qj)) Ql))))
def je:oN P w K mg O8 "Shelf" 1 2 Z5:=hI Z.Dq xk λs _ _ _ _ _ _ _ d=>let ⟨_,c,a⟩:=Z.t0.ex;Qh (xB Z.k4 (Qb 0) (Qb 1)) (Qh (xB Z.k1 (Qb 0) (Zg (Qd (T3 rfl c a) Qj))) (Qh (xB Z.k0 (Qb 0) Ql) (Qh (xB Z.k3 (Qb 0) Ql) (Qo (xB Z.k2 (Qb 0) Ql)))))
theorem Uz:Has P w K mg O8 "_law_shelf" 3 2 X4:=hf Z.Dm Gz λs _ _ _ _ _ _ _ a=>Qh (Qu 2 s (TY (je Z) a (by decide) QW (Qd Ql Qj))) (Qh (Zi PassesOwn.never rfl (Js (zp rfl Z.z3 (Qd Ql (Qd (QS Q1 Z.z0 PySem.boot_len (Qd (Qb 0) Qj)) Qj)))) (Zh 3 s) (Qo (QT (jG (Uw Z) a (by decide) QW (Qb 2) (Qd (Qn (Qq a) (Qb 0) (Qb 3)) Qj))))) (Qh (QT (jG (yE Z) a (by decide) QW (Qb 2) (Qd Ql (Qd (Qn (Qq a) (Qb 0) Ql) Qj)))) (Qh (QT (jG (zF Z) a (by decide) QW (Qb 2) (Qd (Qb 1) Qj))) (Qo (QK (Qb 2))))))
def JC:Has P w K mg O8 "_law_cell_at" 1 2 Zj:=hf Z.Dl V5 λs _ _ _ _ _ _ _ a=>Qh (Zm (QJ xQ (Qb 1) (QS wO Z.z0 PySem.boot_len (Qd (Qb 0) Qj)) (Qy _)) (Qo (QK (Nf (Qb 0) (Qb 1)))) QO) (Qo (QK Ql))
def Zd:Has P w K mg O8 "_law_dealt" 1 2 QH:=hf Z.Dk Gx λs _ _ _ _ _ _ _ a=>Qh (Qu 2 s (Qp ZI (Qp Q4 (Qp ZI (Qb 0) Ql) (Qp ym Ql (Qp Q4 (Qb 1) Ql))) Ql)) (Qh (Qu 2 s (Qp Q4 (Qp ZI (Qp ym (Qb 2) (Qb 2)) Ql) (Qp ym Ql (Qb 1)))) (Qo (QK (Qp ZI (Qp ym (Qb 2) (Qp Q4 (Qb 2) Ql)) Ql))))
def qQ:Has P w K mg O8 "_law_parts_spoilt" 1 3 Jc:=hf Z.Dj zL λs _ _ _ _ _ _ _ a=>Qh (Zm (QJ (Jz a.units) (Qb 0) (Zp Qj) (Qy _)) (Qo (QK (Zp (Qd (Qp Xp (Qp ZI (Qb 2) (Qp Q4 (Qb 1) Ql)) Ql) Qj)))) QO) (Qh (Qu 3 s (Qp ZI (Qp VR (Qb 2) Ql) (QS Q1 Z.z0 PySem.boot_len (Qd (Qb 0) Qj)))) (Qh (Zm (QJ (Jz a.units) (Qp ZI (Qb 2) Ql) Ql (Qy _)) (Qo (QK (Qp Q4 (Xn (Qb 0) ZP (ZF (Qb 3))) (Xn (Qb 0) (ZF (Qp Q4 (Qb 3) Ql)) ZP)))) QO) (Qh (Zm (QJ (Jz a.units) (Qp ZI (Qb 2) Ql) Ql (Qy _)) (Qo (QK (Qp Q4 (Qp Q4 (Xn (Qb 0) ZP (ZF (Qb 3))) (Zp (Qd (Qn (Qq a) (Qb 0) (Qb 3)) Qj))) (Xn (Qb 0) (ZF (Qb 3)) ZP)))) QO) (Qo (QK (Qp Q4 (Qp Q4 (Xn (Qb 0) ZP (ZF (Qb 3))) (Zp (Qd (Qp Xp (Qp ZI (Qp VR (Qb 2) Ql) (Qp Q4 (Qb 1) Ql)) Ql) Qj))) (Xn (Qb 0) (ZF (Qp Q4 (Qb 3) Ql)) ZP)))))))
def zG:Has P w K mg O8 "_law_keys_spoilt" 1 2 Jl:=hf Z.u32 jm λs _ _ _ _ _ _ _ a=>Qh (Zm (QJ (Jz a.units) (Qb 0) (Zp Qj) (Qy _)) (Qo (QK (Zp (Qd (Qp Xp (Qp ZI (Qb 1) Ql) Ql) Qj)))) QO) (Qh (Qu 2 s (Qp ZI (Qp VR (Qb 1) Ql) (QS Q1 Z.z0 PySem.boot_len (Qd (Qb 0) Qj)))) (Qh (Zm (QJ (Jz a.units) (Qp ZI (Qb 1) Ql) Ql (Qy _)) (Qo (QK (Qp Q4 (Xn (Qb 0) ZP (ZF (Qb 2))) (Xn (Qb 0) (ZF (Qp Q4 (Qb 2) Ql)) ZP)))) QO) (Qh (Zm (QJ (Jz a.units) (Qp ZI (Qb 1) Ql) Ql (Qy _)) (Qo (QK (Qp Q4 (Qp Q4 (Xn (Qb 0) ZP (ZF (Qb 2))) (Zp (Qd (Qn (Qq a) (Qb 0) (Qb 2)) Qj))) (Xn (Qb 0) (ZF (Qb 2)) ZP)))) QO) (Qh (Zm (QJ (Jz a.units) (Qp ZI (Qb 1) Ql) Ql (Qy _)) (Qo (QK (Qp Q4 (Qp Q4 (Xn (Qb 0) ZP (ZF (Qb 2))) (Zp (Qd (Qp Q4 (Qn (Qq a) (Qb 0) (Qb 2)) (Qn (Qq a) (Jr (Qd Ql (Qd (JE Ql) (Qd (Qp yn Ql Ql) Qj)))) (Qp ZI (Qp VR (Qb 1) Ql) Ql))) Qj))) (Xn (Qb 0) (ZF (Qp Q4 (Qb 2) Ql)) ZP)))) QO) (Qh (Zm (QJ (Jz a.units) (Qp ZI (Qb 1) Ql) Ql (Qy _)) (Qo (QK (Hb Z.z6 Z.z7 rfl (Qb 0)))) QO) (Qo (QK (Qp Q4 (Qb 0) (Zp (Qd (Qp Q4 (Qn (Qq a) (Qb 0) (JE Ql)) Ql) Qj))))))))))
theorem zH:Has P w K mg O8 "_law_page_spoilt" 2 4 Jm:=hf Z.Di jn λs _ _ _ _ _ _ _ a=>Qh (Ym (Qb 0) (KM [5,6,7,8,9] s (by repeat' (first|exact trivial|refine⟨rfl,(by first|exact .inl rfl|exact .inr rfl),.inl rfl,?_⟩)) rfl (λ_ _ _=>rfl))) (Qh (Qu 4 s (Qp ZI (Qn (Qq a) (Qb 3) Ql) Ql)) (Qh (Zm (QJ (Jz a.units) (Qb 4) Ql (Qy _)) (Qo (QK (Zp (Qd (Qp ZI (Qn (Qq a) (Qb 3) Ql) Ql) (Qd (Qb 6) (Qd (Qb 7) (Qd (Qb 8) (Qd (Qb 9) Qj)))))))) QO) (Qh (Zm (QJ (Jz a.units) (Qb 4) Ql (Qy _)) (Qo (QK (Zp (Qd (Qb 5) (Qd (QF (zG Z) a (by decide) QW (Qd (Qb 6) (Qd (Qn (Qq a) (Qb 3) Ql) Qj))) (Qd (Qb 7) (Qd (Qb 8) (Qd (Qb 9) Qj)))))))) QO) (Qh (Zm (QJ xQ (Qb 4) Ql (Qy _)) (Qo (QK (Zp (Qd (Qb 5) (Qd (Qb 6) (Qd (QF (qQ Z) a (by decide) QW (Qd (Qb 7) (Qd (Qb 2) (Qd (Qn (Qq a) (Qb 3) Ql) Qj)))) (Qd (Qb 8) (Qd (Qb 9) Qj)))))))) QO) (Qh (Zm (DW.pt (Yn (QJ (Jz a.units) (Qb 4) Ql (Qy _)) (Yn (QJ jZ (Qb 8) ZB (Qy _)) (zq (QJ UE (Qp ZI (Qn (Qq a) (Qb 3) Ql) Ql) Ql (Qy _)))))) (Qo (QK (Zp (Qd (Qb 5) (Qd (Qb 6) (Qd (Qb 7) (Qd (QS (Ni rfl) Z.z8 boot_max (Qd (JE (Qp yn Ql Ql)) (Qd (Qp Q4 (Qb 8) (Qn (Qq a) (Jr (Qd Ql (Qd (JE Ql) (Qd (JE (Qp yn Ql Ql)) (Qd (Qp yn Ql Ql) Qj))))) (Qp ZI (Qp VR (Qn (Qq a) (Qb 3) Ql) Ql) Ql))) Qj))) (Qd (Qb 9) Qj)))))))) QO) (Qh (Zm (QJ (Jz a.units) (Qb 4) Ql (Qy _)) (Qo (QK (Zp (Qd (Qb 5) (Qd (Qb 6) (Qd (Qb 7) (Qd (Qn (Qq a) (Jr (Qd ZB (Qd (JE (Qp yn Ql Ql)) (Qd (Qp yn Ql Ql) Qj)))) (Qp ZI (Qn (Qq a) (Qb 3) Ql) Ql)) (Qd (Qb 9) Qj)))))))) QO) (Qo (QK (Zp (Qd (Qb 5) (Qd (Qb 6) (Qd (Qb 7) (Qd (Qb 8) (Qd (Qn (Qq a) (Jr (Qd ZB (Qd (Qb 1) (Qd (Qp ZI (Qp VR (Qn (Qq a) (Qb 3) Ql) Ql) (Qb 2)) (Qd (Qn (Qq a) (Jr (Qd (Qb 2) (Qd (JE Ql) Qj))) (Qp ZI (Qp VR (Qn (Qq a) (Qb 3) Ql) Ql) Ql)) Qj))))) (Qp ZI (Qn (Qq a) (Qb 3) Ql) Ql)) Qj))))))))))))))
theorem yF:Has P w K mg O8 "_law_numbers" 2 2 JZ:=hf Z.Dh V6 λs _ _ _ _ _ _ _ a=>Qh (Qu 2 s (Zg Qj)) (Qh (Zi PassesOwn.never rfl (Js (Zw rfl Z.z3 (Qd (Qb 1) Qj))) (Zh 3 s) (Qo (QT (Ze Wr PySem.F.plainAttrs_list PySem.F.slot_list_insert PySem.F.type_list_insert (Qb 2) (Qd (Qp ZI (QF (Zd Z) a (by decide) QW (Qd (Qb 0) (Qd (Qp Q4 Ql (Qb 3)) Qj))) (Qp Q4 (Qb 3) Ql)) (Qd (Qb 3) Qj)))))) (Qo (QK (Qb 2))))
theorem Uy:Has P w K mg O8 "_law_forks" 2 3 XZ:=hf Z.Dg Gy λs _ _ _ _ _ _ _ a=>Qh (Qu 3 s (Zg Qj)) (Qh (Qu 4 s Ql) (Qh (Qu 5 s (Qn (Qq a) (Jr (Qd Ql (Qd Ql Qj))) (jI wQ Z.z5 boot_int (Qd (ZO (Jz a.units) (Qp ZI (QF (Zd Z) a (by decide) QW (Qd (Qb 1) (Qd Ql Qj))) Ql) Ql (Qy _)) Qj)))) (Qh (qK 100000 PassesOwn.never (QJ xQ (Qb 4) (QS Q1 Z.z0 PySem.boot_len (Qd (Qb 0) Qj)) (Qy _)) (Qh (Qu 6 s (Qp Q4 Ql (Qp ZI (QF (Zd Z) a (by decide) QW (Qd (Qb 1) (Qd (Qp Q4 (Qp Q4 Ql (Qp ym Ql (Qb 2))) (Qb 4)) Qj))) (Qb 5)))) (Qh (Qu 7 s (Zg (Qd (Qb 4) Qj))) (Qh (Zi PassesOwn.never rfl (Js (zp rfl Z.z3 (Qd (Qp Q4 (Qb 4) Ql) (Qd (QS (Nh rfl) Z.z9 boot_min (Qd (Qp Q4 (Qb 4) (Qb 6)) (Qd (QS Q1 Z.z0 PySem.boot_len (Qd (Qb 0) Qj)) Qj))) Qj)))) (Zh 8 s) (Qo (Zm (QJ UE (Qp ZI (QF (Zd Z) a (by decide) QW (Qd (Qb 1) (Qd (Qp Q4 (Qp Q4 Ql (Qp ym Ql (Qb 2))) (Qb 8)) Qj))) Ql) Ql (Qy _)) (Qo (QT (Ze Q9 PySem.F.plainAttrs_list PySem.F.slot_list_append PySem.F.type_list_append (Qb 7) (Qd (Qb 8) Qj)))) QO))) (Qh (QT (Ze Q9 PySem.F.plainAttrs_list PySem.F.slot_list_append PySem.F.type_list_append (Qb 3) (Qd (Jr (Qd (Qn (Qq a) (Qn (Qq a) (Qb 0) (Qb 4)) Ql) (Qd (jI jD Z.z6 boot_tuple (Qd (Jh (caps:=["row"]) (idx:=[0]) ⟨by with_unfolding_all rfl,by decide +kernel,rfl,by decide +kernel,rfl,(by exact⟨rfl,trivial⟩),by with_unfolding_all rfl,(by exact⟨rfl,.inl rfl,⟨_,rfl⟩,(λh=>NameKind.noConfusion (Ai (show some NameKind.cell=some NameKind.local from h))),trivial⟩),by decide⟩ rfl (Je (KL (Qb 7) (ZF Ql) ZP)) (λ_ _ _ _=>JM) (λ_ _ _ _=>Qn (Qq a) (Qn (Qq a) (Qb 1) (Qb 0)) Ql)) Qj)) (Qd (Qb 7) Qj)))) Qj))) (Qo (Qu 4 s (Qp Q4 (Qb 4) (Qb 6))))))))) (Qo (QK (Qb 3))))))
theorem KY:Has P w K mg O8 "_law_keys" 2 1 XA:=hf Z.Df vD λs _ _ _ _ _ _ _ a=>Qh (Qu 1 s (Zg (Qd (JE (Qp yn Ql Ql)) Qj))) (Qh (Zi PassesOwn.never rfl (Je (Qb 0)) (Zh 2 s) (Qh (Qu 3 s (Qp Q4 Ql (Qp ZI (QF (Zd Z) a (by decide) QW (Qd (Qb 2) (Qd Ql Qj))) Ql))) (Qh (Zm (QJ (Jz a.units) (Qp ZI (QF (Zd Z) a (by decide) QW (Qd (Qb 2) (Qd Ql Qj))) Ql) Ql (Qy _)) (Qo (Qu 3 s (Qp Q4 Ql (Qp ym (QF (Zd Z) a (by decide) QW (Qd (Qb 2) (Qd Ql Qj))) (Qp yn Ql Ql))))) QO) (Qo (QT (Ze Q9 PySem.F.plainAttrs_list PySem.F.slot_list_append PySem.F.type_list_append (Qb 1) (Qd (Qp Q4 (Qn (Qq a) (Qb 1) (JE Ql)) (Qb 3)) Qj))))))) (Qo (QK (Qb 1))))
theorem Vy:Has P w K mg O8 "_law_leaves" 2 2 JI:=hf Z.Dd UN λs _ _ _ _ _ _ _ a=>Qh (Qu 2 s (Zg (Qd ZB Qj))) (Qh (Qu 3 s (Zg (Qd (Zg Qj) Qj))) (Qh (Zi PassesOwn.never rfl (NT (by rfl) (by exact Z.z2) (Qb 0) (KL (Qb 1) (ZF Ql) ZP)) (KM [4,5] s (by repeat' (first|exact trivial|refine⟨rfl,(by first|exact .inl rfl|exact .inr rfl),.inl rfl,?_⟩)) rfl (λ_ _ _=>rfl)) (Qh (Zm (QJ (Jz a.units) (Qp ZI (QF (Zd Z) a (by decide) QW (Qd (Qb 4) (Qd Ql Qj))) Ql) Ql (Qy _)) (Qh (QT (Ze Q9 PySem.F.plainAttrs_list PySem.F.slot_list_append PySem.F.type_list_append (Qb 2) (Qd (Qb 5) Qj))) (Qo (QT (Ze Q9 PySem.F.plainAttrs_list PySem.F.slot_list_append PySem.F.type_list_append (Qb 3) (Qd (Zg Qj) Qj))))) QO) (Qo (Zm (QJ UE (Qp ZI (QF (Zd Z) a (by decide) QW (Qd (Qb 4) (Qd Ql Qj))) Ql) Ql (Qy _)) (Qo (QT (Ze Q9 PySem.F.plainAttrs_list PySem.F.slot_list_append PySem.F.type_list_append (Qn (Qq a) (Qb 3) (JE Ql)) (Qd (Zp (Qd (Qb 5) (Qd (Qp Xp (Qp ZI (QF (Zd Z) a (by decide) QW (Qd (Qb 4) (Qd Ql Qj))) Ql) Ql) Qj))) Qj)))) QO)))) (Qo (QK (Jh (caps:=["begins", "pairs"]) (idx:=[2,3]) ⟨by with_unfolding_all rfl,by decide +kernel,rfl,by decide +kernel,rfl,(by exact⟨rfl,⟨rfl,trivial⟩⟩),by with_unfolding_all rfl,(by exact⟨rfl,.inl rfl,⟨_,rfl⟩,(λh=>NameKind.noConfusion (Ai (show some NameKind.cell=some NameKind.local from h))),⟨rfl,.inl rfl,⟨_,rfl⟩,(λh=>NameKind.noConfusion (Ai (show some NameKind.cell=some NameKind.local from h))),trivial⟩⟩),by decide⟩ rfl (Js (Zw rfl Z.z3 (Qd (QS Q1 Z.z0 PySem.boot_len (Qd (Qb 2) Qj)) Qj))) (λ_ _ _ _=>JM) (λ_ _ _ _=>Jr (Qd (Qn (Qq a) (Qb 1) (Qb 0)) (Qd (jI jD Z.z6 boot_tuple (Qd (Jh (caps:=[]) (idx:=[]) ⟨by with_unfolding_all rfl,by decide +kernel,rfl,by decide +kernel,rfl,(by exact trivial),by with_unfolding_all rfl,(by exact trivial),by decide⟩ rfl (Je (Qn (Qq a) (Qb 2) (Qb 0))) (λ_ _ _ _=>JM) (λ_ _ _ _=>Qn (Qq a) (Qb 0) Ql)) Qj)) (Qd (Qn (Qq a) (Qb 2) (Qb 0)) Qj)))))))))
theorem K0:Has P w K mg O8 "_law_tree" 3 1 XB:=hf Z.Dc vF λs _ _ _ _ _ _ _ a=>Qh (Qu 1 s (Xn (Qb 0) (ZF Ql) (ZF Ql))) (Qh (Qu 2 s (Zg (Qd (QF (Vy Z) a (by decide) QW (Qd (Qb 1) (Qd (QF (KY Z) a (by decide) QW (Qd (Qb 1) Qj)) Qj))) Qj))) (Qh (qK 100000 PassesOwn.never (QJ UE (QS Q1 Z.z0 PySem.boot_len (Qd (Qn (Qq a) (Qb 2) (JE Ql)) Qj)) Ql (Qy _)) (Qo (QT (Ze Q9 PySem.F.plainAttrs_list PySem.F.slot_list_append PySem.F.type_list_append (Qb 2) (Qd (QF (Uy Z) a (by decide) QW (Qd (Qn (Qq a) (Qb 2) (JE Ql)) (Qd (QF (JC Z) a (by decide) QW (Qd (Qb 0) (Qd Ql Qj))) (Qd (QS Q1 Z.z0 PySem.boot_len (Qd (Qb 2) Qj)) Qj)))) Qj))))) (Qh (Qu 3 s (QF (yF Z) a (by decide) QW (Qd (QF (JC Z) a (by decide) QW (Qd (Qb 0) (Qd Ql Qj))) (Qd (QS (N8 rfl) Z.aY boot_sum (Qd (Jh (caps:=[]) (idx:=[]) ⟨by with_unfolding_all rfl,by decide +kernel,rfl,by decide +kernel,rfl,(by exact trivial),by with_unfolding_all rfl,(by exact trivial),by decide⟩ rfl (Je (Qb 2)) (λ_ _ _ _=>JM) (λ_ _ _ _=>QS Q1 Z.z0 PySem.boot_len (Qd (Qb 0) Qj))) Qj)) Qj)))) (Qh (Qu 4 s (Zg Qj)) (Qh (Zi PassesOwn.never rfl (Je (Qb 2)) (Zh 5 s) (Qh (QT (Ze Q9 PySem.F.plainAttrs_list PySem.F.slot_list_append PySem.F.type_list_append (Qb 4) (Qd (KL (Qb 3) ZP (ZF (QS Q1 Z.z0 PySem.boot_len (Qd (Qb 5) Qj)))) Qj))) (Qo (Qu 3 s (KL (Qb 3) (ZF (QS Q1 Z.z0 PySem.boot_len (Qd (Qb 5) Qj))) ZP))))) (Qh (Qu 6 s jH) (Qh (Zi PassesOwn.never rfl (Js (Zw rfl Z.z3 (Qd (QS Q1 Z.z0 PySem.boot_len (Qd (Qb 2) Qj)) Qj))) (Zh 7 s) (Qo (Zi PassesOwn.never rfl (Js (Zw rfl Z.z3 (Qd (QS Q1 Z.z0 PySem.boot_len (Qd (Qn (Qq a) (Qb 2) (Qb 7)) Qj)) Qj))) (Zh 8 s) (Qh (Ym (Qn (Qq a) (Qn (Qq a) (Qb 2) (Qb 7)) (Qb 8)) (N6 [12,13,14] s (by repeat' (first|exact trivial|refine⟨rfl,(by first|exact .inl rfl|exact .inr rfl),.inl rfl,?_⟩)) rfl (λ_ _ _=>rfl))) (Qh (Qu 9 s (ke (QJ (Jz a.units) (Qb 7) Ql (Qy _)) (jI jD Z.z6 boot_tuple (Qd (Jh (caps:=[]) (idx:=[]) ⟨by with_unfolding_all rfl,by decide +kernel,rfl,by decide +kernel,rfl,(by exact trivial),by with_unfolding_all rfl,(by exact trivial),by decide⟩ rfl (Je (Qb 14)) (λ_ _ _ _=>JM) (λ_ _ _ _=>Qn (Qq a) (Qb 0) Ql)) Qj)) (jI jD Z.z6 boot_tuple (Qd (Jh (caps:=["named", "level"]) (idx:=[4,7]) ⟨by with_unfolding_all rfl,by decide +kernel,rfl,by decide +kernel,rfl,(by exact⟨rfl,⟨rfl,trivial⟩⟩),by with_unfolding_all rfl,(by exact⟨rfl,.inl rfl,⟨_,rfl⟩,(λh=>NameKind.noConfusion (Ai (show some NameKind.cell=some NameKind.local from h))),⟨rfl,.inl rfl,⟨_,rfl⟩,(λh=>NameKind.noConfusion (Ai (show some NameKind.cell=some NameKind.local from h))),trivial⟩⟩),by decide⟩ rfl (Je (Qb 14)) (λ_ _ _ _=>JM) (λ_ _ _ _=>Qn (Qq a) (Qn (Qq a) (Qb 1) (Qp Xp (Qb 2) Ql)) (Qb 0))) Qj)))) (Qh (Qu 10 s ZB) (Qh (Qu 11 s ZB) (Qh (Zm (QJ xQ (Qp Q4 (Qb 8) Ql) (QS Q1 Z.z0 PySem.boot_len (Qd (Qn (Qq a) (Qb 2) (Qb 7)) Qj)) (Qy _)) (Qh (Qu 10 s (Qn (Qq a) (Qn (Qq a) (Qn (Qq a) (Qb 2) (Qb 7)) (Qp Q4 (Qb 8) Ql)) Ql)) (Qo (Qu 11 s (Qn (Qq a) (Qn (Qq a) (Qb 4) (Qb 7)) (Qp Q4 (Qb 8) Ql))))) QO) (Qo (Ym (Zp (Qd (Qb 7) (Qd (Qb 13) (Qd (Qb 9) (Qd (Qb 10) (Qd (Qb 11) Qj)))))) (xy (Qq a) (Qb 6) (Qn (Qq a) (Qn (Qq a) (Qb 4) (Qb 7)) (Qb 8))))))))))))) (Qo (QK (Zp (Qd (Qb 4) (Qd (Jh (caps:=["pages"]) (idx:=[6]) ⟨by with_unfolding_all rfl,by decide +kernel,rfl,by decide +kernel,rfl,(by exact⟨rfl,trivial⟩),by with_unfolding_all rfl,(by exact⟨rfl,.inl rfl,⟨_,rfl⟩,(λh=>NameKind.noConfusion (Ai (show some NameKind.cell=some NameKind.local from h))),trivial⟩),by decide⟩ rfl (Js (Zw rfl Z.z3 (Qd (QS Q1 Z.z0 PySem.boot_len (Qd (Qb 6) Qj)) Qj))) (λ_ _ _ _=>JM) (λ_ _ _ _=>Qn (Qq a) (Qb 1) (Qb 0))) Qj))))))))))))
theorem law_fn{g:Addr}{fd:FuncData}(F:Fun K "law" "law" yt g fd):qC P w K mg O8 CX0 6 g fd ["script"] (fG K 1 GF):=M9 F fM λ_ _ _ _ _ _ a=>have s:=fM.nd;Qh (Ym (QF (K0 Z) a (by decide) QW (Qd (Qp Q4 (Xn (Qb 0) ZP (ZF Ql)) (Xn (Qb 0) (ZF Ql) ZP)) Qj)) (KM [8,9] s (by repeat' (first|exact trivial|refine⟨rfl,(by first|exact .inl rfl|exact .inr rfl),.inl rfl,?_⟩)) rfl (λ_ _ _=>rfl))) (Qh (Qu 1 s (Qn (Qq a) (Qn (Qq a) (Qb 8) (JE Ql)) Ql)) (Qh (Zi PassesOwn.never rfl (Js (Zw rfl Z.z3 (Qd (Qp Q4 Ql (Qp ZI (QF (Zd Z) a (by decide) QW (Qd (QF (JC Z) a (by decide) QW (Qd (Qb 0) (Qd Ql Qj))) (Qd Ql Qj))) Ql)) Qj))) (Zh 2 s) (Qh (MO 10 s (caps:=["script", "k"]) (idx:=[0,2]) ⟨by with_unfolding_all rfl,by decide +kernel,rfl,by decide +kernel,rfl,(by exact⟨rfl,⟨rfl,trivial⟩⟩),by with_unfolding_all rfl,(by exact⟨rfl,.inl rfl,⟨_,rfl⟩,(λh=>NameKind.noConfusion (Ai (show some NameKind.cell=some NameKind.local from h))),⟨rfl,.inl rfl,⟨_,rfl⟩,(λh=>NameKind.noConfusion (Ai (show some NameKind.cell=some NameKind.local from h))),trivial⟩⟩),by decide⟩ rfl (Js (Zw rfl Z.z3 (Qd Ql Qj))) (λ_ _ _ _=>JM) (λ_ _ _ _=>QF (Zd Z) a (by decide) QW (Qd (QF (JC Z) a (by decide) QW (Qd (Qb 1) (Qd Ql Qj))) (Qd (Qp Q4 (Qp ym Ql (Qb 2)) (Qb 0)) Qj)))) (Qh (Qu 11 s (Qp ZI (Qn (Qq a) (Qb 10) Ql) (QS Q1 Z.z0 PySem.boot_len (Qd (Qb 9) Qj)))) (Qo (Ym (QF (zH Z) a (by decide) QW (Qd (Qn (Qq a) (Qb 9) (Qb 11)) (Qd (Qb 11) (Qd (QS Q1 Z.z0 PySem.boot_len (Qd (Qb 9) Qj)) (Qd (Qb 10) Qj))))) (xy (Qq a) (Qb 9) (Qb 11))))))) (Qh (Qu 3 s (QF (Uz Z) a (by decide) QW (Qd (Qb 9) (Qd (Qb 1) Qj)))) (Qh (Qu 4 s (QF (KZ Z) a (by decide) QW (Qd (Qb 9) (Qd (Qb 1) Qj)))) (Qh (Qu 5 s (QF (Vx Z) a (by decide) QW (Qd (Qb 9) (Qd (Qb 4) Qj)))) (Qh (Qu 6 s (QF (xH Z) a (by decide) QW (Qd (Qb 9) (Qd (Qb 4) Qj)))) (Qh (Zi PassesOwn.never rfl (Js (Zw rfl Z.z3 (Qd Ql Qj))) (Zh 7 s) (Qh (Qu 12 s (Jr (Qd (QF (uD Z) a (by decide) QW (Qd (Qb 3) Qj)) (Qd (QF (Vu Z) a (by decide) QW (Qd (Qb 3) Qj)) (Qd (QF (uE Z) a (by decide) QW (Qd (Qb 3) Qj)) Qj))))) (Qh (Qu 13 s (QF (KW Z) a (by decide) QW (Qd (Qb 3) Qj))) (Qh (Zm (DW.pt (ye (QJ (Ya a.units) (Qb 12) (Jr (Qd (Qb 4) (Qd (Qb 5) (Qd (Qb 6) Qj)))) (Qy _)) (ye (qL (jJ (N7 Z.aR Z.cL boot_bool (by decide) (Qb 13)))) (xC (QJ (Ya a.units) (Qb 13) (ZO (Jz a.units) (Qb 5) (Jr Qj) (Qy _)) (Qy _)))))) (Qo (QK Vl)) QO) (Qo (Zi PassesOwn.never rfl (Je (Qb 12)) (Zh 14 s) (Qo (QT (TX T8 PySem.F.plainAttrs_list PySem.F.slot_list_clear PySem.F.type_list_clear (Qb 14)))))))))) (Qo (QK (QF (zI Z) a (by decide) QW (Qd (Qb 3) (Qd (Qb 9) (Qd (Qn (Qq a) (Qb 4) (JE Ql)) Qj)))))))))))))
end
def stir(c k:Int):Int:=(c % 982451653+7368787 * (k+1)) % 982451653
def ZH(c k:Int):Int:=(stir c k * stir c k % 982451653+3 * k) * (stir c k * stir c k % 982451653+3 * k+15485863) % 899809343
theorem MU(c k:Int):0<=ZH c k:=Int.emod_nonneg _ (by decide)
theorem MT(c k:Int):ZH c k<899809343:=Int.emod_lt_of_pos _ (by decide)
theorem Xa(c k:Int)(a:0<=k)(e:k<=1000):QH [.int c,.int k]=pure (.int (ZH c k)):=by
 have h:0<=stir c k:=Int.emod_nonneg _ (by decide);have i:stir c k<982451653:=Int.emod_lt_of_pos _ (by decide);have f:0<=stir c k * stir c k % 982451653:=Int.emod_nonneg _ (by decide);have g:stir c k * stir c k % 982451653<982451653:=Int.emod_lt_of_pos _ (by decide);refine RD (env:=[.val (.int c),.val (.int k),.val (.int (stir c k * stir c k % 982451653+3 * k))]) ?_;refine(CK (CJ (d:=.int (stir c k)) ?_)).trans ((CK (CJ (d:=.int (stir c k * stir c k % 982451653+3 * k)) ?_)).trans (Ry ?_))
 ·refine J2 (x:=.int (c % 982451653+7368787 * (k+1))) (y:=.int 982451653) ?_ rfl (Ji _ _ (by decide));refine J2 (x:=.int (c % 982451653)) (y:=.int (7368787 * (k+1))) (J2 (x:=.int c) (y:=.int 982451653) rfl rfl (Ji _ _ (by decide))) (J2 (x:=.int 7368787) (y:=.int (k+1)) rfl rfl (qZ _ _ (by decide) (by decide))) rfl
 ·refine J2 (x:=.int (stir c k * stir c k % 982451653)) (y:=.int (3 * k)) (J2 (x:=.int (stir c k * stir c k)) (y:=.int 982451653) (J2 (x:=.int (stir c k)) (y:=.int (stir c k)) rfl rfl (qZ _ _ ⋯ ⋯)) rfl (Ji _ _ (by decide))) (J2 (x:=.int 3) (y:=.int k) rfl rfl (qZ _ _ (by decide) (by decide))) rfl
 ·refine J2 (x:=.int ((stir c k * stir c k % 982451653+3 * k) * (stir c k * stir c k % 982451653+3 * k+15485863))) (y:=.int 899809343) (J2 (x:=.int (stir c k * stir c k % 982451653+3 * k)) (y:=.int (stir c k * stir c k % 982451653+3 * k+15485863)) rfl rfl (qZ _ _ ⋯ ⋯)) rfl (Ji _ _ (by decide))
def drawn(c k:Int):Int:=if ZH c k % 4=0 then ([1000000000000000000000000000000,-1000000000000000000000000000000,0,1-1000000000000000000000000000000]:List Int).getD (ZH c (k+1) % 4).toNat 0 else if ZH c k % 4=1 then (ZH c (k+1) * 10000000000000000000000+ZH c (k+2) * 10000000000000+ZH c (k+1)) % (2 * 1000000000000000000000000000000+1)-1000000000000000000000000000000 else ZH c (k+1) % 9-4
theorem Zt{f:aB}{g:bM}{env:En}{x:DV}{xs:List DV}{U hp1 hp2:Hs}(h:f env U=some (x,hp1))(h':g env hp1=some (xs,hp2)):Qc f g env U=some (x::xs,hp2):=by unfold Qc;rw[Qf h,Qf h'];rfl
abbrev Zs:=List (Int×Int)
def zK(z:Zs):List Int:=z.map (·.1)
def zV(z:Zs):List Int:=z.map (·.2)
theorem vU{k:Key}{d:DV}:∀{a:List (Key×DV)},(a.map (·.1)).Nodup->(k,d)∈a->ZW a k=some d
  | [],_,h=>by cases h
  |p::r,i,h=>by
    obtain⟨c,g⟩:=List.nodup_cons.mp i;rw[Jw];rcases A9.mp h with e|e
    . rw[<- e,B8 rfl]
    . rw[B7,vU g e]
      intro q;exact c (by show p.1∈_;rw[q];exact List.mem_map_of_mem (f:=(·.1)) e)
theorem K8{n:Nat}{U:Hs}{a:List (Key×DV)}{k:Int}{d:DV}(h:U[n]?=some (.aJ a))(hd:ZW a (.inl k)=some d):au (.ref n) (.int k) U=some (d,U):=by show(Zx n >>= _) U=_;rw[Qf (Q8 h)];show(YF (.int k) >>= λk=>xO (ZW a k)) U=_;rw[show YF (.int k)=pure (.inl k)from rfl,Cd,hd];rfl
theorem Ua{U:Hs}{a:Nat}{o:OV}(h:U[a]?=some o):U.set a o=U:=by
 refine List.ext_getElem? λi=>?_;by_cases q:a=i
 ·subst q;rw[Aq (Ac.mp h).1,h]
 ·rw[Aj q]
theorem yZ{e o j:aB}{env:En}{U:Hs}{a:Nat}{n:Int}{c:List (Key×DV)}{d:DV}(f:e env U=some (d,U))(l:o env U=some (.ref a,U))(g:j env U=some (.int n,U))(h:U[a]?=some (.aJ c))(i:c.length<100000):JX e (dW o j) env U=some ((.nx,env),U.set a (.aJ (Yu c (.inl n) d))):=by refine y0 f ?_;unfold dW;rw[Qf l,Qf g,Qf (WW (d:=d) h (show yD (.int n)=some (.inl n)from rfl) i)];rfl
theorem ur{nxt:NX}{t:DV->M Bool}{f:DV->M DV}{p:DV->Bool}{U:Hs}(ds:List DV)(j:∀i,i<=ds.length->nxt i U=some (ds[i]?,U))(o:∀d∈ds,t d U=some (p d,U))(hf:∀d∈ds,f d U=some (d,U))(l:ds.length<100000):Xm nxt t f 100000 0 U=some (ds.filter p,U):=by
  suffices h:∀(m i n:Nat),m+i=ds.length->m<n->Xm nxt t f n i U=some ((ds.drop i).filter p,U)by simpa using h ds.length 0 100000 rfl l
  intro m;induction m with
  |zero =>
    intro i n e g;obtain⟨n,rfl⟩:∃k,n=k+1:=⟨n-1,⋯⟩;have:i=ds.length:=⋯
    subst this;have c:=j ds.length (Ae _);rw[show ds[ds.length]?=none by simp]at c;rw[Xm,Qf c,List.drop_length];rfl
  |succ m r =>
    intro i n e g;obtain⟨n,rfl⟩:∃k,n=k+1:=⟨n-1,⋯⟩;have a:i<ds.length:=⋯
    have c:=j i ⋯;rw[Ab a]at c;have hi:=r (i+1) n ⋯ ⋯;rw[Xm,Qf c];simp only;rw[Qf (o ds[i] (Bi a)),A7 a];cases q:p ds[i]with
    |false=>rw[List.filter_cons_of_neg (by simp[q])];simpa using hi
    |true=>rw[List.filter_cons_of_pos q];simp only[if_true];rw[Qf (hf ds[i] (Bi a)),Qf hi];rfl
def cV(r:Int)(k:Nat)(t a b:Int):List (Str×DV):=[("page_room", .int r),("kept", .ref k),("top", .int t),("read_count", .int a),("write_count", .int b)]
theorem xl(r:Int)(k:Nat)(t a b:Int):List.lookup ("kept" : Str) (cV r k t a b)=some (DV.ref k):=by rfl
theorem wI(r:Int)(k:Nat)(t a b:Int):List.lookup ("write_count" : Str) (cV r k t a b)=some (DV.int b):=by rfl
theorem vL(r:Int)(k:Nat)(t a b c:Int):zd ("write_count" : Str) (.int c) (cV r k t a b)=cV r k t a c:=by rfl
theorem WE(r:Int)(k:Nat)(t a b c:Int):zd ("top" : Str) (.int c) (cV r k t a b)=cV r k c a b:=by rfl
def GA(r:Int)(k:Nat)(t a b:Int):(cV r k t a b).length=5:=rfl
theorem Kj(r:Int)(k:Nat)(t a b:Int):List.lookup ("check_number" : Str) (cV r k t a b)=none:=by rfl
section
variable{r t a b:Int}{n k:Nat}{ps:List DV}{U:Hs}
theorem GP{i:Int}(c:U[n]?=some (.ins "Shelf" (cV r k t a b)))(d:U[k]?=some (.lst ps))(e:0<=i)(f:i<ps.length) :
  ZG [.ref n,.int i] U=some (.non,U):=by
 have g:¬ i<0:=⋯
 have h:¬ (ps.length:Int)<=i:=⋯
 simp[ZG,J7,Zv,Qv,Qx,Zc,VX,aN,Zn,gi,GU,gf,gh,Qe,Qa,eC,eB,eX,Jx,cG,XF,Jy,YY,Vq,dG,ZV,Qk,Qc,ZK,Zz,Qw,QA,QG,gN,XC,XW,Y4,qc,Y8,Y2,XN,VV,VU,uZ,YZ,qe,Q5,qo,yo,mW,JX,dW,Gn,Zk,qk,jK,KU,vJ,fQ,fJ,fZ,QY,J4,vc,vb,au,QV,VF,xO,YF,yD,dM,Kx,mU,Z9,jL,Zu,XE,GZ,k_,ze,xa,zh,zf,YM,j9,xc,xb,Xd,YE,XG,qN,c,d,xl,e,f,g,h]
theorem Gg{i:Nat}(d:U[n]?=some (.ins "Shelf" (cV r k t a b)))(e:U[k]?=some (.lst ps))(f:i<ps.length) :
  Jk [.ref n,.int i] U=some (.non,U.set n (.ins "Shelf" (cV r k i a b))):=by
 have c:=GP (i:=(i:Int)) d e ⋯ ⋯;simp[Jk,X5,Zv,Qv,Qx,Zc,VX,aN,Zn,gi,GU,gf,gh,Qe,Qa,eC,eB,eX,Jx,cG,XF,Jy,YY,Vq,dG,ZV,Qk,Qc,ZK,Zz,Qw,QA,QG,gN,XC,XW,Y4,qc,Y8,Y2,XN,VV,VU,uZ,YZ,qe,Q5,qo,yo,mW,JX,dW,Gn,Zk,qk,jK,KU,vJ,fQ,fJ,fZ,QY,J4,vc,vb,au,QV,VF,xO,YF,yD,dM,Kx,mU,Z9,jL,Zu,XE,GZ,k_,ze,xa,zh,zf,YM,j9,xc,xb,Xd,YE,XG,d,e,c,xl,WE,GA,Kj]
theorem SQ{i:Nat}{d:DV}(f:U[n]?=some (.ins "Shelf" (cV r k t a b)))(g:U[k]?=some (.lst ps))(e:n≠k)(h:i<ps.length) :
  JY [.ref n,.int i,d] U=some (.non,(U.set n (.ins "Shelf" (cV r k t a (b+1)))).set k (.lst (ps.set i d))):=by
 have c:=GP (i:=(i:Int)) f g ⋯ ⋯;simp[JY,zN,Zv,Qv,Qx,Zc,VX,aN,Zn,gi,GU,gf,gh,Qe,Qa,eC,eB,eX,Jx,cG,XF,Jy,YY,Vq,dG,ZV,Qk,Qc,ZK,Zz,Qw,QA,QG,gN,XC,XW,Y4,qc,Y8,Y2,XN,VV,VU,uZ,YZ,qe,Q5,qo,yo,mW,JX,dW,Gn,Zk,qk,jK,KU,vJ,fQ,fJ,fZ,QY,J4,vc,vb,au,QV,VF,xO,YF,yD,dM,Kx,mU,Z9,jL,Zu,XE,GZ,k_,ze,xa,zh,zf,YM,j9,xc,xb,Xd,YE,XG,f,g,c,xl,wI,vL,GA,Kj,e,e.symm,kK h]
theorem Ox{pg:DV}(e:U[n]?=some (.ins "Shelf" (cV r k t a b)))(f:U[k]?=some (.lst ps))(d:n≠k)(g:ps.length<99999) :
  XX [.ref n,pg] U=some (.int ps.length,(U.set n (.ins "Shelf" (cV r k t a (b+1)))).set k (.lst (ps++[pg]))):=by
 have c:ps.length<lim:=by unfold lim;lia
 simp[XX,yc,Zv,Qv,Qx,Zc,VX,aN,Zn,gi,GU,gf,gh,Qe,Qa,eC,eB,eX,Jx,cG,XF,Jy,YY,Vq,dG,ZV,Qk,Qc,ZK,Zz,Qw,QA,QG,gN,XC,XW,Y4,qc,Y8,Y2,XN,VV,VU,uZ,YZ,qe,Q5,qo,yo,mW,JX,dW,Gn,Zk,qk,jK,KU,vJ,fQ,fJ,fZ,QY,J4,vc,vb,au,QV,VF,xO,YF,yD,dM,Kx,mU,Z9,jL,Zu,XE,GZ,k_,ze,xa,zh,zf,YM,j9,xc,xb,Xd,YE,XG,e,f,xl,wI,vL,GA,c,d,d.symm]
end
def VE{f g:aB}{env:En}{U:Hs}{i j:Int}(hf:f env U=some (.int i,U))(a:g env U=some (.int j,U)):Qe cW f g env U=some (.bl (decide (i<=j)),U):=Qs hf a rfl
theorem Vc{c d:bF}{env:En}{U:Hs}{a b:Bool}(h:c env U=some (a,U))(h':d env U=some (b,U)):Jx c d env U=some (a&&b,U):=by
 cases a
 ·exact xD h
 ·exact(xE h).trans h'
theorem kT{c d:bF}{env:En}{U:Hs}{a b:Bool}(h:c env U=some (a,U))(h':d env U=some (b,U)):cG c d env U=some (a||b,U):=by
 cases a
 ·exact(kq h).trans h'
 ·exact kr h
theorem MM(a:List Int)(U:Hs):aX (.lst (a.map .int)) (.lst []) U=some (.bl a.isEmpty,U):=by
 have c:Pl 1 (.lst (a.map .int)):=λd hd=>by obtain⟨x,_,rfl⟩:=By.mp hd;exact zc 0 x
 have e:Pl 1 (.lst []):=λd hd=>nomatch hd;unfold aX;rw[Qf (zr c e (by decide) (by decide) U)]
 cases a<;>simp[toP,bU,PyData.eqv,PyData.eqvAll]<;>rfl
theorem BO{a:Nat}(c:List Int){U:Hs}(i:U[a]?=some (.lst (c.map .int))):aX (.ref a) (.lst []) U=some (.bl c.isEmpty,U):=by
 have f:∀d∈c.map DV.int,Pl 0 d:=λd hd=>by obtain⟨x,_,rfl⟩:=By.mp hd;exact zc 0 x
 have j:Pl 1 (.lst []):=λd hd=>nomatch hd;have e:aV 40 U (.ref a)=some (.lst (c.map .int)):=by show(match U[a]? with|some (.lst ds)=>(ds.mapM (aV 39 U)).map DV.lst|_=>none)=_;rw[i];show((c.map DV.int).mapM (aV 39 U)).map DV.lst=_;rw[JW λd hd=>xA 0 d 38 U (f d hd)];rfl
 have q:=MM c U;unfold aX Xs uw at q ⊢;have h:aV 40 U (.lst (c.map .int))=some (.lst (c.map .int)):=XD (n:=1) (d:=.lst (c.map .int)) f (by decide) U;show(((Option.map _ (aV 40 U (.ref a))).bind _).bind _)=_;rw[e];have g:(((Option.map _ (aV 40 U (.lst (c.map .int)))).bind _).bind _)=_:=q;rw[h]at g;exact g
theorem Kd{U:Hs}{a:Nat}{ds:List DV}(h:U[a]?=some (.lst ds)):qk "list" (.ref a) U=some ((),U):=by show(Zx a >>= _) U=_;rw[Qf (Q8 h)];rfl
theorem Y1{o:aB}{fa:bM}{env:En}{U hp1:Hs}{a b:Nat}{l ds c:List DV}(j:o env U=some (.ref a,U))(d:U[a]?=some (.lst l))(f:fa env U=some ([.ref b],hp1))(h:hp1[a]?=some (.lst ds))(g:hp1[b]?=some (.lst c))(i:ds.length+c.length<=100000):Zk "list" Jf o fa env U=some (.non,hp1.set a (.lst (ds++c))):=by have e:=BN (o:=eC (.ref a)) (fa:=λ_=>pure [.ref b]) (env:=env) (U:=hp1) rfl h rfl g i;unfold Zk at e ⊢;rw[Qf j,Qf (Kd d),Qf f];rw[Qf (show eC (.ref a) env hp1=some (.ref a,hp1)from rfl),Qf (Kd h)]at e;exact e
theorem Z2{o e:aB}{env:En}{U hp1:Hs}{a:Nat}{j ds:List DV}{d:DV}(i:o env U=some (.ref a,U))(c:U[a]?=some (.lst j))(f:e env U=some (d,hp1))(h:hp1[a]?=some (.lst ds))(g:ds.length<100000):Zk "list" QY o (Qc e Qk) env U=some (.non,hp1.set a (.lst (ds++[d]))):=by have q:=HK (o:=eC (.ref a)) (e:=eC d) (env:=env) (U:=hp1) rfl h rfl g;unfold Zk at q ⊢;rw[Qf i,Qf (Kd c),Qf (QR f)];rw[Qf (show eC (.ref a) env hp1=some (.ref a,hp1)from rfl),Qf (Kd h),Qf (QR (show eC d env hp1=some (d,hp1)from rfl))]at q;exact q
theorem JT{f:aB}{env:En}{U:Hs}{n:Nat}{ds:List DV}(h:f env U=some (.ref n,U))(a:U[n]?=some (.lst ds)):cH f env U=some (dU n,U):=by unfold cH;rw[Qf h];show(Zx n >>= _) U=_;rw[Qf (Q8 a)];rfl
theorem zA{f:eZ}{g:dY}{body:aD}{env:En}{U hp1:Hs}{n:Nat}{r:(Fl×En)×Hs}(h:f env U=some (dU n,hp1))(h':Z8 (dU n) (λd env=>do let env' <- g d env;body env') 100000 0 env hp1=some r):ZN f g body env U=some r:=by unfold ZN;rw[Qf h];exact h'
def cD(a:List Int):List (Key×DV):=a.map λn=>((.inl n:Key),DV.bl true)
theorem gX{a:List Int}{n:Int}(h:n∉a):ZW (cD a) (.inl n)=none:=by unfold ZW;rw[Option.map_eq_none_iff,List.find?_eq_none];intro x hx;obtain⟨m,c,rfl⟩:=By.mp hx;simp only[decide_eq_true_eq];exact λq=>h (Sum.inl.inj q▸c)
theorem N_{a:List Int}{n:Int}(h:n∉a):Yu (cD a) (.inl n) (.bl true)=cD (a++[n]):=by unfold Yu;rw[xo,gX h];simp[cD]
theorem SJ{f:aB}{env:En}{U hp1:Hs}{n:Nat}{ds:List DV}(h:f env U=some (.ref n,hp1))(a:hp1[n]?=some (.lst ds)):cH f env U=some (dU n,hp1):=by unfold cH;rw[Qf h];show(Zx n >>= _) hp1=_;rw[Qf (Q8 a)];rfl
theorem Wb{f g h:aB}{env:En}{U:Hs}{i j k:Int}(a:f env U=some (.int i,U))(c:g env U=some (.int j,U))(d:h env U=some (.int k,U)):qN cW bW f g h env U=some (.bl (decide (i<=j)&&decide (j<k)),U):=by
 unfold qN;rw[Qf a,Qf c,Qf (show cW (.int i) (.int j) U=some (.bl (decide (i<=j)),U)from rfl)];cases decide (i<=j)
 ·rfl
 ·exact(Qf (show eX (.bl true) U=some (true,U)from rfl)).trans ((Qf d).trans rfl)
def yU(w:Hs)(env:En):XE env w=some (.ref w.length,w++[.aJ []]):=rfl
def Z4(w:Hs)(env:En):Zu Qk env w=some (.ref w.length,w++[.lst []]):=rfl
theorem QU(w:Hs)(x:OV):(w++[x])[w.length]?=some x:=by simp
theorem Wp{f g:aB}{env:En}{U:Hs}{m:Nat}{ds:List DV}(hf:f env U=some (.tup ds,U))(a:g env U=some (.int m,U)):bL f Zb (QX g) env U=some (.tup (ds.take m),U):=by unfold bL;rw[Qf hf,Qf (show Zb env U=some (none,U)from rfl),Qf (show QX g env U=some (some (m:Int),U)by unfold QX;rw[Qf a];rfl)];show some (DV.tup (D.YC ds none (some (m:Int))),U)=_;rw[jF]
theorem Uc{f g:aB}{env:En}{U:Hs}{m:Nat}{ds:List DV}(hf:f env U=some (.tup ds,U))(a:g env U=some (.int m,U)):bL f (QX g) Zb env U=some (.tup (ds.drop m),U):=by unfold bL;rw[Qf hf,Qf (show QX g env U=some (some (m:Int),U)by unfold QX;rw[Qf a];rfl),Qf (show Zb env U=some (none,U)from rfl)];show some (DV.tup (D.YC ds (some (m:Int)) none),U)=_;rw[jE]
theorem gZ{f g:aB}{env:En}{U:Hs}{xs ys:List DV}(hf:f env U=some (.tup xs,U))(a:g env U=some (.tup ys,U))(c:xs.length+ys.length<=100000):Qe QP f g env U=some (.tup (xs++ys),U) :=
 Qs hf a (by show(QG (JV (xs++ys)) >>= λ_=>pure (DV.tup (xs++ys))) U=_;rw[show JV (xs++ys)=true from Ca (by rw[Ak];exact c)];rfl)
def Jg{f:aB}{env:En}{U:Hs}{x:Int}(m:Int)(a:0<m)(h:f env U=some (.int x,U)):Qe Za f (eC (.int m)) env U=some (.int (x % m),U):=Qs h rfl (ZE (Ji _ _ a) U)
def J3{f:aB}{env:En}{U:Hs}{ds:List DV}(hf:f env U=some (.tup ds,U)):QA QV (Qc f Qk) env U=some (.int ds.length,U):=Jd (QR hf) rfl
theorem WT{U:Hs}{a i:Nat}{ds:List DV}{d:DV}(h:U[a]?=some (.lst ds))(hi:i<ds.length):Gn (.ref a) (.int (i:Int)) d U=some ((),U.set a (.lst (ds.set i d))):=by show(Zx a >>= _) U=_;rw[Qf (Q8 h)];show(dM (.int (i:Int)) >>= λk=>match ixN ds.length k with|some j=>jp a (.lst (ds.set j d))|none=>failure) U=_;simp only[dM,Cd,kK hi];rfl
theorem RQ{e o j:aB}{env:En}{U:Hs}{a n:Nat}{ds:List DV}{d:DV}(c:e env U=some (d,U))(i:o env U=some (.ref a,U))(f:j env U=some (.int (n:Int),U))(h:U[a]?=some (.lst ds))(g:n<ds.length):JX e (dW o j) env U=some ((.nx,env),U.set a (.lst (ds.set n d))):=by refine y0 c ?_;unfold dW;rw[Qf i,Qf f,Qf (WT (d:=d) h g)];rfl
theorem xT(n:Nat):QZ 0 n=(List.range n).map λ(i:Nat)=>DV.int (i:Int):=by unfold QZ;refine List.map_congr_left λi _=>?_;rw[Int.zero_add]
theorem Wu{n:Nat}{U:Hs}{ds:List DV}(h:U[n]?=some (.lst ds)):lV [.ref n] U=some (.lst ds,U):=by
 have e:mV (.ref n) U=some (ds,U):=by show(Zx n >>= _) U=_;rw[Qf (Q8 h)];rfl
 show(mV (.ref n) >>= _) U=_;rw[Qf e];rfl
theorem WB{f g:aB}{env:En}{U:Hs}{a m:Nat}{ds:List DV}(hf:f env U=some (.ref a,U))(c:U[a]?=some (.lst ds))(d:g env U=some (.int m,U)):jM f Zb (QX g) env U=some (.lst (ds.take m),U):=by unfold jM;rw[Qf hf,Qf (show Zb env U=some (none,U)from rfl),Qf (show QX g env U=some (some (m:Int),U)by unfold QX;rw[Qf d];rfl)];show(Zx a >>= _) U=_;rw[Qf (Q8 c)];show some (DV.lst (D.YC ds none (some (m:Int))),U)=_;rw[jF]
theorem jq{f g:aB}{env:En}{U:Hs}{a m:Nat}{ds:List DV}(hf:f env U=some (.ref a,U))(c:U[a]?=some (.lst ds))(d:g env U=some (.int m,U)):jM f (QX g) Zb env U=some (.lst (ds.drop m),U):=by unfold jM;rw[Qf hf,Qf (show QX g env U=some (some (m:Int),U)by unfold QX;rw[Qf d];rfl),Qf (show Zb env U=some (none,U)from rfl)];show(Zx a >>= _) U=_;rw[Qf (Q8 c)];show some (DV.lst (D.YC ds (some (m:Int)) none),U)=_;rw[jE]
def yY(c:Zs):(bJ c).length=c.length:=Bb _
def kX(a b:Zs):bJ (a++b)=bJ a++bJ b:=List.map_append
structure Pp where
 lv:Int
 ks:List Int
 ps:List Int
 hi:Option Int
 sd:Option Int
def aG(p:Pp):DV:=.tup [.int p.lv,.tup (p.ks.map .int),.tup (p.ps.map .int),opt p.hi,opt p.sd]
def p0:Pp:=⟨0,[],[],none,none⟩
def aP(w:Hs)(d:DV)(ds:List DV):Prop:=d=.lst ds∨∃n,d=.ref n/\w[n]?=some (.lst ds)
def Sub(w h:Hs):Prop:=∀(i:Nat)(x:OV),w[i]?=some x->h[i]?=some x
def Sub.refl(w:Hs):Sub w w:=λ_ _ e=>e
def Sub.trans{a b c:Hs}(h:Sub a b)(h':Sub b c):Sub a c:=λi x e=>h' i x (h i x e)
theorem Sub.app(w l:Hs):Sub w (w++l):=λi x e=>by rw[Af (Ac.mp e).1];exact e
theorem Sub.set{w h:Hs}{a:Nat}(s:Sub w h)(c:w.length<=a)(x:OV):Sub w (h.set a x):=λi y e=>by have:=(Ac.mp e).1;rw[Aj ⋯];exact s i y e
theorem Sub.len{w h:Hs}(s:Sub w h):w.length<=h.length:=by
 rcases Nat.lt_or_ge h.length w.length with q|q
 ·have e:=Ab q;have:=(Ac.mp (s _ _ e)).1;lia
 ·exact q
theorem aP.sub{w h:Hs}{d:DV}{ds:List DV}(x:aP w d ds)(s:Sub w h):aP h d ds:=by
 rcases x with rfl|⟨n,rfl,e⟩
 ·exact .inl rfl
 ·exact .inr ⟨n,rfl,s _ _ e⟩
theorem uJ{f g:aB}{env:En}{w:Hs}{d:DV}{ds:List DV}{i:Nat}{x:DV}(hx:aP w d ds)(hf:f env w=some (d,w))(a:g env w=some (.int i,w))(hi:ds[i]?=some x):Qe au f g env w=some (x,w):=by
 rcases hx with rfl|⟨n,rfl,e⟩
 ·exact Zl hf a hi
 ·exact Z6 hf e a hi
theorem yT{f:aB}{env:En}{w:Hs}{d:DV}{ds:List DV}(hx:aP w d ds)(hf:f env w=some (d,w)):QA QV (Qc f Qk) env w=some (.int ds.length,w):=by
 rcases hx with rfl|⟨n,rfl,e⟩
 ·exact Ow hf
 ·exact ZT hf e
def aO(P:List Pp)(n:Int):Pp:=P.getD n.toNat p0
def In(P:List Pp)(n:Int):Prop:=0<=n/\n<(P.length:Int)
theorem Q_{P:List Pp}{n:Int}(h:In P n):(P.map aG)[n.toNat]?=some (aG (aO P n)):=by
 have a:n.toNat<P.length:=by have:=h.1;have:=h.2;lia
 rw[Be,Ab a];unfold aO;rw[Br,Ab a];rfl
theorem XR{P:List Pp}{f g:aB}{env:En}{w:Hs}{d:DV}{n:Int}(hx:aP w d (P.map aG))(hf:f env w=some (d,w))(a:g env w=some (.int n,w))(h:In P n):Qe au f g env w=some (aG (aO P n),w) :=
 uJ (i:=n.toNat) hx hf (by rw[Int.toNat_of_nonneg h.1];exact a) (Q_ h)
def ZR{f:aB}{env:En}{w:Hs}{p:Pp}{i:Nat}{x:DV}(hf:f env w=some (aG p,w))(hx:[DV.int p.lv,.tup (p.ks.map .int),.tup (p.ps.map .int),opt p.hi,opt p.sd][i]?=some x):Qe au f (eC (.int i)) env w=some (x,w):=JQ (i:=i) hf rfl hx
def run(P:List Pp):Nat->List Int->Option Int->List Int
 |0,_,_=>[]
 |_+1,_,none=>[]
 |f+1,a,some n=>if 0<=n/\n<(P.length:Int)/\n∉a then n::run P f (a++[n]) (aO P n).sd else []
def Good(P:List Pp)(a:List Int):Prop:=a.Nodup/\∀n∈a,In P n
theorem vg:∀(L:Nat)(l:List Int),l.Nodup->(∀n∈l,0<=n/\n<(L:Int))->l.length<=L
  |0,l,_,h=>by
    cases l with
    |nil=>exact Ae _
    |cons a l=>have:=h a Bz;lia
  |L+1,l,nd,h=>by
    have c:=vg L (l.erase L) (nd.erase _) (λn d=>by obtain⟨a,b⟩:=(nd.mem_erase_iff).mp d;have:=h n b;lia)
    by_cases q:(L:Int)∈l
    . rw[List.length_erase_of_mem q]at c;lia
    . rw[List.erase_of_not_mem q]at c;lia
def Good.len{P:List Pp}{a:List Int}(h:Good P a):a.length<=P.length:=vg _ _ h.1 h.2
theorem Good.snoc{P:List Pp}{c:List Int}(h:Good P c){n:Int}(i:In P n)(j:n∉c):Good P (c++[n]) :=
 ⟨List.nodup_append.mpr ⟨h.1,by simp,λa d b f e=>j (by rw[<- Ap.mp f,<- e];exact d)⟩,λm g=>(Ag.mp g).elim (h.2 m) λq=>by rw[Ap.mp q];exact i⟩
theorem YL{P:List Pp}:∀(f:Nat)(a:List Int)(o:Option Int),Good P a->Good P (a++run P f a o)
  |0,a,o,h=>by unfold run;rw[Bc];exact h
  |f+1,a,none,h=>by unfold run;rw[Bc];exact h
  |f+1,a,some n,h=>by
    unfold run;split
    . rename_i q
      have:=YL f (a++[n]) (aO P n).sd (h.snoc ⟨q.1,q.2.1⟩ q.2.2);rw[Aw]at this;exact this
    . rw[Bc];exact h
def Yw(P:List Pp)(a:List Int)(o:Option Int):List Int:=run P (P.length+1-a.length) a o
def KR(P:List Pp):List Int->Option Int
 | []=>none
 |n::_=>(aO P n).ps.head?
def YJ(P:List Pp):Nat->List Int->Option Int->List (List Int)
 |0,_,_=>[]
 |c+1,a,o=>Yw P a o::YJ P c (a++Yw P a o) (KR P (Yw P a o))
structure Ok(P:List Pp):Prop where
 len:P.length<=300
 pg:∀p∈P,0<=p.lv/\p.lv<=50/\p.ks.length<=300/\p.ps.length<=300
theorem Ok.at{P:List Pp}(h:Ok P){n:Int}(c:In P n):0<=(aO P n).lv/\(aO P n).lv<=50/\(aO P n).ks.length<=300/\(aO P n).ps.length<=300:=by
 have a:n.toNat<P.length:=by have:=c.1;have:=c.2;lia
 unfold aO;rw[Br,Ab a];exact h.pg _ (Bi a)
theorem jY{f:aB}{env:En}{w:Hs}{o:Option Int}(h:f env w=some (opt o,w)):eB (Qe Xt f (eC .non)) env w=some (o.isSome,w)/\eB (Qe isD f (eC .non)) env w=some (o.isNone,w):=by
 cases o with
 |none=>exact⟨Q2 (Qs (x:=.non) (y:=.non) h rfl rfl),Q2 (Qs (x:=.non) (y:=.non) h rfl rfl)⟩
 |some i=>exact⟨Q2 (Qs (x:=.int i) (y:=.non) h rfl rfl),Q2 (Qs (x:=.int i) (y:=.non) h rfl rfl)⟩
theorem Rp{f g:aB}{env:En}{w:Hs}{n:Int}{a:Nat}{c:List Int}(hf:f env w=some (.int n,w))(h:g env w=some (.ref a,w))(d:w[a]?=some (.aJ (cD c))):eB (Qe XO f g) env w=some (!decide (n∈c),w):=by
 refine Q2 (Qs hf h ?_);have e:(ZW (cD c) (.inl n)).isSome=decide (n∈c):=by
  by_cases q:n∈c
  ·rw[Ca q,<- xo,List.any_eq_true];exact⟨_,List.mem_map_of_mem (f:=λn=>((.inl n:Key),DV.bl true)) q,by simp⟩
  ·rw[Cc q,gX q];rfl
 have:lU (.int n) (.ref a) w=some (decide (n∈c),w):=by show(Zx a >>= _) w=_;rw[Qf (Q8 d)];show some ((ZW (cD c) (.inl n)).isSome,w)=_;rw[e]
 unfold XO;rw[Qf this];rfl
section
variable{P:List Pp}{w:Hs}{d:DV}
theorem WU(hx:aP w d (P.map aG))(hP:P.length<=300)(C:DV){D A:Nat}(hD:w.length<=D)(hA:w.length<=A)(DA:D≠A):∀(f:Nat)(l:Nat)(c done:List Int)(o:Option Int)(h:Hs),Good P c->c.length+f=P.length+1->f<l->Sub w h->h[D]?=some (.aJ (cD c))->h[A]?=some (.lst (done.map .int))->done.length+f<=400 ->
    ∃z h',Z7 (Jx (eB (Qe Xt (Qa 4) (eC .non))) (Jx (eB (qN cW bW (eC (.int 0)) (Qa 4) (QA QV (Qc (Qa 0) (Qk))))) (eB (Qe XO (Qa 4) (Qa 2))))) jT l [.val d,.val C,.val (.ref D),.val (.ref A),.val (opt o)] h=some ((.nx,[.val d,.val C,.val (.ref D),.val (.ref A),.val z]),h')/\h'.length=h.length/\h'[D]?=some (.aJ (cD (c++run P f c o)))/\h'[A]?=some (.lst ((done++run P f c o).map .int))/\∀i,i≠D->i≠A->h'[i]?=h[i]?:=by
  intro f;induction f with
  |zero=>intro l c done o h g e;have:=g.len;lia
  |succ f ih =>
    intro l c done o h g e hf s t y hl;obtain⟨m,rfl⟩:∃m,l=m+1:=⟨l-1,⋯⟩
    let E:DV->En:=λx=>[.val d,.val C,.val (.ref D),.val (.ref A),.val x]
    have F:=(jY (f:=Qa 4) (env:=E (opt o)) (w:=h) (o:=o) (ak rfl)).1;cases o with
    |none =>
      refine⟨.non,h,qh (xD F),rfl,?_,?_,λi _ _=>rfl⟩
      . unfold run;rw[Bc];exact t
      . unfold run;rw[Bc];exact y
    |some n =>
      have Q:=Q2 (Wb (f:=eC (.int 0)) (g:=Qa 4) (h:=QA QV (Qc (Qa 0) (Qk))) (env:=E (.int n)) (U:=h) (i:=0) (j:=n) (k:=P.length) rfl (ak rfl) (by
        have:=yT (f:=Qa 0) (env:=E (.int n)) (hx.sub s) (ak rfl)
        rwa [Bb]at this))
      have R:=Rp (f:=Qa 4) (g:=Qa 2) (env:=E (.int n)) (w:=h) (n:=n) (ak rfl) (ak rfl) t;have v:=(xE F).trans (Vc Q R);by_cases q:0<=n/\n<(P.length:Int)/\n∉c
      . have u:In P n:=⟨q.1,q.2.1⟩
        rw[Ca q.1,Ca q.2.1,Cc q.2.2]at v;have G:=yZ (e:=eC (.bl true)) (o:=Qa 2) (j:=Qa 4) (env:=E (.int n)) (U:=h) (a:=D) (n:=n) (d:=.bl true) rfl (ak rfl) (ak rfl) t (by unfold cD;rw[Bb];have:=g.len;lia);rw[N_ q.2.2]at G;have L:(h.set D (.aJ (cD (c++[n]))))[A]?=some (.lst (done.map .int)):=by rw[Aj DA];exact y
        have O:=Q0 (env:=E (.int n)) (Z2 (o:=Qa 3) (e:=Qa 4) (env:=E (.int n)) (a:=A) (ak rfl) L (ak rfl) L (by rw[Bb];lia))
        let r:=(h.set D (.aJ (cD (c++[n])))).set A (.lst (done.map .int++[.int n]))
        have lD:D<h.length:=(Ac.mp t).1;have lA:A<h.length:=(Ac.mp y).1;have s':Sub w r:=(s.set hD _).set hA _;have gD:r[D]?=some (.aJ (cD (c++[n]))):=by show((h.set D _).set A _)[D]?=_;rw[Aj (Ne.symm DA),Aq lD]
        have gA:r[A]?=some (.lst ((done++[n]).map .int)):=by show((h.set D _).set A _)[A]?=_;rw[Aq (by rw[List.length_set];exact lA),List.map_append];rfl
        have st:=Qt (i:=4) (env:=E (.int n)) (ZR (i:=4) (XR (f:=Qa 0) (g:=Qa 4) (env:=E (.int n)) (hx.sub s') (ak rfl) (ak rfl) u) rfl);obtain⟨z,h',S,T,X,Y,Z⟩:=ih m (c++[n]) (done++[n]) (aO P n).sd r (g.snoc u q.2.2) (by rw[Ak,List.length_singleton];lia) ⋯ s' gD gA (by rw[Ak,List.length_singleton];lia);refine⟨z,h',(xq v ((Qi G).trans ((Qi O).trans st))).trans S,by rw[T];show((h.set D _).set A _).length=_;rw[List.length_set,List.length_set],?_,?_,λi I J=>?_⟩
        . rw[X];conv=>rhs;unfold run
          rw[B8 q,Aw];rfl
        . rw[Y];conv=>rhs;unfold run
          rw[B8 q,Aw];rfl
        . rw[Z i I J];show((h.set D _).set A _)[i]?=_;rw[Aj (Ne.symm J),Aj (Ne.symm I)]
      . have hb:((decide (0<=n)&&decide (n<(P.length:Int)))&&!decide (n∈c))=false:=by rw[Bool.eq_false_iff];intro z;simp only[A0,decide_eq_true_eq,Bool.not_eq_true',decide_eq_false_iff_not]at z;exact q ⟨z.1.1,z.1.2,z.2⟩
        rw[hb]at v;refine⟨.int n,h,qh v,rfl,?_,?_,λi _ _=>rfl⟩
        . unfold run;rw[B7 q,Bc];exact t
        . unfold run;rw[B7 q,Bc];exact y
end
section
variable{P:List Pp}{w:Hs}{d:DV}
theorem KP(hx:aP w d (P.map aG)){h:Hs}(s:Sub w h){a:Nat}{r:List Int}(f:h[a]?=some (.lst (r.map .int)))(l:∀n∈r,In P n):J6 [d,.ref a] h=some (opt (KR P r),h):=by
  let e:En:=[.val d,.val (.ref a)]
  have g:uy (Qa 1) e h=some (!r.isEmpty,h):=by unfold uy;rw[Qf (ak rfl:Qa 1 e h=some (.ref a,h))];show(Zx a >>= _) h=_;rw[Qf (Q8 f)];show some (!(r.map DV.int).isEmpty,h)=_;cases r<;>rfl
  cases r with
  |nil=>exact QB (env:=e) (Zo ((Zf (kr (X6 g))).trans (QC rfl)))
  |cons n r =>
    have j:=l n Bz;have o:Qe au (Qa 1) (eC (.int 0)) e h=some (.int n,h):=Z6 (i:=0) (ak rfl) f rfl rfl;have c:Qe au (Qe au (Qa 0) (Qe au (Qa 1) (eC (.int 0)))) (eC (.int 2)) e h=some (.tup ((aO P n).ps.map .int),h):=ZR (i:=2) (XR (hx.sub s) (ak rfl) o j) rfl;have m:uy (Qe au (Qe au (Qa 0) (Qe au (Qa 1) (eC (.int 0)))) (eC (.int 2))) e h=some (!(aO P n).ps.isEmpty,h):=by unfold uy;rw[Qf c];show some (!((aO P n).ps.map DV.int).isEmpty,h)=_;cases (aO P n).ps<;>rfl
    have tt:=(kq (X6 g)).trans (X6 m);show J6 [d,.ref a] h=some (opt (aO P n).ps.head?,h);cases U:(aO P n).ps with
    |nil=>rw[U]at tt;exact QB (env:=e) (Zo ((Zf tt).trans (QC rfl)))
    |cons x xs=>rw[U]at tt c;exact QB (env:=e) ((Qi ((QL tt).trans QM)).trans (QC (JQ (i:=0) c rfl rfl)))
theorem vM(hx:aP w d (P.map aG))(q:P.length<=300){h:Hs}(s:Sub w h){D:Nat}(n:w.length<=D){a:List Int}(g:Good P a)(f:h[D]?=some (.aJ (cD a)))(o:Option Int) :
  ∃h',YV [d,opt o,.ref D] h=some (.ref h.length,h')/\h'.length=h.length+1/\h'[D]?=some (.aJ (cD (a++Yw P a o)))/\h'[h.length]?=some (.lst ((Yw P a o).map .int))/\∀i,i<h.length->i≠D->h'[i]?=h[i]?:=by
 have r:D<h.length:=(Ac.mp f).1;have t:=s.len;have u:=g.len;obtain⟨z,h',e,j,l,c,m⟩:=WU hx q (opt o) n t (by lia:D≠h.length) (P.length+1-a.length) 100000 a [] o (h++[.lst []]) g ⋯ ⋯ (s.trans (Sub.app _ _)) (by rw[Af r];exact f) (QU _ _) (by simp;lia);refine⟨h',QB (env:=[.val d,.val (opt o),.val (.ref D),.val (.ref h.length),.val z]) ((Qi (aL:=[.val d,.val (opt o),.val (.ref D),.val (.ref h.length),.un]) (hp1:=h++[.lst []]) (Qt rfl)).trans ((Qi (Qt (ak rfl))).trans ((Qi (show jw _ _=_ from e)).trans (QC (ak rfl))))),by rw[j];simp,l,by rw[List.nil_append]at c;exact c,λi hi Fv=>by rw[m i Fv ⋯,Af hi]⟩
def aK(h:Hs)(bs:List Nat)(a:List (List Int)):Prop:=bs.length=a.length/\∀(i b:Nat)(r:List Int),bs[i]?=some b->a[i]?=some r->h[b]?=some (.lst (r.map .int))
theorem aK.snoc{h h':Hs}{bs:List Nat}{g:List (List Int)}(R:aK h bs g)(k:∀b∈bs,h'[b]?=h[b]?){b:Nat}{r:List Int}(j:h'[b]?=some (.lst (r.map .int))):aK h' (bs++[b]) (g++[r]):=by
 refine⟨by rw[Ak,Ak,R.1];rfl,λi c q a f=>?_⟩;by_cases hi:i<bs.length
 ·rw[Af hi]at a;rw[Af (by rw[<- R.1];exact hi)]at f;rw[k c (As a)];exact R.2 i c q a f
 ·have l:=(Ac.mp a).1;rw[Ak,List.length_singleton]at l;have e:i=bs.length:=⋯
  subst e;rw[Ao (Ae _),Nat.sub_self]at a;rw[R.1,Ao (Ae _),Nat.sub_self]at f;cases a;cases f;exact j
def aK.keep{h h':Hs}{bs:List Nat}{a:List (List Int)}(R:aK h bs a)(s:Sub h h'):aK h' bs a:=⟨R.1,λi b r c e=>s _ _ (R.2 i b r c e)⟩
theorem HQ(P:List Pp):∀(c:Nat)(a:List Int)(o:Option Int),∃(f:List Int)(o':Option Int),(Good P a->Good P f)/\YJ P (c+1) a o=YJ P c a o++[Yw P f o']:=by
  intro c;induction c with
  |zero=>intro a o;exact⟨a,o,id,rfl⟩
  |succ c h=>intro a o;obtain⟨f,o',g,e⟩:=h (a++Yw P a o) (KR P (Yw P a o));exact⟨f,o',λq=>g (YL _ _ _ q),by show Yw P a o::YJ P (c+1) _ _=_;rw[e];rfl⟩
theorem uL(hx:aP w d (P.map aG))(ok:Ok P){root:Int}(I:In P root):∀(c l:Nat)(done:List (List Int))(bs:List Nat)(j:List Int)(o:Option Int)(u:Sl)(h:Hs),done.length+c=(aO P root).lv.toNat+1->c<l->Good P j->Sub w h->h[w.length]?=some (.lst (bs.map .ref))->h[w.length+1]?=some (.aJ (cD j))->aK h bs done->(∀b∈bs,w.length+2<=b) ->
    ∃o' T h' r,Z7 (eB (Qe cW (QA QV (Qc (Qa 2) (Qk))) (Qe au (Qe au (Qa 0) (Qa 1)) (eC (.int 0))))) qm l [.val d,.val (.int root),.val (.ref w.length),.val (.ref (w.length+1)),.val (opt o),u] h=some ((.nx,[.val d,.val (.int root),.val (.ref w.length),.val (.ref (w.length+1)),.val o',T]),h')/\Sub w h'/\h'[w.length]?=some (.lst (r.map .ref))/\aK h' r (done++YJ P c j o)/\∀b∈r,w.length+2<=b:=by
  intro c;induction c with
  |zero =>
    intro l done bs j o u h e hf g s C L R F;obtain⟨m,rfl⟩:∃m,l=m+1:=⟨l-1,⋯⟩;have t:eB (Qe cW (QA QV (Qc (Qa 2) (Qk))) (Qe au (Qe au (Qa 0) (Qa 1)) (eC (.int 0)))) [.val d,.val (.int root),.val (.ref w.length),.val (.ref (w.length+1)),.val (opt o),u] h=some (false,h):=by
      have a:=ZT (f:=Qa 2) (env:=[.val d,.val (.int root),.val (.ref w.length),.val (.ref (w.length+1)),.val (opt o),u]) (U:=h) (n:=w.length) (ak rfl) C;rw[Bb,R.1]at a;have:=Q2 (VE a (ZR (i:=0) (XR (f:=Qa 0) (g:=Qa 1) (hx.sub s) (ak rfl) (ak rfl) I) rfl));have q:=(ok.at I).1
      rwa [Cc ⋯]at this
    exact⟨opt o,u,h,bs,qh t,s,C,by show aK h bs (done++[]);rw[Bc];exact R,F⟩
  |succ c ih =>
    intro l done bs j o u h e hf g s C L R F;obtain⟨m,rfl⟩:∃m,l=m+1:=⟨l-1,⋯⟩;have q:=(ok.at I)
    let E:DV->Sl->En:=λo x=>[.val d,.val (.int root),.val (.ref w.length),.val (.ref (w.length+1)),.val o,x]
    have t:eB (Qe cW (QA QV (Qc (Qa 2) (Qk))) (Qe au (Qe au (Qa 0) (Qa 1)) (eC (.int 0)))) (E (opt o) u) h=some (true,h):=by
      have a:=ZT (f:=Qa 2) (env:=E (opt o) u) (U:=h) (n:=w.length) (ak rfl) C;rw[Bb,R.1]at a;have:=Q2 (VE a (ZR (i:=0) (XR (f:=Qa 0) (g:=Qa 1) (hx.sub s) (ak rfl) (ak rfl) I) rfl))
      rwa [Ca ⋯]at this
    obtain⟨v,e1,e2,e3,e4,J⟩:=vM hx ok.len s ⋯ g L o;have hl:w.length+1<h.length:=(Ac.mp L).1;have s3:Sub w v:=λi x ex=>by have Y:=(Ac.mp ex).1;rw[J i (by have:=s.len;lia) ⋯];exact s i x ex
    have g1:v[w.length]?=some (.lst (bs.map .ref)):=by rw[J _ ⋯ ⋯];exact C
    have O:Qx 5 (Qw 3 YV (Qc (Qa 0) (Qc (Qa 4) (Qc (Qa 3) (Qk))))) (E (opt o) u) h=some ((.nx,E (opt o) (.val (.ref h.length))),v):=Qt (QI (UQ (ak rfl) (ak rfl) (ak rfl)) rfl e1);have bl:bs.length<=51:=by rw[R.1];lia
    have Q:=Q0 (env:=E (opt o) (.val (.ref h.length))) (Z2 (o:=Qa 2) (e:=Qa 5) (a:=w.length) (ak rfl) g1 (ak rfl) g1 (by rw[Bb];lia))
    let y:=v.set w.length (.lst (bs.map .ref++[.ref h.length]))
    have s4:Sub w y:=s3.set (Ae _) _;have gr:y[h.length]?=some (.lst ((Yw P j o).map .int)):=by show(v.set _ _)[_]?=_;rw[Aj ⋯];exact e4
    have Z:=YL (P:=P) (P.length+1-j.length) j o g;have S:Qx 4 (Qw 2 J6 (Qc (Qa 0) (Qc (Qa 5) (Qk)))) (E (opt o) (.val (.ref h.length))) y=some ((.nx,E (opt (KR P (Yw P j o))) (.val (.ref h.length))),y):=Qt (QI (Zy (ak rfl) (ak rfl)) rfl (KP hx s4 gr λn hn=>Z.2 n (Ah _ hn)));have R4:aK y (bs++[h.length]) (done++[Yw P j o]):=by
      refine R.snoc (λb G=>?_) gr;have:=F b G;have lb:b<h.length:=by
        obtain⟨i,hi⟩:=List.mem_iff_getElem?.mp G;have Y:i<done.length:=by rw[<- R.1];exact(Ac.mp hi).1
        exact(Ac.mp (R.2 i b _ hi (Ab Y))).1
      show(v.set _ _)[_]?=_;rw[Aj ⋯,J b lb ⋯]
    obtain⟨o',T,h',r,f1,f2,f3,X,f5⟩:=ih m (done++[Yw P j o]) (bs++[h.length]) (j++Yw P j o) (KR P (Yw P j o)) (.val (.ref h.length)) y (by rw[Ak,List.length_singleton];lia) ⋯ Z s4 (by show(v.set _ _)[_]?=_;rw[Aq ⋯,List.map_append];rfl) (by show(v.set _ _)[_]?=_;rw[Aj ⋯];exact e3) R4 (λb G=>(Ag.mp G).elim (F b) λz=>by rw[Ap.mp z];lia);rw[Aw]at X;exact⟨o',T,h',r,(xq t ((Qi O).trans ((Qi Q).trans S))).trans f1,f2,f3,X,f5⟩
def ZJ(P:List Pp)(root:Int):List (List Int):=YJ P ((aO P root).lv.toNat+1) [] (some root)
theorem JR(hx:aP w d (P.map aG))(ok:Ok P){root:Int}(c:In P root):∃h bs,Z1 [d,.int root] w=some (.ref w.length,h)/\Sub w h/\h[w.length]?=some (.lst (bs.map .ref))/\aK h bs (ZJ P root)/\∀b∈bs,w.length+2<=b:=by
 have q:=(ok.at c);obtain⟨o',u,h',a,e,f,g,j,l⟩:=uL hx ok c ((aO P root).lv.toNat+1) 100000 [] [] [] (some root) .un (w++[.lst [],.aJ []]) (by simp) ⋯ ⟨.nil,λn t=>nomatch t⟩ (Sub.app _ _) (by simp) (by simp;rfl) ⟨rfl,λi b r m=>by cases m⟩ (λb o=>nomatch o);refine⟨h',a,QB (env:=[.val d,.val (.int root),.val (.ref w.length),.val (.ref (w.length+1)),.val o',u]) ?_,f,g,j,l⟩;have e0:(w++[OV.lst []]).length=w.length+1:=by simp
 refine(Qi (aL:=[.val d,.val (.int root),.val (.ref w.length),.un,.un,.un]) (hp1:=w++[.lst []]) (Qt rfl)).trans ?_;refine(Qi (Qt (yU _ _))).trans ?_;rw[e0,Aw];exact(Qi (Qt (ak rfl))).trans ((Qi (show qj _ _=_ from e)).trans (QC (ak rfl)))
end
theorem A_(a:List (Int×Int)):∀d∈bJ a,Pl 1 d:=λd hd=>by
 obtain⟨p,_,rfl⟩:=By.mp hd;exact uX λx hx=>by
  rcases A9.mp hx with rfl|hx
  ·exact zc _ _
  ·rcases A9.mp hx with rfl|hx
   ·exact zc _ _
   ·cases hx
def cF(w:Hs)(n:Nat)(P:List Pp)(root:Int):Prop:=∃(k:Nat) (a b:Int),w[n]?=some (.ins "Shelf" (cV 8 k root a b))/\w[k]?=some (.lst (P.map aG))
theorem cF.sub{w h:Hs}{n:Nat}{P:List Pp}{root:Int}(x:cF w n P root)(s:Sub w h):cF h n P root:=by obtain⟨k,a,b,c,d⟩:=x;exact⟨k,a,b,s _ _ c,s _ _ d⟩
section
variable{P:List Pp}{w:Hs}{n:Nat}{root:Int}
theorem yX(x:cF w n P root){o:aB}{env:En}(e:o env w=some (.ref n,w)):Z9 "Shelf" "picture" 1 ZX o Qk env w=some (.lst (P.map aG),w):=by obtain⟨k,a,b,c,d⟩:=x;exact jW (a:=n) e c rfl wR rfl (QB (env:=[.val (.ref n)]) (QC (Jd (QR (Cm (a:=n) (ak rfl) c rfl)) (Wu d))))
theorem j8(x:cF w n P root){o:aB}{env:En}(d:o env w=some (.ref n,w)):Z9 "Shelf" "root" 1 Ja o Qk env w=some (.int root,w):=by obtain⟨k,a,b,c,e⟩:=x;exact jW (a:=n) d c rfl wR rfl (QB (env:=[.val (.ref n)]) (QC (Cm (a:=n) (ak rfl) c rfl)))
theorem HZ(x:cF w n P root)(ok:Ok P)(a:In P root):∃h bs,qA [.ref n] w=some (.ref w.length,h)/\Sub w h/\h[w.length]?=some (.lst (bs.map .ref))/\aK h bs (ZJ P root):=by obtain⟨h,bs,e,s,g,R,_⟩:=JR (w:=w) (d:=.lst (P.map aG)) (.inl rfl) ok a;exact⟨h,bs,QB (env:=[.val (.ref n)]) (QC (QI (Zy (yX x (ak rfl)) (j8 x (ak rfl))) rfl e)),s,g,R⟩
theorem va(P:List Pp):∀(c:Nat)(a:List Int)(o:Option Int),(YJ P c a o).length=c
 |0,_,_=>rfl
 |c+1,a,o=>by show(YJ P c _ _).length+1=_;rw[va P c]
theorem Kg(P:List Pp):∀(c:Nat)(a:List Int)(o:Option Int),Good P a->∀r∈YJ P c a o,Good P r
  |0,_,_,_,r,d=>nomatch d
  |c+1,a,o,g,r,d=>by
    have g2:=YL (P:=P) (P.length+1-a.length) a o g;rcases A9.mp d with rfl|d
    . exact⟨(List.nodup_append.mp g2.1).2.1,λn e=>g2.2 n (Ah _ e)⟩
    . exact Kg P c _ _ g2 r d
def xU(P:List Pp)(root:Int):∀r∈ZJ P root,Good P r:=Kg P _ _ _ ⟨.nil,λn a=>nomatch a⟩
def vv(P:List Pp)(root:Int):(ZJ P root).length=(aO P root).lv.toNat+1:=va P _ _ _
end
theorem Uk:∀(a b:List Int),JA (a.map .int) (b.map .int)=bJ (a.zip b)
  | [],_=>by simp[JA,bJ]
  |_::_,[]=>by simp[JA,bJ]
  |x::a,y::b=>by show DV.tup [.int x,.int y]::JA (a.map .int) (b.map .int)=_;rw[Uk a b];rfl
theorem kE{f g:aB}{env:En}{U:Hs}{ds a:List DV}(hf:f env U=some (.tup ds,U))(c:g env U=some (.tup a,U)):lX f g env U=some (JA ds a,U):=by unfold lX;rw[Qf hf,Qf (show gt (.tup ds) U=some (ds,U)from rfl),Qf c,Qf (show gt (.tup a) U=some (a,U)from rfl)];rfl
theorem Rq{f g:aB}{env:En}{U:Hs}{a b:List Int}(hf:f env U=some (.tup (a.map .int),U))(c:g env U=some (.tup (b.map .int),U)):Vp f g env U=some (.ref U.length,U++[.lst (bJ (a.zip b))]):=by unfold Vp;rw[Qf (kE hf c),Uk];rfl
def ji(P:List Pp)(r:List Int):Zs:=r.flatMap λn=>(aO P n).ks.zip (aO P n).ps
theorem MD(P:List Pp)(r:List Int)(n:Int):ji P (r++[n])=ji P r++(aO P n).ks.zip (aO P n).ps:=by unfold ji;rw[List.flatMap_append];simp
theorem vm{P:List Pp}(ok:Ok P):∀(r:List Int),(∀n∈r,In P n)->(ji P r).length<=300 * r.length
  | [],_=>Ae _
  |n::r,h=>by have c:=vm ok r λm a=>h m (At _ a);have:=ok.at (h n Bz);show((aO P n).ks.zip (aO P n).ps++ji P r).length<=_;rw[Ak,List.length_zip,Ay];lia
section
variable{P:List Pp}{w:Hs}{d:DV}
theorem HX(hx:aP w d (P.map aG))(ok:Ok P){o pg nu:Nat}{env:En}{h:Hs}(s:Sub w h){A:Nat}{n:Int}{acc:Zs}(l:env[o]?=some (.val (.ref A)))(m:env[pg]?=some (.val d))(r:env[nu]?=some (.val (.int n)))(c:h[A]?=some (.lst (bJ acc)))(e:In P n)(u:acc.length<=95000) :
  Q5 (Zk "list" Jf (Qa o) (Qc (Vp (Qe au (Qe au (Qa pg) (Qa nu)) (eC (.int 1))) (Qe au (Qe au (Qa pg) (Qa nu)) (eC (.int 2)))) (Qk))) env h=some ((.nx,env),(h++[OV.lst (bJ ((aO P n).ks.zip (aO P n).ps))]).set A (OV.lst (bJ (acc++(aO P n).ks.zip (aO P n).ps)))):=by
 have t:A<h.length:=(Ac.mp c).1;have j:=XR (f:=Qa pg) (g:=Qa nu) (env:=env) (hx.sub s) (ak m) (ak r) e;have q:=ok.at e;have z:=Rq (ZR (i:=1) j rfl) (ZR (i:=2) j rfl);have ex:=Y1 (o:=Qa o) (env:=env) (a:=A) (ak l) c (QR z) (by rw[Af t];exact c) (QU _ _) (by unfold bJ;rw[Bb,Bb,List.length_zip];lia);rw[<- kX]at ex;exact Q0 ex
theorem vn(hx:aP w d (P.map aG))(ok:Ok P){o pg nu:Nat}{body:aD}(f:body=Q5 (Zk "list" Jf (Qa o) (Qc (Vp (Qe au (Qe au (Qa pg) (Qa nu)) (eC (.int 1))) (Qe au (Qe au (Qa pg) (Qa nu)) (eC (.int 2)))) (Qk))))(env:En)(Q:nu<env.length)(L:o≠nu)(U:pg≠nu){h:Hs}(s:Sub w h){A b:Nat}(v:w.length<=A)(C:b≠A)(E:env[o]?=some (.val (.ref A)))(F:env[pg]?=some (.val d)){r:List Int}(I:h[b]?=some (.lst (r.map .int)))(G:h[A]?=some (.lst []))(l:Good P r) :
  ∃x h',Z8 (dU b) (λd env=>do let env' <- gN nu d env;body env') 100000 0 env h=some ((.nx,env.set nu x),h')/\Sub w h'/\h'[A]?=some (.lst (bJ (ji P r))):=by
 have X:=l.len;have pl:=ok.len;obtain⟨q,h',e,x,rfl,s',a⟩:WP (Z8 (dU b) (λd env=>do let env' <- gN nu d env;body env') 100000 0 env) h λq h'=>∃x,q=(.nx,env.set nu x)/\Sub w h'/\h'[A]?=some (.lst (bJ (ji P r))):=by
  refine YW (r.map .int) (λi g h'=>∃x,g=env.set nu x/\Sub w h'/\h'[b]?=some (.lst (r.map .int))/\h'[A]?=some (.lst (bJ (ji P (r.take i))))) (by rw[Bb];lia) (λi g h' _ zz=>?_) ⟨env[nu],by simp,s,I,by simpa [ji,bJ]using G⟩ (λi R hi g h' zz=>?_) (λg h' zz=>?_)
  ·obtain⟨x,_,_,c,_⟩:=zz;exact XQ c i
  ·obtain⟨x,rfl,s',c,a⟩:=zz;rw[Be]at hi;obtain⟨n,j,rfl⟩:=Bk.mp hi;have T:i<r.length:=(Ac.mp j).1;have S:A<h'.length:=(Ac.mp a).1;have O:b<h'.length:=(Ac.mp c).1;have t:=l.2 n (As j);have u:=vm ok (r.take i) λm J=>l.2 m (List.mem_of_mem_take J);rw[Ax]at u;have z:=HX hx ok (o:=o) (pg:=pg) (nu:=nu) (env:=env.set nu (.val (.int n))) s' (by rw[Aj (Ne.symm L)];exact E) (by rw[Aj (Ne.symm U)];exact F) (by rw[Aq Q]) a t ⋯
   let y:Hs:=(h'++[OV.lst (bJ ((aO P n).ks.zip (aO P n).ps))]).set A (OV.lst (bJ (ji P (r.take i)++(aO P n).ks.zip (aO P n).ps)))
   refine⟨(.nx,env.set nu (.val (.int n))),y,?_,.val (.int n),rfl,(s'.trans (Sub.app _ _)).set v _,by show(List.set _ _ _)[b]?=_;rw[Aj (Ne.symm C),Af O];exact c,?_⟩
   ·rw[f];show(Q5 _ ((env.set nu x).set nu (.val (.int n)))) h'=_;rw[List.set_set];exact z
   ·show(List.set _ _ _)[A]?=_;rw[Aq (by simp;lia),List.take_succ,j];show _=some (OV.lst (bJ (ji P (r.take i++[n]))));rw[MD]
  ·obtain⟨x,rfl,s',c,a⟩:=zz;rw[Bb,List.take_length]at a;exact⟨x,rfl,s',a⟩
 exact⟨x,h',e,s',a⟩
end
theorem Tz{x y z:DV}{n:Nat}{U:Hs}(hx:Pl n x)(c:n<40)(d:aV 40 U y=some x)(e:aV 40 U z=some x):Xs y z U=some (true,U):=by have s:=U4 hx c U;have a:=XD hx c U;unfold Xs at s ⊢;rw[Qf (Jn a),Qf (Jn a)]at s;rw[Qf (Jn d),Qf (Jn e)];exact s
theorem Wc{h:Hs}{bs:List Nat}{a:List (List Int)}(R:aK h bs a)(d:a≠[]):∃i b,bs=i++[b]/\h[b]?=some (.lst ((a.getLastD []).map .int))/\a.getLastD []∈a:=by
 have c:bs≠[]:=λe=>d (List.eq_nil_of_length_eq_zero (by rw[<- R.1,e];rfl));refine⟨bs.dropLast,bs.getLast c,(List.dropLast_concat_getLast c).symm,?_,?_⟩
 ·have f:bs[bs.length-1]?=some (bs.getLast c):=by rw[<- List.getLast?_eq_getElem?,List.getLast?_eq_some_getLast c]
  have g:a[bs.length-1]?=some (a.getLastD []):=by rw[R.1,<- List.getLast?_eq_getElem?,List.getLast?_eq_some_getLast d];cases a;exact absurd rfl d;rfl
  exact R.2 _ _ _ f g
 ·cases a with
  |nil=>exact absurd rfl d
  |cons r a=>exact List.getLast_mem _
theorem xK{U:Hs}{a:Nat}{ds:List DV}{d:DV}(h:U[a]?=some (.lst (ds++[d]))):au (.ref a) (.int (-1)) U=some (d,U):=by show(Zx a >>= _) U=_;rw[Qf (Q8 h)];have:atI (ds++[d]) (-1)=some d:=GI _ _;show(xO (atI (ds++[d]) (-1))) U=_;rw[this];rfl
section
variable{P:List Pp}{w:Hs}{n:Nat}{root:Int}
def jV(P:List Pp)(root:Int):List Int:=(ZJ P root).getLastD []
theorem Gp(P:List Pp)(root:Int):ZJ P root≠[]:=λe=>by have:=vv P root;rw[e]at this;cases this
theorem vP(x:cF w n P root)(ok:Ok P)(m:In P root):∃h,zZ [.ref n] w=some (.ref w.length,h)/\Sub w h/\h[w.length]?=some (.lst (bJ (ji P (jV P root)))):=by
 let d:DV:=.lst (P.map aG)
 let c:=w++[OV.lst []]
 have t:c.length=w.length+1:=by show(w++[OV.lst []]).length=_;simp
 have f:Sub w c:=Sub.app _ _
 let E:Sl->En:=λz=>[.val (.ref n),.val d,.val (.ref w.length),z]
 obtain⟨h,bs,e,s,g,R,l⟩:=JR (w:=c) (d:=d) (.inl rfl) ok m;obtain⟨u,b,rfl,a,mem⟩:=Wc R (Gp P root);have r:=l b (Ah _ (Ap.mpr rfl));obtain⟨y,h',i,q,j⟩:=vn (w:=w) (d:=d) (.inl rfl) ok (o:=2) (pg:=1) (nu:=3) (body:=jU) rfl (E .un) (by show 3<4;decide) (by decide) (by decide) (f.trans s) (A:=w.length) (b:=b) (Ae _) ⋯ rfl rfl a (s _ _ (QU _ _)) (xU P root _ mem);rw[List.map_append]at g;have src:cH (Qe au (Qw 2 Z1 (Qc (Qa 1) (Qc (Z9 "Shelf" "root" 1 Ja (Qa 0) Qk) (Qk)))) (ZV (eC (.int 1)))) (E .un) c=some (dU b,h):=SJ (Qs (x:=.ref c.length) (y:=.int (-1)) (hp1:=h) (hp2:=h) (QI (Zy (ak rfl) (j8 (x.sub f) (ak rfl))) rfl e) rfl (xK g)) a;exact⟨h',QB (env:=E y) ((Qi (Qt (yX x (ak rfl)))).trans ((Qi (Qt (Z4 _ _))).trans ((Qi (zA src i)).trans (QC (ak rfl))))),q,j⟩
theorem HR(x:cF w n P root)(ok:Ok P)(u:In P root){pa b:Nat}(f:w[pa]?=some (.lst (P.map aG)))(e:w[b]?=some (.lst ((jV P root).map .int))):∃h,JK [.ref n,.ref pa,.ref b] w=some (.bl true,h):=by
 let F:=w++[OV.lst []]
 have g:Sub w F:=Sub.app _ _;have G:b<w.length:=(Ac.mp e).1
 let E:Sl->En:=λz=>[.val (.ref n),.val (.ref pa),.val (.ref b),.val (.ref w.length),z]
 obtain⟨_,_,mem⟩:∃(_ _:Unit),jV P root∈ZJ P root:=⟨(),(),by
  have:=Gp P root;unfold jV;cases h:ZJ P root with
  |nil=>exact absurd h this
  |cons r I=>exact List.getLast_mem _⟩
 obtain⟨y,h,l,C,q⟩:=vn (w:=w) (d:=.ref pa) (.inr ⟨pa,rfl,f⟩) ok (o:=3) (pg:=1) (nu:=4) (body:=Xo) rfl (E .un) (by show 4<5;decide) (by decide) (by decide) g (A:=w.length) (b:=b) (Ae _) ⋯ rfl rfl (g _ _ e) (QU _ _) (xU P root _ mem);obtain⟨c,j,v,g2⟩:=vP (x.sub C) ok u;refine⟨c,QB (env:=E y) ((Qi (Qt (Z4 _ _))).trans ((Qi (zA (JT (ak rfl) (g _ _ e)) l)).trans (QC (Qs (x:=.ref h.length) (y:=.ref w.length) (hp1:=c) (hp2:=c) (QI (QR (ak rfl)) rfl j) (ak rfl) ?_))))⟩;have m:=v _ _ q;have i:∀a,c[a]?=some (.lst (bJ (ji P (jV P root))))->aV 40 c (.ref a)=some (.lst (bJ (ji P (jV P root)))):=λa t=>by show(match c[a]? with|some (.lst ds)=>(ds.mapM (aV 39 c)).map DV.lst|_=>none)=_;rw[t];show((bJ _).mapM (aV 39 c)).map DV.lst=_;rw[JW λd hd=>xA 1 d 37 c (A_ _ d hd)];rfl
 have pl:Pl 2 (.lst (bJ (ji P (jV P root)))):=Ms (A_ _);unfold aX;rw[Qf (Tz pl (by decide) (i _ g2) (i _ m))];rfl
end
theorem KN{f g:aB}{env:En}{b:Bool}{U hp1:Hs}(h:f env U=some (.bl b,hp1)):YY f g env U=if b=true then some (.bl true,hp1)else g env hp1:=by unfold YY;rw[Qf h];cases b<;>rfl
theorem uG{f:aB}{env:En}{U:Hs}{ds:List DV}(hf:f env U=some (.tup ds,U)):iK f env U=some (ds,U):=by unfold iK;rw[Qf hf];rfl
theorem gW{α:Type}(g:α->Bool):∀ds:List α,iR (ds.map λx=>.bl (g x))=some (ds.map g)
  | []=>rfl
  |d::ds=>by show(iR (ds.map λx=>.bl (g x))).map (g d :: ·)=_;rw[gW g ds];rfl
theorem Ky{α:Type}{c:aB}{env:En}{U:Hs}{ds:List α}{g:α->Bool}(h:c env U=some (.lst (ds.map λx=>.bl (g x)),U)):QA ud (Qc c Qk) env U=some (.bl (ds.all g),U):=by refine Jd (QR h) ?_;show(iI (iR (ds.map λx=>.bl (g x))) >>= λbs=>pure (DV.bl (bs.all id))) U=_;rw[gW,Qf (show iI (some (ds.map g)) U=some (ds.map g,U)from rfl)];show some (DV.bl ((ds.map g).all id),U)=_;rw[List.all_map];rfl
theorem rF(a b:Option Int)(U:Hs):bC (opt a) (opt b) U=some (.bl (!decide (a=b)),U):=by unfold bC;rw[Qf (ML a b U)];rfl
theorem Le(a b:Bool)(U:Hs):bC (.bl a) (.bl b) U=some (.bl (a != b),U):=by unfold bC;rw[Qf (zr (n:=0) (m:=0) (wL 0 a) (wL 0 b) (by decide) (by decide) U)];cases a<;>cases b<;>rfl
def nR(q:Int×Int):Bool:=decide (q.1<q.2)
def sV(ks:List Int):Option Int->Bool
 |none=>true
 |some x=>ks.all λy=>decide (x<=y)
def sY(ks:List Int):Option Int->Bool
 |none=>true
 |some x=>ks.all λy=>decide (y<x)
def p7:Option Int->Option Int->Bool
 |some x,some y=>decide (x<y)
 |none,_=>true
 |some _,none=>true
def qu(p:Pp)(b:Option Int):Bool:=(p.ks.zip (p.ks.drop 1)).all nR&&(sV p.ks b&&(sY p.ks p.hi&&p7 b p.hi))
theorem uU{p:Pp}(Y:p.ks.length<=300)(b:Option Int)(U:Hs):Xq [aG p,opt b] U=some (.bl (qu p b),U):=by
  let e:En:=[.val (aG p),.val (opt b),.val (.tup (p.ks.map .int)),.val (opt p.hi)]
  have E:(p.ks.map DV.int).length<100000:=by rw[Bb];lia
  have P:qy e U=some (.lst ((p.ks.zip (p.ks.drop 1)).map λq=>.bl (nR q)),U):=by
    have z:=kE (f:=Qa 2) (g:=bL (Qa 2) (QX (eC (.int 1))) (Zb)) (env:=e) (U:=U) (ak rfl) (Uc (m:=1) (ds:=p.ks.map .int) (ak rfl) rfl);rw[<- List.map_drop,Uk]at z;have:=KK (nw:=false) (m:=λd=>match d with|.tup [.int a,.int b]=>.bl (decide (a<b))|_=>.non) (src:=cg (lX (Qa 2) (bL (Qa 2) (QX (eC (.int 1))) (Zb)))) (idx:=[]) (t:=qw) (e:=Qe bW (Qe au (Qa 0) (eC (.int 0))) (Qe au (Qa 0) (eC (.int 1)))) (env:=e) (ZS z) (λ_ _=>rfl) (λx hx=>by obtain⟨q,_,rfl⟩:=By.mp hx;exact Qs (x:=.int q.1) (y:=.int q.2) (JQ (i:=0) (ds:=[.int q.1,.int q.2]) (ak rfl) rfl rfl) (JQ (i:=1) (ds:=[.int q.1,.int q.2]) (ak rfl) rfl rfl) rfl) (by rw[yY,List.length_zip];lia)
    unfold bJ at this;rw[List.map_map]at this;exact this
  have O:∀v,b=some v->Xy e U=some (.lst (p.ks.map λk=>.bl (decide (v<=k))),U):=λv u=>by
    have:=KK (nw:=false) (m:=λd=>match d with|.int k=>.bl (decide (v<=k))|_=>.non) (src:=cg (iK (Qa 2))) (idx:=[1]) (t:=qw) (e:=Qe cW (Qa 1) (Qa 0)) (env:=e) (ZS (uG (ak rfl))) (λ_ _=>rfl) (λx hx=>by obtain⟨k,_,rfl⟩:=By.mp hx;exact Qs (x:=.int v) (y:=.int k) (by show some (opt b,U)=_;rw[u];rfl) (ak rfl) rfl) E
    rw[List.map_map]at this;exact this
  have L:∀v,p.hi=some v->Xx e U=some (.lst (p.ks.map λk=>.bl (decide (k<v))),U):=λv u=>by
    have:=KK (nw:=false) (m:=λd=>match d with|.int k=>.bl (decide (k<v))|_=>.non) (src:=cg (iK (Qa 2))) (idx:=[3]) (t:=qw) (e:=Qe bW (Qa 0) (Qa 1)) (env:=e) (ZS (uG (ak rfl))) (λ_ _=>rfl) (λx hx=>by obtain⟨k,_,rfl⟩:=By.mp hx;exact Qs (x:=.int k) (y:=.int v) (ak rfl) (by show some (opt p.hi,U)=_;rw[u];rfl) rfl) E
    rw[List.map_map]at this;exact this
  have pre:∀{f:aD}{r:(Fl×En)×Hs},f e U=some r->(Qv (Qx 2 (Qe au (Qa 0) (eC (.int 1)))) (Qv (Qx 3 (Qe au (Qa 0) (eC (.int 3)))) f)) [.val (aG p),.val (opt b),.un,.un] U=some r:=λk=>(Qi (Qt (ZR (i:=1) (ak rfl) rfl))).trans ((Qi (Qt (ZR (i:=3) (ak rfl) rfl))).trans k);have h:=X6 (Q2 (Ky P));unfold qu;by_cases l:(p.ks.zip (p.ks.drop 1)).all nR=true
  . rw[l]at h ⊢
    rw[Bool.true_and];have F:=(jY (f:=Qa 1) (env:=e) (w:=U) (o:=b) (ak rfl));have G:=(jY (f:=Qa 3) (env:=e) (w:=U) (o:=p.hi) (ak rfl));have T:Qe isD (Qa 1) (eC .non) e U=some (.bl b.isNone,U):=Qs (x:=opt b) (y:=.non) (ak rfl) rfl (ZE (zy b) U);have X:Qe isD (Qa 3) (eC .non) e U=some (.bl p.hi.isNone,U):=Qs (x:=opt p.hi) (y:=.non) (ak rfl) rfl (ZE (zy p.hi) U);have j:YY (Qe isD (Qa 1) (eC .non)) (YY (Qe isD (Qa 3) (eC .non)) (Qe bW (Qa 1) (Qa 3))) e U=some (.bl (p7 b p.hi),U):=by
      rw[KN T];cases c:b with
      |none=>rfl
      |some x =>
        show YY (Qe isD (Qa 3) (eC .non)) (Qe bW (Qa 1) (Qa 3)) e U=_;rw[KN X];cases S:p.hi with
        |none=>rfl
        |some y=>exact Qs (x:=.int x) (y:=.int y) (by show some (opt b,U)=_;rw[c];rfl) (by show some (opt p.hi,U)=_;rw[S];rfl) rfl
    have R:∃B:Bool,Jx (eB (Qe Xt (Qa 1) (eC .non))) (XF (eB (QA ud (Qc (Xy) (Qk))))) e U=some (!B,U)/\B=sV p.ks b:=by
      cases c:b with
      |none=>exact⟨true,xD (by have:=F.1;rw[c]at this;exact this),rfl⟩
      |some x=>exact⟨_,(xE (by have:=F.1;rw[c]at this;exact this)).trans (X6 (Q2 (Ky (O x c)))),rfl⟩
    have Q:∃B:Bool,Jx (eB (Qe Xt (Qa 3) (eC .non))) (XF (eB (QA ud (Qc (Xx) (Qk))))) e U=some (!B,U)/\B=sY p.ks p.hi:=by
      cases c:p.hi with
      |none=>exact⟨true,xD (by have:=G.1;rw[c]at this;exact this),rfl⟩
      |some x=>exact⟨_,(xE (by have:=G.1;rw[c]at this;exact this)).trans (X6 (Q2 (Ky (L x c)))),rfl⟩
    obtain⟨J,n,g2⟩:=R;obtain⟨I,C,g1⟩:=Q;rw[<- g2,<- g1];cases J with
    |false=>exact QB (env:=e) (pre ((Qi ((QL h).trans QM)).trans (Zo ((Zf n).trans (QC rfl)))))
    |true =>
      rw[Bool.true_and];cases I with
      |false=>exact QB (env:=e) (pre ((Qi ((QL h).trans QM)).trans ((Qi ((QL n).trans QM)).trans (Zo ((Zf C).trans (QC rfl))))))
      |true=>rw[Bool.true_and];exact QB (env:=e) (pre ((Qi ((QL h).trans QM)).trans ((Qi ((QL n).trans QM)).trans ((Qi ((QL C).trans QM)).trans (QC j)))))
  . have l:=Bool.eq_false_iff.mpr l
    rw[l]at h ⊢;exact QB (env:=e) (pre (Zo ((Zf h).trans (QC rfl))))
def fl(b:Bool)(nm:Str)(n:Int):List DV:=if b=true then [.tup [.str nm,.int n]]else []
theorem JN(b:Bool)(nm:Str)(n:Int):(fl b nm n).length<=1:=by unfold fl;split<;>simp
theorem X7{c:bF}{o nu:Nat}{env:En}{h:Hs}{A:Nat}{n:Int}{b:Bool}{acc:List DV}(nm:Str)(e:c env h=some (b,h))(f:env[o]?=some (.val (.ref A)))(g:env[nu]?=some (.val (.int n)))(d:h[A]?=some (.lst acc))(i:acc.length<95000):aN c (Q5 (Zk "list" QY (Qa o) (Qc (ZK (Qc (eC (.str nm)) (Qc (Qa nu) (Qk)))) (Qk)))) (Zn) env h=some ((.nx,env),h.set A (.lst (acc++fl b nm n))):=by
  cases b with
  |true=>exact(Zf e).trans (Q0 (Z2 (o:=Qa o) (a:=A) (ak f) d (qg (Zy rfl (ak g)) (by show 2<=100000;decide)) d ⋯))
  |false=>show _=some ((Fl.nx,env),h.set A (.lst (acc++[])));rw[Bc,Ua d];exact(QL e).trans QM
def wanted(p:Pp):Nat:=if p.lv=0 then p.ks.length else p.ks.length+1
theorem WG(p:Pp)(U:Hs):JL [aG p] U=some (.int (wanted p:Nat),U):=by
 let e:En:=[.val (aG p)]
 have a:QA QV (Qc (Qe au (Qa 0) (eC (.int 1))) (Qk)) e U=some (.int p.ks.length,U):=by
  have:=J3 (ZR (f:=Qa 0) (env:=e) (w:=U) (p:=p) (i:=1) (ak rfl) rfl)
  rwa [Bb]at this
 have t:=Q2 (Y0 (g:=eC (.int 0)) (j:=0) (ZR (f:=Qa 0) (env:=e) (w:=U) (p:=p) (i:=0) (ak rfl) rfl) rfl);refine QB (env:=e) (QC ?_);unfold wanted;by_cases q:p.lv=0
 ·rw[q]at t;rw[B8 q];exact(ko t).trans a
 ·rw[show(p.lv==0)=false by simpa using q]at t;rw[B7 q];show _=some (DV.int ((p.ks.length:Int)+1),U);exact(kn t).trans (Q7 a rfl)
def fH(n:Int)(p:Pp)(level:Int)(b fo:Option Int):List DV:=fl (!(p.lv==level)) "level" n++(fl (!qu p b) "order" n++(fl (!((p.ps.length:Int)==(wanted p:Nat))) "parts" n++fl ((p.hi.isNone != p.sd.isNone)||!decide (p.sd=fo)) "links" n))
theorem G9{p:Pp}{pg fo:aB}{env:En}{h:Hs}{o:Option Int}(U:pg env h=some (aG p,h))(hf:fo env h=some (opt o,h)):cG (eB (Qe bC (Qe isD (Qe au pg (eC (.int 3))) (eC .non)) (Qe isD (Qe au pg (eC (.int 4))) (eC .non)))) (eB (Qe bC (Qe au pg (eC (.int 4))) fo)) env h=some ((p.hi.isNone != p.sd.isNone)||!decide (p.sd=o),h):=by have c:=ZR (i:=3) U rfl;have a:=ZR (i:=4) U rfl;have d:Qe isD (Qe au pg (eC (.int 3))) (eC .non) env h=some (.bl p.hi.isNone,h):=Qs (x:=opt p.hi) (y:=.non) c rfl (ZE (zy _) h);have e:Qe isD (Qe au pg (eC (.int 4))) (eC .non) env h=some (.bl p.sd.isNone,h):=Qs (x:=opt p.sd) (y:=.non) a rfl (ZE (zy _) h);exact kT (Q2 (Qs (x:=.bl p.hi.isNone) (y:=.bl p.sd.isNone) d e (Le _ _ h))) (Q2 (Qs (x:=opt p.sd) (y:=opt o) a hf (rF _ _ h)))
theorem VS{p:Pp}(t:p.ks.length<=300)(n level:Int)(b fo:Option Int)(w:Hs):J1 [.int n,aG p,.int level,opt b,opt fo] w=some (.ref w.length,w++[.lst (fH n p level b fo)]):=by
 let E:En:=[.val (.int n),.val (aG p),.val (.int level),.val (opt b),.val (opt fo),.val (.ref w.length)]
 let H:List DV->Hs:=λl=>w++[OV.lst l]
 have a:∀l,(H l)[w.length]?=some (.lst l):=λl=>QU _ _;have d:∀l m,(H l).set w.length (.lst m)=H m:=λl m=>by show(w++[OV.lst l]).set w.length (OV.lst m)=w++[OV.lst m];simp
 have j:=X7 (o:=5) (nu:=0) (env:=E) (h:=H []) (A:=w.length) (n:=n) (acc:=[]) "level" (Q2 (Qs (x:=.int p.lv) (y:=.int level) (ZR (f:=Qa 1) (i:=0) (ak rfl) rfl) (show Qa 2 E (H [])=some (.int level,H [])from rfl) (nQ _ _ _))) rfl rfl (a []) (by show 0<95000;decide);rw[d,List.nil_append]at j;have q:=X7 (o:=5) (nu:=0) (env:=E) (h:=H (fl (!(p.lv==level)) "level" n)) (A:=w.length) (n:=n) "order" (c:=XF (eB (Qw 2 Xq (Qc (Qa 1) (Qc (Qa 3) (Qk)))))) (X6 (Q2 (QI (Zy (ak rfl) (ak rfl)) rfl (uU t b _)))) rfl rfl (a _) (by have:=JN (!(p.lv==level)) "level" n;lia);rw[d]at q;have u:QA QV (Qc (Qe au (Qa 1) (eC (.int 2))) (Qk)) E (H (fl (!(p.lv==level)) "level" n++fl (!qu p b) "order" n))=some (.int p.ps.length,H (fl (!(p.lv==level)) "level" n++fl (!qu p b) "order" n)):=by
  have:=J3 (ZR (f:=Qa 1) (env:=E) (w:=H (fl (!(p.lv==level)) "level" n++fl (!qu p b) "order" n)) (p:=p) (i:=2) (ak rfl) rfl)
  rwa [Bb]at this
 have r:=X7 (o:=5) (nu:=0) (env:=E) (A:=w.length) (n:=n) "parts" (c:=eB (Qe bC (QA QV (Qc (Qe au (Qa 1) (eC (.int 2))) (Qk))) (Qw 1 JL (Qc (Qa 1) (Qk))))) (Q2 (Qs (x:=.int p.ps.length) (y:=.int (wanted p:Nat)) u (QI (QR (ak rfl)) rfl (WG p _)) (nQ _ _ _))) rfl rfl (a _) (by have:=JN (!(p.lv==level)) "level" n;have:=JN (!qu p b) "order" n;rw[Ak];lia);rw[d]at r;have g:=X7 (o:=5) (nu:=0) (env:=E) (h:=H (fl (!(p.lv==level)) "level" n++fl (!qu p b) "order" n++fl (!((p.ps.length:Int)==(wanted p:Nat))) "parts" n)) (A:=w.length) (n:=n) "links" (G9 (pg:=Qa 1) (fo:=Qa 4) (ak rfl) (ak rfl)) rfl rfl (a _) (by have:=JN (!(p.lv==level)) "level" n;have:=JN (!qu p b) "order" n;have:=JN (!((p.ps.length:Int)==(wanted p:Nat))) "parts" n;rw[Ak,Ak];lia);rw[d]at g;have e:fl (!(p.lv==level)) "level" n++fl (!qu p b) "order" n++fl (!((p.ps.length:Int)==(wanted p:Nat))) "parts" n++fl ((p.hi.isNone != p.sd.isNone)||!decide (p.sd=fo)) "links" n=fH n p level b fo:=by unfold fH;rw[Aw,Aw]
 rw[e]at g;exact QB (env:=E) ((Qi (Qt (Z4 _ _))).trans ((Qi j).trans ((Qi q).trans ((Qi r).trans ((Qi g).trans (QC (ak rfl)))))))
theorem vo{a:List (Key×DV)}{k:Key}(h:ZW a k=none)(v:DV):Yu a k v=a++[(k,v)]:=by
 have e:(a.any λkv=>decide (kv.1=k))=false:=by rw[xo,h];rfl
 unfold Yu;rw[B7 (by rw[e];simp)]
def bnd(P:List Pp)(a:List Int)(i:Nat):Option Int:=if i=0 then none else (aO P (a.getD (i-1) 0)).hi
def cT(P:List Pp)(a:List Int)(i:Nat):List (Key×DV):=(List.range i).map λj=>((.inl (a.getD j 0):Key),opt (bnd P a j))
theorem Ss(P:List Pp)(a:List Int)(i:Nat):(cT P a i).length=i:=by simp[cT]
theorem Vg(P:List Pp)(a:List Int)(i:Nat):cT P a (i+1)=cT P a i++[((.inl (a.getD i 0):Key),opt (bnd P a i))]:=by unfold cT;rw[List.range_succ,List.map_append];rfl
theorem jC{P:List Pp}{a:List Int}{k:Int}:∀(i:Nat),(∀j,j<i->a.getD j 0≠k)->ZW (cT P a i) (.inl k)=none
  |0,_=>rfl
  |i+1,h=>by rw[Vg,Uh,jC i λj c=>h j ⋯];show ZW [_] _=none;rw[Jw,B7 (λe=>h i ⋯ (Sum.inl.inj e))];rfl
theorem Vh{P:List Pp}{a:List Int}(nd:a.Nodup):∀(i:Nat){j:Nat},i<=a.length->j<i->ZW (cT P a i) (.inl (a.getD j 0))=some (opt (bnd P a j))
  |0,j,_,h=>⋯
  |i+1,j,d,h=>by
    rw[Vg,Uh];by_cases q:j=i
    . subst q
      rw[jC j λm c=>by rw[Br,Br,Ab ⋯,Ab ⋯];exact List.pairwise_iff_getElem.mp nd m j ⋯ ⋯ c]
      show ZW [_] _=_;rw[Jw,B8 rfl]
    . rw[Vh nd i ⋯ (by lia:j<i)]
theorem Oa{P:List Pp}{a:List Int}(nd:a.Nodup){k:Int}(d:k∈a):ZW (cT P a a.length) (.inl k)=some (opt (bnd P a (a.idxOf k))):=by
 have c:=List.idxOf_lt_length_iff.mpr d;have e:a.getD (a.idxOf k) 0=k:=by rw[Br,Ab c];exact List.getElem_idxOf c
 have:=Vh (P:=P) nd a.length (Ae _) c
 rwa [e]at this
theorem Sq{P:List Pp}{a:List Int}{k:Int}(d:k∉a):ZW (cT P a a.length) (.inl k)=none :=
 jC _ λj c e=>d (by rw[<- e,Br,Ab c];exact Bi c)
theorem NK{w:Hs}{d:DV}{ds:List DV}{f:aB}{env:En}(hx:aP w d ds)(hf:f env w=some (d,w)):∃nxt:NX,cH f env w=some (nxt,w)/\∀h,Sub w h->∀i,i<=ds.length->nxt i h=some (ds[i]?,h):=by
 rcases hx with rfl|⟨n,rfl,e⟩
 ·exact⟨_,zn hf,λh _ i hi=>Ys ds i hi h⟩
 ·exact⟨_,JT hf e,λh s i _=>XQ (s _ _ e) i⟩
theorem VW{f:eZ}{g:dY}{body:aD}{env:En}{U hp1:Hs}{nxt:NX}{r:(Fl×En)×Hs}(h:f env U=some (nxt,hp1))(h':Z8 nxt (λd env=>do let env' <- g d env;body env') 100000 0 env hp1=some r):ZN f g body env U=some r:=by unfold ZN;rw[Qf h];exact h'
section
variable{P:List Pp}{w:Hs}{d:DV}
theorem US(hx:aP w d (P.map aG)){rd:DV}{c:List Int}(t:aP w rd (c.map .int))(g:Good P c)(R:P.length<=300){h:Hs}(s:Sub w h):XY [d,rd] h=some (.ref h.length,h++[.aJ (cT P c c.length)]):=by
 have T:=g.len
 let E:DV->Sl->En:=λb z=>[.val d,.val rd,.val (.ref h.length),.val b,z]
 let H:Nat->Hs:=λi=>h++[.aJ (cT P c i)]
 have u:∀i,Sub w (H i):=λi=>s.trans (Sub.app _ _);obtain⟨nxt,ex,S⟩:=NK (w:=H 0) (f:=Qa 1) (env:=E .non .un) (t.sub (u 0)) (ak rfl);have F:∀i,(H i)[h.length]?=some (.aJ (cT P c i)):=λi=>QU _ _;obtain⟨q,h',e,z,rfl,rfl⟩:WP (Z8 nxt (λd env=>do let env' <- gN 4 d env;zP env') 100000 0 (E .non .un)) (H 0) λq h'=>∃z,q=(.nx,E (opt (bnd P c c.length)) z)/\h'=H c.length:=by
  refine YW (c.map .int) (λi r h'=>∃z,r=E (opt (bnd P c i)) z/\h'=H i) (by rw[Bb];lia) (λi r h' hi zz=>?_) ⟨.un,rfl,rfl⟩ (λi Q hi r h' zz=>?_) (λr h' zz=>?_)
  ·obtain⟨z,_,rfl⟩:=zz;rcases t with rfl|⟨m,rfl,y⟩
   ·cases (zn (f:=Qa 1) (env:=E .non .un) (U:=H 0) (hp1:=H 0) (ds:=c.map .int) rfl).symm.trans ex;exact Ys _ i hi _
   ·cases (JT (f:=Qa 1) (env:=E .non .un) (U:=H 0) (n:=m) rfl (u 0 _ _ y)).symm.trans ex;exact XQ (u i _ _ y) i
  ·obtain⟨z,rfl,rfl⟩:=zz;rw[Be]at hi;obtain⟨n,l,rfl⟩:=Bk.mp hi;obtain⟨J,r⟩:=Ac.mp l;have v:c.getD i 0=n:=by rw[Br,l];rfl
   have L:ZW (cT P c i) (.inl n)=none:=jC i λj G e=>by rw[Br,Ab ⋯]at e;exact absurd (show c[j]=c[i]from e.trans r.symm) (List.pairwise_iff_getElem.mp g.1 j i ⋯ J G)
   have x:=yZ (e:=Qa 3) (o:=Qa 2) (j:=Qa 4) (env:=E (opt (bnd P c i)) (.val (.int n))) (U:=H i) (a:=h.length) (n:=n) (d:=opt (bnd P c i)) (ak rfl) (ak rfl) (ak rfl) (F i) (by rw[Ss];lia);rw[vo L,<- v,<- Vg]at x;have I:(H i).set h.length (.aJ (cT P c (i+1)))=H (i+1):=by show(h++[OV.aJ _]).set h.length _=_;simp[H]
   rw[I,v]at x;have O:=Qt (i:=3) (env:=E (opt (bnd P c i)) (.val (.int n))) (ZR (i:=3) (XR (f:=Qa 0) (g:=Qa 4) (hx.sub (u (i+1))) (ak rfl) (ak rfl) (g.2 n (As l))) rfl);refine⟨(.nx,E (opt (bnd P c (i+1))) (.val (.int n))),H (i+1),?_,.val (.int n),rfl,rfl⟩;have C:bnd P c (i+1)=(aO P n).hi:=by unfold bnd;rw[B7 ⋯,Nat.add_sub_cancel,v]
   rw[C];exact(Qi x).trans O
  ·obtain⟨z,rfl,rfl⟩:=zz;rw[Bb];exact⟨z,rfl,rfl⟩
 exact QB (env:=E (opt (bnd P c c.length)) z) ((Qi (Qt (yU _ _))).trans ((Qi (Qt rfl)).trans ((Qi (VW ex e)).trans (QC (ak rfl)))))
def UA(P:List Pp)(a:List Int)(b:Option Int)(p:Pp)(i:Nat):Bool:=decide (p.ks.length<i)||(!decide (p.ps.getD i 0∈a)||!decide (bnd P a (a.idxOf (p.ps.getD i 0))=(b::p.ks.map some).getD i none))
def kd1(c:Bool)(a:Int)(i:Nat):List DV:=if c=true then [.tup [.str "kid", .int a,.int i]]else []
def XH(P:List Pp)(c:List Int)(a:Int)(b:Option Int)(p:Pp)(m:Nat):List DV:=(List.range m).flatMap λi=>kd1 (UA P c b p i) a i
theorem xN(P:List Pp)(c:List Int)(a:Int)(b:Option Int)(p:Pp)(m:Nat):XH P c a b p (m+1)=XH P c a b p m++kd1 (UA P c b p m) a m:=by unfold XH;rw[List.range_succ,List.flatMap_append];simp
theorem qT(P:List Pp)(c:List Int)(a:Int)(b:Option Int)(p:Pp):∀m,(XH P c a b p m).length<=m
  |0=>Ae _
  |m+1=>by
    rw[xN,Ak];have:=qT P c a b p m;have:(kd1 (UA P c b p m) a m).length<=1:=by unfold kd1;split<;>simp
    lia
theorem UB{p:Pp}(hk:p.ks.length<=300)(hs:p.ps.length<=300){c:List Int}(nd:c.Nodup)(j:Int)(b:Option Int){h:Hs}{kd:Nat}(u:h[kd]?=some (.aJ (cT P c c.length))):JH [.int j,aG p,opt b,.ref kd] h=some (.ref h.length,h++[.lst (XH P c j b p p.ps.length)]):=by
  let K:DV:=.tup (p.ps.map .int)
  let S:DV:=.tup (opt b::p.ks.map .int)
  let E:Sl->Sl->En:=λa z=>[.val (.int j),.val (aG p),.val (opt b),.val (.ref kd),.val K,.val S,.val (.ref h.length),a,z]
  let H:List DV->Hs:=λl=>h++[OV.lst l]
  have lk:kd<h.length:=(Ac.mp u).1;have J:∀l,(H l)[kd]?=some (.aJ (cT P c c.length)):=λl=>by show(h++[OV.lst l])[kd]?=_;rw[Af lk];exact u
  have O:∀l,(H l)[h.length]?=some (.lst l):=λl=>QU _ _;have X:∀l m,(H l).set h.length (.lst m)=H m:=λl m=>by show(h++[OV.lst l]).set h.length (OV.lst m)=h++[OV.lst m];simp
  obtain⟨q,h',e,a,z,rfl,rfl⟩:WP (Z8 (bK (QZ 0 p.ps.length)) (λd env=>do let env' <- gN 7 d env;XI env') 100000 0 (E .un .un)) (H []) λq h'=>∃a z,q=(.nx,E a z)/\h'=H (XH P c j b p p.ps.length):=by
    refine Zr _ (λi G h'=>∃a z,G=E a z/\h'=H (XH P c j b p i)) (by rw[Qz];lia) ⟨.un,.un,rfl,rfl⟩ (λi dd hi G h' zz=>?_) (λG h' zz=>?_)
    . obtain⟨a,z,rfl,rfl⟩:=zz
      obtain⟨Q,rfl⟩:=Jv hi
      let n:=p.ps.getD i 0
      have Z:(p.ps.map DV.int)[i]?=some (.int n):=by rw[Be,Ab Q];show _=some (DV.int (p.ps.getD i 0));rw[Br,Ab Q];rfl
      let F:=E (.val (.int i)) (.val (.int n))
      have st:Qx 8 (Qe au (Qa 4) (Qa 7)) (E (.val (.int i)) z) (H (XH P c j b p i))=some ((.nx,F),H (XH P c j b p i)):=Qt (JQ (i:=i) (ak rfl) (ak rfl) Z)
      let t:=H (XH P c j b p i)
      have C:eB (Qe iM (Qa 7) (QA QV (Qc (Qa 5) (Qk)))) F t=some (decide (p.ks.length<i),t):=by have l:=J3 (f:=Qa 5) (env:=F) (U:=t) (ds:=opt b::p.ks.map .int) (ak rfl);rw[Ay,Bb]at l;have:=Q2 (Qs (g:=iM) (x:=.int i) (y:=.int ((p.ks.length+1:Nat):Int)) (show Qa 7 F t=some (.int i,t)from rfl) l rfl);rw[this];congr 2;exact decide_eq_decide.mpr ⋯
      have tt:cG (eB (Qe iM (Qa 7) (QA QV (Qc (Qa 5) (Qk))))) (cG (eB (Qe XO (Qa 8) (Qa 3))) (eB (Qe bC (Qe au (Qa 3) (Qa 8)) (Qe au (Qa 5) (Qa 7))))) F t=some (UA P c b p i,t):=by
        unfold UA;by_cases R:p.ks.length<i
        . rw[Ca R]at C ⊢;exact kr C
        . rw[Cc R]at C ⊢
          rw[kq C,Bool.false_or];have mem:∀r:Bool,(ZW (cT P c c.length) (.inl n)).isSome=r->eB (Qe XO (Qa 8) (Qa 3)) F t=some (!r,t):=λr Y=>by
            refine Q2 (Qs (x:=.int n) (y:=.ref kd) (ak rfl) (ak rfl) ?_);have:lU (.int n) (.ref kd) t=some (r,t):=by show(Zx kd >>= _) t=_;rw[Qf (Q8 (J _))];show some ((ZW (cT P c c.length) (.inl n)).isSome,t)=_;rw[Y]
            unfold XO;rw[Qf this];rfl
          by_cases v:n∈c
          . have I:=Oa (P:=P) nd v
            rw[show decide (p.ps.getD i 0∈c)=true from Ca v];rw[kq (mem true (by rw[I];rfl))];have wt:(opt b::p.ks.map DV.int)[i]?=some (opt ((b::p.ks.map some).getD i none)):=by
              have T:(opt b::p.ks.map DV.int)=(b::p.ks.map some).map opt:=by rw[Az,List.map_map];rfl
              rw[T,Be,Br,Ab (by simp;lia)];rfl
            exact Q2 (Qs (x:=opt (bnd P c (c.idxOf n))) (y:=opt ((b::p.ks.map some).getD i none)) (Qs (x:=.ref kd) (y:=.int n) (ak rfl) (ak rfl) (K8 (J _) I)) (JQ (i:=i) (ak rfl) (ak rfl) wt) (rF _ _ t))
          . rw[show decide (p.ps.getD i 0∈c)=false from Cc v]
            exact kr (mem false (by rw[Sq v];rfl))
      refine⟨(.nx,F),H (XH P c j b p (i+1)),?_,.val (.int i),.val (.int n),rfl,rfl⟩;show XI (E (.val (.int i)) z) t=_;refine(Qi st).trans ?_;rw[xN];cases L:UA P c b p i with
      |true =>rw[L]at tt;have kl:=qT P c j b p i;refine(Zf tt).trans ((Q0 (Z2 (o:=Qa 6) (a:=h.length) (d:=.tup [.str "kid", .int j,.int i]) (ak rfl) (O _) (qg (UQ rfl (ak rfl) (ak rfl)) (by show 3<=100000;decide)) (O _) ⋯)).trans ?_);rw[X];rfl
      |false=>rw[L]at tt;show _=some ((Fl.nx,F),H (XH P c j b p i++[]));rw[Bc];exact(QL tt).trans QM
    . obtain⟨a,z,rfl,rfl⟩:=zz
      rw[Qz];exact⟨a,z,rfl,rfl⟩
  have lp:QA QV (Qc (Qa 4) (Qk)) (E .un .un) (H [])=some (.int p.ps.length,H []):=by
    have:=J3 (f:=Qa 4) (env:=E .un .un) (U:=H []) (ds:=p.ps.map .int) (ak rfl)
    rwa [Bb]at this
  refine QB (env:=E a z) ((Qi (Qt (ZR (i:=2) (ak rfl) rfl))).trans ((Qi (Qt (gZ (xs:=[opt b]) (ys:=p.ks.map .int) (qg (QR (ak rfl)) (by show 1<=100000;decide)) (ZR (i:=1) (ak rfl) rfl) (by rw[Bb];simp;lia)))).trans ((Qi (Qt (Z4 _ _))).trans ((Qi (Q6 (ZS (Z3 (m:=p.ps.length) (QR lp) ⋯)) e)).trans (QC (ak rfl))))))
end
def n8(a:List Int)(i:Nat):Option Int:=a[i+1]?
def mK(P:List Pp)(a:List Int)(level:Int)(c:List Int)(i:Nat):List DV:=fH (a.getD i 0) (aO P (a.getD i 0)) level (bnd P a i) (n8 a i)++(if 0<level then XH P c (a.getD i 0) (bnd P a i) (aO P (a.getD i 0)) (aO P (a.getD i 0)).ps.length else [])
def JU(P:List Pp)(a:List Int)(level:Int)(c:List Int)(m:Nat):List DV:=(List.range m).flatMap (mK P a level c)
theorem jf(P:List Pp)(a:List Int)(level:Int)(c:List Int)(m:Nat):JU P a level c (m+1)=JU P a level c m++mK P a level c m:=by unfold JU;rw[List.range_succ,List.flatMap_append];simp
theorem kW(n:Int)(p:Pp)(level:Int)(b fo:Option Int):(fH n p level b fo).length<=4:=by unfold fH;rw[Ak,Ak,Ak];have a:=JN (!(p.lv==level)) "level" n;have e:=JN (!qu p b) "order" n;have c:=JN (!((p.ps.length:Int)==(wanted p:Nat))) "parts" n;have d:=JN ((p.hi.isNone != p.sd.isNone)||!decide (p.sd=fo)) "links" n;lia
theorem T_{P:List Pp}(ok:Ok P){c:List Int}(g:Good P c)(level:Int)(d:List Int){i:Nat}(hi:i<c.length):(mK P c level d i).length<=304:=by
 unfold mK;rw[Ak];have a:=kW (c.getD i 0) (aO P (c.getD i 0)) level (bnd P c i) (n8 c i);have e:In P (c.getD i 0):=by rw[Br,Ab hi];exact g.2 _ (Bi hi)
 have q:=ok.at e;split
 ·have:=qT P d (c.getD i 0) (bnd P c i) (aO P (c.getD i 0)) (aO P (c.getD i 0)).ps.length;lia
 ·rw[List.length_nil];lia
theorem YI{P:List Pp}(ok:Ok P){a:List Int}(g:Good P a)(level:Int)(c:List Int):∀m,m<=a.length->(JU P a level c m).length<=304 * m
  |0,_=>Ae _
  |m+1,h=>by rw[jf,Ak];have:=YI ok g level c m ⋯;have:=T_ ok g level c (i:=m) ⋯;lia
section
variable{P:List Pp}{w:Hs}{d:DV}
theorem VI(hx:aP w d (P.map aG))(ok:Ok P){rd bd:DV}{c z:List Int}(I:aP w rd (c.map .int))(ab:aP w bd (z.map .int))(g:Good P c)(gb:Good P z)(level:Int) :
  ∃h a,J0 [d,rd,.int level,bd] w=some (.ref a,h)/\Sub w h/\w.length<=a/\h[a]?=some (.lst (JU P c level z c.length)):=by
 have rl:=g.len;have pl:=ok.len;have b1:=US hx I g pl (Sub.refl w)
 let Q:Hs:=w++[.aJ (cT P c c.length)]
 have s1:Sub w Q:=Sub.app _ _;have b2:=US hx ab gb pl s1
 let u:Hs:=Q++[.aJ (cT P z z.length)]
 have s2:Sub Q u:=Sub.app _ _
 let Y:Hs:=u++[.lst []]
 have s3:Sub u Y:=Sub.app _ _;have sw:Sub w Y:=s1.trans (s2.trans s3);have l1:Q.length=w.length+1:=by show(w++[OV.aJ _]).length=_;simp
 have l2:u.length=w.length+2:=by show(Q++[OV.aJ _]).length=_;simp[l1]
 have FN:u[w.length]?=some (.aJ (cT P c c.length)):=s2 _ _ (QU _ _);have FJ:u[Q.length]?=some (.aJ (cT P z z.length)):=QU _ _
 let E:Sl->Sl->Sl->Sl->En:=λJ G C l=>[.val d,.val rd,.val (.int level),.val bd,.val (.ref w.length),.val (.ref Q.length),.val (.ref u.length),J,G,C,l]
 obtain⟨q,h',e,J,G,C,l,rfl,s',v⟩:WP (Z8 (bK (QZ 0 c.length)) (λd env=>do let env' <- gN 7 d env;Xk env') 100000 0 (E .un .un .un .un)) Y λq h'=>∃J G C l,q=(.nx,E J G C l)/\Sub u h'/\h'[u.length]?=some (.lst (JU P c level z c.length)):=by
  refine Zr _ (λi S h'=>∃J G C l,S=E J G C l/\Sub u h'/\h'[u.length]?=some (.lst (JU P c level z i))) (by rw[Qz];lia) ⟨.un,.un,.un,.un,rfl,s3,QU _ _⟩ (λi dd hi S h' zz=>?_) (λS h' zz=>?_)
  ·obtain⟨J,G,C,l,rfl,s',v⟩:=zz;obtain⟨li,rfl⟩:=Jv hi
   let n:=c.getD i 0
   let p:=aO P n
   have S:c[i]?=some n:=by show _=some (c.getD i 0);rw[Br,Ab li];rfl
   have X:In P n:=g.2 n (As S);have T:=ok.at X;have nA:Sub w h':=s1.trans (s2.trans s');have i1:(.val (.int (i:Int)):Sl)=.val (.int i):=rfl;have ac:Qx 8 (Qe au (Qa 1) (Qa 7)) (E (.val (.int i)) G C l) h'=some ((.nx,E (.val (.int i)) (.val (.int n)) C l),h'):=Qt (uJ (i:=i) (I.sub nA) (ak rfl) (ak rfl) (by rw[Be,S];rfl));have ae:Qx 9 (Qe au (Qa 0) (Qa 8)) (E (.val (.int i)) (.val (.int n)) C l) h'=some ((.nx,E (.val (.int i)) (.val (.int n)) (.val (aG p)) l),h'):=Qt (XR (hx.sub nA) (ak rfl) (ak rfl) X)
   let fo:=n8 c i
   let F:=E (.val (.int i)) (.val (.int n)) (.val (aG p)) (.val (opt fo))
   have lr:∀x,QA QV (Qc (Qa 1) (Qk)) (E (.val (.int i)) (.val (.int n)) (.val (aG p)) x) h'=some (.int c.length,h'):=λx=>by
    have:=yT (f:=Qa 1) (env:=E (.val (.int i)) (.val (.int n)) (.val (aG p)) x) (I.sub nA) (ak rfl)
    rwa [Bb]at this
   have af:Qx 10 (dG (eB (Qe bW (Qe QP (Qa 7) (eC (.int 1))) (QA QV (Qc (Qa 1) (Qk))))) (Qe au (Qa 1) (Qe QP (Qa 7) (eC (.int 1)))) (eC .non)) (E (.val (.int i)) (.val (.int n)) (.val (aG p)) l) h'=some ((.nx,F),h'):=by
    have t:=Q2 (jg (Q7 (f:=Qa 7) (g:=eC (.int 1)) (env:=E (.val (.int i)) (.val (.int n)) (.val (aG p)) l) (U:=h') (i:=i) (j:=1) (ak rfl) rfl) (lr l));by_cases q:i+1<c.length
    ·rw[Ca ⋯]at t;have ef:fo=some c[i+1]:=Ab q;show _=some ((Fl.nx,E (.val (.int i)) (.val (.int n)) (.val (aG p)) (.val (opt fo))),h');rw[ef];exact Qt ((ko t).trans (uJ (i:=i+1) (I.sub nA) (ak rfl) (Q7 (i:=i) (j:=1) (ak rfl) rfl) (by rw[Be,Ab q];rfl)))
    ·rw[Cc ⋯]at t;have ef:fo=none:=Bu ⋯;show _=some ((Fl.nx,E (.val (.int i)) (.val (.int n)) (.val (aG p)) (.val (opt fo))),h');rw[ef];exact Qt ((kn t).trans rfl)
   have ib:∀{Z:Hs},Sub u Z->Qe au (Qa 4) (Qa 8) F Z=some (opt (bnd P c i),Z):=λ{Z} sh=>Qs (x:=.ref w.length) (y:=.int n) (ak rfl) (ak rfl) (K8 (sh _ _ FN) (Vh g.1 c.length (Ae _) li));have pf:=VS (p:=p) T.2.2.1 n level (bnd P c i) fo h'
   let hp1:Hs:=h'++[.lst (fH n p level (bnd P c i) fo)]
   have lA:u.length<h'.length:=(Ac.mp v).1;have ll:=YI ok g level z i ⋯;have DL:=kW n p level (bnd P c i) fo;have ex:=Q0 (env:=F) (Y1 (o:=Qa 6) (fa:=Qc (Qw 5 J1 (Qc (Qa 8) (Qc (Qa 9) (Qc (Qa 2) (Qc (Qe au (Qa 4) (Qa 8)) (Qc (Qa 10) (Qk))))))) (Qk)) (env:=F) (a:=u.length) (ak rfl) v (QR (QI (rH (ak rfl) (ak rfl) (ak rfl) (ib s') (ak rfl)) rfl pf)) (by rw[Af lA];exact v) (QU _ _) ⋯)
   let R:Hs:=hp1.set u.length (.lst (JU P c level z i++fH n p level (bnd P c i) fo))
   have O:Sub u R:=(s'.trans (Sub.app _ _)).set (Ae _) _;have nZ:R[u.length]?=some (.lst (JU P c level z i++fH n p level (bnd P c i) fo)):=by show(List.set _ _ _)[_]?=_;rw[Aq (by show _<(h'++[OV.lst _]).length;simp;lia)]
   have body:∀{r:(Fl×En)×Hs},aN (eB (Qe cR (Qa 2) (eC (.int 0)))) (Q5 (Zk "list" Jf (Qa 6) (Qc (Qw 4 JH (Qc (Qa 8) (Qc (Qa 9) (Qc (Qe au (Qa 4) (Qa 8)) (Qc (Qa 5) (Qk)))))) (Qk)))) (Zn) F R=some r->Xk (E (.val (.int i)) G C l) h'=some r:=λk=>(Qi ac).trans ((Qi ae).trans ((Qi af).trans ((Qi ex).trans k)));have tg:eB (Qe cR (Qa 2) (eC (.int 0))) F R=some (decide (0<level),R):=Q2 (Yo (ak rfl) rfl);rw[jf];unfold mK;by_cases L:0<level
   ·rw[Ca L]at tg;rw[B8 L];have kf:=UB (P:=P) (p:=p) T.2.2.1 T.2.2.2 gb.1 n (bnd P c i) (h:=R) (kd:=Q.length) (O _ _ FJ);have kl:=qT P z n (bnd P c i) p p.ps.length;have sX:u.length<R.length:=(Ac.mp nZ).1;have Hg:=Q0 (env:=F) (Y1 (o:=Qa 6) (fa:=Qc (Qw 4 JH (Qc (Qa 8) (Qc (Qa 9) (Qc (Qe au (Qa 4) (Qa 8)) (Qc (Qa 5) (Qk)))))) (Qk)) (env:=F) (a:=u.length) (ak rfl) nZ (QR (QI (gI (ak rfl) (ak rfl) (ib O) (ak rfl)) rfl kf)) (by rw[Af sX];exact nZ) (QU _ _) (by rw[Ak];have:=T.2.2.2;show _+_+(XH P z n (bnd P c i) p p.ps.length).length<=_;have:p.ps.length<=300:=T.2.2.2;lia))
    refine⟨_,_,body ((Zf tg).trans Hg),.val (.int i),.val (.int n),.val (aG p),.val (opt fo),rfl,(O.trans (Sub.app _ _)).set (Ae _) _,?_⟩;rw[Aq (by simp;lia),Aw]
   ·rw[Cc L]at tg;rw[B7 L,Bc];exact⟨_,_,body ((QL tg).trans QM),.val (.int i),.val (.int n),.val (aG p),.val (opt fo),rfl,O,nZ⟩
  ·obtain⟨J,G,C,l,rfl,s',v⟩:=zz;rw[Qz]at v;exact⟨J,G,C,l,rfl,s',v⟩
 have lr:QA QV (Qc (Qa 1) (Qk)) (E .un .un .un .un) Y=some (.int c.length,Y):=by
  have:=yT (f:=Qa 1) (env:=E .un .un .un .un) (I.sub sw) (ak rfl)
  rwa [Bb]at this
 exact⟨h',u.length,QB (env:=E J G C l) ((Qi (Qt (QI (Zy (ak rfl) (ak rfl)) rfl b1))).trans ((Qi (Qt (QI (Zy (ak rfl) (ak rfl)) rfl b2))).trans ((Qi (Qt (Z4 _ _))).trans ((Qi (Q6 (ZS (Z3 (m:=c.length) (QR lr) ⋯)) e)).trans (QC (ak rfl)))))),s1.trans (s2.trans s'),⋯,v⟩
end
theorem MH{x x' y z:DV}{n m:Nat}{U:Hs}(hx:Pl n x)(a:Pl m x')(d:n<40)(c:m<40)(e:aV 40 U y=some x)(f:aV 40 U z=some x'):Xs y z U=some (PyData.eqv (toP x) (toP x'),U):=by have s:=zr hx a d c U;unfold Xs at s ⊢;rw[Qf (Jn (XD hx d U)),Qf (Jn (XD a c U))]at s;rw[Qf (Jn e),Qf (Jn f)];exact s
theorem yP{U:Hs}{a:Nat}{ds:List DV}{n:Nat}(k:Nat)(h:U[a]?=some (.lst ds))(hd:∀d∈ds,Pl n d)(e:n+1<=k):aV (k+1) U (.ref a)=some (.lst ds):=by show(match U[a]? with|some (.lst ds)=>(ds.mapM (aV k U)).map DV.lst|_=>none)=_;rw[h];show(ds.mapM (aV k U)).map DV.lst=_;rw[JW λd c=>(by have:=xA n d (k-n-1) U (hd d c);rwa [show n+(k-n-1)+1=k by lia]at this)];rfl
theorem BL{U:Hs}{a:Nat}{ds:List DV}{n:Nat}(h:U[a]?=some (.lst ds))(hd:∀d∈ds,Pl n d)(c:n<38):aX (.ref a) (.lst []) U=some (.bl ds.isEmpty,U):=by
 unfold aX;rw[Qf (MH (x:=.lst ds) (x':=.lst []) (n:=n+1) (m:=1) hd (λd hd=>nomatch hd) ⋯ (by decide) (yP 39 h hd ⋯) rfl)];cases ds with
 |nil=>rfl
 |cons d ds=>rfl
def pQ(P:List Pp)(a:List (List Int))(i:Nat):List DV:=JU P (a.getD i []) ((a.length:Int)-1-i) (a.getD (i+1) []) (a.getD i []).length
def qO(P:List Pp)(a:List (List Int))(m:Nat):List DV:=(List.range m).flatMap (pQ P a)
theorem xF(P:List Pp)(a:List (List Int))(m:Nat):qO P a (m+1)=qO P a m++pQ P a m:=by unfold qO;rw[List.range_succ,List.flatMap_append];simp
theorem Kf(P:List Pp):∀(c:Nat)(a:List Int)(o:Option Int),Good P a->Good P (a++(YJ P c a o).flatten)
  |0,a,o,g=>by show Good P (a++[]);rw[Bc];exact g
  |c+1,a,o,g=>by have:=Kf P c (a++Yw P a o) (KR P (Yw P a o)) (YL _ _ _ g);rw[Aw]at this;exact this
theorem Mn(P:List Pp)(root:Int):(ZJ P root).flatten.length<=P.length:=by have:=(Kf P ((aO P root).lv.toNat+1) [] (some root) ⟨.nil,λn a=>nomatch a⟩).len;rw[List.nil_append]at this;exact this
structure Rs(P:List Pp)(rows:List (List Int)):Prop where
 good:∀r∈rows,Good P r
 flat:rows.flatten.length<=P.length
 len:rows.length<=51
 ne:rows≠[]
theorem Gq{P:List Pp}(ok:Ok P){root:Int}(a:In P root):Rs P (ZJ P root):=⟨xU P root,Mn P root,by rw[vv];have:=ok.at a;lia,Gp P root⟩
theorem Rs.at{P:List Pp}{a:List (List Int)}(R:Rs P a)(i:Nat):Good P (a.getD i []):=by
 rw[Br];cases h:a[i]? with
 |none=>exact⟨.nil,λn c=>nomatch c⟩
 |some r=>exact R.good r (As h)
theorem Xv(a:List (List Int))(m:Nat):(a.take m).flatten.length+(a.getD m []).length=(a.take (m+1)).flatten.length:=by rw[List.take_succ,List.flatten_append,Ak,Br];cases a[m]?<;>simp
theorem y3(a:List (List Int))(m:Nat):(a.take m).flatten.length<=a.flatten.length:=by
 conv=>rhs;rw[<- Bg m a,List.flatten_append,Ak]
 exact Nat.le_add_right _ _
theorem Vs{P:List Pp}(ok:Ok P){a:List (List Int)}(R:Rs P a):∀m,(qO P a m).length<=304 * (a.take m).flatten.length
  |0=>Ae _
  |m+1=>by rw[xF,Ak,<- Xv];have:=Vs ok R m;have:(pQ P a m).length<=304 * (a.getD m []).length:=YI ok (R.at m) _ _ _ (Ae _);lia
theorem O5{c:Bool}{n:Int}{i:Nat}:∀d∈kd1 c n i,Pl 1 d:=λd hd=>by
 unfold kd1 at hd;split at hd
 ·rw[Ap.mp hd];refine uX λx hx=>?_;simp only[A9,Bj,or_false]at hx;rcases hx with rfl|rfl|rfl
  ·exact z_ (by decide +kernel)
  ·exact zc 0 _
  ·exact zc 0 _
 ·cases hd
theorem kB{b:Bool}{nm:Str}(ok:PyData.strOk nm=true){n:Int}:∀d∈fl b nm n,Pl 1 d:=λd hd=>by
 unfold fl at hd;split at hd
 ·rw[Ap.mp hd];refine uX λx hx=>?_;simp only[A9,Bj,or_false]at hx;rcases hx with rfl|rfl
  ·exact z_ ok
  ·exact zc 0 _
 ·cases hd
theorem Cq(P:List Pp)(a:List (List Int))(m:Nat):∀d∈qO P a m,Pl 1 d:=λd hd=>by
 have ok:PyData.strOk "level" = true/\PyData.strOk "order" = true/\PyData.strOk "parts" = true/\PyData.strOk "links" = true:=by decide +kernel
 obtain⟨i,_,hd⟩:=List.mem_flatMap.mp hd;obtain⟨j,_,hd⟩:=List.mem_flatMap.mp (show d∈JU P (a.getD i []) ((a.length:Int)-1-i) (a.getD (i+1) []) (a.getD i []).length from hd);rcases Ag.mp hd with hd|hd
 ·unfold fH at hd;rcases Ag.mp hd with hd|hd
  ·exact kB ok.1 d hd
  ·rcases Ag.mp hd with hd|hd
   ·exact kB ok.2.1 d hd
   ·rcases Ag.mp hd with hd|hd
    ·exact kB ok.2.2.1 d hd
    ·exact kB ok.2.2.2 d hd
 ·split at hd
  ·obtain⟨_,_,hd⟩:=List.mem_flatMap.mp hd;exact O5 d hd
  ·cases hd
section
variable{P:List Pp}{w:Hs}{n:Nat}{root:Int}
theorem J5{h c:Hs}{bs:List Nat}{a:List (List Int)}(R:aK c bs a)(s:Sub c h){L:Nat}(e:c[L]?=some (.lst (bs.map .ref))){f g:aB}{env:En}{i:Nat}(hi:i<a.length)(hf:f env h=some (.ref L,h))(j:g env h=some (.int i,h)):∃b,Qe au f g env h=some (.ref b,h)/\h[b]?=some (.lst ((a.getD i []).map .int)):=by
 have d:i<bs.length:=by rw[R.1];exact hi
 refine⟨bs[i],Z6 (i:=i) hf (s _ _ e) j (by rw[Be,Ab d];rfl),s _ _ (R.2 i bs[i] _ (Ab d) ?_)⟩;rw[Br,Ab hi];rfl
theorem Y9{h c:Hs}{bs:List Nat}{a:List (List Int)}(R:aK c bs a)(s:Sub c h){L:Nat}(d:c[L]?=some (.lst (bs.map .ref))){f:aB}{env:En}(hf:f env h=some (.ref L,h)):QA QV (Qc f Qk) env h=some (.int a.length,h):=by
 have:=ZT (f:=f) (env:=env) (U:=h) (n:=L) hf (s _ _ d)
 rwa [Bb,R.1]at this
theorem U7(x:cF w n P root)(ok:Ok P)(X:In P root):∃h a,Yy [.ref n] w=some (.ref a,h)/\Sub w h/\w.length<=a/\h[a]?=some (.lst (qO P (ZJ P root) (ZJ P root).length)):=by
 let d:DV:=.lst (P.map aG)
 have C:=Gq ok X;generalize O:ZJ P root=l at C;obtain⟨v,bs,Z,Y,g1,R,hb⟩:=JR (w:=w) (d:=d) (.inl rfl) ok X;rw[O]at R
 let w2:Hs:=v++[.lst []]
 have rl:=C.len;have pl:=ok.len
 let E:Sl->Sl->Sl->En:=λa b c=>[.val (.ref n),.val d,.val (.ref w.length),.val (.ref v.length),a,b,c]
 obtain⟨q,h',e,z,y,u,rfl,s',r⟩:WP (Z8 (bK (QZ 0 l.length)) (λd env=>do let env' <- gN 4 d env;VC env') 100000 0 (E .un .un .un)) w2 λq h'=>∃z y u,q=(.nx,E z y u)/\Sub v h'/\h'[v.length]?=some (.lst (qO P l l.length)):=by
  refine Zr _ (λi J h'=>∃z y u,J=E z y u/\Sub v h'/\h'[v.length]?=some (.lst (qO P l i))) (by rw[Qz];lia) ⟨.un,.un,.un,rfl,Sub.app _ _,QU _ _⟩ (λi dd hi J h' zz=>?_) (λJ h' zz=>?_)
  ·obtain⟨z,y,u,rfl,s',r⟩:=zz;obtain⟨li,rfl⟩:=Jv hi
   let aM:Int:=(l.length:Int)-1-i
   have S:Qx 5 (Qe Jj (Qe Jj (QA QV (Qc (Qa 2) (Qk))) (eC (.int 1))) (Qa 4)) (E (.val (.int i)) y u) h'=some ((.nx,E (.val (.int i)) (.val (.int aM)) u),h'):=Qt (Z0 (Z0 (Y9 R s' g1 (ak rfl)) rfl) (ak rfl));obtain⟨bd,L,T⟩:∃bd:DV,aP h' bd ((l.getD (i+1) []).map .int)/\Qx 6 (dG (eB (Qe cR (Qa 5) (eC (.int 0)))) (Qe au (Qa 2) (Qe QP (Qa 4) (eC (.int 1)))) (Zz (Qk))) (E (.val (.int i)) (.val (.int aM)) u) h'=some ((.nx,E (.val (.int i)) (.val (.int aM)) (.val bd)),h'):=by
    have t:=Q2 (Yo (f:=Qa 5) (g:=eC (.int 0)) (env:=E (.val (.int i)) (.val (.int aM)) u) (U:=h') (i:=aM) (j:=0) (ak rfl) rfl);by_cases q:i+1<l.length
    ·rw[Ca (show(0:Int)<(l.length:Int)-1-i by lia)]at t;obtain⟨b,I,G⟩:=J5 R s' g1 (f:=Qa 2) (g:=Qe QP (Qa 4) (eC (.int 1))) (env:=E (.val (.int i)) (.val (.int aM)) u) (i:=i+1) q (ak rfl) (Q7 (i:=i) (j:=1) (ak rfl) rfl);exact⟨.ref b,.inr ⟨b,rfl,G⟩,Qt ((ko t).trans I)⟩
    ·rw[Cc (show ¬ (0:Int)<(l.length:Int)-1-i by lia)]at t;refine⟨.lst [],.inl ?_,Qt ((kn t).trans rfl)⟩;rw[Br,Bu ⋯];rfl
   let F:=E (.val (.int i)) (.val (.int aM)) (.val bd)
   obtain⟨b,I,G⟩:=J5 R s' g1 (f:=Qa 2) (g:=Qa 4) (env:=F) (i:=i) li (ak rfl) (ak rfl);obtain⟨h2,a,el,Q,ha,g2⟩:=VI (w:=h') (d:=d) (.inl rfl) ok (rd:=.ref b) (bd:=bd) (.inr ⟨b,rfl,G⟩) L (C.at i) (C.at (i+1)) aM;have ln:=Vs ok C i;have l2:=YI ok (C.at i) aM (l.getD (i+1) []) _ (Ae _);have l3:=Xv l i;have l4:=y3 l (i+1);have l5:=C.flat;have ex:=Q0 (env:=F) (Y1 (o:=Qa 3) (fa:=Qc (Qw 4 J0 (Qc (Qa 1) (Qc (Qe au (Qa 2) (Qa 4)) (Qc (Qa 5) (Qc (Qa 6) (Qk)))))) (Qk)) (env:=F) (a:=v.length) (ak rfl) r (QR (QI (gI (ak rfl) I (ak rfl) (ak rfl)) rfl el)) (Q _ _ r) g2 ⋯);refine⟨_,_,(Qi S).trans ((Qi T).trans ex),.val (.int i),.val (.int aM),.val bd,rfl,(s'.trans Q).set (Ae _) _,?_⟩;have lA:v.length<h2.length:=(Ac.mp (Q _ _ r)).1;rw[Aq lA,xF];rfl
  ·obtain⟨z,y,u,rfl,s',r⟩:=zz;rw[Qz]at r;exact⟨z,y,u,rfl,s',r⟩
 exact⟨h',v.length,QB (env:=E z y u) ((Qi (Qt (yX x (ak rfl)))).trans ((Qi (Qt (QI (Zy (ak rfl) (j8 x (ak rfl))) rfl Z))).trans ((Qi (Qt (Z4 _ _))).trans ((Qi (Q6 (ZS (Z3 (m:=l.length) (QR (Y9 R (Sub.app _ _) g1 (ak rfl))) ⋯)) e)).trans (QC (ak rfl)))))),Y.trans s',Y.len,r⟩
theorem y_(x:cF w n P root)(ok:Ok P)(c:In P root):∃h,YT [.ref n] w=some (.bl (qO P (ZJ P root) (ZJ P root).length).isEmpty,h)/\Sub w h:=by obtain⟨h,a,e,s,_,g⟩:=U7 x ok c;exact⟨h,QB (env:=[.val (.ref n)]) (QC (Qs (x:=.ref a) (y:=.lst []) (hp1:=h) (hp2:=h) (QI (QR (ak rfl)) rfl e) rfl (BL g (Cq P _ _) (by decide)))),s⟩
end
def Xe(P:List Pp)(a:List Int):List Int:=a.flatMap λn=>(aO P n).ps
theorem VB(P:List Pp)(r:List Int)(n:Int):Xe P (r++[n])=Xe P r++(aO P n).ps:=by unfold Xe;rw[List.flatMap_append];simp
theorem Kc{P:List Pp}(ok:Ok P):∀(r:List Int),(∀n∈r,In P n)->(Xe P r).length<=300 * r.length
  | [],_=>Ae _
  |n::r,h=>by have c:=Kc ok r λm a=>h m (At _ a);have:=ok.at (h n Bz);show((aO P n).ps++Xe P r).length<=_;rw[Ak,Ay];lia
def Has(a:List (Key×DV))(xs:List Int):Prop:=∀k:Int,(ZW a (.inl k)).isSome=decide (k∈xs)
theorem RT(a:List (Key×DV))(k:Key)(v:DV):(Yu a k v).length<=a.length+1:=by
 unfold Yu;split
 ·rw[Bb];lia
 ·simp
theorem Has.put{a:List (Key×DV)}{xs:List Int}(h:Has a xs)(x:Int)(v:DV):Has (Yu a (.inl x) v) (xs++[x]):=λk=>by
 rw[S7];by_cases q:k=x
 ·subst q;rw[B8 rfl];simp
 ·rw[B7 (λe=>q (Sum.inl.inj e)),h k];exact decide_eq_decide.mpr (by simp[q])
section
variable{P:List Pp}{w:Hs}{d:DV}
theorem kO{D:Nat}(A B g:Sl):∀(xs ys:List Int)(c:List (Key×DV))(h:Hs)(z:Sl),h[D]?=some (.aJ c)->Has c ys->c.length+xs.length<100000 ->
    ∃(f:List (Key×DV))(m:Sl),xG (λx env=>do let env' <- gN 4 x env;qV env') (xs.map .int) [A,B,.val (.ref D),g,z] h=some ((.nx,[A,B,.val (.ref D),g,m]),h.set D (.aJ f))/\f.length<=c.length+xs.length/\Has f (ys++xs)
  | [],ys,c,h,z,hd,j,i=>⟨c,z,by rw[Ua hd];rfl,by simp,by rw[Bc];exact j⟩
  |x::xs,ys,c,h,z,hd,j,i=>by have i:c.length+(xs.length+1)<100000:=i;have q:D<h.length:=(Ac.mp hd).1;have r:=RT c (.inl x) (.bl true);obtain⟨f,m,e,l,o⟩:=kO A B g xs (ys++[x]) (Yu c (.inl x) (.bl true)) (h.set D (.aJ (Yu c (.inl x) (.bl true)))) (.val (.int x)) (Aq q) (j.put x _) ⋯;rw[Aw]at o;refine⟨f,m,(Tw (aL:=[A,B,.val (.ref D),g,.val (.int x)]) (hp1:=h.set D (.aJ (Yu c (.inl x) (.bl true)))) ?_).trans (by rw[List.set_set]at e;exact e),by rw[Ay];lia,o⟩;show qV [A,B,.val (.ref D),g,.val (.int x)] h=_;exact yZ (a:=D) (n:=x) rfl (ak rfl) (ak rfl) hd ⋯
theorem Te(hx:aP w d (P.map aG))(ok:Ok P){b:Nat}{h:List Int}(u:w[b]?=some (.lst (h.map .int)))(g:Good P h):∃c,zo [d,.ref b] w=some (.ref w.length,w++[.aJ c])/\Has c (Xe P h):=by
 have L:=g.len;have pl:=ok.len
 let E:Sl->Sl->En:=λa z=>[.val d,.val (.ref b),.val (.ref w.length),a,z]
 have s:∀c:List (Key×DV),Sub w (w++[.aJ c]):=λ_=>Sub.app _ _;obtain⟨q,h',e,c,a,z,rfl,rfl,l⟩:WP (Z8 (dU b) (λd env=>do let env' <- gN 3 d env;yg env') 100000 0 (E .un .un)) (w++[.aJ []]) λq h'=>∃c a z,q=(.nx,E a z)/\h'=w++[.aJ c]/\Has c (Xe P h):=by
  refine YW (h.map .int) (λi o h'=>∃c a z,o=E a z/\h'=w++[.aJ c]/\Has c (Xe P (h.take i))/\c.length<=300 * i) (by rw[Bb];lia) (λi o h' hi zz=>?_) ⟨[],.un,.un,rfl,rfl,λk=>rfl,Ae _⟩ (λi F hi o h' zz=>?_) (λo h' zz=>?_)
  ·obtain⟨c,a,z,_,rfl,_⟩:=zz;exact XQ (s c _ _ u) i
  ·obtain⟨c,a,z,rfl,rfl,l,y⟩:=zz;rw[Be]at hi;obtain⟨n,r,rfl⟩:=Bk.mp hi;have J:i<h.length:=(Ac.mp r).1;have m:=g.2 n (As r);have I:=ok.at m;obtain⟨j,v,t,G,x⟩:=kO (D:=w.length) (.val d) (.val (.ref b)) (.val (.int n)) (aO P n).ps (Xe P (h.take i)) c (w++[.aJ c]) z (QU _ _) l ⋯;have C:(w++[OV.aJ c]).set w.length (.aJ j)=w++[.aJ j]:=by simp
   rw[C]at t;refine⟨(.nx,E (.val (.int n)) v),w++[.aJ j],?_,j,.val (.int n),v,rfl,rfl,?_,⋯⟩
   ·show yb (E (.val (.int n)) z) (w++[.aJ c])=_;exact Md (ds:=(aO P n).ps.map .int) (hp1:=w++[.aJ c]) (uG (ZR (i:=2) (XR (f:=Qa 0) (g:=Qa 3) (hx.sub (s c)) (ak rfl) (ak rfl) m) rfl)) t
   ·rw[List.take_succ,r];show Has j (Xe P (h.take i++[n]));rw[VB];exact x
  ·obtain⟨c,a,z,rfl,rfl,l,y⟩:=zz;rw[Bb,List.take_length]at l;exact⟨c,a,z,rfl,rfl,l⟩
 exact⟨c,QB (env:=E a z) ((Qi (Qt (yU _ _))).trans ((Qi (zA (JT (ak rfl) (s [] _ _ u)) e)).trans (QC (ak rfl)))),l⟩
def iT(P:List Pp)(a:List (List Int))(i:Nat):List Int:=(a.getD (i+1) []).filter λn=>!decide (n∈Xe P (a.getD i []))
def xm(P:List Pp)(a:List (List Int))(m:Nat):List Int:=(List.range m).flatMap (iT P a)
theorem ya(P:List Pp)(a:List (List Int))(m:Nat):xm P a (m+1)=xm P a m++iT P a m:=by unfold xm;rw[List.range_succ,List.flatMap_append];simp
theorem Ug(P:List Pp)(a:List (List Int)):∀m,(xm P a m).length<=(a.take (m+1)).flatten.length
  |0=>A5 _
  |m+1=>by rw[ya,Ak,<- Xv a (m+1)];have:=Ug P a m;have:(iT P a m).length<=(a.getD (m+1) []).length:=List.length_filter_le _ _;lia
theorem B_{h:Hs}{b:Nat}{a:List Int}(c:h[b]?=some (.lst (a.map .int)))(o:a.length<=300){src:aB}{env:En}{k:Nat}{kd:DV}(m:src env h=some (.ref b,h))(j:env[k]?=some (.val kd)){p:Int->Bool}(U:∀n∈a,XO (.int n) kd h=some (.bl (p n),h)):ZQ true (cH src) [k] (eB (Qe XO (Qa 0) (Qa 1))) (Qa 0) env h=some (.ref h.length,h++[.lst ((a.filter p).map .int)]):=by
 have e:∀d,cE [k] env d=[.val d,.val kd]:=λd=>by simp[cE,j];rfl
 have g:=ur (nxt:=dU b) (t:=λd=>eB (Qe XO (Qa 0) (Qa 1)) (cE [k] env d)) (f:=λd=>Qa 0 (cE [k] env d)) (p:=λd=>match d with|.int n=>p n|_=>false) (U:=h) (a.map .int) (λi _=>XQ c i) (λd hd=>by obtain⟨n,l,rfl⟩:=By.mp hd;rw[e];exact Q2 (Qs (x:=.int n) (y:=kd) (ak rfl) (ak rfl) (U n l))) (λd _=>by rw[e];rfl) (by rw[Bb];lia)
 unfold ZQ;rw[Qf (JT m c)];refine(Qf g).trans ?_;rw[List.filter_map];rfl
theorem WI{n:Nat}{root:Int}(x:cF w n P root)(ok:Ok P)(L:In P root):∃h a,qB [.ref n] w=some (.ref a,h)/\Sub w h/\w.length<=a/\h[a]?=some (.lst ((xm P (ZJ P root) ((ZJ P root).length-1)).map .int)):=by
 let d:DV:=.lst (P.map aG)
 have v:=Gq ok L;generalize J:ZJ P root=c at v;obtain⟨r,bs,Q,O,g1,R,hb⟩:=JR (w:=w) (d:=d) (.inl rfl) ok L;rw[J]at R
 let w2:Hs:=r++[.lst []]
 have rl:=v.len;have pl:=ok.len;have r1:1<=c.length:=List.length_pos_iff.mpr v.ne
 let E:Sl->Sl->En:=λa b=>[.val (.ref n),.val d,.val (.ref w.length),.val (.ref r.length),a,b]
 obtain⟨q,h',e,t,m,rfl,s',l⟩:WP (Z8 (bK (QZ (1:Nat) (c.length-1))) (λd env=>do let env' <- gN 4 d env;VD env') 100000 0 (E .un .un)) w2 λq h'=>∃t m,q=(.nx,E t m)/\Sub r h'/\h'[r.length]?=some (.lst ((xm P c (c.length-1)).map .int)):=by
  refine Zr _ (λi C h'=>∃t m,C=E t m/\Sub r h'/\h'[r.length]?=some (.lst ((xm P c i).map .int))) (by rw[Qz];lia) ⟨.un,.un,rfl,Sub.app _ _,QU _ _⟩ (λi dd hi C h' zz=>?_) (λC h' zz=>?_)
  ·obtain⟨t,m,rfl,s',l⟩:=zz;obtain⟨li,rfl⟩:=XS hi;have T:(((1:Nat):Int)+i)=((i+1:Nat):Int):=⋯
   rw[T];obtain⟨b,S,G⟩:=J5 R s' g1 (f:=Qa 2) (g:=Qe Jj (Qa 4) (eC (.int 1))) (env:=E (.val (.int ((i+1:Nat):Int))) m) (i:=i) ⋯ (ak rfl) (by
    have:=Z0 (f:=Qa 4) (g:=eC (.int 1)) (env:=E (.val (.int ((i+1:Nat):Int))) m) (U:=h') (i:=((i+1:Nat):Int)) (j:=1) (ak rfl) rfl
    rwa [show(((i+1:Nat):Int)-1)=(i:Int)by lia]at this)
   obtain⟨y,X,Y⟩:=Te (w:=h') (d:=d) (.inl rfl) ok G (v.at i)
   let u:Hs:=h'++[.aJ y]
   have z:Sub h' u:=Sub.app _ _;have st:Qx 5 (Qw 2 zo (Qc (Qa 1) (Qc (Qe au (Qa 2) (Qe Jj (Qa 4) (eC (.int 1)))) (Qk)))) (E (.val (.int ((i+1:Nat):Int))) m) h'=some ((.nx,E (.val (.int ((i+1:Nat):Int))) (.val (.ref h'.length))),u):=Qt (QI (Zy (ak rfl) S) rfl X)
   let F:=E (.val (.int ((i+1:Nat):Int))) (.val (.ref h'.length))
   obtain⟨b2,Z,I⟩:=J5 R (s'.trans z) g1 (f:=Qa 2) (g:=Qa 4) (env:=F) (i:=i+1) ⋯ (ak rfl) (ak rfl);have gl:=(v.at (i+1)).len;have fa:=B_ I ⋯ (env:=F) (k:=5) (kd:=.ref h'.length) Z rfl (p:=λn=>!decide (n∈Xe P (c.getD i []))) (λn _=>by
    have:lU (.int n) (.ref h'.length) u=some (decide (n∈Xe P (c.getD i [])),u):=by show(Zx h'.length >>= _) u=_;rw[Qf (Q8 (QU _ _))];show some ((ZW y (.inl n)).isSome,u)=_;rw[Y n]
    unfold XO;rw[Qf this];rfl)
   have l1:=Ug P c i;have l2:(iT P c i).length<=(c.getD (i+1) []).length:=List.length_filter_le _ _;have l3:=Xv c (i+1);have l4:=y3 c (i+1+1);have l5:=v.flat;have ex:=Q0 (env:=F) (Y1 (o:=Qa 3) (fa:=Qc y4 Qk) (env:=F) (a:=r.length) (ak rfl) (z _ _ l) (QR fa) ((z.trans (Sub.app _ _)) _ _ l) (QU _ _) (by rw[Bb,Bb];show(xm P c i).length+(iT P c i).length<=_;lia))
   refine⟨_,_,(Qi st).trans ex,.val (.int ((i+1:Nat):Int)),.val (.ref h'.length),rfl,(s'.trans (z.trans (Sub.app _ _))).set (Ae _) _,?_⟩;have lA:r.length<u.length:=(Ac.mp (z _ _ l)).1;rw[Aq (by simp;lia),ya,List.map_append];rfl
  ·obtain⟨t,m,rfl,s',l⟩:=zz;rw[Qz]at l;exact⟨t,m,rfl,s',l⟩
 exact⟨h',r.length,QB (env:=E t m) ((Qi (Qt (yX x (ak rfl)))).trans ((Qi (Qt (QI (Zy (ak rfl) (j8 x (ak rfl))) rfl Q))).trans ((Qi (Qt (Z4 _ _))).trans ((Qi (Q6 (ZS (yS (a:=1) (b:=c.length) (Zy rfl (Y9 R (Sub.app _ _) g1 (ak rfl))) (by decide) ⋯)) e)).trans (QC (ak rfl)))))),O.trans s',O.len,l⟩
end
theorem Tt(k:Int)(ks:List Int):inB (.int k) (ks.map .int)=decide (k∈ks):=by
  unfold inB;induction ks with
  |nil=>rfl
  |cons x xs a =>
    rw[Az,Bs,a];show((x==k)||decide (k∈xs))=_;by_cases h:x=k
    . subst h;simp
    . simp[h,Ne.symm h]
theorem U8:∀ks:List Int,(ks.map DV.int).all Jt=true
 | []=>rfl
 |x::xs=>by rw[Az,Bw,U8 xs];rfl
theorem Gh{n:Nat}{U:Hs}{ks:List Int}(h:U[n]?=some (.lst (ks.map .int)))(k:Int):lU (.int k) (.ref n) U=some (decide (k∈ks),U):=by show(Zx n >>= _) U=_;rw[Qf (Q8 h)];show(QG (Jt (.int k)&&(ks.map DV.int).all Jt) >>= λ_=>pure (inB (.int k) (ks.map .int))) U=_;rw[U8,Tt];rfl
section
variable{P:List Pp}{w:Hs}{d:DV}
theorem HU(hx:aP w d (P.map aG))(hP:P.length<=300)(rt lv rw:DV){S A:Nat}(hS:w.length<=S)(hA:w.length<=A)(G:S≠A):∀(f:Nat)(l:Nat)(c done:List Int)(o:Option Int)(h:Hs),Good P c->c.length+f=P.length+1->f<l->Sub w h->h[S]?=some (.lst (c.map .int))->h[A]?=some (.lst (done.map .int))->done.length+f<=400 ->
    ∃z h',Z7 (Jx (eB (Qe Xt (Qa 4) (eC .non))) (Jx (eB (Qe cW (eC (.int 0)) (Qa 4))) (Jx (eB (Qe bW (Qa 4) (QA QV (Qc (Qa 0) (Qk))))) (eB (Qe XO (Qa 4) (Qa 3)))))) jP l [.val d,.val rt,.val rw,.val (.ref S),.val (opt o),.val lv,.val (.ref A)] h=some ((.nx,[.val d,.val rt,.val rw,.val (.ref S),.val z,.val lv,.val (.ref A)]),h')/\h'.length=h.length/\h'[S]?=some (.lst ((c++run P f c o).map .int))/\h'[A]?=some (.lst ((done++run P f c o).map .int))/\∀i,i≠S->i≠A->h'[i]?=h[i]?:=by
  intro f;induction f with
  |zero=>intro l c done o h g e;have:=g.len;lia
  |succ f ih =>
    intro l c done o h g e hf s t u hl;obtain⟨m,rfl⟩:∃m,l=m+1:=⟨l-1,⋯⟩
    let E:DV->En:=λx=>[.val d,.val rt,.val rw,.val (.ref S),.val x,.val lv,.val (.ref A)]
    have J:=(jY (f:=Qa 4) (env:=E (opt o)) (w:=h) (o:=o) (ak rfl)).1;cases o with
    |none =>
      refine⟨.non,h,qh (xD J),rfl,?_,?_,λi _ _=>rfl⟩
      . unfold run;rw[Bc];exact t
      . unfold run;rw[Bc];exact u
    |some n =>
      have R:=Q2 (VE (f:=eC (.int 0)) (g:=Qa 4) (env:=E (.int n)) (U:=h) (i:=0) (j:=n) rfl (ak rfl));have T:=Q2 (jg (f:=Qa 4) (g:=QA QV (Qc (Qa 0) (Qk))) (env:=E (.int n)) (U:=h) (i:=n) (j:=P.length) (ak rfl) (by
        have:=yT (f:=Qa 0) (env:=E (.int n)) (hx.sub s) (ak rfl)
        rwa [Bb]at this))
      have X:eB (Qe XO (Qa 4) (Qa 3)) (E (.int n)) h=some (!decide (n∈c),h):=Q2 (Qs (x:=.int n) (y:=.ref S) (ak rfl) (ak rfl) (by unfold XO;rw[Qf (Gh t n)];rfl));have F:=(xE J).trans (Vc R (Vc T X));by_cases q:0<=n/\n<(P.length:Int)/\n∉c
      . have C:In P n:=⟨q.1,q.2.1⟩
        rw[Ca q.1,Ca q.2.1,Cc q.2.2]at F;have gl:=g.len;have Q:=Q0 (env:=E (.int n)) (Z2 (o:=Qa 6) (e:=Qa 4) (env:=E (.int n)) (a:=A) (ak rfl) u (ak rfl) u (by rw[Bb];lia))
        let I:Hs:=h.set A (.lst (done.map .int++[.int n]))
        have v:I[S]?=some (.lst (c.map .int)):=by show(List.set _ _ _)[_]?=_;rw[Aj (Ne.symm G)];exact t
        have p8:=Q0 (env:=E (.int n)) (Z2 (o:=Qa 3) (e:=Qa 4) (env:=E (.int n)) (a:=S) (ak rfl) v (ak rfl) v (by rw[Bb];lia))
        let r:Hs:=I.set S (.lst (c.map .int++[.int n]))
        have lS:S<h.length:=(Ac.mp t).1;have lA:A<h.length:=(Ac.mp u).1;have s':Sub w r:=(s.set hA _).set hS _;have gS:r[S]?=some (.lst ((c++[n]).map .int)):=by show((h.set A _).set S _)[S]?=_;rw[Aq (by rw[List.length_set];exact lS),List.map_append];rfl
        have gA:r[A]?=some (.lst ((done++[n]).map .int)):=by show((h.set A _).set S _)[A]?=_;rw[Aj G,Aq lA,List.map_append];rfl
        have st:=Qt (i:=4) (env:=E (.int n)) (ZR (i:=4) (XR (f:=Qa 0) (g:=Qa 4) (env:=E (.int n)) (hx.sub s') (ak rfl) (ak rfl) C) rfl);obtain⟨z,h',Y,Z,e3,e4,e5⟩:=ih m (c++[n]) (done++[n]) (aO P n).sd r (g.snoc C q.2.2) (by rw[Ak,List.length_singleton];lia) ⋯ s' gS gA (by rw[Ak,List.length_singleton];lia);refine⟨z,h',(xq F ((Qi Q).trans ((Qi p8).trans st))).trans Y,by rw[Z];show((h.set A _).set S _).length=_;rw[List.length_set,List.length_set],?_,?_,λi L O=>?_⟩
        . rw[e3];conv=>rhs;unfold run
          rw[B8 q,Aw];rfl
        . rw[e4];conv=>rhs;unfold run
          rw[B8 q,Aw];rfl
        . rw[e5 i L O];show((h.set A _).set S _)[i]?=_;rw[Aj (Ne.symm L),Aj (Ne.symm O)]
      . have hb:(decide (0<=n)&&(decide (n<(P.length:Int))&&!decide (n∈c)))=false:=by rw[Bool.eq_false_iff];intro z;simp only[A0,decide_eq_true_eq,Bool.not_eq_true',decide_eq_false_iff_not]at z;exact q ⟨z.1,z.2.1,z.2.2⟩
        rw[hb]at F;refine⟨.int n,h,qh F,rfl,?_,?_,λi _ _=>rfl⟩
        . unfold run;rw[B7 q,Bc];exact t
        . unfold run;rw[B7 q,Bc];exact u
theorem Ot{U:Hs}{a:Nat}{r:List Int}{f:aB}{env:En}(hf:f env U=some (.ref a,U))(h:U[a]?=some (.lst (r.map .int))):eB (Qe bC f (Zz Qk)) env U=some (!r.isEmpty,U):=by
  have:=BO r h;unfold aX at this;refine Q2 (Qs (x:=.ref a) (y:=.lst []) hf rfl ?_);unfold bC;cases e:Xs (.ref a) (.lst []) U with
  |none=>rw[show(Xs (.ref a) (.lst []) >>= λb=>pure (DV.bl b)) U=none by show(Xs (.ref a) (.lst []) U).bind _=_;rw[e];rfl]at this;cases this
  |some q=>obtain⟨b,c⟩:=q;rw[Qf e]at this ⊢;have:some (DV.bl b,c)=some (DV.bl r.isEmpty,U):=this;cases this;rfl
theorem Oq{U:Hs}{r:List Int}{f:aB}{env:En}(hf:f env U=some (.tup (r.map .int),U)):eB (Qe bC f (ZK Qk)) env U=some (!r.isEmpty,U):=by refine Q2 (Qs (x:=.tup (r.map .int)) (y:=.tup []) hf rfl ?_);unfold bC;rw[Qf (show Xs (.tup (r.map .int)) (.tup []) U=_ from U6 r [] U)];cases r<;>rfl
theorem Wv(hx:aP w d (P.map aG))(ok:Ok P){root:Int}(hr:In P root):∃h bs,YU [d,.int root] w=some (.ref w.length,h)/\Sub w h/\h[w.length]?=some (.lst (bs.map .ref))/\aK h bs (ZJ P root):=by
  have q:=ok.at hr;have pl:=ok.len
  let N:=(aO P root).lv.toNat+1
  let E:DV->Sl->Sl->En:=λo a b=>[.val d,.val (.int root),.val (.ref w.length),.val (.ref (w.length+1)),.val o,a,b]
  let w2:Hs:=w++[.lst [],.lst []]
  have O:∀(c:Nat),∃(O:List Int)(o:Option Int),Good P O/\YJ P (c+1) [] (some root)=YJ P c [] (some root)++[Yw P O o]:=λc=>by obtain⟨O,o,g,e⟩:=HQ P c [] (some root);exact⟨O,o,g ⟨.nil,λn J=>nomatch J⟩,e⟩
  obtain⟨qq,h',e,o',a,b,bs,rfl,s',g1,R⟩:WP (Z8 (bK (QZ 0 N)) (λd env=>do let env' <- gN 5 d env;Y6 env') 100000 0 (E (.int root) .un .un)) w2 λq h'=>∃o' a b bs,q=(.nx,E o' a b)/\Sub w h'/\h'[w.length]?=some (.lst (bs.map .ref))/\aK h' bs (YJ P N [] (some root)):=by
    refine Zr _ (λi v h'=>∃(o:Option Int)(a b:Sl)(bs:List Nat)(l:List Int),v=E (opt o) a b/\Sub w h'/\h'[w.length]?=some (.lst (bs.map .ref))/\h'[w.length+1]?=some (.lst (l.map .int))/\Good P l/\aK h' bs (YJ P i [] (some root))/\(∀b∈bs,w.length+2<=b)/\bs.length=i/\∀c,YJ P (i+c) [] (some root)=YJ P i [] (some root)++YJ P c l o) (by rw[Qz];lia) ⟨some root,.un,.un,[],[],rfl,Sub.app _ _,by show(w++_)[_]?=_;simp,by show(w++_)[_]?=_;simp,⟨.nil,λn J=>nomatch J⟩,⟨rfl,λi b r C=>by cases C⟩,(λb I=>nomatch I),rfl,λc=>by rw[Nat.zero_add];rfl⟩ (λi dd hi v h' zz=>?_) (λv h' zz=>?_)
    . obtain⟨o,a,b,bs,l,rfl,s',g1,g2,gs,R,I,bl,Q⟩:=zz
      obtain⟨li,rfl⟩:=Jv hi;have gl:=gs.len;have l2:w.length+1<h'.length:=(Ac.mp g2).1
      let C:Hs:=h'++[.lst []]
      have s1:Sub h' C:=Sub.app _ _;obtain⟨z,G,e1,e2,e3,Z,e5⟩:=HU (P:=P) (w:=w) (d:=d) hx pl (.int root) (.int i) (.ref w.length) (S:=w.length+1) (A:=h'.length) ⋯ s'.len ⋯ (P.length+1-l.length) 100000 l [] o C gs ⋯ ⋯ (s'.trans s1) (s1 _ _ g2) (QU _ _) (by simp;lia)
      let r:=Yw P l o
      have Z:G[h'.length]?=some (.lst (r.map .int)):=Z;have rg:=YL (P:=P) (P.length+1-l.length) l o gs;have DZ:C.length=h'.length+1:=by show(h'++[OV.lst []]).length=_;simp
      have k2:∀j,j<h'.length->j≠w.length+1->G[j]?=h'[j]?:=λj T J=>by rw[e5 j J ⋯];show(h'++_)[j]?=_;rw[Af T]
      have tQ:G[w.length]?=some (.lst (bs.map .ref)):=by rw[k2 _ ⋯ ⋯];exact g1
      have ap:=Q0 (env:=E z (.val (.int i)) (.val (.ref h'.length))) (Z2 (o:=Qa 2) (e:=Qa 6) (env:=E z (.val (.int i)) (.val (.ref h'.length))) (a:=w.length) (ak rfl) tQ (ak rfl) tQ (by rw[Bb,bl];lia))
      let t:Hs:=G.set w.length (.lst (bs.map .ref++[.ref h'.length]))
      have l3:w.length<G.length:=⋯
      have s3:Sub w t:=λj x ej=>by have lj:=(Ac.mp ej).1;show(List.set _ _ _)[_]?=_;rw[Aj ⋯,k2 j ⋯ ⋯];exact s' j x ej
      have gr:t[h'.length]?=some (.lst (r.map .int)):=by show(List.set _ _ _)[_]?=_;rw[Aj ⋯];exact Z
      let F:DV->En:=λo=>E o (.val (.int i)) (.val (.ref h'.length))
      have Y:=Ot (f:=Qa 6) (env:=F .non) (U:=t) (ak rfl) gr;have L:aN (Jx (eB (Qe bC (Qa 6) (Zz (Qk)))) (eB (Qe bC (Qe au (Qe au (Qa 0) (Qe au (Qa 6) (eC (.int 0)))) (eC (.int 2))) (ZK (Qk))))) (Qx 4 (Qe au (Qe au (Qe au (Qa 0) (Qe au (Qa 6) (eC (.int 0)))) (eC (.int 2))) (eC (.int 0)))) (Zn) (F .non) t=some ((.nx,F (opt (KR P r))),t):=by
        cases u:r with
        |nil=>rw[u]at Y;exact(QL (xD Y)).trans QM
        |cons n rr =>
          rw[u]at Y gr;have ab:In P n:=rg.2 n (Ah _ (show n∈Yw P l o by rw[show Yw P l o=n::rr from u];exact Bz));have x0:Qe au (Qa 6) (eC (.int 0)) (F .non) t=some (.int n,t):=Z6 (i:=0) (ak rfl) gr rfl rfl;have x2:=ZR (i:=2) (XR (f:=Qa 0) (env:=F .non) (hx.sub s3) (ak rfl) x0 ab) rfl;have t2:=Oq x2;have tt:=(xE Y).trans t2;show _=some ((Fl.nx,F (opt (aO P n).ps.head?)),t);cases U:(aO P n).ps with
          |nil=>rw[U]at tt;exact(QL tt).trans QM
          |cons y ys=>rw[U]at tt x2;exact(Zf tt).trans (Qt (JQ (i:=0) x2 rfl rfl))
      refine⟨(.nx,F (opt (KR P r))),t,?_,KR P r,.val (.int i),.val (.ref h'.length),bs++[h'.length],l++r,rfl,s3,?_,?_,rg,?_,?_,by rw[Ak,bl];rfl,λc=>?_⟩
      . show Y6 (E (opt o) (.val (.int i)) b) h'=_
        exact(Qi (Qt (Z4 _ _))).trans ((Qi (show js _ _=_ from e1)).trans ((Qi ap).trans ((Qi (Qt rfl)).trans L)))
      . show(List.set _ _ _)[_]?=_;rw[Aq l3,List.map_append];rfl
      . show(List.set _ _ _)[_]?=_;rw[Aj ⋯];exact e3
      . have:YJ P (i+1) [] (some root)=YJ P i [] (some root)++[r]:=Q 1
        rw[this];refine R.snoc (λb X=>?_) gr;have D8:=I b X;have lb:b<h'.length:=by
          obtain⟨j,T⟩:=List.mem_iff_getElem?.mp X;have lj:j<(YJ P i [] (some root)).length:=by rw[<- R.1];exact(Ac.mp T).1
          exact(Ac.mp (R.2 j b _ T (Ab lj))).1
        show(List.set _ _ _)[_]?=_;rw[Aj ⋯,k2 b lb ⋯]
      . intro b X
        rcases Ag.mp X with z|z
        . exact I b z
        . rw[Ap.mp z];lia
      . have:=Q (1+c)
        rw[show i+1+c=i+(1+c)by lia,this,Q 1,Aw];rw[Nat.add_comm 1 c];rfl
    . obtain⟨o,a,b,bs,l,rfl,s',g1,g2,gs,R,I,bl,Q⟩:=zz
      rw[Qz]at R;exact⟨_,a,b,bs,rfl,s',g1,R⟩
  refine⟨h',bs,QB (env:=E o' a b) ?_,s',g1,R⟩;have e0:(w++[OV.lst []]).length=w.length+1:=by simp
  refine(Qi (aL:=[.val d,.val (.int root),.val (.ref w.length),.un,.un,.un,.un]) (hp1:=w++[.lst []]) (Qt rfl)).trans ?_;refine(Qi (Qt (Z4 _ _))).trans ?_;rw[e0,Aw];have v:Qe QP (Qe au (Qe au (Qa 0) (Qa 1)) (eC (.int 0))) (eC (.int 1)) (E (.int root) .un .un) w2=some (.int (N:Nat),w2):=by
    have:=Q7 (g:=eC (.int 1)) (j:=1) (ZR (i:=0) (XR (f:=Qa 0) (g:=Qa 1) (env:=E (.int root) .un .un) (hx.sub (Sub.app w [.lst [],.lst []])) (ak rfl) (ak rfl) hr) rfl) rfl
    rwa [show(aO P root).lv+1=((N:Nat):Int)by show _=(((aO P root).lv.toNat+1:Nat):Int);lia]at this
  exact(Qi (Qt (ak rfl))).trans ((Qi (Q6 (ZS (Z3 (m:=N) (QR v) (by show(aO P root).lv.toNat+1<=_;lia))) e)).trans (QC (ak rfl)))
end
def W0(b hi:Option Int):Bool:=!p7 b hi
def pC(v:Int):Option Int->Bool
 |none=>false
 |some x=>decide (v<x)
def pD(v:Int):Option Int->Bool
 |none=>false
 |some y=>decide (y<=v)
def stK(p:Pp)(b:Option Int)(k:Nat):Bool:=(decide (0<k)&&decide (p.ks.getD k 0<=p.ks.getD (k-1) 0))||(pC (p.ks.getD k 0) b||pD (p.ks.getD k 0) p.hi)
def Wk(p:Pp)(b:Option Int)(i:Nat):Bool:=W0 b p.hi||(List.range i).any (stK p b)
theorem Sw(p:Pp)(b:Option Int)(i:Nat):Wk p b (i+1)=(Wk p b i||stK p b i):=by unfold Wk;rw[List.range_succ,List.any_append,Bool.or_assoc];simp
theorem Jo{l:List Int}{k:Nat}(h:k<l.length):l.getD k 0=l[k]:=by rw[Br,Ab h];rfl
theorem gO(ks:List Int):(ks.zip (ks.drop 1)).all nR=true↔∀k,k+1<ks.length->ks.getD k 0<ks.getD (k+1) 0:=by
 rw[List.all_eq_true];constructor
 ·intro h k a;have e:(ks.zip (ks.drop 1))[k]?=some (ks.getD k 0,ks.getD (k+1) 0):=by
   rw[List.getElem?_zip_eq_some];refine⟨?_,?_⟩
   ·rw[Jo ⋯,Ab ⋯]
   ·rw[Jo a,List.getElem?_drop,Nat.add_comm 1 k,Ab a]
  exact Cb (h _ (As e))
 ·intro h q f;obtain⟨k,a⟩:=List.mem_iff_getElem?.mp f;rw[List.getElem?_zip_eq_some,List.getElem?_drop]at a;obtain⟨g,d⟩:=Ac.mp a.1;obtain⟨i,c⟩:=Ac.mp a.2;have:=h k ⋯;rw[Jo g,Jo ⋯,d]at this;have c:ks[k+1]'⋯=q.2:=by rw[<- c];congr 1;lia
  rw[c]at this;exact Ca this
theorem Oc(p:Pp)(b:Option Int):Wk p b p.ks.length=!qu p b:=by
  have mem:∀y∈p.ks,∃k,k<p.ks.length/\p.ks.getD k 0=y:=λy c=>by obtain⟨k,a,e⟩:=List.getElem_of_mem c;exact⟨k,a,by rw[Jo a];exact e⟩
  have d:∀k,k<p.ks.length->p.ks.getD k 0∈p.ks:=λk a=>by rw[Jo a];exact Bi a
  cases h:qu p b with
  |true =>
    unfold qu at h;simp only[A0]at h;obtain⟨f,t,l,u⟩:=h;have f:=(gO p.ks).mp f;show Wk p b p.ks.length=false;unfold Wk W0;rw[u];show(List.range p.ks.length).any (stK p b)=false;rw[List.any_eq_false];intro k a;have a:=Bm.mp a;unfold stK;have n:(decide (0<k)&&decide (p.ks.getD k 0<=p.ks.getD (k-1) 0))=false:=by
      by_cases q:0<k
      . have:=f (k-1) ⋯
        rw[Nat.sub_add_cancel q]at this;rw[Cc (show ¬ p.ks.getD k 0<=p.ks.getD (k-1) 0 by lia),Bool.and_false]
      . rw[Cc q,Bool.false_and]
    have o:pC (p.ks.getD k 0) b=false:=by
      cases b with
      |none=>rfl
      |some x=>have:=Cb (List.all_eq_true.mp t _ (d k a));exact Cc ⋯
    have r:pD (p.ks.getD k 0) p.hi=false:=by
      cases g:p.hi with
      |none=>rfl
      |some y=>rw[g]at l;have:=Cb (List.all_eq_true.mp l _ (d k a));exact Cc ⋯
    rw[n,o,r];simp
  |false =>
    show Wk p b p.ks.length=true;cases i:Wk p b p.ks.length with
    |true=>rfl
    |false =>
      exfalso;unfold Wk W0 at i;rw[Bool.or_eq_false_iff]at i;obtain⟨v,m⟩:=i;rw[List.any_eq_false]at m;have j:∀k,k<p.ks.length->stK p b k=false:=λk a=>Bool.eq_false_iff.mpr (m k (Bm.mpr a));have:qu p b=true:=by
        unfold qu;simp only[A0];refine⟨(gO p.ks).mpr λk a=>?_,?_,?_,by simpa using v⟩
        . have:=j (k+1) a
          unfold stK at this;rw[Bool.or_eq_false_iff,Bool.and_eq_false_iff]at this;rcases this.1 with z|z
          . exact absurd (Nat.succ_pos k) (of_decide_eq_false z)
          . have:=of_decide_eq_false z
            rw[Nat.add_sub_cancel]at this;lia
        . cases b with
          |none=>rfl
          |some x=>refine List.all_eq_true.mpr λy c=>?_;obtain⟨k,a,e⟩:=mem y c;have:=j k a;unfold stK at this;rw[Bool.or_eq_false_iff,Bool.or_eq_false_iff]at this;have:=of_decide_eq_false this.2.1;exact Ca ⋯
        . cases g:p.hi with
          |none=>rfl
          |some x=>refine List.all_eq_true.mpr λy c=>?_;obtain⟨k,a,e⟩:=mem y c;have:=j k a;unfold stK at this;rw[g,Bool.or_eq_false_iff,Bool.or_eq_false_iff]at this;have:=of_decide_eq_false this.2.2;exact Ca ⋯
      rw[h]at this;cases this
theorem YD{f g:aB}{env:En}{a:Bool}{U:Hs}(h:f env U=some (.bl a,U)):Jy f g env U=if a=true then g env U else some (.bl false,U):=by unfold Jy;rw[Qf h];cases a<;>rfl
theorem Pu{p:Pp}(Q:p.ks.length<=300)(b:Option Int)(w:Hs):Jb [aG p,opt b] w=some (.bl (!qu p b),w):=by
  let E:Sl->Sl->En:=λa k=>[.val (aG p),.val (opt b),a,k,.val (.int p.lv),.val (.tup (p.ks.map .int)),.val (.tup (p.ps.map .int)),.val (opt p.hi),.val (opt p.sd)]
  have L:JX (Qa 0) (gT [4,5,6,7,8]) [.val (aG p),.val (opt b),.un,.un,.un,.un,.un,.un,.un] w=some ((.nx,E .un .un),w):=y0 (d:=aG p) rfl rfl;have t:∀a k,Qe Xt (Qa 1) (eC .non) (E a k) w=some (.bl b.isSome,w):=λa k=>Qs (x:=opt b) (y:=.non) rfl rfl (ZE (VP b) w);have u:∀a k,Qe Xt (Qa 7) (eC .non) (E a k) w=some (.bl p.hi.isSome,w):=λa k=>Qs (x:=opt p.hi) (y:=.non) rfl rfl (ZE (VP p.hi) w);have O:Qx 2 (Jy (Qe Xt (Qa 1) (eC .non)) (Jy (Qe Xt (Qa 7) (eC .non)) (Qe cW (Qa 7) (Qa 1)))) (E .un .un) w=some ((.nx,E (.val (.bl (Wk p b 0))) .un),w):=by
    refine Qt ?_;show _=some (DV.bl (W0 b p.hi||false),w);rw[Bool.or_false,YD (t _ _)];unfold W0;cases l:b with
    |none=>rfl
    |some x =>
      show Jy _ _ _ _=_;rw[YD (u _ _)];cases I:p.hi with
      |none=>rfl
      |some y=>show Qe cW (Qa 7) (Qa 1) (E .un .un) w=some (.bl (!decide (x<y)),w);rw[show(!decide (x<y))=decide (y<=x)by rw[<- decide_not];exact decide_eq_decide.mpr ⋯];exact VE (by show some (opt p.hi,w)=_;rw[I];rfl) (by show some (opt b,w)=_;rw[l];rfl)
  obtain⟨q,h',e,z,rfl,rfl⟩:WP (Z8 (bK (QZ 0 p.ks.length)) (λd env=>do let env' <- gN 3 d env;Xf env') 100000 0 (E (.val (.bl (Wk p b 0))) .un)) w λq h'=>∃z,q=(.nx,E (.val (.bl (Wk p b p.ks.length))) z)/\h'=w:=by
    refine Zr _ (λi n h'=>∃z,n=E (.val (.bl (Wk p b i))) z/\h'=w) (by rw[Qz];lia) ⟨.un,rfl,rfl⟩ (λi P hi n h' zz=>?_) (λn h' zz=>?_)
    . obtain⟨z,rfl,rfl⟩:=zz
      obtain⟨r,rfl⟩:=Jv hi
      let G:Bool->En:=λa=>E (.val (.bl a)) (.val (.int i))
      have o:∀a,Qe au (Qa 5) (Qa 3) (G a) h'=some (.int (p.ks.getD i 0),h'):=λa=>JQ (i:=i) (ak rfl) (ak rfl) (by rw[Be,Ab r,Jo r];rfl);have h:∀(a c:Bool)(f:aB),f (G a) h'=some (.bl c,h')->Qx 2 (YY (Qa 2) f) (G a) h'=some ((.nx,G (a||c)),h'):=λa c f hf=>by
        refine Qt ?_;rw[KN (show Qa 2 (G a) h'=some (.bl a,h')from rfl)];cases a with
        |true=>rfl
        |false=>rw[B7 (by simp)];exact hf
      have v:∀a,Jy (Qe cR (Qa 3) (eC (.int 0))) (Qe cW (Qe au (Qa 5) (Qa 3)) (Qe au (Qa 5) (Qe Jj (Qa 3) (eC (.int 1))))) (G a) h'=some (.bl (decide (0<i)&&decide (p.ks.getD i 0<=p.ks.getD (i-1) 0)),h'):=λa=>by
        rw[YD (Yo (f:=Qa 3) (g:=eC (.int 0)) (env:=G a) (U:=h') (i:=i) (j:=0) (ak rfl) rfl)];by_cases q:0<i
        . rw[Ca (show(0:Int)<i by lia),Ca q,B8 rfl,Bool.true_and]
          refine VE (o a) (JQ (i:=i-1) (ak rfl) ?_ (by rw[Be,Ab ⋯,Jo ⋯];rfl));have:=Z0 (f:=Qa 3) (g:=eC (.int 1)) (env:=G a) (U:=h') (i:=i) (j:=1) (ak rfl) rfl
          rwa [show((i:Int)-1)=((i-1:Nat):Int)by lia]at this
        . rw[Cc (show ¬ (0:Int)<i by lia),Cc q,B7 (by simp),Bool.false_and]
      have C:∀a,Jy (Qe Xt (Qa 1) (eC .non)) (Qe bW (Qe au (Qa 5) (Qa 3)) (Qa 1)) (G a) h'=some (.bl (pC (p.ks.getD i 0) b),h'):=λa=>by
        rw[YD (t _ _)];cases l:b with
        |none=>rfl
        |some x=>exact jg (o a) (by show some (opt b,h')=_;rw[l];rfl)
      have F:∀a,Jy (Qe Xt (Qa 7) (eC .non)) (Qe iM (Qe au (Qa 5) (Qa 3)) (Qa 7)) (G a) h'=some (.bl (pD (p.ks.getD i 0) p.hi),h'):=λa=>by
        rw[YD (u _ _)];cases l:p.hi with
        |none=>rfl
        |some y=>exact Qs (x:=.int (p.ks.getD i 0)) (y:=.int y) (o a) (by show some (opt p.hi,h')=_;rw[l];rfl) rfl
      refine⟨(.nx,G (Wk p b (i+1))),h',?_,.val (.int i),rfl,rfl⟩;rw[Sw];unfold stK;rw[<- Bool.or_assoc,<- Bool.or_assoc];exact(Qi (h _ _ _ (v _))).trans ((Qi (h _ _ _ (C _))).trans (h _ _ _ (F _)))
    . obtain⟨z,rfl,rfl⟩:=zz
      rw[Qz];exact⟨z,rfl,rfl⟩
  have J:QA QV (Qc (Qa 5) (Qk)) (E (.val (.bl (Wk p b 0))) .un) h'=some (.int p.ks.length,h'):=by
    have:=J3 (f:=Qa 5) (env:=E (.val (.bl (Wk p b 0))) .un) (U:=h') (ds:=p.ks.map .int) (ak rfl)
    rwa [Bb]at this
  rw[<- Oc];exact QB (env:=E (.val (.bl (Wk p b p.ks.length))) z) ((Qi L).trans ((Qi O).trans ((Qi (Q6 (ZS (Z3 (m:=p.ks.length) (QR J) ⋯)) e)).trans (QC (ak rfl)))))
theorem K4:∀a:List Int,g_ (a.map .int)=some a
 | []=>rfl
 |i::r=>by rw[Az,g_,K4 r];rfl
theorem M1{U:Hs}{a:Nat}{ns:List Int}{i:Int}{o e:aB}{env:En}(g:o env U=some (.ref a,U))(h:U[a]?=some (.lst (ns.map .int)))(d:e env U=some (.int i,U))(hi:i∈ns)(f:ns.length<=1000):Zk "list" VJ o (Qc e Qk) env U=some (.int (ns.idxOf i:Nat),U):=by
 unfold Zk;rw[Qf g,Qf (Kd h),Qf (QR d)];have c:d9 (.ref a) U=some (ns.map .int,U):=by show(Zx a >>= _) U=_;rw[Qf (Q8 h)];rfl
 show(d9 (.ref a) >>= _) U=_;rw[Qf c];show(iI (g_ (ns.map .int)) >>= _) U=_;rw[K4,Qf (show iI (some ns) U=some (ns,U)from rfl),Qf (show QG (decide (i∈ns)) U=some ((),U)by rw[Ca hi];rfl),Qf (show QG (JV (ns.map DV.int)) U=some ((),U)by rw[show JV (ns.map DV.int)=true from Ca (by rw[Bb];exact A8 f (by decide))];rfl)];rfl
theorem gY{f g:aB}{env:En}{U:Hs}{xs ys:List DV}(hf:f env U=some (.lst xs,U))(a:g env U=some (.lst ys,U))(c:xs.length+ys.length<=100000):Qe QP f g env U=some (.lst (xs++ys),U) :=
 Qs hf a (by show(QG (JV (xs++ys)) >>= λ_=>pure (DV.lst (xs++ys))) U=_;rw[show JV (xs++ys)=true from Ca (by rw[Ak];exact c)];rfl)
section
variable{P:List Pp}{w:Hs}{d:DV}
theorem Td{h:Hs}(hx:aP h d (P.map aG)){p:Pp}(Y:p.ks.length<=300){i:Nat}(hi:i<p.ps.length)(b:Option Int){m:Nat}{e:List Int}(o:h[m]?=some (.lst (e.map .int)))(u:Good P e)(X:P.length<=300):JB [d,aG p,.int i,opt b,.ref m] h=some (.bl (UA P e b p i),h):=by
 let c:=p.ps.getD i 0
 let E:Sl->Sl->En:=λS T=>[.val d,.val (aG p),.val (.int i),.val (opt b),.val (.ref m),.val (.int c),S,T]
 have C:(p.ps.map DV.int)[i]?=some (.int c):=by show _=some (DV.int (p.ps.getD i 0));rw[Be,Ab hi,Jo hi];rfl
 have bl:=u.len;have r:Qx 5 (Qe au (Qe au (Qa 1) (eC (.int 2))) (Qa 2)) [.val d,.val (aG p),.val (.int i),.val (opt b),.val (.ref m),.un,.un,.un] h=some ((.nx,E .un .un),h):=Qt (JQ (i:=i) (ZR (i:=2) (ak rfl) rfl) (ak rfl) C);have O:eB (Qe XO (Qa 5) (Qa 4)) (E .un .un) h=some (!decide (c∈e),h):=Q2 (Qs (x:=.int c) (y:=.ref m) (ak rfl) (ak rfl) (by unfold XO;rw[Qf (Gh o c)];rfl));have G:QA QV (Qc (Qe au (Qa 1) (eC (.int 1))) (Qk)) (E .un .un) h=some (.int p.ks.length,h):=by
  have:=J3 (ZR (f:=Qa 1) (env:=E .un .un) (w:=h) (p:=p) (i:=1) (ak rfl) rfl)
  rwa [Bb]at this
 have L:eB (Qe cR (Qa 2) (QA QV (Qc (Qe au (Qa 1) (eC (.int 1))) (Qk)))) (E .un .un) h=some (decide (p.ks.length<i),h):=by
  have:=Q2 (Yo (f:=Qa 2) (i:=i) (show Qa 2 (E .un .un) h=some (.int i,h)from rfl) G)
  rwa [decide_eq_decide.mpr (show((p.ks.length:Int)<i)↔p.ks.length<i by lia)]at this
 have tt:=kT O L;unfold UA;by_cases n:p.ks.length<i
 ·rw[Ca n,Bool.or_true]at tt;rw[Ca n,Bool.true_or];exact QB (env:=E .un .un) ((Qi r).trans (Zo ((Zf tt).trans (QC rfl))))
 ·rw[Cc n,Bool.or_false]at tt;rw[Cc n,Bool.false_or];by_cases l:c∈e
  ·rw[Ca l]at tt;rw[show decide (p.ps.getD i 0∈e)=true from Ca l]
   let a:=e.idxOf c
   have Z:a<e.length:=List.idxOf_lt_length_iff.mpr l;have I:Qx 6 (Zk "list" VJ (Qa 4) (Qc (Qa 5) (Qk))) (E .un .un) h=some ((.nx,E (.val (.int a)) .un),h):=Qt (M1 (ak rfl) o (ak rfl) l ⋯);have J:aN (eB (Qe cR (Qa 6) (eC (.int 0)))) (Qx 7 (Qe au (Qe au (Qa 0) (Qe au (Qa 4) (Qe Jj (Qa 6) (eC (.int 1))))) (eC (.int 3)))) (Zn) (E (.val (.int a)) (.val .non)) h=some ((.nx,E (.val (.int a)) (.val (opt (bnd P e a)))),h):=by
    have t:=Q2 (Yo (f:=Qa 6) (g:=eC (.int 0)) (env:=E (.val (.int a)) (.val .non)) (U:=h) (i:=a) (j:=0) (ak rfl) rfl);unfold bnd;by_cases q:a=0
    ·rw[Cc (show ¬ (0:Int)<a by lia)]at t;rw[B8 q];exact(QL t).trans QM
    ·rw[Ca (show(0:Int)<a by lia)]at t;rw[B7 q];have R:Qe au (Qa 4) (Qe Jj (Qa 6) (eC (.int 1))) (E (.val (.int a)) (.val .non)) h=some (.int (e.getD (a-1) 0),h):=by
      refine Z6 (i:=a-1) (ak rfl) o ?_ (by rw[Be,Ab ⋯,Jo ⋯];rfl);have:=Z0 (f:=Qa 6) (g:=eC (.int 1)) (env:=E (.val (.int a)) (.val .non)) (U:=h) (i:=a) (j:=1) (ak rfl) rfl
      rwa [show((a:Int)-1)=((a-1:Nat):Int)by lia]at this
     exact(Zf t).trans (Qt (ZR (i:=3) (XR hx (ak rfl) R (u.2 _ (by rw[Jo ⋯];exact Bi _))) rfl))
   let F:=E (.val (.int a)) (.val (opt (bnd P e a)))
   have Q:(opt b::p.ks.map DV.int)[i]?=some (opt ((b::p.ks.map some).getD i none)):=by
    have z:(opt b::p.ks.map DV.int)=(b::p.ks.map some).map opt:=by rw[Az,List.map_map];rfl
    rw[z,Be,Br,Ab (by simp;lia)];rfl
   have v:Qe QP (Zz (Qc (Qa 3) (Qk))) (QA lV (Qc (Qe au (Qa 1) (eC (.int 1))) (Qk))) F h=some (.lst (opt b::p.ks.map .int),h):=gY (xs:=[opt b]) (ys:=p.ks.map .int) rfl (Jd (QR (ZR (i:=1) (ak rfl) rfl)) (Ws _ _)) (by rw[Bb];simp;lia);exact QB (env:=F) ((Qi r).trans ((Qi ((QL tt).trans QM)).trans ((Qi I).trans ((Qi (Qt rfl)).trans ((Qi J).trans (QC (Qs (x:=opt (bnd P e a)) (y:=opt ((b::p.ks.map some).getD i none)) (ak rfl) (Zl (i:=i) v (ak rfl) Q) (rF _ _ h))))))))
  ·rw[Cc l]at tt;rw[show decide (p.ps.getD i 0∈e)=false from Cc l];exact QB (env:=E .un .un) ((Qi r).trans (Zo ((Zf tt).trans (QC rfl))))
theorem uM(hx:aP w d (P.map aG))(ok:Ok P){L:Nat}{bs:List Nat}{r:List (List Int)}(R:aK w bs r)(hL:w[L]?=some (.lst (bs.map .ref)))(RS:Rs P r):Xr [d,.ref L] w=some (.ref w.length,w++[.lst (qO P r r.length)]):=by
  have pl:=ok.len;have rl:=RS.len
  let H:List DV->Hs:=λl=>w++[OV.lst l]
  have sH:∀l,Sub w (H l):=λl=>Sub.app _ _;have hg:∀l,(H l)[w.length]?=some (.lst l):=λl=>QU _ _;have eG:∀l m,(H l).set w.length (.lst m)=H m:=λl m=>by show(w++[OV.lst l]).set w.length (OV.lst m)=w++[OV.lst m];simp
  let E:Sl->Sl->Sl->Sl->Sl->Sl->Sl->En:=λa b c e f g i=>[.val d,.val (.ref L),.val (.ref w.length),a,b,c,e,f,g,i]
  obtain⟨q,h',e,a3,a4,a5,a6,a7,a8,a9,rfl,rfl⟩:WP (Z8 (bK (QZ 0 r.length)) (λd env=>do let env' <- gN 3 d env;qW env') 100000 0 (E .un .un .un .un .un .un .un)) (H []) λq h'=>∃a3 a4 a5 a6 a7 a8 a9,q=(.nx,E a3 a4 a5 a6 a7 a8 a9)/\h'=H (qO P r r.length):=by
    refine Zr _ (λi en h'=>∃a3 a4 a5 a6 a7 a8 a9,en=E a3 a4 a5 a6 a7 a8 a9/\h'=H (qO P r i)) (by rw[Qz];lia) ⟨.un,.un,.un,.un,.un,.un,.un,rfl,rfl⟩ (λi dd hi en h' zz=>?_) (λen h' zz=>?_)
    . obtain⟨a3,a4,a5,a6,a7,a8,a9,rfl,rfl⟩:=zz
      obtain⟨li,rfl⟩:=Jv hi
      let u:=r.getD i []
      let Q:=r.getD (i+1) []
      let aM:Int:=(r.length:Int)-1-i
      have g:=RS.at i;have gb:=RS.at (i+1);have gl:u.length<=P.length:=g.len;have l3:(r.take i).flatten.length+u.length=(r.take (i+1)).flatten.length:=Xv r i;have l4:=y3 r (i+1);have l5:=RS.flat
      let C:=qO P r i
      have ln:C.length<=304 * (r.take i).flatten.length:=Vs ok RS i;have inner:∃q2 h2,Z8 (bK (QZ 0 u.length)) (λd env=>do let env' <- gN 4 d env;XL env') 100000 0 (E (.val (.int i)) a4 a5 a6 a7 a8 a9) (H C)=some (q2,h2)/\∃b4 b5 Z Y I z,q2=(.nx,E (.val (.int i)) b4 b5 Z Y I z)/\h2=H (C++JU P u aM Q u.length):=by
        refine Zr _ (λj en h'=>∃b4 b5 Z Y I z,en=E (.val (.int i)) b4 b5 Z Y I z/\h'=H (C++JU P u aM Q j)) (by rw[Qz];lia) ⟨a4,a5,a6,a7,a8,a9,rfl,by show _=H (C++[]);rw[Bc]⟩ (λj dd hj en h' zz=>?_) (λen h' zz=>?_)
        . obtain⟨b4,b5,Z,Y,I,z,rfl,rfl⟩:=zz
          obtain⟨lj,rfl⟩:=Jv hj
          let n:=u.getD j 0
          let p:=aO P n
          have en:u[j]?=some n:=by show _=some (u.getD j 0);rw[Ab lj,Jo lj]
          have ab:In P n:=g.2 n (As en);have fU:=ok.at ab;have DJ:p.ps.length<=300:=fU.2.2.2
          let acc:=C++JU P u aM Q j
          let X:=H acc
          have DU:(JU P u aM Q j).length<=304 * j:=YI ok g aM Q j (Nat.le_of_lt lj);have ag:acc.length=C.length+(JU P u aM Q j).length:=Ak;have lj:j<u.length:=lj;have tu:acc.length+304<=91200:=⋯
          let G:Sl->Sl->Sl->Sl->Sl->En:=λc5 c6 c7 c8 S=>E (.val (.int i)) (.val (.int j)) c5 c6 c7 c8 S
          have d7:∀(c5 c6 c7 c8 S:Sl)(l:List DV),∃b,Qe au (Qa 1) (Qa 3) (G c5 c6 c7 c8 S) (H l)=some (.ref b,H l)/\(H l)[b]?=some (.lst (u.map .int)):=λc5 c6 c7 c8 S l=>J5 R (sH l) hL (f:=Qa 1) (g:=Qa 3) (i:=i) li (ak rfl) (ak rfl);have af:Qx 5 (Qe au (Qe au (Qa 1) (Qa 3)) (Qa 4)) (G b5 Z Y I z) X=some ((.nx,G (.val (.int n)) Z Y I z),X):=by obtain⟨b,eb,hb⟩:=d7 b5 Z Y I z acc;exact Qt (Z6 (i:=j) eb hb (ak rfl) (by rw[Be,en];rfl))
          have Ei:Qx 6 (Qe au (Qa 0) (Qa 5)) (G (.val (.int n)) Z Y I z) X=some ((.nx,G (.val (.int n)) (.val (aG p)) Y I z),X):=Qt (XR (hx.sub (sH _)) (ak rfl) (ak rfl) ab);have mD:aN (eB (Qe cR (Qa 4) (eC (.int 0)))) (Qx 7 (Qe au (Qe au (Qa 0) (Qe au (Qe au (Qa 1) (Qa 3)) (Qe Jj (Qa 4) (eC (.int 1))))) (eC (.int 3)))) (Zn) (G (.val (.int n)) (.val (aG p)) (.val .non) I z) X=some ((.nx,G (.val (.int n)) (.val (aG p)) (.val (opt (bnd P u j))) I z),X):=by
            have t:=Q2 (Yo (f:=Qa 4) (g:=eC (.int 0)) (env:=G (.val (.int n)) (.val (aG p)) (.val .non) I z) (U:=X) (i:=j) (j:=0) (ak rfl) rfl);unfold bnd;by_cases q:j=0
            . rw[Cc (show ¬ (0:Int)<j by lia)]at t
              rw[B8 q];exact(QL t).trans QM
            . rw[Ca (show(0:Int)<j by lia)]at t
              rw[B7 q];obtain⟨b,eb,hb⟩:=d7 (.val (.int n)) (.val (aG p)) (.val .non) I z acc;have x1:Qe au (Qe au (Qa 1) (Qa 3)) (Qe Jj (Qa 4) (eC (.int 1))) (G (.val (.int n)) (.val (aG p)) (.val .non) I z) X=some (.int (u.getD (j-1) 0),X):=by
                refine Z6 (i:=j-1) eb hb ?_ (by rw[Be,Ab ⋯,Jo ⋯];rfl);have:=Z0 (f:=Qa 4) (g:=eC (.int 1)) (env:=G (.val (.int n)) (.val (aG p)) (.val .non) I z) (U:=X) (i:=j) (j:=1) (ak rfl) rfl
                rwa [show((j:Int)-1)=((j-1:Nat):Int)by lia]at this
              exact(Zf t).trans (Qt (ZR (i:=3) (XR (hx.sub (sH _)) (ak rfl) x1 (g.2 _ (by rw[Jo ⋯];exact Bi _))) rfl))
          let fo:=n8 u j
          let J:=bnd P u j
          have Eh:Qx 8 (Qe au (Qe m8 (Qe au (Qa 1) (Qa 3)) (Zz (Qc (eC .non) (Qk)))) (Qe QP (Qa 4) (eC (.int 1)))) (G (.val (.int n)) (.val (aG p)) (.val (opt J)) I z) X=some ((.nx,G (.val (.int n)) (.val (aG p)) (.val (opt J)) (.val (opt fo)) z),X):=by
            obtain⟨b,eb,hb⟩:=d7 (.val (.int n)) (.val (aG p)) (.val (opt J)) I z acc;have ad:Qe m8 (Qe au (Qa 1) (Qa 3)) (Zz (Qc (eC .non) (Qk))) (G (.val (.int n)) (.val (aG p)) (.val (opt J)) I z) X=some (.lst (u.map .int++[.non]),X):=Qs (x:=.ref b) (y:=.lst [.non]) eb rfl (by show(Zx b >>= _) X=_;rw[Qf (Q8 hb)];show(QG (JV (u.map DV.int++[.non])) >>= λ_=>pure (DV.lst (u.map DV.int++[.non]))) X=_;rw[show JV (u.map DV.int++[.non])=true from Ca (by rw[Ak,Bb];show u.length+1<=100000;lia)];rfl)
            refine Qt (Zl (i:=j+1) ad (Q7 (i:=j) (j:=1) (ak rfl) rfl) ?_);show _=some (opt (u[j+1]?));by_cases q:j+1<u.length
            . rw[Af (by rw[Bb];exact q),Be,Ab q];rfl
            . have e1:j+1=u.length:=⋯
              rw[Ao (by rw[Bb];lia),Bb,e1,Nat.sub_self,Bu (Ae _)];rfl
          let F:Sl->En:=λS=>G (.val (.int n)) (.val (aG p)) (.val (opt J)) (.val (opt fo)) S
          have f1:=X7 (o:=2) (nu:=5) (env:=F z) (h:=H acc) (A:=w.length) (n:=n) (acc:=acc) "level" (c:=eB (Qe bC (Qe au (Qa 6) (eC (.int 0))) (Qe Jj (Qe Jj (QA QV (Qc (Qa 1) (Qk))) (eC (.int 1))) (Qa 3)))) (Q2 (Qs (x:=.int p.lv) (y:=.int aM) (ZR (f:=Qa 6) (i:=0) (ak rfl) rfl) (Z0 (Z0 (Y9 R (sH _) hL (ak rfl)) rfl) (ak rfl)) (nQ _ _ _))) rfl rfl (hg _) ⋯;rw[eG]at f1
          let O:=fl (!(p.lv==aM)) "level" n
          let T:=fl (!qu p J) "order" n
          let A3:=fl (!((p.ps.length:Int)==(wanted p:Nat))) "parts" n
          let A4:=fl ((p.hi.isNone != p.sd.isNone)||!decide (p.sd=fo)) "links" n
          have D3:O.length<=1:=JN _ _ _;have D2:T.length<=1:=JN _ _ _;have D1:A3.length<=1:=JN _ _ _;have D0:A4.length<=1:=JN _ _ _;have f2:=X7 (o:=2) (nu:=5) (env:=F z) (h:=H (acc++O)) (A:=w.length) (n:=n) (acc:=acc++O) "order" (c:=eB (Qw 2 Jb (Qc (Qa 6) (Qc (Qa 7) (Qk))))) (Q2 (QI (Zy (ak rfl) (ak rfl)) rfl (Pu fU.2.2.1 J _))) rfl rfl (hg _) (by rw[Ak];lia);rw[eG]at f2;have pt:eB (Qe bC (Qe Jj (QA QV (Qc (Qe au (Qa 6) (eC (.int 2))) (Qk))) (QA QV (Qc (Qe au (Qa 6) (eC (.int 1))) (Qk)))) (Qe au (Zz (Qc (eC (.int 1)) (Qc (eC (.int 0)) (Qk)))) (QA uH (Qc (Qe aX (Qe au (Qa 6) (eC (.int 0))) (eC (.int 0))) (Qk))))) (F z) (H (acc++O++T))=some (!((p.ps.length:Int)==(wanted p:Nat)),H (acc++O++T)):=by
            have l2:QA QV (Qc (Qe au (Qa 6) (eC (.int 2))) (Qk)) (F z) (H (acc++O++T))=some (.int p.ps.length,H (acc++O++T)):=by
              have:=J3 (ZR (f:=Qa 6) (env:=F z) (w:=H (acc++O++T)) (p:=p) (i:=2) (ak rfl) rfl)
              rwa [Bb]at this
            have l1:QA QV (Qc (Qe au (Qa 6) (eC (.int 1))) (Qk)) (F z) (H (acc++O++T))=some (.int p.ks.length,H (acc++O++T)):=by
              have:=J3 (ZR (f:=Qa 6) (env:=F z) (w:=H (acc++O++T)) (p:=p) (i:=1) (ak rfl) rfl)
              rwa [Bb]at this
            have iu:=Y0 (f:=Qe au (Qa 6) (eC (.int 0))) (g:=eC (.int 0)) (j:=0) (ZR (f:=Qa 6) (env:=F z) (w:=H (acc++O++T)) (p:=p) (i:=0) (ak rfl) rfl) rfl;have:∃v:Int,Qe au (Zz (Qc (eC (.int 1)) (Qc (eC (.int 0)) (Qk)))) (QA uH (Qc (Qe aX (Qe au (Qa 6) (eC (.int 0))) (eC (.int 0))) (Qk))) (F z) (H (acc++O++T))=some (.int v,H (acc++O++T))/\((wanted p:Nat):Int)=p.ks.length+v:=by
              unfold wanted;by_cases q:p.lv=0
              . rw[q]at iu
                rw[B8 q];exact⟨0,Zl (i:=1) (ds:=[.int 1,.int 0]) rfl (Jd (QR iu) rfl) rfl,⋯⟩
              . rw[show(p.lv==0)=false by simpa using q]at iu
                rw[B7 q];exact⟨1,Zl (i:=0) (ds:=[.int 1,.int 0]) rfl (Jd (QR iu) rfl) rfl,⋯⟩
            obtain⟨v,ev,ew⟩:=this;have:=Q2 (Qs (x:=.int ((p.ps.length:Int)-p.ks.length)) (y:=.int v) (Z0 l2 l1) ev (nQ _ _ _));rw[this];congr 3;rw[ew];by_cases q:(p.ps.length:Int)=p.ks.length+v
            . rw[beq_iff_eq.mpr q,beq_iff_eq.mpr (show(p.ps.length:Int)-p.ks.length=v by lia)]
            . rw[show((p.ps.length:Int)==p.ks.length+v)=false by simpa using q,show((p.ps.length:Int)-p.ks.length==v)=false by simp;lia]
          have f3:=X7 (o:=2) (nu:=5) (env:=F z) (h:=H (acc++O++T)) (A:=w.length) (n:=n) (acc:=acc++O++T) "parts" pt rfl rfl (hg _) (by rw[Ak,Ak];lia);rw[eG]at f3;have f4:=X7 (o:=2) (nu:=5) (env:=F z) (h:=H (acc++O++T++A3)) (A:=w.length) (n:=n) (acc:=acc++O++T++A3) "links" (G9 (pg:=Qa 6) (fo:=Qa 8) (ak rfl) (ak rfl)) rfl rfl (hg _) (by rw[Ak,Ak,Ak];lia);rw[eG]at f4
          let B:=acc++O++T++A3++A4
          have Hj:B=acc++fH n p aM J fo:=by show acc++O++T++A3++A4=_;unfold fH;simp only[Aw];rfl
          have lB:B.length<=acc.length+4:=by show(acc++O++T++A3++A4).length<=_;simp only[Ak];lia
          have td:eB (Qe bW (Qe QP (Qa 3) (eC (.int 1))) (QA QV (Qc (Qa 1) (Qk)))) (F z) (H B)=some (decide (0<aM),H B):=by
            have:=Q2 (jg (Q7 (f:=Qa 3) (g:=eC (.int 1)) (env:=F z) (U:=H B) (i:=i) (j:=1) (ak rfl) rfl) (Y9 R (sH _) hL (f:=Qa 1) (env:=F z) (ak rfl)))
            rwa [decide_eq_decide.mpr (show((i:Int)+1<r.length)↔0<aM by show _↔0<(r.length:Int)-1-i;lia)]at this
          have ac:∃S,aN (eB (Qe bW (Qe QP (Qa 3) (eC (.int 1))) (QA QV (Qc (Qa 1) (Qk))))) (qD) (Zn) (F z) (H B)=some ((.nx,F S),H (B++if 0<aM then XH P Q n J p p.ps.length else [])):=by
            by_cases q:0<aM
            . rw[Ca q]at td
              rw[B8 q];have E_:i+1<r.length:=by have:0<(r.length:Int)-1-i:=q;lia
              obtain⟨q3,h3,e3,S,rfl,rfl⟩:WP (Z8 (bK (QZ 0 p.ps.length)) (λd env=>do let env' <- gN 9 d env;XJ env') 100000 0 (F z)) (H B) λq h'=>∃S,q=(.nx,F S)/\h'=H (B++XH P Q n J p p.ps.length):=by
                refine Zr _ (λk en h'=>∃S,en=F S/\h'=H (B++XH P Q n J p k)) (by rw[Qz];lia) ⟨z,rfl,by show _=H (B++[]);rw[Bc]⟩ (λk dd hk en h' zz=>?_) (λen h' zz=>?_)
                . obtain⟨S,rfl,rfl⟩:=zz
                  obtain⟨lk,rfl⟩:=Jv hk;obtain⟨bb,Hi,ae⟩:=J5 R (sH (B++XH P Q n J p k)) hL (f:=Qa 1) (g:=Qe QP (Qa 3) (eC (.int 1))) (env:=F (.val (.int k))) (i:=i+1) E_ (ak rfl) (Q7 (i:=i) (j:=1) (ak rfl) rfl);have tk:eB (Qw 5 JB (Qc (Qa 0) (Qc (Qa 6) (Qc (Qa 9) (Qc (Qa 7) (Qc (Qe au (Qa 1) (Qe QP (Qa 3) (eC (.int 1)))) (Qk))))))) (F (.val (.int k))) (H (B++XH P Q n J p k))=some (UA P Q J p k,H (B++XH P Q n J p k)):=Q2 (QI (rH (ak rfl) (ak rfl) (ak rfl) (ak rfl) Hi) rfl (Td (hx.sub (sH _)) fU.2.2.1 lk J ae gb pl));have kl:=qT P Q n J p k;refine⟨(.nx,F (.val (.int k))),H (B++XH P Q n J p (k+1)),?_,.val (.int k),rfl,rfl⟩;rw[xN,<- Aw];show XJ (F (.val (.int k))) _=_;cases sZ:UA P Q J p k with
                  |true =>rw[sZ]at tk;refine(Zf tk).trans ((Q0 (Z2 (o:=Qa 2) (a:=w.length) (d:=.tup [.str "kid", .int n,.int k]) (ak rfl) (hg _) (qg (UQ rfl (ak rfl) (ak rfl)) (by show 3<=100000;decide)) (hg _) (by rw[Ak];lia))).trans ?_);rw[eG];rfl
                  |false=>rw[sZ]at tk;show _=some ((Fl.nx,F (.val (.int k))),H (B++XH P Q n J p k++[]));rw[Bc];exact(QL tk).trans QM
                . obtain⟨S,rfl,rfl⟩:=zz
                  rw[Qz];exact⟨S,rfl,rfl⟩
              have lp:QA QV (Qc (Qe au (Qa 6) (eC (.int 2))) (Qk)) (F z) (H B)=some (.int p.ps.length,H B):=by
                have:=J3 (ZR (f:=Qa 6) (env:=F z) (w:=H B) (p:=p) (i:=2) (ak rfl) rfl)
                rwa [Bb]at this
              exact⟨S,(Zf td).trans (Q6 (ZS (Z3 (m:=p.ps.length) (QR lp) ⋯)) e3)⟩
            . rw[Cc q]at td
              rw[B7 q,Bc];exact⟨z,(QL td).trans QM⟩
          obtain⟨S,ek⟩:=ac;refine⟨(.nx,F S),H (C++JU P u aM Q (j+1)),?_,.val (.int j),.val (.int n),.val (aG p),.val (opt J),.val (opt fo),S,rfl,rfl⟩;have eL:C++JU P u aM Q (j+1)=B++(if 0<aM then XH P Q n J p p.ps.length else []):=by rw[jf,Hj,Aw,<- Aw];rfl
          rw[eL];show XL (G b5 Z Y I z) X=_;exact(Qi af).trans ((Qi Ei).trans ((Qi (Qt rfl)).trans ((Qi mD).trans ((Qi Eh).trans ((Qi f1).trans ((Qi f2).trans ((Qi f3).trans ((Qi f4).trans ek))))))))
        . obtain⟨b4,b5,Z,Y,I,z,rfl,rfl⟩:=zz
          rw[Qz];exact⟨b4,b5,Z,Y,I,z,rfl,rfl⟩
      obtain⟨q2,h2,e2,b4,b5,Z,Y,I,z,rfl,rfl⟩:=inner;refine⟨(.nx,E (.val (.int i)) b4 b5 Z Y I z),H (qO P r (i+1)),?_,.val (.int i),b4,b5,Z,Y,I,z,rfl,rfl⟩;rw[xF];obtain⟨b,eb,hb⟩:=J5 R (sH C) hL (f:=Qa 1) (g:=Qa 3) (env:=E (.val (.int i)) a4 a5 a6 a7 a8 a9) (i:=i) li (ak rfl) (ak rfl);have lr:=ZT (f:=Qe au (Qa 1) (Qa 3)) (env:=E (.val (.int i)) a4 a5 a6 a7 a8 a9) (U:=H C) eb hb;rw[Bb]at lr;exact Q6 (ZS (Z3 (m:=u.length) (QR lr) ⋯)) e2
    . obtain⟨a3,a4,a5,a6,a7,a8,a9,rfl,rfl⟩:=zz
      rw[Qz];exact⟨a3,a4,a5,a6,a7,a8,a9,rfl,rfl⟩
  exact QB (env:=E a3 a4 a5 a6 a7 a8 a9) ((Qi (Qt (Z4 _ _))).trans ((Qi (Q6 (ZS (Z3 (m:=r.length) (QR (Y9 R (sH []) hL (ak rfl))) ⋯)) e)).trans (QC (ak rfl))))
end
section
variable{P:List Pp}{w:Hs}{d:DV}
theorem Wa(hx:aP w d (P.map aG))(ok:Ok P){L:Nat}{bs:List Nat}{l:List (List Int)}(R:aK w bs l)(Q:w[L]?=some (.lst (bs.map .ref)))(O:Rs P l):∃h,JJ [d,.ref L] w=some (.ref w.length,h)/\Sub w h/\h[w.length]?=some (.lst ((xm P l (l.length-1)).map .int)):=by
 have pl:=ok.len;have rl:=O.len;have r1:1<=l.length:=List.length_pos_iff.mpr O.ne
 let E:Sl->Sl->Sl->En:=λa b c=>[.val d,.val (.ref L),.val (.ref w.length),a,b,c]
 obtain⟨q,h',e,G,y,r,rfl,s',t⟩:WP (Z8 (bK (QZ (1:Nat) (l.length-1))) (λd env=>do let env' <- gN 3 d env;YH env') 100000 0 (E .un .un .un)) (w++[.lst []]) λq h'=>∃G y r,q=(.nx,E G y r)/\Sub w h'/\h'[w.length]?=some (.lst ((xm P l (l.length-1)).map .int)):=by
  refine Zr _ (λi z h'=>∃G y r,z=E G y r/\Sub w h'/\h'[w.length]?=some (.lst ((xm P l i).map .int))) (by rw[Qz];lia) ⟨.un,.un,.un,rfl,Sub.app _ _,QU _ _⟩ (λi dd hi z h' zz=>?_) (λz h' zz=>?_)
  ·obtain⟨G,y,r,rfl,s',t⟩:=zz;obtain⟨li,rfl⟩:=XS hi;have ei:(((1:Nat):Int)+i)=((i+1:Nat):Int):=⋯
   rw[ei];have lA:w.length<h'.length:=(Ac.mp t).1
   let dp:Sl:=.val (.int ((i+1:Nat):Int))
   let J:Hs:=h'++[.lst []]
   have s1:Sub h' J:=Sub.app _ _
   let K:=h'.length
   have g:=O.at i;have gl:(l.getD i []).length<=P.length:=g.len;obtain⟨b,eb,hb⟩:=J5 R (s'.trans s1) Q (f:=Qa 1) (g:=Qe Jj (Qa 3) (eC (.int 1))) (env:=E dp (.val (.ref K)) r) (i:=i) ⋯ (ak rfl) (by
    have:=Z0 (f:=Qa 3) (g:=eC (.int 1)) (env:=E dp (.val (.ref K)) r) (U:=J) (i:=((i+1:Nat):Int)) (j:=1) (ak rfl) rfl
    rwa [show(((i+1:Nat):Int)-1)=(i:Int)by lia]at this)
   have bw:b<h'.length:=by
    obtain⟨b',ab,S⟩:=J5 R s' Q (f:=Qa 1) (g:=Qe Jj (Qa 3) (eC (.int 1))) (env:=E dp (.val (.ref K)) r) (i:=i) ⋯ (ak rfl) (by
     have:=Z0 (f:=Qa 3) (g:=eC (.int 1)) (env:=E dp (.val (.ref K)) r) (U:=h') (i:=((i+1:Nat):Int)) (j:=1) (ak rfl) rfl
     rwa [show(((i+1:Nat):Int)-1)=(i:Int)by lia]at this)
    obtain⟨I,T,X⟩:∃I,bs[i]?=some I/\True:=⟨bs[i]'(by rw[R.1];lia),Ab _,trivial⟩;have z1:=Z6 (i:=i) (f:=Qa 1) (g:=Qe Jj (Qa 3) (eC (.int 1))) (env:=E dp (.val (.ref K)) r) (U:=J) (ds:=bs.map .ref) (d:=.ref I) (n:=L) (ak rfl) ((s'.trans s1) _ _ Q) (by
     have:=Z0 (f:=Qa 3) (g:=eC (.int 1)) (env:=E dp (.val (.ref K)) r) (U:=J) (i:=((i+1:Nat):Int)) (j:=1) (ak rfl) rfl
     rwa [show(((i+1:Nat):Int)-1)=(i:Int)by lia]at this) (by rw[Be,T];rfl)
    cases z1.symm.trans eb;have Y:l[i]?=some (l.getD i []):=by rw[Br,Ab ⋯];rfl
    exact(Ac.mp (s' _ _ (R.2 i b _ T Y))).1
   obtain⟨q2,u,e2,x,rfl,v,C,kA⟩:WP (Z8 (dU b) (λd env=>do let env' <- gN 5 d env;YG env') 100000 0 (E dp (.val (.ref K)) r)) J λq u=>∃x,q=(.nx,E dp (.val (.ref K)) x)/\Sub h' u/\u[K]?=some (.lst ((Xe P (l.getD i [])).map .int))/\True:=by
    refine YW ((l.getD i []).map .int) (λj z u=>∃x,z=E dp (.val (.ref K)) x/\Sub h' u/\u[K]?=some (.lst ((Xe P ((l.getD i []).take j)).map .int))) (by rw[Bb];lia) (λj z u hj zz=>?_) ⟨r,rfl,s1,QU _ _⟩ (λj dd hj z u zz=>?_) (λz u zz=>?_)
    ·obtain⟨x,_,v,_⟩:=zz;have S:h'[b]?=some (.lst ((l.getD i []).map .int)):=by
      have:J[b]?=h'[b]?:=by show(h'++_)[b]?=_;rw[Af bw]
      rw[<- this];exact hb
     exact XQ (v _ _ S) j
    ·obtain⟨x,rfl,v,C⟩:=zz;rw[Be]at hj;obtain⟨n,hn,rfl⟩:=Bk.mp hj;have lj:=(Ac.mp hn).1;have Z:=g.2 n (As hn);have fU:=ok.at Z;have lK:K<u.length:=(Ac.mp C).1;have kl:=Kc ok ((l.getD i []).take j) λm hm=>g.2 m (List.mem_of_mem_take hm);rw[Ax]at kl;have ln:QA oU (Qc (Qe au (Qe au (Qa 0) (Qa 5)) (eC (.int 2))) (Qk)) (E dp (.val (.ref K)) (.val (.int n))) u=some (.ref u.length,u++[.lst ((aO P n).ps.map .int)]):=Jd (QR (ZR (i:=2) (XR (f:=Qa 0) (g:=Qa 5) (hx.sub (s'.trans v)) (ak rfl) (ak rfl) Z) rfl)) rfl;have ex:=Q0 (env:=E dp (.val (.ref K)) (.val (.int n))) (Y1 (o:=Qa 4) (fa:=Qc (QA oU (Qc (Qe au (Qe au (Qa 0) (Qa 5)) (eC (.int 2))) (Qk))) (Qk)) (env:=E dp (.val (.ref K)) (.val (.int n))) (a:=K) (ak rfl) C (QR ln) ((Sub.app _ _) _ _ C) (QU _ _) (by rw[Bb,Bb];lia));refine⟨(.nx,E dp (.val (.ref K)) (.val (.int n))),_,ex,.val (.int n),rfl,(v.trans (Sub.app _ _)).set (Ae _) _,?_⟩;rw[Aq (by simp;lia),List.take_succ,hn,<- List.map_append];show _=some (OV.lst ((Xe P ((l.getD i []).take j++[n])).map .int));rw[VB]
    ·obtain⟨x,rfl,v,C⟩:=zz;rw[Bb,List.take_length]at C;exact⟨x,rfl,v,C,trivial⟩
   let F:=E dp (.val (.ref K)) x
   obtain⟨b2,pW,X⟩:=J5 R (s'.trans v) Q (f:=Qa 1) (g:=Qa 3) (env:=F) (i:=i+1) ⋯ (ak rfl) (ak rfl);have D9:(l.getD (i+1) []).length<=P.length:=(O.at (i+1)).len;have fa:=B_ X ⋯ (env:=F) (k:=4) (kd:=.ref K) pW rfl (p:=λn=>!decide (n∈Xe P (l.getD i []))) (λn _=>by unfold XO;rw[Qf (Gh C n)];rfl);have l1:=Ug P l i;have l2:(iT P l i).length<=(l.getD (i+1) []).length:=List.length_filter_le _ _;have l3:=Xv l (i+1);have l4:=y3 l (i+1+1);have l5:=O.flat;have pP:=v _ _ t;have ex:=Q0 (env:=F) (Y1 (o:=Qa 2) (fa:=Qc Yx Qk) (env:=F) (a:=w.length) (ak rfl) pP (QR fa) ((Sub.app _ _) _ _ pP) (QU _ _) (by rw[Bb,Bb];show(xm P l i).length+(iT P l i).length<=_;lia))
   have lp:Yz (E dp (.val (.ref K)) r) J=_:=VW (JT eb hb) e2;have bd:=(Qi (f:=Qx 4 (Zu Qk)) (env:=E dp y r) (U:=h') (Qt (Z4 _ _))).trans ((Qi lp).trans ex);refine⟨(.nx,F),_,bd,dp,.val (.ref K),x,rfl,(s'.trans (v.trans (Sub.app _ _))).set (Ae _) _,?_⟩
   ·have sX:w.length<u.length:=(Ac.mp pP).1;rw[Aq (by simp;lia),ya,List.map_append];rfl
  ·obtain⟨G,y,r,rfl,s',t⟩:=zz;rw[Qz]at t;exact⟨G,y,r,rfl,s',t⟩
 exact⟨h',QB (env:=E G y r) ((Qi (Qt (Z4 _ _))).trans ((Qi (Q6 (ZS (yS (a:=1) (b:=l.length) (Zy rfl (Y9 R (Sub.app _ _) Q (ak rfl))) (by decide) ⋯)) e)).trans (QC (ak rfl)))),s',t⟩
end
def emp:DV:=.tup [.int 0,.tup [],.tup [],.non,.non]
theorem Eu(d:DV):zd ("page_room" : Str) d []=[(("page_room" : Str),d)]:=by rfl
theorem Et(x d:DV):zd ("kept" : Str) d [(("page_room" : Str),x)]=[(("page_room" : Str),x),(("kept" : Str),d)]:=by rfl
theorem Es(x y d:DV):zd ("top" : Str) d [(("page_room" : Str),x),(("kept" : Str),y)]=[(("page_room" : Str),x),(("kept" : Str),y),(("top" : Str),d)]:=by rfl
theorem Er(x y z d:DV):zd ("read_count" : Str) d [(("page_room" : Str),x),(("kept" : Str),y),(("top" : Str),z)]=[(("page_room" : Str),x),(("kept" : Str),y),(("top" : Str),z),(("read_count" : Str),d)]:=by rfl
theorem Ep(x y z u d:DV):zd ("write_count" : Str) d [(("page_room" : Str),x),(("kept" : Str),y),(("top" : Str),z),(("read_count" : Str),u)]=[(("page_room" : Str),x),(("kept" : Str),y),(("top" : Str),z),(("read_count" : Str),u),(("write_count" : Str),d)]:=by rfl
theorem Tr(r:Int)(U:Hs):Z5 [.ref U.length,.int r] (U++[.ins "Shelf" []])=some (.non,U++[.ins "Shelf" (cV r (U.length+1) 0 0 0),.lst [emp]]):=by simp[Z5,YB,Zv,Qv,Qx,Zc,VX,aN,Zn,gi,GU,gf,gh,Qe,Qa,eC,eB,eX,Jx,cG,XF,Jy,YY,Vq,dG,ZV,Qk,Qc,ZK,Zz,Qw,QA,QG,gN,XC,XW,Y4,qc,Y8,Y2,XN,VV,VU,uZ,YZ,qe,Q5,qo,yo,mW,JX,dW,Gn,Zk,qk,jK,KU,vJ,fQ,fJ,fZ,QY,J4,vc,vb,au,QV,VF,xO,YF,yD,dM,Kx,mU,Z9,jL,Zu,XE,GZ,k_,ze,xa,zh,zf,YM,j9,xc,xb,Xd,YE,XG,Nz,LR,Eu,Et,Es,Er,Ep,JV,lim,cV,emp]
theorem WC{P:List Pp}{w:Hs}{pa:Nat}{root:Int}(c:w[pa]?=some (.lst (P.map aG)))(O:P.length<=300)(m:In P root):∃h n,X4 [.ref pa,.int root] w=some (.ref n,h)/\Sub w h/\cF h n P root:=by
 have G:1<=P.length:=by have:=m.1;have:=m.2;lia
 let S:Int->Int->List DV->Hs:=λt b ks=>w++[.ins "Shelf" (cV 8 (w.length+1) t 0 b),.lst ks]
 have g1:∀t b ks,(S t b ks)[w.length]?=some (.ins "Shelf" (cV 8 (w.length+1) t 0 b)):=λt b ks=>by show(w++_)[_]?=_;simp
 have g2:∀t b ks,(S t b ks)[w.length+1]?=some (.lst ks):=λt b ks=>by show(w++_)[_]?=_;simp
 have l:∀t b ks t' r,(S t b ks).set w.length (.ins "Shelf" (cV 8 (w.length+1) t' 0 r))=S t' r ks:=λt b ks t' r=>by show(w++_).set _ _=w++_;simp
 have o:∀t b ks j,(S t b ks).set (w.length+1) (.lst j)=S t b j:=λt b ks j=>by show(w++_).set _ _=w++_;simp[List.set_append]
 have sub:∀t b ks,Sub w (S t b ks):=λt b ks=>Sub.app _ _;have mk:jL "Shelf" 2 Z5 (Qc (eC (.int 8)) (Qk)) [.val (.ref pa),.val (.int root),.un,.un] w=some (.ref w.length,S 0 0 [emp]):=by unfold jL;rw[Qf (show Qc (eC (.int 8)) Qk [.val (.ref pa),.val (.int root),.un,.un] w=some ([.int 8],w)from rfl)];refine(Qf (show QG (decide (1+1=2)) w=some ((),w)from rfl)).trans ?_;refine(Qf (show Yi (.ins "Shelf" []) w=some (.ref w.length,w++[.ins "Shelf" []])from rfl)).trans ?_;rw[Qf (Tr 8 w)];rfl
 let E:Sl->En:=λk=>[.val (.ref pa),.val (.int root),.val (.ref w.length),k]
 obtain⟨q,h',e,z,b,rfl,rfl⟩:WP (Z8 (bK (QZ (1:Nat) (P.length-1))) (λd env=>do let env' <- gN 3 d env;zQ env') 100000 0 (E .un)) (S 0 0 [emp]) λq h'=>∃z b,q=(.nx,E z)/\h'=S 0 b (emp::(P.map aG).drop 1):=by
  refine Zr _ (λi u h'=>∃z b,u=E z/\h'=S 0 b (emp::((P.map aG).drop 1).take i)) (by rw[Qz];lia) ⟨.un,0,rfl,rfl⟩ (λi L hi u h' zz=>?_) (λu h' zz=>?_)
  ·obtain⟨z,b,rfl,rfl⟩:=zz;obtain⟨Q,rfl⟩:=XS hi;have J:(((1:Nat):Int)+i)=((i+1:Nat):Int):=⋯
   rw[J];have y:(P.map aG)[i+1]?=some (aG (P[i+1]'⋯)):=by rw[Be,Ab ⋯];rfl
   have v:=Ox (pg:=aG (P[i+1]'⋯)) (g1 0 b (emp::((P.map aG).drop 1).take i)) (g2 _ _ _) ⋯ (by simp;lia);rw[l,o]at v;refine⟨(.nx,E (.val (.int ((i+1:Nat):Int)))),S 0 (b+1) (emp::((P.map aG).drop 1).take (i+1)),?_,_,b+1,rfl,rfl⟩;have I:emp::((P.map aG).drop 1).take i++[aG (P[i+1]'⋯)]=emp::((P.map aG).drop 1).take (i+1):=by rw[List.cons_append,List.take_succ,List.getElem?_drop,Nat.add_comm 1 i,y];rfl
   rw[I]at v;exact Q0 (jW (a:=w.length) (ak rfl) (g1 _ _ _) rfl (QR (Z6 (i:=i+1) (f:=Qa 0) (g:=Qa 3) (ak rfl) (sub _ _ _ _ _ c) (ak rfl) y)) rfl v)
  ·obtain⟨z,b,rfl,rfl⟩:=zz;rw[Qz,Bo (by simp)];exact⟨z,b,rfl,rfl⟩
 have C:=ZT (f:=Qa 0) (env:=E .un) (U:=S 0 0 [emp]) (n:=pa) (ak rfl) (sub _ _ _ _ _ c);rw[Bb]at C;have x:=SQ (i:=0) (d:=aG (P[0]'⋯)) (g1 0 b (emp::(P.map aG).drop 1)) (g2 _ _ _) ⋯ (by simp);rw[l,o]at x;have e0:(emp::(P.map aG).drop 1).set 0 (aG (P[0]'⋯))=P.map aG:=by
  match P,G with
  |p::P,_=>rfl
 rw[e0]at x;have r0:root=(root.toNat:Int):=(Int.toNat_of_nonneg m.1).symm;have F:=Gg (i:=root.toNat) (g1 0 (b+1) (P.map aG)) (g2 _ _ _) (by rw[Bb];have:=m.1;have:=m.2;lia);rw[l,<- r0]at F;refine⟨S root (b+1) (P.map aG),w.length,QB (env:=E z) ((Qi (Qt mk)).trans ((Qi (Q6 (ZS (yS (a:=1) (b:=P.length) (Zy rfl C) (by decide) ⋯)) e)).trans ((Qi (Q0 (jW (a:=w.length) (ak rfl) (g1 _ _ _) rfl (Zy rfl (Z6 (i:=0) (ak rfl) (sub _ _ _ _ _ c) rfl (by rw[Be,Ab G];rfl))) rfl x))).trans ((Qi (Q0 (jW (a:=w.length) (ak rfl) (g1 _ _ _) rfl (QR (ak rfl)) rfl F))).trans (QC (ak rfl)))))),sub _ _ _,w.length+1,0,b+1,g1 _ _ _,g2 _ _ _⟩
theorem Ke{ks:List Int}{f g:aB}{env:En}{w:Hs}{i:Nat}(hf:f env w=some (.tup (ks.map .int),w))(a:g env w=some (.int i,w)):bL f Zb (QX g) env w=some (.tup ((ks.take i).map .int),w):=by
 have:=Wp (m:=i) hf a
 rwa [<- List.map_take]at this
theorem Ko{ks:List Int}{f g:aB}{env:En}{w:Hs}{i:Nat}(hf:f env w=some (.tup (ks.map .int),w))(a:g env w=some (.int i,w)):bL f (QX g) Zb env w=some (.tup ((ks.drop i).map .int),w):=by
 have:=Uc (m:=i) hf a
 rwa [<- List.map_drop]at this
theorem qG{a b:List Int}{f g:aB}{env:En}{w:Hs}(hf:f env w=some (.tup (a.map .int),w))(c:g env w=some (.tup (b.map .int),w))(d:a.length+b.length<=1000):Qe QP f g env w=some (.tup ((a++b).map .int),w):=by
 have:=gZ hf c (by rw[Bb,Bb];lia)
 rwa [<- List.map_append]at this
theorem jh{f:aB}{env:En}{w:Hs}{i:Int}(hf:f env w=some (.int i,w)):ZK (Qc f Qk) env w=some (.tup ([i].map .int),w):=qg (QR hf) (by show 1<=100000;decide)
theorem ku{U:Hs}{r:List Int}{f:aB}{env:En}(hf:f env U=some (.tup (r.map .int),U)):eB (Qe aX f (ZK Qk)) env U=some (r.isEmpty,U):=by refine Q2 (Qs (x:=.tup (r.map .int)) (y:=.tup []) hf rfl ?_);unfold aX;rw[Qf (show Xs (.tup (r.map .int)) (.tup []) U=_ from U6 r [] U)];cases r<;>rfl
theorem vk{ks:List Int}(e:ks≠[])(m x:Int)(h:0<m)(j:m<1000):∃i:Nat,i<ks.length/\∀(f g:aB)(env:En)(w:Hs),f env w=some (.tup (ks.map .int),w)->g env w=some (.int x,w)->Qe Za (Qe Xb g (eC (.int m))) (QA QV (Qc f Qk)) env w=some (.int i,w):=by have n:0<ks.length:=List.length_pos_iff.mpr e;have l:=JS (x / m) ks.length ⋯;obtain⟨i,c⟩:∃i:Nat,x / m % (ks.length:Int)=i:=⟨_,(Int.toNat_of_nonneg l.1).symm⟩;refine⟨i,⋯,λf g env w hf d=>?_⟩;have a:=J3 hf;rw[Bb]at a;refine Qs (x:=.int (x / m)) (y:=.int ks.length) (hp1:=w) (hp2:=w) (Qs (x:=.int x) (y:=.int m) d rfl (ZE (qJ x m h ⋯) w)) a ?_;rw[<- c];exact ZE (Ji _ _ ⋯) w
theorem WK(ks:List Int)(Q:ks.length<=290)(x:Int)(w:Hs):∃l:List Int,l.length<=ks.length+1/\Jl [.tup (ks.map .int),.int x] w=some (.tup (l.map .int),w):=by
 let E:Sl->En:=λa=>[.val (.tup (ks.map .int)),.val (.int x),a]
 have t0:=ku (f:=Qa 0) (env:=E .un) (U:=w) (r:=ks) (ak rfl);by_cases q:ks=[]
 ·subst q;exact⟨[x % 9-4],by simp,QB (env:=E .un) (Zo ((Zf t0).trans (QC (jh (Z0 (Jg 9 (by decide) (ak rfl)) rfl)))))⟩
 ·rw[show ks.isEmpty=false by cases ks;exact absurd rfl q;rfl]at t0;obtain⟨i,hi,O⟩:=vk q 5 x (by decide) (by decide)
  let F:=E (.val (.int i))
  have m:Qx 2 (Qe Za (Qe Xb (Qa 1) (eC (.int 5))) (QA QV (Qc (Qa 0) (Qk)))) (E .un) w=some ((.nx,F),w):=Qt (O (Qa 0) (Qa 1) (E .un) w rfl rfl);have c:Qa 0 F w=some (.tup (ks.map .int),w):=rfl;have o:Qa 2 F w=some (.int i,w):=rfl;have z:Qe QP (Qa 2) (eC (.int 1)) F w=some (.int ((i+1:Nat):Int),w):=Q7 (i:=i) (j:=1) rfl rfl;have C:Qe au (Qa 0) (Qa 2) F w=some (.int ks[i],w):=JQ (i:=i) c o (by rw[Be,Ab hi];rfl);have t:∀j:Int,eB (Qe aX (Qe Za (Qa 1) (eC (.int 5))) (eC (.int j))) F w=some (x % 5==j,w):=λj=>Q2 (Y0 (Jg 5 (by decide) (show Qa 1 F w=some (.int x,w)from rfl)) rfl);have lt:(ks.take i).length=i:=by rw[Ax];lia
  have g:∀j,(ks.drop j).length=ks.length-j:=λj=>Ba;by_cases G:x % 5=0
  ·have d:=t 0;rw[G]at d;exact⟨ks.take i++ks.drop (i+1),by rw[Ak,lt,g];lia,QB (env:=F) ((Qi ((QL t0).trans QM)).trans ((Qi m).trans (Zo ((Zf d).trans (QC (qG (Ke c o) (Ko c z) (by rw[lt,g];lia)))))))⟩
  ·have d:=t 0;rw[show(x % 5==0)=false by simpa using G]at d;by_cases I:x % 5=1
   ·have e:=t 1;rw[I]at e;exact⟨ks.take i++[ks[i]]++ks.drop i,by rw[Ak,Ak,lt,g];simp;lia,QB (env:=F) ((Qi ((QL t0).trans QM)).trans ((Qi m).trans ((Qi ((QL d).trans QM)).trans (Zo ((Zf e).trans (QC (qG (qG (Ke c o) (jh C) (by rw[lt];simp;lia)) (Ko c o) (by rw[Ak,lt,g];simp;lia))))))))⟩
   ·have e:=t 1;rw[show(x % 5==1)=false by simpa using I]at e;by_cases J:x % 5=2
    ·have h:=t 2;rw[J]at h;obtain⟨y,v⟩:∃y:Int,Qe au (Zz (Qc (eC (.int 1)) (Qc (ZV (eC (.int 1))) (Qc (Qe Yt (eC (.int 10)) (eC (.int 29))) (Qk))))) (Qe Za (Qe Xb (Qa 1) (eC (.int 25))) (eC (.int 3))) F w=some (.int y,w):=by
      have r:=JS (x / 25) 3 (by decide);have u:Qe Za (Qe Xb (Qa 1) (eC (.int 25))) (eC (.int 3)) F w=some (.int (x / 25 % 3),w):=Jg 3 (by decide) (Qs (x:=.int x) (y:=.int 25) rfl rfl (ZE (qJ x 25 (by decide) (by decide)) w));generalize x / 25 % 3=j at r u;obtain rfl|rfl|rfl:j=0∨j=1∨j=2:=⋯
      ·exact⟨_,Zl (i:=0) (ds:=[.int 1,.int (-1),.int 100000000000000000000000000000]) rfl u rfl⟩
      ·exact⟨_,Zl (i:=1) (ds:=[.int 1,.int (-1),.int 100000000000000000000000000000]) rfl u rfl⟩
      ·exact⟨_,Zl (i:=2) (ds:=[.int 1,.int (-1),.int 100000000000000000000000000000]) rfl u rfl⟩
     exact⟨ks.take i++[ks[i]+y]++ks.drop (i+1),by rw[Ak,Ak,lt,g];simp;lia,QB (env:=F) ((Qi ((QL t0).trans QM)).trans ((Qi m).trans ((Qi ((QL d).trans QM)).trans ((Qi ((QL e).trans QM)).trans (Zo ((Zf h).trans (QC (qG (qG (Ke c o) (jh (Q7 C v)) (by rw[lt];simp;lia)) (Ko c z) (by rw[Ak,lt,g];simp;lia)))))))))⟩
    ·have h:=t 2;rw[show(x % 5==2)=false by simpa using J]at h;by_cases L:x % 5=3
     ·have n:=t 3;rw[L]at n;refine⟨ks.reverse,by simp,QB (env:=F) ((Qi ((QL t0).trans QM)).trans ((Qi m).trans ((Qi ((QL d).trans QM)).trans ((Qi ((QL e).trans QM)).trans ((Qi ((QL h).trans QM)).trans (Zo ((Zf n).trans (QC ?_))))))))⟩;rw[List.map_reverse];exact WO c
     ·have n:=t 3;rw[show(x % 5==3)=false by simpa using L]at n;obtain⟨y,R,v⟩:=M0 ks q;have P:Qe au (Qa 0) (ZV (eC (.int 1))) F w=some (.int y,w):=Qs (x:=.tup (ks.map .int)) (y:=.int (-1)) rfl rfl (ZE (Tj v) w);exact⟨ks++[y+1],by simp,QB (env:=F) ((Qi ((QL t0).trans QM)).trans ((Qi m).trans ((Qi ((QL d).trans QM)).trans ((Qi ((QL e).trans QM)).trans ((Qi ((QL h).trans QM)).trans ((Qi ((QL n).trans QM)).trans (QC (qG c (jh (Q7 P rfl)) (by simp;lia)))))))))⟩
theorem T9{f g k l:aB}{env:En}{w:Hs}{x y z u:DV}(a:f env w=some (x,w))(c:g env w=some (y,w))(d:k env w=some (z,w))(e:l env w=some (u,w)):Zz (Qc f (Qc g (Qc k (Qc l Qk)))) env w=some (.lst [x,y,z,u],w):=by unfold Zz;rw[Qf (gI a c d e)];rfl
theorem Db(ks:List Int)(J:ks.length<=290){m:Int}(L:0<=m)(x:Int)(w:Hs):∃g:List Int,g.length<=ks.length+1/\Jc [.tup (ks.map .int),.int m,.int x] w=some (.tup (g.map .int),w):=by
 let E:Sl->En:=λa=>[.val (.tup (ks.map .int)),.val (.int m),.val (.int x),a]
 have t0:=ku (f:=Qa 0) (env:=E .un) (U:=w) (r:=ks) (ak rfl);have u:∀a,Qe QP (Qa 1) (eC (.int 2)) (E a) w=some (.int (m+2),w):=λa=>Q7 rfl rfl;by_cases n:ks=[]
 ·subst n;exact⟨[x % (m+2)-1],by simp,QB (env:=E .un) (Zo ((Zf t0).trans (QC (jh (Z0 (Qs (x:=.int x) (y:=.int (m+2)) rfl (u _) (ZE (Ji _ _ ⋯) w)) rfl)))))⟩
 ·rw[show ks.isEmpty=false by cases ks;exact absurd rfl n;rfl]at t0;obtain⟨i,hi,C⟩:=vk n 4 x (by decide) (by decide)
  let F:=E (.val (.int i))
  have o:Qx 3 (Qe Za (Qe Xb (Qa 2) (eC (.int 4))) (QA QV (Qc (Qa 0) (Qk)))) (E .un) w=some ((.nx,F),w):=Qt (C (Qa 0) (Qa 2) (E .un) w rfl rfl);have c:Qa 0 F w=some (.tup (ks.map .int),w):=rfl;have l:Qa 3 F w=some (.int i,w):=rfl;have q:Qe QP (Qa 3) (eC (.int 1)) F w=some (.int ((i+1:Nat):Int),w):=Q7 (i:=i) (j:=1) rfl rfl;have G:Qe au (Qa 0) (Qa 3) F w=some (.int ks[i],w):=JQ (i:=i) c l (by rw[Be,Ab hi];rfl);have t:∀j:Int,eB (Qe aX (Qe Za (Qa 2) (eC (.int 4))) (eC (.int j))) F w=some (x % 4==j,w):=λj=>Q2 (Y0 (Jg 4 (by decide) (show Qa 2 F w=some (.int x,w)from rfl)) rfl);have lt:(ks.take i).length=i:=by rw[Ax];lia
  have e:∀j,(ks.drop j).length=ks.length-j:=λj=>Ba;by_cases v:x % 4=0
  ·have d:=t 0;rw[v]at d;exact⟨ks.take i++ks.drop (i+1),by rw[Ak,lt,e];lia,QB (env:=F) ((Qi ((QL t0).trans QM)).trans ((Qi o).trans (Zo ((Zf d).trans (QC (qG (Ke c l) (Ko c q) (by rw[lt,e];lia)))))))⟩
  ·have d:=t 0;rw[show(x % 4==0)=false by simpa using v]at d;by_cases z:x % 4=1
   ·have h:=t 1;rw[z]at h;exact⟨ks.take i++[ks[i]]++ks.drop i,by rw[Ak,Ak,lt,e];simp;lia,QB (env:=F) ((Qi ((QL t0).trans QM)).trans ((Qi o).trans ((Qi ((QL d).trans QM)).trans (Zo ((Zf h).trans (QC (qG (qG (Ke c l) (jh G) (by rw[lt];simp;lia)) (Ko c l) (by rw[Ak,lt,e];simp;lia))))))))⟩
   ·have h:=t 1;rw[show(x % 4==1)=false by simpa using z]at h;have I:Qe Jj (Qe Za (Qe Xb (Qa 2) (eC (.int 100))) (Qe QP (Qa 1) (eC (.int 2)))) (eC (.int 1)) F w=some (.int (x / 100 % (m+2)-1),w):=Z0 (Qs (x:=.int (x / 100)) (y:=.int (m+2)) (Qs (x:=.int x) (y:=.int 100) rfl rfl (ZE (qJ x 100 (by decide) (by decide)) w)) (u _) (ZE (Ji _ _ ⋯) w)) rfl;exact⟨ks.take i++[x / 100 % (m+2)-1]++ks.drop (i+1),by rw[Ak,Ak,lt,e];simp;lia,QB (env:=F) ((Qi ((QL t0).trans QM)).trans ((Qi o).trans ((Qi ((QL d).trans QM)).trans ((Qi ((QL h).trans QM)).trans (QC (qG (qG (Ke c l) (jh I) (by rw[lt];simp;lia)) (Ko c q) (by rw[Ak,lt,e];simp;lia)))))))⟩
theorem zB{a b c d e:aB}{env:En}{w:Hs}{p:Pp}(f:a env w=some (.int p.lv,w))(g:b env w=some (.tup (p.ks.map .int),w))(h:c env w=some (.tup (p.ps.map .int),w))(i:d env w=some (opt p.hi,w))(j:e env w=some (opt p.sd,w)):ZK (Qc a (Qc b (Qc c (Qc d (Qc e Qk))))) env w=some (aG p,w):=qg (rH f g h i j) (by show 5<=100000;decide)
theorem Y_(p:Pp)(hk:p.ks.length<=290)(hs:p.ps.length<=290)(J:0<=p.lv)(L:p.lv<=50)(g:Int){m:Int}(hm:0<m)(T a x2:Int)(w:Hs):∃O:Pp,O.ks.length<=p.ks.length+1/\O.ps.length<=p.ps.length+1/\0<=O.lv/\O.lv<=50/\Jm [aG p,.int g,.int m,.lst [.int T,.int a,.int x2]] w=some (aG O,w):=by
 let X:DV:=.lst [.int T,.int a,.int x2]
 let E:Sl->En:=λk=>[.val (aG p),.val (.int g),.val (.int m),.val X,k,.val (.int p.lv),.val (.tup (p.ks.map .int)),.val (.tup (p.ps.map .int)),.val (opt p.hi),.val (opt p.sd)]
 let k:=T % 6
 let F:=E (.val (.int k))
 have Z:JX (Qa 0) (gT [5,6,7,8,9]) [.val (aG p),.val (.int g),.val (.int m),.val X,.un,.un,.un,.un,.un,.un] w=some ((.nx,E .un),w):=y0 (d:=aG p) rfl rfl;have s2:Qx 4 (Qe Za (Qe au (Qa 3) (eC (.int 0))) (eC (.int 6))) (E .un) w=some ((.nx,F),w):=Qt (Jg 6 (by decide) (Zl (i:=0) (ds:=[.int T,.int a,.int x2]) (ak rfl) rfl rfl));have n:Qe au (Qa 3) (eC (.int 1)) F w=some (.int a,w):=Zl (i:=1) (ds:=[.int T,.int a,.int x2]) (ak rfl) rfl rfl;have t:∀j:Int,eB (Qe aX (Qa 4) (eC (.int j))) F w=some (k==j,w):=λj=>Q2 (Y0 rfl rfl);have Q:Qa 5 F w=some (.int p.lv,w):=rfl;have C:Qa 6 F w=some (.tup (p.ks.map .int),w):=rfl;have G:Qa 7 F w=some (.tup (p.ps.map .int),w):=rfl;have R:Qa 8 F w=some (opt p.hi,w):=rfl;have S:Qa 9 F w=some (opt p.sd,w):=rfl;by_cases q0:k=0
 ·have t0:=t 0;rw[q0]at t0;have r:=JS a 5 (by decide);exact⟨{ p with lv:=a % 5 },by simp,by simp,r.1,by show a % 5<=50;lia,QB (env:=F) ((Qi Z).trans ((Qi s2).trans (Zo ((Zf t0).trans (QC (zB (p:={ p with lv:=a % 5 }) (Jg 5 (by decide) n) C G R S))))))⟩
 ·have t0:=t 0;rw[show(k==0)=false by simpa using q0]at t0;by_cases q1:k=1
  ·have q:=t 1;rw[q1]at q;obtain⟨h,l,e⟩:=WK p.ks hk a w;exact⟨{ p with ks:=h },l,by simp,J,L,QB (env:=F) ((Qi Z).trans ((Qi s2).trans ((Qi ((QL t0).trans QM)).trans (Zo ((Zf q).trans (QC (zB (p:={ p with ks:=h }) Q (QI (Zy C n) rfl e) G R S)))))))⟩
  ·have q:=t 1;rw[show(k==1)=false by simpa using q1]at q;have t2:eB (Qe bW (Qa 4) (eC (.int 4))) F w=some (decide (k<4),w):=Q2 (jg rfl rfl);by_cases q2:k<4
   ·rw[Ca q2]at t2;obtain⟨h,l,e⟩:=Db p.ps hs (m:=m) ⋯ a w;exact⟨{ p with ps:=h },by simp,l,J,L,QB (env:=F) ((Qi Z).trans ((Qi s2).trans ((Qi ((QL t0).trans QM)).trans ((Qi ((QL q).trans QM)).trans (Zo ((Zf t2).trans (QC (zB (p:={ p with ps:=h }) Q C (QI (UQ G rfl n) rfl e) R S))))))))⟩
   ·rw[Cc q2]at t2;have pre:∀{f:aD}{r:(Fl×En)×Hs},f F w=some r->(Qv (JX (Qa 0) (gT [5,6,7,8,9])) (Qv (Qx 4 (Qe Za (Qe au (Qa 3) (eC (.int 0))) (eC (.int 6)))) (Qv (aN (eB (Qe aX (Qa 4) (eC (.int 0)))) (Zc (ZK (Qc (Qe Za (Qe au (Qa 3) (eC (.int 1))) (eC (.int 5))) (Qc (Qa 6) (Qc (Qa 7) (Qc (Qa 8) (Qc (Qa 9) (Qk)))))))) (Zn)) (Qv (aN (eB (Qe aX (Qa 4) (eC (.int 1)))) (Zc (ZK (Qc (Qa 5) (Qc (Qw 2 Jl (Qc (Qa 6) (Qc (Qe au (Qa 3) (eC (.int 1))) (Qk)))) (Qc (Qa 7) (Qc (Qa 8) (Qc (Qa 9) (Qk)))))))) (Zn)) (Qv (aN (eB (Qe bW (Qa 4) (eC (.int 4)))) (Zc (ZK (Qc (Qa 5) (Qc (Qa 6) (Qc (Qw 3 Jc (Qc (Qa 7) (Qc (Qa 2) (Qc (Qe au (Qa 3) (eC (.int 1))) (Qk))))) (Qc (Qa 8) (Qc (Qa 9) (Qk)))))))) (Zn)) f))))) [.val (aG p),.val (.int g),.val (.int m),.val X,.un,.un,.un,.un,.un,.un] w=some r:=λe=>(Qi Z).trans ((Qi s2).trans ((Qi ((QL t0).trans QM)).trans ((Qi ((QL q).trans QM)).trans ((Qi ((QL t2).trans QM)).trans e))));have nh:=(jY (f:=Qa 8) (env:=F) (w:=w) (o:=p.hi) rfl).1;have I:Jx (eB (Qe aX (Qa 4) (eC (.int 4)))) (Jx (eB (Qe Xt (Qa 8) (eC .non))) (eB (Qe cR (Qe Za (Qe au (Qa 3) (eC (.int 1))) (eC (.int 3))) (eC (.int 0))))) F w=some ((k==4)&&(p.hi.isSome&&decide (0<a % 3)),w):=Vc (t 4) (Vc nh (Q2 (Yo (Jg 3 (by decide) n) rfl)));by_cases Y:((k==4)&&(p.hi.isSome&&decide (0<a % 3)))=true
    ·rw[Y]at I;simp only[A0]at Y;obtain⟨y,hy⟩:=Option.isSome_iff_exists.mp Y.2.1;obtain⟨z,ez⟩:∃z:Int,Qe au (Zz (Qc (eC (.int 1)) (Qc (ZV (eC (.int 1))) (Qc (ZV (Qe Yt (eC (.int 10)) (eC (.int 29)))) (Qc (Qe Yt (eC (.int 10)) (eC (.int 29))) (Qk)))))) (Qe Za (Qe Xb (Qe au (Qa 3) (eC (.int 1))) (eC (.int 3))) (eC (.int 4))) F w=some (.int z,w):=by
      have r:=JS (a / 3) 4 (by decide);have c:Qe Za (Qe Xb (Qe au (Qa 3) (eC (.int 1))) (eC (.int 3))) (eC (.int 4)) F w=some (.int (a / 3 % 4),w):=Jg 4 (by decide) (Qs (x:=.int a) (y:=.int 3) n rfl (ZE (qJ a 3 (by decide) (by decide)) w));generalize a / 3 % 4=j at r c;obtain rfl|rfl|rfl|rfl:j=0∨j=1∨j=2∨j=3:=⋯
      ·exact⟨_,Zl (i:=0) (ds:=[.int 1,.int (-1),.int (-100000000000000000000000000000),.int 100000000000000000000000000000]) rfl c rfl⟩
      ·exact⟨_,Zl (i:=1) (ds:=[.int 1,.int (-1),.int (-100000000000000000000000000000),.int 100000000000000000000000000000]) rfl c rfl⟩
      ·exact⟨_,Zl (i:=2) (ds:=[.int 1,.int (-1),.int (-100000000000000000000000000000),.int 100000000000000000000000000000]) rfl c rfl⟩
      ·exact⟨_,Zl (i:=3) (ds:=[.int 1,.int (-1),.int (-100000000000000000000000000000),.int 100000000000000000000000000000]) rfl c rfl⟩
     have C_:Qa 8 F w=some (.int y,w):=by rw[R,hy];rfl
     obtain⟨u,eu⟩:∃u:Int,QA ou (Qc (ZV (Qe Yt (eC (.int 10)) (eC (.int 30)))) (Qc (Qe QP (Qa 8) (Qe au (Zz (Qc (eC (.int 1)) (Qc (ZV (eC (.int 1))) (Qc (ZV (Qe Yt (eC (.int 10)) (eC (.int 29)))) (Qc (Qe Yt (eC (.int 10)) (eC (.int 29))) (Qk)))))) (Qe Za (Qe Xb (Qe au (Qa 3) (eC (.int 1))) (eC (.int 3))) (eC (.int 4))))) (Qk))) F w=some (.int u,w):=⟨_,Jd (Zy (v:=.int (-1000000000000000000000000000000)) (v':=.int (y+z)) rfl (Q7 C_ ez)) rfl⟩;exact⟨{ p with hi:=some u },by simp,by simp,J,L,QB (env:=F) (pre (Zo ((Zf I).trans (QC (zB (p:={ p with hi:=some u }) Q C G eu S)))))⟩
    ·rw[Bool.eq_false_iff.mpr Y]at I;by_cases q4:k=4
     ·have P:=t 4;rw[q4]at P;obtain⟨o,eo⟩:∃o:Option Int,Qe au (Zz (Qc (eC .non) (Qc (ZV (Qe Yt (eC (.int 10)) (eC (.int 30)))) (Qc (Qe Yt (eC (.int 10)) (eC (.int 30))) (Qk))))) (Qe Za (Qe au (Qa 3) (eC (.int 1))) (eC (.int 3))) F w=some (opt o,w):=by
       have r:=JS a 3 (by decide);have c:=Jg 3 (by decide) n;generalize a % 3=j at r c;obtain rfl|rfl|rfl:j=0∨j=1∨j=2:=⋯
       ·exact⟨none,Zl (i:=0) (ds:=[.non,.int (-1000000000000000000000000000000),.int 1000000000000000000000000000000]) rfl c rfl⟩
       ·exact⟨some (-1000000000000000000000000000000),Zl (i:=1) (ds:=[.non,.int (-1000000000000000000000000000000),.int 1000000000000000000000000000000]) rfl c rfl⟩
       ·exact⟨some 1000000000000000000000000000000,Zl (i:=2) (ds:=[.non,.int (-1000000000000000000000000000000),.int 1000000000000000000000000000000]) rfl c rfl⟩
      exact⟨{ p with hi:=o },by simp,by simp,J,L,QB (env:=F) (pre ((Qi ((QL I).trans QM)).trans (Zo ((Zf P).trans (QC (zB (p:={ p with hi:=o }) Q C G eo S))))))⟩
     ·have P:=t 4;rw[show(k==4)=false by simpa using q4]at P;have dv:Qe Xb (Qe au (Qa 3) (eC (.int 1))) (eC (.int 4)) F w=some (.int (a / 4),w):=Qs (x:=.int a) (y:=.int 4) n rfl (ZE (qJ a 4 (by decide) (by decide)) w);have e3:Qe Za (Qe Xb (Qe au (Qa 3) (eC (.int 1))) (eC (.int 4))) (Qa 2) F w=some (.int (a / 4 % m),w):=Qs (x:=.int (a / 4)) (y:=.int m) dv rfl (ZE (Ji _ _ hm) w);obtain⟨z,ez⟩:∃z:Int,Qe au (Zz (Qc (Qa 2) (Qc (ZV (eC (.int 1))) (Qk)))) (Qe Za (Qe Xb (Qe au (Qa 3) (eC (.int 1))) (eC (.int 4))) (eC (.int 2))) F w=some (.int z,w):=by
       have r:=JS (a / 4) 2 (by decide);have c:=Jg 2 (by decide) dv;generalize a / 4 % 2=j at r c;obtain rfl|rfl:j=0∨j=1:=⋯
       ·exact⟨_,Zl (i:=0) (ds:=[.int m,.int (-1)]) rfl c rfl⟩
       ·exact⟨_,Zl (i:=1) (ds:=[.int m,.int (-1)]) rfl c rfl⟩
      have U:Zz (Qc (eC .non) (Qc (Qa 1) (Qc (Qe Za (Qe Xb (Qe au (Qa 3) (eC (.int 1))) (eC (.int 4))) (Qa 2)) (Qc (Qe au (Zz (Qc (Qa 2) (Qc (ZV (eC (.int 1))) (Qk)))) (Qe Za (Qe Xb (Qe au (Qa 3) (eC (.int 1))) (eC (.int 4))) (eC (.int 2)))) (Qk))))) F w=some (.lst [.non,.int g,.int (a / 4 % m),.int z],w):=by exact T9 (show eC .non F w=some (.non,w)from rfl) (show Qa 1 F w=some (.int g,w)from rfl) e3 ez
      obtain⟨o,eo⟩:∃o:Option Int,Qe au (Zz (Qc (eC .non) (Qc (Qa 1) (Qc (Qe Za (Qe Xb (Qe au (Qa 3) (eC (.int 1))) (eC (.int 4))) (Qa 2)) (Qc (Qe au (Zz (Qc (Qa 2) (Qc (ZV (eC (.int 1))) (Qk)))) (Qe Za (Qe Xb (Qe au (Qa 3) (eC (.int 1))) (eC (.int 4))) (eC (.int 2)))) (Qk)))))) (Qe Za (Qe au (Qa 3) (eC (.int 1))) (eC (.int 4))) F w=some (opt o,w):=by
       have r:=JS a 4 (by decide);have c:=Jg 4 (by decide) n;generalize a % 4=j at r c;obtain rfl|rfl|rfl|rfl:j=0∨j=1∨j=2∨j=3:=⋯
       ·exact⟨none,Zl (i:=0) U c rfl⟩
       ·exact⟨some g,Zl (i:=1) U c rfl⟩
       ·exact⟨some _,Zl (i:=2) U c rfl⟩
       ·exact⟨some z,Zl (i:=3) U c rfl⟩
      exact⟨{ p with sd:=o },by simp,by simp,J,L,QB (env:=F) (pre ((Qi ((QL I).trans QM)).trans ((Qi ((QL P).trans QM)).trans (QC (zB (p:={ p with sd:=o }) Q C G R eo)))))⟩
theorem uu{nxt:NX}{t:DV->M Bool}{f:DV->M DV}{g:DV->DV}{U:Hs}(ds:List DV)(l:∀i,i<=ds.length->nxt i U=some (ds[i]?,U))(q:∀d∈ds,t d U=some (true,U))(hf:∀d∈ds,f d U=some (g d,U))(o:ds.length<100000):Xm nxt t f 100000 0 U=some (ds.map g,U):=by
  suffices h:∀(m i n:Nat),m+i=ds.length->m<n->Xm nxt t f n i U=some ((ds.drop i).map g,U)by simpa using h ds.length 0 100000 rfl o
  intro m;induction m with
  |zero =>
    intro i n e j;obtain⟨n,rfl⟩:∃k,n=k+1:=⟨n-1,⋯⟩;have:i=ds.length:=⋯
    subst this;have c:=l ds.length (Ae _);rw[show ds[ds.length]?=none by simp]at c;rw[Xm,Qf c,List.drop_length];rfl
  |succ m r =>
    intro i n e j;obtain⟨n,rfl⟩:∃k,n=k+1:=⟨n-1,⋯⟩;have a:i<ds.length:=⋯
    have c:=l i ⋯;rw[Ab a]at c;have hi:=r (i+1) n ⋯ ⋯;rw[Xm,Qf c];simp only;rw[Qf (q ds[i] (Bi a)),A7 a];simp only[if_true];rw[Qf (hf ds[i] (Bi a)),Qf hi];rfl
theorem J8{src:eZ}{nxt:NX}{idx:List Nat}{e:aB}{env:En}{h:Hs}(g:DV->DV)(ds:List DV)(c:src env h=some (nxt,h))(m:∀i,i<=ds.length->nxt i h=some (ds[i]?,h))(j:∀d∈ds,e (cE idx env d) h=some (g d,h))(l:ds.length<100000):ZQ false src idx qw e env h=some (.lst (ds.map g),h)/\ZQ true src idx qw e env h=some (.ref h.length,h++[.lst (ds.map g)]):=by
 have a:=uu (nxt:=nxt) (t:=λd=>qw (cE idx env d)) (f:=λd=>e (cE idx env d)) (g:=g) (U:=h) ds m (λd _=>rfl) j l;constructor
 ·unfold ZQ;rw[Qf c];exact(Qf a).trans rfl
 ·unfold ZQ;rw[Qf c];exact(Qf a).trans rfl
theorem Ys(ds:List DV)(i:Nat)(hi:i<=ds.length)(h:Hs):bK ds i h=some (ds[i]?,h):=by unfold bK;rw[B8 hi];rfl
theorem Kp:∀(i:Nat)(xs ys:List DV),JA (xs.drop i) (ys.drop i)=(JA xs ys).drop i
  |0,_,_=>rfl
  |i+1,[],ys=>by simp[JA]
  |i+1,x::xs,[]=>by simp[JA]
  |i+1,x::xs,y::ys=>by show JA (xs.drop i) (ys.drop i)=(DV.tup [x,y]::JA xs ys).drop (i+1);rw[Kp i xs ys];rfl
theorem Ol(a b:List DV)(i:Nat)(h:Hs):lH (.lst a) (.lst b) i h=some ((JA a b)[i]?,h):=by show some ((JA (a.drop i) (b.drop i)).head?,h)=_;rw[Kp,List.head?_drop]
def lW(ks:List Int)(c:Nat)(k:Int):List Int:=ks.take c++k::ks.drop c
theorem BF{n:Nat}{U:Hs}{ks:List Int}{f g h:aB}{env:En}{c:Nat}{k:Int}(hf:f env U=some (.ref n,U))(i:g env U=some (.int (c:Int),U))(j:h env U=some (.int k,U))(a:U[n]?=some (.lst (ks.map .int)))(m:ks.length<1000)(l:c<=ks.length) :
  Zk "list" J4 f (Qc g (Qc h Qk)) env U=some (.non,U.set n (.lst ((lW ks c k).map .int))):=by
 have e0:Qc h Qk env U=some ([.int k],U):=by unfold Qc;rw[Qf j];rfl
 have d:Qc g (Qc h Qk) env U=some ([.int (c:Int),.int k],U):=by unfold Qc at e0 ⊢;rw[Qf i,Qf e0];rfl
 have e:qk "list" (.ref n) U=some ((),U):=by show(Zx n >>= _) U=_;rw[Qf (Q8 a)];rfl
 unfold Zk;rw[Qf hf,Qf e,Qf d];unfold J4 fJ;show(Zx n >>= _) U=_;rw[Qf (Q8 a)];show(QG (decide ((ks.map DV.int).length<lim)&&XV (c:Int)) >>= λ_=>jp n (.lst ((ks.map DV.int).take (qR (ks.map DV.int).length (c:Int))++.int k::(ks.map DV.int).drop (qR (ks.map DV.int).length (c:Int)))) >>= λ_=>pure DV.non) U=_;have g1:(decide ((ks.map DV.int).length<lim)&&XV (c:Int))=true:=by rw[A0];exact⟨Ca (by rw[Bb];unfold lim;lia),vN ⋯ ⋯⟩
 have g2:qR (ks.map DV.int).length (c:Int)=c:=by unfold qR;rw[B7 ⋯,Bb,Int.toNat_natCast];lia
 rw[g1,g2];show some (DV.non,U.set n _)=_;simp[lW,List.map_take,List.map_drop]
theorem BG(ks:List Int)(c:Nat)(k:Int):(lW ks c k).Perm (k::ks):=by unfold lW;refine List.perm_middle.trans ?_;rw[Bg]
theorem uS(c:Int){m:Nat}(F:m<=280)(w:Hs):∃ns:List Int,ns.Perm ((List.range m).map λ(i:Nat)=>(i:Int))/\JZ [.int c,.int m] w=some (.ref w.length,w++[.lst (ns.map .int)]):=by
 let E:Sl->En:=λk=>[.val (.int c),.val (.int m),.val (.ref w.length),k]
 let H:List Int->Hs:=λl=>w++[.lst (l.map .int)]
 have t:∀l,(H l)[w.length]?=some (.lst (l.map .int)):=λl=>QU _ _;have u:∀l k,(H l).set w.length (.lst (k.map .int))=H k:=λl k=>by show(w++[OV.lst _]).set w.length _=_;simp[H]
 obtain⟨q,h',e,z,ns,rfl,rfl,a⟩:WP (Z8 (bK (QZ 0 m)) (λd env=>do let env' <- gN 3 d env;ql env') 100000 0 (E .un)) (H []) λq h'=>∃z ns,q=(.nx,E z)/\h'=H ns/\ns.Perm ((List.range m).map λ(i:Nat)=>(i:Int)):=by
  refine Zr _ (λi g h'=>∃z ns,g=E z/\h'=H ns/\ns.Perm ((List.range i).map λ(i:Nat)=>(i:Int))) (by rw[Qz];lia) ⟨.un,[],rfl,rfl,List.Perm.refl _⟩ (λi C hi g h' zz=>?_) (λg h' zz=>?_)
  ·obtain⟨z,ns,rfl,rfl,a⟩:=zz;obtain⟨G,rfl⟩:=Jv hi;have I:ns.length=i:=by rw[a.length_eq];simp
   have r:=JS (ZH c (700+i)) ((i:Int)+1) ⋯;obtain⟨j,o⟩:∃j:Nat,ZH c (700+i) % ((i:Int)+1)=j:=⟨_,(Int.toNat_of_nonneg r.1).symm⟩;have v:Qe Za (Qw 2 QH (Qc (Qa 0) (Qc (Qe QP (eC (.int 700)) (Qa 3)) (Qk)))) (Qe QP (Qa 3) (eC (.int 1))) (E (.val (.int i))) (H ns)=some (.int j,H ns):=by rw[<- o];exact Qs (x:=.int (ZH c (700+i))) (y:=.int ((i:Int)+1)) (QI (Zy (ak rfl) (Q7 rfl (ak rfl))) rfl (ZE (Xa c (700+i) ⋯ ⋯) _)) (Q7 (ak rfl) rfl) (ZE (Ji _ _ ⋯) _)
   have ins:=BF (f:=Qa 2) (h:=Qa 3) (k:=i) (n:=w.length) (ak rfl) v (ak rfl) (t ns) ⋯ ⋯;rw[u]at ins;refine⟨(.nx,E (.val (.int i))),H (lW ns j i),Q0 ins,.val (.int i),lW ns j i,rfl,rfl,?_⟩;rw[List.range_succ,List.map_append];refine(BG ns j i).trans ((a.cons _).trans ?_);exact(List.perm_append_singleton _ _).symm
  ·obtain⟨z,ns,rfl,rfl,a⟩:=zz;rw[Qz]at a;exact⟨z,ns,rfl,rfl,a⟩
 exact⟨ns,a,QB (env:=E z) ((Qi (Qt (Z4 _ _))).trans ((Qi (Q6 (ZS (Z3 (m:=m) (QR (ak rfl)) ⋯)) e)).trans (QC (ak rfl))))⟩
theorem Tf(m:List Int)(S:m.length<=100)(w:Hs):∃ks:List Int,ks.length=m.length+1/\XA [.lst (m.map .int)] w=some (.ref w.length,w++[.lst (ks.map .int)]):=by
  let E:Sl->Sl->En:=λa b=>[.val (.lst (m.map .int)),.val (.ref w.length),a,b]
  let H:List Int->Hs:=λl=>w++[.lst (l.map .int)]
  have u:∀l,(H l)[w.length]?=some (.lst (l.map .int)):=λl=>QU _ _;obtain⟨q,h',e,a,b,ks,rfl,rfl,h⟩:WP (Z8 (bK (m.map .int)) (λd env=>do let env' <- gN 2 d env;jO env') 100000 0 (E .un .un)) (H [-1000000000000000000000000000000]) λq h'=>∃a b ks,q=(.nx,E a b)/\h'=H ks/\ks.length=m.length+1:=by
    refine Zr _ (λi r h'=>∃a b ks,r=E a b/\h'=H ks/\ks.length=i+1) (by rw[Bb];lia) ⟨.un,.un,[-1000000000000000000000000000000],rfl,rfl,rfl⟩ (λi R hi r h' zz=>?_) (λr h' zz=>?_)
    . obtain⟨a,b,ks,rfl,rfl,h⟩:=zz
      have L:=(Ac.mp hi).1;rw[Bb]at L;rw[Be]at hi;obtain⟨c,_,rfl⟩:=Bk.mp hi;have n:∀(j:Int)(v:Sl),0<=j->j<=1000->Qw 2 QH (Qc (Qa 2) (Qc (eC (.int j)) Qk)) (E (.val (.int c)) v) (H ks)=some (.int (ZH c j),H ks):=λj v I J=>QI (Zy (ak rfl) rfl) rfl (ZE (Xa c j I J) _);have P:Qx 3 (Qe QP (eC (.int 1)) (Qe Za (Qw 2 QH (Qc (Qa 2) (Qc (eC (.int 1)) (Qk)))) (eC (.int 3)))) (E (.val (.int c)) b) (H ks)=some ((.nx,E (.val (.int c)) (.val (.int (1+ZH c 1 % 3)))),H ks):=Qt (Q7 rfl (Jg 3 (by decide) (n 1 _ (by decide) (by decide))));obtain⟨f,Q⟩:∃f:Int,aN (eB (Qe aX (Qe Za (Qw 2 QH (Qc (Qa 2) (Qc (eC (.int 2)) (Qk)))) (eC (.int 4))) (eC (.int 0)))) (Qx 3 (Qe QP (eC (.int 1)) (Qe qY (Qw 2 QH (Qc (Qa 2) (Qc (eC (.int 3)) (Qk)))) (Qe Yt (eC (.int 10)) (eC (.int 19)))))) (Zn) (E (.val (.int c)) (.val (.int (1+ZH c 1 % 3)))) (H ks)=some ((.nx,E (.val (.int c)) (.val (.int f))),H ks):=by
        have t:=Q2 (Y0 (g:=eC (.int 0)) (j:=0) (Jg 4 (by decide) (n 2 (.val (.int (1+ZH c 1 % 3))) (by decide) (by decide))) rfl);have g3:=MU c 3;have T:=MT c 3;cases C:(ZH c 2 % 4==0)with
        |true=>rw[C]at t;exact⟨1+ZH c 3 * 10000000000000000000,(Zf t).trans (Qt (Q7 rfl (Qs (x:=.int (ZH c 3)) (y:=.int 10000000000000000000) (n 3 _ (by decide) (by decide)) rfl (ZE (qZ _ _ ⋯ ⋯) _))))⟩
        |false=>rw[C]at t;exact⟨_,(QL t).trans QM⟩
      obtain⟨k0,x,G⟩:∃k0 x,ks=k0++[x]:=⟨ks.dropLast,ks.getLast (by intro z;rw[z]at h;cases h),(List.dropLast_concat_getLast _).symm⟩;have O:Qe au (Qa 1) (ZV (eC (.int 1))) (E (.val (.int c)) (.val (.int f))) (H ks)=some (.int x,H ks):=Qs (x:=.ref w.length) (y:=.int (-1)) (ak rfl) rfl (xK (ds:=k0.map .int) (d:=.int x) (by rw[u,G,List.map_append];rfl));have F:=Z2 (o:=Qa 1) (e:=Qe QP (Qe au (Qa 1) (ZV (eC (.int 1)))) (Qa 3)) (env:=E (.val (.int c)) (.val (.int f))) (a:=w.length) (ak rfl) (u ks) (Q7 O (ak rfl)) (u ks) (by rw[Bb];lia);refine⟨(.nx,E (.val (.int c)) (.val (.int f))),H (ks++[x+f]),?_,_,_,ks++[x+f],rfl,rfl,by rw[Ak];simp;lia⟩;refine(Qi P).trans ((Qi Q).trans ((Q0 F).trans ?_));show some ((Fl.nx,E (.val (.int c)) (.val (.int f))),(w++[OV.lst (ks.map .int)]).set w.length (OV.lst (ks.map .int++[.int (x+f)])))=_;simp[H]
    . obtain⟨a,b,ks,rfl,rfl,h⟩:=zz
      rw[Bb]at h;exact⟨a,b,ks,rfl,rfl,h⟩
  exact⟨ks,h,QB (env:=E a b) ((Qi (aL:=E .un .un) (hp1:=H [-1000000000000000000000000000000]) rfl).trans ((Qi (Q6 (zn (ak rfl)) e)).trans (QC (ak rfl))))⟩
structure E3 where
 b:Option Int
 ks:List Int
 s:Nat
def cI(e:E3):DV:=.lst [opt e.b,.tup (e.ks.map .int),.ref e.s]
def Hd(a:List E3):Prop:=∀(i:Nat)(e:E3),a[i]?=some e->0<i->∃x,e.b=some x
def HF(h:Hs)(a:List E3):Prop:=∀e∈a,e.ks.length<=100/\∃z:Zs,z.length<=100/\h[e.s]?=some (.lst (bJ z))
def mZ(h:Hs)(n:Nat)(a:List E3):Prop:=∀e∈a,e.ks.length<=100/\∃kd:List Nat,kd.length<=100/\(∀k∈kd,k<n)/\h[e.s]?=some (.lst (kd.map λ(k:Nat)=>.int k))
theorem BA(L ks:List Int)(hc:L.length<=90){w:Hs}{K:Nat}(hK:w[K]?=some (.lst (ks.map .int))):∃h a O,JI [.lst (L.map .int),.ref K] w=some (.ref a,h)/\Sub w h/\h[a]?=some (.lst (O.map cI))/\w.length<=a/\HF h O/\Hd O/\1<=O.length/\O.length<=L.length+1:=by
  let B:=w.length
  let I:=w.length+2
  let Q:Hs:=w++[.lst [.non],.lst [],.lst [.ref (w.length+1)]]
  let E:Sl->Sl->En:=λa b=>[.val (.lst (L.map .int)),.val (.ref K),.val (.ref B),.val (.ref I),a,b]
  let zs:=JA (L.map .int) ((ks.drop 1).map .int)
  have zl:zs.length<=L.length:=by show(JA _ _).length<=_;rw[xt,Bb];lia
  have s2:Sub w Q:=Sub.app _ _;have src:oH (Qa 0) (jM (Qa 1) (QX (eC (.int 1))) (Zb)) (E .un .un) Q=some (lH (.lst (L.map .int)) (.lst ((ks.drop 1).map .int)),Q):=by have sl:=jq (f:=Qa 1) (g:=eC (.int 1)) (env:=E .un .un) (U:=Q) (a:=K) (m:=1) (ak rfl) (s2 _ _ hK) rfl;rw[<- List.map_drop]at sl;unfold oH;rw[Qf (show Qa 0 (E .un .un) Q=some (.lst (L.map .int),Q)from rfl),Qf sl];rfl
  obtain⟨q,h',e,a,b,os,ps,rfl,s',P,S,pl,o1,X,U,ol⟩:WP (Z8 (lH (.lst (L.map .int)) (.lst ((ks.drop 1).map .int))) (λd env=>do let env' <- gT [4,5] d env;qX env') 100000 0 (E .un .un)) Q λq h'=>∃a b,∃(os:List (Option Int))(ps:List Nat),q=(.nx,E a b)/\Sub w h'/\h'[B]?=some (.lst (os.map opt))/\h'[I]?=some (.lst (ps.map .ref))/\ps.length=os.length/\1<=os.length/\(∀(i:Nat) o,os[i]?=some o->0<i->∃x,o=some x)/\(∀p∈ps,∃z:Zs,z.length<=100/\h'[p]?=some (.lst (bJ z)))/\os.length<=L.length+1:=by
    refine YW zs (λi en h'=>∃a b,∃(os:List (Option Int))(ps:List Nat),en=E a b/\Sub w h'/\h'[B]?=some (.lst (os.map opt))/\h'[I]?=some (.lst (ps.map .ref))/\ps.length=os.length/\1<=os.length/\(∀(i:Nat) o,os[i]?=some o->0<i->∃x,o=some x)/\(∀p∈ps,p≠B/\p≠I/\w.length<=p/\∃z:Zs,z.length<=i/\h'[p]?=some (.lst (bJ z)))/\os.length<=i+1) ⋯ (λi en h' hi _=>Ol _ _ i h') ⟨.un,.un,[none],[w.length+1],rfl,s2,by show(w++[OV.lst [.non],.lst [],.lst [.ref (w.length+1)]])[w.length]?=_;simp;rfl,by show(w++[OV.lst [.non],.lst [],.lst [.ref (w.length+1)]])[w.length+2]?=_;simp,rfl,Ae _,(λi o h hi=>by
      have:=(Ac.mp h).1;simp at this;lia),(λp U=>by
      rw[Ap.mp U];exact⟨by show w.length+1≠w.length;lia,by show w.length+1≠w.length+2;lia,⋯,[],Ae _,by show(w++[OV.lst [.non],.lst [],.lst [.ref (w.length+1)]])[w.length+1]?=_;simp;rfl⟩),Ae _⟩ (λi dd hi en h' zz=>?_) (λen h' zz=>?_)
    . obtain⟨a,b,os,ps,rfl,s',P,S,pl,o1,X,U,ol⟩:=zz
      have li:i<L.length:=by have:=(Ac.mp hi).1;lia
      obtain⟨u,v,l,h2,rfl⟩:=xr hi;rw[Be]at l h2;obtain⟨c,_,rfl⟩:=Bk.mp l;obtain⟨k,_,rfl⟩:=Bk.mp h2
      let F:=E (.val (.int c)) (.val (.int k))
      have dc:∀(j:Int)(hh:Hs),0<=j->j<=1000->Qw 2 QH (Qc (Qa 4) (Qc (eC (.int j)) Qk)) F hh=some (.int (ZH c j),hh):=λj hh h0 l=>QI (Zy (ak rfl) rfl) rfl (ZE (Xa c j h0 l) _);have lB:B<h'.length:=(Ac.mp P).1;have lP:I<h'.length:=(Ac.mp S).1;have BP:B≠I:=by show w.length≠w.length+2;lia
      obtain⟨l,C,r,ag,s1,tM,pN,nP,sO,ac,hp1,ae⟩:∃(l:Hs) (C:List (Option Int)) (r:List Nat),aN (eB (Qe aX (Qe Za (Qw 2 QH (Qc (Qa 4) (Qc (eC (.int 4)) (Qk)))) (eC (.int 4))) (eC (.int 0)))) (Qv (Q5 (Zk "list" QY (Qa 2) (Qc (Qa 5) (Qk)))) (Q5 (Zk "list" QY (Qa 3) (Qc (Zu (Qk)) (Qk))))) (Zn) F h'=some ((.nx,F),l)/\Sub w l/\l[B]?=some (.lst (C.map opt))/\l[I]?=some (.lst (r.map .ref))/\r.length=C.length/\1<=C.length/\(∀(i:Nat) o,C[i]?=some o->0<i->∃x,o=some x)/\(∀p∈r,p≠B/\p≠I/\w.length<=p/\∃z:Zs,z.length<=i/\l[p]?=some (.lst (bJ z)))/\C.length<=i+1+1:=by
        have t:=Q2 (Y0 (g:=eC (.int 0)) (j:=0) (Jg 4 (by decide) (dc 4 h' (by decide) (by decide))) rfl);cases hb:(ZH c 4 % 4==0)with
        |false=>rw[hb]at t;exact⟨h',os,ps,(QL t).trans QM,s',P,S,pl,o1,X,U,⋯⟩
        |true =>
          rw[hb]at t;have a1:=Q0 (env:=F) (Z2 (o:=Qa 2) (e:=Qa 5) (env:=F) (a:=B) (ak rfl) P (ak rfl) P (by rw[Bb];lia))
          let T:Hs:=h'.set B (.lst (os.map opt++[.int k]))
          have la:T.length=h'.length:=List.length_set;have tL:T[I]?=some (.lst (ps.map .ref)):=by show(List.set _ _ _)[_]?=_;rw[Aj BP];exact S
          have a2:=Q0 (env:=F) (Z2 (o:=Qa 3) (e:=Zu Qk) (env:=F) (a:=I) (ak rfl) tL (Z4 T F) ((Sub.app _ _) _ _ tL) (by rw[Bb];lia))
          let l:Hs:=List.set (T++[OV.lst []]) I (OV.lst (ps.map DV.ref++[DV.ref T.length]))
          have sh:∀j,j≠B->j≠I->j<h'.length->l[j]?=h'[j]?:=λj j1 j2 jl=>by show(List.set _ _ _)[_]?=_;rw[Aj (Ne.symm j2),Af ⋯];show(List.set _ _ _)[_]?=_;rw[Aj (Ne.symm j1)]
          have pK:l[T.length]?=some (.lst []):=by show(List.set _ _ _)[_]?=_;rw[Aj ⋯,QU]
          refine⟨l,os++[some k],ps++[T.length],(Zf t).trans ((Qi a1).trans a2),?_,?_,?_,by rw[Ak,Ak,pl];rfl,by rw[Ak];lia,λj o hj j0=>?_,λp J=>?_,by rw[Ak];simp;lia⟩
          . exact((s'.set (Ae _) _).trans (Sub.app _ _)).set (by show w.length<=w.length+2;lia) _
          . show(List.set _ _ _)[_]?=_
            rw[Aj (Ne.symm BP),Af ⋯];show(List.set _ _ _)[_]?=_;rw[Aq lB,List.map_append];rfl
          . show(List.set _ _ _)[_]?=_
            rw[Aq (by simp;lia),List.map_append];rfl
          . by_cases q:j<os.length
            . rw[Af q]at hj;exact X j o hj j0
            . have:=(Ac.mp hj).1
              rw[Ak,List.length_singleton]at this;rw[Ao ⋯,show j-os.length=0 by lia]at hj;cases hj;exact⟨k,rfl⟩
          . rcases Ag.mp J with z|z
            . obtain⟨p1,p2,p3,zz,p4,Y⟩:=U p z
              exact⟨p1,p2,p3,zz,p4,by rw[sh p p1 p2 (Ac.mp Y).1];exact Y⟩
            . rw[Ap.mp z]
              exact⟨⋯,⋯,by have:=s'.len;lia,[],A5 _,pK⟩
      have EY:r≠[]:=λz=>by rw[z]at nP;simp at nP;lia
      obtain⟨p0,R,ep⟩:∃p0 x,r=p0++[x]:=⟨r.dropLast,r.getLast EY,(List.dropLast_concat_getLast _).symm⟩;have ab:R∈r:=by rw[ep];simp
      obtain⟨p1,p2,p3,zz,p4,Y⟩:=hp1 R ab;have t5:=Q2 (Yo (g:=eC (.int 0)) (j:=0) (Jg 5 (by decide) (dc 5 l (by decide) (by decide))) rfl);cases mO:decide ((0:Int)<ZH c 5 % 5)with
      |false =>
        rw[mO]at t5;exact⟨(.nx,F),l,(Qi ag).trans ((QL t5).trans QM),_,_,C,r,rfl,s1,tM,pN,nP,sO,ac,(λp J=>by obtain⟨a1,a2,a3,z,a4,a5⟩:=hp1 p J;exact⟨a1,a2,a3,z,⋯,a5⟩),ae⟩
      |true =>
        rw[mO]at t5;have il:Qe au (Qa 3) (ZV (eC (.int 1))) F l=some (.ref R,l):=Qs (x:=.ref I) (y:=.int (-1)) (ak rfl) rfl (xK (ds:=p0.map .ref) (d:=.ref R) (by rw[pN,ep,List.map_append];rfl));have tp:ZK (Qc (Qa 5) (Qc (Qe Jj (Qe Za (Qw 2 QH (Qc (Qa 4) (Qc (eC (.int 6)) (Qk)))) (eC (.int 9))) (eC (.int 4))) (Qk))) F l=some (.tup [.int k,.int (ZH c 6 % 9-4)],l):=qg (Zy (ak rfl) (Z0 (Jg 9 (by decide) (dc 6 l (by decide) (by decide))) rfl)) (by show 2<=100000;decide);have ap:=Q0 (env:=F) (Z2 (o:=Qe au (Qa 3) (ZV (eC (.int 1)))) (env:=F) (a:=R) il Y tp Y (by rw[yY];lia))
        let h2:Hs:=l.set R (.lst (bJ zz++[.tup [.int k,.int (ZH c 6 % 9-4)]]))
        have Ez:R<l.length:=(Ac.mp Y).1;refine⟨(.nx,F),h2,(Qi ag).trans ((Zf t5).trans ap),_,_,C,r,rfl,s1.set p3 _,?_,?_,nP,sO,ac,(λp J=>?_),ae⟩
        . show(List.set _ _ _)[_]?=_;rw[Aj p1];exact tM
        . show(List.set _ _ _)[_]?=_;rw[Aj p2];exact pN
        . obtain⟨a1,a2,a3,z,a4,a5⟩:=hp1 p J
          refine⟨a1,a2,a3,?_⟩;by_cases qp:p=R
          . subst qp
            exact⟨zz++[(k,ZH c 6 % 9-4)],by rw[Ak];simp;lia,by show(List.set _ _ _)[_]?=_;rw[Aq Ez,kX];rfl⟩
          . exact⟨z,⋯,by show(List.set _ _ _)[_]?=_;rw[Aj (Ne.symm qp)];exact a5⟩
    . obtain⟨a,b,os,ps,rfl,s',P,S,pl,o1,X,U,ol⟩:=zz
      exact⟨a,b,os,ps,rfl,s',P,S,pl,o1,X,(λp J=>by obtain⟨_,_,_,z,a4,a5⟩:=U p J;exact⟨z,⋯,a5⟩),⋯⟩
  obtain⟨Z,hZ⟩:∃Z:Nat->Zs,∀p∈ps,(Z p).length<=100/\h'[p]?=some (.lst (bJ (Z p))):=by
    classical
    refine⟨λp=>if q:p∈ps then Classical.choose (U p q)else [],λp q=>?_⟩;simp only[dif_pos q];exact Classical.choose_spec (U p q)
  let O:List E3:=(List.range os.length).map λi=>⟨os.getD i none,zK (Z (ps.getD i 0)),ps.getD i 0⟩
  have el:O.length=os.length:=by simp[O]
  let G:En:=E a b
  let g:DV->DV:=λd=>match d with
    |.int i=>cI ⟨os.getD i.toNat none,zK (Z (ps.getD i.toNat 0)),ps.getD i.toNat 0⟩
    |_=>.non
  have af:∀i,i<os.length->ps.getD i 0∈ps/\ps[i]?=some (ps.getD i 0):=λi hi=>by
    have q:i<ps.length:=⋯
    rw[Br,Ab q];exact⟨Bi q,rfl⟩
  have sJ:∀i,i<os.length->os[i]?=some (os.getD i none):=λi hi=>by rw[Br,Ab hi];rfl
  have o7:cg (Yp (Qc (QA QV (Qc (Qa 2) (Qk))) (Qk))) G h'=some (bK (QZ 0 os.length),h'):=by have l2:=ZT (f:=Qa 2) (env:=G) (n:=B) (ak rfl) P;rw[Bb]at l2;exact ZS (Z3 (m:=os.length) (QR l2) ⋯)
  have cm:=(J8 (e:=Zz (Qc (Qe au (Qa 1) (Qa 0)) (Qc (QA yL (Qc (Xz) (Qk))) (Qc (Qe au (Qa 2) (Qa 0)) (Qk))))) (idx:=[2,3]) (env:=G) (h:=h') g (QZ 0 os.length) o7 (λi hi=>Ys _ i hi h') (λd hd=>by
    rw[xT]at hd;obtain⟨i,hi,rfl⟩:=By.mp hd;rw[Bm]at hi;obtain⟨pm,pg⟩:=af i hi;obtain⟨oZ,zg⟩:=hZ _ pm
    let V:En:=[.val (.int (i:Int)),.val (.ref B),.val (.ref I)]
    have v1:Qe au (Qa 1) (Qa 0) V h'=some (opt (os.getD i none),h'):=Z6 (i:=i) (n:=B) (ak rfl) P (ak rfl) (by rw[Be,sJ i hi];rfl);have v2:Qe au (Qa 2) (Qa 0) V h'=some (.ref (ps.getD i 0),h'):=Z6 (i:=i) (n:=I) (ak rfl) S (ak rfl) (by rw[Be,pg];rfl);have v3:Xz V h'=some (.lst ((zK (Z (ps.getD i 0))).map .int),h'):=by
      have:=(J8 (e:=Qe au (Qa 0) (eC (.int 0))) (idx:=[]) (env:=V) (h:=h') (λd=>match d with|.tup (x::_)=>x|_=>.non) (bJ (Z (ps.getD i 0))) (JT v2 zg) (λi _=>XQ zg i) (λd hd=>by unfold bJ at hd;obtain⟨p,_,rfl⟩:=By.mp hd;exact JQ (i:=0) (ds:=[.int p.1,.int p.2]) (ak rfl) rfl rfl) (by rw[yY];lia)).1
      refine this.trans ?_;simp[bJ,zK,Function.comp_def]
    have v4:=Jd (QR v3) (show yL [.lst ((zK (Z (ps.getD i 0))).map .int)] h'=some (.tup ((zK (Z (ps.getD i 0))).map .int),h')from rfl);show Zz _ V h'=some (cI ⟨os.getD i none,zK (Z (ps.getD i 0)),ps.getD i 0⟩,h');unfold Zz;rw[Qf (Zt v1 (Zt v4 (QR v2)))];rfl) (by rw[Qz];lia)).2
  have em:(QZ 0 os.length).map g=O.map cI:=by rw[xT,List.map_map,List.map_map];rfl
  rw[em]at cm;have Hv:qz (E a b) h'=some (.ref h'.length,h'++[.lst (O.map cI)]):=cm;refine⟨h'++[.lst (O.map cI)],h'.length,O,QB (env:=E a b) ((Qi (aL:=[.val (.lst (L.map .int)),.val (.ref K),.val (.ref B),.un,.un,.un]) (hp1:=w++[.lst [.non]]) rfl).trans ((Qi (aL:=E .un .un) (hp1:=Q) ?_).trans ((Qi ?_).trans (QC Hv)))),s'.trans (Sub.app _ _),QU _ _,s'.len,λe he=>?_,λi e hi h0=>?_,⋯,⋯⟩
  . show some ((Fl.nx,[Sl.val (.lst (L.map .int)),.val (.ref K),.val (.ref B),.val (.ref (w++[OV.lst [.non]]++[OV.lst []]).length),.un,.un]),w++[OV.lst [.non]]++[OV.lst []]++[OV.lst [.ref (w++[OV.lst [.non]]).length]])=_
    simp[E,Q,B,I]
  . unfold qE ZN
    rw[Qf src];exact e
  . obtain⟨i,hi,rfl⟩:=By.mp he
    rw[Bm]at hi;obtain⟨pm,pg⟩:=af i hi;obtain⟨oZ,zg⟩:=hZ _ pm;exact⟨by show(zK _).length<=100;unfold zK;rw[Bb];exact oZ,_,oZ,(Sub.app _ _) _ _ zg⟩
  . have il:=(Ac.mp hi).1
    rw[el]at il;have:O[i]?=some ⟨os.getD i none,zK (Z (ps.getD i 0)),ps.getD i 0⟩:=by show((List.range os.length).map _)[i]?=_;rw[Be,List.getElem?_range il];rfl
    rw[this]at hi;cases hi;exact X i _ (sJ i il) h0
abbrev KE(R:Nat)(c:Int)(aM A a:Nat)(wd:Int)(d e f:Sl):En:=[.val (.ref R),.val (.int c),.val (.int aM),.val (.ref A),.val (.int a),.val (.int wd),d,e,f]
def nD(kd:List Nat):List DV:=kd.map λ(k:Nat)=>.int k
def Ou(a b:List Nat):nD (a++b)=nD a++nD b:=List.map_append
def uR(a:List Nat):(nD a).length=a.length:=Bb _
theorem BB{R:Nat}{c:Int}{aM A a:Nat}{wd:Int}{b:Nat}(Q:b<=300)(u:200+90 * aM+b<=1000)(n r:Sl)(h:Hs):∃z rest,Z8 (bK (QZ ((a+1:Nat):Int) (b-(a+1)))) (λd env=>do let env' <- gN 8 d env;Yq env') 100000 0 (KE R c aM A a wd n (.val (.ref h.length)) r) (h++[.lst (nD [a])])=some ((.nx,KE R c aM A a wd n (.val (.ref h.length)) z),h++[.lst (nD (a::rest))])/\(∀k∈rest,a<k/\k<b)/\rest.length<=b-(a+1):=by
  let E:Sl->En:=λz=>KE R c aM A a wd n (.val (.ref h.length)) z
  obtain⟨q,h',e,z,rest,rfl,rfl,f,l⟩:WP (Z8 (bK (QZ ((a+1:Nat):Int) (b-(a+1)))) (λd env=>do let env' <- gN 8 d env;Yq env') 100000 0 (E r)) (h++[.lst (nD [a])]) λq h'=>∃z rest,q=(.nx,E z)/\h'=h++[.lst (nD (a::rest))]/\(∀k∈rest,a<k/\k<b)/\rest.length<=b-(a+1):=by
    refine Zr _ (λi m h'=>∃z rest,m=E z/\h'=h++[.lst (nD (a::rest))]/\(∀k∈rest,a<k/\k<b)/\rest.length<=i) (by rw[Qz];lia) ⟨r,[],rfl,rfl,(λk O=>nomatch O),Ae _⟩ (λi P hi m h' zz=>?_) (λm h' zz=>?_)
    . obtain⟨z,rest,rfl,rfl,f,l⟩:=zz
      obtain⟨S,rfl⟩:=XS hi;have J:(((a+1:Nat):Int)+i)=((a+1+i:Nat):Int):=⋯
      rw[J]
      let k:=a+1+i
      let F:=E (.val (.int (k:Int)))
      let H:Hs:=h++[.lst (nD (a::rest))]
      have I:Qe QP (Qe QP (eC (.int 200)) (Qe qY (eC (.int 90)) (Qa 2))) (Qa 8) F H=some (.int (200+90 * (aM:Int)+(k:Int)),H):=Q7 (Q7 rfl (Qs (x:=.int 90) (y:=.int (aM:Int)) rfl (ak rfl) (ZE (qZ _ _ (by decide) (by decide)) _))) (ak rfl);have t:=Q2 (Yo (g:=eC (.int 0)) (j:=0) (Jg 5 (by decide) (QI (env:=F) (U:=H) (Zy (ak (i:=1) rfl) I) rfl (ZE (Xa c (200+90 * (aM:Int)+(k:Int)) ⋯ ⋯) _))) rfl);have v:H[h.length]?=some (.lst (nD (a::rest))):=QU _ _;cases C:decide ((0:Int)<ZH c (200+90 * (aM:Int)+(k:Int)) % 5)with
      |false=>rw[C]at t;exact⟨(.nx,F),H,(QL t).trans QM,_,rest,rfl,rfl,f,⋯⟩
      |true =>
        rw[C]at t;have G:=Q0 (env:=F) (Z2 (o:=Qa 7) (e:=Qa 8) (env:=F) (a:=h.length) (ak rfl) v (ak rfl) v (by rw[uR,Ay];lia));refine⟨(.nx,F),_,(Zf t).trans G,_,rest++[k],rfl,?_,λj L=>?_,by rw[Ak];simp;lia⟩
        . show(h++[OV.lst (nD (a::rest))]).set h.length _=_
          rw[<- List.cons_append,Ou];simp;rfl
        . rcases Ag.mp L with q|q
          . exact f j q
          . rw[Ap.mp q];exact⟨⋯,⋯⟩
    . obtain⟨z,rest,rfl,rfl,f,l⟩:=zz
      rw[Qz]at l;exact⟨z,rest,rfl,rfl,f,⋯⟩
  exact⟨z,rest,e,f,l⟩
def e0:E3:=⟨none,[],0⟩
theorem jc{a:List E3}{i:Nat}(h:i<a.length):a[i]?=some (a.getD i e0):=by rw[Br,Ab h];rfl
theorem BM{w h:Hs}{R A aM a:Nat}{c wd:Int}{l fs:List E3}(hR:w[R]?=some (.lst (l.map cI)))(hd:Hd l)(s:Sub w h)(hl:l.length<=100)(ab:200+90 * aM+l.length<=1000)(hA:w.length<=A)(gA:h[A]?=some (.lst (fs.map cI)))(fl:fs.length<=100)(RK:mZ h l.length fs)(Y:∀e∈fs,A<e.s)(S:wd=3∨wd=8)(ha:a<l.length)(O F v:Sl) :
  ∃(sz:Nat)(z7 z8:Sl)(e:E3)(h':Hs),2<=sz/\Yr (KE R c aM A a wd O F v) h=some ((.nx,KE R c aM A (a+sz) wd (.val (.int sz)) z7 z8),h')/\Sub w h'/\h'[A]?=some (.lst ((fs++[e]).map cI))/\mZ h' l.length (fs++[e])/\(∀C∈fs++[e],A<C.s)/\e.b=(l.getD a e0).b:=by
 have r:=JS (ZH c (50+7 * (aM:Int)+(a:Int))) wd (by rcases S with q|q<;>lia)
 obtain⟨sz,ez⟩:∃sz:Nat,2+ZH c (50+7 * (aM:Int)+(a:Int)) % wd=sz:=⟨_,(Int.toNat_of_nonneg ⋯).symm⟩;have Ef:2<=sz/\sz<=9:=by rcases S with q|q<;>lia
 let Z:=KE R c aM A a wd (.val (.int sz)) F v
 have s1:Qx 6 (Qe QP (eC (.int 2)) (Qe Za (Qw 2 QH (Qc (Qa 1) (Qc (Qe QP (Qe QP (eC (.int 50)) (Qe qY (eC (.int 7)) (Qa 2))) (Qa 4)) (Qk)))) (Qa 5))) (KE R c aM A a wd O F v) h=some ((.nx,Z),h):=by
  have dd:Qe Za (Qw 2 QH (Qc (Qa 1) (Qc (Qe QP (Qe QP (eC (.int 50)) (Qe qY (eC (.int 7)) (Qa 2))) (Qa 4)) (Qk)))) (Qa 5) (KE R c aM A a wd O F v) h=some (.int (ZH c (50+7 * (aM:Int)+(a:Int)) % wd),h):=Qs (x:=.int (ZH c (50+7 * (aM:Int)+(a:Int)))) (y:=.int wd) (QI (Zy (ak rfl) (Q7 (Q7 rfl (Qs (x:=.int 7) (y:=.int (aM:Int)) rfl (ak rfl) (ZE (qZ _ _ (by decide) (by decide)) _))) (ak rfl))) rfl (ZE (Xa c (50+7 * (aM:Int)+(a:Int)) ⋯ ⋯) _)) (ak rfl) (ZE (Ji _ _ (by rcases S with q|q<;>lia)) _)
  have:=Qt (i:=6) (Q7 (f:=eC (.int 2)) (i:=2) (env:=KE R c aM A a wd O F v) (U:=h) rfl dd);rw[ez]at this;exact this
 let G:=KE R c aM A a wd (.val (.int sz)) (.val (.ref h.length)) v
 have s2:Qx 7 (Zu (Qc (Qa 4) (Qk))) Z h=some ((.nx,G),h++[.lst (nD [a])]):=rfl;obtain⟨b,eb,bl⟩:∃b:Nat,(if ((l.length:Nat):Int)<(a:Int)+(sz:Int)then ((l.length:Nat):Int)else (a:Int)+(sz:Int))=(b:Int)/\b<=l.length:=by
  by_cases q:((l.length:Nat):Int)<(a:Int)+(sz:Int)
  ·exact⟨l.length,by rw[B8 q],Ae _⟩
  ·exact⟨a+sz,by rw[B7 q];lia,⋯⟩
 obtain⟨z,rest,el,T,m2⟩:=BB (R:=R) (c:=c) (aM:=aM) (A:=A) (a:=a) (wd:=wd) (b:=b) ⋯ ⋯ (.val (.int sz)) v h
 let H:Hs:=h++[.lst (nD (a::rest))]
 let t:=KE R c aM A a wd (.val (.int sz)) (.val (.ref h.length)) z
 have gR:∀{x:Hs},Sub w x->x[R]?=some (.lst (l.map cI)):=λsx=>sx _ _ hR;have L:Sub h H:=Sub.app _ _;have s3:zM G (h++[.lst (nD [a])])=some ((.nx,t),H):=by
  have l0:=ZT (f:=Qa 0) (env:=G) (U:=h++[.lst (nD [a])]) (n:=R) (ak rfl) (gR (s.trans (Sub.app _ _)));rw[Bb]at l0;have mn:QA n_ (Qc (Qe QP (Qa 4) (Qa 6)) (Qc (QA QV (Qc (Qa 0) (Qk))) (Qk))) G (h++[.lst (nD [a])])=some (.int (b:Int),h++[.lst (nD [a])]):=by rw[<- eb];exact Jd (Zy (Q7 (i:=(a:Int)) (j:=(sz:Int)) (ak rfl) (ak rfl)) l0) rfl
  exact Q6 (ZS (yS (a:=a+1) (b:=b) (Zy (Q7 (i:=(a:Int)) (j:=1) (ak rfl) rfl) mn) ⋯ ⋯)) el
 have j_:H[h.length]?=some (.lst (nD (a::rest))):=QU _ _;have tK:H[R]?=some (.lst (l.map cI)):=gR (s.trans L)
 let u:Nat->Int:=λk=>(l.getD k e0).b.getD 0
 let ne:E3:=⟨(l.getD a e0).b,rest.map u,h.length⟩
 have hk:∀k∈rest,opt (l.getD k e0).b=.int (u k):=λk J=>by obtain⟨q1,q2⟩:=T k J;obtain⟨x,hx⟩:=hd k _ (jc ⋯) ⋯;show opt (l.getD k e0).b=.int ((l.getD k e0).b.getD 0);rw[hx];rfl
 have cf:Yg t H=some (.lst ((rest.map u).map .int),H):=by
  have sl:=jq (f:=Qa 7) (g:=eC (.int 1)) (env:=t) (U:=H) (a:=h.length) (m:=1) (ak rfl) j_ rfl;have:=(J8 (e:=Qe au (Qe au (Qa 1) (Qa 0)) (eC (.int 0))) (idx:=[0]) (env:=t) (h:=H) (λd=>match d with|.int k=>.int (u k.toNat)|_=>.non) (nD rest) (zn sl) (λi hi=>Ys _ i hi _) (λd E=>by unfold nD at E;obtain⟨k,J,rfl⟩:=By.mp E;obtain⟨q1,q2⟩:=T k J;have:Qe au (Qa 1) (Qa 0) [Sl.val (.int (k:Int)),.val (.ref R)] H=some (cI (l.getD k e0),H):=Z6 (i:=k) (n:=R) (ak rfl) tK (ak rfl) (by rw[Be,jc ⋯];rfl);show Qe au (Qe au (Qa 1) (Qa 0)) (eC (.int 0)) [Sl.val (.int (k:Int)),.val (.ref R)] H=some (.int (u k),H);rw[<- hk k J];exact Zl (i:=0) this rfl rfl) (by rw[uR];lia)).1
  refine this.trans ?_;unfold nD;rw[List.map_map,List.map_map];rfl
 have v1:Qe au (Qe au (Qa 0) (Qa 4)) (eC (.int 0)) t H=some (opt (l.getD a e0).b,H):=Zl (i:=0) (Z6 (i:=a) (n:=R) (ak rfl) tK (ak rfl) (by rw[Be,jc ha];rfl)) rfl rfl;have v2:=Jd (QR cf) (show yL [.lst ((rest.map u).map .int)] H=some (.tup ((rest.map u).map .int),H)from rfl);have en:Zz (Qc (Qe au (Qe au (Qa 0) (Qa 4)) (eC (.int 0))) (Qc (QA yL (Qc (Yg) (Qk))) (Qc (Qa 7) (Qk)))) t H=some (cI ne,H):=by unfold Zz;rw[Qf (Zt v1 (Zt v2 (QR (ak rfl))))];rfl
 have X:=L _ _ gA;have lA:A<H.length:=(Ac.mp X).1;have Fd:A<h.length:=(Ac.mp gA).1;have s4:=Q0 (env:=t) (Z2 (o:=Qa 3) (env:=t) (a:=A) (ak rfl) X en X (by rw[Bb];lia))
 let I:Hs:=H.set A (.lst (fs.map cI++[cI ne]))
 have s5:Qx 4 (Qe QP (Qa 4) (Qa 6)) t I=some ((.nx,KE R c aM A (a+sz) wd (.val (.int sz)) (.val (.ref h.length)) z),I):=by have:=Qt (i:=4) (gJ (f:=Qa 4) (g:=Qa 6) (env:=t) (U:=I) (i:=a) (j:=sz) (ak rfl) (ak rfl));exact this
 refine⟨sz,.val (.ref h.length),z,ne,I,Ef.1,(Qi s1).trans ((Qi s2).trans ((Qi s3).trans ((Qi s4).trans s5))),(s.trans L).set hA _,?_,λC P=>?_,λC P=>?_,rfl⟩
 ·show(List.set _ _ _)[_]?=_;rw[Aq lA,List.map_append];rfl
 ·rcases Ag.mp P with q|q
  ·obtain⟨k1,kd,k2,k3,k4⟩:=RK C q;refine⟨k1,kd,k2,k3,?_⟩;show(List.set _ _ _)[_]?=_;rw[Aj (by have:=Y C q;lia)];exact L _ _ k4
  ·rw[Ap.mp q];refine⟨by show(rest.map u).length<=100;rw[Bb];lia,a::rest,?_,λk Q=>?_,?_⟩
   ·rw[Ay];lia
   ·rcases A9.mp Q with q|q
    ·rw[q];exact ha
    ·have:=T k q;lia
   ·show(List.set _ _ _)[h.length]?=_;rw[Aj ⋯];exact j_
 ·rcases Ag.mp P with q|q
  ·exact Y C q
  ·rw[Ap.mp q];exact Fd
theorem uC{w:Hs}{R A aM:Nat}{c wd:Int}{g:List E3}(E:w[R]?=some (.lst (g.map cI)))(hd:Hd g)(hl:g.length<=100)(o:200+90 * aM+g.length<=1000)(hA:w.length<=A)(hw:wd=3∨wd=8):∀(f a:Nat)(fs:List E3)(h:Hs)(j l m:Sl),g.length<a+f->0<f->Sub w h->h[A]?=some (.lst (fs.map cI))->mZ h g.length fs->(∀e∈fs,A<e.s)->2 * fs.length<=a->2 * fs.length<=g.length+1->Hd fs->(fs=[]->a=0) ->
    ∃(u:Nat)(z6 z7 z8:Sl)(d:List E3)(h':Hs),Z7 (eB (Qe bW (Qa 4) (QA QV (Qc (Qa 0) (Qk))))) (Yr) f (KE R c aM A a wd j l m) h=some ((.nx,KE R c aM A u wd z6 z7 z8),h')/\Sub w h'/\h'[A]?=some (.lst (d.map cI))/\mZ h' g.length d/\(∀e∈d,A<e.s)/\Hd d/\2 * d.length<=g.length+1/\(d=[]->g.length=0):=by
  intro f;induction f with
  |zero=>intro a fs h j l m q q0;lia
  |succ f ih =>
    intro a fs h j l m q q0 s C y x l1 l2 hf Y;have G:=ZT (f:=Qa 0) (env:=KE R c aM A a wd j l m) (U:=h) (n:=R) (ak rfl) (s _ _ E);rw[Bb]at G;have t:=Q2 (jg (f:=Qa 4) (i:=(a:Int)) (ak rfl) G);by_cases F:a<g.length
    . rw[show decide ((a:Int)<((g.length:Nat):Int))=true from Ca ⋯]at t
      obtain⟨sz,z7,z8,e,Z,DF,S,s1,O,P,L,X⟩:=BM (c:=c) (aM:=aM) E hd s hl o hA C ⋯ y x hw F j l m;have v:Hd (fs++[e]):=λi Q hi i0=>by
        by_cases qi:i<fs.length
        . rw[Af qi]at hi;exact hf i Q hi i0
        . have:=(Ac.mp hi).1
          rw[Ak,List.length_singleton]at this;rw[Ao ⋯,show i-fs.length=0 by lia]at hi;cases hi;rw[X];exact hd a _ (jc F) ⋯
      have l3:(fs++[e]).length=fs.length+1:=by simp
      obtain⟨u,z6,J,I,d,h',T,r⟩:=ih (a+sz) (fs++[e]) Z (.val (.int sz)) z7 z8 ⋯ ⋯ s1 O P L ⋯ ⋯ v (λz=>by simp at z);exact⟨u,z6,J,I,d,h',(xq t S).trans T,r⟩
    . rw[show decide ((a:Int)<((g.length:Nat):Int))=false from Cc ⋯]at t
      exact⟨a,j,l,m,fs,h,qh t,s,C,y,x,hf,l2,λz=>by have:=Y z;lia⟩
theorem Ha{w:Hs}{R aM:Nat}{a:List E3}(c:Int)(y:w[R]?=some (.lst (a.map cI)))(hd:Hd a)(z:a.length<=100)(I:1<=a.length)(d:200+90 * aM+a.length<=1000):∃h fs,XZ [.ref R,.int c,.int aM] w=some (.ref w.length,h)/\Sub w h/\h[w.length]?=some (.lst (fs.map cI))/\mZ h a.length fs/\(∀e∈fs,w.length<e.s)/\Hd fs/\1<=fs.length/\2 * fs.length<=a.length+1:=by
  let l:Hs:=w++[.lst []]
  let n:En:=[.val (.ref R),.val (.int c),.val (.int aM),.val (.ref w.length),.val (.int (0:Nat)),.un,.un,.un,.un]
  obtain⟨wd,C,G⟩:∃wd:Int,(wd=3∨wd=8)/\Qx 5 (Qe au (Zz (Qc (eC (.int 3)) (Qc (eC (.int 8)) (Qk)))) (QA uH (Qc (Qe aX (Qe Za (Qw 2 QH (Qc (Qa 1) (Qc (eC (.int 49)) (Qk)))) (eC (.int 4))) (eC (.int 0))) (Qk)))) n l=some ((.nx,KE R c aM w.length 0 wd .un .un .un),l):=by
    have m:=Y0 (f:=Qe Za (Qw 2 QH (Qc (Qa 1) (Qc (eC (.int 49)) (Qk)))) (eC (.int 4))) (g:=eC (.int 0)) (j:=0) (env:=n) (U:=l) (Jg 4 (by decide) (QI (Zy (ak rfl) rfl) rfl (ZE (Xa c 49 (by decide) (by decide)) _))) rfl;cases q:(ZH c 49 % 4==0)with
    |true=>rw[q]at m;exact⟨8,.inr rfl,Qt (Zl (i:=1) (ds:=[.int 3,.int 8]) rfl (Jd (QR m) rfl) rfl)⟩
    |false=>rw[q]at m;exact⟨3,.inl rfl,Qt (Zl (i:=0) (ds:=[.int 3,.int 8]) rfl (Jd (QR m) rfl) rfl)⟩
  obtain⟨u,z6,z7,z8,fs,h,e,s,v,t,r,hf,E,x⟩:=uC (c:=c) (wd:=wd) (aM:=aM) y hd z d (Ae _) C 100000 0 [] l .un .un .un ⋯ (by decide) (Sub.app _ _) (QU _ _) (λe o=>nomatch o) (λe o=>nomatch o) (by simp) (by simp) (λi e hi=>by simp at hi) (λ_=>rfl);have F:1<=fs.length:=by
    cases fs with
    |nil=>have:=x rfl;lia
    |cons _ _=>simp
  exact⟨h,fs,QB (env:=KE R c aM w.length u wd z6 z7 z8) ((Qi (Qt (Z4 _ _))).trans ((Qi (aL:=n) (hp1:=l) rfl).trans ((Qi G).trans ((Qi e).trans (QC (ak rfl)))))),s,v,t,r,hf,F,E⟩
def oK(h h':Hs):Prop:=∀(i:Nat)(ds:List DV),h[i]?=some (.lst ds)->h'[i]?=some (.lst ds)
def blk(L:Nat)(h:Hs):Hs:=h.set L (.aJ [])
theorem Sub.blk{h h':Hs}(s:Sub h h')(L:Nat):oK (blk L h) (blk L h'):=λi ds e=>by
 unfold K52.blk at e ⊢;by_cases q:L=i
 ·subst q;rw[Aq (by have:=(Ac.mp e).1;simpa using this)]at e;cases e
 ·rw[Aj q]at e ⊢;exact s _ _ e
theorem Sg(L:Nat)(h:Hs)(x:OV):blk L (h.set L x)=blk L h:=by unfold blk;rw[List.set_set]
theorem wF(L:Nat)(h:Hs):oK (blk L h) h:=λi ds e=>by
 unfold blk at e;by_cases q:L=i
 ·subst q;rw[Aq (by have:=(Ac.mp e).1;simpa using this)]at e;cases e
 ·rwa [Aj q]at e
theorem wG{L i:Nat}{h:Hs}{ds:List DV}(q:i≠L)(e:h[i]?=some (.lst ds)):(blk L h)[i]?=some (.lst ds):=by unfold blk;rw[Aj (Ne.symm q)];exact e
structure Lv(h:Hs)(i r:Nat)(es:List E3)(ess:List (List E3)):Prop where
 at':h[r]?=some (.lst (es.map cI))
 hd:Hd es
 one:1<=es.length
 ks:∀e∈es,e.ks.length<=100
 r0:i=0->∀e∈es,∃z:Zs,z.length<=100/\h[e.s]?=some (.lst (bJ z))
 rk:0<i->∀e∈es,∃kd:List Nat,kd.length<=100/\(∀k∈kd,k<(ess.getD (i-1) []).length)/\h[e.s]?=some (.lst (nD kd))
def bZ(h:Hs)(c:List Nat)(a:List (List E3)):Prop:=c.length=a.length/\∀(i:Nat),i<a.length->Lv h i (c.getD i 0) (a.getD i []) a
theorem bZ.mono{h h':Hs}{m:List Nat}{g:List (List E3)}(x:bZ h m g)(s:oK h h'):bZ h' m g:=⟨x.1,λi hi=>by
 obtain⟨a,b,c,d,e,f⟩:=x.2 i hi;refine⟨s _ _ a,b,c,d,λq j l=>?_,λq j l=>?_⟩
 ·obtain⟨z,z1,z2⟩:=e q j l;exact⟨z,z1,s _ _ z2⟩
 ·obtain⟨z,z1,z2,z3⟩:=f q j l;exact⟨z,z1,z2,s _ _ z3⟩⟩
theorem Y3{α:Type}{l m:List α}{i:Nat}{d:α}(h:i<l.length):(l++m).getD i d=l.getD i d:=by rw[Br,Af h,<- Br]
theorem JF{α:Type}{l:List α}{x d:α}:(l++[x]).getD l.length d=x:=by rw[Br,Ao (Ae _)];simp
theorem bZ.snoc{h:Hs}{l:List Nat}{g:List (List E3)}(x:bZ h l g){r:Nat}{j:List E3}(y:Lv h g.length r j (g++[j])):bZ h (l++[r]) (g++[j]):=⟨by simp[x.1],λi hi=>by
 rw[Ak,List.length_singleton]at hi;by_cases q:i<g.length
 ·obtain⟨a,b,c,d,e,f⟩:=x.2 i q;rw[Y3 (by rw[x.1];exact q),Y3 q];refine⟨a,b,c,d,e,λo m n=>?_⟩;rw[Y3 ⋯];exact f o m n
 ·have:i=g.length:=⋯
  subst this;rw[JF];rw[<- x.1,JF,x.1];exact y⟩
def tot(a:List (List E3)):Nat:=(a.map List.length).sum
theorem vR(a:List (List E3))(c:List E3):tot (a++[c])=tot a+c.length:=by simp[tot]
theorem yO(ns:List Int)(k:Nat)(c:ns.length<=63):∃x,Zj [.lst (ns.map .int),.int k]=pure (.int x):=by
 by_cases h:k<ns.length
 ·have a:=KB (xs:=ns.map DV.int) (j:=k) (v:=.int ns[k]) (by simp[h]);refine⟨ns[k],?_⟩;have h':(k:Int)<(ns.length:Int):=⋯
  simp[Zj,Yj,Zv,Qv,Qx,Zc,VX,aN,Zn,gi,GU,gf,gh,Qe,Qa,eC,eB,eX,Jx,cG,XF,Jy,YY,Vq,dG,ZV,Qk,Qc,ZK,Zz,Qw,QA,QG,gN,XC,XW,Y4,qc,Y8,Y2,XN,VV,VU,uZ,YZ,qe,VF,eV,dM,a,h']
 ·have h':¬ (k:Int)<(ns.length:Int):=⋯
  exact⟨0,by simp[Zj,Yj,Zv,Qv,Qx,Zc,VX,aN,Zn,gi,GU,gf,gh,Qe,Qa,eC,eB,eX,Jx,cG,XF,Jy,YY,Vq,dG,ZV,Qk,Qc,ZK,Zz,Qw,QA,QG,gN,XC,XW,Y4,qc,Y8,Y2,XN,VV,VU,uZ,YZ,qe,VF,h']⟩
abbrev TE(S C:DV)(L:Nat):En:=[.val S,.val C,.val (.ref L),.un,.un,.un,.un,.un,.un,.un,.un,.un,.un,.un,.un]
theorem Mm{ns:List Int}(hn:ns.length<=63){C:DV}{L:Nat}:∀(f:Nat)(i:List (List E3))(m:List E3)(u:List Nat)(r:Nat)(h:Hs),m.length<f->h[L]?=some (.lst ((u++[r]).map .ref))->bZ (blk L h) (u++[r]) (i++[m])->(m.length-1) * 2 ^ i.length<=90->tot (i++[m])+m.length<=182+i.length->i.length<=7 ->
    ∃(I:List (List E3))(v:List E3)(F:List Nat)(h':Hs),Z7 (eB (Qe cR (QA QV (Qc (Qe au (Qa 2) (ZV (eC (.int 1)))) (Qk))) (eC (.int 1)))) (jS) f (TE (.lst (ns.map .int)) C L) h=some ((.nx,TE (.lst (ns.map .int)) C L),h')/\h'[L]?=some (.lst (F.map .ref))/\bZ (blk L h') F (I++[v])/\v.length=1/\tot (I++[v])<=200/\I.length<=7:=by
  obtain⟨c,hc⟩:=yO ns 1 hn;intro f;induction f with
  |zero=>intro i m u r h q;lia
  |succ f ih =>
    intro i m u r h q G X p1 p2 p3
    let E:=TE (.lst (ns.map .int)) C L
    have Q:u.length=i.length:=by have:=X.1;simpa using this
    have lv:=X.2 i.length (by simp);rw[JF,<- Q,JF]at lv;have Y:h[r]?=some (.lst (m.map cI)):=wF L h _ _ lv.at';have one:=lv.one;have ht:=vR i m;have Z:Qe au (Qa 2) (ZV (eC (.int 1))) E h=some (.ref r,h):=Qs (x:=.ref L) (y:=.int (-1)) (ak rfl) rfl (xK (ds:=u.map .ref) (d:=.ref r) (by rw[G,List.map_append];rfl));have l0:=ZT Z Y;rw[Bb]at l0;have t:=Q2 (Yo (g:=eC (.int 1)) (j:=1) l0 rfl);by_cases ha:1<m.length
    . rw[show decide ((1:Int)<((m.length:Nat):Int))=true from Ca ⋯]at t
      have p4:i.length<=6:=by
        by_cases z:i.length<=6
        . exact z
        . have z1:2 ^ 7<=2 ^ i.length:=Nat.pow_le_pow_right (by decide) ⋯
          have z2:1 * 2 ^ i.length<=(m.length-1) * 2 ^ i.length:=Nat.mul_le_mul_right _ ⋯;lia
      obtain⟨J,fs,e1,S,g1,T,AS,hf,f1,f2⟩:=Ha (w:=h) (R:=r) (aM:=i.length+1) c Y lv.hd ⋯ one ⋯;have lL:L<h.length:=(Ac.mp G).1;have l2:QA QV (Qc (Qa 2) Qk) E h=some (.int ((i.length+1:Nat):Int),h):=by have:=ZT (f:=Qa 2) (env:=E) (U:=h) (n:=L) (ak rfl) G;rw[Bb,Ak,Q]at this;exact this
      have call:Qw 3 XZ (Qc (Qe au (Qa 2) (ZV (eC (.int 1)))) (Qc (Qw 2 Zj (Qc (Qa 0) (Qc (eC (.int 1)) (Qk)))) (Qc (QA QV (Qc (Qa 2) (Qk))) (Qk)))) E h=some (.ref h.length,J) :=
        QI (Zt Z (Zt (QI (Zy (ak rfl) rfl) rfl (ZE hc h)) (QR l2))) rfl e1
      have ap:=Q0 (env:=E) (Z2 (o:=Qa 2) (env:=E) (a:=L) (ak rfl) G call (S _ _ G) (by rw[Bb,Ak,Q];simp;lia))
      let O:Hs:=J.set L (OV.lst ((u++[r]).map DV.ref++[DV.ref h.length]))
      have Fb:L<J.length:=by have:=S.len;lia
      have g2:O[L]?=some (.lst ((u++[r]++[h.length]).map .ref)):=by show(List.set _ _ _)[_]?=_;rw[Aq Fb,List.map_append (l₁:=u++[r])];rfl
      have X2:bZ (blk L O) (u++[r]++[h.length]) (i++[m]++[fs]):=by rw[show blk L O=blk L J from Sg _ _ _];refine(X.mono (S.blk L)).snoc ⟨wG ⋯ g1,hf,f1,λe P=>(T e P).1,λz=>by simp at z,λz e P=>?_⟩;obtain⟨_,kd,k1,k2,k3⟩:=T e P;refine⟨kd,k1,?_,wG (by have:=AS e P;lia) k3⟩;rw[show(i++[m]).length-1=i.length by simp,Y3 (by simp),JF];exact k2
      have D5:=vR (i++[m]) fs;have le:(i++[m]).length=i.length+1:=by simp
      obtain⟨I,v,F,h',e2,rr⟩:=ih (i++[m]) fs (u++[r]) h.length O ⋯ g2 X2 (by
        rw[le,Nat.pow_succ];have:(fs.length-1) * (2 ^ i.length * 2)=(2 * (fs.length-1)) * 2 ^ i.length:=by rw[Nat.mul_comm (2 ^ i.length) 2,<- Nat.mul_assoc,Nat.mul_comm (fs.length-1) 2]
        rw[this];exact A8 (Nat.mul_le_mul_right _ ⋯) p1) ⋯ ⋯
      exact⟨I,v,F,h',(xq t ap).trans e2,rr⟩
    . rw[show decide ((1:Int)<((m.length:Nat):Int))=false from Cc ⋯]at t
      exact⟨i,m,u++[r],h,qh t,G,X,⋯,⋯,p3⟩
theorem We{f g:aB}{env:En}{U:Hs}{d:DV}{m:Nat}{ds:List DV}(hf:f env U=some (d,U))(hd:aP U d ds)(c:g env U=some (.int m,U)):jM f Zb (QX g) env U=some (.lst (ds.take m),U):=by
 rcases hd with rfl|⟨a,rfl,e⟩
 ·unfold jM;rw[Qf hf,Qf (show Zb env U=some (none,U)from rfl),Qf (show QX g env U=some (some (m:Int),U)by unfold QX;rw[Qf c];rfl)];show some (DV.lst (D.YC ds none (some (m:Int))),U)=_;rw[jF]
 ·exact WB hf e c
theorem gn{f g:aB}{env:En}{U:Hs}{d:DV}{m:Nat}{ds:List DV}(hf:f env U=some (d,U))(hd:aP U d ds)(c:g env U=some (.int m,U)):jM f (QX g) Zb env U=some (.lst (ds.drop m),U):=by
 rcases hd with rfl|⟨a,rfl,e⟩
 ·unfold jM;rw[Qf hf,Qf (show QX g env U=some (some (m:Int),U)by unfold QX;rw[Qf c];rfl),Qf (show Zb env U=some (none,U)from rfl)];show some (DV.lst (D.YC ds (some (m:Int)) none),U)=_;rw[jE]
 ·exact jq hf e c
def dH(nm:List (List Int)):List DV:=nm.map λl=>.lst (l.map .int)
abbrev NE(S C:DV)(L:Nat)(N:DV)(M:Nat)(z:Sl):En:=[.val S,.val C,.val (.ref L),.val N,.val (.ref M),z,.un,.un,.un,.un,.un,.un,.un,.un,.un]
theorem zY{α β:Type}(l:List α)(f:α->β){i:Nat}{x:α}(h:l[i]?=some x):(l.take (i+1)).map f=(l.take i).map f++[f x]:=by rw[List.take_succ,h,List.map_append];rfl
theorem S8(a:List (List E3))(n:Nat):tot (a.take n)<=tot a:=by
 have:tot a=tot (a.take n)+tot (a.drop n):=by
  conv=>lhs;rw[<- Bg n a]
  unfold tot;rw[List.map_append,List.sum_append]
 lia
theorem Wj{S C:DV}{L Nn:Nat}{h:Hs}{J:List Nat}{c:List (List E3)}{ns:List Int}(Q:h[L]?=some (.lst (J.map .ref)))(X:bZ h J c)(j_:h[Nn]?=some (.lst (ns.map .int)))(nl:ns.length=tot c)(el:c.length<=50) :
  ∃z N nm,jv (NE S C L (.ref Nn) h.length .un) (h++[.lst []])=some ((.nx,NE S C L N h.length z),h++[.lst (dH nm)])/\nm.map List.length=c.map List.length/\nm.flatten=ns:=by
 let H:List (List Int)->Hs:=λnm=>h++[.lst (dH nm)]
 let E:DV->Sl->En:=λN z=>NE S C L N h.length z
 have t:∀nm,Sub h (H nm):=λnm=>Sub.app _ _;have R:∀nm,(H nm)[h.length]?=some (.lst (dH nm)):=λnm=>QU _ _;obtain⟨q,h',e,N,z,nm,g,rfl,rfl,j,l⟩:WP (Z8 (dU L) (λd env=>do let env' <- gN 5 d env;jR env') 100000 0 (E (.ref Nn) .un)) (H []) λq h'=>∃N z nm g,q=(.nx,E N z)/\h'=H nm/\nm.map List.length=c.map List.length/\nm.flatten++g=ns:=by
  refine YW (J.map .ref) (λi v h'=>∃N z nm g,v=E N z/\h'=H nm/\nm.map List.length=(c.take i).map List.length/\nm.flatten++g=ns/\aP h N (g.map .int)/\i<=c.length) (by rw[Bb,X.1];lia) (λi v h' hi zz=>by obtain⟨_,_,nm,_,_,rfl,_⟩:=zz;exact XQ (t nm _ _ Q) i) ⟨.ref Nn,.un,[],ns,rfl,rfl,rfl,rfl,.inr ⟨Nn,rfl,j_⟩,A5 _⟩ (λi dd hi v h' zz=>?_) (λv h' zz=>?_)
  ·obtain⟨N,z,nm,g,rfl,rfl,j,l,I,m4⟩:=zz;have G:i<c.length:=by have:=(Ac.mp hi).1;rw[Bb,X.1]at this;exact this
   have lv:=X.2 i G;rw[Be]at hi;obtain⟨r,Z,rfl⟩:=Bk.mp hi;rw[Br,Z]at lv;have Y:h[r]?=some (.lst ((c.getD i []).map cI)):=lv.at'
   let F:=E N (.val (.ref r))
   have T:∀{x:Hs}{y:DV},Sub h x->QA QV (Qc (Qa 5) Qk) (E y (.val (.ref r))) x=some (.int (c.getD i []).length,x):=λ{x y} s=>by have:=ZT (f:=Qa 5) (env:=E y (.val (.ref r))) (n:=r) (ak rfl) (s _ _ Y);rw[Bb]at this;exact this
   let m:=(c.getD i []).length
   have U:=We (f:=Qa 3) (env:=F) (m:=m) (ak rfl) (I.sub (t nm)) (T (t nm));rw[<- List.map_take]at U;have O:=Q0 (env:=F) (Z2 (o:=Qa 4) (env:=F) (a:=h.length) (ak rfl) (R nm) U (R nm) (by have:=congrArg List.length j;simp only[Bb,Ax]at this;unfold dH;rw[Bb];lia))
   have p8:(H nm).set h.length (OV.lst (dH nm++[DV.lst ((g.take m).map .int)]))=H (nm++[g.take m]):=by show(h++[OV.lst (dH nm)]).set h.length _=_;simp[H,dH]
   rw[p8]at O;have u:=gn (f:=Qa 3) (env:=F) (m:=m) (ak rfl) (I.sub (t (nm++[g.take m]))) (T (t (nm++[g.take m])));rw[<- List.map_drop]at u;refine⟨_,_,(Qi O).trans (Qt u),.lst ((g.drop m).map .int),.val (.ref r),nm++[g.take m],g.drop m,rfl,rfl,?_,?_,.inl rfl,G⟩
   ·have P:c[i]?=some (c.getD i []):=by rw[Br,Ab G];rfl
    rw[zY _ _ P,List.map_append,j];have lr:ns.length=nm.flatten.length+g.length:=by rw[<- l,Ak]
    have lf:nm.flatten.length=tot (c.take i):=by rw[List.length_flatten,j];rfl
    have lt:tot (c.take (i+1))=tot (c.take i)+m:=by unfold tot;rw[zY _ _ P];simp;rfl
    have lu:=S8 c (i+1);congr 1;show[(g.take m).length]=[m];rw[Ax];congr 1;lia
   ·rw[List.flatten_append];simp[l]
  ·obtain⟨N,z,nm,g,rfl,rfl,j,l,I,m4⟩:=zz;rw[Bb,X.1,List.take_length]at j;exact⟨N,z,nm,g,rfl,rfl,j,l⟩
 have lf:nm.flatten.length=tot c:=by rw[List.length_flatten,j];rfl
 have:g=[]:=by have:=congrArg List.length l;rw[Ak]at this;exact List.length_eq_zero_iff.mp ⋯
 subst this;rw[Bc]at l;exact⟨z,N,nm,zA (JT (ak rfl) (t [] _ _ Q)) e,j,l⟩
def cM(kv:List (Int×Pp)):List (Key×DV):=kv.map λq=>((.inl q.1:Key),aG q.2)
theorem WD{kv:List (Int×Pp)}{n:Int}(h:n∉kv.map (·.1)):ZW (cM kv) (.inl n)=none:=by unfold ZW;rw[Option.map_eq_none_iff,List.find?_eq_none];intro x hx;obtain⟨m,a,rfl⟩:=By.mp hx;simp only[decide_eq_true_eq];exact λq=>h (By.mpr ⟨m,a,Sum.inl.inj q⟩)
theorem Tc{kv:List (Int×Pp)}{n:Int}(h:n∉kv.map (·.1))(p:Pp):Yu (cM kv) (.inl n) (aG p)=cM (kv++[(n,p)]):=by rw[vo (WD h)];simp[cM]
def Bd(p:Pp):Prop:=0<=p.lv/\p.lv<=50/\p.ks.length<=100/\p.ps.length<=100
abbrev PE(S C:DV)(L:Nat)(N:DV)(M:Nat)(z5:Sl)(D:Nat)(z7 z8 z9 aY aR cL c a:Sl):En:=[.val S,.val C,.val (.ref L),.val N,.val (.ref M),z5,.val (.ref D),z7,z8,z9,aY,aR,cL,c,a]
theorem Gi{nm:List (List Int)}{a:List (List E3)}(h:nm.map List.length=a.map List.length):nm.length=a.length/\∀i,(nm.getD i []).length=(a.getD i []).length:=by
 refine⟨by simpa using congrArg List.length h,λi=>?_⟩;have:=congrArg (λl=>l[i]?) h;simp only[Be]at this;rw[Br,Br];cases c:nm[i]?<;>cases d:a[i]?<;>rw[c,d]at this<;>simp at this ⊢
 exact this
theorem Xc{α:Type}{l:List α}{i:Nat}(d:α)(h:i<l.length):l[i]?=some (l.getD i d):=by rw[Br,Ab h];rfl
theorem rE{nm:List (List Int)}{M:Nat}{H:Hs}(c:H[M]?=some (.lst (dH nm))){f g g':aB}{env:En}{i k:Nat}(hf:f env H=some (.ref M,H))(d:g env H=some (.int i,H))(a:g' env H=some (.int k,H))(hi:i<nm.length)(e:k<(nm.getD i []).length):Qe au (Qe au f g) g' env H=some (.int ((nm.getD i []).getD k 0),H):=by
 refine Zl (i:=k) (ds:=(nm.getD i []).map .int) (Z6 (i:=i) hf c d ?_) a ?_
 ·unfold dH;rw[Be,Xc [] hi];rfl
 ·rw[Be,Xc 0 e];rfl
theorem De{S C N:DV}{L M:Nat}{z5:Sl}{h:Hs}{O:List Nat}{v:List (List E3)}{nm:List (List Int)}(gL:h[L]?=some (.lst (O.map .ref)))(X:bZ h O v)(gM:h[M]?=some (.lst (dH nm)))(hm:nm.map List.length=v.map List.length){i k:Nat}(hi:i<v.length)(nY:v.length<=50)(hk:k<(v.getD i []).length){kv:List (Int×Pp)}(kl:kv.length<=1000)(hn:(nm.getD i []).getD k 0∉kv.map (·.1))(z9 aY aR cL Q P:Sl) :
  ∃y9 ab ac ae af ag p,Bd p/\Y7 (PE S C L N M z5 h.length (.val (.int i)) (.val (.int k)) z9 aY aR cL Q P) (h++[.aJ (cM kv)])=some ((.nx,PE S C L N M z5 h.length (.val (.int i)) (.val (.int k)) y9 ab ac ae af ag),h++[.aJ (cM (kv++[((nm.getD i []).getD k 0,p)]))]):=by
 obtain⟨nl,mJ⟩:=Gi hm;have lv:=X.2 i hi;generalize er:O.getD i 0=r at lv;generalize ee:v.getD i []=G at lv hk;have gr:O[i]?=some r:=by rw[<- er];exact Xc 0 (by rw[X.1];exact hi)
 let H:Hs:=h++[.aJ (cM kv)]
 have J:Sub h H:=Sub.app _ _
 let E:Sl->Sl->Sl->Sl->Sl->Sl->En:=λa b c d e f=>PE S C L N M z5 h.length (.val (.int i)) (.val (.int k)) a b c d e f
 have R:∀a b c d e f,Qe au (Qa 2) (Qa 7) (E a b c d e f) H=some (.ref r,H):=λa b c d e f=>Z6 (i:=i) (n:=L) (ak rfl) (J _ _ gL) (ak rfl) (by rw[Be,gr];rfl);have gR:H[r]?=some (.lst (G.map cI)):=J _ _ lv.at'
 let e:=G.getD k e0
 have T:e∈G:=As (jc hk);have Y:Qe au (Qe au (Qa 2) (Qa 7)) (Qa 8) (E z9 aY aR cL Q P) H=some (cI e,H):=Z6 (i:=k) (R ..) gR (ak rfl) (by rw[Be,jc hk];rfl)
 let u:Sl:=.val (opt e.b)
 let m:Sl:=.val (.tup (e.ks.map .int))
 let l:Sl:=.val (.ref e.s)
 have s1:JX (Qe au (Qe au (Qa 2) (Qa 7)) (Qa 8)) (pL [12,13,14]) (E z9 aY aR cL Q P) H=some ((.nx,E z9 aY aR u m l),H):=by unfold JX;rw[Qf Y];rfl
 obtain⟨ps,pl,s2⟩:∃ps:List Int,ps.length<=100/\Qx 9 (dG (eB (Qe aX (Qa 7) (eC (.int 0)))) (QA yL (Qc (YQ) (Qk))) (QA yL (Qc (YR) (Qk)))) (E z9 aY aR u m l) H=some ((.nx,E (.val (.tup (ps.map .int))) aY aR u m l),H):=by
  have t:=Q2 (Y0 (f:=Qa 7) (g:=eC (.int 0)) (env:=E z9 aY aR u m l) (U:=H) (i:=(i:Int)) (j:=0) (ak rfl) rfl);have tO:Qa 14 (E z9 aY aR u m l) H=some (.ref e.s,H):=ak rfl;by_cases q:i=0
  ·rw[show((i:Int)==0)=true by simp[q]]at t;obtain⟨z,zl,zg⟩:=lv.r0 q e T;have rM:=J _ _ zg;have c2:YQ (E z9 aY aR u m l) H=some (.lst ((zV z).map .int),H):=by
    have:=(J8 (e:=Qe au (Qa 0) (eC (.int 1))) (idx:=[]) (env:=E z9 aY aR u m l) (h:=H) (λd=>match d with|.tup (_::x::_)=>x|_=>.non) (bJ z) (JT tO rM) (λi _=>XQ rM i) (λd hd=>by unfold bJ at hd;obtain⟨p,_,rfl⟩:=By.mp hd;exact JQ (i:=1) (ds:=[.int p.1,.int p.2]) (ak rfl) rfl rfl) (by rw[yY];lia)).1
    refine this.trans ?_;simp[bJ,zV,Function.comp_def]
   exact⟨zV z,by unfold zV;rw[Bb];exact zl,Qt ((ko t).trans (Jd (QR c2) rfl))⟩
  ·rw[show((i:Int)==0)=false by simp[q]]at t;obtain⟨kd,dl,dk,dg⟩:=lv.rk ⋯ e T;have tW:=J _ _ dg
   let g:Nat->Int:=λj=>(nm.getD (i-1) []).getD j 0
   have c3:YR (E z9 aY aR u m l) H=some (.lst ((kd.map g).map .int),H):=by
    have:=(J8 (e:=Qe au (Qe au (Qa 1) (Qe Jj (Qa 2) (eC (.int 1)))) (Qa 0)) (idx:=[4,7]) (env:=E z9 aY aR u m l) (h:=H) (λd=>match d with|.int j=>.int (g j.toNat)|_=>.non) (nD kd) (JT tO tW) (λi _=>XQ tW i) (λd hd=>by
     unfold nD at hd;obtain⟨j,hj,rfl⟩:=By.mp hd;have sb:Qe Jj (Qa 2) (eC (.int 1)) [Sl.val (.int (j:Int)),.val (.ref M),.val (.int (i:Int))] H=some (.int ((i-1:Nat):Int),H):=by
      have:=Z0 (f:=Qa 2) (g:=eC (.int 1)) (env:=[Sl.val (.int (j:Int)),.val (.ref M),.val (.int (i:Int))]) (U:=H) (i:=(i:Int)) (j:=1) (ak rfl) rfl
      rwa [show((i:Int)-1)=((i-1:Nat):Int)by lia]at this
     exact rE (J _ _ gM) (env:=[Sl.val (.int (j:Int)),.val (.ref M),.val (.int (i:Int))]) (ak rfl) sb (ak rfl) ⋯ (by rw[mJ];exact dk j hj)) (by rw[uR];lia)).1
    refine this.trans ?_;simp[nD,Function.comp_def]
   exact⟨kd.map g,by rw[Bb];exact dl,Qt ((kn t).trans (Jd (QR c3) rfl))⟩
 let I:Sl:=.val (.tup (ps.map .int))
 have DM:G.length=(nm.getD i []).length:=by rw[mJ,ee]
 obtain⟨y,sd,s5⟩:∃y sd:Option Int,aN (eB (Qe bW (Qe QP (Qa 8) (eC (.int 1))) (QA QV (Qc (Qe au (Qa 2) (Qa 7)) (Qk))))) (Qv (Qx 10 (Qe au (Qe au (Qe au (Qa 2) (Qa 7)) (Qe QP (Qa 8) (eC (.int 1)))) (eC (.int 0)))) (Qx 11 (Qe au (Qe au (Qa 4) (Qa 7)) (Qe QP (Qa 8) (eC (.int 1)))))) (Zn) (E I (.val .non) (.val .non) u m l) H=some ((.nx,E I (.val (opt y)) (.val (opt sd)) u m l),H):=by
  have k1:∀a b,Qe QP (Qa 8) (eC (.int 1)) (E I a b u m l) H=some (.int ((k+1:Nat):Int),H):=λa b=>gJ (i:=k) (j:=1) (ak rfl) rfl;have l0:=ZT (R I (.val .non) (.val .non) u m l) gR;rw[Bb]at l0;have t:=Q2 (jg (k1 (.val .non) (.val .non)) l0);by_cases q:k+1<G.length
  ·rw[show decide (((k+1:Nat):Int)<((G.length:Nat):Int))=true from Ca ⋯]at t;have x1:Qe au (Qe au (Qe au (Qa 2) (Qa 7)) (Qe QP (Qa 8) (eC (.int 1)))) (eC (.int 0)) (E I (.val .non) (.val .non) u m l) H=some (opt (G.getD (k+1) e0).b,H):=Zl (i:=0) (Z6 (i:=k+1) (R ..) gR (k1 ..) (by rw[Be,jc q];rfl)) rfl rfl;have x2:Qe au (Qe au (Qa 4) (Qa 7)) (Qe QP (Qa 8) (eC (.int 1))) (E I (.val (opt (G.getD (k+1) e0).b)) (.val .non) u m l) H=some (.int ((nm.getD i []).getD (k+1) 0),H):=rE (J _ _ gM) (ak rfl) (ak rfl) (k1 ..) ⋯ ⋯;exact⟨(G.getD (k+1) e0).b,some ((nm.getD i []).getD (k+1) 0),(Zf t).trans ((Qi (Qt x1)).trans (Qt x2))⟩
  ·rw[show decide (((k+1:Nat):Int)<((G.length:Nat):Int))=false from Cc ⋯]at t;exact⟨none,none,(QL t).trans QM⟩
 let p:Pp:=⟨i,e.ks,ps,y,sd⟩
 let F:=E I (.val (opt y)) (.val (opt sd)) u m l
 have tp:ZK (Qc (Qa 7) (Qc (Qa 13) (Qc (Qa 9) (Qc (Qa 10) (Qc (Qa 11) (Qk)))))) F H=some (aG p,H):=qg (Zt (ak rfl) (Zt (ak rfl) (Zt (ak rfl) (Zt (ak rfl) (QR (ak rfl)))))) (by show 5<=100000;decide);have s6:=yZ (e:=ZK (Qc (Qa 7) (Qc (Qa 13) (Qc (Qa 9) (Qc (Qa 10) (Qc (Qa 11) (Qk))))))) (o:=Qa 6) (j:=Qe au (Qe au (Qa 4) (Qa 7)) (Qa 8)) (env:=F) (a:=h.length) tp (ak rfl) (rE (J _ _ gM) (ak rfl) (ak rfl) (ak rfl) (i:=i) (k:=k) ⋯ ⋯) (QU _ _) (by unfold cM;rw[Bb];lia);have Z:H.set h.length (.aJ (Yu (cM kv) (.inl ((nm.getD i []).getD k 0)) (aG p)))=h++[.aJ (cM (kv++[((nm.getD i []).getD k 0,p)]))]:=by rw[Tc hn];show(h++[OV.aJ (cM kv)]).set h.length _=_;simp
 rw[Z]at s6;exact⟨I,.val (opt y),.val (opt sd),u,m,l,p,⟨by show(0:Int)<=(i:Int);lia,by show(i:Int)<=50;lia,lv.ks e T,pl⟩,(Qi s1).trans ((Qi s2).trans ((Qi (aL:=E I (.val .non) aR u m l) (hp1:=H) rfl).trans ((Qi (aL:=E I (.val .non) (.val .non) u m l) (hp1:=H) rfl).trans ((Qi s5).trans s6))))⟩
def Sub.toL{h h':Hs}(s:Sub h h'):oK h h':=λi ds e=>s i _ e
theorem Uf{α:Type}{l:List α}{k:Nat}(d:α)(h:k<l.length):l.take (k+1)=l.take k++[l.getD k d]:=by rw[List.take_succ,Xc d h];rfl
theorem Wg{nm:List (List Int)}(nd:nm.flatten.Nodup){i k:Nat}(hi:i<nm.length)(a:k<(nm.getD i []).length):(nm.getD i []).getD k 0∉(nm.take i).flatten++(nm.getD i []).take k:=by
 have c:nm.flatten=((nm.take i).flatten++(nm.getD i []).take k)++((nm.getD i []).drop k++(nm.drop (i+1)).flatten):=by
  have:=Uf (l:=nm) (k:=i) [] hi
  conv=>lhs;rw[<- Bg (i+1) nm,this]
  rw[List.flatten_append,List.flatten_append,Aw,Aw];congr 1;simp only[List.flatten_cons,List.flatten_nil,Bc];rw[<- Aw,Bg]
 rw[c]at nd;intro z;refine(List.nodup_append.mp nd).2.2 _ z _ (List.mem_append_left _ ?_) rfl;have:(nm.getD i []).drop k=(nm.getD i [])[k]::(nm.getD i []).drop (k+1):=A7 a;rw[this];refine A9.mpr (.inl ?_);rw[Br,Ab a];rfl
theorem WR{S C N:DV}{L M:Nat}{z5:Sl}{h:Hs}{F:List Nat}{o:List (List E3)}{nm:List (List Int)}(J:h[L]?=some (.lst (F.map .ref)))(X:bZ h F o)(Y:h[M]?=some (.lst (dH nm)))(O:nm.map List.length=o.map List.length)(nd:nm.flatten.Nodup)(fl:nm.flatten.length<=300){i:Nat}(hi:i<o.length)(nY:o.length<=50){kv:List (Int×Pp)}(hk:kv.map (·.1)=(nm.take i).flatten)(Z:∀q∈kv,Bd q.2)(z8 z9 aY aR cL x v:Sl) :
  ∃t r c f g j l a,jt (PE S C L N M z5 h.length (.val (.int i)) z8 z9 aY aR cL x v) (h++[.aJ (cM kv)])=some ((.nx,PE S C L N M z5 h.length (.val (.int i)) t r c f g j l),h++[.aJ (cM a)])/\a.map (·.1)=(nm.take (i+1)).flatten/\∀q∈a,Bd q.2:=by
 obtain⟨nl,mJ⟩:=Gi O;have lv:=X.2 i hi;have gr:F[i]?=some (F.getD i 0):=Xc 0 (by rw[X.1];exact hi);have Q:(nm.take (i+1)).flatten=(nm.take i).flatten++nm.getD i []:=by rw[Uf [] ⋯,List.flatten_append];simp
 have tl:(nm.take (i+1)).flatten.length<=300:=by
  have:nm.flatten.length=(nm.take (i+1)).flatten.length+(nm.drop (i+1)).flatten.length:=by rw[<- Ak,<- List.flatten_append,Bg]
  lia
 rw[Q,Ak]at tl;have R:(nm.getD i []).length=(o.getD i []).length:=mJ i
 let H:List (Int×Pp)->Hs:=λkv=>h++[.aJ (cM kv)]
 let E:Sl->Sl->Sl->Sl->Sl->Sl->Sl->En:=λz8 z9 aY aR cL x v=>PE S C L N M z5 h.length (.val (.int i)) z8 z9 aY aR cL x v
 obtain⟨q,h',e,t,r,c,f,g,j,l,a,rfl,rfl,u,y⟩:WP (Z8 (bK (QZ 0 (o.getD i []).length)) (λd env=>do let env' <- gN 8 d env;Y7 env') 100000 0 (E z8 z9 aY aR cL x v)) (H kv) λq h'=>∃t r c f g j l a,q=(.nx,E t r c f g j l)/\h'=H a/\a.map (·.1)=(nm.take i).flatten++(nm.getD i []).take (o.getD i []).length/\∀q∈a,Bd q.2:=by
  refine Zr _ (λk G h'=>∃t r c f g j l a,G=E t r c f g j l/\h'=H a/\a.map (·.1)=(nm.take i).flatten++(nm.getD i []).take k/\∀q∈a,Bd q.2) (by rw[Qz];lia) ⟨z8,z9,aY,aR,cL,x,v,kv,rfl,rfl,by rw[hk];simp,Z⟩ (λk dd hd G h' zz=>?_) (λG h' zz=>?_)
  ·obtain⟨t,r,c,f,g,j,l,a,rfl,rfl,u,y⟩:=zz;obtain⟨lk,rfl⟩:=Jv hd;have l1:=congrArg List.length u;rw[Bb,Ak,Ax]at l1;obtain⟨x9,ab,ac,ae,CZ,CW,p,T,U⟩:=De (S:=S) (C:=C) (N:=N) (z5:=z5) J X Y O hi nY lk (kv:=a) ⋯ (by rw[u];exact Wg nd ⋯ ⋯) r c f g j l;refine⟨_,_,U,_,_,_,_,_,_,_,a++[((nm.getD i []).getD k 0,p)],rfl,rfl,?_,λq hq=>?_⟩
   ·rw[List.map_append,u,Uf 0 ⋯,Aw];rfl
   ·rcases Ag.mp hq with z|z
    ·exact y q z
    ·rw[Ap.mp z];exact T
  ·obtain⟨t,r,c,f,g,j,l,a,rfl,rfl,u,y⟩:=zz;rw[Qz]at u;exact⟨t,r,c,f,g,j,l,a,rfl,rfl,u,y⟩
 rw[<- R,List.take_length,<- Q]at u;have I:Qe au (Qa 2) (Qa 7) (E z8 z9 aY aR cL x v) (H kv)=some (.ref (F.getD i 0),H kv):=Z6 (i:=i) (n:=L) (ak rfl) ((Sub.app _ _) _ _ J) (ak rfl) (by rw[Be,gr];rfl);have P:=ZT I ((Sub.app _ _) _ _ lv.at');rw[Bb]at P;exact⟨t,r,c,f,g,j,l,a,Q6 (ZS (Z3 (m:=(o.getD i []).length) (QR P) ⋯)) e,u,y⟩
theorem uW{S C N:DV}{L M:Nat}{z5:Sl}{h:Hs}{I:List Nat}{o:List (List E3)}{nm:List (List Int)}(z:h[L]?=some (.lst (I.map .ref)))(X:bZ h I o)(R:h[M]?=some (.lst (dH nm)))(F:nm.map List.length=o.map List.length)(nd:nm.flatten.Nodup)(fl:nm.flatten.length<=300)(nY:o.length<=50) :
  ∃u r t c g i j l a,ju (PE S C L N M z5 h.length .un .un .un .un .un .un .un .un) (h++[.aJ []])=some ((.nx,PE S C L N M z5 h.length u r t c g i j l),h++[.aJ (cM a)])/\a.map (·.1)=nm.flatten/\∀q∈a,Bd q.2:=by
 obtain⟨nl,mJ⟩:=Gi F
 let H:List (Int×Pp)->Hs:=λkv=>h++[.aJ (cM kv)]
 let E:Sl->Sl->Sl->Sl->Sl->Sl->Sl->Sl->En:=λz7 z8 z9 aY aR cL P O=>PE S C L N M z5 h.length z7 z8 z9 aY aR cL P O
 obtain⟨q,h',e,u,r,t,c,g,i,j,l,a,rfl,rfl,v,x⟩:WP (Z8 (bK (QZ 0 o.length)) (λd env=>do let env' <- gN 7 d env;jQ env') 100000 0 (E .un .un .un .un .un .un .un .un)) (H []) λq h'=>∃u r t c g i j l a,q=(.nx,E u r t c g i j l)/\h'=H a/\a.map (·.1)=(nm.take o.length).flatten/\∀q∈a,Bd q.2:=by
  refine Zr _ (λk y h'=>∃u r t c g i j l a,y=E u r t c g i j l/\h'=H a/\a.map (·.1)=(nm.take k).flatten/\∀q∈a,Bd q.2) (by rw[Qz];lia) ⟨.un,.un,.un,.un,.un,.un,.un,.un,[],rfl,rfl,by simp,λq T=>nomatch T⟩ (λk dd hd y h' zz=>?_) (λy h' zz=>?_)
  ·obtain⟨u,r,t,c,g,i,j,l,a,rfl,rfl,v,x⟩:=zz;obtain⟨Y,rfl⟩:=Jv hd;obtain⟨x8,x9,ab,ac,ae,CZ,CW,J,Q,Z,m4⟩:=WR (S:=S) (C:=C) (N:=N) (z5:=z5) z X R F nd fl Y nY v x r t c g i j l;exact⟨_,_,Q,_,_,_,_,_,_,_,_,J,rfl,rfl,Z,m4⟩
  ·obtain⟨u,r,t,c,g,i,j,l,a,rfl,rfl,v,x⟩:=zz;rw[Qz]at v;exact⟨u,r,t,c,g,i,j,l,a,rfl,rfl,v,x⟩
 rw[<- nl,List.take_length]at v;have G:=ZT (f:=Qa 2) (env:=E .un .un .un .un .un .un .un .un) (U:=H []) (n:=L) (ak rfl) ((Sub.app _ _) _ _ z);rw[Bb,X.1]at G;exact⟨u,r,t,c,g,i,j,l,a,Q6 (ZS (Z3 (m:=o.length) (QR G) ⋯)) e,v,x⟩
theorem S9(l:List (List E3)):oF ((l.map List.length).map λ(n:Nat)=>(n:Int))=(tot l:Nat):=by
  have p:∀(a:List Int)(j:Nat),preSum (λi=>a.getD i 0) j=(a.take j).sum:=λa j=>by
    induction j with
    |zero=>rfl
    |succ j c=>show preSum _ j+a.getD j 0=_;rw[c,List.take_succ,List.sum_append,Br];cases a[j]?<;>simp
  unfold oF;rw[p,List.take_length];unfold tot;generalize l.map List.length=ns;induction ns with
  |nil=>rfl
  |cons n ns c=>simp[c]
theorem U_{S C:DV}{L:Nat}{h:Hs}{j:List Nat}{a:List (List E3)}(t:h[L]?=some (.lst (j.map .ref)))(X:bZ h j a)(x:a.length<=50):QA oE (Qc (YS) (Qk)) (TE S C L) h=some (.int (tot a:Nat),h):=by
  let g:DV->DV:=λd=>match d with
    |.ref r=>match h[r]? with
      |some (.lst ds)=>.int ds.length
      |_=>.non
    |_=>.non
  have u:∀i,i<a.length->g (.ref (j.getD i 0))=.int (a.getD i []).length:=λi hi=>by have lv:=(X.2 i hi).at';show(match h[j.getD i 0]? with|some (.lst ds)=>DV.int ds.length|_=>.non)=_;rw[lv];show DV.int _=_;rw[Bb]
  have v:(j.map .ref).map g=((a.map List.length).map λ(n:Nat)=>(n:Int)).map .int:=by
    apply List.ext_getElem?;intro i;by_cases q:i<a.length
    . rw[Be,Be,Xc 0 (by rw[X.1];exact q),Be,Be,Be,Xc [] q]
      exact congrArg some (u i q)
    . rw[Bu (by simp[X.1];lia),Bu (by simp;lia)]
  have c:=(J8 (e:=QA QV (Qc (Qa 0) (Qk))) (idx:=[]) (env:=TE S C L) (h:=h) g (j.map .ref) (JT (f:=Qa 2) (ak rfl) t) (λi _=>XQ t i) (λd hd=>by
    obtain⟨i,hi⟩:=List.getElem?_of_mem hd;have m:i<a.length:=by have:=(Ac.mp hi).1;rw[Bb,X.1]at this;exact this
    rw[Be,Xc 0 (by rw[X.1];exact m)]at hi;cases hi;rw[u i m];have:=ZT (f:=Qa 0) (env:=[Sl.val (.ref (j.getD i 0))]) (U:=h) (ak rfl) (X.2 i m).at';rw[Bb]at this;exact this) (by rw[Bb,X.1];lia)).1
  rw[v]at c;refine Jd (QR c) ?_;rw[<- S9];generalize ((a.map List.length).map λ(n:Nat)=>(n:Int))=o;have l:d9 (.lst (o.map .int)) h=some (o.map .int,h):=rfl;show((d9 (.lst (o.map .int))) >>= _) h=_;rw[Qf l];simp only[K4];rfl
theorem V_{f:aB}{env:En}{h:Hs}{n:Nat}{a:List (Key×DV)}(hf:f env h=some (.ref n,h))(c:h[n]?=some (.aJ a)):QA QV (Qc f Qk) env h=some (.int a.length,h):=by refine Jd (QR hf) ?_;show(Zx n >>= _) h=_;rw[Qf (Q8 c)];rfl
theorem S_{h:Hs}{M:Nat}{nm:List (List Int)}{a:List (List Int)}{x:Int}(c:h[M]?=some (.lst (dH nm)))(e:nm=a++[[x]]){f:aB}{env:En}(hf:f env h=some (.ref M,h)):Qe au (Qe au f (ZV (eC (.int 1)))) (eC (.int 0)) env h=some (.int x,h):=by have g:Qe au f (ZV (eC (.int 1))) env h=some (.lst [.int x],h):=Qs (x:=.ref M) (y:=.int (-1)) hf rfl (xK (ds:=dH a) (d:=.lst [.int x]) (by rw[c,e];unfold dH;rw[List.map_append];rfl));exact Zl (i:=0) g rfl rfl
theorem Rt{ns:List Int}(hn:ns.length<=63)(w:Hs):∃h M Pg P a root,XB [.lst (ns.map .int)] w=some (.tup [.ref M,.ref Pg],h)/\h[M]?=some (.lst (dH (a++[[root]])))/\h[Pg]?=some (.lst (P.map aG))/\In P root/\P.length<=280/\∀p∈P,Bd p:=by
 let S:DV:=.lst (ns.map .int)
 let J:=(ns.drop 2).take 100
 let C:DV:=.lst (J.map .int)
 have cl:J.length<=63:=by show((ns.drop 2).take 100).length<=63;rw[Ax,Ba];lia
 obtain⟨c0,ac⟩:=yO ns 0 hn
 let E0:En:=[.val S,.un,.un,.un,.un,.un,.un,.un,.un,.un,.un,.un,.un,.un,.un]
 let X:En:=[.val S,.val C,.un,.un,.un,.un,.un,.un,.un,.un,.un,.un,.un,.un,.un]
 have s1:Qx 1 (bL (Qa 0) (QX (eC (.int 2))) (QX (eC (.int 102)))) E0 w=some ((.nx,X),w):=by have:=Qt (i:=1) (v_ (f:=Qa 0) (g:=eC (.int 2)) (h:=eC (.int 102)) (env:=E0) (U:=w) (ds:=ns.map .int) (a:=2) (b:=102) (ak rfl) rfl rfl (by decide));rw[<- List.map_drop,<- List.map_take]at this;exact this
 obtain⟨ks,kl,ek⟩:=Tf J ⋯ w;obtain⟨o,a,es,el,sl,ga,wa,R0,hd,e1,e2⟩:=BA J ks ⋯ (w:=w++[.lst (ks.map .int)]) (K:=w.length) (QU _ _)
 let L:=o.length
 let Q:Hs:=o++[.lst [.ref a]]
 have s2:Qx 2 (Zu (Qc (Qw 2 JI (Qc (Qa 1) (Qc (Qw 1 XA (Qc (Qa 1) (Qk))) (Qk)))) (Qk))) X w=some ((.nx,TE S C L),Q):=by refine Qt (d:=.ref o.length) ?_;have cc:Qc (Qw 2 JI (Qc (Qa 1) (Qc (Qw 1 XA (Qc (Qa 1) (Qk))) (Qk)))) Qk X w=some ([.ref a],o):=QR (QI (Zt (ak rfl) (QR (QI (QR (ak rfl)) rfl ek))) rfl el);unfold Zu;rw[Qf cc];rfl
 have sb:Sub o (blk L Q):=λi x e=>by unfold blk;rw[Aj (by have:=(Ac.mp e).1;show o.length≠i;lia)];exact(Sub.app _ _) _ _ e
 have X0:bZ (blk L Q) ([]++[a]) ([]++[es]):=⟨rfl,λi hi=>by
  have:i=0:=by simp at hi;exact hi
  subst this;refine⟨sb _ _ ga,hd,e1,λe he=>(R0 e he).1,λ_ e he=>?_,λq=>absurd q (Bt _)⟩;obtain⟨_,z,z1,z2⟩:=R0 e he;exact⟨z,z1,sb _ _ z2⟩⟩
 obtain⟨dF,ab,rs,l,s3,gL,X1,o1,t1,lq⟩:=Mm hn (C:=C) (L:=L) 100000 [] es [] a Q ⋯ (QU _ _) X0 (by simp;lia) (by simp[tot];lia) (by simp);generalize O:dF++[ab]=c at X1 t1;have Y:=X1.mono (wF L l);have Rc:c.length<=8:=by rw[<- O];simp;lia
 have v:=U_ (S:=S) (C:=C) gL Y ⋯;obtain⟨nn,T,en⟩:=uS c0 (m:=tot c) ⋯ l;have nl:nn.length=tot c:=by rw[T.length_eq];simp
 let r:Hs:=l++[.lst (nn.map .int)]
 let E4:En:=[.val S,.val C,.val (.ref L),.val (.ref l.length),.un,.un,.un,.un,.un,.un,.un,.un,.un,.un,.un]
 have s4:Qx 3 (Qw 2 JZ (Qc (Qw 2 Zj (Qc (Qa 0) (Qc (eC (.int 0)) (Qk)))) (Qc (QA oE (Qc (YS) (Qk))) (Qk)))) (TE S C L) l=some ((.nx,E4),r):=Qt (QI (Zy (QI (Zy (ak rfl) rfl) rfl (ZE ac l)) v) rfl en);have R:Sub l r:=Sub.app _ _;obtain⟨z5,N,nm,s6,m1,E⟩:=Wj (S:=S) (C:=C) (h:=r) (Nn:=l.length) (R _ _ gL) (Y.mono R.toL) (QU _ _) nl ⋯
 let n:Hs:=r++[.lst (dH nm)]
 have rZ:Sub r n:=Sub.app _ _
 let M:=r.length
 have gM:n[M]?=some (.lst (dH nm)):=QU _ _;have nd:nm.flatten.Nodup:=by rw[E];refine T.nodup_iff.mpr ?_;rw[List.nodup_iff_pairwise_ne,List.pairwise_map];exact List.nodup_range.imp λq z=>q ⋯
 obtain⟨y7,y8,y9,ag,av,aw,ax,ay,kv,s8,k1,kb⟩:=uW (S:=S) (C:=C) (N:=N) (z5:=z5) (h:=n) (rZ _ _ (R _ _ gL)) (Y.mono (R.trans rZ).toL) gM m1 nd (by rw[E,nl];lia) ⋯;rw[E]at k1
 let j:Hs:=n++[.aJ (cM kv)]
 have Fe:kv.length=tot c:=by rw[<- nl,<- k1,Bb]
 have ae:((cM kv).map (·.1)).Nodup:=by
  have:(cM kv).map (·.1)=(kv.map (·.1)).map Sum.inl:=by unfold cM;rw[List.map_map,List.map_map];rfl
  rw[this,k1];rw[List.nodup_iff_pairwise_ne,List.pairwise_map];rw[E]at nd;exact nd.imp λq z=>q (Sum.inl.inj z)
 obtain⟨F,u⟩:∃F:Nat->Pp,∀k,k<tot c->((k:Int),F k)∈kv:=by
  have:∀k:Nat,∃p:Pp,k<tot c->((k:Int),p)∈kv:=λk=>by
   by_cases q:k<tot c
   ·have:(k:Int)∈kv.map (·.1):=by rw[k1];exact T.mem_iff.mpr (By.mpr ⟨k,Bm.mpr q,rfl⟩)
    obtain⟨x,hx,e⟩:=By.mp this;exact⟨x.2,λ_=>by rw[<- e];exact hx⟩
   ·exact⟨p0,λz=>absurd z q⟩
  exact⟨λk=>Classical.choose (this k),λk q=>Classical.choose_spec (this k) q⟩
 let P:=(List.range (tot c)).map F
 let G:=PE S C L N M z5 n.length y7 y8 y9 ag av aw ax ay
 have gD:j[n.length]?=some (.aJ (cM kv)):=QU _ _;have c1:jr G j=some (.ref j.length,j++[.lst (P.map aG)]):=by
  have l0:=V_ (f:=Qa 6) (env:=G) (h:=j) (ak rfl) gD;rw[show(cM kv).length=tot c by unfold cM;rw[Bb,Fe]]at l0;have:=(J8 (e:=Qe au (Qa 1) (Qa 0)) (idx:=[6]) (env:=G) (h:=j) (λd=>match d with|.int k=>aG (F k.toNat)|_=>.non) (QZ 0 (tot c)) (ZS (Z3 (m:=tot c) (QR l0) ⋯)) (λi hi=>Ys _ i hi _) (λd hd=>by rw[xT]at hd;obtain⟨k,t,rfl⟩:=By.mp hd;rw[Bm]at t;have:(((.inl (k:Int):Key)),aG (F k))∈cM kv:=By.mpr ⟨_,u k t,rfl⟩;exact Qs (x:=.ref n.length) (y:=.int (k:Int)) (ak rfl) (ak rfl) (K8 gD (vU ae this))) (by rw[Qz];lia)).2
  rw[xT,List.map_map]at this;refine Eq.trans this ?_;rw[List.map_map];rfl
 have Ek:Sub n j:=Sub.app _ _;have Ej:Sub j (j++[.lst (P.map aG)]):=Sub.app _ _;obtain⟨Z,root,er⟩:∃Z root,nm=Z++[[root]]:=by
  obtain⟨q1,q2⟩:=Gi m1;have ne:nm≠[]:=λz=>by rw[z,<- O]at q1;simp at q1
  obtain⟨I,x',ea⟩:∃I x',nm=I++[x']:=⟨nm.dropLast,nm.getLast ne,(List.dropLast_concat_getLast ne).symm⟩;have al:I.length=dF.length:=by have z:=q1;rw[ea,<- O,Ak,Ak]at z;exact Nat.add_right_cancel z
  have hl:=q2 dF.length;rw[<- O,JF,o1,ea,<- al,JF]at hl;obtain⟨x,hx⟩:=List.length_eq_one_iff.mp hl;exact⟨I,x,by rw[ea,hx]⟩
 have af:root∈nn:=by rw[<- E,er,List.flatten_append];simp
 have Pl:P.length=tot c:=by simp[P]
 refine⟨j++[.lst (P.map aG)],M,j.length,P,Z,root,QB (env:=G) ((Qi s1).trans ((Qi s2).trans ((Qi s3).trans ((Qi s4).trans ((Qi (Qt (Z4 _ _))).trans ((Qi s6).trans ((Qi (Qt (yU _ _))).trans ((Qi s8).trans (QC (qg (Zt (ak rfl) (QR c1)) (by show 2<=100000;decide))))))))))),?_,QU _ _,?_,⋯,λp U=>?_⟩
 ·rw[<- er];exact Ej _ _ (Ek _ _ gM)
 ·obtain⟨k,t,rfl⟩:=By.mp (T.mem_iff.mp af);rw[Bm]at t;exact⟨⋯,⋯⟩
 ·obtain⟨k,t,rfl⟩:=By.mp U;exact kb _ (u k (Bm.mp t))
def vt(a:List (List Int)):List DV:=a.map λr=>.lst (r.map .int)
theorem j6(r:List Int):∀d∈r.map DV.int,Pl 0 d:=λd hd=>by obtain⟨x,_,rfl⟩:=By.mp hd;exact zc 0 x
theorem U2{U:Hs}(k:Nat):∀(bs:List Nat)(a:List (List Int)),bs.length=a.length->(∀(i b:Nat)(r:List Int),bs[i]?=some b->a[i]?=some r->U[b]?=some (.lst (r.map .int)))->(bs.map DV.ref).mapM (aV (k+3) U)=some (vt a)
  | [],[],_,_=>rfl
  | [],_::_,c,_=>by cases c
  |_::_,[],c,_=>by cases c
  |b::bs,r::a,c,h=>by have e:=h 0 b r rfl rfl;have e0:aV (k+3) U (.ref b)=some (.lst (r.map .int)):=yP (n:=0) (k+2) e (j6 r) ⋯;have j:=U2 k bs a (by simpa using c) (λi d l f g=>h (i+1) d l f g);rw[Az,List.mapM_cons,e0];show((bs.map DV.ref).mapM (aV (k+3) U)).bind _=_;rw[j];rfl
theorem MQ{U:Hs}{L:Nat}{bs:List Nat}{a:List (List Int)}(k:Nat)(R:aK U bs a)(c:U[L]?=some (.lst (bs.map .ref))):aV (k+4) U (.ref L)=some (.lst (vt a)):=by show(match U[L]? with|some (.lst ds)=>(ds.mapM (aV (k+3) U)).map DV.lst|_=>none)=_;rw[c];show((bs.map DV.ref).mapM (aV (k+3) U)).map DV.lst=_;rw[U2 k bs a R.1 R.2];rfl
theorem vQ{U:Hs}{a b c:Nat}{bs:List Nat}{e:List (List Int)}{fs:List DV}{us:List Int}(R:aK U bs e)(i:U[a]?=some (.lst (bs.map .ref)))(j:U[b]?=some (.lst fs))(hf:∀d∈fs,Pl 1 d)(l:U[c]?=some (.lst (us.map .int))):aV 40 U (.lst [.ref a,.ref b,.ref c])=some (.lst [.lst (vt e),.lst fs,.lst (us.map .int)]):=by show(([DV.ref a,.ref b,.ref c]).mapM (aV 39 U)).map DV.lst=_;have f:=MQ 35 R i;have g:=yP (n:=1) 38 j hf (by decide);have h:=yP (n:=0) 38 l (j6 us) (by decide);rw[List.mapM_cons,List.mapM_cons,List.mapM_cons,List.mapM_nil];rw[f,g,h];rfl
theorem MI{x y z:DV}{n:Nat}{U:Hs}(hz:Pl n z)(c:n<40)(d:aV 40 U x=some z)(e:aV 40 U y=some z):bC x y U=some (.bl false,U):=by
 have s:=U4 hz c U;have a:=XD hz c U;unfold Xs at s;rw[Qf (Jn a),Qf (Jn a)]at s;have:Xs x y U=some (true,U):=by unfold Xs;rw[Qf (Jn d),Qf (Jn e)];exact s
 unfold bC;rw[Qf this];rfl
theorem W7(a:List (List Int)){fs:List DV}(hf:∀d∈fs,Pl 1 d)(us:List Int):Pl 3 (.lst [.lst (vt a),.lst fs,.lst (us.map .int)]):=λd hd=>by
 rcases A9.mp hd with rfl|hd
 ·intro d hd;unfold vt at hd;obtain⟨r,_,rfl⟩:=By.mp hd;exact j6 r
 ·rcases A9.mp hd with rfl|hd
  ·exact hf
  ·rw[Ap.mp hd];exact λd hd=>(j6 us d hd).mono (by decide)
theorem MW{o:aB}{env:En}{U:Hs}{a:Nat}{ds:List DV}(d:o env U=some (.ref a,U))(c:U[a]?=some (.lst ds)):Zk "list" Gf o Qk env U=some (.non,U.set a (.lst [])):=by unfold Zk;rw[Qf d,Qf (Kd c),Qf (show Qk env U=some ([],U)from rfl)];show(Zx a >>= _) U=_;rw[Qf (Q8 c)];rfl
theorem WA{f g:aB}{env:En}{U:Hs}{m:Nat}{ds:List DV}(hf:f env U=some (.lst ds,U))(a:g env U=some (.int m,U)):bL f Zb (QX g) env U=some (.lst (ds.take m),U):=by unfold bL;rw[Qf hf,Qf (show Zb env U=some (none,U)from rfl),Qf (show QX g env U=some (some (m:Int),U)by unfold QX;rw[Qf a];rfl)];show some (DV.lst (D.YC ds none (some (m:Int))),U)=_;rw[jF]
abbrev LE(S:DV)(root:Int)(z2 z3 z4 z5 z6 z7:Sl)(M Pg:Nat)(aY aR cL c a:Sl):En:=[.val S,.val (.int root),z2,z3,z4,z5,z6,z7,.val (.ref M),.val (.ref Pg),aY,aR,cL,c,a]
def CP(j:Nat)(p:Pp):Prop:=0<=p.lv/\p.lv<=50/\p.ks.length<=100+j/\p.ps.length<=100+j
theorem gq{ns:List Int}(T:ns.length<=63){root:Int}{M Pg:Nat}{h:Hs}{P:List Pp}(R:h[Pg]?=some (.lst (P.map aG)))(p1:1<=P.length)(p2:P.length<=280)(hb:∀p∈P,Bd p) :
  ∃z2 aY aR l,gE (LE (.lst (ns.map .int)) root .un .un .un .un .un .un M Pg .un .un .un .un .un) h=some ((.nx,LE (.lst (ns.map .int)) root z2 .un .un .un .un .un M Pg aY aR .un .un .un),h.set Pg (.lst (l.map aG)))/\l.length=P.length/\Ok l:=by
 obtain⟨J,L⟩:=yO ns 2 T;obtain⟨Q,O⟩:=yO ns 3 T
 let S:DV:=.lst (ns.map .int)
 let E:Sl->Sl->Sl->En:=λa b c=>LE S root a .un .un .un .un .un M Pg b c .un .un .un
 let H:List Pp->Hs:=λP=>h.set Pg (.lst (P.map aG))
 have lP:Pg<h.length:=(Ac.mp R).1;have C:∀l,(H l)[Pg]?=some (.lst (l.map aG)):=λl=>Aq lP;have H0:H P=h:=Ua R;have r4:=JS (ZH J 0) 4 (by decide);obtain⟨t,et⟩:∃t:Nat,1+ZH J 0 % 4=t:=⟨_,(Int.toNat_of_nonneg ⋯).symm⟩;obtain⟨q,h',e,z2,aY,aR,l,rfl,rfl,pl,u⟩:WP (Z8 (bK (QZ 0 t)) (λd env=>do let env' <- gN 2 d env;kQ env') 100000 0 (E .un .un .un)) (H P) λq h'=>∃z2 aY aR l,q=(.nx,E z2 aY aR)/\h'=H l/\l.length=P.length/\∀p∈l,CP t p:=by
  refine Zr _ (λi v h'=>∃z2 aY aR l,v=E z2 aY aR/\h'=H l/\l.length=P.length/\∀p∈l,CP i p) (by rw[Qz];lia) ⟨.un,.un,.un,P,rfl,rfl,rfl,hb⟩ (λi dd hi v h' zz=>?_) (λv h' zz=>?_)
  ·obtain⟨z2,aY,aR,l,rfl,rfl,pl,u⟩:=zz;obtain⟨li,rfl⟩:=Jv hi
   let W:=H l
   let x:Nat->Int:=λj=>ZH Q (3 * (i:Int)+(j:Int))
   let X:DV:=.lst [.int (x 0),.int (x 1),.int (x 2)]
   have s1:Qx 10 (gz) (E (.val (.int i)) aY aR) W=some ((.nx,E (.val (.int i)) (.val X) aR),W):=by
    refine Qt ?_;have:=(J8 (e:=Qw 2 QH (Qc (Qw 2 Zj (Qc (Qa 1) (Qc (eC (.int 3)) (Qk)))) (Qc (Qe QP (Qe qY (eC (.int 3)) (Qa 2)) (Qa 0)) (Qk)))) (idx:=[0,2]) (env:=E (.val (.int i)) aY aR) (h:=W) (λd=>match d with|.int j=>.int (x j.toNat)|_=>.non) (QZ 0 3) (ZS (f:=Yp (Qc (eC (.int 3)) (Qk))) (Z3 (m:=3) (QR rfl) (by decide))) (λi hi=>Ys _ i hi _) (λd hd=>by
     rw[xT]at hd;obtain⟨j,hj,rfl⟩:=By.mp hd;rw[Bm]at hj
     let V:En:=[.val (.int (j:Int)),.val S,.val (.int (i:Int))]
     have ar:Qe QP (Qe qY (eC (.int 3)) (Qa 2)) (Qa 0) V W=some (.int (3 * (i:Int)+(j:Int)),W):=Q7 (Qs (x:=.int 3) (y:=.int (i:Int)) rfl (ak rfl) (ZE (qZ _ _ (by decide) (by decide)) _)) (ak rfl);exact QI (env:=V) (Zy (QI (Zy (ak rfl) rfl) rfl (ZE O W)) ar) rfl (ZE (Xa Q (3 * (i:Int)+(j:Int)) ⋯ ⋯) _)) (by rw[Qz];decide)).1
    refine Eq.trans this ?_;rw[xT];rfl
   have Y:=ZT (f:=Qa 9) (env:=E (.val (.int i)) (.val X) aR) (U:=W) (n:=Pg) (ak rfl) (C l);rw[Bb]at Y;have rr:=JS (x 2) (l.length:Int) ⋯;obtain⟨nu,v⟩:∃nu:Nat,x 2 % (l.length:Int)=nu:=⟨_,(Int.toNat_of_nonneg rr.1).symm⟩;have r:nu<l.length:=⋯
   have s2:Qx 11 (Qe Za (Qe au (Qa 10) (eC (.int 2))) (QA QV (Qc (Qa 9) (Qk)))) (E (.val (.int i)) (.val X) aR) W=some ((.nx,E (.val (.int i)) (.val X) (.val (.int nu))),W):=by have:=Qt (i:=11) (Qs (x:=.int (x 2)) (y:=.int (l.length:Int)) (Zl (f:=Qa 10) (g:=eC (.int 2)) (env:=E (.val (.int i)) (.val X) aR) (U:=W) (i:=2) (ds:=[.int (x 0),.int (x 1),.int (x 2)]) (ak rfl) rfl rfl) Y (ZE (Ji _ _ ⋯) W));rw[v]at this;exact this
   let F:=E (.val (.int i)) (.val X) (.val (.int nu))
   let p:=l[nu]
   have pm:p∈l:=Bi r;obtain⟨b1,b2,b3,b4⟩:=u p pm;obtain⟨p',k1,k2,k3,k4,ep⟩:=Y_ p ⋯ ⋯ b1 b2 (nu:Int) (m:=(l.length:Int)) ⋯ (x 0) (x 1) (x 2) W;have Z:=ZT (f:=Qa 9) (env:=F) (U:=W) (n:=Pg) (ak rfl) (C l);rw[Bb]at Z;have pg:Qe au (Qa 9) (Qa 11) F W=some (aG p,W):=Z6 (i:=nu) (n:=Pg) (ak rfl) (C l) (ak rfl) (by rw[Be,Ab r];rfl);have s3:=RQ (e:=Qw 4 Jm (Qc (Qe au (Qa 9) (Qa 11)) (Qc (Qa 11) (Qc (QA QV (Qc (Qa 9) (Qk))) (Qc (Qa 10) (Qk)))))) (o:=Qa 9) (j:=Qa 11) (env:=F) (a:=Pg) (n:=nu) (QI (Zt pg (Zt (ak rfl) (Zt Z (QR (ak rfl))))) rfl ep) (ak rfl) (ak rfl) (C l) (by rw[Bb];exact r);refine⟨_,_,(Qi s1).trans ((Qi s2).trans s3),_,_,_,l.set nu p',rfl,?_,by rw[List.length_set];exact pl,λq hq=>?_⟩
   ·show(List.set (List.set _ _ _) _ _)=_;rw[List.set_set,<- List.map_set]
   ·rcases List.mem_or_eq_of_mem_set hq with z|z
    ·obtain⟨G,I,a3,a4⟩:=u q z;exact⟨G,I,⋯,⋯⟩
    ·rw[z];exact⟨k3,k4,⋯,⋯⟩
  ·obtain⟨z2,aY,aR,l,rfl,rfl,pl,u⟩:=zz;rw[Qz]at u;exact⟨z2,aY,aR,l,rfl,rfl,pl,u⟩
 rw[H0]at e;refine⟨z2,aY,aR,l,Q6 (ZS (Z3 (m:=t) (QR ?_) ⋯)) e,pl,⟨⋯,λp U=>?_⟩⟩
 ·rw[<- et];exact Q7 rfl (Jg 4 (by decide) (QI (Zy (QI (Zy (ak rfl) rfl) rfl (ZE L h)) rfl) rfl (ZE (Xa J 0 (by decide) (by decide)) _)))
 ·obtain⟨G,I,a3,a4⟩:=u p U;exact⟨G,I,⋯,⋯⟩
theorem Tq{f:aB}{env:En}{U hp1:Hs}{b:Bool}(h:f env U=some (.bl b,hp1)):lY "bool" f env U=some (.bl true,hp1):=by unfold lY;rw[Qf h];rfl
theorem R_{S:DV}{root:Int}{z2 aY aR:Sl}{n L u C M Pg:Nat}{W:Hs}{P:List Pp}{bs:List Nat}(x:cF W n P root)(ok:Ok P)(O:In P root)(gL:W[L]?=some (.lst (bs.map .ref)))(R:aK W bs (ZJ P root))(g5:W[u]?=some (.lst (qO P (ZJ P root) (ZJ P root).length)))(g6:W[C]?=some (.lst ((xm P (ZJ P root) ((ZJ P root).length-1)).map .int))){h:Hs}(s:Sub W h)(z7 cL G j:Sl) :
  ∃ae af ag h',Gb (LE S root z2 (.val (.ref n)) (.val (.ref L)) (.val (.ref u)) (.val (.ref C)) z7 M Pg aY aR cL G j) h=some ((.nx,LE S root z2 (.val (.ref n)) (.val (.ref L)) (.val (.ref u)) (.val (.ref C)) z7 M Pg aY aR ae af ag),h')/\Sub W h':=by
 let E:Sl->Sl->Sl->En:=λa b c=>LE S root z2 (.val (.ref n)) (.val (.ref L)) (.val (.ref u)) (.val (.ref C)) z7 M Pg aY aR a b c
 have hf:=Cq P (ZJ P root) (ZJ P root).length;generalize eF:qO P (ZJ P root) (ZJ P root).length=fs at hf g5;generalize eU:xm P (ZJ P root) ((ZJ P root).length-1)=us at g6;obtain⟨h1,b1,e1,I,q1,R1⟩:=HZ (x.sub s) ok O;obtain⟨h2,X,e2,r,l2,Q⟩:=U7 (x.sub (s.trans I)) ok O;obtain⟨h3,Y,e3,t,l3,U⟩:=WI (x.sub (s.trans (I.trans r))) ok O;obtain⟨f,e4,l⟩:=y_ (x.sub (s.trans (I.trans (r.trans t)))) ok O;rw[eF]at Q e4;rw[eU]at U;have v:Sub W f:=s.trans (I.trans (r.trans (t.trans l)))
 let T:DV:=.lst [.ref h.length,.ref X,.ref Y]
 have ab:Qx 12 (Zz (Qc (Qw 1 qA (Qc (Qa 3) (Qk))) (Qc (Qw 1 Yy (Qc (Qa 3) (Qk))) (Qc (Qw 1 qB (Qc (Qa 3) (Qk))) (Qk))))) (E cL G j) h=some ((.nx,E (.val T) G j),h3):=by refine Qt (d:=T) ?_;have cc:Qc (Qw 1 qA (Qc (Qa 3) (Qk))) (Qc (Qw 1 Yy (Qc (Qa 3) (Qk))) (Qc (Qw 1 qB (Qc (Qa 3) (Qk))) (Qk))) (E cL G j) h=some ([.ref h.length,.ref X,.ref Y],h3):=Zt (QI (QR (ak rfl)) rfl e1) (Zt (QI (QR (ak rfl)) rfl e2) (QR (QI (QR (ak rfl)) rfl e3)));unfold Zz;rw[Qf cc];rfl
 have ac:Qx 13 (Qw 1 YT (Qc (Qa 3) (Qk))) (E (.val T) G j) h3=some ((.nx,E (.val T) (.val (.bl fs.isEmpty)) j),f):=Qt (QI (QR (ak rfl)) rfl e4)
 let F:=E (.val T) (.val (.bl fs.isEmpty)) j
 have d1:=vQ (R1.keep (r.trans (t.trans l))) ((r.trans (t.trans l)) _ _ q1) ((t.trans l) _ _ Q) hf (l _ _ U);have d2:=vQ (R.keep v) (v _ _ gL) (v _ _ g5) hf (v _ _ g6);have c1:eB (Qe bC (Qa 12) (Zz (Qc (Qa 4) (Qc (Qa 5) (Qc (Qa 6) (Qk)))))) F f=some (false,f):=by refine Q2 (Qs (x:=T) (y:=.lst [.ref L,.ref u,.ref C]) (ak rfl) ?_ (MI (W7 _ hf us) (by decide) d1 d2));unfold Zz;rw[Qf (Zt (ak rfl) (Zt (ak rfl) (QR (ak rfl))))];rfl
 have c2:XF (eB (lY "bool" (Qa 13))) F f=some (false,f):=X6 (Q2 (Tq (b:=fs.isEmpty) (ak rfl)));have c3:eB (Qe bC (Qa 13) (Qe aX (Qa 5) (Zz (Qk)))) F f=some (false,f):=Q2 (Qs (x:=.bl fs.isEmpty) (y:=.bl fs.isEmpty) (ak rfl) (Qs (x:=.ref u) (y:=.lst []) (ak rfl) rfl (BL (v _ _ g5) hf (by decide))) (Lf _ _));have c4:cG (eB (Qe bC (Qa 12) (Zz (Qc (Qa 4) (Qc (Qa 5) (Qc (Qa 6) (Qk))))))) (cG (XF (eB (lY "bool" (Qa 13)))) (eB (Qe bC (Qa 13) (Qe aX (Qa 5) (Zz (Qk)))))) F f=some (false,f):=kT c1 (kT c2 c3)
 let g:List Nat:=[h.length,X,Y]
 have la:∀a∈g,W.length<=a:=λa m=>by have q1:=s.len;have Q:=I.len;have U:=r.len;simp only[g,A9,List.mem_nil_iff,or_false]at m;rcases m with rfl|rfl|rfl<;>lia
 obtain⟨q,h',e,z,rfl,s',_⟩:WP (Z8 (bK (g.map .ref)) (λd env=>do let env' <- gN 14 d env;kP env') 100000 0 F) f λq h'=>∃z,q=(.nx,E (.val T) (.val (.bl fs.isEmpty)) z)/\Sub W h'/\∀a∈g,∃ds,h'[a]?=some (.lst ds):=by
  refine Zr _ (λi Z h'=>∃z,Z=E (.val T) (.val (.bl fs.isEmpty)) z/\Sub W h'/\∀a∈g,∃ds,h'[a]?=some (.lst ds)) (by show 3<100000;lia) ⟨j,rfl,v,λa m=>?_⟩ (λi dd hi Z h' zz=>?_) (λZ h' zz=>?_)
  ·simp only[g,A9,List.mem_nil_iff,or_false]at m;rcases m with rfl|rfl|rfl
   ·exact⟨_,(r.trans (t.trans l)) _ _ q1⟩
   ·exact⟨_,(t.trans l) _ _ Q⟩
   ·exact⟨_,l _ _ U⟩
  ·obtain⟨z,rfl,s',J⟩:=zz;rw[Be]at hi;obtain⟨a,m,rfl⟩:=Bk.mp hi;have am:a∈g:=As m;obtain⟨ds,gd⟩:=J a am;have al:a<h'.length:=(Ac.mp gd).1;refine⟨(.nx,E (.val T) (.val (.bl fs.isEmpty)) (.val (.ref a))),_,Q0 (MW (o:=Qa 14) (env:=E (.val T) (.val (.bl fs.isEmpty)) (.val (.ref a))) (ak rfl) gd),_,rfl,s'.set (la a am) _,λb hb=>?_⟩;by_cases qb:a=b
   ·subst qb;exact⟨[],Aq al⟩
   ·rw[Aj qb];exact J b hb
  ·obtain⟨z,rfl,s',J⟩:=zz;exact⟨z,rfl,s',J⟩
 exact⟨_,_,z,h',(Qi ab).trans ((Qi ac).trans ((Qi ((QL c4).trans QM)).trans (Q6 (zn (ds:=g.map .ref) (ak rfl)) e))),s'⟩
theorem Wy(ns:List Int)(hn:ns.length<=63):∃U,GF [.lst (ns.map .int)] []=some (.bl true,U):=by
 let S:DV:=.lst (ns.map .int)
 let ms:=ns.take 2++ns.drop 4
 have ml:ms.length<=63:=by show(ns.take 2++ns.drop 4).length<=63;rw[Ak,Ax,Ba];lia
 obtain⟨Q,M,Pg,P0,a,root,e1,gM,gP,o,p2,hb⟩:=Rt ml []
 let E0:En:=[.val S,.un,.un,.un,.un,.un,.un,.un,.un,.un,.un,.un,.un,.un,.un]
 let E1:En:=[.val S,.un,.un,.un,.un,.un,.un,.un,.val (.ref M),.val (.ref Pg),.un,.un,.un,.un,.un]
 have s1:JX (Qw 1 XB (Qc (Qe QP (bL (Qa 0) (Zb) (QX (eC (.int 2)))) (bL (Qa 0) (QX (eC (.int 4))) (Zb))) (Qk))) (gT [8,9]) E0 []=some ((.nx,E1),Q):=by
  have sc:Qe QP (bL (Qa 0) (Zb) (QX (eC (.int 2)))) (bL (Qa 0) (QX (eC (.int 4))) (Zb)) E0 []=some (.lst (ms.map .int),[]):=by have:=gY (WA (f:=Qa 0) (g:=eC (.int 2)) (env:=E0) (U:=[]) (m:=2) (ds:=ns.map .int) (ak rfl) rfl) (Ru (f:=Qa 0) (g:=eC (.int 4)) (env:=E0) (U:=[]) (a:=4) (ds:=ns.map .int) (ak rfl) rfl) (by rw[Ax,Ba,Bb];lia);rw[<- List.map_take,<- List.map_drop,<- List.map_append]at this;exact this
  have cc:Qw 1 XB (Qc (Qe QP (bL (Qa 0) (Zb) (QX (eC (.int 2)))) (bL (Qa 0) (QX (eC (.int 4))) (Zb))) (Qk)) E0 []=some (.tup [.ref M,.ref Pg],Q):=QI (QR sc) rfl e1;unfold JX;rw[Qf cc];rfl
 let E2:En:=LE S root .un .un .un .un .un .un M Pg .un .un .un .un .un
 have s2:Qx 1 (Qe au (Qe au (Qa 8) (ZV (eC (.int 1)))) (eC (.int 0))) E1 Q=some ((.nx,E2),Q):=Qt (S_ gM rfl (ak rfl));obtain⟨z2,aY,aR,P,s3,pl,ok⟩:=gq hn (root:=root) (M:=M) gP (by have:=o.1;have:=o.2;lia) p2 hb;have T:In P root:=⟨o.1,by rw[pl];exact o.2⟩
 let h3:Hs:=Q.set Pg (.lst (P.map aG))
 have g3:h3[Pg]?=some (.lst (P.map aG)):=Aq (Ac.mp gP).1
 let G:Sl->Sl->Sl->Sl->Sl->Sl->Sl->Sl->En:=λz3 z4 z5 z6 z7 cL cJ cB=>LE S root z2 z3 z4 z5 z6 z7 M Pg aY aR cL cJ cB
 obtain⟨E,n,e4,nJ,x4⟩:=WC g3 ok.len T;obtain⟨F,bs,e5,nH,X,v⟩:=Wv (w:=E) (d:=.ref Pg) (.inr ⟨Pg,rfl,nJ _ _ g3⟩) ok T;have J:=Gq ok T;have e6:=uM (w:=F) (d:=.ref Pg) (.inr ⟨Pg,rfl,nH _ _ (nJ _ _ g3)⟩) ok v X J
 let R:Hs:=F++[.lst (qO P (ZJ P root) (ZJ P root).length)]
 have nG:Sub F R:=Sub.app _ _;obtain⟨Y,e7,rR,g7⟩:=Wa (w:=R) (d:=.ref Pg) (.inr ⟨Pg,rfl,nG _ _ (nH _ _ (nJ _ _ g3))⟩) ok (v.keep nG) (nG _ _ X) J
 let j:Sl:=.val (.ref n)
 let l:Sl:=.val (.ref E.length)
 let u:Sl:=.val (.ref F.length)
 let I:Sl:=.val (.ref R.length)
 have t4:Qx 3 (Qw 2 X4 (Qc (Qa 9) (Qc (Qa 1) (Qk)))) (G .un .un .un .un .un .un .un .un) h3=some ((.nx,G j .un .un .un .un .un .un .un),E):=Qt (QI (Zy (ak rfl) (ak rfl)) rfl e4);have t5:Qx 4 (Qw 2 YU (Qc (Qa 9) (Qc (Qa 1) (Qk)))) (G j .un .un .un .un .un .un .un) E=some ((.nx,G j l .un .un .un .un .un .un),F):=Qt (QI (Zy (ak rfl) (ak rfl)) rfl e5);have t6:Qx 5 (Qw 2 Xr (Qc (Qa 9) (Qc (Qa 4) (Qk)))) (G j l .un .un .un .un .un .un) F=some ((.nx,G j l u .un .un .un .un .un),R):=Qt (QI (Zy (ak rfl) (ak rfl)) rfl e6);have t7:Qx 6 (Qw 2 JJ (Qc (Qa 9) (Qc (Qa 4) (Qk)))) (G j l u .un .un .un .un .un) R=some ((.nx,G j l u I .un .un .un .un),Y):=Qt (QI (Zy (ak rfl) (ak rfl)) rfl e7);have C:=nG.trans rR;have x7:=x4.sub (nH.trans C);obtain⟨q,Z,e8,t,c,e,h,rfl,nF⟩:WP (Z8 (bK (QZ 0 2)) (λd env=>do let env' <- gN 7 d env;Gb env') 100000 0 (G j l u I .un .un .un .un)) Y λq h'=>∃t c e h,q=(.nx,G j l u I t c e h)/\Sub Y h':=by
  refine Zr _ (λi en h'=>∃t c e h,en=G j l u I t c e h/\Sub Y h') (by decide) ⟨.un,.un,.un,.un,rfl,Sub.refl _⟩ (λi dd hi en h' zz=>?_) (λen h' zz=>?_)
  ·obtain⟨t,c,e,h,rfl,s'⟩:=zz;obtain⟨li,rfl⟩:=Jv hi;obtain⟨ae,af,ag,ac,e',ab⟩:=R_ (S:=S) (z2:=z2) (aY:=aY) (aR:=aR) (M:=M) (Pg:=Pg) x7 ok T (C _ _ X) (v.keep C) (rR _ _ (QU _ _)) g7 s' (.val (.int i)) c e h;exact⟨_,_,e',_,_,_,_,rfl,ab⟩
  ·obtain⟨t,c,e,h,rfl,s'⟩:=zz;exact⟨t,c,e,h,rfl,s'⟩
 have FQ:Z[E.length]?=some (.lst (bs.map .ref)):=nF _ _ (C _ _ X);have R8:=v.keep (C.trans nF);have O:bs≠[]:=λz=>J.ne (List.length_eq_zero_iff.mp (by rw[<- v.1,z];rfl));obtain⟨L,b,eb⟩:∃L b,bs=L++[b]:=⟨bs.dropLast,bs.getLast O,(List.dropLast_concat_getLast O).symm⟩;obtain⟨r0,r,er⟩:∃r0 r,ZJ P root=r0++[r]:=⟨(ZJ P root).dropLast,(ZJ P root).getLast J.ne,(List.dropLast_concat_getLast J.ne).symm⟩;have l0:L.length=r0.length:=by have:=v.1;rw[eb,er,Ak,Ak]at this;exact Nat.add_right_cancel this
 have gb:Z[b]?=some (.lst ((jV P root).map .int)):=by have:=R8.2 L.length b r (by rw[eb];simp) (by rw[er,l0];simp);unfold jV;rw[er];simpa using this
 have il:Qe au (Qa 4) (ZV (eC (.int 1))) (G j l u I t c e h) Z=some (.ref b,Z):=Qs (x:=.ref E.length) (y:=.int (-1)) (ak rfl) rfl (xK (ds:=L.map .ref) (d:=.ref b) (by rw[FQ,eb,List.map_append];rfl));obtain⟨h9,e9⟩:=HR (x7.sub nF) ok T (pa:=Pg) (b:=b) (nF _ _ (C _ _ (nH _ _ (nJ _ _ g3)))) gb;exact⟨h9,QB (env:=G j l u I t c e h) ((Qi s1).trans ((Qi s2).trans ((Qi s3).trans ((Qi t4).trans ((Qi t5).trans ((Qi t6).trans ((Qi t7).trans ((Qi (Q6 (ZS (Z3 (m:=2) (QR rfl) (by decide))) e8)).trans (QC (QI (UQ (ak rfl) (ak rfl) il) rfl e9))))))))))⟩
def UP{K:Aa}{d a c:Addr}{e f g:Option Addr}{l m n:Nat}{o q r:Array (Option Value)}{t:Tok}(h:K.lookup d=some ⟨.type "tuple", e,.seq #[.int 0 t,.ref a,.ref c,.none,.none] l,o⟩)(j:K.lookup c=some ⟨.type "tuple", g,.seq #[] n,r⟩)(i:K.lookup a=some ⟨.type "tuple", f,.seq #[] m,q⟩):aZ K (.tup [.int 0,.tup [],.tup [],.non,.non]) (.ref d):=(uK (xs:=[.int 0,.ref a,.ref c,.non,.non]) h (Nat.le_of_ble_eq_true rfl) (.cons ⟨_,rfl⟩ (.cons rfl (.cons rfl (.cons rfl (.cons rfl .nil))))) (qU OJ (qU (uK (xs:=[]) i (Nat.le_of_ble_eq_true rfl) .nil Ga) (qU (uK (xs:=[]) j (Nat.le_of_ble_eq_true rfl) .nil Ga) (qU wX (qU wX Ga))))))
theorem OD{P:Program}{w:World}{K:Aa}{h:Heap}{mg:Cg}{fa f:Addr}{j kV g i a ct:Value}{m e:Option Addr}{o:Array (Option Value)}(X:K.In h)(G:h.Ns mainGlobals mg)(d:mg "law" = some (.ref fa))(Z:Al K mg)(n:PySem.W.nsIn K mainGlobals "law" = some (some (.ref f)))(l:K.lookup f=some ⟨j,m,.func (PySem.W.fnOf "law" "law" (Ju yt) (ZM yt) (Qr yt) .none kV g i e a ct),o⟩)(c:PySem.W.codeIn K a "law" = true)(k:PySem.W.keepIn K (.ref f)=true):∃fd:FuncData,(∀(s:Shared) (v:Value),BindsTo s fd ⟨[v],[]⟩ [("script", v)])/\∀O8:Heap,K.In O8->O8.Ns mainGlobals mg->qC P w K mg O8 CX0 6 fa fd ["script"] (fG K 1 GF):=by cases d.symm.trans (PySem.W.mg_of X G n);exact⟨PySem.W.fnOf "law" "law" (Ju yt) (ZM yt) (Qr yt) .none kV g i e a ct,λs v=>.of_eq rfl,λO8 _ _=>law_fn Z (KS l c k)⟩
theorem Qh6{l:PySem.W.OpenLaw}{q:Program}{c:List Str}{i:(Cg)->Heap->Prop}{g:World->Heap->Prop}{d:DefRec}{K:Params->Aa}(o:l.most=some 63)(e:d.params.defaults=[])
  (hY:∀(w:World)(h:Heap),g w h->(K w.params).In h)
  (F:∀(w:World)(mg:Cg)(fa:Addr)(h:Heap),(K w.params).In h->h.Ns mainGlobals mg->mg d.name=some (.ref fa) ->
   ∃fd:FuncData,(∀(s:Shared) (u:Value),BindsTo s fd ⟨[u],[]⟩ [("script", u)])/\∀O8:Heap,(K w.params).In O8->O8.Ns mainGlobals mg->qC l.prog w (K w.params) mg O8 CX0 6 fa fd ["script"] (fG (K w.params) 1 GF)) :
  PySem.W.WalkO q c i g l.row.toRowW d [] (λf vs=>PySem.call f vs) :=
 L2.Qah (n:=63) (k:=6) (x := "script") (CX:=λ_=>CX0) (sp:=λw=>fG (K w.params) 1 GF) o (by decide) e ⟨rfl,by decide,by decide⟩ hY F (λw _ a ns m _ j=>Oz (Wy ns m) j) λ_ _ _ _ _ z=>z
end K52
namespace PySem.W.Fast
def tw7940775579979860044:=0
def tw15208988319778474046:=0
def tw8773613814187611376:=0
def tw4902244598669324995:=0
def tw7956144407715988941:=0
def tw12454856249461321562:=0
def tw5278588060409338210:=0
def tw6999493372964763167:=0
def tw4924520973384518538:=0
def tw5714146916952702130:=0
def tw8721976386035902467:=0
def tw13827555142904519743:=0
def tw15239408525861515903:=0
def tw14454307406011233331:=0
def tw12373274699420313150:=0
def tw9260379121911319325:=0
def tw5676633507458142838:=0
def tw2976385171295825200:=0
def tw6095802516273521681:=0
def tw6563077465266129559:=0
def tw10940513029445541403:=0
def tw9578147332367649787:=0
def tw1778960617524945368:=0
def tw697311902285292752:=0
def tw15785794260211351090:=0
def tw12893468529492021170:=0
def tw2444017045850702080:=0
def tw2268146541378225739:=0
def tw3899721953621810588:=0
def tw5430848153666219833:=0
def tw4140877706239195237:=0
def tw14611833635453902027:=0
def tw11091227992971931387:=0
def tw15957208407414168825:=0
def tw10087321589571393689:=0
def tw7475672943697713806:=0
def tw11032645426244636444:=0
def tw4914761925827755962:=0
def tw14811008401220494214:=0
def tw16690638949576571888:=0
def tw17265603906088269574:=0
def tw18003520012027207681:=0
def tw73774319367933239:=0
def tw8427716242789980936:=0
def tw11306732345691009235:=0
def tw640890626122487682:=0
def tw14417804631251410576:=0
def tw480981196164908558:=0
def tw12843318623127041124:=0
def tw6476084071975469260:=0
def tw479994447236398712:=0
def tw1380335499656850848:=0
def tw15296359514056299158:=0
def tw3378079782037607962:=0
def tw7737690895102892376:=0
def tw9046251507364103175:=0
def tw12904743009374989842:=0
def tw7444455213735557259:=0
def tw7479976449269229552:=0
def tw5430572682558725523:=0
def tw4536710614587826322:=0
def tw3425557238029197733:=0
def tw10491788095752982430:=0
def tw7681876965590592757:=0
def tw17494301309714889827:=0
def tw7406803587218273255:=0
def tw8614289209367798444:=0
def tw7371611879483339027:=0
def tw11857026593278249550:=0
def tw730168821831325362:=0
def tw4643655468972825555:=0
def tw3904646437827720600:=0
def tw9805726382630761326:=0
def tw7407850499658267038:=0
def tw4061140841755521485:=0
def tw15362767546856776160:=0
def tw14717117893211734358:=0
def tw12549305395649470307:=0
def tw11969426849342662071:=0
def tw2954398338770854054:=0
def tw12967648906761527225:=0
def tw9104653904855114016:=0
def tw11301639848892048064:=0
def tw16119185293647154785:=0
def tw14016123153026042756:=0
def tw18173269182279829164:=0
def tw6482105571517977269:=0
def tw8435540363706291998:=0
def tw11188751401840944257:=0
def tw3788547379985695708:=0
def tw393661607932870410:=0
def tw7159381259654676405:=0
def tw5579712386159467451:=0
def tw11069147911252950609:=0
def tw3847330931064210239:=0
def tw13667266514077955797:=0
def tw14478409997449733065:=0
def tw13424352121529509088:=0
def tw7407414679271947617:=0
def tw16507681948362733793:=0
def tw8412614036441260791:=0
def tw1619528508777640544:=0
def tw8513368445577043135:=0
def tw575794063753736571:=0
def tw3684857789280772420:=0
def tw15198446125849652931:=0
def tw16256340181243705761:=0
def tw14690338748059553971:=0
def tw2179729551438087397:=0
def tw12605461878247868670:=0
def tw1361351920893243898:=0
def tw13251840238389538988:=0
def tw16038138652280280435:=0
def tw10636399500073460031:=0
def tw16552313506663271674:=0
def tw17366040259164661675:=0
def tw10956420836103729204:=0
def tw12225962053690267116:=0
def tw14220679529444075545:=0
def tw13967563648799822443:=0
def tw2998228868337241884:=0
def tw10092659334360598852:=0
def tw14199914003805338798:=0
def tw12811816237525863795:=0
def tw3528819912303543334:=0
def tw14267502971695860511:=0
def tw14184472214764890122:=0
def tw3297240553323193278:=0
def tw6980533721764106509:=0
def tw14329747461185398405:=0
def tw16147192860659188769:=0
def tw7503199051130117081:=0
def tw1356048136811270018:=0
def tw16834134311497982288:=0
def tw2468010412175512863:=0
def tw7107656398765022107:=0
def tw10313375701306549208:=0
def tw8322527411314301119:=0
def tw1898469004839649635:=0
def tw8441117219042238963:=0
def tw9142828419527262154:=0
def tw13869575988916131970:=0
end PySem.W.Fast
open PySem PySem.W PyProof.Rows
open D in
set_option maxRecDepth 100000 in
set_option maxHeartbeats 0 in
theorem PySem.Challenge.cw_sidelink_k52_faults_of_spoilt_trees_holds : PySem.Challenge.rw_sidelink_k52_faults_of_spoilt_trees.Holds := by
 w_on;o_law;k_head;(case hw=>w_witness2)
 k_fill
 refine K52.Qh6 (l:=PySem.Challenge.rw_sidelink_k52_faults_of_spoilt_trees) rfl rfl (fun w h Y=>PySem.W.kIn_of Y) ?F
 case F =>
  intro w mg fa h KX G hmg;have c0:UC _ "Shelf" := uc KX (by k_is) (by k_is) (by k_is) (by k_is) (by k_is);exact K52.OD KX G hmg (by constructor;all_goals first|exact PySem.W.mg_none_of KX G (by k_is)|exact uf KX G (by k_is) (by k_is) (by k_is) (by k_is)|exact ug KX G (by k_is)|exact ut KX G (by k_is) (K52.UP (by k_is) (by k_is) (by k_is))|exact uk KX c0 (by k_is) (by k_is)|exact um KX c0 (by k_is) (by k_is) (by k_is) (by k_is) (by k_is) (by k_is)|exact ui KX G (by k_is) (by k_is) (by k_is) (by k_is) (by k_is) (by k_is) (by k_is) (by k_is)) (by k_is) (by k_is) (by k_is) (by k_is)

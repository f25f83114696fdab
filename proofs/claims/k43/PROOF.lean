import PyProof.Rows.All
import Wide.All
import OpenK.AllK
import Wide.FinOn
import Lean
import PyProof.EqAt
import PyProof.EqKinds
import PyProof.TupleCall
import PySem.Challenge.RW_sidelink_k43_first_that_does_not_fit
local macro_rules|`(⋯)=>`(by lia)
local macro_rules|`(command|$d:definition)=>`(command|noncomputable $d:definition)
local macro_rules|`(command|$d:abbrev)=>`(command|noncomputable $d:abbrev)
noncomputable section
section
open PySem PySem.Spec PyProof.Rows
abbrev Aa:=PySem.W.Frag
def Ab:=@List.getElem?_eq_getElem
def Ac:=@List.getElem?_eq_some_iff
def Ad:=@Heap.get?_push_of_some
def Ae:=@Nat.le_refl
def Af:=@Array.toList_append
def Ag:=@List.getElem?_append_left
def Ah:=@List.mem_append
def Ai:=@List.mem_append_right
def Aj:=@Option.some.inj
def Ak:=@List.getElem?_set_ne
def Am:=@List.length_append
def An:=@List.size_toArray
def Ao:=@Heap.lt_size
def Ap:=@List.getElem?_append_right
def Aq:=@List.mem_singleton
def Ar:=@List.getElem?_set_self
def As:=@Heap.get?_push_size
def At:=@List.mem_of_getElem?
def Au:=@List.mem_cons_of_mem
def Av:=@Nat.lt_of_lt_of_le
def Aw:=@Bool.false_eq_true
def Ax:=@List.mem_append_left
def Ay:=@List.append_assoc
def Az:=@List.length_take
def A0:=@List.length_cons
def A3:=@List.map_cons
def A4:=@Bool.and_eq_true
def A5:=@Nat.zero_le
def A6:=@Nat.ne_of_lt
def A7:=@Nat.lt_or_ge
def A8:=@List.drop_eq_getElem_cons
def A9:=@Nat.le_trans
def Ba:=@List.mem_cons
def Bb:=@List.mem_filter
def Bc:=@Int.le_refl
def Be:=@List.length_drop
def Bf:=@List.length_map
def Bg:=@List.append_nil
def Bh:=@List.getElem?_map
def Bi:=@List.pairwise_append
def Bj:=@List.mem_of_mem_take
def Bk:=@Bool.false_ne_true
def Bm:=@List.take_append_drop
def Bo:=@Int.toNat_natCast
def Bp:=@List.find?_cons
def Bq:=@List.getElem_mem
def Br:=@List.length_filter_le
def Bt:=@Array.toList_reverse
def Bu:=@List.not_mem_nil
def Bv:=@Option.map_eq_some_iff
def Bw:=@List.take_of_length_le
def Bx:=@Array.length_toList
def By:=@Int.le_of_lt
def Bz:=@List.prefix_rfl
def B0:=@List.drop_of_length_le
def B7:=@Heap.size_push
def B8:=@List.getD_eq_getElem?_getD
def B9:=@List.pairwise_iff_getElem
def Ca:=@Bool.not_eq_true'
def Cb:=@List.any_cons
def Cc:=@List.drop_drop
def Cd:=@List.filter_cons_of_pos
def Ce:=@List.nodup_cons
def Cf:=@Nat.lt_irrefl
def Cg:=@List.getElem?_eq_none
def Ch:=@Int.le_trans
def Ci:=@Array.toList_push
def Cj:=@Nat.lt_succ_self
def Ck:=@List.drop_length
def Cm:=@List.all_cons
def Cn:=@Nat.ne_of_gt
def Co:=@List.mem_map
def Cp:=@List.mem_cons_self
def Cq:=@List.filter_cons_of_neg
def Cr:=@wpAny_bind
def Cs:=@if_neg
def Ct:=@if_pos
def Cu:=@wpAny_pure
def Cv:=@wpS_bind
def Cw:=@wpS_pure
def Cy:=@decide_eq_true
def Cz:=@of_decide_eq_true
def C0:=@decide_eq_false
def C1:=@pure_bind
abbrev C2:=Value->Shared->Prop
abbrev C4:=List (Addr×Obj)
abbrev C5:=Str->Option Value
abbrev C7:=List (Int×Int)
abbrev C8:=Addr->Prop
abbrev C9:=List Addr
end
-- CHANGE: your row's module here,as the last of these rows
set_option Elab.async false
set_option linter.all false
set_option maxRecDepth 100000
namespace L2
open PySem PySem.Spec PyProof.Rows
abbrev Key:=Sum Int Str
def qC:Key->Value->Bool
 |.inl k,v=>Value.isInt k v
 |.inr x,v=>Value.isStrOf x v
def Lq(w:World):Key->Int
 |.inl k=>hashInt k
 |.inr x=>hashStr w x
theorem Zn:∀{k:Key}{v:Value},qC k v=true->(∃i t,k=Sum.inl i/\v=Value.int i t)∨(∃x t,k=Sum.inr x/\v=Value.str x t)
  |.inl i,v,h=>by obtain⟨t,e⟩:=Value.isInt_shape (k:=i) (v:=v) h;exact .inl ⟨i,t,rfl,e⟩
  |.inr x,v,h=>by obtain⟨t,e⟩:=Value.isStrOf_shape (x:=x) (v:=v) h;exact .inr ⟨x,t,rfl,e⟩
theorem vG(i:Int)(t:Tok):qC (.inl i) (.int i t)=true:=by simp[qC,Value.isInt]
theorem vH(x:Str)(t:Tok):qC (.inr x) (.str x t)=true:=by simp[qC,Value.isStrOf]
theorem Nx(a b:Int):decide ((Sum.inl a:Key)=Sum.inl b)=(a==b):=by
 by_cases e:a=b
 ·subst e;simp
 ·have h:¬ (Sum.inl a:Key)=Sum.inl b:=λq=>e (Sum.inl.inj q);rw[C0 h];exact(beq_eq_false_iff_ne.mpr e).symm
theorem Nt(a b:Str):decide ((Sum.inr a:Key)=Sum.inr b)=decide (a=b):=by
 by_cases e:a=b
 ·subst e;simp
 ·have h:¬ (Sum.inr a:Key)=Sum.inr b:=λq=>e (Sum.inr.inj q);rw[C0 h,C0 e]
def Nv(a:Int)(b:Str):decide ((Sum.inl a:Key)=Sum.inr b)=false:=C0 (λq=>nomatch q)
def Nu(a:Str)(b:Int):decide ((Sum.inr a:Key)=Sum.inl b)=false:=C0 (λq=>nomatch q)
def Zc(prog:Program)(w:World):PySem.KeyKind prog w Key where
 is:=qC
 hash:=Lq w
 inj:=λv a b l f=>by
  rcases Zn l with ⟨i,t,rfl,rfl⟩|⟨x,t,rfl,rfl⟩
  ·rcases Zn f with ⟨j,u,rfl,e⟩|⟨y,u,rfl,e⟩
   ·injection e with c _;rw[c]
   ·exact nomatch e
  ·rcases Zn f with ⟨j,u,rfl,e⟩|⟨y,u,rfl,e⟩
   ·exact nomatch e
   ·injection e with c _;rw[c]
 byValue:=λk v h=>by rcases Zn h with ⟨i,t,rfl,rfl⟩|⟨x,t,rfl,rfl⟩<;>rfl
 pyHash:=λd h=>by
  rcases Zn d with ⟨i,t,rfl,rfl⟩|⟨x,t,rfl,rfl⟩
  ·exact wpAny_pyHash_int h
  ·exact wpAny_pyHash_str h
 eqBool:=λm d h=>by
  rcases Zn m with ⟨i,t,rfl,rfl⟩|⟨x,t,rfl,rfl⟩
  ·rcases Zn d with ⟨j,u,rfl,rfl⟩|⟨y,u,rfl,rfl⟩
   ·rw[Nx]at h;exact wpAny_eqBool_int h
   ·rw[Nv]at h;exact SeqAt.EqAt.int_str i t y u _ _ _ _ h
  ·rcases Zn d with ⟨j,u,rfl,rfl⟩|⟨y,u,rfl,rfl⟩
   ·rw[Nu]at h;exact SeqAt.EqAt.str_int x t j u _ _ _ _ h
   ·rw[Nt]at h;exact wpAny_eqBool_str h
 «strs»:=λk x t v h=>by
  rcases Zn h with ⟨i,u,rfl,e⟩|⟨y,u,rfl,e⟩
  ·exact nomatch e
  ·injection e with c _;subst c;cases v<;>rfl
def UA(prog:Program)(w:World)(i:Int)(t:Tok):(Zc prog w).is (.inl i) (.int i t)=true:=vG i t
def UB(prog:Program)(w:World)(x:Str)(t:Tok):(Zc prog w).is (.inr x) (.str x t)=true:=vH x t
inductive V where
 |non|bl (b:Bool)|int (i:Int)|str (x:Str)|byt (b:Array UInt8)|flt (b:UInt64)|ref (a:Addr)|ty (n:String)
 deriving DecidableEq
def RelV:V->Value->Prop
 |.non,u=>u=Value.none
 |.bl b,u=>u=Value.bool b
 |.int i,u=>∃t,u=Value.int i t
 |.str x,u=>∃t,u=Value.str x t
 |.byt b,u=>∃t,u=Value.bytes b t
 |.flt b,u=>∃t,u=Value.float b t
 |.ref a,u=>u=Value.ref a
 |.ty n,u=>u=Value.type n
abbrev Vals:List V->List Value->Prop:=Paired RelV
def Vals.length{xs:List V}{us:List Value}(r:Vals xs us):xs.length=us.length:=Paired.length r
theorem Vals.get:∀{xs:List V}{us:List Value}{i:Nat}{x:V},Vals xs us->xs[i]?=some x->∃u,us[i]?=some u/\RelV x u
  |_,_,_,_,.nil,e=>by simp at e
  |_,_,0,_,.cons r _,e=>by simp at e;subst e;exact⟨_,rfl,r⟩
  |_,_,i+1,x,.cons _ t,e=>by obtain⟨u,a,b⟩:=Vals.get (i:=i) (x:=x) t (by simpa using e);exact⟨u,by simpa using a,b⟩
theorem Vals.set{x:V}{u:Value}(r:RelV x u):∀{xs:List V}{us:List Value}(i:Nat),Vals xs us->Vals (xs.set i x) (us.set i u)
 |_,_,_,.nil=>.nil
 |_,_,0,.cons _ t=>.cons r t
 |_,_,i+1,.cons q t=>.cons q (Vals.set r i t)
theorem Vals.append:∀{xs ys:List V}{us a:List Value},Vals xs us->Vals ys a->Vals (xs++ys) (us++a)
 |_,_,_,_,.nil,s=>s
 |_,_,_,_,.cons r t,s=>.cons r (Vals.append t s)
theorem Vals.take:∀{xs:List V}{us:List Value}(n:Nat),Vals xs us->Vals (xs.take n) (us.take n)
 |_,_,0,_=>.nil
 |_,_,_+1,.nil=>.nil
 |_,_,n+1,.cons r t=>.cons r (Vals.take n t)
theorem Vals.drop:∀{xs:List V}{us:List Value}(n:Nat),Vals xs us->Vals (xs.drop n) (us.drop n)
 |_,_,0,r=>r
 |_,_,_+1,.nil=>.nil
 |_,_,n+1,.cons _ t=>Vals.drop n t
def RelO:Option V->Option Value->Prop
 |some v,some u=>RelV v u
 |none,none=>True
 |_,_=>False
def KV{κ:Type}:List (κ×V)->List (κ×Value)->Prop:=Paired λ(p:κ×V)(q:κ×Value)=>p.1=q.1/\RelV p.2 q.2
def kV:Key->V
 |.inl i=>.int i
 |.inr x=>.str x
inductive HO where
  |lst (xs:List V)
  |tup (xs:List V)
  |dK (kvs:List (Key×V))|dT (kvs:List (List Key×V))
  |set (S:Int->Bool) (n:Nat)
  |ins (C dx:Addr) (fs:List (Str×V))
  |own (x:Addr)
  |xd (fs:List (Str×V))
  |met (f x:Addr)
  |rng (lo hi:Int)
  |frz (o:Obj) (u:HO)
  |tbl (ps:Array Value)
  |ext (φ:Heap->Prop)
abbrev Hp:=Addr->Option HO
def upd(H:Hp)(a:Addr)(o:HO):Hp:=λb=>if b=a then some o else H b
theorem Q5{H:Hp}{a:Addr}{o:HO}:upd H a o a=some o:=by unfold upd;rw[Ct rfl]
theorem Q4{H:Hp}{a b:Addr}{o:HO}(h:b≠a):upd H a o b=H b:=by unfold upd;rw[Cs h]
theorem Ik{H:Hp}{a b:Addr}{o u:HO}(h:H a=some o)(h':H b=some u)(d:o≠u):a≠b:=by intro e;subst e;rw[h]at h';exact d (Aj h')
theorem ZP{H:Hp}{a b:Addr}{o:HO}(h:H a=some o)(h':H b=none):a≠b:=by intro e;subst e;rw[h]at h';cases h'
section
variable(P:Program)(w:World)
def ObjOk(H:Hp)(h:Heap)(a:Addr):HO->Prop
 |.lst xs=>xs.length<=sizeLine/\∃(b:List Value) (n:Nat),Vals xs b/\h.get? a=some { cls:=.type "list", data:=.seq b.toArray n }
 |.tup xs=>xs.length<=sizeLine/\∃b:List Value,Vals xs b/\IsTup h a b.toArray
 |.dK kvs=>kvs.length<=sizeLine/\(a==sysModules)=false/\∃vs,KV kvs vs/\h.DictOf (Zc P w) a vs
 |.dT kvs=>kvs.length<=sizeLine/\(a==sysModules)=false/\∃xs:List (List Key×Addr×Value),
   Paired (λ(p:List Key×V)(q:List Key×Addr×Value)=>p.1=q.1/\H q.2.1=some (.tup (p.1.map kV))/\RelV p.2 q.2.2) kvs xs /\
   ∃o es ep,h.get? a=some o/\o.ExactDict/\o.data=.dict es ep/\es.toList=xs.map (entryOfKey (tupleKind (Zc P w)))/\(xs.map (·.1)).Nodup
 |.set S n=>h.SetOf (intKind P w) a S n
 |.ins C d fs=>H d=some (.own a)/\fs.length<=1000/\d≠a/\h.get? a=some (PySem.W.instObj C d) /\
   ∃c,h.Ns1 d c/\(∀f,RelO (fs.lookup f) (c f))/\PySem.Within c (fs.map (·.1))
 |.own _=>∃o,h.get? a=some o
 |.xd fs=>∃c,h.Ns1 a c/\∀f,RelO (fs.lookup f) (c f)
 |.rng lo hi=>∃t u v,h.get? a=some { cls:=.type "range", data:=.fields #[.int lo t,.int hi u,.int 1 v] }
 |.frz o u=>h.get? a=some o/\ObjOk H h a u
 |.tbl ps=>h.get? a=some { cls:=.none,data:=.fields ps }
 |.met f x=>h.get? a=some (PySem.W.methodObj (.ref f) (.ref x))
 |.ext φ=>φ h/\(∃o,h.get? a=some o)/\∀e i:Heap,φ e->(∀o,e.get? a=some o->i.get? a=some o)->φ i
def HOk(H:Hp)(h:Heap):Prop:=∀a o,H a=some o->ObjOk P w H h a o
end
section
variable{P:Program}{w:World}{H H':Hp}{h h':Heap}{a:Addr}{o:HO}
theorem ObjOk.lt(x:ObjOk P w H h a o):a<h.objs.size:=by
 cases o with
 |lst xs=>obtain⟨_,_,_,_,e⟩:=x;exact Ao e
 |tup xs=>obtain⟨_,_,_,p⟩:=x;exact p.lt
 |dK kvs=>obtain⟨_,_,_,_,o,_,_,e,_⟩:=x;exact Ao e
 |dT kvs=>obtain⟨_,_,_,_,o,_,_,e,_⟩:=x;exact Ao e
 |set S n=>obtain⟨o,_,_,_,e,_⟩:=x;exact Ao e
 |ins C b fs=>obtain⟨_,_,_,e,_⟩:=x;exact Ao e
 |own y=>obtain⟨_,e⟩:=x;exact Ao e
 |xd fs=>obtain⟨_,⟨_,_,_,e,_⟩,_⟩:=x;exact Ao e
 |rng lo hi=>obtain⟨_,_,_,e⟩:=x;exact Ao e
 |frz c u=>obtain⟨e,_⟩:=x;exact Ao e
 |tbl ps=>exact Ao (show h.get? a=some _ from x)
 |met f y=>exact Ao (show h.get? a=some _ from x)
 |ext φ=>obtain⟨_,⟨_,e⟩,_⟩:=x;exact Ao e
theorem Paired.mapP{α β:Type}{F G:α->β->Prop}:∀{l₁:List α}{l₂:List β},Paired F l₁ l₂->(∀a b,F a b->G a b)->Paired G l₁ l₂
 |_,_,.nil,_=>.nil
 |_,_,.cons r t,f=>.cons (f _ _ r) (Paired.mapP t f)
theorem ObjOk.stay(x:ObjOk P w H h a o)(k:∀b u,(b=a∨H b=some (.own a))->h.get? b=some u->h'.get? b=some u)
    (ho:∀b,H b=some (.own a)->H' b=some (.own a)) (ht:∀b xs,H b=some (.tup xs)->H' b=some (.tup xs)):ObjOk P w H' h' a o:=by
  induction o with
  |lst xs=>obtain⟨z,j,n,r,e⟩:=x;exact⟨z,j,n,r,k _ _ (.inl rfl) e⟩
  |tup xs=>obtain⟨z,j,r,i,e,c⟩:=x;exact⟨z,j,r,i,k _ _ (.inl rfl) e,c⟩
  |dK kvs=>obtain⟨z,y,vs,r,i,es,ep,e,c⟩:=x;exact⟨z,y,vs,r,i,es,ep,k _ _ (.inl rfl) e,c⟩
  |dT kvs=>obtain⟨z,y,xs,r,i,es,ep,e,c⟩:=x;exact⟨z,y,xs,Paired.mapP r λp q z=>⟨z.1,ht _ _ z.2.1,z.2.2⟩,i,es,ep,k _ _ (.inl rfl) e,c⟩
  |set S n=>obtain⟨i,es,ep,t,e,c⟩:=x;exact⟨i,es,ep,t,k _ _ (.inl rfl) e,c⟩
  |ins C L fs=>obtain⟨d,z,ne,e,l,⟨m,es,ep,I,c⟩,r⟩:=x;exact⟨ho _ d,z,ne,k _ _ (.inl rfl) e,l,⟨m,es,ep,k _ _ (.inr d) I,c⟩,r⟩
  |own y=>obtain⟨i,e⟩:=x;exact⟨i,k _ _ (.inl rfl) e⟩
  |xd fs=>obtain⟨l,⟨m,es,ep,e,c⟩,r⟩:=x;exact⟨l,⟨m,es,ep,k _ _ (.inl rfl) e,c⟩,r⟩
  |rng lo hi=>obtain⟨t,u,v,e⟩:=x;exact⟨t,u,v,k _ _ (.inl rfl) e⟩
  |frz i u J=>obtain⟨e,q⟩:=x;exact⟨k _ _ (.inl rfl) e,J q⟩
  |tbl ps=>have e:h.get? a=some { cls:=.none,data:=.fields ps }:=x;show h'.get? a=some { cls:=.none,data:=.fields ps };exact k a _ (.inl rfl) e
  |met f y=>have e:h.get? a=some (PySem.W.methodObj (.ref f) (.ref y)):=x;show h'.get? a=some (PySem.W.methodObj (.ref f) (.ref y));exact k a _ (.inl rfl) e
  |ext φ=>obtain⟨p,⟨o,e⟩,F⟩:=x;exact⟨F _ _ p λo q=>k _ _ (.inl rfl) q,⟨o,k _ _ (.inl rfl) e⟩,F⟩
def HOk.lt(x:HOk P w H h)(e:H a=some o):a<h.objs.size:=(x a o e).lt
theorem HOk.fresh(x:HOk P w H h)(e:h.objs.size<=a):H a=none:=by
 cases q:H a with
 |none=>rfl
 |some u=>exact absurd (Av (x.lt q) e) (Cf _)
theorem HOk.kept(x:HOk P w H h)(k:∀b u,h.get? b=some u->h'.get? b=some u):HOk P w H h':=λa o e =>
 (x a o e).stay (λb u _ q=>k b u q) (λ_ q=>q) λ_ _ q=>q
theorem HOk.laid(x:HOk P w H h)(k:∀b u,h.get? b=some u->h'.get? b=some u)(U:h.objs.size<=a)(new:ObjOk P w (upd H a o) h' a o):HOk P w (upd H a o) h':=λb u e=>by
 have f:=x.fresh U;by_cases d:b=a
 ·subst d;rw[Q5]at e;cases e;exact new
 ·rw[Q4 d]at e;exact(x b u e).stay (λc v _ q=>k c v q) (λc q=>by rw[Q4 (ZP q f)];exact q) λc xs q=>by rw[Q4 (ZP q f)];exact q
end
def Rd(H:Hp)(a:Addr)(u:HO):Prop:=H a=some u∨∃o,H a=some (.frz o u)
theorem Rd.ok{P:Program}{w:World}{H:Hp}{h:Heap}{a:Addr}{u:HO}(r:Rd H a u)(x:HOk P w H h):ObjOk P w H h a u:=by
 rcases r with r|⟨o,r⟩
 ·exact x a u r
 ·obtain⟨_,q⟩:=x a _ r;exact q
def Mut:Option HO->Prop
 |some (.lst _)=>True
 |some (.dK _)=>True
 |some (.dT _)=>True
 |some (.set _ _)=>True
 |some (.ins _ _ _)=>True
 |some (.ext _)=>True
 |_=>False
section
variable{P:Program}{w:World}{H:Hp}{h h':Heap}{x e:Addr}{o':HO}
theorem HOk.write(ok:HOk P w H h)(l:Mut (H x))(n:e=x∨H e=some (.own x))(k:∀b u,b≠e->h.get? b=some u->h'.get? b=some u)(m:∃u,h'.get? e=some u)
  (new:ObjOk P w (upd H x o') h' x o'):HOk P w (upd H x o') h':=λb u q=>by
 have d:∀c y,H c=some (.own y)->c≠x:=λc y r z=>by subst z;rw[r]at l;exact l
 have f:∀c xs,H c=some (.tup xs)->c≠x:=λc xs r z=>by subst z;rw[r]at l;exact l
 by_cases i:b=x
 ·subst i;rw[Q5]at q;cases q;exact new
 ·rw[Q4 i]at q;by_cases a:b=e
  ·have o:H b=some (.own x):=by
    rcases n with z|z
    ·exact absurd (a.trans z) i
    ·rw[a];exact z
   rw[q]at o;cases o;obtain⟨v,t⟩:=m;exact⟨v,by rw[a];exact t⟩
  ·refine(ok b u q).stay (λc v j r=>k c v ?_ r) (λc r=>by rw[Q4 (d c b r)];exact r) λc xs r=>by rw[Q4 (f c xs r)];exact r
   rcases j with rfl|j
   ·exact a
   ·rintro rfl;rcases n with z|z
    ·exact d c b j z
    ·rw[j]at z;cases z;exact i rfl
end
structure Un(fs ex:C9)(H H':Hp)(h h':Heap):Prop where
 keep:∀b o,h.get? b=some o->H b=none->b∉fs->b∉ex->h'.get? b=some o
 slot:∀b o,h.get? b=some o->H b=none->b∈fs->b∉ex->∃sl,h'.get? b=some { o with slots:=sl }
 free:∀b o,h.get? b=some o->H b=none->b∉ex->H' b=none
 there:∀b o,h.get? b=some o->b∉ex->∃o',h'.get? b=some o'
 tups:∀b xs,H b=some (.tup xs)->H' b=some (.tup xs)
 frzs:∀b o u,H b=some (.frz o u)->H' b=some (.frz o u)
 tbls:∀b ps,H b=some (.tbl ps)->∃more,H' b=some (.tbl (ps++more))
section
variable{fs fs' ex ex':C9}{H H1 H2:Hp}{h h1 h2 h':Heap}{a x e:Addr}{o:HO}
theorem Un.any(u:Un fs ex H H1 h h1){b:Addr}{c:Obj}(q:h.get? b=some c)(n:H b=none)(hx:b∉ex):∃f,h1.get? b=some { c with slots:=f }:=by
 by_cases d:b∈fs
 ·exact u.slot b c q n d hx
 ·exact⟨c.slots,u.keep b c q n d hx⟩
theorem Un.kept(k:∀b u,h.get? b=some u->h'.get? b=some u):Un fs ex H H h h' :=
 ⟨λb c q _ _ _=>k b c q,λb c q _ _ _=>⟨c.slots,k b c q⟩,λ_ _ _ n _=>n,λb c q _=>⟨c,k b c q⟩,λ_ _ q=>q,λ_ _ _ q=>q,λ_ ps q=>⟨#[],by rw[q];simp⟩⟩
def Un.refl:Un fs ex H H h h:=Un.kept λ_ _ q=>q
theorem Un.laid(k:∀b u,h.get? b=some u->h'.get? b=some u)(U:h.objs.size<=a)(c:H a=none):Un fs ex H (upd H a o) h h' where
 keep:=λb u q _ _ _=>k b u q
 slot:=λb u q _ _ _=>⟨u.slots,k b u q⟩
 free:=λb u q n _=>by rw[Q4 (A6 (Av (Ao q) U))];exact n
 there:=λb u q _=>⟨u,k b u q⟩
 tups:=λb xs q=>by rw[Q4 (ZP q c)];exact q
 frzs:=λb u xs q=>by rw[Q4 (ZP q c)];exact q
 tbls:=λb ps q=>⟨#[],by rw[Q4 (ZP q c),q];simp⟩
theorem Un.write(d:Mut (H x))(l:e=x∨H e=some (.own x))(k:∀b u,b≠e->h.get? b=some u->h'.get? b=some u)(f:∃u,h'.get? e=some u):Un fs ex H (upd H x o) h h':=by
 have hx:∀b,H b=none->b≠x:=λb n z=>by subst z;rw[n]at d;exact d
 have j:∀b,H b=none->b≠e:=λb n z=>by
  subst z;rcases l with r|r
  ·exact hx b n r
  ·rw[n]at r;cases r
 have i:∀b u,H b=some u->¬ Mut (some u)->b≠x:=λb u q m z=>by subst z;rw[q]at d;exact m d
 refine⟨λb u q n _ _=>k b u (j b n) q,λb u q n _ _=>⟨u.slots,k b u (j b n) q⟩,λb u q n _=>by rw[Q4 (hx b n)];exact n,λb u q _=>?_,
  λb xs q=>by rw[Q4 (i b _ q λz=>z)];exact q,λb u xs q=>by rw[Q4 (i b _ q λz=>z)];exact q,λb ps q=>⟨#[],by rw[Q4 (i b _ q λz=>z),q];simp⟩⟩
 by_cases c:b=e
 ·subst c;exact f
 ·exact⟨u,k b u c q⟩
end
def trk(h:Heap)(H:Hp):List Addr:=(List.range h.objs.size).filter λa=>(H a).isSome
def Vy(h:Heap)(H:Hp):Heap:=PySem.W.hideAll h (trk h H)
def vC(h:Heap)(H:Hp):(Vy h H).objs.size=h.objs.size:=PySem.W.hideAll_size _ _
theorem gE{h:Heap}{H:Hp}{b:Addr}{o:Obj}(e:h.get? b=some o)(n:H b=none):(Vy h H).get? b=some o :=
 PySem.W.hideAll_get _ e λa=>by have q:(H b).isSome=true:=(Bb.mp a).2;rw[n]at q;simp at q
theorem SX{h:Heap}{H:Hp}{b:Addr}{o:Obj}(e:(Vy h H).get? b=some o):h.get? b=some o/\H b=none:=by
  have a:h.get? b=some o:=PySem.W.of_hideAll (trk h H) e;refine⟨a,?_⟩;cases q:H b with
  |none=>rfl
  |some x=>have c:b∈trk h H:=Bb.mpr ⟨List.mem_range.mpr (Ao a),by simp[q]⟩;have z:(Vy h H).get? b=none:=PySem.W.hideAll_none (trk h H) c;rw[z]at e;cases e
def yX(g h:Heap)(L:Addr):List (Addr×Obj):=(List.range h.objs.size).filterMap λa=>if a=L∨(g.get? a).isSome=true then none else (h.get? a).map λo=>(a,o)
theorem xr{g h:Heap}{L:Addr}{p:Addr×Obj}(U:p∈yX g h L):p.1≠L/\g.get? p.1=none/\h.get? p.1=some p.2:=by
  obtain⟨b,_,e⟩:=List.mem_filterMap.mp U;split at e
  . cases e
  . rename_i a
    cases q:h.get? b with
    |none=>rw[q]at e;simp at e
    |some u =>
      rw[q]at e;simp only[Option.map_some,Option.some.injEq]at e;subst e;refine⟨λz=>a (.inl z),?_,q⟩;show g.get? b=none;cases r:g.get? b with
      |none=>rfl
      |some v=>exact(a (.inr (by simp[r]))).elim
def rest(g h:Heap)(L d:Addr):List (Addr×Obj):=(yX g h L).filter λp=>decide (p.1≠d)
def ko{g h:Heap}{L:Addr}:News g L h (yX g h L):=λp U=>let ⟨a,b,c⟩:=xr U;⟨c,a,b⟩
structure Mod(K:Aa)(mg:C5)(O8:Heap):Prop where
 kin:K.In O8
 glob:O8.Ns mainGlobals mg
 blt:∃mb,O8.Ns builtinsNs mb/\∀x:Str,x ≠ "__name__" -> mb x=bootBuiltins x
 nolimit:O8.NoLimit
structure Cx where
 prog:Program
 w:World
 K:Aa
 mg:Str->Option Value
 O8:Heap
 A:Around
 N:List Str
 s₀:Shared
 H₀:Hp
 env:Env
 outer:List Env
 stack:List Env
 ex:List Addr
 fn:Str->Bool
 calm:Bool
 pn:List (Addr×Obj)
 xe:Value->Shared->Prop
def frs(l:List Env):List Addr:=l.filterMap (·.frame)
abbrev Cx.fs(X:Cx):List Addr:=frs X.outer
def Vis(a:Scope)(x:Str):Prop:=a.names.lookup x=some .local∨a.names.lookup x=some .cell∨a.names.lookup x=some .free
def Loc(a:Scope)(x:Str):Prop:=a.names.lookup x=some .local∨a.names.lookup x=some .cell
def IV(env:Env)(h:Heap)(m:C5)(x:Str)(u:Value):Prop :=
 (env.kindOf x=some .local/\m x=some u)∨((env.kindOf x=some .cell∨env.kindOf x=some .free)/\∃c,env.cells.lookup x=some c/\h.IsCell c (some u))
structure Cx.Ok(X:Cx):Prop where
 mod:Mod X.K X.mg X.O8
 kind:X.env.scope.kind=.function
 glob:X.env.globals=mainGlobals
 blt:X.env.builtins=builtinsNs
 above:X.s₀.heap.objs.size<=X.env.locals
 inj:∀x y c,X.env.cells.lookup x=some c->X.env.cells.lookup y=some c->x=y
 has:∀x,(X.env.kindOf x=some .cell∨X.env.kindOf x=some .free)->∃c,X.env.cells.lookup x=some c
 cab:∀x c,X.fn x=true->X.env.cells.lookup x=some c->X.s₀.heap.objs.size<=c
 hd:X.calm=true->X.A.handled=none
 frames:X.A.frames=some X.stack
 stk:X.stack=X.outer∨(X.stack=X.env::X.outer/\X.env.frame=some X.env.locals)
 exf:∀b∈X.ex,b≠X.env.locals/\∀x c,X.env.cells.lookup x=some c->c≠b
 bs:∀b o,X.O8.get? b=some o->X.s₀.heap.get? b=some o/\X.H₀ b=none
 bsz:X.O8.objs.size<=X.s₀.heap.objs.size
 noex:∀b o,X.O8.get? b=some o->b∉X.ex
 exfs:∀b∈X.ex,b∉X.fs
 funs:X.s₀.heap.FunFrames X.O8 X.outer
 frf:∀b∈X.fs,X.H₀ b=none
structure Inv(X:Cx)(O9:C4)(σ:List (Option V))(H:Hp)(s:Shared):Prop where
 ok:X.Ok
 os:s.os=X.s₀.os
 bare:AllBare s.gens
 O8:Un X.fs X.ex X.H₀ H X.s₀.heap s.heap
 loc:∃m,s.heap.Ns X.env.locals m/\∀(i:Nat)(x:Str)(v:V),X.N[i]?=some x->σ[i]?=some (some v)->Vis X.env.scope x->∃u,RelV v u/\IV X.env s.heap m x u
 cell:∀x c,X.env.cells.lookup x=some c->∃v,s.heap.IsCell c v
 free:H X.env.locals=none
 freeC:∀x c,X.env.cells.lookup x=some c->H c=none
 pin:∀p∈X.pn++O9,s.heap.get? p.1=some p.2/\H p.1=none/\p.1≠X.env.locals/\p.1∉X.fs/\∀v,p.2.data≠.cell v
 hok:HOk X.prog X.w H s.heap
 len:σ.length=X.N.length
section
variable{X:Cx}{O9:C4}{σ:List (Option V)}{H H':Hp}{s:Shared}{h':Heap}
theorem Cx.Ok.nofr(ok:X.Ok){b:Addr}{o:Obj}(e:X.O8.get? b=some o):b∉X.fs:=λa=>by have:=(ok.funs.mem a).1;rw[e]at this;cases this
theorem Inv.bs(I:Inv X O9 σ H s):∀b o,X.O8.get? b=some o->s.heap.get? b=some o/\H b=none:=λb o e =>
 ⟨I.O8.keep b o (I.ok.bs b o e).1 (I.ok.bs b o e).2 (I.ok.nofr e) (I.ok.noex b o e),I.O8.free b o (I.ok.bs b o e).1 (I.ok.bs b o e).2 (I.ok.noex b o e)⟩
def Inv.bk(I:Inv X O9 σ H s):∀b o,X.O8.get? b=some o->s.heap.get? b=some o:=λb o e=>(I.bs b o e).1
def Inv.mod(I:Inv X O9 σ H s):Mod X.K X.mg X.O8:=I.ok.mod
def Inv.kIn(I:Inv X O9 σ H s):X.K.In s.heap:=I.ok.mod.kin.keeps I.bk
theorem Inv.fr(I:Inv X O9 σ H s):∃m,Fr X.O8 X.env.locals s.heap m :=
 let ⟨m,a,_⟩:=I.loc
 ⟨m,a,I.bk,A9 I.ok.bsz I.ok.above⟩
def Inv.lt(I:Inv X O9 σ H s):X.env.locals<s.heap.objs.size:=let ⟨_,a,_⟩:=I.loc;a.lt
def Inv.sz(I:Inv X O9 σ H s):X.s₀.heap.objs.size<=s.heap.objs.size:=A9 I.ok.above (Nat.le_of_lt I.lt)
theorem Inv.nofs(I:Inv X O9 σ H s){a:Addr}(h:s.heap.objs.size<=a):a∉X.fs:=λb=>by obtain⟨_,o,c,_⟩:=I.ok.funs.mem b;exact absurd (Av (Ao c) (A9 I.sz h)) (Cf _)
theorem Inv.cne(I:Inv X O9 σ H s):∀x c,X.env.cells.lookup x=some c->c≠X.env.locals:=λx c e z=>by obtain⟨v,o,d,hd⟩:=I.cell x c e;obtain⟨m,⟨o',es,ep,b,a,_⟩,_⟩:=I.loc;rw[z,b]at d;cases d;rw[a]at hd;cases hd
theorem Inv.funs(I:Inv X O9 σ H s):s.heap.FunFrames X.O8 X.outer:=by
  have all:∀(l:List Env),(∀b∈frs l,b∈X.fs)->X.s₀.heap.FunFrames X.O8 l->s.heap.FunFrames X.O8 l:=by
    intro l;induction l with
    |nil=>intro _ _;trivial
    |cons env r n=>intro d h;obtain⟨f,⟨L,o,hf,i,j,hd⟩,m⟩:=h;have a:L∈X.fs:=d L (by unfold frs;rw[List.filterMap_cons,hf];exact Cp);obtain⟨q,e⟩:=I.O8.slot L o j (I.ok.frf L a) a λz=>I.ok.exfs L z a;exact⟨f,⟨L,_,hf,i,e,hd⟩,n (λb c=>d b (by unfold frs;rw[List.filterMap_cons,hf];exact Au _ c)) m⟩
  exact all X.outer (λ_ c=>c) I.ok.funs
theorem Inv.stack(I:Inv X O9 σ H s):s.heap.FunFrames X.O8 X.stack:=by
 rcases I.ok.stk with e|⟨e,hf⟩
 ·rw[e];exact I.funs
 ·rw[e];obtain⟨m,a,_⟩:=I.loc;refine .cons (by rw[I.ok.kind];decide) hf a ?_ I.funs;exact Heap.get?_none_of_le (A9 I.ok.bsz I.ok.above)
theorem Inv.stkSub(I:Inv X O9 σ H s):∀b∈frs X.stack,b∈X.env.locals::X.fs:=λb a=>by
 rcases I.ok.stk with e|⟨e,hf⟩
 ·rw[e]at a;exact Au _ a
 ·rw[e]at a;unfold frs at a;rw[List.filterMap_cons,hf]at a;exact a
theorem Inv.stkFree(I:Inv X O9 σ H s):∀b∈frs X.stack,H b=none:=λb a=>by
 rcases Ba.mp (I.stkSub b a)with e|a
 ·rw[e];exact I.free
 ·obtain⟨_,o,c,_⟩:=I.ok.funs.mem a;exact I.O8.free b o c (I.ok.frf b a) λz=>I.ok.exfs b z a
theorem Inv.step{g':Array GenState}{t':Nat}{d':Drawn}{ch:C9}(I:Inv X O9 σ H s)
  (hch:∀b∈ch,(b∈X.ex∨X.s₀.heap.objs.size<=b)/\b≠X.env.locals/\(∀x c,X.env.cells.lookup x=some c->c≠b)/\∀p∈X.pn++O9,p.1≠b)
  (keep:∀b o,b≠X.env.locals->b∉X.fs->b∉ch->s.heap.get? b=some o->H b=none->h'.get? b=some o)
  (slot:∀b o,b≠X.env.locals->b∈X.fs->b∉ch->s.heap.get? b=some o->H b=none->∃F,h'.get? b=some { o with slots:=F }) (free:∀b o,b∉ch->s.heap.get? b=some o->H b=none->H' b=none)
  (there:∀b o,b∉ch->s.heap.get? b=some o->∃o',h'.get? b=some o')
  (tups:∀b xs,H b=some (.tup xs)->H' b=some (.tup xs)) (frzs:∀b o u,H b=some (.frz o u)->H' b=some (.frz o u)) (tbls:∀b ps,H b=some (.tbl ps)->∃more,H' b=some (.tbl (ps++more)))
  (ns:∀m,s.heap.Ns X.env.locals m->h'.Ns X.env.locals m) (hok:HOk X.prog X.w H' h') (hg:AllBare g') :
  Inv X O9 σ H' { s with heap:=h',gens:=g',drawn:=d',toks:=t' }:=by
 have C:∀b o,X.s₀.heap.get? b=some o->b≠X.env.locals:=λb o e=>A6 (Av (Ao e) I.ok.above);have h:∀b o,X.s₀.heap.get? b=some o->b∉X.ex->b∉ch:=λb o e hx j=>by
  rcases(hch b j).1 with z|z
  ·exact hx z
  ·exact absurd (Av (Ao e) z) (Cf _)
 have cellK:∀x c,X.env.cells.lookup x=some c->∀v,s.heap.IsCell c v->h'.IsCell c v:=λx c e v ⟨o,t,hd⟩=>by
  have a:c∉ch:=λz=>(hch c z).2.2.1 x c e rfl;by_cases L:c∈X.fs
  ·obtain⟨F,q⟩:=slot c o (I.cne x c e) L a t (I.freeC x c e);exact⟨_,q,hd⟩
  ·exact⟨o,keep c o (I.cne x c e) L a t (I.freeC x c e),hd⟩
 refine⟨I.ok,I.os,hg,⟨λb o e n j hx=>?_,λb o e n j hx=>?_,λb o e n hx=>?_,λb o e hx=>?_,λb xs e=>tups b xs (I.O8.tups b xs e),λb o xs e=>frzs b o xs (I.O8.frzs b o xs e),λb ps e=>?_⟩,?_,λx c e=>?_,?_,λx c e=>?_,λp U=>?_,hok,I.len⟩
 ·exact keep b o (C b o e) j (h b o e hx) (I.O8.keep b o e n j hx) (I.O8.free b o e n hx)
 ·obtain⟨F,f⟩:=I.O8.slot b o e n j hx;obtain⟨J,y⟩:=slot b _ (C b o e) j (h b o e hx) f (I.O8.free b o e n hx);exact⟨J,y⟩
 ·obtain⟨o',f⟩:=I.O8.there b o e hx;exact free b o' (h b o e hx) f (I.O8.free b o e n hx)
 ·obtain⟨o',f⟩:=I.O8.there b o e hx;exact there b o' (h b o e hx) f
 ·obtain⟨T,f⟩:=I.O8.tbls b ps e;obtain⟨Y,y⟩:=tbls b _ f;exact⟨T++Y,by rw[y,Array.append_assoc]⟩
 ·obtain⟨m,R,Q⟩:=I.loc;refine⟨m,ns m R,λi x v f y P=>?_⟩;obtain⟨u,r,l⟩:=Q i x v f y P;refine⟨u,r,?_⟩;rcases l with l|⟨k,c,e,z⟩
  ·exact .inl l
  ·exact .inr ⟨k,c,e,cellK x c e _ z⟩
 ·obtain⟨v,z⟩:=I.cell x c e;exact⟨v,cellK x c e v z⟩
 ·obtain⟨m,⟨o,_,_,t,_⟩,_⟩:=I.loc;exact free _ o (λz=>(hch _ z).2.1 rfl) t I.free
 ·obtain⟨v,o,t,hd⟩:=I.cell x c e;exact free c o (λz=>(hch c z).2.2.1 x c e rfl) t (I.freeC x c e)
 ·obtain⟨e,n,ne,O,d⟩:=I.pin p U;have a:p.1∉ch:=λz=>(hch p.1 z).2.2.2 p U rfl;exact⟨keep p.1 p.2 ne O a e n,free p.1 p.2 a e n,ne,O,d⟩
theorem Inv.un{t':Nat}(I:Inv X O9 σ H s)(u:Un X.fs [] H H' s.heap h')(hok:HOk X.prog X.w H' h'):Inv X O9 σ H' { s with heap:=h',toks:=t' }:=by
 obtain⟨m,⟨o,es,ep,h,r⟩,_⟩:=id I.loc;obtain⟨t,i⟩:=u.any h I.free (by simp);exact I.step (g':=s.gens) (d':=s.drawn) (ch:=[]) (λ_ z=>nomatch z) (λb o _ f _ e n=>u.keep b o e n f (by simp)) (λb o _ f _ e n=>u.slot b o e n f (by simp)) (λb o _ e n=>u.free b o e n (by simp)) (λb o _ e=>u.there b o e (by simp)) u.tups u.frzs u.tbls (λq j=>by obtain⟨o',d,c,a,l⟩:=j;rw[h]at a;cases a;exact⟨_,d,c,i,l⟩) hok I.bare
theorem Inv.call{g':Array GenState}{t':Nat}{d':Drawn}{ch:C9}(I:Inv X O9 σ H s)(u:Un (frs X.stack) ch H H' s.heap h')(hok:HOk X.prog X.w H' h')(q:AllBare g')
  (hch:∀b∈ch,(b∈X.ex∨X.s₀.heap.objs.size<=b)/\b≠X.env.locals/\(∀x c,X.env.cells.lookup x=some c->c≠b)/\∀p∈X.pn++O9,p.1≠b) :
  Inv X O9 σ H' { s with heap:=h',gens:=g',drawn:=d',toks:=t' }:=by
 obtain⟨m,⟨o,es,ep,j,r⟩,_⟩:=id I.loc;obtain⟨C,i⟩:=u.any j I.free λz=>(hch _ z).2.1 rfl;exact I.step (ch:=ch) hch (λb o i l a e n=>u.keep b o e n (λz=>(Ba.mp (I.stkSub b z)).elim i l) a) (λb o _ _ a e n=>u.any e n a) (λb o a e n=>u.free b o e n a) (λb o a e=>u.there b o e a) u.tups u.frzs u.tbls (λy t=>by obtain⟨o',h,f,d,v⟩:=t;rw[j]at d;cases d;exact⟨_,h,f,i,v⟩) hok q
theorem Inv.turned{t':Nat}{a:Addr}(I:Inv X O9 σ H s)(k:∀b o,b≠a->s.heap.get? b=some o->h'.get? b=some o)(l:H a=none)(h:a≠X.env.locals)
  (h1:a∈X.ex∨X.s₀.heap.objs.size<=a) (h2:∀x c,X.env.cells.lookup x=some c->c≠a) (h3:∀p∈X.pn++O9,p.1≠a):Inv X O9 σ H { s with heap:=h',toks:=t' }:=by
 have f:∀b u,H b=some u->b≠a:=λb u e z=>by rw[z,l]at e;cases e
 refine I.step (g':=s.gens) (d':=s.drawn) (ch:=[a]) (λb i=>?_) (λb o _ _ d e _=>k b o (λz=>d (by simp[z])) e) (λb o _ _ d e _=>⟨o.slots,k b o (λz=>d (by simp[z])) e⟩) (λ_ _ _ _ n=>n)
  (λb o d e=>⟨o,k b o (λz=>d (by simp[z])) e⟩) (λ_ _ e=>e) (λ_ _ _ e=>e) (λb ps e=>⟨#[],by rw[e];simp⟩) (λm j=>?_) (λb u e=>?_) I.bare
 ·have e:b=a:=by simpa using i
  subst e;exact⟨h1,h,h2,h3⟩
 ·obtain⟨o,es,ep,t,r⟩:=j;exact⟨o,es,ep,k _ o (Ne.symm h) t,r⟩
 ·refine(I.hok b u e).stay (λc v d q=>k c v ?_ q) (λ_ q=>q) λ_ _ q=>q;rcases d with z|z
  ·rw[z];exact f b u e
  ·exact f c _ z
def Inv.tok(I:Inv X O9 σ H s)(t:Nat):Inv X O9 σ H { s with toks:=t }:=I.un (h':=s.heap) (t':=t) Un.refl I.hok
def Inv.kept{t':Nat}(I:Inv X O9 σ H s)(k:∀b u,s.heap.get? b=some u->h'.get? b=some u):Inv X O9 σ H { s with heap:=h',toks:=t' }:=I.un (Un.kept k) (I.hok.kept k)
theorem Inv.laid{a:Addr}{o:HO}{t':Nat}(I:Inv X O9 σ H s)(k:∀b u,s.heap.get? b=some u->h'.get? b=some u)(U:s.heap.objs.size<=a)(new:ObjOk X.prog X.w (upd H a o) h' a o) :
  Inv X O9 σ (upd H a o) { s with heap:=h',toks:=t' }:=I.un (Un.laid k U (I.hok.fresh U)) (I.hok.laid k U new)
theorem Inv.write{x e:Addr}{o:HO}{t':Nat}(I:Inv X O9 σ H s)(d:Mut (H x))(c:e=x∨H e=some (.own x))(k:∀b u,b≠e->s.heap.get? b=some u->h'.get? b=some u)(a:∃u,h'.get? e=some u)
  (new:ObjOk X.prog X.w (upd H x o) h' x o):Inv X O9 σ (upd H x o) { s with heap:=h',toks:=t' }:=I.un (Un.write d c k a) (I.hok.write d c k a new)
theorem Inv.pins_of{a:C4}(I:Inv X O9 σ H s)(h:∀p∈a,s.heap.get? p.1=some p.2/\H p.1=none/\p.1≠X.env.locals/\p.1∉X.fs/\∀v,p.2.data≠.cell v):Inv X a σ H s :=
 ⟨I.ok,I.os,I.bare,I.O8,I.loc,I.cell,I.free,I.freeC,λp U=>(Ah.mp U).elim (λz=>I.pin p (Ax _ z)) (h p),I.hok,I.len⟩
theorem UE{N:List Str}(e:N.Nodup){i j:Nat}{x:Str}(a:N[i]?=some x)(b:N[j]?=some x):i=j:=by obtain⟨f,c⟩:=Ac.mp a;obtain⟨h,d⟩:=Ac.mp b;exact(List.getElem_inj e).mp (c.trans d.symm)
theorem yQ{M:Model}{A:Around}{E:C2}{i:Nat}{x:Str}{v:V}{u:Value}{Q:Unit->Shared->Prop}(I:Inv X O9 σ H s)(hN:X.N.Nodup)(hi:X.N[i]?=some x)(hx:Loc X.env.scope x)(r:RelV v u)
  (h:∀s',Inv X O9 (σ.set i (some v)) H s'->(∃a,Heap.SameBut a s.heap s'.heap/\(a=X.env.locals∨X.env.cells.lookup x=some a))->Q () s') (hf:X.fn x=true∨X.env.scope.names.lookup x=some .local:=by first|exact .inl rfl|exact .inr rfl|assumption):wpAny M A (storeName X.env x u) Q E s:=by
 obtain⟨m,hn,hl⟩:=id I.loc;have Y:(X.env.scope.kind==.class||(X.env.scope.kind==.module&&X.env.locals != X.env.globals))=false:=by rw[I.ok.kind];rfl
 have hiσ:i<σ.length:=by rw[I.len];exact(Ac.mp hi).1
 have cne:=I.cne;have tracked:∀{a:Addr}{h':Heap},(∃o,s.heap.get? a=some o/\H a=none)->Heap.SameBut a s.heap h'->HOk X.prog X.w H h':=λ{a h'} ha f b ob e=>by
  obtain⟨_,_,C⟩:=ha;refine(I.hok b ob e).stay (λc w' t q=>(f.2 c ?_).trans q) (λ_ q=>q) λ_ _ q=>q;rintro rfl;rcases t with rfl|t
  ·rw[C]at e;cases e
  ·rw[C]at t;cases t
 rcases hx with J|J
 ·refine wpAny_storeName_local J hn (λh' ad f=>?_) Y;obtain⟨oL,_,_,ae,_⟩:=id hn;refine h _ ⟨I.ok,I.os,I.bare,⟨λb o e n L hx=>?_,λb o e n L hx=>?_,I.O8.free,λb o e hx=>?_,I.O8.tups,I.O8.frzs,I.O8.tbls⟩,⟨_,ad,λj y v' l F e3=>?_⟩,λy c e=>?_,I.free,I.freeC,λp U=>?_,tracked ⟨oL,ae,I.free⟩ f,by simpa using I.len⟩ ⟨_,f,.inl rfl⟩
  ·exact(f.2 b (A6 (Av (Ao e) I.ok.above))).trans (I.O8.keep b o e n L hx)
  ·obtain⟨sl,l⟩:=I.O8.slot b o e n L hx;exact⟨sl,(f.2 b (A6 (Av (Ao e) I.ok.above))).trans l⟩
  ·obtain⟨o',l⟩:=I.O8.there b o e hx;exact⟨o',(f.2 b (A6 (Av (Ao e) I.ok.above))).trans l⟩
  ·by_cases P:j=i
   ·subst P;rw[hi]at l;cases l;rw[Ar hiσ]at F;cases F;exact⟨u,r,.inl ⟨J,by simp⟩⟩
   ·rw[Ak (Ne.symm P)]at F;obtain⟨u',r',q⟩:=hl j y v' l F e3;refine⟨u',r',?_⟩;rcases q with ⟨k,e⟩|⟨k,c,e,z⟩
    ·refine .inl ⟨k,?_⟩;have:y≠x:=λe=>P (UE hN l (e▸hi));simp[this,e]
    ·exact .inr ⟨k,c,e,z.sameBut f (cne y c e)⟩
  ·obtain⟨w',z⟩:=I.cell y c e;exact⟨w',z.sameBut f (cne y c e)⟩
  ·obtain⟨e,n,ne,nf,d⟩:=I.pin p U;exact⟨(f.2 p.1 ne).trans e,n,ne,nf,d⟩
 ·have O:X.fn x=true:=by
   rcases hf with z|z
   ·exact z
   ·rw[z]at J;cases J
  obtain⟨c,t⟩:=I.ok.has x (.inl J);obtain⟨w',z⟩:=I.cell x c t;refine wpAny_storeName_cell I.ok.kind J t z (λh' R f=>?_);obtain⟨oc,Z,aa⟩:=id z;refine h { s with heap:=h' } ⟨I.ok,I.os,I.bare,⟨λb o e n L hx=>?_,λb o e n L hx=>?_,I.O8.free,λb o e hx=>?_,I.O8.tups,I.O8.frzs,I.O8.tbls⟩,⟨m,hn.sameBut f (Ne.symm (cne x c t)),λj y v' l F e3=>?_⟩,λy c' e=>?_,I.free,I.freeC,λp U=>?_,tracked ⟨oc,Z,I.freeC x c t⟩ f,by simpa using I.len⟩ ⟨c,f,.inr t⟩
  ·exact(f.2 b (A6 (Av (Ao e) (I.ok.cab x c O t)))).trans (I.O8.keep b o e n L hx)
  ·obtain⟨sl,l⟩:=I.O8.slot b o e n L hx;exact⟨sl,(f.2 b (A6 (Av (Ao e) (I.ok.cab x c O t)))).trans l⟩
  ·obtain⟨o',l⟩:=I.O8.there b o e hx;exact⟨o',(f.2 b (A6 (Av (Ao e) (I.ok.cab x c O t)))).trans l⟩
  ·by_cases P:j=i
   ·subst P;rw[hi]at l;cases l;rw[Ar hiσ]at F;cases F;exact⟨u,r,.inr ⟨.inl J,c,t,R⟩⟩
   ·rw[Ak (Ne.symm P)]at F;obtain⟨u',r',q⟩:=hl j y v' l F e3;refine⟨u',r',?_⟩;rcases q with q|⟨k,c',e,z'⟩
    ·exact .inl q
    ·refine .inr ⟨k,c',e,z'.sameBut f ?_⟩;rintro rfl;exact P (UE hN l (I.ok.inj _ _ _ e t▸hi))
  ·by_cases T:c'=c
   ·subst T;exact⟨_,R⟩
   ·obtain⟨w2,z2⟩:=I.cell y c' e;exact⟨w2,z2.sameBut f T⟩
  ·obtain⟨e,n,ne,nf,d⟩:=I.pin p U;refine⟨(f.2 p.1 ?_).trans e,n,ne,nf,d⟩;intro q;rw[q,Z]at e;have q':oc=p.2:=Aj e;exact d w' (by rw[<- q'];exact aa)
theorem U0{M:Model}{A:Around}{E:C2}{i:Nat}{x:Str}{v:V}{u:Value}{Q:Unit->Shared->Prop}(I:Inv X O9 σ H s)(a:X.N.Nodup)(hi:X.N[i]?=some x)(hx:Loc X.env.scope x)(r:RelV v u)
  (h:∀s',Inv X O9 (σ.set i (some v)) H s'->Q () s') (hf:X.fn x=true∨X.env.scope.names.lookup x=some .local:=by first|exact .inl rfl|exact .inr rfl|assumption):wpAny M A (storeName X.env x u) Q E s :=
 yQ I a hi hx r (λs' I' _=>h s' I') hf
theorem Inv.call'{s':Shared}{ch:C9}(I:Inv X O9 σ H s)(d:s'.os=s.os)(u:Un (frs X.stack) ch H H' s.heap s'.heap)(hok:HOk X.prog X.w H' s'.heap)(a:AllBare s'.gens)
  (hch:∀b∈ch,(b∈X.ex∨X.s₀.heap.objs.size<=b)/\b≠X.env.locals/\(∀x c,X.env.cells.lookup x=some c->c≠b)/\∀p∈X.pn++O9,p.1≠b):Inv X O9 σ H' s':=by
 obtain⟨h',g',d',t',o'⟩:=s';have e:o'=s.os:=d;subst e;exact I.call (g':=g') (t':=t') (d':=d') u hok a hch
end
abbrev XK:=Value->Option Addr->Hp->Prop
abbrev St:=List (Option V)
abbrev VK:=V->Hp->Prop
abbrev TE:=St->Hp->VK->Prop
abbrev TT:=St->Hp->(Bool->Hp->Prop)->Prop
abbrev TA:=St->Hp->(List V->Hp->Prop)->Prop
structure xY where
 nx:St->Hp->Prop
 rt:VK
 bk:St->Hp->Prop:=λ_ _=>False
 ct:St->Hp->Prop:=λ_ _=>False
abbrev TS:=xY->St->Hp->Prop
def EP(X:Cx)(a:C4)(σ:St)(Q:VK)(u:Value)(s':Shared):Prop:=∃v H',Inv X a σ H' s'/\RelV v u/\Q v H'
def TP(X:Cx)(a:C4)(σ:St)(Q:Bool->Hp->Prop)(b:Bool)(s':Shared):Prop:=∃H',Inv X a σ H' s'/\Q b H'
def AP(X:Cx)(a:C4)(σ:St)(Q:List V->Hp->Prop)(us:List Value)(s':Shared):Prop:=∃vs H',Inv X a σ H' s'/\Vals vs us/\Q vs H'
def SP(X:Cx)(a:C4)(D:xY)(f:Flow)(s':Shared):Prop :=
 match f with
 |.next=>∃σ' H',Inv X a σ' H' s'/\D.nx σ' H'
 |.brk=>∃σ' H',Inv X a σ' H' s'/\D.bk σ' H'
 |.cont=>∃σ' H',Inv X a σ' H' s'/\D.ct σ' H'
 |.ret u=>∃v σ' H',Inv X a σ' H' s'/\RelV v u/\D.rt v H'
def PE(X:Cx)(e:Expr)(t:TE):Prop :=
 ∀(a:C4)(s:Shared)(σ:St)(H:Hp)(Q:VK),Inv X a σ H s->t σ H Q->wpAny (model X.prog X.w) X.A (eval e X.env) (EP X a σ Q) X.xe s
def PT(X:Cx)(e:Expr)(t:TT):Prop :=
 ∀(O9:C4)(s:Shared)(σ:St)(H:Hp)(Q:Bool->Hp->Prop),Inv X O9 σ H s->t σ H Q->wpAny (model X.prog X.w) X.A (isTrue e X.env (eval e X.env)) (TP X O9 σ Q) X.xe s
def PW(X:Cx)(e:Expr)(t:TT):Prop :=
 ∀(whole:Sem Value)(O9:C4)(s:Shared)(σ:St)(H:Hp)(Q:Bool->Hp->Prop),Inv X O9 σ H s->t σ H Q->wpAny (model X.prog X.w) X.A (isTrue e X.env whole) (TP X O9 σ Q) X.xe s
def PA(X:Cx)(es:List Expr)(t:TA):Prop :=
 ∀(pos:Pos)(O9:C4)(s:Shared)(σ:St)(H:Hp)(Q:List V->Hp->Prop),Inv X O9 σ H s->t σ H Q->wpAny (model X.prog X.w) X.A (spliced (backTo pos (starEach es X.env))) (AP X O9 σ Q) X.xe s
def PS(X:Cx)(b:Stmt)(t:TS):Prop :=
 ∀(a:C4)(s:Shared)(σ:St)(H:Hp)(D:xY),Inv X a σ H s->t D σ H->wpAny (model X.prog X.w) X.A (exec b X.env) (SP X a D) X.xe s
def PSs(X:Cx)(b:List Stmt)(t:TS):Prop :=
 ∀(a:C4)(s:Shared)(σ:St)(H:Hp)(D:xY),Inv X a σ H s->t D σ H->wpAny (model X.prog X.w) X.A (execs b X.env) (SP X a D) X.xe s
def thn{α:Type}{t:Sem α}{Q Q':α->Shared->Prop}{M:Model}{A:Around}{E:C2}{s:Shared}(h:wpAny M A t Q E s)(b:∀a s,Q a s->Q' a s):wpAny M A t Q' E s:=wpAny_mono h b λ_ _ x=>x
section
variable{X:Cx}
theorem bin{a b:Expr}{j l:TE}(m:PE X a j)(n:PE X b l){d:C4}{s:Shared}{σ:St}{H:Hp}{R:V->V->Hp->Prop}(I:Inv X d σ H s)(h:j σ H λx i=>l σ i λy c=>R x y c)
  {α:Type} {Q:α->Shared->Prop} {f:Value->Value->Sem α}
  (hf:∀v u e x y c,Inv X d σ c e->RelV x v->RelV y u->R x y c->wpAny (model X.prog X.w) X.A (f v u) Q X.xe e) :
  wpAny (model X.prog X.w) X.A (eval a X.env) (λv s₁=>wpAny (model X.prog X.w) X.A (eval b X.env) (λu s₂=>wpAny (model X.prog X.w) X.A (f v u) Q X.xe s₂) X.xe s₁) X.xe s:=by
 refine thn (m d s σ H _ I h) λv o ⟨x,i,I1,r1,q1⟩=>?_;refine thn (n d o σ i _ I1 q1) λu e ⟨y,c,I2,r2,q2⟩=>?_;exact hf v u e x y c I2 r1 r2 q2
def wC(i:Nat):TE:=λσ H Q=>∃v,σ[i]?=some (some v)/\Q v H
def tC(v:V):TE:=λ_ H Q=>Q v H
theorem KA{i:Nat}{x:Str}{j:Pos}(q:X.N[i]?=some x)(C:Vis X.env.scope x)(hd:(x==("__debug__" : Str))=false:=by decide)(f:(x==("__classdict__" : Str))=false:=by decide):PE X (.Name x j) (wC i):=by
 intro o s σ H Q I h;obtain⟨v,e,h⟩:=h;obtain⟨m,z,t⟩:=I.loc;obtain⟨u,r,l⟩:=t i x v q e C;have b:EP X o σ Q u s:=⟨v,H,I,r,h⟩;rcases l with ⟨d,y⟩|⟨d,c,n,a⟩
 ·exact wpAny_Name (wpAny_loadName_local I.ok.kind d z y b) hd
 ·rcases d with d|d
  ·exact wpAny_Name (wpAny_loadName_cell I.ok.kind d n a b) hd
  ·exact wpAny_Name (wpAny_loadName_free I.ok.kind d n a b f) hd
def Mp{i j pos}:PE X (.Constant (.int i) j pos) (tC (.int i)):=λ_ _ _ H _ I h=>wpAny_Constant_int ⟨.int i,H,I.tok _,⟨_,rfl⟩,h⟩
def HY{b j pos}:PE X (.Constant (.bool b) j pos) (tC (.bl b)):=λ_ _ _ H _ I h=>Constant_bool ⟨.bl b,H,I,rfl,h⟩
def Ml{j pos}:PE X (.Constant .none j pos) (tC .non):=λ_ _ _ H _ I h=>Constant_none ⟨.non,H,I,rfl,h⟩
def Mj{x j pos}:PE X (.Constant (.str x) j pos) (tC (.str x)):=λ_ _ _ H _ I h=>Calls.Constant_str ⟨.str x,H,I.tok _,⟨_,rfl⟩,h⟩
def Gl(X:Cx)(x:Str):Prop:=X.env.kindOf x=some .globalImplicit
theorem jr{E:C2}{b:C4}{s:Shared}{σ:St}{H:Hp}{x:Str}{u:Value}{a:Pos}{Q:C2}(I:Inv X b σ H s)(c:Gl X x)(d:X.mg x=some u)(h:Q u s)
  (hd:(x==("__debug__" : Str))=false:=by decide):wpAny (model X.prog X.w) X.A (eval (.Name x a) X.env) Q E s :=
 Calls.Name_function_global I.ok.kind c (Calls.loadGlobal_global (by rw[I.ok.glob];exact I.mod.glob.keeps I.bk) d h) hd
theorem XL{E:C2}{b:C4}{s:Shared}{σ:St}{H:Hp}{x:Str}{u:Value}{a:Pos}{Q:C2}(I:Inv X b σ H s)(e:Gl X x)(f:X.mg x=none)(i:bootBuiltins x=some u)(h:Q u s)
  (hn:x ≠ "__name__" := by decide) (hd:(x==("__debug__" : Str))=false:=by decide):wpAny (model X.prog X.w) X.A (eval (.Name x a) X.env) Q E s:=by
 obtain⟨mb,c,d⟩:=I.mod.blt;exact Calls.Name_function_global I.ok.kind e (Calls.loadGlobal_builtin (by rw[I.ok.glob];exact I.mod.glob.keeps I.bk) f (by rw[I.ok.blt];exact c.keeps I.bk) ((d x hn).trans i) h) hd
theorem Ph{x:Str}{v:V}{u:Value}{a:Pos}(b:Gl X x)(c:X.mg x=some u)(r:RelV v u)(hd:(x==("__debug__" : Str))=false:=by decide):PE X (.Name x a) (tC v) :=
 λ_ _ _ H _ I h=>jr I b c ⟨v,H,I,r,h⟩ hd
theorem Pq{x:Str}{v:V}{u:Value}{a:Pos}(b:Gl X x)(c:X.mg x=none)(e:bootBuiltins x=some u)(r:RelV v u)(d:x ≠ "__name__" := by decide)(hd:(x==("__debug__" : Str))=false:=by decide):PE X (.Name x a) (tC v) :=
 λ_ _ _ H _ I h=>XL I b c e ⟨v,H,I,r,h⟩ d hd
variable{a b:Expr}{ta tb:TE}{pos:Pos}
def PC(X:Cx)(d:CmpOp)(a b:Expr)(t:TE):Prop :=
  ∀(c : List (Addr × Obj))(s : Shared)(σ : St)(H : Hp)(Q : VK), Inv X c σ H s -> t σ H Q ->
    wpAny (model X.prog X.w) X.A (eval a X.env) (λv s₁=>wpAny (model X.prog X.w) X.A (eval b X.env) (λu s₂=>wpAny (model X.prog X.w) X.A (compareOp d v u) (EP X c σ Q) X.xe s₂) X.xe s₁) X.xe s
theorem kr(b:Expr){c:CmpOp}(h:c≠.In)(f:c≠.NotIn):behindInMarks c b=false:=by
 have d:(c==CmpOp.In)=false:=by cases c<;>first|rfl|exact absurd rfl h
 have e:(c==CmpOp.NotIn)=false:=by cases c<;>first|rfl|exact absurd rfl f
 cases b<;>simp[behindInMarks,d,e]
def tB(t:TE):TT:=λσ H Q=>t σ H λx H1=>∃c,x=.bl c/\Q c H1
theorem Wh{f:CmpOp}{t:TE}(h:PC X f a b t)(e:behindInMarks f b=false:=by first|exact kr _ (by decide) (by decide)|rfl):PT X (.Compare a [f] [b] pos) (tB t):=by intro i s σ H Q I hw;refine wpAny_isTrue_Compare1 (thn (h i s σ H _ I hw) λv l e=>thn e λu m j=>thn j λc n ⟨x,H1,I1,r1,q1⟩=>?_) e;obtain⟨d,rfl,q⟩:=q1;cases r1;exact wpAny_truthy_bool ⟨H1,I1,q⟩
theorem Lz{e:Expr}{t:TE}(h:PE X e t)(f:∀whole,isTrue e X.env whole=(do let v <- whole;standAt e.pos;holding [v] (truthy v)):=by intro _;rfl):PT X e (tB t):=by intro c s σ H Q I hw;refine isTrue_plain (thn (h c s σ H _ I hw) λv i ⟨x,H1,I1,r1,q1⟩=>?_) (f _);obtain⟨d,rfl,q⟩:=q1;cases r1;exact wpAny_truthy_bool ⟨H1,I1,q⟩
variable{tA tB':TT}{rest:List Expr}
def Ht(t u:TT):TT:=λσ H Q=>t σ H λc H1=>if c=true then u σ H1 Q else Q false H1
def tOr(t u:TT):TT:=λσ H Q=>t σ H λc H1=>if c=true then Q true H1 else u σ H1 Q
def Hi(t:TT):TT:=λσ H Q=>t σ H λc H1=>Q (!c) H1
theorem Rr(d:PT X a tA):PW X (.BoolOp .And [a] pos) tA:=by
 intro i O9 s σ H Q I h;refine isTrue_and (thn (d O9 s σ H Q I h) λc f e=>?_);cases c with
 |true=>exact isTrue_and_nil e
 |false=>exact e
theorem Lx(d:PT X a tA):PW X (.BoolOp .Or [a] pos) tA:=by
 intro i O9 s σ H Q I h;refine isTrue_or (thn (d O9 s σ H Q I h) λc f e=>?_);cases c with
 |false=>exact isTrue_or_nil e
 |true=>exact e
theorem Ly(e:PT X a tA)(f:PW X (.BoolOp .And (b::rest) pos) tB'):PW X (.BoolOp .And (a::b::rest) pos) (Ht tA tB'):=by
 intro j O9 s σ H Q I h;refine isTrue_and (thn (e O9 s σ H _ I h) λc i ⟨d,I1,q1⟩=>?_);cases c with
 |true=>exact f j O9 i σ d Q I1 q1
 |false=>exact⟨d,I1,q1⟩
theorem HD(e:PT X a tA)(f:PW X (.BoolOp .Or (b::rest) pos) tB'):PW X (.BoolOp .Or (a::b::rest) pos) (tOr tA tB'):=by
 intro j O9 s σ H Q I h;refine isTrue_or (thn (e O9 s σ H _ I h) λc i ⟨d,I1,q1⟩=>?_);cases c with
 |true=>exact⟨d,I1,q1⟩
 |false=>exact f j O9 i σ d Q I1 q1
theorem LC(e:PT X a tA):PT X (.UnaryOp .Not a pos) (Hi tA):=by intro d s σ H Q I h;exact isTrue_not (e d s σ H (λc H1=>Q (!c) H1) I h)
end
def SqL(K:Aa)(H:Hp)(a:Addr)(xs:List V):Prop :=
 Rd H a (.lst xs) ∨
  ∃(o:Obj) (b:Array Value) (n:Nat),K.lookup a=some o/\o.cls=.type "list" /\ o.dict=none/\o.data=.seq b n/\b.size<=sizeLine/\Vals xs b.toList
def SqT(K:Aa)(H:Hp)(a:Addr)(xs:List V):Prop :=
 Rd H a (.tup xs) ∨
  ∃(o:Obj) (b:Array Value) (n:Nat),K.lookup a=some o/\o.cls=.type "tuple" /\ o.data=.seq b n/\b.size<=sizeLine/\Vals xs b.toList
def IK:Value->Option V
 |.none=>some .non
 |.bool b=>some (.bl b)
 |.int i _=>some (.int i)
 |.str x _=>some (.str x)
 |.bytes b _=>some (.byt b)
 |.float b _=>some (.flt b)
 |.ref a=>some (.ref a)
 |.type n=>some (.ty n)
 |_=>none
theorem RelV.abs{x:V}{u:Value}(r:RelV x u):IK u=some x:=by
 cases x with
 |non=>cases r;rfl
 |bl _=>cases r;rfl
 |int _=>obtain⟨t,rfl⟩:=r;rfl
 |str _=>obtain⟨t,rfl⟩:=r;rfl
 |byt _=>obtain⟨t,rfl⟩:=r;rfl
 |flt _=>obtain⟨t,rfl⟩:=r;rfl
 |ref _=>cases r;rfl
 |ty _=>cases r;rfl
def RelV.inj{x y:V}{u:Value}(r:RelV x u)(q:RelV y u):x=y:=Aj (r.abs.symm.trans q.abs)
theorem Vals.inj:∀{xs ys:List V}{us:List Value},Vals xs us->Vals ys us->xs=ys
 |_,_,_,.nil,.nil=>rfl
 |_,_,_,.cons r t,.cons a t'=>by rw[r.inj a,Vals.inj t t']
section
variable{X:Cx}{O9:C4}{σ:St}{H:Hp}{s:Shared}{a:Addr}{xs ys:List V}
def SqL.of{K:Aa}(h:H a=some (.lst xs)):SqL K H a xs:=.inl (.inl h)
def SqT.of{K:Aa}(h:H a=some (.tup xs)):SqT K H a xs:=.inl (.inl h)
theorem Inv.list(I:Inv X O9 σ H s)(h:SqL X.K H a xs):∃b:List Value,Vals xs b/\PlainL s.heap a b.toArray/\xs.length<=sizeLine:=by
 rcases h with h|⟨o,b,n,d,c,hd,f,hz,r⟩
 ·obtain⟨z,b,n,r,e⟩:=h.ok I.hok;exact⟨b,r,⟨_,n,e,rfl,rfl,rfl⟩,z⟩
 ·refine⟨b.toList,r,⟨o,n,I.kIn a o d,c,hd,by simpa using f⟩,?_⟩;have e:=r.length;simp only[Bx]at e;lia
theorem Inv.tuple(I:Inv X O9 σ H s)(h:SqT X.K H a xs):∃b:List Value,Vals xs b/\IsTup s.heap a b.toArray/\xs.length<=sizeLine:=by
 rcases h with h|⟨o,b,n,d,c,f,hz,r⟩
 ·obtain⟨z,b,r,p⟩:=h.ok I.hok;exact⟨b,r,p,z⟩
 ·refine⟨b.toList,r,⟨o,I.kIn a o d,c,n,by simpa using f⟩,?_⟩;have e:=r.length;simp only[Bx]at e;lia
theorem Inv.list_inj(I:Inv X O9 σ H s)(h:SqL X.K H a xs)(h':SqL X.K H a ys):xs=ys:=by
 obtain⟨b,r,⟨o,n,e,_,_,d⟩,_⟩:=I.list h;obtain⟨its',i,⟨o',j,c,_,_,d'⟩,_⟩:=I.list h';rw[e]at c;cases c;rw[d]at d';injection d' with f _;have:b=its':=by simpa using congrArg Array.toList f
 subst this;exact r.inj i
end
abbrev Cx.wish(X:Cx)(E:C2):Cx:={ X with xe:=E }
abbrev Cx.nox(X:Cx):Cx:=X.wish λ_ _=>False
theorem Cx.Ok.wish{X:Cx}(ok:X.Ok)(E:C2):(X.wish E).Ok :=
 ⟨ok.mod,ok.kind,ok.glob,ok.blt,ok.above,ok.inj,ok.has,ok.cab,ok.hd,ok.frames,ok.stk,ok.exf,ok.bs,ok.bsz,ok.noex,ok.exfs,ok.funs,ok.frf⟩
theorem Cx.Ok.unwish{X:Cx}{E:C2}(ok:(X.wish E).Ok):X.Ok :=
 ⟨ok.mod,ok.kind,ok.glob,ok.blt,ok.above,ok.inj,ok.has,ok.cab,ok.hd,ok.frames,ok.stk,ok.exf,ok.bs,ok.bsz,ok.noex,ok.exfs,ok.funs,ok.frf⟩
section
variable{X:Cx}{O9:C4}{σ:St}{H:Hp}{s:Shared}{E:C2}
def Inv.wish(I:Inv X O9 σ H s)(E:C2):Inv (X.wish E) O9 σ H s:=⟨I.ok.wish E,I.os,I.bare,I.O8,I.loc,I.cell,I.free,I.freeC,I.pin,I.hok,I.len⟩
def Inv.unwish(I:Inv (X.wish E) O9 σ H s):Inv X O9 σ H s:=⟨I.ok.unwish,I.os,I.bare,I.O8,I.loc,I.cell,I.free,I.freeC,I.pin,I.hok,I.len⟩
theorem SP.unwish{D:xY}{f:Flow}{s':Shared}(h:SP (X.wish E) O9 D f s'):SP X O9 D f s':=by
 cases f with
 |next=>obtain⟨σ',H',I,q⟩:=h;exact⟨σ',H',I.unwish,q⟩
 |brk=>obtain⟨σ',H',I,q⟩:=h;exact⟨σ',H',I.unwish,q⟩
 |cont=>obtain⟨σ',H',I,q⟩:=h;exact⟨σ',H',I.unwish,q⟩
 |ret u=>obtain⟨v,σ',H',I,r,q⟩:=h;exact⟨v,σ',H',I.unwish,r,q⟩
theorem PSs.nox{a:List Stmt}{t:TS}(h:PSs X.nox a t):PSs X a t:=λO9 s σ H D I b =>
 wpAny_mono (h O9 s σ H D (I.wish _) b) (λ_ _ q=>q.unwish) λ_ _ z=>False.elim z
end
section
variable{X:Cx}{st:Stmt}{rest:List Stmt}{t u:TS}{e:Expr}{te:TE}{pos:Pos}
def Ld:TS:=λD σ H=>D.nx σ H
def wD(t u:TS):TS:=λD σ H=>t { D with nx:=u D } σ H
def pss_nil:PSs X [] Ld:=λ_ _ σ H _ I h=>wpAny_execs_nil ⟨σ,H,I,h⟩
theorem kM(c:PS X st t)(d:PSs X rest u):PSs X (st::rest) (wD t u):=by
  intro a s σ H D I h;refine wpAny_execs_cons (thn (c a s σ H { D with nx:=u D } I h) λf i q=>?_);cases f with
  |next=>obtain⟨σ',H',b,q⟩:=q;exact d a i σ' H' D b q
  |ret v=>exact q
  |brk=>exact q
  |cont=>exact q
theorem Ox(b:PS X st t):PSs X [st] t:=by
 intro a s σ H D I h;refine wpAny_execs_cons (thn (b a s σ H D I h) λf c q=>?_);cases f with
 |next=>exact wpAny_execs_nil q
 |ret v=>exact q
 |brk=>exact q
 |cont=>exact q
theorem Inv.quiet{a:C4}{σ:St}{H:Hp}{s:Shared}(I:Inv X a σ H s):interactive X.env=false:=by simp[interactive,I.ok.kind]
def wO(te:TE):TS:=λD σ H=>te σ H λ_ H1=>D.nx σ H1
theorem GQ(b:PE X e te)(c:swapsWith e none pos.line X.env=pure false:=by rfl):PS X (.Expr e pos) (wO te):=by intro a s σ H D I h;exact wpAny_Expr_any (thn (b a s σ H _ I h) λv d ⟨x,H1,I1,r1,q1⟩=>⟨σ,H1,I1,q1⟩) I.quiet c
def Hg(te:TE):TS:=λD σ H=>te σ H D.rt
theorem LK(b:PE X e te):PS X (.Return (some e) pos) (Hg te):=by intro a s σ H D I h;exact wpAny_Return_some (thn (b a s σ H _ I h) λv c ⟨x,H1,I1,r1,q1⟩=>⟨x,σ,H1,I1,r1,q1⟩)
def Ho(c:TT)(t u:TS):TS:=λD σ H=>c σ H λb H1=>if b=true then t D σ H1 else u D σ H1
theorem HF{c:Expr}{a b:List Stmt}{l:TT}(o:PT X c l)(m:PSs X a t)(n:PSs X b u):PS X (.If c a b pos) (Ho l t u):=by
 intro f s σ H D I h;refine wpAny_If (thn (o f s σ H _ I h) λd j ⟨i,I1,q1⟩=>?_);cases d with
 |true=>exact m f j σ i D I1 q1
 |false=>exact n f j σ i D I1 q1
end
abbrev TG:=V->St->Hp->(St->Hp->Prop)->Prop
abbrev TGs:=List V->St->Hp->(St->Hp->Prop)->Prop
def PG(X:Cx)(target:Expr)(t:TG):Prop :=
  ∀(O9 : List (Addr × Obj))(s : Shared)(σ : St)(H : Hp)(v : V)(u : Value)(Q : St -> Hp -> Prop), Inv X O9 σ H s -> RelV v u -> t v σ H Q ->
    wpAny (model X.prog X.w) X.A (assign target X.env u) (λ_ s'=>∃σ' H',Inv X O9 σ' H' s'/\Q σ' H') X.xe s
def PGs(X:Cx)(a:List Expr)(t:TGs):Prop :=
  ∀(O9 : List (Addr × Obj))(s : Shared)(σ : St)(H : Hp)(vs : List V)(us : List Value)(Q : St -> Hp -> Prop), Inv X O9 σ H s -> Vals vs us -> t vs σ H Q ->
    wpAny (model X.prog X.w) X.A (assignInOrder ((assignEach a X.env).map (·.2)) us) (λ_ s'=>∃σ' H',Inv X O9 σ' H' s'/\Q σ' H') X.xe s
abbrev oA:=V->V->V->Hp->(Hp->Prop)->Prop
def oE(X:Cx)(t:oA):Prop :=
  ∀(O9 : List (Addr × Obj))(s : Shared)(σ : St)(H : Hp)(o i v : V)(ov iv u : Value)(Q : Hp -> Prop), Inv X O9 σ H s -> RelV o ov -> RelV i iv -> RelV v u -> t o i v H Q ->
    wpAny (model X.prog X.w) X.A (setItem ov iv u) (λ_ s'=>∃H',Inv X O9 σ H' s'/\Q H') X.xe s
section
variable{X:Cx}{pos:Pos}
def Gg(i:Nat):TG:=λv σ H Q=>Q (σ.set i (some v)) H
theorem VN{i:Nat}{x:Str}(b:X.N.Nodup)(hi:X.N[i]?=some x)(hx:Loc X.env.scope x)(hf:X.fn x=true∨X.env.scope.names.lookup x=some .local:=by first|exact .inl rfl|exact .inr rfl|assumption):PG X (.Name x pos) (Gg i):=by intro c s σ H v u Q I r h;exact wpAny_assign_Name (U0 I b hi hx r (λs' a=>⟨_,H,a,h⟩) hf)
def Ip:TGs:=λvs σ H Q=>vs=[]/\Q σ H
def Mv(t:TG)(u:TGs):TGs:=λvs σ H Q=>∃v r,vs=v::r/\t v σ H λσ' H'=>u r σ' H' Q
theorem Pb:PGs X [] Ip:=by intro a s σ H vs us Q I r h;obtain⟨e,h⟩:=h;subst e;cases r;exact assignInOrder_nil ⟨σ,H,I,h⟩
theorem kJ{e:Expr}{es:List Expr}{t:TG}{u:TGs}(c:PG X e t)(d:PGs X es u)
    (hs:(assignEach (e::es) X.env).map (·.2)=assign e X.env::(assignEach es X.env).map (·.2):=by rfl):PGs X (e::es) (Mv t u):=by
  intro a s σ H vs us Q I r h;obtain⟨v,i,b,h⟩:=h;subst b;cases r with
  |cons r rr=>rw[hs];refine assignInOrder_cons (thn (c a s σ H _ _ _ I r h) λ_ f ⟨σ1,H1,I1,q1⟩=>?_);exact d a f σ1 H1 _ _ Q I1 rr q1
def Il(K:Aa)(n:Nat)(t:TGs):TG:=λv σ H Q=>∃a xs,v=.ref a/\SqT K H a xs/\xs.length=n/\t xs σ H Q
theorem Mf{es:List Expr}{k:Nat}{t:TGs}{n:Nat}(l:X.calm=true)(h:PGs X es t)
  (hn:(assignEach es X.env).length=n:=by rfl) (hst:(assignEach es X.env).findIdx? (·.1)=none:=by rfl):PG X (.Tuple es k pos) (Il X.K n t):=by
 intro d s σ H v u Q I r c;obtain⟨a,xs,j,q,m,c⟩:=c;subst j;cases r;obtain⟨y,f,x,hz⟩:=I.tuple q;refine assign_Tuple_tuple (I.ok.hd l) x (by simp[hn,<- m,f.length]) hst λh' hx=>?_;have i:Inv X d σ H { s with heap:=h' }:=I.kept (t':=s.toks) λb o e=>hx b o (A6 (Ao e)) e;exact h d _ σ H xs _ Q i (by simpa using f) c
def Io(to b:TE)(t:oA):TG:=λv σ H Q=>to σ H λo H1=>b σ H1 λi H2=>t o i v H2 λa=>Q σ a
theorem Mg{o i:Expr}{to d:TE}{t:oA}(f:PE X o to)(hi:PE X i d)(j:oE X t)
  (ha:∀v,assign (.Subscript o i pos) X.env v=(do
   let a <- holding [v] (eval o X.env)
   let b <- holding [v,a] (eval i X.env)
   standAt pos
   holding [v,a,b] (setItem a b v)
   release [v,a,b] []):=by intro _;rfl):PG X (.Subscript o i pos) (Io to d t):=by
 intro c s σ H v u Q I r h;rw[ha];refine Cr (wpAny_holding (thn (f c s σ H _ I h) λa l ⟨x,H1,I1,r1,q1⟩=>?_));refine Cr (wpAny_holding (thn (hi c l σ H1 _ I1 q1) λb m ⟨y,H2,I2,r2,q2⟩=>?_));refine Cr (wpAny_standAt (Cr (wpAny_holding (thn (j c m σ H2 x y v a b u _ I2 r1 r2 r q2) λ_ n ⟨e,I3,q3⟩=>?_))));exact wpAny_release ⟨σ,e,I3,q3⟩
def nZ(te:TE)(g:TG):TS:=λD σ H=>te σ H λx H1=>g x σ H1 D.nx
theorem L_{a e:Expr}{te:TE}{g:TG}(c:PE X e te)(d:PG X a g)(f:swapsWithSole [a] e pos.line X.env=pure false:=by rfl)(i:swappedStores [a] e X.env=pure none:=by rfl)
  (h1:(assignEach [a] X.env).map (·.2)=[assign a X.env]:=by rfl):PS X (.Assign [a] e pos) (nZ te g):=by
 intro b s σ H D I h;refine wpAny_Assign_stores (thn (c b s σ H _ I h) λv j ⟨x,H1,I1,r1,q1⟩=>?_) f i;rw[h1];exact thn (d b j σ H1 x v _ I1 r1 q1) λ_ l q=>q
theorem kL{i:Nat}{x:Str}{e:Expr}{te:TE}{a:Pos}(d:X.N.Nodup)(hi:X.N[i]?=some x)(hx:Loc X.env.scope x)(f:PE X e te)(j:swapsWith e (some (.Name x a)) pos.line X.env=pure false:=by rfl)(hf:X.fn x=true∨X.env.scope.names.lookup x=some .local:=by first|exact .inl rfl|exact .inr rfl|assumption) :
  PS X (.Assign [.Name x a] e pos) (nZ te (Gg i)):=by
 intro c s σ H D I h;refine wpAny_Assign_Name (thn (f c s σ H _ I h) λv l ⟨y,H1,I1,r1,q1⟩=>?_) j;exact U0 I1 d hi hx r1 (λm b=>⟨_,H1,b,q1⟩) hf
end
section
variable{X:Cx}{pos:Pos}
end
structure It where
 go:Nat->Hp->Prop
 yld:Nat->Hp->V->Hp->Prop
 stop:Nat->Hp->Prop
def U9(X:Cx)(a:C4)(H:Hp)(b:Addr):Prop :=
 H b=none/\b≠X.env.locals/\b∉X.fs/\(b∈X.ex∨X.s₀.heap.objs.size<=b)/\(∀x c,X.env.cells.lookup x=some c->c≠b)/\∀p∈X.pn++a,p.1≠b
theorem Inv.fpOk{X:Cx}{d:C4}{σ:St}{H H':Hp}{s:Shared}{b:Addr}(I:Inv X d σ H s)(a:s.heap.objs.size<=b)(f:H' b=none):U9 X d H' b:=by
 refine⟨f,Cn (Av I.lt a),I.nofs a,.inr (A9 I.sz a),λx c e z=>?_,λp U z=>?_⟩
 ·obtain⟨v,q⟩:=I.cell x c e;exact absurd (Av q.lt (by rw[z];exact a)) (Cf _)
 ·exact absurd (Av (Ao (I.pin p U).1) (by rw[z];exact a)) (Cf _)
structure rE(P:Program)(w:World)(K:Aa)(tg:Expr)(J:It)(fp:C9)(it:Addr)(tn:Nat->Heap->Prop):Prop where
 mem:it∈fp
 obj:∀i h,tn i h->∀b∈fp,∃o,h.get? b=some o/\∀v,o.data≠.cell v
 keep:∀i h h',tn i h->(∀b∈fp,∀o,h.get? b=some o->h'.get? b=some o)->tn i h'
 item:∀(X:Cx),X.prog=P->X.w=w->X.K=K->X.calm=true->∀(i:Nat)(O9:C4)(s:Shared)(σ:St)(H:Hp)(E:C2),Inv X O9 σ H s->(∀b∈fp,U9 X O9 H b)->tn i s.heap->J.go i H ->
  wpAny (model P w) X.A (pyNext (.ref it)) (λr s1=>∃u,r=some u /\
   wpAny (model P w) X.A (letOwnedTupleGo tg (.ref it) u) (λ_ s2=>∃x H',Inv X O9 σ H' s2/\RelV x u/\J.yld i H x H'/\tn (i+1) s2.heap/\∀b∈fp,H' b=none) E s1) E s
 done:∀(X:Cx),X.prog=P->X.w=w->X.K=K->X.calm=true->∀(i:Nat)(O9:C4)(s:Shared)(σ:St)(H:Hp)(E:C2),Inv X O9 σ H s->(∀b∈fp,U9 X O9 H b)->tn i s.heap->J.stop i H ->
  wpAny (model P w) X.A (pyNext (.ref it)) (λr s1=>r=none/\Inv X O9 σ H s1) E s
 self:∀(A:Around)(i:Nat)(s:Shared)(Q:C2)(E:C2),tn i s.heap->Q (.ref it) s->wpAny (model P w) A (pyIter (.ref it)) Q E s
abbrev TI:=St->Hp->(It->Hp->Prop)->Prop
def PIE(X:Cx)(c:C4)(σ:St)(e:Expr)(R:It->Hp->Prop)(a:Value)(d:Shared):Prop :=
 ∃(it:Addr)(fp:C9)(tn:Nat->Heap->Prop)(J:It)(H':Hp),a=.ref it/\Inv X c σ H' d/\rE X.prog X.w X.K e J fp it tn/\tn 0 d.heap/\(∀b∈fp,U9 X c H' b)/\R J H'
def PI(X:Cx)(c a:Expr)(d:TI):Prop :=
  ∀(O9 : List (Addr × Obj))(s : Shared)(σ : St)(H : Hp)(R : It -> Hp -> Prop), Inv X O9 σ H s -> d σ H R ->
    wpAny (model X.prog X.w) X.A (eval a X.env) (λv b=>wpAny (model X.prog X.w) X.A (pyIter v) (PIE X O9 σ c R) X.xe b) X.xe s
theorem BW{M:Model}{A:Around}{E:C2}{s:Shared}{b:Expr}{a:Addr}{u:Value}{o:Obj}{n:String}{vs:Array Value}{Q:Unit->Shared->Prop}(d:s.heap.get? a=some o)(c:o.cls=.type n)(hd:o.data=.fields vs)
    (hn:["enumerate", "zip", "dict_itemiterator", "dict_reverseitemiterator", "odict_iterator", "itertools.zip_longest", "itertools.pairwise"].contains n=false) (hQ:Q () s):wpAny M A (letOwnedTupleGo b (.ref a) u) Q E s:=by
  unfold letOwnedTupleGo;cases b<;>first
    |exact Cu hQ
    | (cases u<;>first
        |exact Cu hQ
        | (refine Cr (wpAny_load d ?_)
           rw[c,hd];show wpAny M A (if (["enumerate", "zip", "dict_itemiterator", "dict_reverseitemiterator", "odict_iterator", "itertools.zip_longest", "itertools.pairwise"].contains n&&vs[0]?==some (rawInt _))=true then _ else _) Q E s;rw[Cs (by intro h;rw[hn,Bool.false_and]at h;cases h)];exact Cu hQ))
def Itl(K:Aa)(a:Addr):It :=
 ⟨λi H=>∃xs x,SqL K H a xs/\xs[i]?=some x,λi H x H'=>H'=H/\∀xs,SqL K H a xs->xs[i]?=some x,λi H=>∃xs,SqL K H a xs/\xs.length<=i⟩
def Itr(lo:Int)(n:Nat):It:=⟨λi _=>i<n,λi H x H'=>H'=H/\x=.int (lo+i),λi _=>n<=i⟩
theorem uz{P:Program}{w:World}{K:Aa}{tg:Expr}(a l:Addr):rE P w K tg (Itl K a) [l] l (λi h=>h.IsListIter l a i) where
 mem:=by simp
 obj:=λi h f b j=>by
  have e:b=l:=by simpa using j
  subst e;obtain⟨o,e,c,d⟩:=f;exact⟨o,e,λv z=>by rw[d]at z;cases z⟩
 keep:=λi h h' f k=>f.at λo e=>k l (by simp) o e
 item:=by intro X J L F R i O9 s σ H E I hf f hg;subst J L F;obtain⟨xs,x,n,hx⟩:=hg;obtain⟨O,Q,p,hz⟩:=I.list n;obtain⟨u,Z,ru⟩:=Q.get hx;obtain⟨q,r,Y,t,y,C⟩:=hf l (by simp);refine wpAny_pyNext_list_item f p.isList (x:=u) (by simpa using Z) λh' m sb=>?_;have T:Inv X O9 σ H { s with heap:=h' }:=I.turned (t':=s.toks) (λb o j e=>(sb.2 b j).trans e) q r t y C;obtain⟨o,e,c,d⟩:=id m;exact⟨u,rfl,BW (s:={ s with heap:=h' }) e c d (by decide) ⟨x,H,T,ru,⟨rfl,λys hy=>by rw[I.list_inj hy n];exact hx⟩,m,λb j=>(hf b j).1⟩⟩
 done:=by intro X J L F R i O9 s σ H E I hf f hg;subst J L F;obtain⟨xs,n,hx⟩:=hg;obtain⟨O,Q,p,hz⟩:=I.list n;obtain⟨q,r,Y,t,y,C⟩:=hf l (by simp);have hl:=Q.length;exact wpAny_pyNext_list_end (I.ok.hd R) f p.isList (by simp;lia) λh' U=>⟨rfl,I.turned (t':=s.toks) (λb o j e=>U b o j e) q r t y C⟩
 self:=λ_ _ _ _ _ f h=>wpAny_pyIter_listiter f h
theorem KR{P:Program}{w:World}{K:Aa}{R:Expr}(c:Addr)(lo:Int)(n:Nat):rE P w K R (Itr lo n) [c] c (λi h=>IsRangeIter h c (lo+(i:Nat) * 1) ((n:Int)-(i:Nat)) 1) where
 mem:=by simp
 obj:=λi h a b d=>by
  have e:b=c:=by simpa using d
  subst e;exact⟨_,a,λv z=>by have T:Data.fields _=Data.cell v:=z;cases T⟩
 keep:=λi h h' a k=>k c (by simp) _ a
 item:=by intro X x C u y i O9 s σ H E I hf a hg;subst x C u;obtain⟨j,l,L,m,q,r⟩:=hf c (by simp);have W:=Walks.range (prog:=X.prog) (w:=X.w) (I.ok.hd y) c lo 1 n;refine W.item i s _ _ hg a λv h' tk O f Q=>?_;obtain⟨t,rfl⟩:=O;have F:Inv X O9 σ H { s with heap:=h',toks:=tk }:=I.turned (λb o d e=>Q b o (by simpa using d) e) j l m q r;refine⟨_,rfl,BW (s:={ s with heap:=h',toks:=tk }) (n := "range_iterator") f rfl rfl (by decide) ⟨.int (lo+i),H,F,⟨t,?_⟩,⟨rfl,rfl⟩,f,λb d=>(hf b d).1⟩⟩;rw[Int.mul_one]
 done:=by intro X x C u y i O9 s σ H E I hf a hg;subst x C u;obtain⟨j,l,L,m,q,r⟩:=hf c (by simp);exact wpAny_pyNext_range_end (I.ok.hd y) a (by have:n<=i:=hg;lia) λh' J=>⟨rfl,I.turned (t':=s.toks) (λb o d e=>J b o d e) j l m q r⟩
 self:=λ_ _ _ _ _ a h=>wpAny_pyIter_rangeiter a h
section
variable{X:Cx}{tg:Expr}
def Nk(K:Aa)(b:TE):TI:=λσ H R=>b σ H λx H1=>∃a,x=.ref a/\(∃xs,SqL K H1 a xs)/\R (Itl K a) H1
theorem Pa{l:Expr}{d:TE}(j:PE X l d):PI X tg l (Nk X.K d):=by
 intro f s σ H R I h;refine thn (j f s σ H _ I h) λv c ⟨x,H1,I1,r1,q1⟩=>?_;obtain⟨a,e,⟨xs,m⟩,q⟩:=q1;subst e;cases r1;obtain⟨n,r,p,hz⟩:=I1.list m;refine wpAny_pyIter_list p.isList ?_;refine⟨c.heap.objs.size,[c.heap.objs.size],_,_,H1,rfl,I1.kept (t':=c.toks) λb o e=>Ad _ e,uz a _,⟨_,As _ rfl,rfl,rfl⟩,λb i=>?_,q⟩;have e:b=c.heap.objs.size:=by simpa using i
 subst e;exact I1.fpOk (Ae _) (I1.hok.fresh (Ae _))
theorem kQ{c:C4}{σ:St}{H:Hp}{s:Shared}{R:It->Hp->Prop}{E:C2}{lo hi:Int}{t u v:Tok}{tk:Nat}(I:Inv X c σ H s)(h:-(2 ^ 62)<=lo)(i:lo<2 ^ 62)(j:-(2 ^ 62)<=hi)(l:hi<2 ^ 62)
  (q:R (Itr lo (hi-lo).toNat) H):wpAny (model X.prog X.w) X.A (pyIter (.ref s.heap.objs.size)) (PIE X c σ tg R) E { s with heap:=s.heap.push { cls:=.type "range", data:=.fields #[.int lo t,.int hi u,.int 1 v] },toks:=tk }:=by
 refine wpAny_pyIter_range (IsRange.new ..) (small_one h i j l) ?_;have a:Inv X c σ H { s with heap:=s.heap.push { cls:=.type "range", data:=.fields #[.int lo t,.int hi u,.int 1 v] },toks:=tk }:=I.kept λb o e=>Ad _ e;refine⟨(s.heap.push { cls:=.type "range", data:=.fields #[.int lo t,.int hi u,.int 1 v] }).objs.size,[(s.heap.push { cls:=.type "range", data:=.fields #[.int lo t,.int hi u,.int 1 v] }).objs.size],_,_,H,rfl,
  a.kept (t':=tk) λb o e=>Ad _ e,KR _ lo (hi-lo).toNat,?_,λb m=>?_,q⟩
 ·have d:lo+((0:Nat):Int) * 1=lo:=by simp
  have f:(((hi-lo).toNat:Nat):Int)-((0:Nat):Int)=Builtin.Range.rangeSize lo hi 1:=by rw[rangeSize_one];split<;>lia
  show IsRangeIter _ _ (lo+((0:Nat):Int) * 1) ((((hi-lo).toNat:Nat):Int)-((0:Nat):Int)) 1;rw[d,f];exact As _ rfl
 ·have e:b=(s.heap.push { cls:=.type "range", data:=.fields #[.int lo t,.int hi u,.int 1 v] }).objs.size:=by simpa using m
  subst e;exact a.fpOk (Ae _) (a.hok.fresh (Ae _))
def Nj(a:TA):TI:=λσ H R=>a σ H λvs H1=>∃j:Int,vs=[.int j] /\ -(2 ^ 62)<=j/\j<2 ^ 62/\R (Itr 0 j.toNat) H1
theorem vY{a:Expr}{d:TA}{p b:Pos}(l:Gl X "range")(m:X.mg "range" = none)(i:PA X [a] d)(n:starEach [a] X.env=[(false,eval a X.env)]:=by rfl):PI X tg (.Call (.Name "range" p) [a] [] b) (Nj d):=by
  intro f s σ H R I h;refine Call_ (XL I l m boot_range (PyProof.Rows.callWith_type1 (thn (i b f s σ H _ I h) λus u ⟨vs,H1,I1,r1,c⟩=>?_) n rfl));obtain⟨j,e,c,o,q⟩:=c;subst e;cases r1 with
  |cons r rr=>cases rr;obtain⟨t,rfl⟩:=r;exact call_range_1 (kQ I1 ⋯ ⋯ c o (by simpa using q))
def Hq(c:TI)(g:TG)(b:TS):TS:=λD σ H=>c σ H λJ H1=>∃W:Nat->Nat->St->Hp->Prop,(∃m,W 0 m σ H1)/\∀i m σ H,W i m σ H ->
 (J.stop i H/\D.nx σ H)∨(J.go i H/\∃N:St->Hp->Prop,(∀σ' H',N σ' H'->∃a,a<m/\W (i+1) a σ' H')/\∀x H',J.yld i H x H'->g x σ H' λσ2 H2=>b { D with nx:=N,ct:=N,bk:=D.nx } σ2 H2)
def xz(a:C9)(h:Heap):List (Addr×Obj):=a.filterMap λb=>(h.get? b).map λo=>(b,o)
theorem XM{a:C9}{h:Heap}{b:Addr}{o:Obj}(c:b∈a)(e:h.get? b=some o):(b,o)∈xz a h:=List.mem_filterMap.mpr ⟨b,c,by rw[e];rfl⟩
theorem vR{a:C9}{h:Heap}{p:Addr×Obj}(U:p∈xz a h):p.1∈a/\h.get? p.1=some p.2:=by
  obtain⟨b,d,e⟩:=List.mem_filterMap.mp U;cases q:h.get? b with
  |none=>rw[q]at e;cases e
  |some o=>rw[q]at e;have c:(b,o)=p:=Aj e;subst c;exact⟨d,q⟩
theorem Inv.pinned{a:C4}{σ:St}{H:Hp}{s:Shared}{c:C9}(I:Inv X a σ H s)(hf:∀b∈c,U9 X a H b)(m:∀b∈c,∃o,s.heap.get? b=some o/\∀v,o.data≠.cell v):Inv X (a++xz c s.heap) σ H s :=
 I.pins_of λp U=>(Ah.mp U).elim (λz=>I.pin p (Ai _ z)) λz=>by obtain⟨h,e⟩:=vR z;obtain⟨i,j,l,_⟩:=hf p.1 h;obtain⟨o,f,d⟩:=m p.1 h;rw[e]at f;cases f;exact⟨e,i,j,l,d⟩
def Inv.unpinned{a pl:C4}{σ:St}{H:Hp}{s:Shared}(I:Inv X (a++pl) σ H s):Inv X a σ H s:=I.pins_of λp U=>I.pin p (Ai _ (Ax _ U))
theorem LQ{l:Expr}{t:List Stmt}{wi:TI}{g:TG}{tb:TS}{Q:Pos}(U:PassesOwn (model X.prog X.w) X.A X.env X.xe)(hc:X.calm=true)(hi:PI X tg l wi)(hg:PG X tg g)(j:PSs X t tb)
  (hs:∀x,foldedSetIterable l X.env x=pure x:=by intro _;rfl):PS X (.For tg l t [] Q) (Hq wi g tb):=by
 intro z s σ H D I h;refine wpAny_For (thn (hi z s σ H _ I h) λv s1 h1=>thn h1 λaa s2 h2=>?_) hs;obtain⟨it,C,tn,J,H2,e,I2,T,Y,Z,W,⟨m0,w0⟩,L⟩:=h2;subst e;have q:∀{H':Hp},(∀b∈C,H' b=none)->∀b∈C,U9 X z H' b:=λhn b j=>⟨hn b j,(Z b j).2⟩;refine codeAny_forLoop_any (λn s'=>∃i σ' H',Inv X z σ' H' s'/\tn i s'.heap/\(∀b∈C,H' b=none)/\W i n σ' H') ?_ m0 ⟨0,σ,H2,I2,Y,λb j=>(Z b j).1,w0⟩;rintro n s3 ⟨i,σ3,H3,I3,st3,fr3,w3⟩;rcases L i n σ3 H3 w3 with ⟨stop,qn⟩|⟨go,N,hN,step⟩
 ·refine wpAny_passesOwn U (thn (T.done X rfl rfl rfl hc i z s3 σ3 H3 X.xe I3 (q fr3) st3 stop) λr s4 ⟨P,I4⟩=>?_);subst P;exact wpAny_execs_nil ⟨σ3,H3,I4,qn⟩
 ·refine wpAny_passesOwn U (thn (T.item X rfl rfl rfl hc i z s3 σ3 H3 X.xe I3 (q fr3) st3 go) λr s4 ⟨u,P,h4⟩=>?_);subst P;refine wpAny_passesOwn U (thn h4 λ_ s5 ⟨x,H5,I5,r5,y5,st5,fr5⟩=>?_);have O:=I5.pinned (q fr5) (T.obj _ _ st5);refine wpAny_passesOwn U (thn (hg _ s5 σ3 H5 x u _ O r5 (step x H5 y5)) λ_ s6 ⟨σ6,H6,I6,q6⟩=>?_);refine wpAny_passesOwn U (thn (j _ s6 σ6 H6 _ I6 q6) λf R y=>?_);have again:∀{σ7:St}{a:Hp},Inv X (z++xz C s5.heap) σ7 a R->N σ7 a->∃m,m<n/\∃i σ' H',Inv X z σ' H' R/\tn i R.heap/\(∀b∈C,H' b=none)/\W i m σ' H':=λ{σ7 a} c F=>by obtain⟨m',hm,w7⟩:=hN σ7 a F;refine⟨m',hm,i+1,σ7,a,c.unpinned,T.keep _ _ _ st5 λb j o e=>(c.pin (b,o) (Ai _ (Ai _ (XM j e)))).1,λb j=>?_,w7⟩;obtain⟨o,e,d⟩:=T.obj _ _ st5 b j;exact(c.pin (b,o) (Ai _ (Ai _ (XM j e)))).2.1
  cases f with
  |next=>obtain⟨σ7,a,c,F⟩:=y;exact again c F
  |cont=>obtain⟨σ7,a,c,F⟩:=y;exact again c F
  |brk=>obtain⟨σ7,a,c,y⟩:=y;exact⟨σ7,a,c.unpinned,y⟩
  |ret v=>obtain⟨x7,σ7,a,c,r7,y⟩:=y;exact⟨x7,σ7,a,c.unpinned,r7,y⟩
end
abbrev R2:=V->V->Hp->VK->Prop
def OpR(X:Cx)(f:Value->Value->Sem Value)(r:R2):Prop :=
  ∀(a : List (Addr × Obj))(s : Shared)(σ : St)(H : Hp)(x y : V)(v u : Value)(Q : VK), Inv X a σ H s -> RelV x v -> RelV y u -> r x y H Q ->
    wpAny (model X.prog X.w) X.A (f v u) (EP X a σ Q) X.xe s
def UnR(X:Cx)(f:Value->Sem Value)(r:V->Hp->VK->Prop):Prop :=
  ∀(a : List (Addr × Obj))(s : Shared)(σ : St)(H : Hp)(x : V)(v : Value)(Q : VK), Inv X a σ H s -> RelV x v -> r x H Q ->
    wpAny (model X.prog X.w) X.A (f v) (EP X a σ Q) X.xe s
def Z5(X:Cx)(f:Value)(r:List V->Hp->VK->Prop):Prop :=
  ∀(a : List (Addr × Obj))(s : Shared)(σ : St)(H : Hp)(xs : List V)(us : List Value)(Q : VK), Inv X a σ H s -> Vals xs us -> r xs H Q ->
    wpAny (model X.prog X.w) X.A (call f us) (EP X a σ Q) X.xe s
def tOp(r:R2)(a b:TE):TE:=λσ H Q=>a σ H λx H1=>b σ H1 λy H2=>r x y H2 Q
def tUn(r:V->Hp->VK->Prop)(a:TE):TE:=λσ H Q=>a σ H λx H1=>r x H1 Q
def rI(C:Int->Int->Prop)(g:Int->Int->V):R2:=λx y H Q=>∃i j,x=.int i/\y=.int j/\C i j/\Q (g i j) H
def rI0(g:Int->Int->V):R2:=λx y H Q=>∃i j,x=.int i/\y=.int j/\Q (g i j) H
def rU(g:Int->V):V->Hp->VK->Prop:=λx H Q=>∃i,x=.int i/\Q (g i) H
section
variable{X:Cx}{a b c:Expr}{ta tb tc:TE}{pos:Pos}
theorem rJ(l:PE X a ta)(m:PE X b tb){e:C4}{s:Shared}{σ:St}{H:Hp}{R:V->V->Hp->Prop}(I:Inv X e σ H s)
  (h:ta σ H λx j=>tb σ j λy d=>R x y d) {Q:C2} {f:Value->Value->Sem Value}
  (hf:∀v u i x y d,Inv X e σ d i->RelV x v->RelV y u->R x y d->wpAny (model X.prog X.w) X.A (f v u) Q X.xe i) :
  wpAny (model X.prog X.w) X.A (eval a X.env) (λv s₁=>wpAny (model X.prog X.w) X.A (eval b X.env) (λu s₂=>wpAny (model X.prog X.w) X.A (f v u) Q X.xe s₂) X.xe s₁) X.xe s:=by
 refine thn (l e s σ H _ I h) λv n ⟨x,j,I1,r1,q1⟩=>?_;refine thn (m e n σ j _ I1 q1) λu i ⟨y,d,I2,r2,q2⟩=>?_;exact hf v u i x y d I2 r1 r2 q2
theorem HX{d:Operator}{r:R2}(j:OpR X (binaryOp d) r)(f:PE X a ta)(i:PE X b tb):PE X (.BinOp a d b pos) (tOp r ta tb):=by intro e s σ H Q I h;exact wpAny_BinOp (rJ f i I h λv u n x y H2 I2 l m q=>j e n σ H2 x y v u Q I2 l m q)
theorem HW{e:UnaryOp}{r:V->Hp->VK->Prop}(i:UnR X (unaryOp e) r)(f:PE X a ta):PE X (.UnaryOp e a pos) (tUn r ta):=by intro d s σ H Q I h;exact UnaryOp_ (thn (f d s σ H _ I h) λv j ⟨x,H1,I1,r1,q1⟩=>i d j σ H1 x v Q I1 r1 q1)
theorem opI{f:Value->Value->Sem Value}{C:Int->Int->Prop}{g:Int->Int->Int}
  (rule:∀(i j:Int)(t u:Tok)(s:Shared)(Q:C2)(E:C2),C i j->Q (.int (g i j) s.toks) { s with toks:=s.toks+1 }->wpAny (model X.prog X.w) X.A (f (.int i t) (.int j u)) Q E s) :
  OpR X f (rI C λi j=>.int (g i j)):=by
 intro e s σ H x y v u Q I rx ry h;obtain⟨i,j,rfl,rfl,d,q⟩:=h;obtain⟨t,rfl⟩:=rx;obtain⟨t',rfl⟩:=ry;exact rule i j t t' s _ _ d ⟨.int (g i j),H,I.tok _,⟨_,rfl⟩,q⟩
theorem wu{f:Value->Value->Sem Value}{g:Int->Int->Int}
  (rule:∀(i j:Int)(t u:Tok)(s:Shared)(Q:C2)(E:C2),Q (.int (g i j) s.toks) { s with toks:=s.toks+1 }->wpAny (model X.prog X.w) X.A (f (.int i t) (.int j u)) Q E s) :
  OpR X f (rI0 λi j=>.int (g i j)):=by
 intro d s σ H x y v u Q I rx ry h;obtain⟨i,j,rfl,rfl,q⟩:=h;obtain⟨t,rfl⟩:=rx;obtain⟨t',rfl⟩:=ry;exact rule i j t t' s _ _ ⟨.int (g i j),H,I.tok _,⟨_,rfl⟩,q⟩
theorem rN{f:Value->Value->Sem Value}{g:Int->Int->Bool}
  (rule:∀(i j:Int)(t u:Tok)(s:Shared)(Q:C2)(E:C2),Q (.bool (g i j)) s->wpAny (model X.prog X.w) X.A (f (.int i t) (.int j u)) Q E s) :
  OpR X f (rI0 λi j=>.bl (g i j)):=by
 intro d s σ H x y v u Q I rx ry h;obtain⟨i,j,rfl,rfl,q⟩:=h;obtain⟨t,rfl⟩:=rx;obtain⟨t',rfl⟩:=ry;exact rule i j t t' s _ _ ⟨.bl (g i j),H,I,rfl,q⟩
def J_(i j:Int):Prop:=0<j/\j<1073741824
def I_(i j:Int):Prop:=0<=j/\j<=1000000/\i.natAbs<2 ^ 64
def CMul(i j:Int):Prop:=(-(2 ^ 64)<i/\i<2 ^ 64)∨(-(2 ^ 64)<j/\j<2 ^ 64)
theorem CMul.ok{i j:Int}(h:CMul i j):IntMulOk i j:=by
 rcases h with ⟨d,e⟩|⟨d,e⟩
 ·exact .of_left (intBits_le_64 d e)
 ·exact .of_right (intBits_le_64 d e)
def Oh:OpR X (binaryOp .Add) (rI0 λi j=>.int (i+j)):=wu λ_ _ _ _ _ _ _ q=>add_int q
def Mr:OpR X (binaryOp .Sub) (rI0 λi j=>.int (i-j)):=wu λ_ _ _ _ _ _ _ q=>sub_int q
def Mt:OpR X (binaryOp .Mult) (rI CMul λi j=>.int (i * j)):=opI λ_ _ _ _ _ _ _ d q=>mul_int q d.ok
theorem Px:OpR X (binaryOp .FloorDiv) (rI J_ λi j=>.int (i / j)):=opI λi j _ _ _ _ _ d q=>by have e:(0:Int)<j:=d.1;have f:j<1073741824:=d.2;exact floordiv_int ⋯ (by rw[Int.fdiv_eq_ediv_of_nonneg i ⋯];exact q) (.inl (PyProof.noPylong_small ⋯))
theorem Oe:OpR X (binaryOp .Mod) (rI (λ_ j=>0<j) λi j=>.int (i % j)):=opI λi j _ _ _ _ _ d q=>by have e:(0:Int)<j:=d;exact mod_int' ⋯ (by rw[Int.fmod_eq_emod_of_nonneg i ⋯];exact q)
def Ms:OpR X (binaryOp .Pow) (rI I_ λi j=>.int (i ^ j.toNat)):=opI λ_ _ _ _ _ _ _ d q=>pow_int_small d.1 d.2.1 d.2.2 q
theorem unI{f:Value->Sem Value}{g:Int->Int}
  (rule:∀(i:Int)(t:Tok)(s:Shared)(Q:C2)(E:C2),Q (.int (g i) s.toks) { s with toks:=s.toks+1 }->wpAny (model X.prog X.w) X.A (f (.int i t)) Q E s) :
  UnR X f (rU λi=>.int (g i)):=by
 intro d s σ H x v Q I rx h;obtain⟨i,rfl,q⟩:=h;obtain⟨t,rfl⟩:=rx;exact rule i t s _ _ ⟨.int (g i),H,I.tok _,⟨_,rfl⟩,q⟩
def M5:UnR X (unaryOp .USub) (rU λi=>.int (-i)):=unI λ_ _ _ _ _ q=>neg_int q
end
section
variable{X:Cx}{a b c:Expr}{ta tb tc:TE}{pos:Pos}
theorem gu{d:C4}{σ:St}{H:Hp}{s:Shared}{Q:VK}{k f:Bool}(I:Inv X d σ H s)(q:Q (.bl k) H)(e:k=f):EP X d σ Q (.bool f) s:=by subst e;exact⟨.bl k,H,I,rfl,q⟩
def Ig:OpR X (compareOp .Lt) (rI0 λi j=>.bl (decide (i<j))):=rN λ_ _ _ _ _ _ _ q=>lt_int q
def Ih:OpR X (compareOp .LtE) (rI0 λi j=>.bl (decide (i<=j))):=rN λ_ _ _ _ _ _ _ q=>le_int q
def Ii:OpR X (compareOp .Gt) (rI0 λi j=>.bl (decide (j<i))):=rN λ_ _ _ _ _ _ _ q=>gt_int q
theorem Og:OpR X (compareOp .Is) (λx y H Q=>y=.non/\Q (.bl (decide (x=.non))) H):=by
 intro d s σ H x y v u Q I rx ry h;obtain⟨rfl,q⟩:=h;cases ry;refine is_none_gen (gu I q ?_);cases x<;>first
  | (cases rx;rfl)
  | (obtain⟨t,rfl⟩:=rx;rfl)
theorem Pu:OpR X (compareOp .IsNot) (λx y H Q=>y=.non/\Q (.bl (!decide (x=.non))) H):=by
 intro d s σ H x y v u Q I rx ry h;obtain⟨rfl,q⟩:=h;cases ry;refine isnot_none_gen (gu I q ?_);cases x<;>first
  | (cases rx;rfl)
  | (obtain⟨t,rfl⟩:=rx;rfl)
theorem QD(b:Expr){d:CmpOp}(h:d≠.In:=by decide)(i:d≠.NotIn:=by decide):behindInMarks d b=false:=by
 have e:(d==CmpOp.In)=false:=by cases d<;>first|rfl|exact absurd rfl h
 have f:(d==CmpOp.NotIn)=false:=by cases d<;>first|rfl|exact absurd rfl i
 cases b<;>simp[behindInMarks,e,f]
theorem Pk{d:CmpOp}{r:R2}(l:OpR X (compareOp d) r)(f:PE X a ta)(i:PE X b tb)(j:behindInMarks d b=false):PE X (.Compare a [d] [b] pos) (tOp r ta tb):=by intro e s σ H Q I h;exact wpAny_Compare1 (rJ f i I h λv u o x y H2 I2 m n q=>l e o σ H2 x y v u Q I2 m n q) j
def wN(t:TE):TT:=λσ H Q=>t σ H λx H'=>∃k,x=.bl k/\Q k H'
theorem Ow{f:CmpOp}{r:R2}(m:OpR X (compareOp f) r)(i:PE X a ta)(j:PE X b tb)(l:behindInMarks f b=false):PT X (.Compare a [f] [b] pos) (wN (tOp r ta tb)):=by
 intro d s σ H Q I h;refine wpAny_isTrue_Compare1 (thn (i d s σ H _ I h) λv n ⟨x,H1,I1,r1,q1⟩=>thn (j d n σ H1 _ I1 q1) λu o ⟨y,H2,I2,r2,q2⟩ =>
  thn (m d o σ H2 x y v u _ I2 r1 r2 q2) λc q ⟨z,H3,I3,r3,k,e,q3⟩=>?_) l
 subst e;cases r3;exact wpAny_truthy_bool ⟨H3,I3,q3⟩
def CW(r d:R2)(ta tb tc:TE):TE:=λσ H Q=>ta σ H λx H1=>tb σ H1 λy H2=>r x y H2 λz H3=>∃k,z=.bl k /\
 (if k=true then tc σ H3 λe H4=>d y e H4 Q else Q (.bl false) H3)
theorem kN{l f:CmpOp}{r m:R2}(C:OpR X (compareOp l) r)(j:OpR X (compareOp f) m)(o:PE X a ta)(q:PE X b tb)(t:PE X c tc)
    (hm:lastMarks [l,f] [b,c]=false:=by with_unfolding_all rfl):PT X (.Compare a [l,f] [b,c] pos) (wN (CW r m ta tb tc)):=by
  intro i s σ H Q I h;refine isTrue_chain (thn (o i s σ H _ I h) λv J ⟨x,H1,I1,r1,q1⟩=>test_link (thn (q i J σ H1 _ I1 q1) λu L ⟨y,H2,I2,r2,q2⟩ =>
    thn (C i L σ H2 x y v u _ I2 r1 r2 q2) λd O ⟨z,H3,I3,r3,k,e,q3⟩=>?_)) hm
  subst e;cases r3;refine wpAny_truthy_bool ?_;cases k with
  |false=>obtain⟨U,n,F⟩:=q3;cases n;exact ite_ff ⟨H3,I3,F⟩
  |true=>refine ite_tt (test_last (thn (t i O σ H3 _ I3 q3) λR P ⟨T,H4,I4,r4,q4⟩=>thn (j i P σ H4 y T u R _ I4 r2 r4 q4) λd' Y ⟨z2,H5,I5,r5,k2,e2,q5⟩=>?_));subst e2;cases r5;exact wpAny_truthy_bool ⟨H5,I5,q5⟩
theorem VF:(sizeLine:Nat)<2 ^ 63:=by rw[sizeLine_eq];decide
theorem Ys{x:V}{us:List Value}(r:Vals [x] us):∃u,us=[u]/\RelV x u:=by
 cases r with
 |cons d e=>cases e;exact⟨_,rfl,d⟩
theorem G9{x y:V}{us:List Value}(r:Vals [x,y] us):∃u d,us=[u,d]/\RelV x u/\RelV y d:=by
  cases r with
  |cons e f =>
    cases f with
    |cons h i=>cases i;exact⟨_,_,rfl,e,h⟩
theorem vi(e:X.calm=true):Z5 X (.builtin "min") (λxs H Q=>∃i j,xs=[.int i,.int j]/\Q (.int (if j<i then j else i)) H):=by
 intro f s σ H xs us Q I r h;obtain⟨i,j,rfl,q⟩:=h;obtain⟨u,l,rfl,⟨t,rfl⟩,⟨t',rfl⟩⟩:=G9 r;refine min_two_ints (I.ok.hd e) λh' tk k=>⟨_,H,I.kept k,?_,q⟩;by_cases d:j<i
 ·rw[Ct d,Ct d];exact⟨_,rfl⟩
 ·rw[Cs d,Cs d];exact⟨_,rfl⟩
theorem yu:Z5 X (.type "int") (λxs H Q=>(∃i,xs=[.int i]/\Q (.int i) H)∨∃k,xs=[.bl k]/\Q (.int (if k then 1 else 0)) H):=by
 intro e s σ H xs us Q I r h;rcases h with ⟨i,rfl,q⟩|⟨k,rfl,q⟩
 ·obtain⟨u,rfl,t,rfl⟩:=Ys r;exact call_int_int ⟨.int i,H,I,⟨_,rfl⟩,q⟩
 ·obtain⟨u,rfl,d⟩:=Ys r;cases d;exact call_int_bool ⟨.int (if k then 1 else 0),H,I.tok _,⟨_,rfl⟩,q⟩
end
structure ObjM(h:Heap)(x dx C:Addr)(mA:C5):Prop where
 obj:h.get? x=some (PySem.W.instObj C dx)
 ns:h.Ns1 dx mA
 ne:dx≠x
theorem vL{h:Heap}{c:Addr}{d:C5}(n:h.Ns1 c d):∃f,h.get? c=some f/\∀name,PySem.W.lookIn name f=some (d name):=by
 obtain⟨o,es,ep,m,hd,j,_,l⟩:=n;refine⟨o,m,λname=>?_⟩;have e:=l name;unfold nsFind findBy at e;rw[<- Array.find?_toList]at e;unfold PySem.W.lookIn;rw[hd];dsimp only;split
 ·rename_i y q;rw[q]at e;exact congrArg some e
 ·rename_i q;rw[q]at e;have a:es.toList.any (·.refKey)=false:=by rw[List.any_eq_false];intro y r;obtain⟨z,t,b⟩:=j y (Array.mem_toList_iff.mp r);simp[DictEntry.refKey,b]
  have i:¬ es.toList.any (·.refKey)=true:=by rw[a];exact Bk
  rw[Cs i];exact congrArg some e
theorem ObjM.look{h:Heap}{x b C:Addr}{c:C5}(I:ObjM h x b C c):∃a,PySem.W.InstAt h x (PySem.W.instObj C b) C (some a)/\∀name,PySem.W.lookIn name a=some (c name) :=
 let ⟨a,e,d⟩:=vL I.ns
 ⟨a,⟨I.obj,rfl,rfl,e⟩,d⟩
section
variable{prog:Program}{w:World}{A:Around}{E:C2}{s:Shared}{K:Aa}{x dx C f:Addr}{mA:C5}{name:Str}{v:Value}
theorem R7{a:Bool}{Q:C2}(X:K.In s.heap)(I:ObjM s.heap x dx C mA)(b:PySem.W.plainGet K C name=true)(c:PySem.W.hasDictIn K C=true)
  (ha:PySem.W.findIn K (.ref C) name=some none) (hv:mA name=some v) (hv':PySem.W.handedIn v=true) (h:Q v { s with toks:=s.toks+1 }) :
  wpAny (model prog w) A (getAttr (.ref x) name a) Q E s:=by
 obtain⟨e,J,d⟩:=I.look;exact PySem.W.get_value X J (PySem.W.plainGet_of b).1 (PySem.W.findObj_own c ha rfl (by rw[d,hv])) hv' h
theorem gD{pl:Sem Bool}{Q:Value×List Value->Shared->Prop}(X:K.In s.heap)(I:ObjM s.heap x dx C mA)(a:PySem.W.plainGet K C name=true)
  (hf:PySem.W.findIn K (.ref C) name=some (some (.ref f))) (ht:PySem.W.isFn K (.ref f)=true) (hv:mA name=none) (h:Q (.ref f,[.ref x]) s) :
  wpAny (model prog w) A (getMethod (.ref x) name pl) Q E s:=by
 obtain⟨c,J,b⟩:=I.look;exact PySem.W.method_fn X J (PySem.W.plainGet_of a).1 (PySem.W.plainGet_of a).2 hf (beq_iff_eq.mp ht) (by show(PySem.W.lookIn name c).map (·.isSome)=some false;rw[b,hv];rfl) h
theorem Q_{ns:List Str}{Q:Unit->Shared->Prop}(X:K.In s.heap)(I:ObjM s.heap x dx C mA)
  (hs:PySem.W.findIn K (.ref C) "__setattr__" = some (some (.builtin "object.__setattr__"))) (U:PySem.W.plainOver K C=true) (ht:PySem.W.takerIn K C name=some none) (hh:PySem.W.hasDictIn K C=true)
  (hw:PySem.Within mA ns) (hsz:ns.length<=sizeLine)
  (h:∀h',ObjM h' x dx C (λy=>if y=name then some v else mA y)->Heap.SameBut dx s.heap h'->Q () { s with heap:=h',toks:=s.toks+2 }) :
  wpAny (model prog w) A (setAttr (.ref x) name v) Q E s:=by
 obtain⟨z,J,t⟩:=I.look;refine PySem.W.set_plain X J hs (PySem.W.osa_open (s:={ s with toks:=s.toks+1 }) (r:=none) X J U ht λb=>?_);obtain⟨q,o,i⟩:=PySem.W.any_some hh;have hx:s.heap.get? x=some ⟨.ref C,some dx,.plain,#[]⟩:=I.obj;refine Cr (Cu (Cr (Cr (wpAny_loadPart hx (Cr (PySem.W.Looks.here (s:={ s with toks:=s.toks+1 }) (PySem.W.looks_clsIn X o) ?_))))));rw[i];refine Cu (a:=some dx) (Cr (Cu (Cr ?_)));refine wpAny_nsSet1 (s:={ s with toks:=s.toks+1 }) I.ns λh' c d=>?_;obtain⟨u,n,m,l,j,e⟩:=c.count (PySem.Within.cons name v hw);refine Cr (wpAny_lookBehind l (by rw[j];exact pastItsLine_dict (A9 e (by rw[A0];lia))) ?_);exact Cu (h _ ⟨(d.2 _ (Ne.symm I.ne)).trans I.obj,c,I.ne⟩ d)
theorem kg{R:Result->Shared->Prop}{vs:List Value}{a:List (Str×Value)}(X:K.In s.heap)(b:PySem.W.makesIn K C=true)
  (hi:PySem.W.findIn K (.ref C) "__init__" = some (some (.ref f))) (hf:PySem.W.typeIn K (.ref f)=some (.type "function"))
  (h:codeAny (model prog w) (A.under (.builtin "type.__call__" ⟨.ref C::vs,a⟩)) (.call (.ref f) ⟨.ref (s.heap.objs.size+1)::vs,a⟩) (PySem.W.InitBack (s.heap.objs.size+1) R)
   { s with heap:=(s.heap.push PySem.W.emptyDict).push (PySem.W.instObj C s.heap.objs.size) }) :
  codeAny (model prog w) A (.call (.ref C) ⟨vs,a⟩) R s:=by
 obtain⟨c,g,d,t,os⟩:=s;exact PySem.W.make_core (PySem.W.makes_of X b) (PySem.W.looks_findIn X hi) (λself=>PySem.W.bind_fn X self hf) (.inl rfl) h
end
def Xs(f:Str)(v:V):List (Str×V)->List (Str×V)
 | []=>[(f,v)]
 | (g,x)::r=>if g=f then (g,v)::r else (g,x)::Xs f v r
theorem zT(f g:Str)(v:V):∀fs:List (Str×V),(Xs f v fs).lookup g=if g=f then some v else fs.lookup g
  | []=>by
    show List.lookup g [(f,v)]=_;by_cases h:g=f
    . have a:(g==f)=true:=beq_iff_eq.mpr h
      simp only[List.lookup,a,Ct h]
    . have a:(g==f)=false:=beq_eq_false_iff_ne.mpr h
      simp only[List.lookup,a,Cs h]
  | (k,x)::r=>by
    have c:=zT f g v r;rw[show Xs f v ((k,x)::r)=(if k=f then (k,v)::r else (k,x)::Xs f v r)from rfl];by_cases b:k=f
    . rw[Ct b]
      by_cases h:g=k
      . have a:(g==k)=true:=beq_iff_eq.mpr h
        simp only[List.lookup,a,Ct (h.trans b)]
      . have a:(g==k)=false:=beq_eq_false_iff_ne.mpr h
        simp only[List.lookup,a,Cs (λe:g=f=>h (e.trans b.symm))]
    . rw[Cs b]
      by_cases h:g=k
      . have a:(g==k)=true:=beq_iff_eq.mpr h
        simp only[List.lookup,a,Cs (λe:g=f=>b (h.symm.trans e))]
      . have a:(g==k)=false:=beq_eq_false_iff_ne.mpr h
        simp only[List.lookup,a];exact c
theorem zw(f:Str)(v:V):∀fs:List (Str×V),f∈(Xs f v fs).map (·.1)/\∀g,g∈fs.map (·.1)->g∈(Xs f v fs).map (·.1)
  | []=>⟨by simp[Xs],λg h=>by simp at h⟩
  | (k,x)::r=>by
    obtain⟨b,c⟩:=zw f v r;rw[show Xs f v ((k,x)::r)=(if k=f then (k,v)::r else (k,x)::Xs f v r)from rfl];by_cases a:k=f
    . rw[Ct a]
      subst a;exact⟨by simp,λg h=>by simpa using h⟩
    . rw[Cs a]
      refine⟨?_,λg h=>?_⟩
      . rw[A3]
        exact Au _ b
      . rw[A3]at h ⊢
        rcases Ba.mp h with e|e
        . exact Ba.mpr (.inl e)
        . exact Au _ (c g e)
theorem zS(f:Str)(v:V):∀fs:List (Str×V),(Xs f v fs).length<=fs.length+1
  | []=>by simp[Xs]
  | (k,x)::r=>by
    have b:=zS f v r;rw[show Xs f v ((k,x)::r)=(if k=f then (k,v)::r else (k,x)::Xs f v r)from rfl];by_cases a:k=f
    . rw[Ct a,A0,A0];lia
    . rw[Cs a,A0,A0];lia
theorem RelO.some_of{v:V}{o:Option Value}(r:RelO (some v) o):∃u,o=some u/\RelV v u:=by
 cases o with
 |none=>exact(show False from r).elim
 |some u=>exact⟨u,rfl,r⟩
theorem RelO.none_of{o:Option Value}(r:RelO none o):o=none:=by
 cases o with
 |none=>rfl
 |some u=>exact(show False from r).elim
theorem vB{v:V}{u:Value}(r:RelV v u):PySem.W.handedIn u=true:=by
 cases v with
 |non=>cases (show u=Value.none from r);rfl
 |bl b=>cases (show u=Value.bool b from r);rfl
 |int i=>obtain⟨t,e⟩:=(show ∃t,u=Value.int i t from r);cases e;rfl
 |str x=>obtain⟨t,e⟩:=(show ∃t,u=Value.str x t from r);cases e;rfl
 |byt b=>obtain⟨t,e⟩:=(show ∃t,u=Value.bytes b t from r);cases e;rfl
 |flt b=>obtain⟨t,e⟩:=(show ∃t,u=Value.float b t from r);cases e;rfl
 |ref a=>cases (show u=Value.ref a from r);rfl
 |ty n=>cases (show u=Value.type n from r);rfl
section
variable{P:Program}{w:World}{H H':Hp}{h h':Heap}{a C dx:Addr}{fs fs':List (Str×V)}
theorem Vz(hok:HOk P w H h)(e:H a=some (.ins C dx fs)):∃b,ObjM h a dx C b/\(∀f,RelO (fs.lookup f) (b f))/\PySem.Within b (fs.map (·.1))/\fs.length<=1000/\H dx=some (.own a):=by obtain⟨d,z,ne,c,b,n,r,q⟩:=(show ObjOk P w H h a (.ins C dx fs)from hok a _ e);exact⟨b,⟨c,n,ne⟩,r,q,z,d⟩
end
structure Cls(K:Aa)(C:Addr):Prop where
 pg:PySem.W.plainGet K C Str.empty=true
 hd:PySem.W.hasDictIn K C=true
 po:PySem.W.plainOver K C=true
 sa:PySem.W.findIn K (.ref C) "__setattr__" = some (some (.builtin "object.__setattr__"))
def Cls.get{K:Aa}{C:Addr}(c:Cls K C)(f:Str):PySem.W.plainGet K C f=true:=c.pg
def NoAttr(K:Aa)(C:Addr)(f:Str):Prop:=PySem.W.findIn K (.ref C) f=some none
theorem NoAttr.taker{K:Aa}{C:Addr}{f:Str}(n:NoAttr K C f):PySem.W.takerIn K C f=some none:=by unfold PySem.W.takerIn;rw[show PySem.W.findIn K (.ref C) f=some none from n];rfl
structure Ka(K:Aa)(C:Addr)(m:Str)(f:Addr):Prop where
 at_:PySem.W.findIn K (.ref C) m=some (some (.ref f))
 fn:PySem.W.isFn K (.ref f)=true
 kp:PySem.W.keepIn K (.ref f)=true
section
variable{X:Cx}{O9:C4}{σ:St}{H:Hp}{s:Shared}{a C dx:Addr}{fs:List (Str×V)}{f:Str}{v:V}{A:Around}{E:C2}
theorem Kp{b:Bool}{Q:C2}(I:Inv X O9 σ H s)(e:H a=some (.ins C dx fs))(c:Cls X.K C)(n:NoAttr X.K C f)(l:fs.lookup f=some v)
  (h:∀u s',Inv X O9 σ H s'->RelV v u->Q u s'):wpAny (model X.prog X.w) A (getAttr (.ref a) f b) Q E s:=by
 obtain⟨j,O,r,_,_,_⟩:=Vz I.hok e;obtain⟨u,i,d⟩:=RelO.some_of (v:=v) (o:=j f) (by rw[<- l];exact r f);exact R7 I.kIn O (c.get f) c.hd n i (vB d) (h u _ (I.tok _) d)
theorem Y0{m:Str}{g:Addr}{pl:Sem Bool}{Q:Value×List Value->Shared->Prop}(I:Inv X O9 σ H s)(e:H a=some (.ins C dx fs))(c:Cls X.K C)(k:Ka X.K C m g)(l:fs.lookup m=none)
  (h:Q (.ref g,[.ref a]) s):wpAny (model X.prog X.w) A (getMethod (.ref a) m pl) Q E s:=by
 obtain⟨d,O,r,_,_,_⟩:=Vz I.hok e;have b:d m=none:=RelO.none_of (by rw[<- l];exact r m);exact gD I.kIn O (c.get m) k.at_ k.fn b h
theorem KJ{y:V}{u:Value}{Q:Unit->Shared->Prop}(I:Inv X O9 σ H s)(e:H a=some (.ins C dx fs))(c:Cls X.K C)(n:NoAttr X.K C f)(J:fs.length<1000)(F:RelV y u)
  (h:∀s',Inv X O9 σ (upd H a (.ins C dx (Xs f y fs))) s'->Q () s'):wpAny (model X.prog X.w) A (setAttr (.ref a) f u) Q E s:=by
 obtain⟨i,O,r,j,_,d⟩:=Vz I.hok e;have hz:(fs.map (·.1)).length<=sizeLine:=by rw[Bf,sizeLine_eq];lia
 refine Q_ I.kIn O c.sa c.po n.taker c.hd j hz λh' O' sb=>h _ ?_;have hd:∃o,h'.get? dx=some o:=let ⟨o,_,_,l,_⟩:=O'.ns;⟨o,l⟩;refine I.write (x:=a) (e:=dx) (by rw[e];exact True.intro) (.inr d) (λb q m z=>(sb.2 b m).trans z) hd ?_;refine⟨by rw[Q4 O.ne];exact d,?_,O.ne,O'.obj,_,O'.ns,λg=>?_,λg t=>?_⟩
 ·have:=zS f y fs;lia
 ·show RelO ((Xs f y fs).lookup g) (if g=f then some u else i g);rw[zT];by_cases q:g=f
  ·rw[Ct q,Ct q];exact F
  ·rw[Cs q,Cs q];exact r g
 ·by_cases q:g=f
  ·rw[q];exact(zw f y fs).1
  ·refine(zw f y fs).2 g (j g λz=>t ?_);show(if g=f then some u else i g)=none;rw[Cs q];exact z
theorem Inv.made(I:Inv X O9 σ H s):Inv X O9 σ (upd (upd H s.heap.objs.size (.own (s.heap.objs.size+1))) (s.heap.objs.size+1) (.ins C s.heap.objs.size []))
  { s with heap:=(s.heap.push PySem.W.emptyDict).push (PySem.W.instObj C s.heap.objs.size) }:=by
 have c:(s.heap.push PySem.W.emptyDict).get? s.heap.objs.size=some PySem.W.emptyDict:=As s.heap rfl;have h:((s.heap.push PySem.W.emptyDict).push (PySem.W.instObj C s.heap.objs.size)).get? (s.heap.objs.size+1)=some (PySem.W.instObj C s.heap.objs.size):=by
  have:=As (s.heap.push PySem.W.emptyDict) (o:=PySem.W.instObj C s.heap.objs.size) rfl
  rwa [B7]at this
 have i:(s.heap.push PySem.W.emptyDict).Ns s.heap.objs.size (λ_=>none):=⟨PySem.W.emptyDict,#[],_,c,rfl,(λe j=>absurd j (by simp)),λ_=>rfl⟩;have d:=I.laid (a:=s.heap.objs.size) (o:=.own (s.heap.objs.size+1)) (h':=s.heap.push PySem.W.emptyDict) (t':=s.toks) (λb u q=>Ad _ q) (Ae _) ⟨_,c⟩;refine d.laid (a:=s.heap.objs.size+1) (o:=.ins C s.heap.objs.size []) (t':=s.toks) (λb u q=>Ad _ q) (Nat.le_of_eq (B7 _ _)) ?_;have ne:s.heap.objs.size≠s.heap.objs.size+1:=A6 (Cj _);refine⟨by rw[Q4 ne,Q5],A5 _,ne,h,λ_=>none,(Heap.Ns1.of_empty i).at λo q=>Ad _ q,λ_=>True.intro,λy l=>absurd rfl l⟩
theorem SQ{prog:Program}{w:World}{env:Env}{e:Expr}{f:Str}{b:Pos}{s:Shared}{Q:C2}(c:attributeBase e f env (eval e env)=eval e env)
  (h:wpAny (model prog w) A (eval e env) (λo s₁=>wpAny (model prog w) A (getAttr o f true) Q E s₁) E s):wpAny (model prog w) A (eval (.Attribute e f b) env) Q E s :=
 Attribute_any_ h (by rw[arm_eval_Attribute,c])
end
def Hr(K:Aa)(c:TE)(f:Str):TE:=λσ H Q=>c σ H λx H1=>∃a C b fs v,x=.ref a/\H1 a=some (.ins C b fs)/\Cls K C/\NoAttr K C f/\fs.lookup f=some v/\Q v H1
def Hu(K:Aa)(c d:TE)(f:Str):TS:=λD σ H=>d σ H λy H1=>c σ H1 λx H2=>∃a C b fs,x=.ref a/\H2 a=some (.ins C b fs)/\Cls K C/\NoAttr K C f/\fs.length<1000 /\
 D.nx σ (upd H2 a (.ins C b (Xs f y fs)))
section
variable{X:Cx}{o e value:Expr}{f:Str}{pos pos' tpos:Pos}{ta tv:TE}
theorem Mq(y:PE X e ta)(t:attributeBase e f X.env (eval e X.env)=eval e X.env):PE X (.Attribute e f pos) (Hr X.K ta f):=by intro j s σ H Q I h;refine SQ t (thn (y j s σ H _ I h) λu L m=>?_);obtain⟨x,b,d,F,a,C,J,fs,v,ex,r,c,n,l,q⟩:=m;subst ex;obtain rfl:u=Value.ref a:=F;exact Kp d r c n l λP O i z=>⟨v,b,i,z,q⟩
theorem LR(r:PE X o ta)(v:PE X value tv)(t:swapsWith value (some (.Attribute o f pos')) pos.line X.env=pure false):PS X (.Assign [.Attribute o f pos'] value pos) (Hu X.K ta tv f):=by intro b s σ H D I h;refine plainObj_wpAny_Assign_Attribute (thn (v b s σ H _ I h) λu L ⟨y,H1,I1,ry,q⟩=>thn (r b L σ H1 _ I1 q) λz Q j=>?_) t;obtain⟨x,O,d,J,a,C,P,fs,ex,m,c,n,l,F⟩:=j;subst ex;obtain rfl:z=Value.ref a:=J;exact KJ d m c n l ry λR i=>⟨σ,_,i,F⟩
theorem Wk{pl:Sem Bool}{m:Str}{b:Pos}{args:List Expr}{j:C4}{s:Shared}{σ:St}{H:Hp}{Q:C2}{te:TE}(y:PE X e te)(I:Inv X j σ H s)
  (h:te σ H λx i=>∃a C r fs g,x=.ref a/\i a=some (.ins C r fs)/\Cls X.K C/\Ka X.K C m g/\fs.lookup m=none /\
   ∀d,Inv X j σ i d->wpAny (model X.prog X.w) X.A (callWith pos (.ref g) [.ref a] (backTo pos (starEach args X.env)) (backToKw pos (keywordEach [] X.env))) Q X.xe d)
  (ht:eval (.Call (.Attribute e m b) args [] pos) X.env=(do
   let ov <- eval e X.env
   standAt b.atName
   let (f,first) <- holding [ov] (getMethod ov m pl)
   callWith pos f first (backTo pos (starEach args X.env)) (backToKw pos (keywordEach [] X.env)))) :
  wpAny (model X.prog X.w) X.A (eval (.Call (.Attribute e m b) args [] pos) X.env) Q X.xe s:=by
 refine PySem.W.methodCall_KW (pl:=pl) (thn (y j s σ H _ I h) λu d t=>?_) ht;obtain⟨x,i,n,z,a,C,r,fs,g,ex,v,c,k,l,q⟩:=t;subst ex;obtain rfl:u=Value.ref a:=z;exact Y0 n v c k l (q d n)
end
section
variable{X:Cx}{O9:C4}{σ:St}{H:Hp}{s:Shared}{A:Around}{E:C2}{Q:C2}{c:Value}{b:Bool}
end
structure Room(k:Nat)(A:Around):Prop where
 hd:A.handled=none
 dp:A.depth+3 * k+5<recursionLimit
 un:A.units+16 * k+200<cLine
theorem Room.mono{j k:Nat}{A:Around}(r:Room k A)(h:j<=k):Room j A:=⟨r.hd,by have:=r.dp;lia,by have:=r.un;lia⟩
theorem Room.deeper{k:Nat}{A:Around}(r:Room (k+1) A)(env:Env):Room k (A.deeper env) :=
 ⟨r.hd,by have:=r.dp;show A.depth+1+3 * k+5<_;lia,by have:=r.un;show A.units+3+16 * k+200<_;lia⟩
theorem Kq{A:Around}{C:Addr}{us:List Value}{a:List (Str×Value)}:(A.under (.builtin "type.__call__" ⟨.ref C::us,a⟩)).depth=A.depth+1:=by
 first|rfl|simp[Around.under,Code.weight,Code.isCreation,Code.isGuard,Code.isCaller,Code.frames,Code.isFrame,guardIds]
theorem Kr{A:Around}{C:Addr}{us:List Value}{a:List (Str×Value)}:(A.under (.builtin "type.__call__" ⟨.ref C::us,a⟩)).units=A.units+1:=by
 first|rfl|simp[Around.under,Code.cUnits,Code.frames,Code.isFrame]
theorem Room.make{k:Nat}{A:Around}(r:Room (k+1) A)(C:Addr)(us:List Value)(a:List (Str×Value)):Room k (A.under (.builtin "type.__call__" ⟨.ref C::us,a⟩)) :=
 ⟨r.hd,by have:=r.dp;rw[Kq];lia,by have:=r.un;rw[Kr];lia⟩
theorem Room.depth{k:Nat}{A:Around}(r:Room k A):A.depth<recursionLimit:=by have:=r.dp;lia
theorem Room.units{k:Nat}{A:Around}(r:Room k A):A.units+64<cLine:=by have:=r.un;lia
def wF:TA:=λ_ H Q=>Q [] H
def Le(a:TE)(b:TA):TA:=λσ H Q=>a σ H λx H1=>b σ H1 λxs H2=>Q (x::xs) H2
section
variable{X:Cx}{e:Expr}{es:List Expr}{te:TE}{t:TA}{pos:Pos}
def pa_nil:PA X [] wF:=λ_ _ _ _ H Q I h=>Calls.spliced_nil ⟨[],H,I,.nil,h⟩
theorem jw(a:PE X e te)(b:PA X es t)(c:starEach (e::es) X.env=(false,eval e X.env)::starEach es X.env:=by rfl):PA X (e::es) (Le te t):=by intro pos O9 s σ H Q I h;rw[c];show wpAny _ _ (spliced ((false,eval e X.env)::backTo pos (starEach es X.env))) _ _ s;refine Calls.spliced_cons (thn (a O9 s σ H _ I h) λu d ⟨x,H1,I1,r1,q1⟩=>?_);exact thn (b pos O9 d σ H1 _ I1 q1) λus f ⟨xs,H2,I2,r2,q2⟩=>⟨x::xs,H2,I2,.cons r1 r2,q2⟩
def Hf(t:TA):TE:=λσ H Q=>t σ H λxs a=>xs.length<=sizeLine/\∀p,a p=none->Q (.ref p) (upd a p (.tup xs))
def Hj(t:TA):TE:=λσ H Q=>t σ H λxs a=>xs.length<=sizeLine/\∀p,a p=none->Q (.ref p) (upd a p (.lst xs))
theorem Mh{x1}(h:PA X es t):PE X (.Tuple es x1 pos) (Hf t):=by intro c s σ H Q I hq;refine wpAny_Tuple_spliced (thn (h pos c s σ H _ I hq) λus a ⟨xs,H1,I1,r,z,q⟩=>⟨by rw[<- r.length];exact z,?_⟩);have hf:H1 a.heap.objs.size=none:=I1.hok.fresh (Ae _);refine⟨.ref a.heap.objs.size,upd H1 a.heap.objs.size (.tup xs),I1.laid (t':=a.toks) (λb u e=>Ad _ e) (Ae _) ?_,rfl,q _ hf⟩;exact⟨z,us,r,⟨_,As _ rfl,rfl,_,rfl⟩⟩
theorem Ky(h:PA X es t):PE X (.List es pos) (Hj t):=by intro c s σ H Q I hq;refine wpAny_List_spliced (thn (h pos c s σ H _ I hq) λus a ⟨xs,H1,I1,r,z,q⟩=>⟨by rw[<- r.length];exact z,?_⟩);have hf:H1 a.heap.objs.size=none:=I1.hok.fresh (Ae _);refine⟨.ref a.heap.objs.size,upd H1 a.heap.objs.size (.lst xs),I1.laid (t':=a.toks) (λb u e=>Ad _ e) (Ae _) ?_,rfl,q _ hf⟩;exact⟨z,us,0,r,As _ rfl⟩
end
abbrev Sp:=List V->Hp->VK->XK->Prop
abbrev CXT:=List Env->Hp->Shared->XK->Value->Shared->Prop
structure Env0(P:Program)(w:World)(K:Aa)(mg:C5)(O8:Heap)(A:Around)(outer:List Env)(s:Shared)(H:Hp):Prop where
 frames:A.frames=some outer
 mod:Mod K mg O8
 bs:∀b o,O8.get? b=some o->s.heap.get? b=some o/\H b=none
 bsz:O8.objs.size<=s.heap.objs.size
 funs:s.heap.FunFrames O8 outer
 frf:∀b∈frs outer,H b=none
 hok:HOk P w H s.heap
 bare:AllBare s.gens
def CE(outer:List Env)(P:Program)(w:World)(H:Hp)(s:Shared)(Q:VK)(u:Value)(s':Shared):Prop :=
 ∃v H',s'.os=s.os/\AllBare s'.gens/\Un (frs outer) [] H H' s.heap s'.heap/\HOk P w H' s'.heap/\RelV v u/\Q v H'
def CR(CX:CXT)(outer:List Env)(P:Program)(w:World)(H:Hp)(s:Shared)(Q:VK)(E:XK)(r:Result)(s':Shared):Prop :=
 match r with
 |.ok (.ret u)=>CE outer P w H s Q u s'
 |.ok _=>False
 |.error e=>CX outer H s E e s'
structure X2(P:Program)(w:World)(K:Aa)(mg:C5)(O8:Heap)(CX:CXT)(k:Nat)(f:Addr)(fd:FuncData)(ps:List Str)(sp:Sp):Prop where
 len:∀vs H Q E,sp vs H Q E->vs.length=ps.length
 run:∀(A:Around)(outer:List Env)(s:Shared)(H:Hp)(args:Args)(us:List Value)(vs:List V)(Q:VK)(E:XK),Room k A->Env0 P w K mg O8 A outer s H->BindsTo s fd args (ps.zip us)->Vals vs us->sp vs H Q E ->
  codeAny (model P w) A (.call (.ref f) args) (CR CX outer P w H s Q E) s
theorem Env0.make{P:Program}{w:World}{K:Aa}{mg:C5}{O8:Heap}{A:Around}{outer:List Env}{s:Shared}{H:Hp}(e:Env0 P w K mg O8 A outer s H)(C:Addr)(us:List Value)(a:List (Str×Value)) :
  Env0 P w K mg O8 (A.under (.builtin "type.__call__" ⟨.ref C::us,a⟩)) outer s H:=⟨by first|exact e.frames|(simpa [Around.under,Code.envs,Code.isFrame,pushEnvs]using e.frames),e.mod,e.bs,e.bsz,e.funs,e.frf,e.hok,e.bare⟩
section
variable{X:Cx}{O9:C4}{σ:St}{H:Hp}{s s':Shared}
theorem Inv.env0(I:Inv X O9 σ H s):Env0 X.prog X.w X.K X.mg X.O8 X.A X.stack s H :=
 ⟨I.ok.frames,I.ok.mod,I.bs,A9 I.ok.bsz I.sz,I.stack,I.stkFree,I.hok,I.bare⟩
theorem Inv.after{Q:VK}{u:Value}(I:Inv X O9 σ H s)(h:CE X.stack X.prog X.w H s Q u s'):EP X O9 σ Q u s':=by obtain⟨v,H',os,bare,un,hok,r,q⟩:=h;obtain⟨c,g,d,t,a⟩:=s';obtain rfl:a=s.os:=os;exact⟨v,H',I.call (h':=c) (g':=g) (d':=d) (t':=t) (ch:=[]) un hok bare (λb z=>absurd z (by simp)),r,q⟩
end
def Lf(sp:Sp)(a:List V)(E:XK)(t:TA):TE:=λσ H Q=>t σ H λvs H1=>sp (vs++a) H1 Q E
def rP(C:Addr)(m:Str)(sp:Sp)(b:List V)(E:XK)(d:TE)(t:TA):TE:=λσ H Q=>d σ H λx H1=>∃a c fs,x=.ref a/\H1 a=some (.ins C c fs)/\fs.lookup m=none /\
 t σ H1 λvs H2=>sp (x::(vs++b)) H2 Q E
def Binds(K:Aa)(fd:FuncData)(ps:List Str)(ds:List Value):Prop :=
 ∀(s:Shared)(us:List Value),K.In s.heap->(us++ds).length=ps.length->BindsTo s fd ⟨us,[]⟩ (ps.zip (us++ds))
theorem Binds.all{K:Aa}{fd:FuncData}{ps:List Str}(h:∀us:List Value,us.length=ps.length->bindArgs fd ⟨us,[]⟩=pure (ps.zip us)):Binds K fd ps []:=λs us _ a=>by rw[Bg]at a ⊢;exact .of_eq (h us a)
def Xf(CX:CXT)(X:Cx)(E:XK):Prop:=∀(a:C4)(σ:St)(H:Hp)(s:Shared)(e:Value)(s':Shared),Inv X a σ H s->CX X.stack H s E e s'->X.xe e s'
section
variable{X:Cx}{CX:CXT}{k:Nat}{f C:Addr}{fd:FuncData}{ps:List Str}{sp:Sp}{dvs:List V}{ds:List Value}{E:XK}{x m:Str}{p pos apos:Pos}{e o:Expr}{es:List Expr}{ta:TE}{t:TA}
theorem KF{b:C4}{σ:St}{H:Hp}{s:Shared}{Q:VK}{us:List Value}{vs:List V}(F:X2 X.prog X.w X.K X.mg X.O8 CX k f fd ps sp)(l:Room k X.A)(i:Binds X.K fd ps ds)(hd:Vals dvs ds)(hx:Xf CX X E)
    (I:Inv X b σ H s) (r:Vals vs us) (h:sp (vs++dvs) H Q E):wpAny (model X.prog X.w) X.A (call (.ref f) us) (EP X b σ Q) X.xe s:=by
  have c:Vals (vs++dvs) (us++ds):=r.append hd;have j:(us++ds).length=ps.length:=by rw[<- c.length];exact F.len _ _ _ _ h
  refine wpAny_call (codeAny_mono (F.run X.A X.stack s H ⟨us,[]⟩ (us++ds) (vs++dvs) Q E l I.env0 (i s us I.kIn j) c h) λr s' a=>?_);cases r with
  |error e=>exact hx b σ H s e s' I a
  |ok d =>
    cases d with
    |ret u=>exact I.after a
    |next=>exact False.elim a
    |brk=>exact False.elim a
    |cont=>exact False.elim a
theorem Pn(F:X2 X.prog X.w X.K X.mg X.O8 CX k f fd ps sp)(j:Room k X.A)(c:Gl X x)(i:X.mg x=some (.ref f))(d:PySem.W.keepIn X.K (.ref f)=true)(b:Binds X.K fd ps ds)(hd:Vals dvs ds)(hx:Xf CX X E)
  (ha:PA X (e::es) t) (hdb:(x==("__debug__" : Str))=false:=by decide) (he:starEach (e::es) X.env=(false,eval e X.env)::starEach es X.env:=by rfl) (hpl:(backTo pos (starEach es X.env)).any (·.1)=false:=by rfl) :
  PE X (.Call (.Name x p) (e::es) [] pos) (Lf sp dvs E t):=by
 intro a s σ H Q I h;refine wpAny_Call_Name_kw (jr I c i ?_ hdb);refine PySem.W.callWith_K (h₀:=X.O8) I.ok.mod.kin d (thn (ha pos a s σ H _ I h) λus l ⟨vs,H1,I1,r,q⟩=>⟨I1.kIn,?_⟩) he hpl;exact KF F j b hd hx I1 r q
theorem Pg{pl:Sem Bool}(J:PE X o ta)(c:Cls X.K C)(i:Ka X.K C m f)(F:X2 X.prog X.w X.K X.mg X.O8 CX k f fd ps sp)(L:Room k X.A)(z:Binds X.K fd ps ds)(hd:Vals dvs ds)(hx:Xf CX X E)(y:PA X (e::es) t)
  (hst:starEach (e::es) X.env=(false,eval e X.env)::starEach es X.env:=by rfl) (hpl:(backTo pos (starEach es X.env)).any (·.1)=false:=by rfl)
  (ht:eval (.Call (.Attribute o m apos) (e::es) [] pos) X.env=(do
   let ov <- eval o X.env
   standAt apos.atName
   let (f,first) <- holding [ov] (getMethod ov m pl)
   callWith pos f first (backTo pos (starEach (e::es) X.env)) (backToKw pos (keywordEach [] X.env))):=by rfl) :
  PE X (.Call (.Attribute o m apos) (e::es) [] pos) (rP C m sp dvs E ta t):=by
 intro d s σ H Q I h;refine PySem.W.methodCall_KW (pl:=pl) (thn (J d s σ H _ I h) λu P n=>?_) ht;obtain⟨x,j,b,O,a,R,fs,ex,v,l,q⟩:=n;subst ex;obtain rfl:u=Value.ref a:=O;refine Y0 b v c i l ?_;refine PySem.W.callWith_K (first:=[.ref a]) (h₀:=X.O8) I.ok.mod.kin i.kp (thn (y pos d P σ j _ b q) λus T ⟨vs,H2,I2,r,q2⟩=>⟨I2.kIn,?_⟩) hst hpl;exact KF (us:=.ref a::us) (vs:=.ref a::vs) F L z hd hx I2 (.cons rfl r) q2
theorem kG{pl:Sem Bool}(v:PE X o ta)(c:Cls X.K C)(d:Ka X.K C m f)(F:X2 X.prog X.w X.K X.mg X.O8 CX k f fd ps sp)(y:Room k X.A)(r:Binds X.K fd ps ds)(hd:Vals dvs ds)(hx:Xf CX X E)
  (ht:eval (.Call (.Attribute o m apos) [] [] pos) X.env=(do
   let ov <- eval o X.env
   standAt apos.atName
   let (f,first) <- holding [ov] (getMethod ov m pl)
   callWith pos f first (backTo pos (starEach [] X.env)) (backToKw pos (keywordEach [] X.env))):=by rfl) :
  PE X (.Call (.Attribute o m apos) [] [] pos) (rP C m sp dvs E ta wF):=by
 intro i s σ H Q I h;refine PySem.W.methodCall_KW (pl:=pl) (thn (v i s σ H _ I h) λu O j=>?_) ht;obtain⟨x,J,b,z,a,L,fs,ex,n,l,q⟩:=j;subst ex;obtain rfl:u=Value.ref a:=z;refine Y0 b n c d l ?_;exact PySem.W.callWith_K0 (first:=[.ref a]) b.kIn d.kp (KF (us:=[.ref a]) (vs:=[.ref a]) F y r hd hx b (.cons rfl .nil) q)
structure Mk(K:Aa)(C f:Addr):Prop where
 makes:PySem.W.makesIn K C=true
 init:PySem.W.findIn K (.ref C) "__init__" = some (some (.ref f))
 fn:PySem.W.isFn K (.ref f)=true
 kp:PySem.W.keepIn K (.ref C)=true
end
section
variable{X:Cx}{CX:CXT}{k:Nat}{f C:Addr}{fd:FuncData}{ps ks:List Str}{sp:Sp}{E:XK}{x m:Str}{p pos apos kpos:Pos}{e o:Expr}{es:List Expr}{kws:List Keyword}{te ta:TE}{t tk:TA}{nm:Option Str}
variable{g:List Value->List Value->List Value}{gV:List V->List V->List V}
end
structure QS(N P:List Str)(sc:Scope):Prop where
 kind:sc.kind=.function
 co:sc.isCoroutine=false
 gen:sc.isGenerator=false
 nd:N.Nodup
 pre:N.take P.length=P
 par:∀x∈P,sc.names.lookup x=some .local∨sc.names.lookup x=some .cell
 nofree:∀y∈sc.names,y.2≠.free
theorem yt{kindOf:Str->Option NameKind}{x:Str}:∀{binds:List (Str×Value)}{m:C5},(∀v,(x,v)∉binds)->bindL kindOf binds m x=m x
  | [],_,_=>rfl
  | (n,v)::r,m,h=>by
    unfold bindL;rw[yt λw a=>h w (Au _ a)];split
    . have:x≠n:=by rintro rfl;exact h v Cp
      simp[this]
    . rfl
theorem yq{kindOf:Str->Option NameKind}{x:Str}:∀{binds:List (Str×Value)}{m:C5},(∀v,(x,v)∉binds)->bindC kindOf binds m x=m x
  | [],_,_=>rfl
  | (n,v)::r,m,h=>by
    unfold bindC;rw[yq λw a=>h w (Au _ a)];split
    . rfl
    . have:x≠n:=by rintro rfl;exact h v Cp
      simp[this]
theorem yr{kindOf:Str->Option NameKind}{x:Str}{v:Value}:∀{P:List Str}{vs:List Value}{i:Nat}{m:C5},P.Nodup->P[i]?=some x->vs[i]?=some v->kindOf x=some .local ->
    bindL kindOf (P.zip vs) m x=some v
  | [],_,_,_,_,h,_,_=>by simp at h
  |_::_,[],_,_,_,_,h,_=>by simp at h
  |p::P,w::vs,0,m,nd,a,b,c=>by simp at a b;subst a;subst b;show bindL kindOf ((p,w)::P.zip vs) m p=_;unfold bindL;rw[yt λv d=>(Ce.mp nd).1 (List.of_mem_zip d).1,Ct c];simp
  |p::P,w::vs,i+1,m,nd,a,b,c=>by show bindL kindOf ((p,w)::P.zip vs) m x=_;unfold bindL;exact yr (i:=i) (Ce.mp nd).2 (by simpa using a) (by simpa using b) c
theorem yp{kindOf:Str->Option NameKind}{x:Str}{v:Value}:∀{P:List Str}{vs:List Value}{i:Nat}{m:C5},P.Nodup->P[i]?=some x->vs[i]?=some v->kindOf x≠some .local ->
    bindC kindOf (P.zip vs) m x=some v
  | [],_,_,_,_,h,_,_=>by simp at h
  |_::_,[],_,_,_,_,h,_=>by simp at h
  |p::P,w::vs,0,m,nd,a,b,c=>by simp at a b;subst a;subst b;show bindC kindOf ((p,w)::P.zip vs) m p=_;unfold bindC;rw[yq λv d=>(Ce.mp nd).1 (List.of_mem_zip d).1,Cs c];simp
  |p::P,w::vs,i+1,m,nd,a,b,c=>by show bindC kindOf ((p,w)::P.zip vs) m x=_;unfold bindC;exact yp (i:=i) (Ce.mp nd).2 (by simpa using a) (by simpa using b) c
def Yr(N:List Str)(vs:List V):St:=vs.map some++List.replicate (N.length-vs.length) none
def jb(CX:CXT)(P:Program)(w:World)(K:Aa)(mg:C5)(O8:Heap)(N:List Str)(a:Str)(scope:Scope)(f:Addr)(c:Value)(A:Around)(outer:List Env)(s:Shared)(H:Hp)(E:XK):Cx where
 prog:=P
 w:=w
 K:=K
 mg:=mg
 O8:=O8
 A:=A.deeper (envOfC a scope s.heap.objs.size f c)
 N:=N
 s₀:=s
 H₀:=H
 env:=envOfC a scope s.heap.objs.size f c
 outer:=outer
 stack:=envOfC a scope s.heap.objs.size f c::outer
 ex:=[]
 calm:=true
 fn:=λ_=>true
 pn:=[]
 xe:=λe s'=>wpAny (model P w) (A.deeper (envOfC a scope s.heap.objs.size f c)) (leaving (envOfC a scope s.heap.objs.size f c) e) (λ_ b=>CX outer H s E e b) (λd b=>CX outer H s E d b) s'
theorem Uc{a:Scope}{n:Nat}{x:Str}(h:a.names.lookup x=some .cell):∃c,(cellsFrom n a.names []).lookup x=some c:=by have q:=PySem.W.cellsFrom_some a.names n [] (.inl h);exact Option.isSome_iff_exists.mp q
theorem vE{CX:CXT}{P:Program}{w:World}{K:Aa}{mg:C5}{O8:Heap}{N ps:List Str}{d:Str}{scope:Scope}{f:Addr}{t:Value}{A:Around}{outer:List Env}{s J:Shared}{H:Hp}{E:XK}{us:List Value}{vs:List V}
  (S:QS N ps scope) (hd:A.handled=none) (e0:Env0 P w K mg O8 A outer s H) (hl:vs.length=ps.length) (r:Vals vs us)
  (x:InCallC s s.heap.objs.size (bindL (envOfC d scope s.heap.objs.size f t).kindOf (ps.zip us) λ_=>none) (cellsFrom (s.heap.objs.size+1) scope.names []) (bindC (envOfC d scope s.heap.objs.size f t).kindOf (ps.zip us) λ_=>none) J) :
  Inv (jb CX P w K mg O8 N d scope f t A outer s H E) [] (Yr N vs) H J:=by
 have O:ps.length<=N.length:=by have:=congrArg List.length S.pre;rw[Az]at this;lia
 obtain⟨C,tk,rfl,F⟩:=x.done;have m:∀b:Addr,b∉(jb CX P w K mg O8 N d scope f t A outer s H E).ex:=λb z=>absurd (show b∈([]:C9)from z) (by simp);refine⟨⟨e0.mod,S.kind,rfl,rfl,Ae _,λy z c C j=>?_,λy l=>?_,λy c _ h=>?_,λ_=>hd,Around.frames_deeper e0.frames,.inr ⟨rfl,rfl⟩,λb z=>absurd z (m b),e0.bs,e0.bsz,λb _ _=>m b,λb z=>absurd z (m b),e0.funs,e0.frf⟩,
  rfl,e0.bare,Un.kept F,⟨_,x.toInCall.ns,λi y v C j R=>?_⟩,λy c h=>⟨_,x.cell y c h⟩,e0.hok.fresh (Ae _),λy c h=>?_,λp U=>absurd (show p∈([]:C4)from U) (by simp),e0.hok.kept F,?_⟩
 ·exact name_of_addr x.apart (PySem.mem_of_lookup C) (PySem.mem_of_lookup j)
 ·have l:scope.names.lookup y=some .cell∨scope.names.lookup y=some .free:=l;rcases l with l|l
  ·exact Uc l
  ·exact absurd rfl (S.nofree _ (PySem.mem_of_lookup l))
 ·exact Nat.le_of_lt (x.above y c (PySem.mem_of_lookup h))
 ·have hi:i<vs.length:=by
   unfold Yr at j;by_cases hi:i<vs.length
   ·exact hi
   ·rw[Ap (by simpa using hi)]at j;rw[List.getElem?_replicate]at j;split at j<;>cases j
  have L:vs[i]?=some v:=by
   unfold Yr at j;rw[Ag (by simpa using hi),Bh]at j;cases e:vs[i]? with
   |none=>rw[e]at j;cases j
   |some a=>rw[e]at j;cases j;rfl
  obtain⟨u,I,Q⟩:=r.get L;have U:ps[i]?=some y:=by rw[<- S.pre,List.getElem?_take_of_lt ⋯];exact C
  have o:ps.Nodup:=by rw[<- S.pre];exact S.nd.sublist (List.take_sublist _ _)
  refine⟨u,Q,?_⟩;rcases S.par y (At U)with k|k
  ·exact .inl ⟨k,yr o U I k⟩
  ·obtain⟨c,e⟩:=Uc (n:=s.heap.objs.size+1) k;refine .inr ⟨.inl k,c,e,?_⟩;have q:=x.cell y c e;rw[yp o U I (by show scope.names.lookup y≠_;rw[k];decide)]at q;exact q
 ·exact e0.hok.fresh (Nat.le_of_lt (x.above y c (PySem.mem_of_lookup h)))
 ·unfold Yr;show _=N.length;rw[Am,Bf,List.length_replicate];lia
theorem Mx{CX:CXT}{P:Program}{w:World}{K:Aa}{mg:C5}{O8:Heap}{k:Nat}{f:Addr}{name a:Str}{params:Arguments}{d:List Stmt}{scope:Scope}{R kV j T c ct oc:Value}{O od:Option Addr}
    {osl:Array (Option Value)} {N ps:List Str} {sp:Sp} (lk:K.lookup f=some ⟨oc,od,.func (PySem.W.fnOf name a params d scope R kV j T O c ct),osl⟩) (hcd:PySem.W.codeIn K c a=true) (S:QS N ps scope)
    (len:∀vs H Q E,sp vs H Q E->vs.length=ps.length)
    (hbody:∀(A:Around)(outer:List Env)(s:Shared)(H:Hp)(vs:List V)(Q:VK)(E:XK),Room k (A.deeper (envOfC a scope s.heap.objs.size f c))->sp vs H Q E ->
      ∃t,PSs (jb CX P w K mg O8 N a scope f c A outer s H E) d t/\t { nx:=λ_ H'=>Q .non H',rt:=Q } (Yr N vs) H) :
    X2 P w K mg O8 CX (k+1) f (PySem.W.fnOf name a params d scope R kV j T O c ct) ps sp:=by
  refine⟨len,λA outer s H args us vs Q E C l Y r z=>?_⟩;have hl:=len _ _ _ _ z;have L:K.In s.heap:=l.mod.kin.keeps λb o e=>(l.bs b o e).1;have lim:s.heap.NoLimit:=l.mod.nolimit.keeps λb o e=>(l.bs b o e).1;have h:∀y∈ps.zip us,scope.names.lookup y.1=some .local∨(scope.names.lookup y.1=some .cell/\((cellsFrom (s.heap.objs.size+1) scope.names []).lookup y.1).isSome=true):=λ⟨n,v⟩ hy=>by
    rcases S.par n (List.of_mem_zip hy).1 with q|q
    . exact .inl q
    . exact .inr ⟨q,PySem.W.cellsFrom_some _ _ _ (.inl q)⟩
  refine codeAny_call_function C.depth (L _ _ lk) rfl S.co S.gen rfl (PySem.W.codeRec_of L hcd) (Y _ _ _ _ ?_);refine wpAny_newFunctionEnv_cells S.kind h λenv Z U x=>?_;subst Z;refine⟨lim.keeps x.toInCall.keep,codeAny_func ?_⟩;obtain⟨t,ht,hq⟩:=hbody A outer s H vs Q E (C.deeper _) z;have I:Inv (jb CX P w K mg O8 N a scope f c A outer s H E) [] (Yr N vs) H U:=vE S C.hd l hl r x;refine wpAny_mono (ht [] U (Yr N vs) H _ I hq) (λX s' i=>?_) λe s' i=>i;have m:∀{σ':St}{H':Hp}{v:V}{u:Value},Inv (jb CX P w K mg O8 N a scope f c A outer s H E) [] σ' H' s'->RelV v u->Q v H'->CE outer P w H s Q u s' :=
    λ{σ' H' v u} J F q=>⟨v,H',J.os,J.bare,J.O8,J.hok,F,q⟩
  cases X with
  |ret u=>obtain⟨v,σ',H',J,F,q⟩:=i;exact m J F q
  |next=>obtain⟨σ',H',J,q⟩:=i;exact m (v:=V.non) (u:=Value.none) J rfl q
  |brk=>obtain⟨_,_,_,q⟩:=i;exact False.elim q
  |cont=>obtain⟨_,_,_,q⟩:=i;exact False.elim q
section
variable{X:Cx}{x:Str}{p pos:Pos}{e:Expr}{es:List Expr}{t:TA}{id T:String}{r:List V->Hp->VK->Prop}
def tCB(r:List V->Hp->VK->Prop)(t:TA):TE:=λσ H Q=>t σ H λvs H1=>r vs H1 Q
theorem UJ(d:Z5 X (.builtin id) r)(f:Gl X x)(i:X.mg x=none)(l:bootBuiltins x=some (.builtin id))(c:PA X (e::es) t)(j:x ≠ "__name__" := by decide)(a:(x==("__debug__" : Str))=false:=by decide)
  (he:starEach (e::es) X.env=(false,eval e X.env)::starEach es X.env:=by rfl) (hpl:(backTo pos (starEach es X.env)).any (·.1)=false:=by rfl):PE X (.Call (.Name x p) (e::es) [] pos) (tCB r t):=by
 intro b s σ H Q I h;refine wpAny_Call_Name_kw (XL I f i l ?_ j a);exact PyProof.Rows.callWith_builtin1 (thn (c pos b s σ H _ I h) λus m ⟨vs,H1,I1,r1,q1⟩=>d b m σ H1 vs us Q I1 r1 q1) he hpl
theorem vV(d:Z5 X (.type T) r)(f:Gl X x)(i:X.mg x=none)(l:bootBuiltins x=some (.type T))(c:PA X (e::es) t)(j:x ≠ "__name__" := by decide)(a:(x==("__debug__" : Str))=false:=by decide)
  (he:starEach (e::es) X.env=(false,eval e X.env)::starEach es X.env:=by rfl) (hpl:(backTo pos (starEach es X.env)).any (·.1)=false:=by rfl):PE X (.Call (.Name x p) (e::es) [] pos) (tCB r t):=by
 intro b s σ H Q I h;refine wpAny_Call_Name_kw (XL I f i l ?_ j a);exact PyProof.Rows.callWith_type1 (thn (c pos b s σ H _ I h) λus m ⟨vs,H1,I1,r1,q1⟩=>d b m σ H1 vs us Q I1 r1 q1) he hpl
end
end L2
namespace HT
open PySem PyProof.Rows
section
open PySem.SeqAt
open PySem.AutoSeq1 (wpAny_loadPart')
open PySem.MeetsSeq PySem.MeetsSeq2 PySem.MeetsSeq3
end
section
variable{prog:Program}{w:World}{A:Around}{E:C2}{s:Shared}
theorem cat_tup{t b:Addr}{vs a:List Value}{Q:C2}(x:IsTup s.heap t vs.toArray)(v:IsTup s.heap b a.toArray)(q:vs≠[])
  (h1:a=[]->Q (.ref t) s) (h2:a≠[]->Q (.ref s.heap.objs.size) { s with heap:=s.heap.push { cls:=.type "tuple", data:=.seq (vs++a).toArray } })
  (hsz:vs.length+a.length<=sizeLine):wpAny (model prog w) A (binaryOp .Add (.ref t) (.ref b)) Q E s:=by
 obtain⟨⟨cls,dd,data,u⟩,j,o,n,hd⟩:=id x;obtain⟨⟨m,d,data2,i⟩,c,f,r,h⟩:=id v;simp only at o hd f h;subst o hd f h;have e:vs.toArray++a.toArray=(vs++a).toArray:=by simp
 by_cases l:a=[]
 ·exact concat_meets ⟨_,j,rfl⟩ ⟨_,c,rfl⟩ noFill_tuple_add seq_tuple_add PySem.F.slot_tuple_add PySem.F.entry_tuple_add (PySem.F.args_tuple_add_2 _ _)
   (tuple_addW1 t b vs.toArray a.toArray n r dd d u i (by simpa using q) (by simp[l])) ⟨j,c,h1 l⟩
 ·refine concat_meets ⟨_,j,rfl⟩ ⟨_,c,rfl⟩ noFill_tuple_add seq_tuple_add PySem.F.slot_tuple_add PySem.F.entry_tuple_add (PySem.F.args_tuple_add_2 _ _)
   (tuple_addW2 t b vs.toArray a.toArray n r dd d u i (by simpa using q) (by simpa using l) (by rw[An,An];exact hsz)) ⟨j,c,?_⟩
  rw[e];exact h2 l
def sIx(n d:Nat):Option Int->Nat
 |none=>d
 |some v=>if v<0 then (v+(n:Int)).toNat else min v.toNat n
theorem sIx_nat(n d k:Nat):sIx n d (some (k:Int))=min k n:=by show(if (k:Int)<0 then ((k:Int)+(n:Int)).toNat else min (k:Int).toNat n)=min k n;rw[Cs ⋯,Bo]
theorem M9(n d:Nat)(hd:d<=n)(o:Option Int):sIx n d o<=n:=by
  cases o with
  |none=>exact hd
  |some v =>
    show(if v<0 then (v+(n:Int)).toNat else min v.toNat n)<=n;by_cases a:v<0
    . rw[Ct a];lia
    . rw[Cs a];exact Nat.min_le_right _ _
theorem K6(v:Int)(n d:Nat):(if v<0 then max (v+(n:Int)) 0 else min v (n:Int))=((sIx n d (some v):Nat):Int):=by
 show(if v<0 then max (v+(n:Int)) 0 else min v (n:Int))=(((if v<0 then (v+(n:Int)).toNat else min v.toNat n):Nat):Int);by_cases a:v<0
 ·simp only[Ct a];lia
 ·simp only[Cs a];lia
theorem Kb(lo hi:Option Int)(n:Nat):Builtin.Slice.sliceAdjust lo hi 1 (n:Int)=(((sIx n 0 lo:Nat):Int),((sIx n n hi:Nat):Int)):=by
 have a:¬ ((1:Int)<0):=⋯
 unfold Builtin.Slice.sliceAdjust;simp only[a,if_false];refine Prod.ext ?_ ?_
 ·cases lo with
  |none=>rfl
  |some v=>exact K6 v n 0
 ·cases hi with
  |none=>rfl
  |some v=>exact K6 v n n
theorem KD(i j:Nat):Builtin.Slice.slicePlaces (i:Int) (j:Int) 1=j-i:=by
 unfold Builtin.Slice.slicePlaces;have a:(1:Int) > 0:=⋯
 simp only[a,if_true,Int.ediv_one];split<;>lia
theorem xN{v:Value}{o:Option Int}{Q:Option Int->Shared->Prop}(p:IsPart v o)(h:Q o s):wpAny (model prog w) A (Builtin.Slice.slicePartIndex v) Q E s:=by
 cases p with
 |none=>exact slicePart_none h
 |int i t=>exact slicePart_int h
theorem sliceApplied_gen{e:Addr}{c d:Value}{lo hi:Option Int}{n:Nat}{Q:Int×Int×Nat->Shared->Prop}(i:s.heap.IsSliceOf e c d .none)(pl:IsPart c lo)(j:IsPart d hi)
  (h:Q (((sIx n 0 lo:Nat):Int),1,sIx n n hi-sIx n 0 lo) s):wpAny (model prog w) A (Builtin.Slice.sliceApplied (.ref e) (pure (n:Int))) Q E s:=by
 obtain⟨os,b,f,a⟩:=id i;unfold Builtin.Slice.sliceApplied Builtin.Slice.sliceFields;refine Cr (Cr (wpAny_field b a (x:=c) rfl (Cr (wpAny_field b a (x:=d) rfl (Cr (wpAny_field b a (x:=.none) rfl (Cu ?_)))))));refine Cr (slicePart_none ?_);show wpAny _ _ (if ((1:Int)==0)=true then _ else _) _ _ s;rw[Cs (by decide)];refine Cr (xN pl (Cr (xN j (Cr (Cu ?_)))));show wpAny _ _ (match Builtin.Slice.sliceAdjust lo hi 1 (n:Int)with|(lo,hi)=>pure (lo,(1:Int),Builtin.Slice.slicePlaces lo hi 1)) _ _ s;rw[Kb lo hi n];show wpAny _ _ (pure (((sIx n 0 lo:Nat):Int),(1:Int),Builtin.Slice.slicePlaces ((sIx n 0 lo:Nat):Int) ((sIx n n hi:Nat):Int) 1)) _ _ s;rw[KD];exact Cu h
theorem kK(xs:Array Value)(i k:Nat):((List.range k).filterMap λ(m:Nat)=>xs[((i:Int)+(m:Int) * 1).toNat]?).toArray=((xs.toList.drop i).take k).toArray:=by
 have e:(λ(m:Nat)=>xs[((i:Int)+(m:Int) * 1).toNat]?)=λm=>xs[i+m]?:=by
  funext m;have:((i:Int)+(m:Int) * 1).toNat=i+m:=⋯
  rw[this]
 rw[e];have:=pick_run xs i k;rw[List.filterMap_map]at this;have a:((λx=>xs[x]?)∘λx=>i+x)=λm=>xs[i+m]?:=rfl;rw[a]at this;rw[this]
theorem getItem_tuple_cut{t i:Addr}{items:Array Value}{l n:Value}{lo hi:Option Int}{Q:C2}(b:IsTup s.heap t items)(j:s.heap.IsSliceOf i l n .none)(pl:IsPart l lo)(r:IsPart n hi)
  (hw:¬ (sIx items.size 0 lo=0/\sIx items.size items.size hi=items.size))
  (h:Q (.ref s.heap.objs.size) { s with heap:=s.heap.push { cls:=.type "tuple", data:=.seq ((items.toList.drop (sIx items.size 0 lo)).take (sIx items.size items.size hi-sIx items.size 0 lo)).toArray } })
  (hsz:items.size<=sizeLine):wpAny (model prog w) A (getItem (.ref t) (.ref i)) Q E s:=by
 have a:sizeOk (.seq ((items.toList.drop (sIx items.size 0 lo)).take (sIx items.size items.size hi-sIx items.size 0 lo)).toArray):=by show((items.toList.drop (sIx items.size 0 lo)).take (sIx items.size items.size hi-sIx items.size 0 lo)).toArray.size<=sizeLine;rw[An,Az,Be,Bx];lia
 have u:sIx items.size items.size hi<=items.size:=M9 _ _ (Ae _) hi;obtain⟨os,f,d,o⟩:=id j;have c:s.TypeIs (.ref i) "slice" := ⟨os,f,d⟩;unfold getItem
 try with_reducible refine wpAny_holding ?_
 first|refine Cr (Cu ?_)|skip
 refine Cr (wpAny_sequenceKey b.typeIs (by decide) ?_);refine Cr (wpAny_callSpecial?_slot (name:=Str.ofString "__getitem__") b.typeIs PyProof.Rows.slot_tuple_getitem
  (wpAny_call_entry PyProof.Rows.slot_tuple_getitem b.typeIs entry_tuple_getitem ?_ (args_tuple_getitem _ _)))
 show wpAny _ _ (Builtin.Tuple.tupleItemsOf (.ref t) >>= _) _ _ s;refine Cr (tupleItemsOf_ b ?_);refine Cr (wpAny_typeOf c ?_);rw[Ct (by decide)];refine Cr (sliceApplied_gen j pl r ?_);have e:¬ ((((sIx items.size 0 lo:Nat):Int)==0&&(1:Int)==1&&(sIx items.size items.size hi-sIx items.size 0 lo)==items.size)=true):=by intro q;rw[A4,A4]at q;have v:((sIx items.size 0 lo:Nat):Int)=0:=eq_of_beq q.1.1;have x:sIx items.size items.size hi-sIx items.size 0 lo=items.size:=eq_of_beq q.2;exact hw ⟨⋯,⋯⟩
 show wpAny _ _ (if (((sIx items.size 0 lo:Nat):Int)==0&&(1:Int)==1&&(sIx items.size items.size hi-sIx items.size 0 lo)==items.size)=true then _ else _) _ _ s;rw[Cs e,kK]
 first
  |exact Cr (m:=Builtin.Tuple.tupleExact _) (wpAny_newObj_type (Cu ⟨_,rfl,Cu h⟩) a)
  |exact Cr (m:=Builtin.Tuple.tupleExact _) (wpAny_newObj_type (Cr (Cu (Cu ⟨_,rfl,Cu h⟩))) a)
  |exact Cr (Cr (m:=Builtin.Tuple.tupleExact _) (wpAny_newObj_type (Cu (Cu ⟨_,rfl,Cu h⟩)) a))
  |exact Cr (Cr (m:=Builtin.Tuple.tupleExact _) (wpAny_newObj_type (Cu ⟨_,rfl,Cu h⟩) a))
end
end HT
namespace L2
open PySem PySem.Spec PyProof.Rows
abbrev TO:=St->Hp->(Option Int->Hp->Prop)->Prop
def PO(X:Cx)(e:Option Expr)(t:TO):Prop :=
  ∀(O9 : List (Addr × Obj))(s : Shared)(σ : St)(H : Hp)(Q : Option Int -> Hp -> Prop), Inv X O9 σ H s -> t σ H Q ->
    wpAny (model X.prog X.w) X.A (evalPart e X.env) (λu s'=>∃o H',Inv X O9 σ H' s'/\IsPart u o/\Q o H') X.xe s
def PJ:TO:=λ_ H Q=>Q none H
def Lb(t:TE):TO:=λσ H Q=>t σ H λx H1=>∃i,x=.int i/\Q (some i) H1
section
variable{X:Cx}{e:Expr}{te:TE}{lo hi:Option Expr}{tl th:TO}{pos p2:Pos}
theorem O6:PO X none PJ:=by intro a s σ H Q I h;rw[evalPart_none];exact Cu ⟨none,H,I,.none,h⟩
theorem O5(h:PE X e te):PO X (some e) (Lb te):=by intro a s σ H Q I hw;rw[evalPart_some];refine thn (h a s σ H _ I hw) λu b ⟨x,H1,I1,r1,q1⟩=>?_;obtain⟨i,rfl,q⟩:=q1;obtain⟨t,rfl⟩:=r1;exact⟨some i,H1,I1,.int i t,q⟩
def SlR(X:Cx)(r:V->Option Int->Option Int->Hp->VK->Prop):Prop :=
  ∀(a : List (Addr × Obj))(s : Shared)(σ : St)(H : Hp)(x : V)(v c d : Value)(lo hi : Option Int)(b : Addr)(Q : VK), Inv X a σ H s -> RelV x v -> s.heap.IsSliceOf b c d .none -> IsPart c lo -> IsPart d hi -> r x lo hi H Q ->
    ∃T id,typeLookup (.type T) "__getitem__" = pure (some (.builtin id))/\s.TypeIs v T/\wpAny (model X.prog X.w) X.A (getItem v (.ref b)) (EP X a σ Q) X.xe s
def tSl(r:V->Option Int->Option Int->Hp->VK->Prop)(te:TE)(tl th:TO):TE:=λσ H Q=>te σ H λx H1=>tl σ H1 λl H2=>th σ H2 λu H3=>r x l u H3 Q
theorem xy{r:V->Option Int->Option Int->Hp->VK->Prop}(t:SlR X r)(m:PE X e te)(o:PO X lo tl)(z:PO X hi th):PE X (.Subscript e (.Slice lo hi none p2) pos) (tSl r te tl th):=by intro c s σ H Q I h;refine Subscript_ (thn (m c s σ H _ I h) λv C ⟨x,H1,I1,r1,q1⟩=>?_);refine wpAny_Slice (thn (o c C σ H1 _ I1 q1) λd F ⟨l,H2,I2,pl,q2⟩=>thn (z c F σ H2 _ I2 q2) λf a ⟨u,H3,I3,pu,q3⟩=>?_);rw[evalPart_none];refine Cu ?_;have i:Inv X c σ H3 { a with heap:=a.heap.push { cls:=.type "slice", data:=.fields #[d,f,.none] } }:=I3.kept (t':=a.toks) λb J q=>Ad _ q;obtain⟨T,id,j,y,n⟩:=t c { a with heap:=a.heap.push { cls:=.type "slice", data:=.fields #[d,f,.none] } } σ H3 x v d f l u a.heap.objs.size Q i r1 (Heap.IsSliceOf.new ..) pl pu q3;show wpAny (model X.prog X.w) X.A (subscriptTail e (.Slice lo hi none p2) v (.ref a.heap.objs.size)) (EP X c σ Q) X.xe { a with heap:=a.heap.push { cls:=.type "slice", data:=.fields #[d,f,.none] } };exact tail_any (ops:=[.ref a.heap.objs.size,v]) y j n (by with_unfolding_all rfl)
def Uf(xs:List V)(lo hi:Option Int):List V:=(xs.drop (HT.sIx xs.length 0 lo)).take (HT.sIx xs.length xs.length hi-HT.sIx xs.length 0 lo)
theorem zN(xs:List V)(lo hi:Option Int):(Uf xs lo hi).length<=xs.length:=by unfold Uf;rw[Az,Be];lia
def Lg(K:Aa):V->Option Int->Option Int->Hp->VK->Prop:=λx lo hi H Q=>∃a xs,x=.ref a/\SqT K H a xs /\
 ¬ (HT.sIx xs.length 0 lo=0/\HT.sIx xs.length xs.length hi=xs.length)/\∀p,H p=none->Q (.ref p) (upd H p (.tup (Uf xs lo hi)))
theorem M7:SlR X (Lg X.K):=by
 intro j s σ H x v vl vu lo hi sl Q I rx hs pl pu h;obtain⟨a,xs,rfl,hx,i,q⟩:=h;cases rx;obtain⟨d,r,f,hz⟩:=I.tuple hx;have c:d.toArray.size=xs.length:=by rw[An];exact r.length.symm
 refine⟨"tuple", _,PyProof.Rows.slot_tuple_getitem.lookup,f.typeIs,?_⟩;refine HT.getItem_tuple_cut f hs pl pu (by rw[c];exact i) ?_ (by rw[c];exact hz);rw[c];refine⟨.ref s.heap.objs.size,_,I.laid (t':=s.toks) (o:=.tup (Uf xs lo hi)) (λb l q=>Ad _ q) (Ae _) ?_,rfl,q _ (I.hok.fresh (Ae _))⟩;exact⟨A9 (zN xs lo hi) hz,_,(r.drop (HT.sIx xs.length 0 lo)).take (HT.sIx xs.length xs.length hi-HT.sIx xs.length 0 lo),IsTup.new _ _⟩
def HB(K:Aa):R2:=λx y H Q=>∃a b xs ys,x=.ref a/\y=.ref b/\SqT K H a xs/\SqT K H b ys/\xs≠[]/\xs.length+ys.length<=sizeLine /\
 (ys=[]->Q (.ref a) H)/\(ys≠[]->∀p,H p=none->Q (.ref p) (upd H p (.tup (xs++ys))))
theorem Vals.nil_iff{xs:List V}{us:List Value}(r:Vals xs us):us=[]↔xs=[]:=by
 cases r with
 |nil=>simp
 |cons _ _=>simp
theorem Py:OpR X (binaryOp .Add) (HB X.K):=by intro t s σ H x y v u Q I rx ry h;obtain⟨a,b,xs,ys,rfl,rfl,i,j,hx,hz,n,r⟩:=h;cases rx;cases ry;obtain⟨l,d,m,_⟩:=I.tuple i;obtain⟨f,c,p2,_⟩:=I.tuple j;refine HT.cat_tup m p2 (λz=>hx (d.nil_iff.mp z)) (λz=>⟨.ref a,H,I,rfl,n (c.nil_iff.mp z)⟩) (λz=>?_) (by rw[<- d.length,<- c.length];exact hz);refine⟨.ref s.heap.objs.size,_,I.laid (t':=s.toks) (o:=.tup (xs++ys)) (λb C q=>Ad _ q) (Ae _) ?_,rfl,r (λw=>z (c.nil_iff.mpr w)) _ (I.hok.fresh (Ae _))⟩;exact⟨by rw[Am];exact hz,_,d.append c,IsTup.new _ _⟩
end
def ixN(n:Nat)(i:Int):Option Nat:=if 0<=i then (if i<n then some i.toNat else none)else if -(n:Int)<=i then some (i+n).toNat else none
def atI{α:Type}(xs:List α)(i:Int):Option α:=(ixN xs.length i).bind λj=>xs[j]?
theorem Gx{n:Nat}{i:Int}{j:Nat}(h:ixN n i=some j):seqIndex? i n=some j/\j<n /\ -(n:Int)<=i/\i<n:=by
 unfold ixN at h;by_cases b:0<=i
 ·rw[Ct b]at h;by_cases a:i<n
  ·rw[Ct a]at h;have e:i.toNat=j:=Aj h;exact⟨by rw[seqIndex_of b a,e],⋯,⋯,a⟩
  ·rw[Cs a]at h;cases h
 ·rw[Cs b]at h;by_cases a:-(n:Int)<=i
  ·rw[Ct a]at h;have e:(i+n).toNat=j:=Aj h;exact⟨by rw[seqIndex_neg ⋯ a,e],⋯,a,⋯⟩
  ·rw[Cs a]at h;cases h
theorem K3{α:Type}{xs:List α}{i:Int}{v:α}(h:atI xs i=some v):∃j,seqIndex? i xs.length=some j/\xs[j]?=some v/\j<xs.length /\ -(xs.length:Int)<=i/\i<xs.length:=by
  unfold atI at h;cases e:ixN xs.length i with
  |none=>rw[e]at h;cases h
  |some j=>rw[e]at h;obtain⟨a,b,c,d⟩:=Gx e;exact⟨j,a,h,b,c,d⟩
theorem yZ{α:Type}{xs:List α}{j:Nat}{v:α}(h:xs[j]?=some v):atI xs (j:Int)=some v:=by
 have a:j<xs.length:=(Ac.mp h).1;have e:ixN xs.length (j:Int)=some j:=by unfold ixN;rw[Ct ⋯,Ct ⋯];simp
 unfold atI;rw[e];exact h
theorem V6{α:Type}(xs:List α)(v:α):atI (xs++[v]) (-1)=some v:=by
 have a:(xs++[v]).length=xs.length+1:=by simp
 have e:ixN (xs++[v]).length (-1)=some xs.length:=by unfold ixN;rw[a,Cs (by decide),Ct ⋯];congr 1;lia
 unfold atI;rw[e];show(xs++[v])[xs.length]?=some v;simp
def yW(b:Expr):Prop:=∀o i,subscripted b false o i=operate [o,i] (getItem o i)
def IxR(X:Cx)(r:R2):Prop :=
  ∀(value slice : Expr)(a : List (Addr × Obj))(s : Shared)(σ : St)(H : Hp)(x y : V)(v u : Value)(Q : VK), Inv X a σ H s -> RelV x v -> RelV y u -> r x y H Q ->
    subscripted slice false v u=operate [v,u] (getItem v u)->wpAny (model X.prog X.w) X.A (subscriptTail value slice v u) (EP X a σ Q) X.xe s
def MtR(X:Cx)(id:String)(r:V->List V->Hp->VK->Prop):Prop :=
  ∀(a : List (Addr × Obj))(s : Shared)(σ : St)(H : Hp)(x : V)(xs : List V)(v : Value)(us : List Value)(Q : VK), Inv X a σ H s -> RelV x v -> Vals xs us -> r x xs H Q ->
    wpAny (model X.prog X.w) X.A (call (.builtin id) (v::us)) (EP X a σ Q) X.xe s
section
variable{X:Cx}{a b:Expr}{ta tb:TE}{pos:Pos}
theorem wZ{r:R2}(f:IxR X r)(d:PE X a ta)(e:PE X b tb)(i:yW b):PE X (.Subscript a b pos) (tOp r ta tb):=by intro c s σ H Q I h;exact Subscript_ (rJ d e I h λv u m x y H2 I2 j l q=>f a b c m σ H2 x y v u Q I2 j l q (i _ _))
def Lj(K:Aa):R2:=λx y H Q=>∃p xs i v,x=.ref p/\y=.int i/\SqL K H p xs/\atI xs i=some v/\Q v H
def Li(K:Aa):R2:=λx y H Q=>∃p xs i v,x=.ref p/\y=.int i/\SqT K H p xs/\atI xs i=some v/\Q v H
theorem Gy:IxR X (Lj X.K):=by
 intro value slice O9 s σ H x y v u Q I rx ry h hs;obtain⟨p,xs,i,z,rfl,rfl,O,J,q⟩:=h;cases rx;obtain⟨t,rfl⟩:=ry;obtain⟨f,r,pl,hz⟩:=I.list O;obtain⟨j,d,o,P,C,F⟩:=K3 J;obtain⟨w,m,l⟩:=r.get o;have L:=r.length;have R:=VF;have c:EP X O9 σ Q w s:=⟨z,H,I,l,q⟩;by_cases n:0<=i
 ·have e:i.toNat=j:=by rw[seqIndex_of n F]at d;exact Aj d
  exact item_listR pl.isList n ⋯ (by rw[e];simpa using m) c hs
 ·have e:(i+(f.toArray.size:Int)).toNat=j:=by rw[seqIndex_neg ⋯ C]at d;rw[An,<- L];exact Aj d
  exact subscriptTail_builtinR (x:=w) pl.isList.typeIs slot_list_getitem.lookup
   (wpAny_getItem_list_neg (Q:=λr s'=>r=w/\EP X O9 σ Q r s') pl.isList ⋯ (by rw[An]<;>lia) ⋯ (by rw[e];simpa using m) ⟨rfl,c⟩) hs
theorem Nz:IxR X (Li X.K):=by
 intro value slice O9 s σ H x y v u Q I rx ry h hs;obtain⟨p,xs,i,z,rfl,rfl,o,m,q⟩:=h;cases rx;obtain⟨t,rfl⟩:=ry;obtain⟨C,r,pl,hz⟩:=I.tuple o;obtain⟨j,f,l,F,J,L⟩:=K3 m;obtain⟨w,e,d⟩:=r.get l;have n:=r.length;have O:=VF;have c:EP X O9 σ Q w s:=⟨z,H,I,d,q⟩;exact subscriptTail_builtinR (x:=w) pl.typeIs slot_tuple_getitem.lookup
  (getItem_tuple (j:=j) (Q:=λr s'=>r=w/\EP X O9 σ Q r s') pl ⋯ ⋯ (by rw[An,<- n];exact f) (by simpa using e) ⟨rfl,c⟩) hs
theorem Ks(c:List Value)(n j:Nat)(u:Value):Obj.mapSeq (·.setIfInBounds j u) { cls:=.type "list", data:=.seq c.toArray n }={ cls:=.type "list", data:=.seq (c.set j u).toArray n }:=by simp[Obj.mapSeq]
theorem Inv.lst{d:C4}{σ:St}{H:Hp}{s:Shared}{p:Addr}{xs:List V}(I:Inv X d σ H s)(h:H p=some (.lst xs)) :
  ∃(c:List Value) (n:Nat),Vals xs c/\s.heap.get? p=some { cls:=.type "list", data:=.seq c.toArray n }/\xs.length<=sizeLine:=by
 obtain⟨z,c,n,r,e⟩:=I.hok p _ h;exact⟨c,n,r,e,z⟩
theorem Inv.lstUpd{i:C4}{σ:St}{H:Hp}{s:Shared}{p:Addr}{xs ys:List V}{c its':List Value}{n d:Nat}{f:Obj->Obj}(I:Inv X i σ H s)(h:H p=some (.lst xs))
  (ho:s.heap.get? p=some { cls:=.type "list", data:=.seq c.toArray n }) (hf:f { cls:=.type "list", data:=.seq c.toArray n }={ cls:=.type "list", data:=.seq its'.toArray d }) (r:Vals ys its') (hz:ys.length<=sizeLine) (t:Nat) :
  Inv X i σ (upd H p (.lst ys)) { s with heap:=s.heap.update p f,toks:=t }:=by
 have e:(s.heap.update p f).get? p=some { cls:=.type "list", data:=.seq its'.toArray d }:=by rw[Heap.get?_update_self f ho (by rw[hf]<;>rfl),hf]
 refine I.write (x:=p) (e:=p) (by rw[h];trivial) (.inl rfl) (λb u j q=>(Heap.get?_update_other _ _ (Ne.symm j)).trans q) ⟨_,e⟩ ?_;exact⟨hz,its',d,r,e⟩
def Hw:V->V->V->Hp->(Hp->Prop)->Prop:=λo i v H Q=>∃p xs k j,o=.ref p/\i=.int k/\H p=some (.lst xs)/\ixN xs.length k=some j/\Q (upd H p (.lst (xs.set j v)))
theorem set_list:oE X Hw:=by
 intro C s σ H o i v ov iv u Q I ro ri rv h;obtain⟨p,xs,k,j,rfl,rfl,U,F,q⟩:=h;cases ro;obtain⟨t,rfl⟩:=ri;obtain⟨c,n,r,l,hz⟩:=I.lst U;obtain⟨d,J,y,z⟩:=Gx F;have f:=r.length;have L:=VF;have m:Inv X C σ (upd H p (.lst (xs.set j v))) { s with heap:=s.heap.update p (Obj.mapSeq (·.setIfInBounds j u)) } :=
  I.lstUpd U l (Ks c n j u) (r.set rv j) (by rw[List.length_set];exact hz) s.toks
 by_cases x:0<=k
 ·have e:k.toNat=j:=by rw[seqIndex_of x z]at d;exact Aj d
  exact PySem.W.ki_setAt l x ⋯ (by rw[An,<- f];exact z) (by rw[e];exact⟨_,m,q⟩)
 ·have e:(k+(c.toArray.size:Int)).toNat=j:=by rw[seqIndex_neg ⋯ y]at d;rw[An,<- f];exact Aj d
  exact PySem.W.ki_setBack l ⋯ (by rw[An,<- f];exact y) ⋯ (by rw[e];exact⟨_,m,q⟩)
theorem VW(lo hi:Option Int)(n:Nat):(sliceBounds lo hi none n).1=((HT.sIx n 0 lo:Nat):Int)/\(sliceBounds lo hi none n).2.1=((HT.sIx n n hi:Nat):Int)/\(sliceBounds lo hi none n).2.2=1:=by
  refine⟨?_,?_,rfl⟩
  . cases lo with
    |none=>simp[sliceBounds,HT.sIx]
    |some i =>
      simp only[sliceBounds,HT.sIx,Option.getD_none,show(1:Int) > 0 by decide,if_true];by_cases h:i<0
      . simp only[h,if_true]<;>lia
      . simp only[h,if_false]<;>lia
  . cases hi with
    |none=>simp[sliceBounds,HT.sIx]
    |some i =>
      simp only[sliceBounds,HT.sIx,Option.getD_none,show(1:Int) > 0 by decide,if_true];by_cases h:i<0
      . simp only[h,if_true]<;>lia
      . simp only[h,if_false]<;>lia
theorem yk(c:List Value)(lo hi:Option Int):slicePick c.toArray lo hi none=((c.drop (HT.sIx c.length 0 lo)).take (HT.sIx c.length c.length hi-HT.sIx c.length 0 lo)).toArray:=by obtain⟨d,e,f⟩:=VW lo hi c.toArray.size;unfold slicePick;rw[d,e,f];simp only[sliceRange_one,pick_run,An]<;>rfl
def Lh(K:Aa):V->Option Int->Option Int->Hp->VK->Prop:=λx lo hi H Q=>∃a xs,x=.ref a/\SqL K H a xs/\∀p,H p=none->Q (.ref p) (upd H p (.lst (Uf xs lo hi)))
theorem VV:SlR X (Lh X.K):=by
 intro f s σ H x v vl vu lo hi sl Q I rx hs pl pu h;obtain⟨a,xs,rfl,hx,q⟩:=h;cases rx;obtain⟨e,r,d,hz⟩:=I.list hx;have c:=r.length;refine⟨"list", _,slot_list_getitem.lookup,d.isList.typeIs,?_⟩;refine wpAny_getItem_list_slice d.isList hs pl pu .none (by simp) ?_ (by rw[An]<;>lia)
 rw[yk,<- c];refine⟨.ref s.heap.objs.size,_,I.laid (t':=s.toks) (o:=.lst (Uf xs lo hi)) (λb i q=>Ad _ q) (Ae _) ?_,rfl,q _ (I.hok.fresh (Ae _))⟩;exact⟨A9 (zN xs lo hi) hz,_,0,(r.drop (HT.sIx xs.length 0 lo)).take (HT.sIx xs.length xs.length hi-HT.sIx xs.length 0 lo),As _ rfl⟩
def J8:V->Bool
 |.non=>true
 |.bl _=>true
 |.int _=>true
 |.str _=>true
 |_=>false
def eqV:V->V->Bool
 |.non,.non=>true
 |.bl a,.bl b=>a==b
 |.bl a,.int b=>(if a then 1 else 0)==b
 |.int a,.bl b=>a==(if b then 1 else 0)
 |.int a,.int b=>a==b
 |.str a,.str b=>a==b
 |_,_=>false
theorem N5{A:Around}{s:Shared}{y x:V}{u v:Value}(e:RelV y u)(c:RelV x v)(f:J8 y=true)(d:J8 x=true):SeqAt.EqAt A s u v (eqV y x):=by
  cases y with
  |non =>
    cases e;cases x with
    |non=>cases c;exact SeqAt.EqAt.same _
    |bl b=>cases c;exact SeqAt.EqAt.none_bool b
    |int b=>obtain⟨t,rfl⟩:=c;exact SeqAt.EqAt.none_int b t
    |str b=>obtain⟨t,rfl⟩:=c;exact SeqAt.EqAt.none_str b t
    |_=>exact absurd (show false=true from d) Bk
  |bl a =>
    cases e;cases x with
    |non=>cases c;exact SeqAt.EqAt.bool_none a
    |bl b=>cases c;exact SeqAt.EqAt.bool_bool a b
    |int b=>obtain⟨t,rfl⟩:=c;exact SeqAt.EqAt.bool_int a b t
    |str b=>obtain⟨t,rfl⟩:=c;exact SeqAt.EqAt.bool_str a b t
    |_=>exact absurd (show false=true from d) Bk
  |int a =>
    obtain⟨t',rfl⟩:=e;cases x with
    |non=>cases c;exact SeqAt.EqAt.int_none a t'
    |bl b=>cases c;exact SeqAt.EqAt.int_bool a t' b
    |int b=>obtain⟨t,rfl⟩:=c;exact SeqAt.EqAt.int_int a t' b t
    |str b=>obtain⟨t,rfl⟩:=c;exact SeqAt.EqAt.int_str a t' b t
    |_=>exact absurd (show false=true from d) Bk
  |str a =>
    obtain⟨t',rfl⟩:=e;cases x with
    |non=>cases c;exact SeqAt.EqAt.str_none a t'
    |bl b=>cases c;exact SeqAt.EqAt.str_bool a t' b
    |int b=>obtain⟨t,rfl⟩:=c;exact SeqAt.EqAt.str_int a t' b t
    |str b=>obtain⟨t,rfl⟩:=c;exact SeqAt.EqAt.str_str a t' b t
    |_=>exact absurd (show false=true from d) Bk
  |_=>exact absurd (show false=true from f) Bk
def eqU(x:V)(u:Value):Bool:=match u with
 |.none=>eqV .non x
 |.bool b=>eqV (.bl b) x
 |.int i _=>eqV (.int i) x
 |.str z _=>eqV (.str z) x
 |_=>false
theorem gf{x y:V}{u:Value}(r:RelV y u)(f:J8 y=true):eqU x u=eqV y x:=by
 cases y with
 |non=>cases r;rfl
 |bl b=>cases r;rfl
 |int i=>obtain⟨t,rfl⟩:=r;rfl
 |str z=>obtain⟨t,rfl⟩:=r;rfl
 |_=>exact absurd (show false=true from f) Bk
theorem yY{x:V}:∀{xs:List V}{us:List Value},Vals xs us->xs.all J8=true->us.any (eqU x)=xs.any λy=>eqV y x
  |_,_,.nil,_=>rfl
  |y::xs,u::us,.cons r t,f=>by rw[Cm,A4]at f;rw[Cb,Cb,gf r f.1,yY t f.2]
theorem xo{A:Around}{s:Shared}{x:V}{v:Value}(e:RelV x v)(d:J8 x=true):∀{xs:List V}{us:List Value},Vals xs us->xs.all J8=true->∀u∈us,SeqAt.EqAt A s u v (eqU x u)
  |_,_,.nil,_=>λu c=>by cases c
  |y::xs,u::us,.cons r t,f=>λh c=>by
    rw[Cm,A4]at f;rcases Ba.mp c with rfl|c
    . rw[gf r f.1];exact N5 r e f.1 d
    . exact xo e d t f.2 h c
def inV(x:V)(xs:List V):Bool:=xs.any λy=>eqV y x
def rIn(K:Aa)(c:Bool):R2:=λx y H Q=>∃p xs,y=.ref p/\(SqL K H p xs∨SqT K H p xs)/\J8 x=true/\xs.all J8=true/\Q (.bl (if c then !inV x xs else inV x xs)) H
theorem vS:OpR X (compareOp .In) (rIn X.K false):=by
 intro i s σ H x y v u Q I rx ry h;obtain⟨p,xs,rfl,d,f,fs,q⟩:=h;cases ry;rcases d with d|d
 ·obtain⟨c,r,pl,hz⟩:=I.list d;refine SeqAt.in_listAt (eqU x) pl.isList (λw e=>xo rx f r fs w (by simpa using e)) ⟨.bl _,H,I,rfl,?_⟩;rw[show c.toArray.any (eqU x)=c.any (eqU x)by simp,yY r fs];exact q
 ·obtain⟨c,r,pl,hz⟩:=I.tuple d;refine SeqAt.in_tupleAt (eqU x) pl (λw e=>xo rx f r fs w (by simpa using e)) ⟨.bl _,H,I,rfl,?_⟩;rw[show c.toArray.any (eqU x)=c.any (eqU x)by simp,yY r fs];exact q
theorem XA:Z5 X (.builtin "len") (λxs H Q=>∃p ys,xs=[.ref p]/\(SqL X.K H p ys∨SqT X.K H p ys)/\Q (.int ys.length) H):=by
 intro j s σ H xs us Q I r h;obtain⟨p,ys,rfl,d,q⟩:=h;obtain⟨u,rfl,i⟩:=Ys r;cases i;have l:=VF;rcases d with d|d
 ·obtain⟨e,f,pl,hz⟩:=I.list d;have c:=f.length;exact Calls.call_len_list pl.isList (by simp only[An]<;>lia) ⟨.int ys.length,H,I.tok _,⟨s.toks+1,by rw[An,c]⟩,q⟩
 ·obtain⟨e,f,pl,hz⟩:=I.tuple d;have c:=f.length;exact len_tuple pl (by simp only[An]<;>lia) ⟨.int ys.length,H,I.tok _,⟨s.toks+1,by rw[An,c]⟩,q⟩
theorem Vc:Z5 X (.type "list") (λxs H Q=>∃p ys,xs=[.ref p]/\(SqL X.K H p ys∨SqT X.K H p ys)/\∀l,H l=none->Q (.ref l) (upd H l (.lst ys))):=by
 intro x s σ H xs us Q I r h;obtain⟨p,ys,rfl,m,q⟩:=h;obtain⟨u,rfl,y⟩:=Ys r;cases y;have i:∀(c:List Value),Vals ys c->ys.length<=sizeLine->∀(h':Heap)(d:Nat),(∀b o',s.heap.get? b=some o'->h'.get? b=some o') ->
   h'.get? s.heap.objs.size=some { cls:=.type "list", dict:=none,data:=.seq c.toArray d,slots:=#[] }->EP X x σ Q (.ref s.heap.objs.size) { s with heap:=h' }:=λc f hz h' d kp e =>
  ⟨.ref s.heap.objs.size,_,I.laid (t':=s.toks) kp (Ae _) (show ObjOk X.prog X.w _ h' _ (.lst ys)from⟨hz,c,d,f,e⟩),rfl,q _ (I.hok.fresh (Ae _))⟩
 rcases m with m|m
 ·obtain⟨c,f,pl,hz⟩:=I.list m;have j:=f.length;obtain⟨o,v,t,n,hd⟩:=pl.isList;exact call_list_seq p (.inl rfl) v t hd (λh' d kp e=>i c f hz h' d kp e) (by simp only[An]<;>lia)
 ·obtain⟨c,f,pl,hz⟩:=I.tuple m;have j:=f.length;obtain⟨o,v,t,n,hd⟩:=pl;exact call_list_seq p (.inr rfl) v t hd (λh' d kp e=>i c f hz h' d kp e) (by simp only[An]<;>lia)
theorem Xi:Z5 X (.type "tuple") (λxs H Q=>∃p ys,xs=[.ref p]/\((SqL X.K H p ys/\∀l,H l=none->Q (.ref l) (upd H l (.tup ys)))∨(SqT X.K H p ys/\Q (.ref p) H))):=by
 intro j s σ H xs us Q I r h;obtain⟨p,ys,rfl,h⟩:=h;obtain⟨u,rfl,t⟩:=Ys r;cases t;rcases h with ⟨d,q⟩|⟨d,q⟩
 ·obtain⟨c,f,pl,hz⟩:=I.list d;have m:=f.length;refine call_tuple_list pl.isList (λh' kp=>?_) (by simp only[An]<;>lia)
  have i:Inv X j σ H { s with heap:=h' }:=I.kept (t':=s.toks) kp;have n:Inv X j σ (upd H h'.objs.size (.tup ys)) { s with heap:=h'.push { cls:=.type "tuple", data:=.seq c.toArray } } :=
   i.laid (t':=s.toks) (λb o e=>Ad _ e) (Ae _) (show ObjOk X.prog X.w _ _ _ (.tup ys)from⟨hz,c,f,IsTup.new _ _⟩)
  exact⟨.ref h'.objs.size,_,n,rfl,q _ (i.hok.fresh (Ae _))⟩
 ·obtain⟨c,f,pl,hz⟩:=I.tuple d;exact call_tuple_same pl ⟨.ref p,H,I,rfl,q⟩
def tyV(K:Aa)(T:String)(x:V)(H:Hp):Prop:=match x with
 |.str _=>T = "str"
 |.int _=>T = "int"
 |.ref p=>(T = "list" /\ ∃xs,SqL K H p xs)∨(T = "tuple" /\ ∃o,K.lookup p=some o/\o.cls=.type "tuple" /\ o.dict=none) ∨
   (T = "dict" /\ ((∃kvs,H p=some (.dK kvs))∨∃kvs,H p=some (.dT kvs)))∨(T = "set" /\ ∃S n,H p=some (.set S n))
 |_=>False
theorem CQ{j:C4}{σ:St}{H:Hp}{s:Shared}{T:String}{x:V}{v:Value}(I:Inv X j σ H s)(r:RelV x v)(ty:tyV X.K T x H) :
    s.TypeIs v T/\∀a,v=.ref a->∃h,s.heap.get? a=some h/\h.dict=none:=by
  cases x with
  |str z =>obtain⟨t,rfl⟩:=r;cases (show T = "str" from ty);exact⟨typeIs_str s z t,λ_ e=>nomatch e⟩
  |int i =>obtain⟨t,rfl⟩:=r;cases (show T = "int" from ty);exact⟨typeIs_int s i t,λ_ e=>nomatch e⟩
  |ref p =>
    cases r;rcases ty with ⟨rfl,xs,m⟩|⟨rfl,o,d,l,hd⟩|⟨rfl,d⟩|⟨rfl,S,n,d⟩
    . obtain⟨q,_,pl,_⟩:=I.list m
      refine⟨pl.isList.typeIs,λa e=>?_⟩;cases e;obtain⟨o,n,e,c,hd,_⟩:=pl;exact⟨o,e,hd⟩
    . refine⟨⟨o,I.kIn p o d,l⟩,λa e=>?_⟩
      cases e;exact⟨o,I.kIn _ o d,hd⟩
    . have z:∃o,s.heap.get? p=some o/\o.ExactDict:=by
        rcases d with ⟨kvs,d⟩|⟨kvs,d⟩
        . obtain⟨_,_,_,_,o,_,_,e,ex,_⟩:=I.hok p _ d
          exact⟨o,e,ex⟩
        . obtain⟨_,_,_,_,o,_,_,e,ex,_⟩:=I.hok p _ d
          exact⟨o,e,ex⟩
      obtain⟨o,e,ex⟩:=z;refine⟨⟨o,e,ex.1⟩,λa f=>?_⟩;cases f;exact⟨o,e,ex.2.1⟩
    . obtain⟨o,_,_,_,e,ex,_⟩:=I.hok p _ d
      refine⟨⟨o,e,ex.1⟩,λa f=>?_⟩;cases f;exact⟨o,e,ex.2.1⟩
  |_=>exact False.elim ty
def tBM(K:Aa)(T:String)(r:V->List V->Hp->VK->Prop)(to:TE)(t:TA):TE:=λσ H Q=>to σ H λx H1=>tyV K T x H1/\t σ H1 λxs H2=>r x xs H2 Q
variable{o e:Expr}{es:List Expr}{to:TE}{t:TA}{name:Str}{apos cpos:Pos}{T id:String}{r:V->List V->Hp->VK->Prop}
theorem w6(q:PlainAttrs T)(slot:Slot T name id)(d:typeOf (.builtin id)=pure (.type "method_descriptor"))(m:MtR X id r)(n:PE X o to)(l:PA X (e::es) t)
  (hbase:attributeBase o name X.env (eval o X.env)=eval o X.env:=by rfl)
  (hfew:((backTo cpos (starEach (e::es) X.env)).all (λx=>!x.1)&&(backToKw cpos (keywordEach [] X.env)).all (λx=>x.1.isSome)
   && decide ((e::es).length+([]:List Keyword).length+(if ([]:List Keyword).isEmpty then 0 else 1)<30))=true:=by rfl)
  (hline:(apos.endLine==cpos.line)=true:=by rfl) (hs:starEach (e::es) X.env=(false,eval e X.env)::starEach es X.env:=by rfl) (hplain:(backTo cpos (starEach es X.env)).any (·.1)=false:=by rfl) :
  PE X (.Call (.Attribute o name apos) (e::es) [] cpos) (tBM X.K T r to t):=by
 intro c s σ H Q I h;refine wpAny_Call_method_late hbase hfew hline rfl (thn (n c s σ H _ I h) λv u ⟨x,H1,I1,r1,ty,q1⟩=>?_);obtain⟨i,j⟩:=CQ I1 r1 ty;refine⟨T,id,q,slot,d,i,j,?_⟩;have f:=l cpos c u σ H1 _ I1 q1;rw[hs]at f ⊢;refine Calls.callWith_builtin (by show(false||(backTo cpos (starEach es X.env)).any (·.1))=false;rw[hplain]<;>rfl) (Calls.evalArgs_plain ?_)
 exact thn f λus y ⟨vs,H2,I2,r2,q2⟩=>m c y σ H2 x vs v us Q I2 r1 r2 q2
/- xs.append(e),list.index on a module's tuple .. are MtR facts of 06m -/
end
def MtM(X:Cx)(id:String)(r:V->List V->Hp->VK->Prop):Prop :=
  ∀(a : List (Addr × Obj))(s : Shared)(σ : St)(H : Hp)(x : V)(xs : List V)(v : Value)(us : List Value)(Q : VK), Inv X a σ H s -> RelV x v -> Vals xs us -> r x xs H Q ->
    wpAny (model X.prog X.w) X.A (call (.builtin id) (v::us)) (EP X a σ Q) X.xe s
theorem Vals.one:∀{x:V}{us:List Value},Vals [x] us->∃u,us=[u]/\RelV x u
 |_,_,.cons r .nil=>⟨_,rfl,r⟩
theorem Vals.dropLast{xs:List V}{us:List Value}(h:Vals xs us):Vals xs.dropLast us.dropLast:=by
  induction h with
  |nil=>exact .nil
  |cons r t a =>
    cases t with
    |nil=>exact .nil
    |cons q t'=>exact .cons r a
theorem Vals.reverse{xs:List V}{us:List Value}(h:Vals xs us):Vals xs.reverse us.reverse:=by
 induction h with
 |nil=>exact .nil
 |cons r t a=>rw[List.reverse_cons,List.reverse_cons];exact Vals.append a (.cons r .nil)
section
variable{X:Cx}{O9:C4}{σ:St}{H:Hp}{s:Shared}{l b:Addr}{xs ys zs:List V}
theorem Inv.lset{a its':List Value}{n:Nat}{f:Array Value->Array Value}{t':Nat}(I:Inv X O9 σ H s)(c:H l=some (.lst xs))
  (e:s.heap.get? l=some { cls:=.type "list", data:=.seq a.toArray n }) (hf:f a.toArray=its'.toArray) (hv:Vals ys its') (hz:ys.length<=sizeLine) :
  Inv X O9 σ (upd H l (.lst ys)) { s with heap:=s.heap.update l (Obj.mapSeq f),toks:=t' }:=by
 have q:=PySem.IsL.update e f;rw[hf]at q;refine I.write (x:=l) (e:=l) (by rw[c];exact trivial) (.inl rfl) (λi u d h=>(Heap.get?_update_other s.heap (Obj.mapSeq f) (Ne.symm d)).trans h) ⟨_,q⟩ ?_;exact⟨hz,its',_,hv,q⟩
theorem Inv.lnew{a:List Value}{t':Nat}(I:Inv X O9 σ H s)(c:Vals ys a)(hz:ys.length<=sizeLine) :
  Inv X O9 σ (upd H s.heap.objs.size (.lst ys)) { s with heap:=s.heap.push { cls:=.type "list", data:=.seq a.toArray },toks:=t' } :=
 I.laid (λ_ _ q=>Ad _ q) (Ae _) ⟨hz,a,0,c,As _ rfl⟩
def Inv.fresh(I:Inv X O9 σ H s):H s.heap.objs.size=none:=I.hok.fresh (Ae _)
theorem Inv.lstM(I:Inv X O9 σ H s)(c:H l=some (.lst xs)):xs.length<=sizeLine/\∃(a:List Value) (n:Nat),Vals xs a/\xs.length=a.length/\s.heap.get? l=some { cls:=.type "list", data:=.seq a.toArray n }:=by obtain⟨z,a,n,r,e⟩:=I.hok l _ c;exact⟨z,a,n,r,r.length,e⟩
theorem ku{n:Nat}(h:n<=sizeLine):Builtin.List.listTooLong n=false:=by unfold Builtin.List.listTooLong;exact C0 ⋯
end
section
variable{X:Cx}
def GR:V->List V->Hp->VK->Prop:=λx vs H Q=>∃l xs y,x=.ref l/\vs=[y]/\H l=some (.lst xs)/\xs.length<sizeLine/\Q .non (upd H l (.lst (xs++[y])))
theorem zC:MtM X "list.append" GR:=by intro d s σ H x vs v us Q I rx rv h;obtain⟨l,xs,y,rfl,rfl,b,hz,q⟩:=h;cases rx;obtain⟨u,rfl,c⟩:=rv.one;obtain⟨z,a,n,r,f,e⟩:=I.lstM b;refine call_meets F.slot_list_append ⟨_,e,rfl⟩ F.entry_list_append (F.args_list_append_2 _ _) (PySem.list_append l a.toArray n u (by rw[An];lia)) ⟨e,?_⟩;refine⟨.non,_,I.lset (its':=a++[u]) b e (by simp) (r.append (.cons c .nil)) ?_,rfl,q⟩;rw[Am,List.length_singleton];lia
def Rq:V->List V->Hp->VK->Prop:=λx vs H Q=>∃l b xs a,x=.ref l/\vs=[.ref b]/\H l=some (.lst xs)/\H b=some (.lst a)/\xs.length+a.length<=sizeLine/\Q .non (upd H l (.lst (xs++a)))
theorem vO:MtM X "list.extend" Rq:=by
 intro C s σ H x vs v us Q I rx rv h;obtain⟨l,b,xs,L,rfl,rfl,f,j,hz,q⟩:=h;cases rx;obtain⟨u,rfl,y⟩:=rv.one;cases y;obtain⟨z,c,n,r,J,e⟩:=I.lstM f;obtain⟨z2,a,o,t,m,i⟩:=I.lstM j;have hsz:c.toArray.size+a.toArray.size<=sizeLine:=by rw[An,An];lia
 have d:¬ (!c.toArray.isEmpty&&Builtin.List.listTooLong (c.toArray.size+a.toArray.size))=true:=by rw[ku hsz,Bool.and_false];exact Bk
 refine call_meets F.slot_list_extend ⟨_,e,rfl⟩ F.entry_list_extend (F.args_list_extend_2 _ _)
  (AutoSeq1.list_extend_list_list_0 l c.toArray n b a.toArray o d (by rw[An];lia) ⋯) ⟨e,i,?_⟩
 refine⟨.non,_,I.lset (its':=c++a) f e (by simp) (r.append t) ?_,rfl,q⟩;rw[Am];lia
end
section
variable{prog:Program}{w:World}{A:Around}{E:C2}{s:Shared}
end
section
variable{X:Cx}
end
end L2
namespace Att
open PySem PySem.W PySem.Calls PyProof.Rows
theorem je{P:Params}{h:Heap}:∀(ns:List Int)(vs:List Value),WellAll P h vs (ns.map WData.int)->IntsAre vs ns:=by
  intro ns;induction ns with
  |nil=>intro vs w;rw[List.map_nil]at w;cases w;exact .nil
  |cons n ns c =>
    intro vs w;rw[A3]at w;cases w with
    |cons a b=>cases a;exact .cons _ _ (c _ b)
theorem uj{l:OpenLaw}{n:Nat}(v:l.most=some n){P:Params}{h:Heap}{args:List WData}{b:List Value}
    (hpre:l.row.toRowW.claim.pre args=true) (hwl:WellAll P h b args) :
    ∃a vs ns,b=[Value.ref a]/\args=[WData.list (ns.map WData.int)]/\h.get? a=some { cls:=.type "list", data:=.seq vs.toArray }/\IntsAre vs ns/\ns.length<=n:=by
  have j:WShape.hasAll [] args [.list .int]=true:=(pre_splitW hpre).1;have m:l.pre.holds [] { args:=args }=true:=(pre_splitW hpre).2;obtain⟨d,r,rfl,o,t⟩:=hasAllW_cons j;obtain rfl:=hasAllW_nil t;obtain⟨xs,rfl,u⟩:=hasW_list o;obtain⟨ns,rfl⟩:=items_int u;have e:ns.length<=n:=by
    unfold OpenLaw.pre at m;have f:(WTm.not (.lt (.lit (.int (n:Int))) (.len (.arg 0)))).holds [] { args:=[.list (ns.map .int)] }=true:=by have f:=(holds_andW m).1;rw[v]at f;exact f
    have i:=condW_of f (w_not (w_lt w_lit (w_len_list (w_arg rfl))));rw[Bf]at i;refine Nat.le_of_not_lt λq=>?_;have y:(n:Int)<((ns.length:Nat):Int):=⋯
    first
      | (rw[Cy y] at i;exact absurd i (by decide))
      | (simp at i;lia)
  cases hwl with
  |cons z C =>
    cases C;cases z with
    |list x c=>exact⟨_,_,ns,rfl,rfl,x,je ns _ c,e⟩
theorem v8(l:OpenLaw)(args:List WData):l.row.toRowW.claim.post args (.bool true) args=true :=
 postW_of (r:=l.row.toRowW) (X:=(true==true))
  (show WShape.has [] (.bool true) .bool=true by first|rfl|decide|simp[WShape.has,WShape.arms,WShape.armsAll])
  (show(WTm.eq .res (.lit (.bool true))).value [] { args:=args,res:=some (.bool true),after:=args }=some (.bool (true==true))from w_eq_bool (w_res rfl) w_lit) rfl
theorem attach_call{l:OpenLaw}{n:Nat}{q:Program}{b:List Str}{t:(C5)->Heap->Prop}{u:World->Heap->Prop}{d:DefRec}
  (hn:l.most=some n) (hdf:d.params.defaults=[])
  (call:∀(w:World)(s₀ s₁:Shared)(mg mb:C5)(fa:Addr)(o:Obj)(m j c:Value)(a:Addr)(vs:List Value)(ns:List Int),
   Ground q b [] t w s₀ mg mb s₁.heap->u w s₁.heap ->
   s₁.heap.get? fa=some o->o.data=.func (docDef d.name d.params d.body d.scope m j c)->s₁.heap.CodeRec j d.name->mg d.name=some (.ref fa) ->
   s₁.heap.get? a=some { cls:=.type "list", data:=.seq vs.toArray }->IntsAre vs ns->ns.length<=n->s₁.gens = #[] ->
   codeAny (model l.prog w) callerA (.call (.ref fa) ⟨[.ref a],[]⟩) (λr s'=>r=.ok (.ret (.bool true))/\OldK s₁.heap s'.heap/\s'.os=s₁.os/\AllBare s'.gens) s₁) :
  WalkO q b t u l.row.toRowW d [] (λf vs=>PySem.call f vs):=by
 intro w s₀ s₁ mg mb G Y fa o m j c dV kV ho hd hcd hD hmg hg args vals as hpre hlay hrd hwl hlo;obtain rfl:dV=.none:=Dflts.none hD hdf;obtain rfl:kV=.none:=Dflts.noKw hD;obtain⟨a,vs,ns,rfl,rfl,i,e,h⟩:=uj hn hpre hwl;refine enter_call (codeAny_mono (call w s₀ s₁ mg mb fa o m j c a vs ns G Y ho (fd_plain hd) hcd hmg i e h hg) λr s' C=>?_);obtain⟨rfl,v,x,y⟩:=C;exact⟨.inl ⟨.bool true,.bool true,[],rfl,λ_=>rfl,.bool true,v8 l _,λ_=>⟨List.Pairwise.nil,λ_ z=>(nomatch z)⟩⟩,v,x,y⟩
section
variable{prog:Program}{w:World}{A:Around}{E:C2}{s:Shared}{K:Frag}
def Wi(h:Heap)(L d:Addr):List (Addr×Obj):=(List.range h.objs.size).filterMap λa=>if a=L∨a=d then none else (h.get? a).map λo=>(a,o)
end
end Att
namespace L2
open PySem PySem.Spec PyProof.Rows
theorem Jt:∀{vs:List Value}{ns:List Int},IntsAre vs ns->Vals (ns.map V.int) vs
 |_,_,.nil=>.nil
 |_,_,.cons n t h=>.cons ⟨t,rfl⟩ (Jt h)
def rF(H:Hp):Prop:=∀b,H b=none∨∃o xs,H b=some (.frz o (.lst xs))
theorem gW{P:Program}{w:World}{K:Aa}{mg mb:C5}{CX:CXT}{k:Nat}{fa a:Addr}{fd:FuncData}{x:Str}{sp:Sp}{s₁:Shared}{vs:List Value}{ns:List Int}
    (KX:K.In s₁.heap) (t:s₁.heap.Ns mainGlobals mg) (f:s₁.heap.Ns builtinsNs mb) (L:∀x:Str,x ≠ "__name__" -> mb x=bootBuiltins x) (hlim:s₁.heap.NoLimit) (hg:s₁.gens = #[])
    (ha:s₁.heap.get? a=some { cls:=.type "list", data:=.seq vs.toArray }) (hi:IntsAre vs ns) (hl:ns.length<=sizeLine) (hr:Room k callerA)
    (F:∀O8:Heap,K.In O8->O8.Ns mainGlobals mg->X2 P w K mg O8 CX k fa fd [x] sp) (hbind:∀(s:Shared)(u:Value),BindsTo s fd ⟨[u],[]⟩ [(x,u)])
    (hsp:∀H:Hp,rF H->SqL K H a (ns.map V.int)->sp [.ref a] H (λv _=>v=.bl true) λ_ _ _=>False)
    (hCX:∀H e s',CX [] H s₁ (λ_ _ _=>False) e s'->False) :
    codeAny (model P w) callerA (.call (.ref fa) ⟨[.ref a],[]⟩) (λr s'=>r=.ok (.ret (.bool true))/\OldK s₁.heap s'.heap/\s'.os=s₁.os/\AllBare s'.gens) s₁:=by
  have X:=Jt hi;have C:=hi.length;have j:∀H:Hp,rF H->SqL K H a (ns.map V.int)->HOk P w H s₁.heap->(∀b,H b≠none->b=a)->(H a≠none->K.lookup a=none) ->
      codeAny (model P w) callerA (.call (.ref fa) ⟨[.ref a],[]⟩) (λr s'=>r=.ok (.ret (.bool true))/\OldK s₁.heap s'.heap/\s'.os=s₁.os/\AllBare s'.gens) s₁:=by
    intro H U hS hok T hK;have c:∀{b:Addr}{o:Obj},s₁.heap.get? b=some o->H b=none->(Vy s₁.heap H).get? b=some o:=λe n=>gE e n;have Q:∀{b:Addr}{o:Obj}{es:Array DictEntry}{ep:Nat},s₁.heap.get? b=some o->o.data=.dict es ep->H b=none:=λ{b o es ep} e d=>by
      cases q:H b with
      |none=>rfl
      |some u=>have J:b=a:=T b (by rw[q];simp);subst J;rw[ha]at e;cases e;have d':Data.seq vs.toArray _=Data.dict es ep:=d;cases d'
    have i:∀{b:Addr}{m:C5},s₁.heap.Ns b m->(Vy s₁.heap H).Ns b m:=λ{b m} ⟨o,es,ep,e,d,r⟩=>⟨o,es,ep,c e (Q e d),d,r⟩;have l:K.In (Vy s₁.heap H):=λb o e=>c (KX b o e) (by
      cases q:H b with
      |none=>rfl
      |some u=>have J:b=a:=T b (by rw[q];simp);subst J;rw[hK (by rw[q];simp)]at e;cases e)
    have hM:Mod K mg (Vy s₁.heap H):=⟨l,i t,⟨mb,i f,L⟩,let ⟨mc,h1,h2⟩:=hlim;⟨mc,i h1,h2⟩⟩;have Y:Env0 P w K mg (Vy s₁.heap H) callerA [] s₁ H:=⟨rfl,hM,λb o e=>SX e,Nat.le_of_eq (vC _ _),trivial,λb f=>absurd (show b∈([]:C9)from f) (by simp),hok,.of_eq hg⟩;refine codeAny_mono ((F _ l (i t)).run callerA [] s₁ H ⟨[.ref a],[]⟩ [.ref a] [.ref a] _ _ hr Y (hbind s₁ (.ref a)) (.cons rfl .nil) (hsp H U hS)) λr s' h=>?_;cases r with
    |error e=>exact(hCX H e s' h).elim
    |ok fl =>
      cases fl with
      |next=>exact False.elim h
      |brk=>exact False.elim h
      |cont=>exact False.elim h
      |ret u =>
        obtain⟨v,H',os,bare,un,y,r',q⟩:=h;have q':v=.bl true:=q;subst q';obtain rfl:u=Value.bool true:=r';refine⟨rfl,OldK.of_keep λb o e=>?_,os,bare⟩;cases q:H b with
        |none=>exact un.keep b o e q (by intro z;exact absurd (show b∈([]:C9)from z) (by simp)) (by simp)
        |some u =>
          rcases U b with z|⟨ob,xs,z⟩
          . rw[q]at z;cases z
          . have z2:=un.frzs b ob _ z
            obtain⟨R,_⟩:=hok b _ z;obtain⟨Z,_⟩:=y b _ z2;rw[e]at R;cases R;exact Z
  cases O:K.lookup a with
  |some o=>have e:=KX a o O;rw[ha]at e;cases e;refine j (λ_=>none) (λ_=>.inl rfl) (.inr ⟨_,vs.toArray,_,O,rfl,rfl,rfl,by rw[An,C];exact hl,by simpa using X⟩) (λb u z=>by have I:(none:Option HO)=some u:=z;cases I) (λb z=>absurd rfl z) λz=>absurd rfl z
  |none =>
    refine j (λb=>if b=a then some (.frz { cls:=.type "list", data:=.seq vs.toArray } (.lst (ns.map V.int)))else none) (λb=>?_) (.inl (.inr ⟨{ cls:=.type "list", data:=.seq vs.toArray },Ct rfl⟩)) (λb u z=>?_) (λb z=>?_) λ_=>O
    . by_cases f:b=a
      . exact .inr ⟨_,_,Ct f⟩
      . exact .inl (Cs f)
    . by_cases f:b=a
      . have I:=(Ct f).symm.trans z
        cases I;subst f;exact⟨ha,by rw[Bf];exact hl,vs,_,X,ha⟩
      . have I:=(Cs f).symm.trans z
        cases I
    . by_cases f:b=a
      . exact f
      . exact absurd (Cs f) z
theorem va{l:PySem.W.OpenLaw}{n k:Nat}{q:Program}{j:List Str}{z:(C5)->Heap->Prop}{y:World->Heap->Prop}{d:DefRec}{K:Params->Aa}{CX:World->CXT}{sp:World->Sp}{x:Str}
    (hn:l.most=some n) (hn2:n<=sizeLine) (hdf:d.params.defaults=[]) (hr:Room k callerA)
    (hY:∀(w:World)(h:Heap),y w h->(K w.params).In h)
    (F:∀(w:World)(mg:C5)(fa:Addr)(h:Heap),(K w.params).In h->h.Ns mainGlobals mg->mg d.name=some (.ref fa) ->
      ∃fd : FuncData, (∀(s : Shared)(u : Value), BindsTo s fd ⟨[u], []⟩ [(x, u)]) /\
        ∀O8:Heap,(K w.params).In O8->O8.Ns mainGlobals mg->X2 l.prog w (K w.params) mg O8 (CX w) k fa fd [x] (sp w))
    (hsp:∀(w:World)(H:Hp)(a:Addr)(ns:List Int),ns.length<=n->rF H->SqL (K w.params) H a (ns.map V.int)->sp w [.ref a] H (λv _=>v=.bl true) λ_ _ _=>False)
    (hCX:∀(w:World)(H:Hp)(s:Shared)(e:Value)(s':Shared),CX w [] H s (λ_ _ _=>False) e s'->False) :
    PySem.W.WalkO q j z y l.row.toRowW d [] (λf vs=>PySem.call f vs):=by
  refine Att.attach_call hn hdf λw s₀ s₁ mg mb fa o X R C a vs ns G Y U hd P r m i c Q=>?_;have t:=hY w _ Y;obtain⟨fd,O,I⟩:=F w mg fa _ t G.T.g r;exact gW t G.T.g G.T.b G.T.builtins G.T.nolimit Q m i (A9 c hn2) hr I O (λH J L=>hsp w H a ns c J L) λH e s'=>hCX w H s₁ e s'
end L2
/- THE LAST THEOREM (shape; LID, My.* are yours):
   My.Adr: a structure of the addresses that your layer names (classes,functions);My.Txt K t: a structure (Prop) of the equations over K;
   My.txt_mk:{K} {implicit addresses ..} (e1:nsIn K mainGlobals "law" = some (some (.ref f))) (e2:K.lookup f=some ⟨oc,od,.func (fnOf "law" "law" params body scope dV kV doc pm an cdv ct),sl⟩) (e3:codeIn K cdv "law" = true) ..:∃t,My.Txt K t
set_option maxRecDepth 100000 in
set_option maxHeartbeats 0 in
theorem PySem.Challenge.cw_LID_holds : PySem.Challenge.rw_LID.Holds := by
 w_on;o_law;k_head;(case hw=>w_witness2)
 k_fill
 refine L2.va (l:=PySem.Challenge.rw_LID) (n:=63) (k:=40) (x := "script") (CX:=fun w=>..) (sp:=fun _=>My.sp_law) rfl (by decide) rfl ⟨rfl,by decide,by decide⟩ (fun w h Y=>PySem.W.kIn_of Y) ?F ?S ?C
 case F =>
  intro w mg fa h KX G hmg;have T:∃t,My.Txt (L2.KOf KX) t:=by
   dsimp only[L2.KOf]                          -- K must stand as «<heap const> w.params» for k_is
   refine' My.txt_mk ?e1 ?e2 ?e3 ..
   (case e1=>PySem.W.k_is)                    -- in the order: a name->its address->its object->its parts
   (case e2=>PySem.W.k_is)
   ..
  obtain⟨t,T⟩:=T;have e0:=hmg.symm.trans (PySem.W.mg_of KX G T.law);cases e0                                       -- fa is the law's own address;exact⟨_,λs u=>.of_eq rfl,λO8 kb nb=>My.law_fn T kb nb⟩     -- if «.of_eq rfl» comes too early: refine' ⟨_,?b,λO8 kb nb=>My.law_fn T kb nb⟩;exact λs u=>.of_eq rfl
 case S=>exact λw H a ns hl hO hS=>..
 case C=>exact ..
(the tactic k_is has no namespace: write k_is) -/
namespace L2
open PySem PySem.Spec PyProof.Rows
def qA(s:Stmt)(j:Nat):Stmt:=match s with
 |.ClassDef _ _ _ a _ _ _ _ _ _ _=>a.getD j (.Pass ⟨0,0,0,0⟩)
 |_=>.Pass ⟨0,0,0,0⟩
def Z4(s:Stmt):Arguments:=match s with
 |.FunctionDef _ a _ _ _ _ _ _ _ _=>a
 |_=>{ posonlyargs:=[],args:=[],vararg:=none,kwonlyargs:=[],kw_defaults:=[],kwarg:=none,defaults:=[] }
def Zw(s:Stmt):List Stmt:=match s with
 |.FunctionDef _ _ b _ _ _ _ _ _ _=>b
 |_=>[]
def Qs(s:Stmt):Scope:=match s with
 |.FunctionDef _ _ _ _ _ _ a _ _ _=>a
 |_=>{ kind:=.function,names:=[],isGenerator:=false,isCoroutine:=false }
abbrev CX0:CXT:=λ_ _ _ _ _ _=>False
abbrev E0:XK:=λ_ _ _=>False
def QW{X:Cx}:Xf CX0 X E0:=λ_ _ _ _ _ _ _ h=>h.elim
structure Fun(K:Aa)(x qual:Str)(st:Stmt)(f:Addr)(fd:FuncData):Prop where
 ex:∃(oc:Value)(od:Option Addr)(kV doc pm:Value)(an:Option Addr)(cdv ct:Value)(osl:Array (Option Value)),
  fd=PySem.W.fnOf x qual (Z4 st) (Zw st) (Qs st) .none kV doc pm an cdv ct/\K.lookup f=some ⟨oc,od,.func fd,osl⟩/\PySem.W.codeIn K cdv qual=true
 kp:PySem.W.keepIn K (.ref f)=true
section
variable{P:Program}{w:World}{K:Aa}{mg:C5}{O8:Heap}
theorem Fun.ok{x a:Str}{c:Stmt}{f:Addr}{fd:FuncData}{N ps:List Str}{k:Nat}{sp:Sp}(F:Fun K x a c f fd)(S:QS N ps (Qs c))(len:∀vs H Q E,sp vs H Q E->vs.length=ps.length)
  (hbody:∀(b:Value)(A:Around)(outer:List Env)(s:Shared)(H:Hp)(vs:List V)(Q:VK)(E:XK),Room k (A.deeper (envOfC a (Qs c) s.heap.objs.size f b))->sp vs H Q E ->
   ∃t,PSs (jb CX0 P w K mg O8 N a (Qs c) f b A outer s H E).nox (Zw c) t/\t { nx:=λ_ H'=>Q .non H',rt:=Q } (Yr N vs) H):X2 P w K mg O8 CX0 (k+1) f fd ps sp:=by
 obtain⟨o,r,kV,i,u,n,b,ct,m,rfl,l,d⟩:=F.ex;refine Mx l d S len λA outer s H vs Q E j e=>?_;obtain⟨t,h,q⟩:=hbody b A outer s H vs Q E j e;exact⟨t,h.nox,q⟩
theorem Fun.binds{x a:Str}{d:Stmt}{f:Addr}{fd:FuncData}{ps:List Str}(F:Fun K x a d f fd)
  (h:∀(kV c i:Value)(e:Option Addr)(b ct:Value)(us:List Value),us.length=ps.length->bindArgs (PySem.W.fnOf x a (Z4 d) (Zw d) (Qs d) .none kV c i e b ct) ⟨us,[]⟩=pure (ps.zip us)):Binds K fd ps []:=by
 obtain⟨n,o,kV,c,i,e,b,ct,l,rfl,m,j⟩:=F.ex;exact .all (h kV c i e b ct)
theorem Vs{x a:Str}{e:Stmt}{f:Addr}{m:Value}{n i:Option Addr}{h:Array (Option Value)}{kV d j b ct:Value}(l:K.lookup f=some ⟨m,n,.func (PySem.W.fnOf x a (Z4 e) (Zw e) (Qs e) .none kV d j i b ct),h⟩)
  (c:PySem.W.codeIn K b a=true) (k:PySem.W.keepIn K (.ref f)=true):Fun K x a e f (PySem.W.fnOf x a (Z4 e) (Zw e) (Qs e) .none kV d j i b ct):=⟨⟨m,n,kV,d,j,i,b,ct,h,rfl,l,c⟩,k⟩
end
theorem Qt{A:Around}{k:Nat}(a:Room k A):A.units+1<cLine:=Nat.lt_of_le_of_lt (Nat.add_le_add_left (by decide:1<=64) _) a.units
section
variable{X:Cx}
theorem pv(i:Nat){x:Str}{a:Pos}(b:X.N[i]?=some x:=by rfl)(c:Vis X.env.scope x:=by first|exact Or.inl rfl|exact Or.inr (Or.inl rfl)|exact Or.inr (Or.inr rfl))(hd:(x==("__debug__" : Str))=false:=by decide)
  (hcd:(x==("__classdict__" : Str))=false:=by decide):PE X (.Name x a) (wC i):=KA b c hd hcd
end
theorem gO{A B:Prop}(h:B):if false=true then A else B:=by rw[Cs Bk];exact h
theorem gP{A B:Prop}(h:A):if true=true then A else B:=by rw[Ct rfl];exact h
end L2
set_option maxHeartbeats 4000000
namespace L2
open PySem PySem.Spec PyProof.Rows
section
variable{κ:Type}[DecidableEq κ]
def Js(kvs:List (κ×V))(k:κ):Option V:=(kvs.find? λa=>decide (a.1=k)).map (·.2)
def XZ(kvs:List (κ×V))(k:κ)(v:V):List (κ×V) :=
 if (kvs.any λa=>decide (a.1=k))=true then kvs.map (λa=>if a.1=k then (a.1,v)else a)else kvs++[(k,v)]
def qw(kvs:List (κ×V))(k:κ):List (κ×V):=kvs.filter λa=>decide (a.1≠k)
theorem xV{p:κ×V}{r:List (κ×V)}{k:κ}(e:p.1=k):Js (p::r) k=some p.2:=by simp[Js,Bp,e]
theorem xU{p:κ×V}{r:List (κ×V)}{k:κ}(e:¬ p.1=k):Js (p::r) k=Js r k:=by simp[Js,Bp,e]
theorem U4(k:κ):∀kvs:List (κ×V),(kvs.any λa=>decide (a.1=k))=(Js kvs k).isSome
  | []=>rfl
  |p::r=>by
    rw[Cb];by_cases e:p.1=k
    . simp only[xV e,Cy e,Bool.true_or,Option.isSome_some]
    . rw[xU e,C0 e,Bool.false_or];exact U4 k r
theorem Ye(kvs:List (κ×V))(k:κ)(v:V):(XZ kvs k v).length<=kvs.length+1:=by
 unfold XZ;split
 ·rw[Bf];lia
 ·rw[Am,A0,List.length_nil];lia
theorem RelO.isSome_eq{o:Option V}{u:Option Value}(r:RelO o u):o.isSome=u.isSome:=by
  cases o with
  |none=>cases u with
    |none=>rfl
    |some _=>exact(show False from r).elim
  |some _=>cases u with
    |none=>exact(show False from r).elim
    |some _=>rfl
theorem RelO.getD{o:Option V}{u:Option Value}{d:V}{d':Value}(r:RelO o u)(a:RelV d d'):RelV (o.getD d) (u.getD d'):=by
  cases o with
  |none=>cases u with
    |none=>exact a
    |some _=>exact(show False from r).elim
  |some _=>cases u with
    |none=>exact(show False from r).elim
    |some _=>exact r
theorem KV.val{kvs:List (κ×V)}{vs:List (κ×Value)}(r:KV kvs vs)(k:κ):RelO (Js kvs k) (valueAt vs k):=by
  unfold KV at r;induction r with
  |nil=>exact True.intro
  |@cons p q ps c h t i =>
    obtain⟨d,f⟩:=h;by_cases e:p.1=k
    . have a:q.1=k:=d.symm.trans e
      have b:valueAt (q::c) k=some q.2:=by simp[valueAt,Bp,a]
      rw[xV e,b];exact f
    . have a:¬ q.1=k:=λz=>e (d.trans z)
      have b:valueAt (q::c) k=valueAt c k:=by simp[valueAt,Bp,a]
      rw[xU e,b];exact i
theorem KV.any{kvs:List (κ×V)}{vs:List (κ×Value)}(r:KV kvs vs)(k:κ):(kvs.any λa=>decide (a.1=k))=vs.any λa=>decide (a.1=k):=by
 unfold KV at r;induction r with
 |nil=>rfl
 |cons h t b=>rw[Cb,Cb,b,h.1]
theorem KV.repl{kvs:List (κ×V)}{vs:List (κ×Value)}(r:KV kvs vs)(k:κ){y:V}{u:Value}(f:RelV y u) :
    KV (kvs.map λa=>if a.1=k then (a.1,y)else a) (vs.map λa=>if a.1=k then (a.1,u)else a):=by
  unfold KV at r ⊢;induction r with
  |nil=>exact .nil
  |@cons p q ps i h t d =>
    rw[A3,A3];refine .cons ?_ d;obtain⟨b,c⟩:=h;by_cases e:p.1=k
    . rw[Ct e,Ct (b.symm.trans e)];exact⟨b,f⟩
    . rw[Cs e,Cs (λz=>e (b.trans z))];exact⟨b,c⟩
theorem KV.put{kvs:List (κ×V)}{vs:List (κ×Value)}(r:KV kvs vs)(k:κ){y:V}{u:Value}(a:RelV y u):KV (XZ kvs k y) (stored vs k u):=by
 unfold XZ stored;rw[r.any k];by_cases e:(vs.any λb=>decide (b.1=k))=true
 ·rw[Ct e,Ct e];exact r.repl k a
 ·rw[Cs e,Cs e];exact Paired.snoc r ⟨rfl,a⟩
theorem KV.drop{kvs:List (κ×V)}{vs:List (κ×Value)}(r:KV kvs vs)(k:κ):KV (qw kvs k) (without vs k):=by
  unfold KV at r ⊢;unfold qw without;induction r with
  |nil=>exact .nil
  |@cons p q ps j h t d =>
    obtain⟨c,i⟩:=h;rw[List.filter_cons,List.filter_cons];by_cases e:p.1=k
    . have a:¬ decide (p.1≠k)=true:=by simp[e]
      have b:¬ decide (q.1≠k)=true:=by simp[c.symm.trans e]
      rw[Cs a,Cs b];exact d
    . have f:¬ q.1=k:=λz=>e (c.trans z)
      have a:decide (p.1≠k)=true:=by simp[e]
      have b:decide (q.1≠k)=true:=by simp[f]
      rw[Ct a,Ct b];exact .cons ⟨c,i⟩ d
def KV.length{kvs:List (κ×V)}{vs:List (κ×Value)}(r:KV kvs vs):kvs.length=vs.length:=Paired.length r
def Uo(kvs:List (κ×V))(k:κ):(qw kvs k).length<=kvs.length:=Br _ _
end
theorem YM{P:Program}{w:World}{k:Key}{u:Value}(r:RelV (kV k) u):(Zc P w).is k u=true:=by
 cases k with
 |inl i=>obtain⟨t,e⟩:=(show ∃t,u=Value.int i t from r);subst e;exact UA P w i t
 |inr x=>obtain⟨t,e⟩:=(show ∃t,u=Value.str x t from r);subst e;exact UB P w x t
theorem yC{P:Program}{w:World}:∀{ks:List Key}{us:List Value},Vals (ks.map kV) us->ItemsAre (Zc P w) ks us
  | [],_,r=>by rw[List.map_nil]at r;cases r;exact .nil
  |k::ks,_,r=>by
    rw[A3]at r;cases r with
    |cons h t=>exact .cons (YM h) (yC t)
abbrev KT(H:Hp):List (List Key×V)->List (List Key×Addr×Value)->Prop:=Paired λp q=>p.1=q.1/\H q.2.1=some (.tup (p.1.map kV))/\RelV p.2 q.2.2
theorem KT.val{H:Hp}{kvs:List (List Key×V)}{xs:List (List Key×Addr×Value)}(r:KT H kvs xs)(k:List Key):RelO (Js kvs k) ((atKey xs k).map (·.2)):=by
  induction r with
  |nil=>exact True.intro
  |@cons p q ps c h t i =>
    obtain⟨d,_,f⟩:=h;by_cases e:p.1=k
    . have a:q.1=k:=d.symm.trans e
      have b:atKey (q::c) k=some q.2:=by simp[atKey,Bp,a]
      rw[xV e,b];exact f
    . have a:¬ q.1=k:=λz=>e (d.trans z)
      have b:atKey (q::c) k=atKey c k:=by simp[atKey,Bp,a]
      rw[xU e,b];exact i
theorem KT.repl{H:Hp}{kvs:List (List Key×V)}{xs:List (List Key×Addr×Value)}(r:KT H kvs xs)(k:List Key){y:V}{u:Value}(i:RelV y u) :
    KT H (kvs.map λb=>if b.1=k then (b.1,y)else b) (xs.map (putAt k u)):=by
  induction r with
  |nil=>exact .nil
  |@cons p q ps j h t f =>
    rw[A3,A3];refine .cons ?_ f;obtain⟨a,c,d⟩:=h;unfold putAt;by_cases e:p.1=k
    . rw[Ct e,Ct (a.symm.trans e)];exact⟨a,c,i⟩
    . rw[Cs e,Cs (λz=>e (a.trans z))];exact⟨a,c,d⟩
theorem KT.put{H:Hp}{kvs:List (List Key×V)}{xs:List (List Key×Addr×Value)}(r:KT H kvs xs)(k:List Key){b:Addr}{y:V}{u:Value}(c:H b=some (.tup (k.map kV)))(a:RelV y u) :
  KT H (XZ kvs k y) (storedH xs k b u):=by
 have e:(kvs.any λd=>decide (d.1=k))=(atKey xs k).isSome:=by rw[U4,(r.val k).isSome_eq,Option.isSome_map]
 unfold XZ storedH;rw[e];by_cases q:(atKey xs k).isSome=true
 ·rw[Ct q,Ct q];exact r.repl k a
 ·rw[Cs q,Cs q];exact Paired.snoc r ⟨rfl,c,a⟩
theorem KT.keeps{H H':Hp}{kvs:List (List Key×V)}{xs:List (List Key×Addr×Value)}(r:KT H kvs xs)(a:∀b ys,H b=some (.tup ys)->H' b=some (.tup ys)):KT H' kvs xs :=
 Paired.mapP r λ_ _ z=>⟨z.1,a _ _ z.2.1,z.2.2⟩
section
variable{P:Program}{w:World}{H:Hp}{h:Heap}{a:Addr}
def wW{u:HO}(ok:HOk P w H h)(e:Rd H a u):ObjOk P w H h a u:=e.ok ok
theorem jP{kvs:List (Key×V)}(ok:HOk P w H h)(e:Rd H a (.dK kvs)):kvs.length<=sizeLine/\(a==sysModules)=false/\∃vs,KV kvs vs/\h.DictOf (Zc P w) a vs :=
 show ObjOk P w H h a (.dK kvs)from wW ok e
def jO{kvs:List (Key×V)}(ok:HOk P w H h)(e:H a=some (.dK kvs)):kvs.length<=sizeLine/\(a==sysModules)=false/\∃vs,KV kvs vs/\h.DictOf (Zc P w) a vs:=jP ok (.inl e)
theorem zt{ks:List Key}(ok:HOk P w H h)(e:H a=some (.tup (ks.map kV))):(tupleKind (Zc P w)).is h ks a:=by obtain⟨_,b,r,o,c,d,n,f⟩:=(show ObjOk P w H h a (.tup (ks.map kV))from ok a _ e);exact⟨o,b.toArray,n,c,d,f,by simpa using yC r⟩
theorem yx{kvs:List (List Key×V)}(ok:HOk P w H h)(e:Rd H a (.dT kvs)):kvs.length<=sizeLine/\(a==sysModules)=false /\
    ∃xs,KT H kvs xs/\h.DictOfH (tupleKind (Zc P w)) a xs:=by
  obtain⟨z,y,xs,r,o,es,ep,c,d,f,i,j⟩:=(show ObjOk P w H h a (.dT kvs)from wW ok e);refine⟨z,y,xs,r,o,es,ep,c,d,f,i,λx hx=>?_,j⟩;have all:∀{l:List (List Key×V)}{m:List (List Key×Addr×Value)},KT H l m->∀x∈m,(tupleKind (Zc P w)).is h x.1 x.2.1:=by
    intro l m q;induction q with
    |nil=>intro x hx;exact nomatch hx
    |@cons p q ps u b t n =>
      intro x hx;rcases Ba.mp hx with e|hx
      . subst e
        exact zt ok (by rw[<- b.1];exact b.2.1)
      . exact n x hx
  exact all r x hx
theorem jS{kvs:List (List Key×V)}(ok:HOk P w H h)(e:H a=some (.dT kvs)):kvs.length<=sizeLine/\(a==sysModules)=false /\
  ∃xs,KT H kvs xs/\h.DictOfH (tupleKind (Zc P w)) a xs:=yx ok (.inl e)
end
def DGet(H:Hp)(a:Addr)(y:V)(r:Option V):Prop :=
 (∃kvs k,Rd H a (.dK kvs)/\y=kV k/\r=Js kvs k)∨∃kvs k b,Rd H a (.dT kvs)/\y=.ref b/\H b=some (.tup (k.map kV))/\r=Js kvs k
def DPut(H:Hp)(a:Addr)(y v:V)(H':Hp):Prop :=
 (∃kvs k,H a=some (.dK kvs)/\y=kV k/\kvs.length<sizeLine/\H'=upd H a (.dK (XZ kvs k v))) ∨
 ∃kvs k b,H a=some (.dT kvs)/\y=.ref b/\H b=some (.tup (k.map kV))/\kvs.length<sizeLine/\H'=upd H a (.dT (XZ kvs k v))
def DGet.k{H:Hp}{a:Addr}{kvs:List (Key×V)}{k:Key}(e:H a=some (.dK kvs)):DGet H a (kV k) (Js kvs k):=.inl ⟨kvs,k,.inl e,rfl,rfl⟩
def DPut.k{H:Hp}{a:Addr}{kvs:List (Key×V)}{k:Key}{v:V}(e:H a=some (.dK kvs))(b:kvs.length<sizeLine):DPut H a (kV k) v (upd H a (.dK (XZ kvs k v))):=.inl ⟨kvs,k,e,rfl,b,rfl⟩
section
variable{X:Cx}{O9:C4}{σ:St}{H:Hp}{s:Shared}{a:Addr}{y v:V}{u r:Value}{o:Option V}{A:Around}{E:C2}
theorem Inv.big(I:Inv X O9 σ H s):sysModules<s.heap.objs.size:=by have h:mainGlobals<s.heap.objs.size:=(I.mod.glob.keeps I.bk).lt;exact Nat.lt_trans (by decide) h
theorem vo{Q:C2}(q:A.units+1<cLine)(I:Inv X O9 σ H s)(g:DGet H a y (some v))(m:RelV y u)(h:∀f s',Inv X O9 σ H s'->RelV v f->Q f s') :
  wpAny (model X.prog X.w) A (getItem (.ref a) u) Q E s:=by
 rcases g with ⟨kvs,k,e,i,l⟩|⟨kvs,k,b,e,i,n,l⟩
 ·subst i;obtain⟨z,hd,vs,c,dd⟩:=jP I.hok e;obtain⟨f,j,d⟩:=RelO.some_of (v:=v) (o:=valueAt vs k) (by rw[l];exact c.val k);exact wpAny_getItem_of (YM m) dd.mapOf j (h f _ (I.tok _) d)
 ·subst i;cases (show u=Value.ref b from m);obtain⟨z,hd,xs,c,dd⟩:=yx I.hok e;obtain⟨f,j,d⟩:=RelO.some_of (v:=v) (o:=(atKey xs k).map (·.2)) (by rw[l];exact c.val k);obtain⟨p,U,hp2⟩:=Bv.mp j;refine wpAny_getItem_heap (tupleKind_room_in1 q) (zt I.hok n) dd U ?_;rw[hp2];exact h f _ (I.tok _) d
theorem Iv{Q:C2}(j:A.units+1<cLine)(I:Inv X O9 σ H s)(g:DGet H a y o)(f:RelV y u)(h:∀s',Inv X O9 σ H s'->Q (.bool o.isSome) s') :
  wpAny (model X.prog X.w) A (compareOp .In u (.ref a)) Q E s:=by
 rcases g with ⟨kvs,k,e,d,l⟩|⟨kvs,k,b,e,d,i,l⟩
 ·subst d;obtain⟨z,hd,vs,c,dd⟩:=jP I.hok e;refine wpAny_in_of (YM f) hd dd.mapOf ?_;rw[<- (c.val k).isSome_eq,<- l];exact h _ (I.tok _)
 ·subst d;cases (show u=Value.ref b from f);obtain⟨z,hd,xs,c,dd⟩:=yx I.hok e;refine wpAny_in_heap (tupleKind_room_in1 j) (zt I.hok i) hd dd ?_;have q:=(c.val k).isSome_eq;rw[Option.isSome_map]at q;rw[<- q,<- l];exact h _ (I.tok _)
theorem jj{h':Heap}{t':Nat}{c:HO}(I:Inv X O9 σ H s)(i:Mut (H a))(h:Heap.SameBut a s.heap h')(f:∃q,h'.get? a=some q)(new:ObjOk X.prog X.w (upd H a c) h' a c) :
  Inv X O9 σ (upd H a c) { s with heap:=h',toks:=t' } :=
 I.write (x:=a) (e:=a) i (.inl rfl) (λb q d z=>(h.2 b d).trans z) f new
theorem Vi{P:Program}{w:World}{H':Hp}{h':Heap}{kvs:List (Key×V)}{vs:List (Key×Value)}(z:kvs.length<=sizeLine)(hd:(a==sysModules)=false)(b:KV kvs vs)(dd:h'.DictOf (Zc P w) a vs) :
  ObjOk P w H' h' a (.dK kvs):=⟨z,hd,vs,b,dd⟩
theorem vp{H':Hp}{Q:Unit->Shared->Prop}(U:A.units+1<cLine)(I:Inv X O9 σ H s)(g:DPut H a y v H')(J:RelV y u)(F:RelV v r)(h:∀s',Inv X O9 σ H' s'->Q () s') :
  wpAny (model X.prog X.w) A (setItem (.ref a) u r) Q E s:=by
 rcases g with ⟨kvs,k,e,m,l,j⟩|⟨kvs,k,b,e,m,x,l,j⟩
 ·subst m j;obtain⟨z,hd,vs,d,dd⟩:=jO I.hok e;have hz:vs.length<=sizeLine:=by rw[<- d.length];exact z
  have n:(XZ kvs k v).length<=sizeLine:=by have:=Ye kvs k v;lia
  refine wpAny_setItem_pairs (hsz:=hz) (YM J) dd λh' f t=>h _ ?_;have T:∃q,h'.get? a=some q:=let ⟨q,_,_,i,_⟩:=f;⟨q,i⟩;exact jj I (by rw[e];exact True.intro) t T (Vi n hd (d.put k F) f)
 ·subst m j;cases (show u=Value.ref b from J);obtain⟨z,hd,xs,d,dd⟩:=jS I.hok e;have hz:xs.length<=sizeLine:=by rw[<- Paired.length d];exact z
  have n:(XZ kvs k v).length<=sizeLine:=by have:=Ye kvs k v;lia
  refine wpAny_setItem_heap (hsz:=hz) (tupleKind_room_in1 U) (zt I.hok x) dd λh' f t=>h _ ?_;obtain⟨q,es,ep,i,L,O,P,_,R⟩:=f;refine jj I (by rw[e];exact True.intro) t ⟨q,i⟩ ⟨n,hd,_,(d.put k x F).keeps λc ys C=>?_,q,es,ep,i,L,O,P,R⟩;rw[Q4 (Ik C e (λz=>nomatch z))];exact C
end
section
variable{X:Cx}{O9:C4}{σ:St}{H:Hp}{s:Shared}{a:Addr}{kvs:List (Key×V)}{k:Key}{u:Value}{A:Around}{E:C2}
theorem Wj{Q:Unit->Shared->Prop}(I:Inv X O9 σ H s)(e:H a=some (.dK kvs))(j:RelV (kV k) u)(l:(Js kvs k).isSome=true)(h:∀s',Inv X O9 σ (upd H a (.dK (qw kvs k))) s'->Q () s') :
  wpAny (model X.prog X.w) A (delItem (.ref a) u) Q E s:=by
 obtain⟨z,hd,vs,b,dd⟩:=jO I.hok e;refine wpAny_delItem_slot dd.typeIs (by decide) PySem.F.slot_dict_delitem
  (call_meetsIn PySem.F.slot_dict_delitem dd.typeIs PySem.F.entry_dict_delitem (PySem.F.args_dict_delitem_2 _ _) (meets_dict_delitem_pairs (Zc X.prog X.w) a (YM j)) ⟨vs,dd,by rw[<- b.length];exact z,by rw[<- (b.val k).isSome_eq];exact l,λh' c i=>h _ ?_⟩)
 have d:∃q,h'.get? a=some q:=let ⟨q,_,_,f,_⟩:=c;⟨q,f⟩;exact jj I (by rw[e];exact True.intro) i d (Vi (A9 (Uo kvs k) z) hd (b.drop k) c)
theorem CJ{v:V}{more:List Value}{Q:C2}(I:Inv X O9 σ H s)(e:H a=some (.dK kvs))(j:RelV (kV k) u)(l:Js kvs k=some v)(m:more=[]∨∃x,more=[x])
  (h:∀d s',Inv X O9 σ (upd H a (.dK (qw kvs k))) s'->RelV v d->Q d s'):wpAny (model X.prog X.w) A (call (.builtin "dict.pop") (.ref a::u::more)) Q E s:=by
 obtain⟨z,hd,vs,b,dd⟩:=jO I.hok e;obtain⟨d,J,f⟩:=RelO.some_of (v:=v) (o:=valueAt vs k) (by rw[<- l];exact b.val k);have U:(keyPart u).isSome=true:=by
  cases k with
  |inl i=>obtain⟨t,q⟩:=(show ∃t,u=Value.int i t from j);subst q;rfl
  |inr x=>obtain⟨t,q⟩:=(show ∃t,u=Value.str x t from j);subst q;rfl
 have n:argsOk "dict.pop" ⟨.ref a::u::more,[]⟩:=by
  rcases m with q|⟨x,q⟩
  ·subst q;exact PySem.F.args_dict_pop_2 _ _
  ·subst q;exact PySem.F.args_dict_pop_3 _ _ _
 refine call_meetsIn PySem.F.slot_dict_pop dd.typeIs PySem.F.entry_dict_pop n (meets_dict_pop_there (Zc X.prog X.w) a (YM j) more m U)
  ⟨vs,d,dd,by rw[<- b.length];exact z,J,λh' c C=>h d _ ?_ f⟩
 have r:∃q,h'.get? a=some q:=let ⟨q,_,_,y,_⟩:=c;⟨q,y⟩;exact jj I (by rw[e];exact True.intro) C r (Vi (A9 (Uo kvs k) z) hd (b.drop k) c)
theorem Oa{r:Value}{Q:C2}(I:Inv X O9 σ H s)(e:H a=some (.dK kvs))(c:RelV (kV k) u)(l:Js kvs k=none)(h:∀s',Inv X O9 σ H s'->Q r s') :
  wpAny (model X.prog X.w) A (call (.builtin "dict.pop") [.ref a,u,r]) Q E s:=by
 obtain⟨z,hd,vs,b,dd⟩:=jO I.hok e;have d:valueAt vs k=none:=RelO.none_of (by rw[<- l];exact b.val k);have U:(keyPart u).isSome=true:=by
  cases k with
  |inl i=>obtain⟨t,q⟩:=(show ∃t,u=Value.int i t from c);subst q;rfl
  |inr x=>obtain⟨t,q⟩:=(show ∃t,u=Value.str x t from c);subst q;rfl
 exact call_meetsIn PySem.F.slot_dict_pop dd.typeIs PySem.F.entry_dict_pop (PySem.F.args_dict_pop_3 _ _ _) (meets_dict_pop_default (Zc X.prog X.w) a (YM c) hd U r) ⟨vs,dd,d,h _ (I.tok _)⟩
theorem MJ{Q:C2}(I:Inv X O9 σ H s)(e:Rd H a (.dK kvs))(h:∀t s',Inv X O9 σ H s'->Q (.int kvs.length t) s'):wpAny (model X.prog X.w) A (call (.builtin "len") [.ref a]) Q E s:=by obtain⟨z,hd,vs,b,dd⟩:=jP I.hok e;refine call_len_dict hd dd (by rw[<- b.length];rw[sizeLine_eq]at z;lia) ?_;rw[<- b.length];exact h _ _ (I.tok _)
end
def rG(i:Expr):Prop:=∀b a,subscripted i false b a=operate [b,a] (getItem b a)
theorem PL{prog:Program}{w:World}{A:Around}{E:C2}{s:Shared}{env:Env}{value slice:Expr}{b:Pos}{T id:String}{Q:C2}
  (hl:typeLookup (.type T) "__getitem__" = pure (some (.builtin id))) (hs:rG slice)
  (h:wpAny (model prog w) A (eval value env) (λo s₁=>wpAny (model prog w) A (eval slice env) (λi s₂=>s₂.TypeIs o T/\wpAny (model prog w) A (getItem o i) Q E s₂) E s₁) E s) :
  wpAny (model prog w) A (eval (.Subscript value slice b) env) Q E s:=by
 refine Subscript_ (wpAny_mono h (λo s₁ h₁=>wpAny_mono h₁ (λi s₂ h₂=>?_) λ_ _ x=>x) λ_ _ x=>x);obtain⟨c,h₂⟩:=h₂;unfold subscriptTail;refine Cr ?_;rw[getitemInPython_of_ne c.not_modules];refine Cr (wpAny_specialOf c hl ?_);have a:wpAny (model prog w) A (subscripted slice false o i) (λr s₃=>wpAny (model prog w) A (letTemporaryGo value o r >>= λ_=>pure r) Q E s₃) E s₂:=by rw[hs o i];exact wpAny_operating (wpAny_mono h₂ (λr s₃ h₃=>Cr (wpAny_letTemporaryGo (Cu h₃))) λ_ _ x=>x)
 first
  |exact Cu (Cr a)
  |exact Cr (Cu (Cr a))
  |exact Cr a
theorem Uk{X:Cx}{c:C4}{σ:St}{H:Hp}{s:Shared}{a:Addr}{y:V}{o:Option V}(I:Inv X c σ H s)(g:DGet H a y o):s.TypeIs (.ref a) "dict" := by
 rcases g with ⟨kvs,k,e,_,_⟩|⟨kvs,k,b,e,_,_,_⟩
 ·obtain⟨_,_,vs,_,dd⟩:=jP I.hok e;exact dd.typeIs
 ·obtain⟨_,_,xs,_,dd⟩:=yx I.hok e;exact dd.typeIs
section
variable{X:Cx}{o i e value:Expr}{pos pos' tpos:Pos}{td ty tv:TE}
end
theorem uX{P:Program}{w:World}{H:Hp}(h:Heap)(a:sysModules<h.objs.size):ObjOk P w H (h.push { cls:=.type "dict", data:=.dict #[] }) h.objs.size (.dK []) :=
 ⟨A5 _,beq_eq_false_iff_ne.mpr (Ne.symm (A6 a)),[],.nil,Heap.DictOf.new h⟩
section
variable{X:Cx}{pos:Pos}
end
def Yg(kvs more:List (Key×V)):List (Key×V):=more.foldl (λacc a=>XZ acc a.1 a.2) kvs
theorem KV.merge:∀{more:List (Key×V)}{rs:List (Key×Value)}{kvs:List (Key×V)}{vs:List (Key×Value)},KV more rs->KV kvs vs->KV (Yg kvs more) (merged vs rs):=by
  intro more rs kvs vs r;unfold KV at r;induction r generalizing kvs vs with
  |nil=>intro q;exact q
  |@cons p q ps c h t a =>
    intro b;have e:KV (XZ kvs p.1 p.2) (stored vs q.1 q.2):=by have:=b.put p.1 h.2;rw[<- h.1];exact this
    exact a e
theorem YO:∀(more kvs:List (Key×V)),(Yg kvs more).length<=kvs.length+more.length
  | [],kvs=>by show kvs.length<=kvs.length+0;lia
  |p::r,kvs=>by have a:=YO r (XZ kvs p.1 p.2);have b:=Ye kvs p.1 p.2;show(Yg (XZ kvs p.1 p.2) r).length<=_;rw[A0];lia
section
variable{X:Cx}{O9:C4}{σ:St}{H:Hp}{s:Shared}{a:Addr}{y d:V}{u r:Value}{o:Option V}{A:Around}{E:C2}
theorem Oc{Q:C2}(n:A.units+1<cLine)(I:Inv X O9 σ H s)(g:DGet H a y o)(i:RelV y u)(h:∀j s',Inv X O9 σ H s'->RelV (o.getD .non) j->Q j s') :
  wpAny (model X.prog X.w) A (call (.builtin "dict.get") [.ref a,u]) Q E s:=by
 rcases g with ⟨kvs,k,e,f,l⟩|⟨kvs,k,b,e,f,m,l⟩
 ·subst f;obtain⟨z,hd,vs,c,dd⟩:=jP I.hok e;refine call_meetsIn PySem.F.slot_dict_get dd.typeIs PySem.F.entry_dict_get (PySem.F.args_dict_get_2 _ _) (meets_dict_get (Zc X.prog X.w) a (YM i) hd) ⟨_,dd.mapOf,h _ _ (I.tok _) ?_⟩;rw[l];exact(c.val k).getD rfl
 ·subst f;cases (show u=Value.ref b from i);obtain⟨z,hd,xs,c,dd⟩:=yx I.hok e;refine call_meetsIn PySem.F.slot_dict_get dd.typeIs PySem.F.entry_dict_get (PySem.F.args_dict_get_2 _ _) (meetsH_dict_get (tupleKind (Zc X.prog X.w)) a b hd) ⟨tupleKind_room_in1 n,k,xs,zt I.hok m,dd,h _ _ (I.tok _) ?_⟩;rw[l];exact(c.val k).getD rfl
theorem Ob{Q:C2}(q:A.units+1<cLine)(I:Inv X O9 σ H s)(g:DGet H a y o)(j:RelV y u)(i:RelV d r)(h:∀m s',Inv X O9 σ H s'->RelV (o.getD d) m->Q m s') :
  wpAny (model X.prog X.w) A (call (.builtin "dict.get") [.ref a,u,r]) Q E s:=by
 rcases g with ⟨kvs,k,e,f,l⟩|⟨kvs,k,b,e,f,n,l⟩
 ·subst f;obtain⟨z,hd,vs,c,dd⟩:=jP I.hok e;refine call_meetsIn PySem.F.slot_dict_get dd.typeIs PySem.F.entry_dict_get (PySem.F.args_dict_get_3 _ _ _) (meets_dict_get_default (Zc X.prog X.w) a (YM j) hd r) ⟨_,dd.mapOf,h _ _ (I.tok _) ?_⟩;rw[l];exact(c.val k).getD i
 ·subst f;cases (show u=Value.ref b from j);obtain⟨z,hd,xs,c,dd⟩:=yx I.hok e;refine call_meetsIn PySem.F.slot_dict_get dd.typeIs PySem.F.entry_dict_get (PySem.F.args_dict_get_3 _ _ _) (meetsH_dict_get_default (tupleKind (Zc X.prog X.w)) a b hd r) ⟨tupleKind_room_in1 q,k,xs,zt I.hok n,dd,h _ _ (I.tok _) ?_⟩;rw[l];exact(c.val k).getD i
end
section
variable{X:Cx}{o e f:Expr}{apos cpos:Pos}{td ty tx:TE}
end
section
variable{X:Cx}{O9:C4}{σ:St}{H:Hp}{s:Shared}{a:Addr}{kvs:List (Key×V)}{A:Around}{E:C2}
end
section
variable{X:Cx}{O9:C4}{σ:St}{H:Hp}{s:Shared}{a:Addr}{y:V}{u:Value}{A:Around}{E:C2}
end
section
variable{X:Cx}
theorem vh:Z5 X (.builtin "len") (λxs H Q=>∃a kvs,xs=[V.ref a]/\H a=some (.dK kvs)/\Q (.int kvs.length) H):=by intro e s σ H xs us Q I r h;obtain⟨a,kvs,rfl,c,q⟩:=h;obtain⟨u,rfl,d⟩:=Ys r;cases d;exact MJ I (.inl c) λt s' b=>⟨.int kvs.length,H,b,⟨t,rfl⟩,q⟩
end
section
variable{κ:Type}[DecidableEq κ]
end
end L2
namespace D
open PySem PySem.Spec PyProof.Rows L2
abbrev St:=L2.St
inductive DV where
 |non|bl (b:Bool)|int (i:Int)|str (x:Str)|tup (xs:List DV)|lst (xs:List DV)|ref (i:Nat)
inductive OV where
 |lst (xs:List DV)
 |aB (kvs:List (Key×DV))
 |ins (c:Str) (fs:List (Str×DV))
abbrev Hs:=List OV
abbrev M:=StateT Hs Option
abbrev Ea:=List DV->M DV
mutual
def ao(K:Aa)(ρ:C9)(B:C8)(H:Hp):DV->V->Prop
 |.non,v=>v=.non
 |.bl b,v=>v=.bl b
 |.int i,v=>v=.int i
 |.str x,v=>v=.str x
 |.tup ds,v=>∃a xs,v=.ref a/\¬ B a/\SqT K H a xs/\aj K ρ B H ds xs
 |.lst ds,v=>∃a xs,v=.ref a/\¬ B a/\SqL K H a xs/\aj K ρ B H ds xs
 |.ref i,v=>∃a,v=.ref a/\ρ[i]?=some a
def aj(K:Aa)(ρ:C9)(B:C8)(H:Hp):List DV->List V->Prop
 | [],xs=>xs=[]
 |d::ds,xs=>∃x r,xs=x::r/\ao K ρ B H d x/\aj K ρ B H ds r
end
def bB(K:Aa)(ρ:C9)(B:C8)(H:Hp)(a:Addr):OV->Prop
 |.lst ds=>∃xs,H a=some (.lst xs)/\aj K ρ B H ds xs
 |.aB kvs=>∃xs:List (Key×V),H a=some (.dK xs)/\xs.map (·.1)=kvs.map (·.1)/\aj K ρ B H (kvs.map (·.2)) (xs.map (·.2))
 |.ins c fs=>∃(C b:Addr)(xs:List (Str×V)),PySem.W.nsIn K mainGlobals c=some (some (.ref C))/\H a=some (.ins C b xs)/\xs.map (·.1)=fs.map (·.1)/\aj K ρ B H (fs.map (·.2)) (xs.map (·.2))
structure Gr(K:Aa)(ρ:C9)(B:C8)(H:Hp)(ρ':C9)(B':C8)(H':Hp):Prop where
 pre:ρ <+: ρ'
 ban:∀a,B a->B' a
 new:∀a,B' a->B a∨(H a=none/\K.lookup a=none)
 cA:∀a∈ρ',a∈ρ∨H a=none
 keep:∀a o,a∉ρ->H a=some o->H' a=some o
 trk:∀a,H' a=none->H a=none
structure aW(K:Aa)(ρ:C9)(B:C8)(U:Hs)(H:Hp):Prop where
 len:ρ.length=U.length
 nd:ρ.Nodup
 obj:∀(i:Nat)(a:Addr)(o:OV),ρ[i]?=some a->U[i]?=some o->bB K ρ B H a o
 rb:∀a∈ρ,B a
 bt:∀a,B a->H a≠none
 bk:∀a,B a->K.lookup a=none
section
variable{K:Aa}{ρ ρ' ρ'':C9}{B B' B'':C8}{H H' oM:Hp}
def Gr.refl:Gr K ρ B H ρ B H:=⟨Bz,λ_ h=>h,λ_ h=>.inl h,λ_ h=>.inl h,λ_ _ _ h=>h,λ_ h=>h⟩
theorem Gr.trans(a:Gr K ρ B H ρ' B' H')(b:Gr K ρ' B' H' ρ'' B'' oM):Gr K ρ B H ρ'' B'' oM where
 pre:=a.pre.trans b.pre
 ban:=λx h=>b.ban x (a.ban x h)
 new:=λx h=>(b.new x h).elim (a.new x) λz=>.inr ⟨a.trk x z.1,z.2⟩
 cA:=λx h=>(b.cA x h).elim (a.cA x) λz=>.inr (a.trk x z)
 keep:=λx o c h=>b.keep x o (λz=>(a.cA x z).elim c (λz=>by rw[h]at z;cases z)) (a.keep x o c h)
 trk:=λx h=>a.trk x (b.trk x h)
structure Gs(K:Aa)(ρ:C9)(B:C8)(H:Hp)(ρ':C9)(B':C8)(H':Hp):Prop where
 pre:ρ <+: ρ'
 new:∀a,B' a->B a∨(H a=none/\K.lookup a=none)
 keep:∀a o,¬ B a->H a=some o->H' a=some o
 trk:∀a,H' a=none->H a=none
def Gr.gs(rb:∀a∈ρ,B a)(g:Gr K ρ B H ρ' B' H'):Gs K ρ B H ρ' B' H':=⟨g.pre,g.new,λa o nb h=>g.keep a o (λz=>nb (rb a z)) h,g.trk⟩
def Gs.refl:Gs K ρ B H ρ B H:=⟨Bz,λ_ h=>.inl h,λ_ _ _ h=>h,λ_ h=>h⟩
theorem Gs.trans(a:Gs K ρ B H ρ' B' H')(b:Gs K ρ' B' H' ρ'' B'' oM):Gs K ρ B H ρ'' B'' oM where
 pre:=a.pre.trans b.pre
 new:=λx h=>(b.new x h).elim (a.new x) λz=>.inr ⟨a.trk x z.1,z.2⟩
 keep:=λx o nb h=>b.keep x o (λz=>(a.new x z).elim nb λq=>by rw[h]at q;cases q.1) (a.keep x o nb h)
 trk:=λx h=>a.trk x (b.trk x h)
theorem SqT.trk{a:Addr}{xs:List V}(h:SqT K H a xs):H a≠none∨∃o,K.lookup a=some o:=by
 rcases h with (h|⟨o,h⟩)|⟨o,_,_,h,_⟩
 ·exact .inl (by rw[h];simp)
 ·exact .inl (by rw[h];simp)
 ·exact .inr ⟨o,h⟩
theorem SqL.trk{a:Addr}{xs:List V}(h:SqL K H a xs):H a≠none∨∃o,K.lookup a=some o:=by
 rcases h with (h|⟨o,h⟩)|⟨o,_,_,h,_⟩
 ·exact .inl (by rw[h];simp)
 ·exact .inl (by rw[h];simp)
 ·exact .inr ⟨o,h⟩
theorem Gs.ok{a:Addr}(g:Gs K ρ B H ρ' B' H')(b:¬ B a)(t:H a≠none∨∃o,K.lookup a=some o):¬ B' a:=λz =>
 (g.new a z).elim b λ⟨n,k⟩=>t.elim (λq=>q n) λ⟨o,q⟩=>by rw[k]at q;cases q
theorem Gs.DP{a:Addr}{xs:List V}(g:Gs K ρ B H ρ' B' H')(b:¬ B a)(h:SqT K H a xs):SqT K H' a xs:=by
 rcases h with (h|⟨o,h⟩)|h
 ·exact .inl (.inl (g.keep _ _ b h))
 ·exact .inl (.inr ⟨o,g.keep _ _ b h⟩)
 ·exact .inr h
theorem Gs.rZ{a:Addr}{xs:List V}(g:Gs K ρ B H ρ' B' H')(b:¬ B a)(h:SqL K H a xs):SqL K H' a xs:=by
 rcases h with (h|⟨o,h⟩)|h
 ·exact .inl (.inl (g.keep _ _ b h))
 ·exact .inl (.inr ⟨o,g.keep _ _ b h⟩)
 ·exact .inr h
theorem GP{i:Nat}{a:Addr}(p:ρ <+: ρ')(h:ρ[i]?=some a):ρ'[i]?=some a:=by obtain⟨t,rfl⟩:=p;rw[Ag (Ac.mp h).1];exact h
mutual
theorem ao.gs(g:Gs K ρ B H ρ' B' H'):∀(d:DV)(v:V),ao K ρ B H d v->ao K ρ' B' H' d v
  |.non,_,h=>by unfold ao at h ⊢;exact h
  |.bl _,_,h=>by unfold ao at h ⊢;exact h
  |.int _,_,h=>by unfold ao at h ⊢;exact h
  |.str _,_,h=>by unfold ao at h ⊢;exact h
  |.ref _,_,h=>by unfold ao at h ⊢;obtain⟨a,e,h⟩:=h;exact⟨a,e,GP g.pre h⟩
  |.tup ds,_,h=>by unfold ao at h ⊢;obtain⟨a,xs,e,nb,b,rl⟩:=h;exact⟨a,xs,e,g.ok nb (SqT.trk b),g.DP nb b,aj.gs g ds xs rl⟩
  |.lst ds,_,h=>by unfold ao at h ⊢;obtain⟨a,xs,e,nb,b,rl⟩:=h;exact⟨a,xs,e,g.ok nb (SqL.trk b),g.rZ nb b,aj.gs g ds xs rl⟩
theorem aj.gs(g:Gs K ρ B H ρ' B' H'):∀(ds:List DV)(xs:List V),aj K ρ B H ds xs->aj K ρ' B' H' ds xs
  | [],_,h=>by unfold aj at h ⊢;exact h
  |d::ds,_,h=>by unfold aj at h ⊢;obtain⟨x,r,e,a,b⟩:=h;exact⟨x,r,e,ao.gs g d x a,aj.gs g ds r b⟩
end
def ao.grow(rb:∀a∈ρ,B a)(g:Gr K ρ B H ρ' B' H')(d:DV)(v:V)(h:ao K ρ B H d v):ao K ρ' B' H' d v:=ao.gs (g.gs rb) d v h
def aj.grow(rb:∀a∈ρ,B a)(g:Gr K ρ B H ρ' B' H')(ds:List DV)(xs:List V)(h:aj K ρ B H ds xs):aj K ρ' B' H' ds xs:=aj.gs (g.gs rb) ds xs h
theorem aj.length:∀{ds:List DV}{xs:List V},aj K ρ B H ds xs->ds.length=xs.length
  | [],_,h=>by unfold aj at h;subst h;rfl
  |d::ds,_,h=>by unfold aj at h;obtain⟨x,r,rfl,_,a⟩:=h;simp[aj.length a]
theorem aj.get:∀{ds:List DV}{xs:List V}{i:Nat}{d:DV},aj K ρ B H ds xs->ds[i]?=some d->∃x,xs[i]?=some x/\ao K ρ B H d x
  | [],_,_,_,_,e=>by simp at e
  |d::ds,_,0,_,h,e=>by unfold aj at h;obtain⟨x,r,rfl,a,_⟩:=h;simp at e;subst e;exact⟨x,rfl,a⟩
  |d::ds,_,i+1,_,h,e=>by unfold aj at h;obtain⟨x,r,rfl,_,b⟩:=h;obtain⟨y,c,f⟩:=aj.get b (by simpa using e);exact⟨y,by simpa using c,f⟩
theorem aj.nil:aj K ρ B H [] []:=by unfold aj;rfl
theorem aj.cons{d:DV}{x:V}{ds:List DV}{xs:List V}(h:ao K ρ B H d x)(t:aj K ρ B H ds xs):aj K ρ B H (d::ds) (x::xs):=by unfold aj;exact⟨x,xs,rfl,h,t⟩
theorem aj.append:∀{ds es:List DV}{xs ys:List V},aj K ρ B H ds xs->aj K ρ B H es ys->aj K ρ B H (ds++es) (xs++ys)
  | [],_,_,_,h,t=>by unfold aj at h;subst h;exact t
  |d::ds,_,_,_,h,t=>by unfold aj at h;obtain⟨x,r,rfl,a,b⟩:=h;exact aj.cons a (aj.append b t)
def aj.one{d:DV}{x:V}(h:ao K ρ B H d x):aj K ρ B H [d] [x]:=aj.cons h aj.nil
theorem aj.take:∀(n:Nat){ds:List DV}{xs:List V},aj K ρ B H ds xs->aj K ρ B H (ds.take n) (xs.take n)
  |0,_,_,_=>by simp;exact aj.nil
  |_+1,[],_,h=>by unfold aj at h;subst h;simp;exact aj.nil
  |n+1,d::ds,_,h=>by unfold aj at h;obtain⟨x,r,rfl,a,b⟩:=h;exact aj.cons a (aj.take n b)
theorem aj.drop:∀(n:Nat){ds:List DV}{xs:List V},aj K ρ B H ds xs->aj K ρ B H (ds.drop n) (xs.drop n)
  |0,_,_,h=>h
  |_+1,[],_,h=>by unfold aj at h;subst h;simp;exact aj.nil
  |n+1,d::ds,_,h=>by unfold aj at h;obtain⟨x,r,rfl,b,a⟩:=h;exact aj.drop n a
theorem aj.reverse:∀{ds:List DV}{xs:List V},aj K ρ B H ds xs->aj K ρ B H ds.reverse xs.reverse
  | [],_,h=>by unfold aj at h;subst h;exact aj.nil
  |d::ds,_,h=>by unfold aj at h;obtain⟨x,r,rfl,a,b⟩:=h;rw[List.reverse_cons,List.reverse_cons];exact aj.append (aj.reverse b) (aj.one a)
theorem Gr.laid{p:Addr}{o:HO}(h:H p=none):Gr K ρ B H ρ B (upd H p o) where
 pre:=Bz
 ban:=λ_ h=>h
 new:=λ_ h=>.inl h
 cA:=λ_ h=>.inl h
 keep:=λa u _ q=>by rw[Q4 (ZP q h)];exact q
 trk:=λa q=>by
  by_cases e:a=p
  ·subst e;rw[Q5]at q;cases q
  ·rw[Q4 e]at q;exact q
theorem bB.gs{a:Addr}{o:OV}(g:Gs K ρ B H ρ' B' H')(d:H' a=H a)(h:bB K ρ B H a o):bB K ρ' B' H' a o:=by
  cases o with
  |lst ds=>obtain⟨xs,e,rl⟩:=h;exact⟨xs,d.trans e,aj.gs g _ _ rl⟩
  |aB kvs=>obtain⟨xs,e,b,rl⟩:=h;exact⟨xs,d.trans e,b,aj.gs g _ _ rl⟩
  |ins c fs=>obtain⟨C,f,xs,i,e,b,rl⟩:=h;exact⟨C,f,xs,i,d.trans e,b,aj.gs g _ _ rl⟩
theorem aW.laid{U:Hs}{p:Addr}{o:HO}(W:aW K ρ B U H)(h:H p=none):aW K ρ B U (upd H p o) where
 len:=W.len
 nd:=W.nd
 obj:=λi a u e q=>bB.gs ((Gr.laid h).gs W.rb) (by have b:=W.bt a (W.rb a (At e));exact Q4 (λz=>b (z▸h))) (W.obj i a u e q)
 rb:=W.rb
 bt:=λa z q=>W.bt a z ((Gr.laid (K:=K) (ρ:=ρ) (B:=B) h).trk a q)
 bk:=W.bk
end
inductive Sl where
 |un|val (d:DV)|acc (ds:List DV)
abbrev En:=List Sl
structure Ent where
 ρ:List Addr
 B:Addr->Prop
 H:Hp
structure bK(K:Aa)(Z:Ent)(env:En)(σ:St)(ρ:C9)(B:C8)(U:Hs)(H:Hp):Prop where
 gr:Gr K Z.ρ Z.B Z.H ρ B H
 zb:∀a,Z.B a->Z.H a≠none
 wo:aW K ρ B U H
 slot:∀(i:Nat)(d:DV),env[i]?=some (.val d)->∃v,σ[i]?=some (some v)/\ao K ρ B H d v
 cQ:∀(i:Nat)(ds:List DV),env[i]?=some (.acc ds)->∃a xs,σ[i]?=some (some (.ref a))/\H a=some (.lst xs)/\Z.H a=none/\B a/\a∉ρ/\aj K ρ B H ds xs
 dH:∀(i j:Nat)(ds es:List DV)(a:Addr),env[i]?=some (.acc ds)->env[j]?=some (.acc es)->σ[i]?=some (some (.ref a))->σ[j]?=some (some (.ref a))->i=j
 len:σ.length=env.length
theorem bK.grow{K:Aa}{Z:Ent}{env:En}{σ:St}{ρ ρ':C9}{B B':C8}{U b:Hs}{H H':Hp}(S:bK K Z env σ ρ B U H)(g:Gr K ρ B H ρ' B' H')(W:aW K ρ' B' b H'):bK K Z env σ ρ' B' b H' where
 gr:=S.gr.trans g
 zb:=S.zb
 wo:=W
 slot:=λi d e=>let ⟨v,f,c⟩:=S.slot i d e;⟨v,f,ao.grow S.wo.rb g d v c⟩
 cQ:=λi ds e=>by
  obtain⟨a,xs,f,c,j,l,h,m⟩:=S.cQ i ds e;refine⟨a,xs,f,g.keep a _ h c,j,g.ban a l,λz=>?_,aj.grow S.wo.rb g ds xs m⟩;rcases g.cA a z with q|q
  ·exact h q
  ·rw[c]at q;cases q
 dH:=S.dH
 len:=S.len
abbrev au:=En->M DV
abbrev bO:=En->M Bool
abbrev bR:=En->M (List DV)
inductive Fl where
 |nx|rt (d:DV)|bk|ct
abbrev aG:=En->M (Fl×En)
def fB(K:Aa)(ρ:C9)(B:C8)(H:Hp)(d:DV)(a:Hs)(Q:VK):Prop :=
 ∀v ρ' B' H',Gr K ρ B H ρ' B' H'->aW K ρ' B' a H'->ao K ρ' B' H' d v->Q v H'
def wL(K:Aa)(ρ:C9)(B:C8)(H:Hp)(a:Hs)(Q:Hp->Prop):Prop :=
 ∀ρ' B' H',Gr K ρ B H ρ' B' H'->aW K ρ' B' a H'->Q H'
def IW(K:Aa)(ρ:C9)(B:C8)(H:Hp)(ds:List DV)(a:Hs)(Q:List V->Hp->Prop):Prop :=
 ∀vs ρ' B' H',Gr K ρ B H ρ' B' H'->aW K ρ' B' a H'->aj K ρ' B' H' ds vs->Q vs H'
def tD(K:Aa)(f:au):TE:=λσ H Q=>∃Z env ρ B U d a,bK K Z env σ ρ B U H/\f env U=some (d,a)/\fB K ρ B H d a Q
def dX(K:Aa)(f:bO):TT:=λσ H Q=>∃Z env ρ B U d a,bK K Z env σ ρ B U H/\f env U=some (d,a)/\wL K ρ B H a (Q d)
def dY(K:Aa)(f:bR):TA:=λσ H Q=>∃Z env ρ B U ds a,bK K Z env σ ρ B U H/\f env U=some (ds,a)/\IW K ρ B H ds a Q
def DE(X:Cx)(e:Expr)(f:au):Prop:=PE X e (tD X.K f)
def DT(X:Cx)(e:Expr)(f:bO):Prop:=PT X e (dX X.K f)
def DW(X:Cx)(e:Expr)(f:bO):Prop:=PW X e (dX X.K f)
def DA(X:Cx)(es:List Expr)(f:bR):Prop:=PA X es (dY X.K f)
def iG(K:Aa)(Z:Ent)(ρ:C9)(B:C8)(H:Hp)(c:Fl)(a:En)(b:Hs)(D:xY):Prop :=
  ∀σ' ρ' B' H', Gs K ρ B H ρ' B' H' -> bK K Z a σ' ρ' B' b H' -> match c with
    |.nx=>D.nx σ' H'
    |.bk=>D.bk σ' H'
    |.ct=>D.ct σ' H'
    |.rt d=>∀v,ao K ρ' B' H' d v->D.rt v H'
def iJ(K:Aa)(f:aG):TS:=λD σ H=>∃Z env ρ B U c a b,bK K Z env σ ρ B U H/\f env U=some ((c,a),b)/\iG K Z ρ B H c a b D
def DS(X:Cx)(a:Stmt)(f:aG):Prop:=PS X a (iJ X.K f)
def fJ(X:Cx)(a:List Stmt)(f:aG):Prop:=PSs X a (iJ X.K f)
section
variable{X:Cx}
def _root_.L2.PE.imp{e:Expr}{t t':TE}(h:PE X e t)(i:∀σ H Q,t' σ H Q->t σ H Q):PE X e t':=λa s σ H Q I q=>h a s σ H Q I (i σ H Q q)
def _root_.L2.PT.imp{e:Expr}{t t':TT}(h:PT X e t)(i:∀σ H Q,t' σ H Q->t σ H Q):PT X e t':=λa s σ H Q I q=>h a s σ H Q I (i σ H Q q)
def _root_.L2.PW.imp{e:Expr}{t t':TT}(h:PW X e t)(i:∀σ H Q,t' σ H Q->t σ H Q):PW X e t':=λa O9 s σ H Q I q=>h a O9 s σ H Q I (i σ H Q q)
def _root_.L2.PA.imp{es:List Expr}{t t':TA}(h:PA X es t)(i:∀σ H Q,t' σ H Q->t σ H Q):PA X es t':=λa O9 s σ H Q I q=>h a O9 s σ H Q I (i σ H Q q)
def _root_.L2.PS.imp{b:Stmt}{t t':TS}(h:PS X b t)(i:∀a σ H,t' a σ H->t a σ H):PS X b t':=λc s σ H a I q=>h c s σ H a I (i a σ H q)
def _root_.L2.PSs.imp{b:List Stmt}{t t':TS}(h:PSs X b t)(i:∀a σ H,t' a σ H->t a σ H):PSs X b t':=λc s σ H a I q=>h c s σ H a I (i a σ H q)
def uD(K:Aa)(H:Hp):Prop:=∀a o,H a=some o->K.lookup a=none
theorem Inv.mX{c:C4}{σ:St}{H:Hp}{s:Shared}(I:Inv X c σ H s):uD X.K H:=λa o e=>by
  cases q:X.K.lookup a with
  |none=>rfl
  |some b=>have:=(I.bs a b (I.ok.mod.kin a b q)).2;rw[e]at this;cases this
theorem _root_.L2.PE.kf{e:Expr}{t:TE}(h:PE X e t):PE X e (λσ H Q=>t σ H λv H'=>uD X.K H'->Q v H'):=λa s σ H Q I q =>
 thn (h a s σ H _ I q) λu s' ⟨v,H',I',r,z⟩=>⟨v,H',I',r,z (Inv.mX I')⟩
theorem bind_some{α β:Type}{f:M α}{g:α->M β}{U a:Hs}{y:β}(h:(f >>= g) U=some (y,a)):∃x hp1,f U=some (x,hp1)/\g x hp1=some (y,a):=by
 change (f U).bind (λp=>g p.1 p.2)=some (y,a)at h;cases q:f U with
 |none=>rw[q]at h;cases h
 |some p=>rw[q]at h;exact⟨p.1,p.2,rfl,h⟩
theorem Qk{α:Type}{x y:α}{U a:Hs}(h:(pure x:M α) U=some (y,a)):x=y/\U=a:=by change some (x,U)=some (y,a)at h;cases h;exact⟨rfl,rfl⟩
theorem tD.run{K:Aa}{f:au}{Z:Ent}{env:En}{σ:St}{ρ:C9}{B:C8}{U hp1:Hs}{H:Hp}{d:DV}{Q:VK}(S:bK K Z env σ ρ B U H)(e:f env U=some (d,hp1))
  (k:∀v ρ' B' H',Gr K ρ B H ρ' B' H'->bK K Z env σ ρ' B' hp1 H'->ao K ρ' B' H' d v->Q v H'):tD K f σ H Q :=
 ⟨Z,env,ρ,B,U,d,hp1,S,e,λv ρ' B' H' g W r=>k v ρ' B' H' g (S.grow g W) r⟩
def Qb(i:Nat):au:=λenv=>match env[i]? with
 |some (.val d)=>pure d
 |_=>failure
def eC(d:DV):au:=λ_=>pure d
theorem vw{i:Nat}{env:En}{U a:Hs}{d:DV}(h:Qb i env U=some (d,a)):env[i]?=some (.val d)/\U=a:=by
  unfold Qb at h;cases q:env[i]? with
  |none=>rw[q]at h;cases h
  |some z =>
    rw[q]at h;cases z with
    |val x=>obtain⟨rfl,rfl⟩:=Qk h;exact⟨rfl,rfl⟩
    |un=>cases h
    |acc _=>cases h
theorem Qc(i:Nat){x:Str}{a:Pos}(j:X.N[i]?=some x:=by rfl)(m:Vis X.env.scope x:=by first|exact Or.inl rfl|exact Or.inr (Or.inl rfl)|exact Or.inr (Or.inr rfl))(hd:(x==("__debug__" : Str))=false:=by decide)
  (hcd:(x==("__classdict__" : Str))=false:=by decide):DE X (.Name x a) (Qb i) :=
 (KA j m hd hcd).imp λσ H Q b=>by obtain⟨Z,env,ρ,B,U,d,l,S,e,k⟩:=b;obtain⟨c,rfl⟩:=vw e;obtain⟨v,f,h⟩:=S.slot i d c;exact⟨v,f,k v ρ B H Gr.refl S.wo h⟩
theorem qq{e:Expr}{d:DV}{v:V}(h:PE X e (tC v))(r:∀K ρ B H,ao K ρ B H d v):DE X e (eC d) :=
 h.imp λσ H Q a=>by obtain⟨Z,env,ρ,B,U,d',b,S,e,k⟩:=a;obtain⟨rfl,rfl⟩:=Qk e;exact k v ρ B H Gr.refl S.wo (r _ _ _ _)
theorem Qh{i:Int}{j pos}:DE X (.Constant (.int i) j pos) (eC (.int i)):=qq Mp λ_ _ _ _=>by unfold ao;rfl
theorem zO{b:Bool}{j pos}:DE X (.Constant (.bool b) j pos) (eC (.bl b)):=qq HY λ_ _ _ _=>by unfold ao;rfl
theorem ZU{j pos}:DE X (.Constant .none j pos) (eC .non):=qq Ml λ_ _ _ _=>by unfold ao;rfl
theorem QX{x:Str}{j pos}:DE X (.Constant (.str x) j pos) (eC (.str x)):=qq Mj λ_ _ _ _=>by unfold ao;rfl
def lX(K:Aa)(g:DV->DV->M DV):R2:=λx y H Q=>∃ρ B U b c d a,aW K ρ B U H/\ao K ρ B H b x/\ao K ρ B H c y/\g b c U=some (d,a)/\fB K ρ B H d a Q
def P2(X:Cx)(f:Value->Value->Sem Value)(g:DV->DV->M DV):Prop:=OpR X f (lX X.K g)
def Qf(g:DV->DV->M DV)(a b:au):au:=λenv=>do let x <- a env;let y <- b env;g x y
variable{a b c:Expr}{fa fb fc:au}{pos:Pos}
theorem X8{K:Aa}{g:DV->DV->M DV}{σ:St}{H:Hp}{Q:VK}(h:tD K (Qf g fa fb) σ H Q):tOp (lX K g) (tD K fa) (tD K fb) σ H Q:=by obtain⟨Z,env,ρ,B,U,d,f,S,e,k⟩:=h;obtain⟨x,hp1,l,m⟩:=bind_some e;obtain⟨y,hp2,n,o⟩:=bind_some m;refine tD.run S l λv ρ1 B1 H1 q S1 t=>tD.run S1 n λu ρ2 j H2 i S2 z=>?_;exact⟨ρ2,j,hp2,x,y,d,f,S2.wo,ao.grow S1.wo.rb i _ _ t,z,o,λw ρ' B' H' g W r=>k w ρ' B' H' (q.trans (i.trans g)) W r⟩
theorem Qn{d:Operator}{g:DV->DV->M DV}(i:P2 X (binaryOp d) g)(e:DE X a fa)(f:DE X b fb):DE X (.BinOp a d b pos) (Qf g fa fb) :=
 (HX i e f).imp λ_ _ _ h=>X8 h
theorem zf{d:CmpOp}{g:DV->DV->M DV}(j:P2 X (compareOp d) g)(e:DE X a fa)(f:DE X b fb)(i:behindInMarks d b=false):DE X (.Compare a [d] [b] pos) (Qf g fa fb) :=
 (Pk j e f i).imp λ_ _ _ h=>X8 h
def g_:DV->M Bool
 |.bl b=>pure b
 |_=>failure
def eB(f:au):bO:=λenv=>do g_ (<- f env)
theorem qg{d:DV}{c:Bool}{U e:Hs}(h:g_ d U=some (c,e)):d=.bl c/\U=e:=by
 cases d with
 |bl b=>obtain⟨rfl,rfl⟩:=Qk h;exact⟨rfl,rfl⟩
 |_=>cases h
theorem ao.eO{K:Aa}{ρ:C9}{B:C8}{H:Hp}{b:Bool}{v:V}(h:ao K ρ B H (.bl b) v):v=.bl b:=by unfold ao at h;exact h
theorem ao.bf{K:Aa}{ρ:C9}{B:C8}{H:Hp}{b:Int}{v:V}(h:ao K ρ B H (.int b) v):v=.int b:=by unfold ao at h;exact h
theorem ao.dM{K:Aa}{ρ:C9}{B:C8}{H:Hp}{b:Str}{v:V}(h:ao K ρ B H (.str b) v):v=.str b:=by unfold ao at h;exact h
theorem ao.dN{K:Aa}{ρ:C9}{B:C8}{H:Hp}{v:V}(h:ao K ρ B H .non v):v=.non:=by unfold ao at h;exact h
theorem ao.tupI{K:Aa}{ρ:C9}{B:C8}{H:Hp}{ds:List DV}{v:V}(h:ao K ρ B H (.tup ds) v):∃a xs,v=.ref a/\¬ B a/\SqT K H a xs/\aj K ρ B H ds xs:=by unfold ao at h;exact h
theorem ao.bV{K:Aa}{ρ:C9}{B:C8}{H:Hp}{ds:List DV}{v:V}(h:ao K ρ B H (.lst ds) v):∃a xs,v=.ref a/\¬ B a/\SqL K H a xs/\aj K ρ B H ds xs:=by unfold ao at h;exact h
theorem ao.lq{K:Aa}{ρ:C9}{B:C8}{H:Hp}{i:Nat}{v:V}(h:ao K ρ B H (.ref i) v):∃a,v=.ref a/\ρ[i]?=some a:=by unfold ao at h;exact h
section
variable{K:Aa}{ρ:C9}{B:C8}{H:Hp}
theorem J1{b:Bool}:ao K ρ B H (.bl b) (.bl b):=by unfold ao;rfl
theorem ZJ{b:Int}:ao K ρ B H (.int b) (.int b):=by unfold ao;rfl
theorem Rm{b:Str}:ao K ρ B H (.str b) (.str b):=by unfold ao;rfl
theorem XR:ao K ρ B H .non .non:=by unfold ao;rfl
theorem YH{a:Addr}{ds:List DV}{xs:List V}(d:¬ B a)(e:SqT K H a xs)(f:aj K ρ B H ds xs):ao K ρ B H (.tup ds) (.ref a):=by unfold ao;exact⟨a,xs,rfl,d,e,f⟩
theorem jx{a:Addr}{ds:List DV}{xs:List V}(d:¬ B a)(e:SqL K H a xs)(f:aj K ρ B H ds xs):ao K ρ B H (.lst ds) (.ref a):=by unfold ao;exact⟨a,xs,rfl,d,e,f⟩
end
theorem jS{e:Expr}{f:au}(h:DE X e f)(n:∀whole,isTrue e X.env whole=(do let v <- whole;standAt e.pos;holding [v] (truthy v)):=by intro _;rfl):DT X e (eB f) :=
 (Lz h n).imp λσ H Q i=>by obtain⟨Z,env,ρ,B,U,d,o,S,e,k⟩:=i;obtain⟨x,hp1,j,l⟩:=bind_some e;obtain⟨rfl,rfl⟩:=qg l;exact tD.run S j λv ρ1 B1 H1 m S1 q=>⟨d,q.eO,k ρ1 B1 H1 m S1.wo⟩
theorem QE{f:CmpOp}{g:DV->DV->M DV}(q:P2 X (compareOp f) g)(m:DE X a fa)(n:DE X b fb)(o:behindInMarks f b=false):DT X (.Compare a [f] [b] pos) (eB (Qf g fa fb)) :=
 (Ow q m n o).imp λσ H Q h=>by obtain⟨Z,env,ρ,B,U,d,r,S,e,k⟩:=h;obtain⟨x,hp1,i,j⟩:=bind_some e;obtain⟨rfl,rfl⟩:=qg j;exact X8 (tD.run S i λv ρ1 B1 H1 l S1 t=>⟨d,t.eO,k ρ1 B1 H1 l S1.wo⟩)
def JG(f g:bO):bO:=λenv=>do if <- f env then g env else pure false
def cB(f g:bO):bO:=λenv=>do if <- f env then pure true else g env
def XE(f:bO):bO:=λenv=>do let b <- f env;pure (!b)
def BZ(f g:au):au:=λenv=>do if <- g_ (<- f env)then g env else pure (.bl false)
def wG(f g:au):au:=λenv=>do if <- g_ (<- f env)then pure (.bl true)else g env
def BX(f:au):au:=λenv=>do let b <- g_ (<- f env);pure (.bl (!b))
def tW(c:bO)(f g:au):au:=λenv=>do if <- c env then f env else g env
theorem dX.run{K:Aa}{f:bO}{Z:Ent}{env:En}{σ:St}{ρ:C9}{B:C8}{U hp1:Hs}{H:Hp}{d:Bool}{Q:Bool->Hp->Prop}(S:bK K Z env σ ρ B U H)(e:f env U=some (d,hp1))
  (k:∀ρ' B' H',Gr K ρ B H ρ' B' H'->bK K Z env σ ρ' B' hp1 H'->Q d H'):dX K f σ H Q :=
 ⟨Z,env,ρ,B,U,d,hp1,S,e,λρ' B' H' g W=>k ρ' B' H' g (S.grow g W)⟩
variable{ca cb:bO}{rest:List Expr}
def J7(h:DT X a ca):DW X (.BoolOp .And [a] pos) ca:=Rr h
def zn(h:DT X a ca):DW X (.BoolOp .Or [a] pos) ca:=Lx h
theorem XD(m:DT X a ca)(n:DW X (.BoolOp .And (b::rest) pos) cb):DW X (.BoolOp .And (a::b::rest) pos) (JG ca cb) :=
  (Ly m n).imp λσ H Q i=>by
    obtain⟨Z,env,ρ,B,U,d,o,S,e,k⟩:=i;obtain⟨x,hp1,j,f⟩:=bind_some e;refine dX.run S j λρ1 B1 H1 h S1=>?_;cases x with
    |true=>exact gP (dX.run S1 f λρ2 B2 H2 l S2=>k ρ2 B2 H2 (h.trans l) S2.wo)
    |false=>obtain⟨rfl,rfl⟩:=Qk f;exact gO (k ρ1 B1 H1 h S1.wo)
theorem zP(m:DT X a ca)(n:DW X (.BoolOp .Or (b::rest) pos) cb):DW X (.BoolOp .Or (a::b::rest) pos) (cB ca cb) :=
  (HD m n).imp λσ H Q i=>by
    obtain⟨Z,env,ρ,B,U,d,o,S,e,k⟩:=i;obtain⟨x,hp1,j,f⟩:=bind_some e;refine dX.run S j λρ1 B1 H1 h S1=>?_;cases x with
    |false=>exact gO (dX.run S1 f λρ2 B2 H2 l S2=>k ρ2 B2 H2 (h.trans l) S2.wo)
    |true=>obtain⟨rfl,rfl⟩:=Qk f;exact gP (k ρ1 B1 H1 h S1.wo)
def DW.pt{e:Expr}{f:bO}(h:DW X e f):DT X e f:=h _
theorem Vk(h:DT X a ca):DT X (.UnaryOp .Not a pos) (XE ca) :=
 (LC h).imp λσ H Q f=>by obtain⟨Z,env,ρ,B,U,d,m,S,e,k⟩:=f;obtain⟨x,hp1,i,j⟩:=bind_some e;obtain⟨rfl,rfl⟩:=Qk j;exact dX.run S i λρ1 B1 H1 l S1=>k ρ1 B1 H1 l S1.wo
def Qj:bR:=λ_=>pure []
def Qa(f:au)(g:bR):bR:=λenv=>do let x <- f env;let xs <- g env;pure (x::xs)
theorem dY.run{K:Aa}{f:bR}{Z:Ent}{env:En}{σ:St}{ρ:C9}{B:C8}{U hp1:Hs}{H:Hp}{ds:List DV}{Q:List V->Hp->Prop}(S:bK K Z env σ ρ B U H)(e:f env U=some (ds,hp1))
  (k:∀vs ρ' B' H',Gr K ρ B H ρ' B' H'->bK K Z env σ ρ' B' hp1 H'->aj K ρ' B' H' ds vs->Q vs H'):dY K f σ H Q :=
 ⟨Z,env,ρ,B,U,ds,hp1,S,e,λvs ρ' B' H' g W r=>k vs ρ' B' H' g (S.grow g W) r⟩
theorem Ql:DA X [] Qj:=pa_nil.imp λσ H Q d=>by obtain⟨Z,env,ρ,B,U,ds,f,S,e,k⟩:=d;obtain⟨rfl,rfl⟩:=Qk e;exact k [] ρ B H Gr.refl S.wo aj.nil
theorem Qd{e:Expr}{es:List Expr}{f:au}{g:bR}(o:DE X e f)(r:DA X es g)(t:starEach (e::es) X.env=(false,eval e X.env)::starEach es X.env:=by rfl):DA X (e::es) (Qa f g) :=
 (jw o r t).imp λσ H Q h=>by obtain⟨Z,env,ρ,B,U,ds,q,S,e,k⟩:=h;obtain⟨x,hp1,i,j⟩:=bind_some e;obtain⟨xs,hp2,l,m⟩:=bind_some j;obtain⟨rfl,rfl⟩:=Qk m;exact tD.run S i λv ρ1 B1 H1 n S1 u=>dY.run S1 l λvs ρ2 B2 H2 d S2 y=>k _ ρ2 B2 H2 (n.trans d) S2.wo (aj.cons (ao.grow S1.wo.rb d _ _ u) y)
def lim:Nat:=100000
theorem xh:lim<=sizeLine:=by decide
def QM(c:Bool):M Unit:=if c then pure ()else failure
theorem QF{c:Bool}{U d:Hs}{u:Unit}(h:QM c U=some (u,d)):c=true/\U=d:=by
 cases c with
 |true=>obtain⟨_,rfl⟩:=Qk (show(pure ():M Unit) U=some (u,d)from h);exact⟨rfl,rfl⟩
 |false=>cases h
def Yp(ds:List DV):Bool:=decide (ds.length<=lim)
def Yq{ds:List DV}(h:Yp ds=true):ds.length<=sizeLine:=A9 (Cz h) xh
def Q2(f:bR):au:=λenv=>do let xs <- f env;QM (Yp xs);pure (.tup xs)
def Zm(f:bR):au:=λenv=>do let xs <- f env;QM (Yp xs);pure (.lst xs)
theorem YC{K:Aa}{ρ:C9}{B:C8}{H:Hp}{U:Hs}{ds:List DV}{xs:List V}{Q:VK}(W:aW K ρ B U H)(r:aj K ρ B H ds xs)(k:fB K ρ B H (.tup ds) U Q):∀p,H p=none->Q (.ref p) (upd H p (.tup xs)):=λp d =>
 k _ ρ B _ (Gr.laid d) (W.laid d) (YH (λz=>W.bt p z d) (SqT.of Q5) (aj.grow W.rb (Gr.laid d) _ _ r))
theorem XF{K:Aa}{ρ:C9}{B:C8}{H:Hp}{U:Hs}{ds:List DV}{xs:List V}{Q:VK}(W:aW K ρ B U H)(r:aj K ρ B H ds xs)(k:fB K ρ B H (.lst ds) U Q):∀p,H p=none->Q (.ref p) (upd H p (.lst xs)):=λp d =>
 k _ ρ B _ (Gr.laid d) (W.laid d) (jx (λz=>W.bt p z d) (SqL.of Q5) (aj.grow W.rb (Gr.laid d) _ _ r))
def fB.after{K:Aa}{ρ ρ1:C9}{B B1:C8}{H H1:Hp}{e:Hs}{d:DV}{Q:VK}(g:Gr K ρ B H ρ1 B1 H1)(k:fB K ρ B H d e Q):fB K ρ1 B1 H1 d e Q:=λv ρ' B' H' g' W r=>k v ρ' B' H' (g.trans g') W r
theorem QV{es:List Expr}{f:bR}{x1}(h:DA X es f):DE X (.Tuple es x1 pos) (Q2 f) :=
 (Mh h).imp λσ H Q j=>by obtain⟨Z,env,ρ,B,U,d,r,S,e,k⟩:=j;obtain⟨xs,hp1,l,m⟩:=bind_some e;obtain⟨_,hp2,n,o⟩:=bind_some m;obtain⟨t,rfl⟩:=QF n;obtain⟨rfl,rfl⟩:=Qk o;exact dY.run S l λvs ρ1 B1 H1 q S1 i=>⟨by rw[<- i.length];exact Yq t,YC S1.wo i (k.after q)⟩
theorem ZG{es:List Expr}{f:bR}(h:DA X es f):DE X (.List es pos) (Zm f) :=
 (Ky h).imp λσ H Q j=>by obtain⟨Z,env,ρ,B,U,d,r,S,e,k⟩:=j;obtain⟨xs,hp1,l,m⟩:=bind_some e;obtain⟨_,hp2,n,o⟩:=bind_some m;obtain⟨t,rfl⟩:=QF n;obtain⟨rfl,rfl⟩:=Qk o;exact dY.run S l λvs ρ1 B1 H1 q S1 i=>⟨by rw[<- i.length];exact Yq t,XF S1.wo i (k.after q)⟩
end
end D
namespace L2
open PySem PySem.Spec PyProof.Rows
def JF(X:Cx)(scope:Scope)(cl:List (Str×Addr))(C:Addr)(N:List Str)(s₀:Shared)(H₀:Hp)(ex:C9):Cx where
 prog:=X.prog
 w:=X.w
 K:=X.K
 mg:=X.mg
 O8:=X.O8
 A:=X.A
 N:=N
 s₀:=s₀
 H₀:=H₀
 env:=compEnvC scope cl C X.env
 outer:=X.stack
 stack:=X.stack
 ex:=ex
 fn:=λ_=>false
 calm:=X.calm
 pn:=[]
 xe:=λ_ _=>False
def AllP{α:Type}(P:α->Prop):List α->Prop
 | []=>True
 |x::r=>P x/\AllP P r
theorem AllP.mem{α:Type}{P:α->Prop}:∀{l:List α}{x:α},AllP P l->x∈l->P x
 | [],_,_,h=>nomatch h
 |y::r,x,⟨a,b⟩,h=>(Ba.mp h).elim (λe=>e▸a) λe=>AllP.mem b e
def dh(X:Cx)(scope:Scope)(cl:List (Str×Addr)):List Str->List Nat->Prop
  | [],[]=>True
  | y :: ys, i :: a => X.N[i]? = some y /\ (X.env.kindOf y = some .cell ∨ X.env.kindOf y = some .free) /\ (∃c, cl.lookup y = some c) /\
      (relabel scope X.env).names.lookup y≠some .local/\dh X scope cl ys a
  |_,_=>False
theorem dh.get{X:Cx}{scope:Scope}{cl:List (Str×Addr)}:∀{ys:List Str}{d:List Nat}{j:Nat}{y:Str},dh X scope cl ys d->ys[j]?=some y ->
    ∃i,d[j]?=some i/\X.N[i]?=some y/\(X.env.kindOf y=some .cell∨X.env.kindOf y=some .free)/\(∃c,cl.lookup y=some c)/\(relabel scope X.env).names.lookup y≠some .local
  | [],_,_,_,_,h=>by simp at h
  |y::ys,[],_,_,h,_=>by simp[dh]at h
  |y::ys,i::d,0,z,⟨e,f,l,m,_⟩,h=>by simp at h;subst h;exact⟨i,rfl,e,f,l,m⟩
  |y::ys,i::d,j+1,z,⟨_,_,_,_,n⟩,h=>by obtain⟨k,a,b⟩:=dh.get n (by simpa using h);exact⟨k,by simpa using a,b⟩
theorem dh.length{X:Cx}{scope:Scope}{cl:List (Str×Addr)}:∀{ys:List Str}{a:List Nat},dh X scope cl ys a->ys.length=a.length
 | [],[],_=>rfl
 | [],_::_,h=>by simp[dh]at h
 |_::_,[],h=>by simp[dh]at h
 |_::ys,_::a,⟨_,_,_,_,h⟩=>by simp[dh.length h]
structure VZ(X:Cx)(x:Str)(scope:Scope)(cl:List (Str×Addr))(caps:List Str)(idx:List Nat):Prop where
 clos:closureFor scope X.env=pure cl
 cell:∀y∈scope.names,y.2≠.cell
 kind:scope.kind=.function
 names:∀y∈scope.names,y.2=.local->scope.names.lookup y.1=some .local
 hx:scope.names.lookup x=some .local
 cls:AllP (λp:Str×Addr=>X.env.cells.lookup p.1=some p.2) cl
 has:((relabel scope X.env).names.all λp=>!(p.2==.cell||p.2==.free)||(cl.lookup p.1).isSome)=true
 cps:dh X scope cl caps idx
 nd:(x::caps).Nodup
def cσ(idx:List Nat)(σ:St)(o:Option V):St:=o::idx.map λi=>(σ[i]?).join
def mF(X:Cx)(a:List Expr)(t:TT):Prop :=
  ∀(O9 : List (Addr × Obj))(s : Shared)(σ : St)(H : Hp)(Q : Bool -> Hp -> Prop), Inv X O9 σ H s -> t σ H Q ->
    wpAny (model X.prog X.w) X.A (forIn a true λc r=>if r=true then do let ok <- isTrue c X.env (eval c X.env);pure (ForInStep.yield ok)else pure (ForInStep.yield r)) (TP X O9 σ Q) X.xe s
def Ov{X:Cx}:mF X [] (λ_ H Q=>Q true H):=λa s σ H Q I h=>wpAny_tests_nil ⟨H,I,h⟩
def Ou{X:Cx}{c:Expr}{t:TT}(h:PT X c t):mF X [c] t:=λa s σ H Q I q=>wpAny_tests_one (h a s σ H Q I q)
section
variable{prog:Program}{w:World}{A:Around}{R:Result->Shared->Prop}{s:Shared}
theorem Ve{b target a:Expr}{d:List Expr}{scope:Scope}{e:Pos}{f acc:Value}{env:Env}(I:Nat->Shared->Prop)
    (turn:∀n s,I n s->wpAny (model prog w) A (pyNext f) (λr s₁=>match r with
      |none=>R (.ok .next) s₁
      |some v=>wpAny (model prog w) A (letOwnedTupleGo target f v) (λ_ s₁'=>wpAny (model prog w) A (assign target env v) (λ_ s₂ =>
          wpAny (model prog w) A (forIn d true λc r=>if r=true then do let ok <- isTrue c env (eval c env);pure (ForInStep.yield ok)else pure (ForInStep.yield r)) (λok s₃ =>
            if ok=true then wpAny (model prog w) A (eval b env) (λx s₄ =>
              wpAny (model prog w) A (call (.builtin "list.append") [acc,x]) (λ_ s₅=>∃m,m<n/\I m s₅) (λ_ _=>False) s₄) (λ_ _=>False) s₃
            else ∃m,m<n/\I m s₃) (λ_ _=>False) s₂) (λ_ _=>False) s₁') (λ_ _=>False) s₁) (λ_ _=>False) s)
    (n:Nat) (h:I n s) :
    codeAny (model prog w) A (.compLoop (.ListComp b [⟨target,a,d,0⟩] scope e) 0 f acc env) R s:=by
  refine codeAny_loop rfl I (λn s hI=>?_) n h;show wpAny _ A ((compTurn (.ListComp b [⟨target,a,d,0⟩] scope e) 0 f acc env).onRaise (λx=>do noteFrame x env;theTreesLotGoes x)) _ _ s;refine wpAny_noted ?_;rw[compTurn_list];refine Cr (wpAny_standAt (Cr (wpAny_mono (turn n s hI) (λr s₁ h₁=>?_) λ_ _ h'=>h'.elim)));cases r with
  |none=>exact Cu h₁
  |some v =>
    refine Cr (wpAny_mono h₁ (λ_ s₁' h₁'=>?_) λ_ _ h'=>h'.elim);refine Cr (wpAny_mono h₁' (λ_ s₂ h₂=>Cr (wpAny_mono h₂ (λok s₃ h₃=>?_) λ_ _ h'=>h'.elim)) λ_ _ h'=>h'.elim);cases ok with
    |false=>exact Cu ⟨rfl,h₃⟩
    |true=>exact Cr (Cr (wpAny_mono h₃ (λx s₄ h₄=>Cr (wpAny_mono h₄ (λ_ s₅ h₅=>Cu (Cu ⟨rfl,h₅⟩)) λ_ _ h'=>h'.elim)) λ_ _ h'=>h'.elim))
end
def G0(K:Aa)(e:TI)(tt:TT)(te:TE)(idx:List Nat):TE:=λσ H Q=>e σ H λJ d=>∀D,d D=none->K.lookup D=none->∃W:Nat->Nat->List V->Hp->Prop,(∃m,W 0 m [] (upd d D (.lst []))) /\
  ∀i m ys H, W i m ys H -> H D = some (.lst ys) /\ ((J.stop i H /\ Q (.ref D) H) ∨ (J.go i H /\ ∀x H', J.yld i H x H' -> tt (cσ idx σ (some x)) H' λb H2 =>
    if b=true then te (cσ idx σ (some x)) H2 λy H3=>H3 D=some (.lst ys)/\ys.length<sizeLine/\∃a,a<m/\W (i+1) a (ys++[y]) (upd H3 D (.lst (ys++[y])))
    else ∃a,a<m/\W (i+1) a ys H2))
section
variable{X:Cx}{elt iter:Expr}{x:Str}{px:Pos}{ifs:List Expr}{scope:Scope}{cl:List (Str×Addr)}{pos:Pos}{caps:List Str}{idx:List Nat}{wi:TI}{tt:TT}{te:TE}
theorem Ue{E:C2}{use:Option (Value->Sem Unit)}{QQ:C2}{lA:Pos}(S:VZ X x scope cl caps idx)(hc:X.calm=true)(hi:PI X (.Name x px) iter wi)
    (ht:∀C s₀ H₀ ex,mF (JF X scope cl C (x::caps) s₀ H₀ ex) ifs tt) (he:∀C s₀ H₀ ex,PE (JF X scope cl C (x::caps) s₀ H₀ ex) elt te)
    {O9:C4} {s:Shared} {σ:St} {H:Hp} {Q:VK} (I:Inv X O9 σ H s) (h:G0 X.K wi tt te idx σ H Q)
    (hE:X.xe=E)
    (hend:∀(D C:Addr)(H':Hp)(s':Shared)(m:C5),Inv X O9 σ H' s'->Q (.ref D) H'->s'.heap.Ns C m->H' C=none->C≠X.env.locals->X.s₀.heap.objs.size<=C->(∀x c,X.env.cells.lookup x=some c->c≠C)->(∀p∈X.pn++O9,p.1≠C) ->
      compPost (model X.prog X.w) X.A E use QQ (.ref D) C (.ok .next) s')
    (hs:∀x,foldedSetIterable iter X.env x=pure x:=by intro _;rfl) :
    wpAny (model X.prog X.w) X.A (comprehension (.ListComp elt [⟨.Name x px,iter,ifs,0⟩] scope pos) scope X.env lA (newList []) false (eval iter X.env) use) QQ E s:=by
  subst hE;refine wpAny_comprehension_free (use:=use) rfl hs S.clos S.kind S.names (thn (hi O9 s σ H _ I h) λxv s1 h1=>thn h1 λb9 F h2=>?_);obtain⟨it,L,tn,J,H2,rfl,I2,T,ah,R,hQ⟩:=h2;refine wpAny_newObj_type (wpAny_newFunctionEnv S.cell (by intro y hy;simp at hy) (λh₁ ad₁ ae₁=>?_) S.kind);dsimp only at ad₁ ae₁ ⊢;generalize aa:F.heap.push { cls:=.type "list", dict:=none,data:=.seq ([]:List Value).toArray }=t at ad₁ ae₁ ⊢;have hC:t.objs.size=F.heap.objs.size+1:=by rw[<- aa,B7]
  have fX:∀b o,F.heap.get? b=some o->t.get? b=some o:=λb o e=>aa▸Ad _ e;have ay:H2 F.heap.objs.size=none:=I2.hok.fresh (Ae _);have f:Inv X O9 σ (upd H2 F.heap.objs.size (.lst [])) { F with heap:=t } :=
    I2.laid (t':=F.toks) fX (Ae _) ⟨A5 _,[],_,.nil,aa▸As _ rfl⟩
  have EY:X.K.lookup F.heap.objs.size=none:=by
    cases q:X.K.lookup F.heap.objs.size with
    |none=>rfl
    |some o=>exact absurd (Ao (I2.kIn _ o q)) (Cf _)
  obtain⟨W,⟨m0,w0⟩,am⟩:=hQ _ ay EY;generalize E_:F.heap.objs.size=D at *;generalize mj:t.objs.size=C at *;have nM:∀b o,t.get? b=some o->b≠C:=λb o e=>by rw[<- mj];exact A6 (Ao e)
  have dR:∀b o,t.get? b=some o->h₁.get? b=some o:=λb o e=>ae₁.extBut b o (nM b o e) (Ad _ e);have D_:({ F with heap:=t }:Shared).heap.objs.size=C:=mj;have lQ:∀y c,cl.lookup y=some c->X.env.cells.lookup y=some c:=λy c e=>S.cls.mem (PySem.mem_of_lookup e);have m_:∀b∈L,∃o,F.heap.get? b=some o:=λb a=>let ⟨o,e,_⟩:=T.obj _ _ ah b a;⟨o,e⟩;have tQ:∀b∈L,b≠C:=λb a=>let ⟨o,e⟩:=m_ b a;nM b o (fX b o e);have Fj:∀b∈L,b≠D:=λb a=>let ⟨o,e⟩:=m_ b a;by rw[<- E_];exact A6 (Ao e)
  have ax:∀b∈L,(upd H2 D (.lst [])) b=none:=λb a=>by rw[Q4 (Fj b a)];exact(R b a).1
  have lR:∀y c,X.env.cells.lookup y=some c->c≠C:=λy c e=>let ⟨v,o,ho,_⟩:=f.cell y c e;nM c o ho;have iU:∀b∈L,b∉frs X.stack:=λb a z=>(Ba.mp (I2.stkSub b z)).elim (R b a).2.1 (R b a).2.2.1
  let O:=JF X scope cl C (x::caps) { F with heap:=t } (upd H2 D (.lst [])) L
  have b5:O.Ok:=by
    refine⟨f.ok.mod,by show(relabel scope X.env).kind=_;exact S.kind,f.ok.glob,f.ok.blt,by show t.objs.size<=C;rw[mj];exact Ae _,λy z c h1 h2=>f.ok.inj y z c (lQ y c h1) (lQ z c h2),λy hy=>?_,
      λy c z=>(by cases z),f.ok.hd,f.ok.frames,.inl rfl,λb a=>⟨tQ b a,λy c e=>(R b a).2.2.2.2.1 y c (lQ y c e)⟩,f.bs,A9 f.ok.bsz f.sz,
      λb o e a=>?_,λb a=>iU b a,f.stack,f.stkFree⟩
    . have az:(relabel scope X.env).names.lookup y=some .cell∨(relabel scope X.env).names.lookup y=some .free:=hy
      have q:=S.has;rw[List.all_eq_true]at q;have:(cl.lookup y).isSome=true:=by
        rcases az with z|z
        . have q:=q _ (PySem.mem_of_lookup z);simpa using q
        . have q:=q _ (PySem.mem_of_lookup z);simpa using q
      exact Option.isSome_iff_exists.mp this
    . have:=(R b a).2.2.2.1
      have e3:=(I2.ok.bs b o e).1;rcases this with z|z
      . exact I2.ok.noex b o e z
      . exact absurd (Av (Ao e3) z) (Cf _)
  have iC:=S.cps.length;have I4:Inv O [] (cσ idx σ none) (upd H2 D (.lst [])) { F with heap:=h₁,toks:=F.toks+([]:List (Str×Value)).length }:=by
    refine⟨b5,rfl,f.bare,Un.kept dR,⟨_,ad₁,λi y v e1 e2 e3=>?_⟩,λy c e=>?_,?_,λy c e=>f.freeC y c (lQ y c e),λp U=>absurd (show p∈([]:C4)from U) (by simp),f.hok.kept dR,?_⟩
    . cases i with
      |zero=>exact absurd e2 (by simp[cσ])
      |succ j =>
        obtain⟨k,h1,h2,h3,⟨c,h4⟩,h5⟩:=S.cps.get (show caps[j]?=some y by have ar:(x::caps)[j+1]?=some y:=e1;simpa using ar);have Y:(σ[k]?).join=some v:=by simpa [cσ,h1]using e2
        have pR:σ[k]?=some (some v):=by
          cases q:σ[k]? with
          |none=>rw[q]at Y;cases Y
          |some z=>rw[q]at Y;exact congrArg some Y
        obtain⟨mL,T9,hl⟩:=f.loc;have b7:Vis X.env.scope y:=by rcases h3 with z|z;exact .inr (.inl z);exact .inr (.inr z)
        obtain⟨u,r,l⟩:=hl k y v h2 pR b7;refine⟨u,r,.inr ⟨?_,c,h4,?_⟩⟩
        . have av:(relabel scope X.env).names.lookup y=some .local∨(relabel scope X.env).names.lookup y=some .cell∨(relabel scope X.env).names.lookup y=some .free:=e3
          rcases av with z|z|z
          . exact absurd z h5
          . exact .inl z
          . exact .inr z
        . rcases l with ⟨z,_⟩|⟨_,c',e,z⟩
          . rcases h3 with q|q <;> · rw[q]at z;cases z
          . rw[lQ y c h4]at e;cases e
            obtain⟨o,ho,hd⟩:=z;exact⟨o,dR _ _ ho,hd⟩
    . obtain⟨v,o,ho,hd⟩:=f.cell y c (lQ y c e)
      exact⟨v,o,dR _ _ ho,hd⟩
    . exact f.hok.fresh (by show t.objs.size<=C;rw[mj];exact Ae _)
    . simp[cσ,O,JF,iC]
  have iz:tn 0 h₁:=T.keep _ _ _ ah λb _ o e=>dR b o (fX b o e);have pO:∀{H':Hp}{P:C4},(∀b∈L,H' b=none)->(P=[])->∀b∈L,U9 O P H' b:=λhn e b a=>by subst e;exact⟨hn b a,tQ b a,iU b a,.inl a,λy c e=>(R b a).2.2.2.2.1 y c (lQ y c e),λp U=>absurd (show p∈([]:C4)from U) (by simp)⟩
  have Z:∀s₃:Shared,s₃={ F with heap:=h₁,toks:=F.toks+([]:List (Str×Value)).length } ->
      codeAny (model X.prog X.w) X.A (.compLoop (.ListComp elt [⟨.Name x px,iter,ifs,0⟩] scope pos) 0 (.ref it) (.ref D) (compEnvC scope cl C X.env)) (compPost (model X.prog X.w) X.A X.xe use QQ (.ref D) C) s₃:=by
    rintro s₃ rfl;refine Ve (λn s'=>∃i o H' ys,Inv O [] (cσ idx σ o) H' s'/\tn i s'.heap/\(∀b∈L,H' b=none)/\W i n ys H') ?_ m0 ⟨0,none,_,[],I4,iz,ax,w0⟩;rintro n s5 ⟨i,o,H5,ys,I5,st5,fr5,w5⟩;obtain⟨hD,tw⟩:=am i n ys H5 w5;rcases tw with ⟨stop,q⟩|⟨go,step⟩
    . refine thn (T.done O rfl rfl rfl hc i [] s5 _ H5 _ I5 (pO fr5 rfl) st5 stop) λr s6 ⟨hr,I6⟩=>?_
      subst hr;obtain⟨m6,Er,_⟩:=I6.loc;have I7:Inv X O9 σ H5 s6:=f.call' (s':=s6) (ch:=L) I6.os I6.O8 I6.hok I6.bare λb a=>⟨(R b a).2.2.2.1,(R b a).2.1,(R b a).2.2.2.2.1,(R b a).2.2.2.2.2⟩;refine hend D C H5 s6 m6 I7 q Er I6.free ?_ ?_ lR λp U=>?_
      . rw[<- mj];exact Cn f.lt
      . rw[<- mj];exact f.sz
      . exact nM p.1 p.2 (f.pin p U).1
    . refine thn (T.item O rfl rfl rfl hc i [] s5 _ H5 _ I5 (pO fr5 rfl) st5 go) λr s6 ⟨u,hr,h6⟩=>?_
      subst hr;refine thn h6 λ_ s7 ⟨y,H7,I7,r7,y7,oR,Fi⟩=>?_;have Tg:=I7.pinned (pO Fi rfl) (T.obj _ _ oR);refine thn (VN (X:=O) (i:=0) S.nd rfl (.inl (lookup_relabel_local S.hx)) (.inr (lookup_relabel_local S.hx)) _ s7 _ H7 y u (λσ' H'=>σ'=cσ idx σ (some y)/\H'=H7) Tg r7 ⟨rfl,rfl⟩) λ_ s8 ⟨σ8,H8,I8,e8,Fx⟩=>?_;subst e8;subst Fx;have again:∀{H9:Hp}{s9:Shared}{af:List V},Inv O ([]++xz L s7.heap) (cσ idx σ (some y)) H9 s9->(∃m',m'<n/\W (i+1) m' af H9) ->
          ∃m,m<n/\∃i o H' ys,Inv O [] (cσ idx σ o) H' s9/\tn i s9.heap/\(∀b∈L,H' b=none)/\W i m ys H':=λ{H9 s9 af} I9 ⟨m',hm,w9⟩=>by
        refine⟨m',hm,i+1,some y,H9,af,I9.unpinned,T.keep _ _ _ oR λb a o e=>(I9.pin (b,o) (Ai _ (Ai _ (XM a e)))).1,λb a=>?_,w9⟩;obtain⟨o,e,d⟩:=T.obj _ _ oR b a;exact(I9.pin (b,o) (Ai _ (Ai _ (XM a e)))).2.1
      refine thn (ht _ _ _ _ _ s8 _ H8 _ I8 (step y H8 y7)) λok s9 ⟨H9,I9,q9⟩=>?_;cases ok with
      |false=>exact again I9 (by rw[Cs Bk]at q9;exact q9)
      |true=>rw[Ct rfl]at q9 ⊢;refine thn (he _ _ _ _ _ s9 _ H9 _ I9 q9) λv oX aH=>?_;obtain⟨z,CZ,Tj,b6,pL,ag,m',hm,b8⟩:=aH;refine thn (zC (X:=O) _ oX _ CZ (.ref D) [z] (.ref D) [v] (λ_ H'=>H'=upd CZ D (.lst (ys++[z]))) Tj rfl (.cons b6 .nil) ⟨D,ys,z,rfl,rfl,pL,ag,rfl⟩) λ_ Tr ⟨_,Wl,Ti,_,pU⟩=>?_;subst pU;exact again Ti ⟨m',hm,b8⟩
  exact codeAny_compStart_list (Z _ rfl) (T.self X.A 0 _ _ _ iz (Z _ rfl))
end
section
variable{X:Cx}{elt iter:Expr}{x:Str}{px:Pos}{ifs:List Expr}{scope:Scope}{cl:List (Str×Addr)}{pos:Pos}{caps:List Str}{idx:List Nat}{wi:TI}{tt:TT}{te:TE}
theorem Pj(S:VZ X x scope cl caps idx)(r:X.calm=true)(hi:PI X (.Name x px) iter wi)
  (ht:∀C s₀ H₀ ex,mF (JF X scope cl C (x::caps) s₀ H₀ ex) ifs tt) (he:∀C s₀ H₀ ex,PE (JF X scope cl C (x::caps) s₀ H₀ ex) elt te)
  (a:∀x,foldedSetIterable iter X.env x=pure x:=by intro _;rfl):PE X (.ListComp elt [⟨.Name x px,iter,ifs,0⟩] scope pos) (G0 X.K wi tt te idx):=by
 intro c s σ H Q I h;rw[eval_ListComp];refine Ue (use:=none) S r hi ht he I h rfl (λD C H' s' m I' q t l d f i j=>?_) a;show ∃m,s'.heap.Ns C m/\∀h',Heap.SameBut C s'.heap h'->EP X c σ Q (.ref D) { s' with heap:=h' };exact⟨m,t,λh' a=>⟨.ref D,H',I'.turned (t':=s'.toks) (λb o n e=>a.extBut b o n e) l (Ne.symm (Ne.symm d)) (.inr f) i j,rfl,q⟩⟩
theorem Oz{i:Nat}{y:Str}{f d:Pos}(S:VZ X x scope cl caps idx)(O:X.calm=true)(hi:PI X (.Name x px) iter wi)
  (ht:∀C s₀ H₀ ex,mF (JF X scope cl C (x::caps) s₀ H₀ ex) ifs tt) (he:∀C s₀ H₀ ex,PE (JF X scope cl C (x::caps) s₀ H₀ ex) elt te)
  (hN:X.N.Nodup) (hy:X.N[i]?=some y) (hx:Loc X.env.scope y) (hsw:swapsWith (.ListComp elt [⟨.Name x px,iter,ifs,0⟩] scope pos) (some (.Name y f)) d.line X.env=pure true)
  (hf:X.fn y=true∨X.env.scope.names.lookup y=some .local:=by first|exact .inl rfl|exact .inr rfl|assumption)
  (hs:∀x,foldedSetIterable iter X.env x=pure x:=by intro _;rfl):PS X (.Assign [.Name y f] (.ListComp elt [⟨.Name x px,iter,ifs,0⟩] scope pos) d) (nZ (G0 X.K wi tt te idx) (Gg i)):=by
 intro r s σ H D I h;rw[exec_Assign_Name_used _ _ _ _ hsw];refine Cr (wpAny_standAt (Cr ?_));show wpAny _ X.A (do let _ <- comprehension (.ListComp elt [⟨.Name x px,iter,ifs,0⟩] scope pos) scope X.env _ (newList []) false (eval iter X.env) (some (assign (.Name y f) X.env))) _ _ s;refine Cr (wpAny_mono (Ue (use:=some (assign (.Name y f) X.env)) (QQ:=λ_ s'=>SP X r D .next s') S O hi ht he I h rfl (λn C H' s' m I' q P J t z u F=>?_) hs) (λ_ s' Q=>Cu (Cu Q)) λ_ _ e=>e);show wpAny _ X.A (assign (.Name y f) X.env (.ref n)) (λ_ c=>∃m,c.heap.Ns C m/\∀h',Heap.SameBut C c.heap h'->SP X r D .next { c with heap:=h' }) _ s';refine wpAny_assign_Name (yQ I' hN hy hx (v:=.ref n) rfl (λc Tn ⟨a,hs,j⟩=>?_) hf);refine⟨m,P.sameBut hs ?_,λh' l=>⟨_,H',Tn.turned (t':=c.toks) (λb o L e=>l.extBut b o L e) J t (.inr z) u F,q⟩⟩;rcases j with rfl|j
 ·exact t
 ·exact Ne.symm (u _ _ j)
end
end L2
namespace D
open PySem PySem.Spec PyProof.Rows L2
section
variable{K:Aa}{Z:Ent}{env:En}{σ:St}{ρ ρ':C9}{B B':C8}{U hp':Hs}{H H':Hp}
theorem bK.set{i:Nat}{d:DV}{v:V}(S:bK K Z env σ ρ B U H)(r:ao K ρ B H d v):bK K Z (env.set i (.val d)) (σ.set i (some v)) ρ B U H where
 gr:=S.gr
 zb:=S.zb
 wo:=S.wo
 slot:=λj e h=>by
  by_cases b:j=i
  ·subst b;have c:j<env.length:=by have:=(Ac.mp h).1;simpa using this
   rw[Ar c]at h;cases h;exact⟨v,Ar (by rw[S.len];exact c),r⟩
  ·rw[Ak (Ne.symm b)]at h ⊢;exact S.slot j e h
 cQ:=λj ds h=>by
  by_cases b:j=i
  ·subst b;have c:j<env.length:=by have:=(Ac.mp h).1;simpa using this
   rw[Ar c]at h;cases h
  ·rw[Ak (Ne.symm b)]at h ⊢;exact S.cQ j ds h
 dH:=λj k ds es a f l m n=>by
  have o:∀{j:Nat}{ds:List DV},(env.set i (.val d))[j]?=some (.acc ds)->j≠i:=λ{j ds} h e=>by
   subst e;have c:j<env.length:=by have:=(Ac.mp h).1;simpa using this
   rw[Ar c]at h;cases h
  have b:=o f;have q:=o l;rw[Ak (Ne.symm b)]at f m;rw[Ak (Ne.symm q)]at l n;exact S.dH j k ds es a f l m n
 len:=by simp[S.len]
end
section
variable{X:Cx}{e a b c:Expr}{f fa fb:au}{ca cb:bO}{pos:Pos}{st:Stmt}{sts rest:List Stmt}{s s':aG}
theorem iG.after{K:Aa}{Z:Ent}{ρ ρ1:C9}{B B1:C8}{H H1:Hp}{i:Fl}{d:En}{h:Hs}{D:xY}(g:Gs K ρ B H ρ1 B1 H1)(k:iG K Z ρ B H i d h D):iG K Z ρ1 B1 H1 i d h D :=
 λσ' ρ' B' H' g' S=>k σ' ρ' B' H' (g.trans g') S
def Zf:aG:=λenv=>pure (.nx,env)
def Qx(f g:aG):aG:=λenv=>do
 let r <- f env
 match r.1 with
 |.nx=>g r.2
 |_=>pure r
def aP(c:bO)(f g:aG):aG:=λenv=>do if <- c env then f env else g env
def Q3(f:au):aG:=λenv=>do let d <- f env;pure (.rt d,env)
def wQ:aG:=λenv=>pure (.rt .non,env)
def Xa(f:au):aG:=λenv=>do let _ <- f env;pure (.nx,env)
def QG(i:Nat)(f:au):aG:=λenv=>do let d <- f env;pure (.nx,env.set i (.val d))
theorem QK:fJ X [] Zf:=pss_nil.imp λD σ H h=>by obtain⟨Z,env,ρ,B,U,l,d,j,S,e,k⟩:=h;obtain⟨i,rfl⟩:=Qk e;cases i;exact k σ ρ B H Gs.refl S
theorem kX{K:Aa}{D:xY}{σ:St}{H:Hp}(h:iJ K (Qx s s') D σ H):wD (iJ K s) (iJ K s') D σ H:=by
 obtain⟨Z,env,ρ,B,U,r,i,n,S,e,k⟩:=h;obtain⟨⟨o,aY⟩,hp1,q,m⟩:=bind_some e;refine⟨Z,env,ρ,B,U,o,aY,hp1,S,q,λσ' ρ' j H' g l=>?_⟩;cases o with
 |nx=>exact⟨Z,aY,ρ',j,hp1,r,i,n,l,m,k.after g⟩
 |rt d=>obtain⟨z,rfl⟩:=Qk m;cases z;exact k σ' ρ' j H' g l
 |bk=>obtain⟨z,rfl⟩:=Qk m;cases z;exact k σ' ρ' j H' g l
 |ct=>obtain⟨z,rfl⟩:=Qk m;cases z;exact k σ' ρ' j H' g l
def Qm(d:DS X st s)(i:fJ X rest s'):fJ X (st::rest) (Qx s s'):=(kM d i).imp λ_ _ _ h=>kX h
def Qr(d:DS X st s):fJ X [st] s:=Ox d
theorem Q9{x y:List Stmt}(u:DT X c ca)(r:fJ X x s)(t:fJ X y s'):DS X (.If c x y pos) (aP ca s s') :=
 (HF u r t).imp λD σ H o=>by
  obtain⟨Z,env,ρ,B,U,m,d,h,S,e,k⟩:=o;obtain⟨x,hp1,q,l⟩:=bind_some e;refine dX.run S q λρ1 i H1 n j=>?_;cases x with
  |true=>exact gP ⟨Z,env,ρ1,i,hp1,m,d,h,j,l,k.after (n.gs S.wo.rb)⟩
  |false=>exact gO ⟨Z,env,ρ1,i,hp1,m,d,h,j,l,k.after (n.gs S.wo.rb)⟩
theorem QI(h:DE X e f):DS X (.Return (some e) pos) (Q3 f) :=
 (LK h).imp λD σ H j=>by obtain⟨Z,env,ρ,B,U,r,i,o,S,e,k⟩:=j;obtain⟨d,hp1,l,m⟩:=bind_some e;obtain⟨z,rfl⟩:=Qk m;cases z;exact tD.run S l λv ρ1 B1 H1 n S1 q=>k σ ρ1 B1 H1 (n.gs S.wo.rb) S1 v q
theorem J6(h:DE X e f)(q:swapsWith e none pos.line X.env=pure false:=by rfl):DS X (.Expr e pos) (Xa f) :=
 (GQ h q).imp λD σ H j=>by obtain⟨Z,env,ρ,B,U,r,i,o,S,e,k⟩:=j;obtain⟨d,hp1,l,m⟩:=bind_some e;obtain⟨z,rfl⟩:=Qk m;cases z;exact tD.run S l λv ρ1 B1 H1 n S1 t=>k σ ρ1 B1 H1 (n.gs S.wo.rb) S1
theorem UP{K:Aa}{D:xY}{σ:St}{H:Hp}{i:Nat}{t:TE}(q:∀σ H Q,tD K f σ H Q->t σ H Q)(h:iJ K (QG i f) D σ H):nZ t (Gg i) D σ H:=by obtain⟨Z,env,ρ,B,U,u,j,o,S,e,k⟩:=h;obtain⟨d,hp1,l,m⟩:=bind_some e;obtain⟨z,rfl⟩:=Qk m;cases z;exact q _ _ _ (tD.run S l λv ρ1 B1 H1 n S1 r=>k _ ρ1 B1 H1 (n.gs S.wo.rb) (S1.set r))
theorem QL(i:Nat){x:Str}{d:Pos}(j:X.N.Nodup)(l:DE X e f)(hi:X.N[i]?=some x:=by rfl)(hx:Loc X.env.scope x:=by first|exact Or.inl rfl|exact Or.inr rfl)(m:swapsWith e (some (.Name x d)) pos.line X.env=pure false:=by rfl)
  (hf:X.fn x=true∨X.env.scope.names.lookup x=some .local:=by first|exact .inl rfl|exact .inr rfl|assumption):DS X (.Assign [.Name x d] e pos) (QG i f) :=
 (kL j hi hx l m hf).imp λ_ _ _ h=>UP (λ_ _ _ q=>q) h
abbrev h_:=DV->En->M En
def mH(K:Aa)(g:h_):TG:=λv σ H Q=>∃Z env ρ B U d h i,bK K Z env σ ρ B U H/\ao K ρ B H d v/\g d env U=some (h,i)/\∀σ' ρ' B' H',Gs K ρ B H ρ' B' H'->bK K Z h σ' ρ' B' i H'->Q σ' H'
def gN(i:Nat):h_:=λd env=>pure (env.set i (.val d))
theorem Yx(i:Nat){x:Str}(m:X.N.Nodup)(hi:X.N[i]?=some x:=by rfl)(hx:Loc X.env.scope x:=by first|exact Or.inl rfl|exact Or.inr rfl)(hf:X.fn x=true∨X.env.scope.names.lookup x=some .local:=by first|exact .inl rfl|exact .inr rfl|assumption):PG X (.Name x pos) (mH X.K (gN i)):=by intro l s σ H v u Q I r h;refine VN m hi hx hf l s σ H v u Q I r ?_;obtain⟨Z,env,ρ,B,U,d,j,n,S,o,e,k⟩:=h;obtain⟨rfl,rfl⟩:=Qk e;exact k _ ρ B H Gs.refl (S.set o)
def oF(K:Aa)(ρ:C9)(B:C8)(H:Hp)(ds:List DV)(J:It):Prop :=
 ∀ρ1 j h,Gs K ρ B H ρ1 j h->(∀b∈ρ1,j b)->(∀a,j a->h a≠none)->(∀(i:Nat)(d:DV),ds[i]?=some d->J.go i h/\∀x H',J.yld i h x H'->ao K ρ1 j H' d x/\(H'=h∨∃p o,h p=none/\H'=upd h p o))/\J.stop ds.length h
abbrev lV:=En->M (List DV)
def DN(K:Aa)(f:lV):TI:=λσ H R=>∃Z env ρ B U ds d,bK K Z env σ ρ B U H/\f env U=some (ds,d)/\∀J ρ' B' H',Gr K ρ B H ρ' B' H'->aW K ρ' B' d H'->oF K ρ' B' H' ds J->R J H'
def DI(X:Cx)(h d:Expr)(f:lV):Prop:=PI X h d (DN X.K f)
def wA:DV->M (List DV)
 |.tup ds=>pure ds
 |_=>failure
theorem ux{d:DV}{ds:List DV}{U i:Hs}(h:wA d U=some (ds,i)):d=.tup ds/\U=i:=by
 cases d with
 |tup xs=>obtain⟨rfl,rfl⟩:=Qk h;exact⟨rfl,rfl⟩
 |_=>cases h
theorem R0{K:Aa}{ρ:C9}{B:C8}{H:Hp}{ds:List DV}{a:Addr}{xs:List V}(nb:¬ B a)(m:SqL K H a xs)(rl:aj K ρ B H ds xs):oF K ρ B H ds (Itl K a):=λρ1 B1 H1 g _ _=>by have h:=g.rZ nb m;have j:=aj.gs g _ _ rl;refine⟨λi d e=>?_,xs,h,by rw[j.length];exact Ae _⟩;obtain⟨x,hx,r⟩:=j.get e;refine⟨⟨xs,x,h,hx⟩,λy H' ⟨l,q⟩=>?_⟩;subst l;have:=q xs h;rw[hx]at this;cases this;exact⟨r,.inl rfl⟩
def Zy(lo:Int)(n:Nat):List DV:=(List.range n).map λ(i:Nat)=>.int (lo+(i:Int))
theorem gM{K:Aa}{ρ:C9}{B:C8}{H:Hp}{lo:Int}{n:Nat}:oF K ρ B H (Zy lo n) (Itr lo n):=λρ1 B1 H1 g _ _=>by
 refine⟨λi d e=>?_,by show n<=_;simp[Zy]⟩;have hi:i<n:=by have:=(Ac.mp e).1;simpa [Zy]using this
 refine⟨hi,λy H' ⟨h,q⟩=>?_⟩;subst h q;have:d=.int (lo+i):=by simp[Zy,hi]at e;exact e.symm
 subst this;exact⟨ZJ,.inl rfl⟩
variable{tg iter:Expr}
def _root_.L2.PI.imp{j d:TI}(h:PI X tg iter j)(i:∀σ H R,d σ H R->j σ H R):PI X tg iter d:=λl s σ H R I q=>h l s σ H R I (i σ H R q)
def VX(j:Int):Bool:=decide (-(2 ^ 62)<=j/\j<2 ^ 62)
def ua:List DV->M (List DV)
 | [.int j]=>do QM (VX j);pure (Zy 0 j.toNat)
 |_=>failure
def Ux(f:bR):lV:=λenv=>do ua (<- f env)
theorem ub{ds i:List DV}{U d:Hs}(h:ua ds U=some (i,d)):∃j:Int,ds=[.int j]/\VX j=true/\i=Zy 0 j.toNat/\U=d:=by
 unfold ua at h;split at h
 ·obtain⟨u,hp1,l,m⟩:=bind_some h;obtain⟨n,rfl⟩:=QF l;obtain⟨rfl,rfl⟩:=Qk m;exact⟨_,rfl,n,rfl,rfl⟩
 ·cases h
theorem aj.ints1{K:Aa}{ρ:C9}{B:C8}{H:Hp}{j:Int}{vs:List V}(h:aj K ρ B H [.int j] vs):vs=[.int j]:=by unfold aj at h;obtain⟨x,r,rfl,i,d⟩:=h;unfold aj at d;rw[i.bf,d]
theorem aj.ints2{K:Aa}{ρ:C9}{B:C8}{H:Hp}{i j:Int}{vs:List V}(h:aj K ρ B H [.int i,.int j] vs):vs=[.int i,.int j]:=by unfold aj at h;obtain⟨x,r,rfl,d,l⟩:=h;rw[d.bf,l.ints1]
theorem Xp{x:Expr}{p:Pos}{f:bR}(r:Gl X "range")(t:X.mg "range" = none)(q:DA X [x] f)(v:starEach [x] X.env=[(false,eval x X.env)]:=by rfl):DI X tg (.Call (.Name "range" p) [x] [] pos) (Ux f) :=
 (vY r t q v).imp λσ H R i=>by obtain⟨Z,env,ρ,B,U,ds,u,S,e,k⟩:=i;obtain⟨d,hp1,l,m⟩:=bind_some e;obtain⟨j,rfl,o,rfl,rfl⟩:=ub m;refine dY.run S l λvs ρ1 B1 H1 n S1 y=>?_;have h:=Cz o;exact⟨j,y.ints1,h.1,h.2,k _ ρ1 B1 H1 n S1.wo gM⟩
def gA(b:DV->aG):List DV->aG
  | [],env=>pure (.nx,env)
  |d::ds,env=>do
    let r <- b d env
    match r.1 with
    |.nx=>gA b ds r.2
    |.ct=>gA b ds r.2
    |.bk=>pure (.nx,r.2)
    |.rt x=>pure (.rt x,r.2)
def M4{K:Aa}{ρ:C9}{B:C8}{H:Hp}{p:Addr}{o:HO}(rb:∀a∈ρ,B a)(h:H p=none):Gs K ρ B H ρ B (upd H p o):=(Gr.laid h).gs rb
end
section
variable{K:Aa}{Z:Ent}{env:En}{σ:St}{ρ ρ':C9}{B B':C8}{U hp':Hs}{H H':Hp}
def YX(B:C8)(p:Addr):Addr->Prop:=λa=>B a∨a=p
theorem Gr.banned{p:Addr}{o:HO}(h:H p=none)(kf:K.lookup p=none):Gr K ρ B H ρ (YX B p) (upd H p o) where
 pre:=Bz
 ban:=λ_ h=>.inl h
 new:=λa z=>z.elim .inl λe=>.inr (e▸⟨h,kf⟩)
 cA:=λ_ h=>.inl h
 keep:=λa u _ q=>by rw[Q4 (ZP q h)];exact q
 trk:=(Gr.laid (K:=K) (ρ:=ρ) (B:=B) h).trk
theorem aW.banned{p:Addr}{o:HO}(W:aW K ρ B U H)(h:H p=none)(kf:K.lookup p=none):aW K ρ (YX B p) U (upd H p o) where
 len:=W.len
 nd:=W.nd
 obj:=λi a u e q=>bB.gs ((Gr.banned h kf).gs W.rb) (Q4 (λz=>W.bt a (W.rb a (At e)) (z▸h))) (W.obj i a u e q)
 rb:=λa h=>.inl (W.rb a h)
 bt:=λa z q=>by
  have b:=(Gr.laid (K:=K) (ρ:=ρ) (B:=B) h).trk a q;rcases z with z|rfl
  ·exact W.bt a z b
  ·rw[Q5]at q;cases q
 bk:=λa z=>z.elim (W.bk a) λe=>e▸kf
theorem bK.newAcc{i:Nat}{p:Addr}{ds:List DV}{xs:List V}(S:bK K Z env σ ρ B U H)(h:H p=none)(kf:K.lookup p=none)(r:aj K ρ B H ds xs):bK K Z (env.set i (.acc ds)) (σ.set i (some (.ref p))) ρ (YX B p) U (upd H p (.lst xs)):=by
 have g:Gr K ρ B H ρ (YX B p) (upd H p (.lst xs)):=Gr.banned h kf;have W:=S.wo.banned (o:=.lst xs) h kf;have n:=S.grow g W;have J:p∉ρ:=λz=>S.wo.bt p (S.wo.rb p z) h;refine⟨n.gr,S.zb,W,λj e q=>?_,λj es q=>?_,λj k es t a u v l m=>?_,by simp[S.len]⟩
 ·by_cases b:j=i
  ·subst b;have f:j<env.length:=by have:=(Ac.mp q).1;simpa using this
   rw[Ar f]at q;cases q
  ·rw[Ak (Ne.symm b)]at q ⊢;exact n.slot j e q
 ·by_cases b:j=i
  ·subst b;have f:j<env.length:=by have:=(Ac.mp q).1;simpa using this
   rw[Ar f]at q;cases q;exact⟨p,xs,Ar (by rw[S.len];exact f),Q5,S.gr.trk p h,.inr rfl,J,aj.grow S.wo.rb g _ _ r⟩
  ·rw[Ak (Ne.symm b)]at q ⊢;exact n.cQ j es q
 ·have C:∀{j:Nat}{es:List DV},(env.set i (.acc ds))[j]?=some (.acc es)->j=i∨(j≠i/\env[j]?=some (.acc es)):=λ{j es} q=>by
   by_cases b:j=i
   ·exact .inl b
   ·rw[Ak (Ne.symm b)]at q;exact .inr ⟨b,q⟩
  have x:∀{j:Nat}{es:List DV},j≠i->env[j]?=some (.acc es)->(σ.set i (some (.ref p)))[j]?=some (some (.ref a))->a≠p:=λ{j es} b q z=>by rw[Ak (Ne.symm b)]at z;obtain⟨O,L,c,d,_⟩:=S.cQ j es q;rw[z]at c;cases c;exact ZP d h
  have y:∀{j:Nat}{es:List DV},j=i->(env.set i (.acc ds))[j]?=some (.acc es)->(σ.set i (some (.ref p)))[j]?=some (some (.ref a))->a=p:=λ{j es} e q z=>by
   subst e;have f:j<env.length:=by have:=(Ac.mp q).1;simpa using this
   rw[Ar (by rw[S.len];exact f)]at z;cases z;rfl
  rcases C u with c|⟨c,F⟩<;>rcases C v with d|⟨d,I⟩
  ·rw[c,d]
  ·exact absurd (y c u l) (x d I m)
  ·exact absurd (y d v m) (x c F l)
  ·rw[Ak (Ne.symm c)]at l;rw[Ak (Ne.symm d)]at m;exact S.dH j k es t a F I l m
theorem bK.j_{i:Nat}{a:Addr}{ds l:List DV}{c:List V}(S:bK K Z env σ ρ B U H)(u:env[i]?=some (.acc ds))(hσ:σ[i]?=some (some (.ref a)))(r:aj K ρ B H l c) :
  Gs K ρ B H ρ B (upd H a (.lst c))/\bK K Z (env.set i (.acc l)) σ ρ B U (upd H a (.lst c)):=by
 obtain⟨a',Y,J,e2,L,O,P,_⟩:=S.cQ i ds u;rw[hσ]at J;cases J;have trk:∀b,(upd H a (.lst c)) b=none->H b=none:=λb q=>by
  by_cases e:b=a
  ·subst e;rw[Q5]at q;cases q
  ·rw[Q4 e]at q;exact q
 have g:Gs K ρ B H ρ B (upd H a (.lst c)):=⟨Bz,λ_ h=>.inl h,λb o nb h=>by rw[Q4 (show b≠a from λz=>nb (by rw[z];exact O))];exact h,trk⟩;have Q:i<env.length:=(Ac.mp u).1;refine⟨g,⟨⟨S.gr.pre,S.gr.ban,S.gr.new,S.gr.cA,λb o nb h=>?_,λb q=>S.gr.trk b (trk b q)⟩,S.zb,⟨S.wo.len,S.wo.nd,λj b o x I=>?_,S.wo.rb,λb z q=>S.wo.bt b z (trk b q),S.wo.bk⟩,λj d q=>?_,λj es q=>?_,λj k es R b m n y C=>?_,by simp[S.len]⟩⟩
 ·have F:b≠a:=λz=>by rw[z,L]at h;cases h
  rw[Q4 F];exact S.gr.keep b o nb h
 ·exact bB.gs g (Q4 (show b≠a from λz=>P (by rw[<- z];exact At x))) (S.wo.obj j b o x I)
 ·have f:j≠i:=λz=>by subst z;rw[Ar Q]at q;cases q
  rw[Ak (Ne.symm f)]at q;obtain⟨v,m,n⟩:=S.slot j d q;exact⟨v,m,ao.gs g _ _ n⟩
 ·by_cases f:j=i
  ·subst f;rw[Ar Q]at q;cases q;exact⟨a,c,hσ,Q5,L,O,P,aj.gs g _ _ r⟩
  ·rw[Ak (Ne.symm f)]at q;obtain⟨b,ys,m,n,y,C,T,X⟩:=S.cQ j es q;have F:b≠a:=λz=>f (S.dH j i es ds a q u (z▸m) hσ);exact⟨b,ys,m,by rw[Q4 F];exact n,y,C,T,aj.gs g _ _ X⟩
 ·have t:∀{j:Nat}{es:List DV},(env.set i (.acc l))[j]?=some (.acc es)->∃es,env[j]?=some (.acc es):=λ{j es} q=>by
   by_cases f:j=i
   ·exact⟨ds,f▸u⟩
   ·rw[Ak (Ne.symm f)]at q;exact⟨es,q⟩
  obtain⟨_,x⟩:=t m;obtain⟨_,I⟩:=t n;exact S.dH j k _ _ b x I y C
theorem bK.disown{i:Nat}{ds:List DV}(S:bK K Z env σ ρ B U H)(n:env[i]?=some (.acc ds)):∃B',Gs K ρ B H ρ B' H/\bK K Z (env.set i (.val (.lst ds))) σ ρ B' U H:=by
 obtain⟨a,xs,t,x,y,Q,C,e6⟩:=S.cQ i ds n;have r:i<env.length:=(Ac.mp n).1;have g:Gs K ρ B H ρ (λb=>B b/\b≠a) H:=⟨Bz,λ_ h=>.inl h.1,λ_ _ _ h=>h,λ_ h=>h⟩;refine⟨λb=>B b/\b≠a,g,⟨⟨S.gr.pre,λb z=>⟨S.gr.ban b z,λq=>S.zb b z (q▸y)⟩,λb z=>S.gr.new b z.1,S.gr.cA,S.gr.keep,S.gr.trk⟩,S.zb,
  ⟨S.wo.len,S.wo.nd,λj b o O P=>bB.gs g rfl (S.wo.obj j b o O P),λb z=>⟨S.wo.rb b z,λq=>C (q▸z)⟩,λb z=>S.wo.bt b z.1,λb z=>S.wo.bk b z.1⟩,λj d q=>?_,λj es q=>?_,λj k es F b e f l m=>?_,by simp[S.len]⟩⟩
 ·by_cases c:j=i
  ·subst c;rw[Ar r]at q;cases q;exact⟨_,t,jx (λz=>z.2 rfl) (SqL.of x) (aj.gs g _ _ e6)⟩
  ·rw[Ak (Ne.symm c)]at q;obtain⟨v,e,f⟩:=S.slot j d q;exact⟨v,e,ao.gs g _ _ f⟩
 ·have c:j≠i:=λz=>by subst z;rw[Ar r]at q;cases q
  rw[Ak (Ne.symm c)]at q;obtain⟨b,ys,e,f,l,m,I,J⟩:=S.cQ j es q;have L:b≠a:=λz=>c (S.dH j i es ds a q n (z▸e) t);exact⟨b,ys,e,f,l,⟨m,L⟩,I,aj.gs g _ _ J⟩
 ·have u:∀{j:Nat}{es:List DV},(env.set i (.val (.lst ds)))[j]?=some (.acc es)->env[j]?=some (.acc es):=λ{j es} q=>by
   have c:j≠i:=λz=>by subst z;rw[Ar r]at q;cases q
   rw[Ak (Ne.symm c)]at q;exact q
  exact S.dH j k _ _ b (u e) (u f) l m
end
section
variable{X:Cx}{e a b c:Expr}{f fa fb:au}{ca cb:bO}{pos:Pos}{st:Stmt}{sts rest:List Stmt}{s s':aG}
def n_(i:Nat):aG:=λenv=>pure (.nx,env.set i (.acc []))
theorem N6(i:Nat){x:Str}{j d:Pos}(n:X.N.Nodup)(hi:X.N[i]?=some x:=by rfl)(hx:Loc X.env.scope x:=by first|exact Or.inl rfl|exact Or.inr rfl)(q:swapsWith (.List [] d) (some (.Name x j)) pos.line X.env=pure false:=by rfl)
  (hf:X.fn x=true∨X.env.scope.names.lookup x=some .local:=by first|exact .inl rfl|exact .inr rfl|assumption):DS X (.Assign [.Name x j] (.List [] d) pos) (n_ i) :=
 (kL n hi hx (Ky pa_nil).kf q hf).imp λD σ H m=>by obtain⟨Z,env,ρ,B,U,r,l,o,S,e,k⟩:=m;obtain⟨z,rfl⟩:=Qk e;cases z;refine⟨A5 _,λp h kf=>?_⟩;have kp:=kf p _ Q5;exact k _ ρ _ _ ((Gr.banned h kp).gs S.wo.rb) (S.newAcc h kp aj.nil)
def Ul(i:Nat)(env:En):En:=match env[i]? with
 |some (.acc ds)=>env.set i (.val (.lst ds))
 |_=>env
def Xu(i:Nat)(f:aG):aG:=λenv=>f (Ul i env)
theorem kU{K:Aa}{i:Nat}{D:xY}{σ:St}{H:Hp}(h:iJ K (Xu i s) D σ H):iJ K s D σ H:=by
  obtain⟨Z,env,ρ,B,U,m,j,l,S,e,k⟩:=h;cases q:env[i]? with
  |none=>exact⟨Z,env,ρ,B,U,m,j,l,S,by simpa [Xu,Ul,q]using e,k⟩
  |some z =>
    cases z with
    |un=>exact⟨Z,env,ρ,B,U,m,j,l,S,by simpa [Xu,Ul,q]using e,k⟩
    |val d=>exact⟨Z,env,ρ,B,U,m,j,l,S,by simpa [Xu,Ul,q]using e,k⟩
    |acc ds=>obtain⟨n,g,o⟩:=S.disown q;exact⟨Z,_,ρ,n,U,m,j,l,o,by simpa [Xu,Ul,q]using e,k.after g⟩
def zj(i:Nat)(h:DS X st s):DS X st (Xu i s):=L2.PS.imp h λ_ _ _ q=>kU q
def UO(i:Nat)(f:au):aG:=λenv=>do
 let d <- f env
 match env[i]? with
 |some (.acc ds)=>if ds.length<lim then pure (.nx,env.set i (.acc (ds++[d])))else failure
 |_=>failure
theorem ga(i:Nat){x:Str}{r u:Pos}(he:DE X e f)(hi:X.N[i]?=some x:=by rfl)(hv:Vis X.env.scope x:=by first|exact Or.inl rfl|exact Or.inr (Or.inl rfl)|exact Or.inr (Or.inr rfl))
    (hd:(x==("__debug__" : Str))=false:=by decide) (hcd:(x==("__classdict__" : Str))=false:=by decide)
    (hs:∀t,PE X (.Call (.Attribute (.Name x r) "append" u) [e] [] pos) t->PS X (.Expr (.Call (.Attribute (.Name x r) "append" u) [e] [] pos) pos) (wO t):=by intro _ h;exact GQ h)
    (hb:∀(t:TE) (P:TA),PE X (.Name x r) t->PA X [e] P->PE X (.Call (.Attribute (.Name x r) "append" u) [e] [] pos) (tBM X.K "list" GR t P):=by intro _ _ n I;exact w6 PySem.F.plainAttrs_list PySem.F.slot_list_append PySem.F.type_list_append zC n I)
    (hst:starEach [e] X.env=(false,eval e X.env)::starEach [] X.env:=by rfl):DS X (.Expr (.Call (.Attribute (.Name x r) "append" u) [e] [] pos) pos) (UO i f) :=
  L2.PS.imp (hs _ (hb _ _ (KA hi hv hd hcd) (jw he pa_nil hst))) λD σ H R=>by
    obtain⟨Z,env,ρ,B,U,C,j,m,S,e,k⟩:=R;obtain⟨d,hp1,T,l⟩:=bind_some e;cases q:env[i]? with
    |none=>rw[q]at l;cases l
    |some z =>
      rw[q]at l;cases z with
      |un=>cases l
      |val _=>cases l
      |acc ds =>
        by_cases L:ds.length<lim
        . have y:(pure (Fl.nx,env.set i (.acc (ds++[d]))):M (Fl×En)) hp1=some ((C,j),m):=by
            have:(if ds.length<lim then pure (Fl.nx,env.set i (.acc (ds++[d])))else failure:M (Fl×En)) hp1=some ((C,j),m):=l
            rwa [Ct L]at this
          obtain⟨z,rfl⟩:=Qk y;cases z;obtain⟨a,xs,n,I,_⟩:=S.cQ i ds q;refine⟨_,n,.inl ⟨rfl,xs,SqL.of I⟩,?_⟩;refine tD.run S T λv ρ1 B1 H1 Y S1 r1=>?_;obtain⟨a',O,o,J,_,_,_,rl⟩:=S1.cQ i ds q;rw[n]at o;cases o;obtain⟨g2,Q⟩:=S1.j_ q n (aj.append rl (aj.one r1));exact⟨a,O,v,rfl,rfl,J,by rw[<- rl.length];exact Av L xh,k _ ρ1 B1 _ ((Y.gs S.wo.rb).trans g2) Q⟩
        . have:(if ds.length<lim then pure (Fl.nx,env.set i (.acc (ds++[d])))else failure:M (Fl×En)) hp1=some ((C,j),m):=l
          rw[Cs L]at this;cases this
def uR:Sl->Sl
 |.val d=>.val d
 |_=>.un
def cE(idx:List Nat)(env:En)(d:DV):En:=.val d::idx.map λi=>uR ((env[i]?).getD .un)
def nH:bO:=λ_=>pure true
variable{elt iter:Expr}{x:Str}{px:Pos}{ifs:List Expr}{scope:Scope}{cl:List (Str×Addr)}{caps:List Str}{idx:List Nat}{src:lV}{te:bO}
theorem cσ_ok{K:Aa}{Z:Ent}{env:En}{σ:St}{ρ ρ1:C9}{B l:C8}{U hp1:Hs}{H m:Hp}{d:DV}{v:V}(S:bK K Z env σ ρ B U H)(g:Gs K ρ B H ρ1 l m)(W:aW K ρ1 l hp1 m)(r:ao K ρ1 l m d v) :
    bK K ⟨ρ1,l,m⟩ (cE idx env d) (cσ idx σ (some v)) ρ1 l hp1 m:=by
  refine⟨Gr.refl,W.bt,W,λi e h=>?_,λi es h=>?_,λi j es o a h=>?_,by simp[cE,cσ]⟩
  . cases i with
    |zero =>
      have:d=e:=by simpa [cE]using h
      subst this;exact⟨v,by simp[cσ],r⟩
    |succ i =>
      cases q:idx[i]? with
      |none=>simp[cE,q]at h
      |some k =>
        have h':uR ((env[k]?).getD .un)=.val e:=by simpa [cE,q]using h
        cases z:env[k]? with
        |none=>rw[z]at h';cases h'
        |some C =>
          rw[z]at h';cases C with
          |un=>cases h'
          |acc _=>cases h'
          |val n =>
            have:n=e:=by simpa [uR]using h'
            subst this;obtain⟨u,t,y⟩:=S.slot k n z;exact⟨u,by simp[cσ,q,t],ao.gs g _ _ y⟩
  . exfalso
    cases i with
    |zero=>simp[cE]at h
    |succ i =>
      cases q:idx[i]? with
      |none=>simp[cE,q]at h
      |some k =>
        have h':uR ((env[k]?).getD .un)=.acc es:=by simpa [cE,q]using h
        cases z:(env[k]?).getD .un with
        |un=>rw[z]at h';cases h'
        |acc _=>rw[z]at h';cases h'
        |val _=>rw[z]at h';cases h'
  . exfalso
    cases i with
    |zero=>simp[cE]at h
    |succ i =>
      cases q:idx[i]? with
      |none=>simp[cE,q]at h
      |some k =>
        have h':uR ((env[k]?).getD .un)=.acc es:=by simpa [cE,q]using h
        cases z:(env[k]?).getD .un with
        |un=>rw[z]at h';cases h'
        |acc _=>rw[z]at h';cases h'
        |val _=>rw[z]at h';cases h'
def oN(X:Cx)(ifs:List Expr)(t:bO):Prop:=mF X ifs (dX X.K t)
theorem K9:oN X [] nH:=λh s σ H Q I i=>by obtain⟨Z,env,ρ,B,U,d,j,S,e,k⟩:=i;obtain⟨rfl,rfl⟩:=Qk e;exact Ov h s σ H Q I (k ρ B H Gr.refl S.wo)
def XC{c:Expr}(h:DT X c te):oN X [c] te:=Ou h
def ZH(n:Nat)(h:aG):List DV->M DV:=λds=>do
 let r <- h (ds.map .val++List.replicate (n-ds.length) .un)
 match r.1 with
 |.nx=>pure .non
 |.rt d=>pure d
 |_=>failure
def fL(K:Aa)(n:Nat)(F:Ea):Sp:=λvs H Q _=>vs.length=n/\∃ρ B U ds d h,aW K ρ B U H/\aj K ρ B H ds vs/\F ds U=some (d,h)/\fB K ρ B H d h Q
structure Has(P:Program)(w:World)(K:Aa)(mg:C5)(O8:Heap)(x:Str)(k n:Nat)(F:Ea):Prop where
 ex:∃(g:Addr)(fd:FuncData)(ps:List Str),X2 P w K mg O8 CX0 k g fd ps (fL K n F)/\Binds K fd ps []/\PySem.W.keepIn K (.ref g)=true/\mg x=some (.ref g)
theorem zH{K:Aa}{ρ:C9}{B:C8}{U:Hs}{H:Hp}{ds:List DV}{vs:List V}{N:List Str}(W:aW K ρ B U H)(r:aj K ρ B H ds vs) :
  bK K ⟨ρ,B,H⟩ (ds.map .val++List.replicate (N.length-ds.length) .un) (L2.Yr N vs) ρ B U H:=by
 have o:=r.length;have at_:∀{i:Nat}{z:Sl},(ds.map Sl.val++List.replicate (N.length-ds.length) Sl.un)[i]?=some z->z=.un∨∃d,ds[i]?=some d/\z=.val d:=λ{i z} h=>by
  by_cases hi:i<ds.length
  ·rw[Ag (by simpa using hi),Bh,Ab hi]at h;cases h;exact .inr ⟨_,Ab hi,rfl⟩
  ·rw[Ap (by simpa using hi),List.getElem?_replicate]at h;split at h
   ·cases h;exact .inl rfl
   ·cases h
 refine⟨Gr.refl,W.bt,W,λi d h=>?_,λi es h=>?_,λi j es m a h=>?_,by unfold L2.Yr;simp;lia⟩
 ·rcases at_ h with z|⟨d',q,z⟩
  ·cases z
  ·cases z;obtain⟨v,l,n⟩:=r.get q;refine⟨v,?_,n⟩;unfold L2.Yr;have hi:i<vs.length:=(Ac.mp l).1;rw[Ag (by simpa using hi),Bh,l];rfl
 ·rcases at_ h with z|⟨d',q,z⟩<;>cases z
 ·rcases at_ h with z|⟨d',q,z⟩<;>cases z
theorem gy{P:Program}{w:World}{K:Aa}{mg:C5}{O8:Heap}{x:Str}{i:Stmt}{g:Addr}{fd:FuncData}{N ps:List Str}{k:Nat}{l:aG}(F:Fun K x x i g fd)(t:QS N ps (Qs i))(z:mg x=some (.ref g))
  (hb:∀(kV o J:Value)(u:Option Addr)(j ct:Value)(us:List Value),us.length=ps.length->bindArgs (PySem.W.fnOf x x (Z4 i) (Zw i) (Qs i) .none kV o J u j ct) ⟨us,[]⟩=pure (ps.zip us))
  (h:∀(j:Value)(A:Around)(outer:List Env)(s:Shared)(H:Hp)(E:XK),Room k (A.deeper (envOfC x (Qs i) s.heap.objs.size g j))->fJ (jb CX0 P w K mg O8 N x (Qs i) g j A outer s H E).nox (Zw i) l) :
  Has P w K mg O8 x (k+1) ps.length (ZH N.length l):=by
 refine⟨g,fd,ps,F.ok t (λvs H Q E h=>h.1) (λj A outer s H vs Q E I sp=>?_),F.binds hb,F.kp,z⟩;obtain⟨O,ρ,B,U,ds,d,C,W,r,e,k⟩:=sp;obtain⟨⟨q,m⟩,hp1,y,n⟩:=bind_some e;refine⟨_,h j A outer s H E I,⟨ρ,B,H⟩,_,ρ,B,U,q,m,hp1,zH W r,y,λσ' ρ' B' H' g' S'=>?_⟩;cases q with
 |nx=>obtain⟨rfl,rfl⟩:=Qk n;exact k .non ρ' B' H' S'.gr S'.wo XR
 |rt x=>obtain⟨rfl,rfl⟩:=Qk n;exact λv L=>k v ρ' B' H' S'.gr S'.wo L
 |bk=>cases n
 |ct=>cases n
def Qu(n:Nat)(F:Ea)(a:bR):au:=λenv=>do
 let ds <- a env
 QM (decide (ds.length=n))
 F ds
theorem QB{y:Str}{k j n:Nat}{F:Ea}{e:Expr}{es:List Expr}{fa:bR}{p:Pos}(h:Has X.prog X.w X.K X.mg X.O8 y j n F)(T:Room k X.A)(L:j<=k)(hx:Xf CX0 X E0)(C:DA X (e::es) fa)(J:Gl X y:=by rfl)
  (hdb:(y==("__debug__" : Str))=false:=by decide) (he:starEach (e::es) X.env=(false,eval e X.env)::starEach es X.env:=by rfl) (hpl:(backTo pos (starEach es X.env)).any (·.1)=false:=by rfl):DE X (.Call (.Name y p) (e::es) [] pos) (Qu n F fa):=by
 obtain⟨g,fd,ps,o,I,O,R⟩:=h.ex;refine L2.PE.imp (Pn o (T.mono L) J R O I .nil hx C hdb he hpl) λσ H Q q=>?_;obtain⟨Z,env,ρ,B,U,d,i,S,e,k⟩:=q;obtain⟨ds,hp1,r,t⟩:=bind_some e;obtain⟨_,hp2,u,v⟩:=bind_some t;obtain⟨P,rfl⟩:=QF u;refine dY.run S r λvs ρ1 m H1 z S1 l=>?_;refine⟨by rw[Bg,<- l.length];exact Cz P,ρ1,m,hp1,ds,d,i,S1.wo,by rw[Bg];exact l,v,k.after z⟩
end
section
variable{X:Cx}{e a b c:Expr}{f fa fb fc:au}{ca cb:bO}{pos:Pos}
def Yc(C:Int->Int->Bool)(g:Int->Int->DV):DV->DV->M DV
 |.int i,.int j=>if C i j then pure (g i j)else failure
 |_,_=>failure
theorem zr{C:Int->Int->Bool}{g:Int->Int->DV}{x y d:DV}{U l:Hs}(h:Yc C g x y U=some (d,l)):∃i j,x=.int i/\y=.int j/\C i j=true/\d=g i j/\U=l:=by
 unfold Yc at h;split at h
 ·rename_i i j;by_cases m:C i j=true
  ·rw[Ct m]at h;obtain⟨rfl,rfl⟩:=Qk h;exact⟨i,j,rfl,rfl,m,rfl,rfl⟩
  ·rw[Cs m]at h;cases h
 ·cases h
theorem VM{g:Value->Value->Sem Value}{C:Int->Int->Bool}{P:Int->Int->Prop}{q:Int->Int->Int}(o:OpR X g (rI P λi j=>.int (q i j)))(m:∀i j,C i j=true->P i j):P2 X g (Yc C λi j=>.int (q i j)):=by intro l s σ H x y v u Q I rx ry h;refine o l s σ H x y v u Q I rx ry ?_;obtain⟨ρ,B,U,F,J,d,r,W,t,z,e,k⟩:=h;obtain⟨i,j,rfl,rfl,n,rfl,rfl⟩:=zr e;exact⟨i,j,t.bf,z.bf,m i j n,k _ ρ B H Gr.refl W ZJ⟩
theorem Pr{g:Value->Value->Sem Value}{q:Int->Int->Int}(m:OpR X g (rI0 λi j=>.int (q i j))):P2 X g (Yc (λ_ _=>true) λi j=>.int (q i j)):=by intro l s σ H x y v u Q I rx ry h;refine m l s σ H x y v u Q I rx ry ?_;obtain⟨ρ,B,U,t,z,d,n,W,o,r,e,k⟩:=h;obtain⟨i,j,rfl,rfl,C,rfl,rfl⟩:=zr e;exact⟨i,j,o.bf,r.bf,k _ ρ B H Gr.refl W ZJ⟩
theorem VL{g:Value->Value->Sem Value}{q:Int->Int->Bool}(m:OpR X g (rI0 λi j=>.bl (q i j))):P2 X g (Yc (λ_ _=>true) λi j=>.bl (q i j)):=by intro l s σ H x y v u Q I rx ry h;refine m l s σ H x y v u Q I rx ry ?_;obtain⟨ρ,B,U,t,z,d,n,W,o,r,e,k⟩:=h;obtain⟨i,j,rfl,rfl,C,rfl,rfl⟩:=zr e;exact⟨i,j,o.bf,r.bf,k _ ρ B H Gr.refl W J1⟩
def wH(i j:Int):Bool:=decide ((-(2 ^ 64)<i/\i<2 ^ 64)∨(-(2 ^ 64)<j/\j<2 ^ 64))
def wJ(_ j:Int):Bool:=decide (0<j/\j<1073741824)
def wI(_ j:Int):Bool:=decide (0<j)
def Iz(i j:Int):Bool:=decide (0<=j/\j<=1000000/\i.natAbs<2 ^ 64)
def qb:DV->DV->M DV:=Yc (λ_ _=>true) λi j=>.int (i-j)
def Yh:DV->DV->M DV:=Yc wH λi j=>.int (i * j)
def jc:DV->DV->M DV:=Yc wJ λi j=>.int (i / j)
def QO:DV->DV->M DV:=Yc wI λi j=>.int (i % j)
def Ji:DV->DV->M DV:=Yc Iz λi j=>.int (i ^ j.toNat)
def cj:DV->DV->M DV:=Yc (λ_ _=>true) λi j=>.bl (decide (i<j))
def d9:DV->DV->M DV:=Yc (λ_ _=>true) λi j=>.bl (decide (i<=j))
def eG:DV->DV->M DV:=Yc (λ_ _=>true) λi j=>.bl (decide (j<i))
def Fe:DV->DV->M DV:=Yc (λ_ _=>true) λi j=>.bl (decide (j<=i))
def xu:P2 X (binaryOp .Sub) qb:=Pr Mr
def YQ:P2 X (binaryOp .Mult) Yh:=VM Mt λi j h=>Cz (p:=(-(2 ^ 64)<i/\i<2 ^ 64)∨(-(2 ^ 64)<j/\j<2 ^ 64)) h
def kD:P2 X (binaryOp .FloorDiv) jc:=VM Px λi j h=>Cz (p:=0<j/\j<1073741824) h
def Q8:P2 X (binaryOp .Mod) QO:=VM Oe λ_ _ h=>Cz h
def Yk:P2 X (binaryOp .Pow) Ji:=VM Ms λi j h=>Cz (p:=0<=j/\j<=1000000/\i.natAbs<2 ^ 64) h
def ye:P2 X (compareOp .Lt) cj:=VL Ig
def rA:P2 X (compareOp .LtE) d9:=VL Ih
def vU:P2 X (compareOp .Gt) eG:=VL Ii
def wz:DV->M DV
 |.int i=>pure (.int (-i))
 |_=>failure
def JS(f:au):au:=λenv=>do wz (<- f env)
theorem X4(h:DE X a f):DE X (.UnaryOp .USub a pos) (JS f):=L2.PE.imp (HW M5 h) λσ H Q l=>by
 obtain⟨Z,env,ρ,B,U,d,o,S,e,k⟩:=l;obtain⟨x,hp1,m,j⟩:=bind_some e;refine tD.run S m λv ρ1 B1 H1 n S1 q=>?_;cases x with
 |int i=>obtain⟨rfl,rfl⟩:=Qk j;exact⟨i,q.bf,k _ ρ1 B1 H1 n S1.wo ZJ⟩
 |_=>cases j
theorem kC:OpR X (binaryOp .Add) (λx y H Q=>∃a b ys,x=.ref a/\y=.ref b/\SqT X.K H a []/\SqT X.K H b ys/\ys.length<=sizeLine/\Q (.ref b) H):=by
 intro J s σ H x y v u Q I rx ry h;obtain⟨a,b,ys,rfl,rfl,j,l,hz,q⟩:=h;cases rx;cases ry;obtain⟨d,t,o,_⟩:=I.tuple j;obtain⟨i,C,r,_⟩:=I.tuple l;obtain⟨m,F⟩:=I.fr;have z:d=[]:=by cases t;rfl
 subst z;exact add_tuples F (ko (g:=X.O8) (L:=X.env.locals)) o r (λ_=>⟨.ref b,H,I,rfl,q⟩) (λn=>absurd rfl n) (λn=>absurd rfl n) (by have:=C.length;simp;lia)
def QP:DV->DV->M DV
 |.int i,.int j=>pure (.int (i+j))
 |.tup xs,.tup ys=>do QM (Yp (xs++ys));pure (.tup (xs++ys))
 |.lst xs,.lst ys=>do QM (Yp (xs++ys));pure (.lst (xs++ys))
 |_,_=>failure
theorem Ro:OpR X (binaryOp .Add) (λx y H Q=>∃l b xs j,x=.ref l/\y=.ref b/\SqL X.K H l xs/\SqL X.K H b j/\xs.length+j.length<=sizeLine/\∀p,H p=none->Q (.ref p) (upd H p (.lst (xs++j)))):=by
 intro O9 s σ H x y v u Q I rx ry h;obtain⟨l,b,xs,j,rfl,rfl,hl,hb,hz,q⟩:=h;cases rx;cases ry;obtain⟨i,O,⟨⟨k1,cI,V_,n⟩,n1,J,r,z,R⟩,_⟩:=I.list hl;obtain⟨d,P,⟨⟨k2,Y,U_,o⟩,n2,L,t,C,U⟩,_⟩:=I.list hb;simp only at r z R t C U;subst r z R t C U;have Z:i.toArray++d.toArray=(i++d).toArray:=by simp
 have m:i.length+d.length<=sizeLine:=by rw[<- O.length,<- P.length];exact hz
 refine concat_meets (T := "list") ⟨_,J,rfl⟩ ⟨_,L,rfl⟩ noFill_list_add seq_list_add PySem.F.slot_list_add PySem.F.entry_list_add (PySem.F.args_list_add_2 _ _) (list_addW l b i.toArray d.toArray n1 n2 none none n o (by simpa using m)) ⟨J,L,?_⟩;rw[Z];exact⟨.ref _,_,I.lnew (t':=s.toks) (O.append P) (by rw[Am];exact hz),rfl,q _ I.fresh⟩
theorem QZ:P2 X (binaryOp .Add) QP:=by
 intro m s σ H x y v u Q I rx ry h;obtain⟨ρ,B,U,O,P,d,L,W,r,t,e,k⟩:=h;unfold QP at e;split at e
 ·obtain⟨rfl,rfl⟩:=Qk e;exact Oh m s σ H x y v u Q I rx ry ⟨_,_,r.bf,t.bf,k _ ρ B H Gr.refl W ZJ⟩
 ·rename_i xs ys;obtain⟨_,hp1,n,o⟩:=bind_some e;obtain⟨q,rfl⟩:=QF n;obtain⟨rfl,rfl⟩:=Qk o;obtain⟨a,vs,rfl,F,j,l1⟩:=r.tupI;obtain⟨b,i,rfl,J,l,l2⟩:=t.tupI;have hz:vs.length+i.length<=sizeLine:=by have:=Yq q;rw[Am]at this;rw[<- l1.length,<- l2.length];exact this
  by_cases z:vs=[]
  ·subst z;have:xs=[]:=by have:=l1.length;cases xs with|nil=>rfl|cons _ _=>simp at this
   subst this;exact kC m s σ H _ _ v u Q I rx ry ⟨a,b,i,rfl,rfl,j,l,by simp at hz;exact hz,k _ ρ B H Gr.refl W (YH J l l2)⟩
  ·refine Py m s σ H _ _ v u Q I rx ry ⟨a,b,vs,i,rfl,rfl,j,l,z,hz,λC=>?_,λC=>YC W (aj.append l1 l2) k⟩;subst C;have:ys=[]:=by have:=l2.length;cases ys with|nil=>rfl|cons _ _=>simp at this
   subst this;rw[Bg]at k;exact k _ ρ B H Gr.refl W (YH F j l1)
 ·rename_i xs ys;obtain⟨_,hp1,n,o⟩:=bind_some e;obtain⟨q,rfl⟩:=QF n;obtain⟨rfl,rfl⟩:=Qk o;obtain⟨a,vs,rfl,F,j,l1⟩:=r.bV;obtain⟨b,i,rfl,J,l,l2⟩:=t.bV;have hz:vs.length+i.length<=sizeLine:=by have:=Yq q;rw[Am]at this;rw[<- l1.length,<- l2.length];exact this
  exact Ro m s σ H _ _ v u Q I rx ry ⟨a,b,vs,i,rfl,rfl,j,l,hz,XF W (aj.append l1 l2) k⟩
 ·cases e
def pD:DV->Bool
 |.non=>true
 |_=>false
theorem Gu{K:Aa}{ρ:C9}{B:C8}{H:Hp}{d:DV}{v:V}(r:ao K ρ B H d v):decide (v=.non)=pD d:=by
 cases d with
 |non=>rw[r.dN];rfl
 |bl b=>rw[r.eO];rfl
 |int b=>rw[r.bf];rfl
 |str b=>rw[r.dM];rfl
 |tup b=>obtain⟨a,xs,rfl,_⟩:=r.tupI;rfl
 |lst b=>obtain⟨a,xs,rfl,_⟩:=r.bV;rfl
 |ref b=>obtain⟨a,rfl,_⟩:=r.lq;rfl
def isD:DV->DV->M DV
 |x,.non=>pure (.bl (pD x))
 |.bl p,.bl q=>pure (.bl (p==q))
 |_,_=>failure
def gL:DV->DV->M DV
 |x,.non=>pure (.bl (!pD x))
 |.bl p,.bl q=>pure (.bl (p != q))
 |_,_=>failure
theorem kF:P2 X (compareOp .Is) isD:=by
 intro l s σ H x y v u Q I rx ry h;obtain⟨ρ,B,U,n,o,d,m,W,i,j,e,k⟩:=h;unfold isD at e;split at e
 ·obtain⟨rfl,rfl⟩:=Qk e;refine Og l s σ H x y v u Q I rx ry ⟨j.dN,?_⟩;rw[Gu i];exact k _ ρ B H Gr.refl W J1
 ·obtain⟨rfl,rfl⟩:=Qk e;obtain rfl:=i.eO;obtain rfl:=j.eO;cases rx;cases ry;exact is_bool ⟨.bl _,H,I,rfl,k _ ρ B H Gr.refl W J1⟩
 ·cases e
theorem Ie:P2 X (compareOp .IsNot) gL:=by
 intro l s σ H x y v u Q I rx ry h;obtain⟨ρ,B,U,n,o,d,m,W,i,j,e,k⟩:=h;unfold gL at e;split at e
 ·obtain⟨rfl,rfl⟩:=Qk e;refine Pu l s σ H x y v u Q I rx ry ⟨j.dN,?_⟩;rw[Gu i];exact k _ ρ B H Gr.refl W J1
 ·obtain⟨rfl,rfl⟩:=Qk e;obtain rfl:=i.eO;obtain rfl:=j.eO;cases rx;cases ry;exact isnot_bool ⟨.bl _,H,I,rfl,k _ ρ B H Gr.refl W J1⟩
 ·cases e
theorem y4{K:Aa}{ρ:C9}{B:C8}{H:Hp}{ds:List DV}{xs:List V}{i:Int}{d:DV}(r:aj K ρ B H ds xs)(h:atI ds i=some d):∃x,atI xs i=some x/\ao K ρ B H d x:=by
  unfold atI at h ⊢;rw[<- r.length];cases q:ixN ds.length i with
  |none=>rw[q]at h;cases h
  |some j=>rw[q]at h;exact r.get h
def eZ:DV->DV->M DV
  |.tup ds,.int i=>match atI ds i with
    |some d=>pure d
    |none=>failure
  |.lst ds,.int i=>match atI ds i with
    |some d=>pure d
    |none=>failure
  |_,_=>failure
theorem wj:IxR X (lX X.K eZ):=by
  intro value slice O9 s σ H x y v u Q I rx ry h hsub;obtain⟨ρ,B,U,t,C,d,o,W,m,n,e,k⟩:=h;unfold eZ at e;split at e
  . rename_i ds i
    cases q:atI ds i with
    |none=>rw[q]at e;cases e
    |some d' =>rw[q]at e;obtain⟨rfl,rfl⟩:=Qk e;obtain⟨a,xs,rfl,r,j,l1⟩:=m.tupI;obtain⟨z,hz,l⟩:=y4 l1 q;exact Nz value slice O9 s σ H _ _ v u Q I rx ry ⟨a,xs,i,z,rfl,n.bf,j,hz,k _ ρ B H Gr.refl W l⟩ hsub
  . rename_i ds i
    cases q:atI ds i with
    |none=>rw[q]at e;cases e
    |some d' =>rw[q]at e;obtain⟨rfl,rfl⟩:=Qk e;obtain⟨a,xs,rfl,r,j,l1⟩:=m.bV;obtain⟨z,hz,l⟩:=y4 l1 q;exact Gy value slice O9 s σ H _ _ v u Q I rx ry ⟨a,xs,i,z,rfl,n.bf,j,hz,k _ ρ B H Gr.refl W l⟩ hsub
  . cases e
theorem CG(d:DE X a fa)(i:DE X b fb)(j:yW b:=by intro _ _;rfl):DE X (.Subscript a b pos) (Qf eZ fa fb):=L2.PE.imp (wZ wj d i j) λ_ _ _ h=>X8 h
end
mutual
def toP:DV->PyData
 |.non=>.none
 |.bl b=>.bool b
 |.int i=>.int i
 |.str x=>.str x
 |.tup xs=>.tuple (aV xs)
 |.lst xs=>.list (aV xs)
 |.ref _=>.none
def aV:List DV->List PyData
 | []=>[]
 |d::ds=>toP d::aV ds
end
mutual
def yI:DV->Bool
 |.ref _=>false
 |.tup xs=>cW xs
 |.lst xs=>cW xs
 |_=>true
def cW:List DV->Bool
 | []=>true
 |d::ds=>yI d&&cW ds
end
section
variable{X:Cx}{O9:C4}{σ:St}{H:Hp}{s:Shared}{ρ:C9}{B:C8}
mutual
theorem xD(I:Inv X O9 σ H s):∀(d:DV)(v:V)(u:Value),ao X.K ρ B H d v->RelV v u->yI d=true->∃h,Reads s.heap u (toP d) h
  |.non,_,_,r,c,_=>by obtain rfl:=r.dN;cases c;exact⟨[],by unfold toP;exact .none⟩
  |.bl b,_,_,r,c,_=>by obtain rfl:=r.eO;cases c;exact⟨[],by unfold toP;exact .bool b⟩
  |.int i,_,_,r,c,_=>by obtain rfl:=r.bf;obtain⟨t,rfl⟩:=c;exact⟨[],by unfold toP;exact .int i t⟩
  |.str x,_,_,r,c,_=>by obtain rfl:=r.dM;obtain⟨t,rfl⟩:=c;exact⟨[],by unfold toP;exact .str x t⟩
  |.ref _,_,_,_,_,n=>by cases n
  |.tup ds,_,_,r,c,n=>by obtain⟨a,xs,rfl,_,m,rl⟩:=r.tupI;cases c;obtain⟨f,l,⟨o,e,j,k,hd⟩,_⟩:=I.tuple m;obtain⟨h,q⟩:=cL I ds xs f rl l (by unfold yI at n;exact n);exact⟨_,by unfold toP;exact reads_tuple_at e j hd (by simpa using q)⟩
  |.lst ds,_,_,r,c,n=>by obtain⟨a,xs,rfl,_,m,rl⟩:=r.bV;cases c;obtain⟨f,l,⟨o,k,e,j,_,hd⟩,_⟩:=I.list m;obtain⟨h,q⟩:=cL I ds xs f rl l (by unfold yI at n;exact n);exact⟨_,by unfold toP;exact reads_list_at e j hd (by simpa using q)⟩
theorem cL(I:Inv X O9 σ H s):∀(ds:List DV)(xs:List V)(us:List Value),aj X.K ρ B H ds xs->Vals xs us->cW ds=true->∃b,ReadsAll s.heap us (aV ds) b
  | [],_,_,r,a,_=>by unfold aj at r;subst r;cases a;exact⟨[],by unfold aV;exact .nil⟩
  |d::ds,_,_,r,a,n=>by
    unfold aj at r;obtain⟨x,xs,rfl,i,j⟩:=r;cases a with
    |cons f h=>unfold cW at n;rw[A4]at n;obtain⟨b,c⟩:=xD I d x _ i f n.1;obtain⟨bs,e⟩:=cL I ds xs _ j h n.2;exact⟨_,by unfold aV;exact .cons c e⟩
end
end
def fM(d:DV):Bool:=yI d&&SeqAt.shaped (toP d)
def mD:DV->DV->M DV:=λx y=>do QM (fM x&&fM y);pure (.bl (PyData.eqv (toP x) (toP y)))
def sU:DV->DV->M DV:=λx y=>do QM (fM x&&fM y);pure (.bl (!PyData.eqv (toP x) (toP y)))
section
variable{X:Cx}{e a b c:Expr}{f fa fb fc:au}{ca cb:bO}{pos:Pos}
theorem wk(q:X.A.units+64<cLine):P2 X (compareOp .Eq) mD:=by intro F s σ H x y v u Q I rx ry h;obtain⟨ρ,B,U,j,l,d,o,W,z,C,e,k⟩:=h;obtain⟨_,hp1,m,n⟩:=bind_some e;obtain⟨i,rfl⟩:=QF m;obtain⟨rfl,rfl⟩:=Qk n;simp only[fM,A4]at i;obtain⟨J,r⟩:=xD I j x v z rx i.1.1;obtain⟨bs,t⟩:=xD I l y u C ry i.2.1;exact eq_dataH r t i.1.2 i.2.2 q ⟨.bl _,H,I,rfl,k _ ρ B H Gr.refl W J1⟩
def fK(K:Aa)(g:Ea):List V->Hp->VK->Prop:=λxs H Q=>∃ρ B U ds d h,aW K ρ B U H/\aj K ρ B H ds xs/\g ds U=some (d,h)/\fB K ρ B H d h Q
def QR(g:Ea)(a:bR):au:=λenv=>do g (<- a env)
theorem Uq{K:Aa}{g:Ea}{fa:bR}{σ:St}{H:Hp}{Q:VK}(h:tD K (QR g fa) σ H Q):tCB (fK K g) (dY K fa) σ H Q:=by obtain⟨Z,env,ρ,B,U,d,i,S,e,k⟩:=h;obtain⟨ds,hp1,l,m⟩:=bind_some e;exact dY.run S l λvs ρ1 j H1 n S1 o=>⟨ρ1,j,hp1,ds,d,i,S1.wo,o,m,k.after n⟩
theorem Zz{x:Str}{id:String}{g:Ea}{e:Expr}{es:List Expr}{fa:bR}{p:Pos}(j:Z5 X (.builtin id) (fK X.K g))(m:X.mg x=none)(o:bootBuiltins x=some (.builtin id))(i:DA X (e::es) fa)(l:Gl X x:=by rfl)(n:x ≠ "__name__" := by decide)(d:(x==("__debug__" : Str))=false:=by decide)
  (he:starEach (e::es) X.env=(false,eval e X.env)::starEach es X.env:=by rfl) (hpl:(backTo pos (starEach es X.env)).any (·.1)=false:=by rfl):DE X (.Call (.Name x p) (e::es) [] pos) (QR g fa) :=
 L2.PE.imp (UJ j l m o i n d he hpl) λ_ _ _ h=>Uq h
theorem qu{x:Str}{T:String}{g:Ea}{e:Expr}{es:List Expr}{fa:bR}{p:Pos}(j:Z5 X (.type T) (fK X.K g))(m:X.mg x=none)(o:bootBuiltins x=some (.type T))(i:DA X (e::es) fa)(l:Gl X x:=by rfl)(n:x ≠ "__name__" := by decide)(d:(x==("__debug__" : Str))=false:=by decide)
  (he:starEach (e::es) X.env=(false,eval e X.env)::starEach es X.env:=by rfl) (hpl:(backTo pos (starEach es X.env)).any (·.1)=false:=by rfl):DE X (.Call (.Name x p) (e::es) [] pos) (QR g fa) :=
 L2.PE.imp (vV j l m o i n d he hpl) λ_ _ _ h=>Uq h
theorem aj.cg{K:Aa}{ρ:C9}{B:C8}{H:Hp}{d:DV}{vs:List V}(h:aj K ρ B H [d] vs):∃v,vs=[v]/\ao K ρ B H d v:=by unfold aj at h;obtain⟨x,r,rfl,j,i⟩:=h;unfold aj at i;subst i;exact⟨x,rfl,j⟩
def vK:List DV->M DV
 | [.tup ds]=>pure (.int ds.length)
 | [.lst ds]=>pure (.int ds.length)
 |_=>failure
theorem CN:Z5 X (.builtin "len") (fK X.K vK):=by
 intro m s σ H xs us Q I r h;obtain⟨ρ,B,U,ds,d,n,W,rl,e,k⟩:=h;unfold vK at e;split at e
 ·obtain⟨rfl,rfl⟩:=Qk e;obtain⟨v,rfl,i⟩:=rl.cg;obtain⟨a,ys,rfl,_,j,l⟩:=i.tupI;exact XA m s σ H _ us Q I r ⟨a,ys,rfl,.inr j,by rw[<- l.length];exact k _ ρ B H Gr.refl W ZJ⟩
 ·obtain⟨rfl,rfl⟩:=Qk e;obtain⟨v,rfl,i⟩:=rl.cg;obtain⟨a,ys,rfl,_,j,l⟩:=i.bV;exact XA m s σ H _ us Q I r ⟨a,ys,rfl,.inl j,by rw[<- l.length];exact k _ ρ B H Gr.refl W ZJ⟩
 ·cases e
def Ku:List DV->M DV
 | [.int i,.int j]=>pure (.int (if j<i then j else i))
 |_=>failure
theorem CK(j:X.calm=true):Z5 X (.builtin "min") (fK X.K Ku):=by
 intro i s σ H xs us Q I r h;obtain⟨ρ,B,U,ds,d,l,W,rl,e,k⟩:=h;unfold Ku at e;split at e
 ·obtain⟨rfl,rfl⟩:=Qk e;exact vi j i s σ H xs us Q I r ⟨_,_,rl.ints2,k _ ρ B H Gr.refl W ZJ⟩
 ·cases e
def vD:List DV->M DV
 | [.int i]=>pure (.int i)
 | [.bl k]=>pure (.int (if k then 1 else 0))
 |_=>failure
theorem CP:Z5 X (.type "int") (fK X.K vD):=by
 intro i s σ H xs us Q I r h;obtain⟨ρ,B,U,ds,d,j,W,rl,e,k⟩:=h;unfold vD at e;split at e
 ·obtain⟨rfl,rfl⟩:=Qk e;exact yu i s σ H xs us Q I r (.inl ⟨_,rl.ints1,k _ ρ B H Gr.refl W ZJ⟩)
 ·obtain⟨rfl,rfl⟩:=Qk e;obtain⟨v,rfl,l⟩:=rl.cg;obtain rfl:=l.eO;exact yu i s σ H _ us Q I r (.inr ⟨_,rfl,k _ ρ B H Gr.refl W ZJ⟩)
 ·cases e
def rC:List DV->M DV
 | [.lst ds]=>pure (.tup ds)
 | [.tup ds]=>pure (.tup ds)
 |_=>failure
theorem SM:Z5 X (.type "tuple") (fK X.K rC):=by
 intro m s σ H xs us Q I r h;obtain⟨ρ,B,U,ds,d,n,W,rl,e,k⟩:=h;unfold rC at e;split at e
 ·obtain⟨rfl,rfl⟩:=Qk e;obtain⟨v,rfl,j⟩:=rl.cg;obtain⟨a,ys,rfl,_,i,l⟩:=j.bV;exact Xi m s σ H _ us Q I r ⟨a,ys,rfl,.inl ⟨i,YC W l k⟩⟩
 ·obtain⟨rfl,rfl⟩:=Qk e;obtain⟨v,rfl,j⟩:=rl.cg;obtain⟨a,ys,rfl,nb,i,l⟩:=j.tupI;exact Xi m s σ H _ us Q I r ⟨a,ys,rfl,.inr ⟨i,k _ ρ B H Gr.refl W (YH nb i l)⟩⟩
 ·cases e
def KS:DV->Option String
 |.non=>some "NoneType"
 |.bl _=>some "bool"
 |.int _=>some "int"
 |.str _=>some "str"
 |.tup _=>some "tuple"
 |.lst _=>some "list"
 |.ref _=>none
def oH(t T:String):Bool:=t==T||(t == "bool" && T == "int")
def jd(T:String)(f:au):au:=λenv=>do
 match KS (<- f env)with
 |some t=>pure (.bl (oH t T))
 |none=>failure
theorem MN{T:String}(L:T∈["int", "bool", "tuple", "str", "list"]):Z5 X (.builtin "isinstance") (λxs H Q=>∃ρ B d x t,xs=[x,.ty T]/\ao X.K ρ B H d x/\KS d=some t/\Q (.bl (oH t T)) H):=by
  intro O s σ H xs us Q I r h;obtain⟨ρ,B,d,x,t,rfl,n,l,q⟩:=h;obtain⟨u,P,rfl,m,F⟩:=G9 r;cases F;have i:∀tk,EP X O σ Q (.bool (oH t T)) { s with toks:=tk }:=λtk=>⟨.bl _,H,I.tok _,rfl,q⟩;have j:PySem.W.kitOne X.K (.type t) (.type T)=some (oH t T):=by
    have:t∈["NoneType", "bool", "int", "str", "tuple", "list"]:=by cases d<;>cases l<;>simp
    simp only[Ba,Bu,or_false]at this L;rcases this with rfl|rfl|rfl|rfl|rfl|rfl<;>rcases L with rfl|rfl|rfl|rfl|rfl<;>first|rfl|decide|with_unfolding_all rfl|kernel_rfl
  cases d with
  |non=>obtain rfl:=n.dN;cases l;cases m;exact PySem.W.kia_one PySem.W.kitx_none I.kIn True.intro j (λz=>nomatch z) i
  |bl b=>obtain rfl:=n.eO;cases l;cases m;exact PySem.W.kia_one PySem.W.kitx_bool I.kIn True.intro j (λz=>nomatch z) i
  |int b=>obtain rfl:=n.bf;cases l;obtain⟨tk,rfl⟩:=m;exact PySem.W.kia_one PySem.W.kitx_int I.kIn True.intro j (λz=>nomatch z) i
  |str b=>obtain rfl:=n.dM;cases l;obtain⟨tk,rfl⟩:=m;exact PySem.W.kia_one PySem.W.kitx_str I.kIn True.intro j (λz=>nomatch z) i
  |ref b=>cases l
  |tup b=>cases l;obtain⟨a,ys,rfl,_,J,_⟩:=n.tupI;cases m;obtain⟨C,_,⟨o,v,y,_⟩,_⟩:=I.tuple J;exact PySem.W.kia_one PySem.W.kitx_tuple I.kIn ⟨o,v,y⟩ j (λz=>nomatch z) i
  |lst b=>cases l;obtain⟨a,ys,rfl,_,J,_⟩:=n.bV;cases m;obtain⟨C,_,⟨o,k,v,y,_⟩,_⟩:=I.list J;exact PySem.W.kia_one PySem.W.kitx_list I.kIn ⟨o,v,y⟩ j (λz=>nomatch z) i
theorem uU{T:String}{p i:Pos}(C:X.mg "isinstance" = none)(m:X.mg (Str.ofString T)=none)(I:bootBuiltins (Str.ofString T)=some (.type T))(y:T∈["int", "bool", "tuple", "str", "list"])(h:DE X e f)(z:Gl X "isinstance" := by rfl)(l:Gl X (Str.ofString T):=by rfl)
    (hn:Str.ofString T ≠ "__name__" := by decide) (hdb:(Str.ofString T==("__debug__" : Str))=false:=by decide) (hs:starEach [e,.Name (Str.ofString T) i] X.env=(false,eval e X.env)::starEach [.Name (Str.ofString T) i] X.env:=by rfl)
    (hs2:starEach [.Name (Str.ofString T) i] X.env=(false,eval (.Name (Str.ofString T) i) X.env)::starEach [] X.env:=by rfl) (hpl:(backTo pos (starEach [.Name (Str.ofString T) i] X.env)).any (·.1)=false:=by rfl):DE X (.Call (.Name "isinstance" p) [e,.Name (Str.ofString T) i] [] pos) (jd T f) :=
  L2.PE.imp (UJ (MN y) z C boot_isinstance (jw h (jw (Pq (v:=.ty T) l m I rfl hn hdb) pa_nil hs2) hs) (by decide) (by decide) hs hpl) λσ H Q o=>by
    obtain⟨Z,env,ρ,B,U,d,F,S,e,k⟩:=o;obtain⟨x,hp1,r,j⟩:=bind_some e;refine tD.run S r λv ρ1 n H1 u S1 J=>?_;cases q:KS x with
    |none=>rw[q]at j;cases j
    |some t=>rw[q]at j;obtain⟨rfl,rfl⟩:=Qk j;exact⟨ρ1,n,x,v,t,rfl,J,q,k _ ρ1 n H1 u S1.wo J1⟩
def ZV(g g':DV->DV->M DV)(fa fb fc:au):au:=λenv=>do
 let x <- fa env
 let y <- fb env
 let z <- g x y
 if <- g_ z then
  let u <- fc env
  g' y u
 else pure (.bl false)
end
section
variable{X:Cx}{e a b c:Expr}{f fa fb fc:au}{ca cb:bO}{pos:Pos}
theorem Km{K:Aa}{g g':DV->DV->M DV}{σ:St}{H:Hp}{Q:VK}(h:tD K (ZV g g' fa fb fc) σ H Q):CW (lX K g) (lX K g') (tD K fa) (tD K fb) (tD K fc) σ H Q:=by
  obtain⟨Z,env,ρ,B,U,d,l,S,e,k⟩:=h;obtain⟨x,hp1,I,e⟩:=bind_some e;obtain⟨y,hp2,J,e⟩:=bind_some e;obtain⟨z,T,L,e⟩:=bind_some e;obtain⟨t,dJ,O,e⟩:=bind_some e;obtain⟨rfl,rfl⟩:=qg O;refine tD.run S I λv ρ1 B1 H1 n S1 Y=>tD.run S1 J λu ρ2 C H2 j S2 r=>?_;refine⟨ρ2,C,hp2,x,y,_,_,S2.wo,ao.grow S1.wo.rb j _ _ Y,r,L,λw ρ3 B3 H3 i W3 r3=>⟨t,r3.eO,?_⟩⟩;have m:=S2.grow i W3;cases t with
  |false=>obtain⟨rfl,rfl⟩:=Qk e;exact gO (k _ ρ3 B3 H3 (n.trans (j.trans i)) W3 J1)
  |true=>obtain⟨q,R,P,e6⟩:=bind_some e;refine gP (tD.run m P λp ρ4 F H4 o S4 r4=>?_);exact⟨ρ4,F,R,y,q,d,l,S4.wo,ao.grow m.wo.rb o _ _ (ao.grow S2.wo.rb i _ _ r),r4,e6,k.after (n.trans (j.trans (i.trans o)))⟩
theorem jR{j h:CmpOp}{g g':DV->DV->M DV}(y:P2 X (compareOp j) g)(i:P2 X (compareOp h) g')(q:DE X a fa)(r:DE X b fb)(t:DE X c fc)(u:lastMarks [j,h] [b,c]=false:=by with_unfolding_all rfl):DT X (.Compare a [j,h] [b,c] pos) (eB (ZV g g' fa fb fc)) :=
 L2.PT.imp (kN y i q r t u) λσ H Q l=>by obtain⟨Z,env,ρ,B,U,d,z,S,e,k⟩:=l;obtain⟨x,hp1,m,n⟩:=bind_some e;obtain⟨rfl,rfl⟩:=qg n;exact Km (tD.run S m λv ρ1 B1 H1 o S1 C=>⟨d,C.eO,k ρ1 B1 H1 o S1.wo⟩)
abbrev fO:=En->M (Option Int)
def iy(K:Aa)(f:fO):TO:=λσ H Q=>∃Z env ρ B U d h,bK K Z env σ ρ B U H/\f env U=some (d,h)/\wL K ρ B H h (Q d)
def DO(X:Cx)(e:Option Expr)(f:fO):Prop:=PO X e (iy X.K f)
def Q7:fO:=λ_=>pure none
def f9:DV->M Int
 |.int i=>pure i
 |_=>failure
theorem jE{d:DV}{c:Int}{U i:Hs}(h:f9 d U=some (c,i)):d=.int c/\U=i:=by
 cases d with
 |int b=>obtain⟨rfl,rfl⟩:=Qk h;exact⟨rfl,rfl⟩
 |_=>cases h
def QH(f:au):fO:=λenv=>do let i <- f9 (<- f env);pure (some i)
theorem Zu:DO X none Q7:=λh s σ H Q I i=>by obtain⟨Z,env,ρ,B,U,d,j,S,e,k⟩:=i;obtain⟨rfl,rfl⟩:=Qk e;exact O6 h s σ H Q I (k ρ B H Gr.refl S.wo)
theorem Q1(h:DE X e f):DO X (some e) (QH f):=λj s σ H Q I l=>by obtain⟨Z,env,ρ,B,U,d,t,S,e,k⟩:=l;obtain⟨x,hp1,m,n⟩:=bind_some e;obtain⟨i,hp2,o,q⟩:=bind_some n;obtain⟨rfl,rfl⟩:=jE o;obtain⟨rfl,rfl⟩:=Qk q;exact O5 h j s σ H Q I (tD.run S m λv ρ1 B1 H1 r S1 u=>⟨i,u.bf,k ρ1 B1 H1 r S1.wo⟩)
theorem iy.run{K:Aa}{f:fO}{Z:Ent}{env:En}{σ:St}{ρ:C9}{B:C8}{U hp1:Hs}{H:Hp}{d:Option Int}{Q:Option Int->Hp->Prop}(S:bK K Z env σ ρ B U H)(e:f env U=some (d,hp1))
  (k:∀ρ' B' H',Gr K ρ B H ρ' B' H'->bK K Z env σ ρ' B' hp1 H'->Q d H'):iy K f σ H Q :=
 ⟨Z,env,ρ,B,U,d,hp1,S,e,λρ' B' H' g W=>k ρ' B' H' g (S.grow g W)⟩
def JE(ds:List DV)(lo hi:Option Int):List DV:=(ds.drop (HT.sIx ds.length 0 lo)).take (HT.sIx ds.length ds.length hi-HT.sIx ds.length 0 lo)
theorem qm{K:Aa}{ρ:C9}{B:C8}{H:Hp}{ds:List DV}{xs:List V}{lo hi:Option Int}(r:aj K ρ B H ds xs):aj K ρ B H (JE ds lo hi) (Uf xs lo hi):=by unfold JE Uf;rw[r.length];exact aj.take _ (aj.drop _ r)
def oW(d:DV)(lo hi:Option Int):M DV:=match d with
 |.lst ds=>pure (.lst (JE ds lo hi))
 |.tup ds=>pure (.tup (JE ds lo hi))
 |_=>failure
def aZ(f:au)(lo hi:fO):au:=λenv=>do let d <- f env;let l <- lo env;let h <- hi env;oW d l h
def DG(K:Aa):V->Option Int->Option Int->Hp->VK->Prop:=λx lo hi H Q=>∃ρ B U d r h,aW K ρ B U H/\ao K ρ B H d x/\oW d lo hi U=some (r,h)/\fB K ρ B H r h Q
theorem U2{prog:Program}{w:World}{A:Around}{E:C2}{s:Shared}{t n:Addr}{items:Array Value}{x y:Value}{lo hi:Option Int}{Q:C2}(d:IsTup s.heap t items)(v:s.heap.IsSliceOf n x y .none)(pl:IsPart x lo)(C:IsPart y hi)
  (h0:HT.sIx items.size 0 lo=0) (h1:HT.sIx items.size items.size hi=items.size) (h:Q (.ref t) s):wpAny (model prog w) A (getItem (.ref t) (.ref n)) Q E s:=by
 obtain⟨os,m,l,z⟩:=id v;have j:s.TypeIs (.ref n) "slice" := ⟨os,m,l⟩;unfold getItem
 try with_reducible refine wpAny_holding ?_
 first|refine Cr (Cu ?_)|skip
 refine Cr (wpAny_sequenceKey d.typeIs (by decide) ?_);refine Cr (wpAny_callSpecial?_slot (name:=Str.ofString "__getitem__") d.typeIs PyProof.Rows.slot_tuple_getitem (wpAny_call_entry PyProof.Rows.slot_tuple_getitem d.typeIs entry_tuple_getitem ?_ (args_tuple_getitem _ _)));show wpAny _ _ (Builtin.Tuple.tupleItemsOf (.ref t) >>= _) _ _ s;refine Cr (tupleItemsOf_ d ?_);refine Cr (wpAny_typeOf j ?_);rw[Ct (by decide)];refine Cr (HT.sliceApplied_gen v pl C ?_);have o:(((HT.sIx items.size 0 lo:Nat):Int)==0&&(1:Int)==1&&(HT.sIx items.size items.size hi-HT.sIx items.size 0 lo)==items.size)=true:=by rw[h0,h1];simp
 show wpAny _ _ (if (((HT.sIx items.size 0 lo:Nat):Int)==0&&(1:Int)==1&&(HT.sIx items.size items.size hi-HT.sIx items.size 0 lo)==items.size)=true then _ else _) _ _ s;rw[Ct o];have ex:∀{i:Bool->Shared->Prop}{r:Around}{u:C2},i true s->wpAny (model prog w) r (Builtin.Tuple.tupleIsExact (.ref t)) i u s:=λ{i r u} q=>by unfold Builtin.Tuple.tupleIsExact;exact Cr (wpAny_typeOf d.typeIs (Cu (by rw[show(Value.type "tuple" == Value.type "tuple")=true from beq_self_eq_true _];exact q)))
 refine Cr (ex ?_);rw[Ct rfl]
 first
  |exact Cr (wpAny_rule (Cu ⟨_,rfl,Cu h⟩))
  |exact Cr (wpAny_rule (Cr (Cu (Cu ⟨_,rfl,Cu h⟩))))
theorem P0:SlR X (λx lo hi H Q=>∃a xs,x=.ref a/\SqT X.K H a xs/\(HT.sIx xs.length 0 lo=0/\HT.sIx xs.length xs.length hi=xs.length)/\Q (.ref a) H):=by
 intro n s σ H x v vl vu lo hi sl Q I rx hs pl pu h;obtain⟨a,xs,rfl,hx,⟨l,m⟩,q⟩:=h;cases rx;obtain⟨i,r,j,hz⟩:=I.tuple hx;have d:i.toArray.size=xs.length:=by rw[An];exact r.length.symm
 exact⟨"tuple", _,PyProof.Rows.slot_tuple_getitem.lookup,j.typeIs,U2 j hs pl pu (by rw[d];exact l) (by rw[d];exact m) ⟨.ref a,H,I,rfl,q⟩⟩
theorem vn{α:Type}(ds:List α)(i j:Nat)(d:i=0)(h:j=ds.length):(ds.drop i).take (j-i)=ds:=by subst d h;simp
theorem q_:SlR X (DG X.K):=by
  intro l s σ H x v vl vu lo hi sl Q I rx hs pl pu h;obtain⟨ρ,B,U,d,r,n,W,m,e,k⟩:=h;cases d with
  |lst ds=>obtain⟨rfl,rfl⟩:=Qk e;obtain⟨a,xs,rfl,nb,i,rl⟩:=m.bV;exact VV l s σ H _ v vl vu lo hi sl Q I rx hs pl pu ⟨a,xs,rfl,i,XF W (qm rl) k⟩
  |tup ds =>
    obtain⟨rfl,rfl⟩:=Qk e;obtain⟨a,xs,rfl,nb,i,rl⟩:=m.tupI;by_cases j:HT.sIx xs.length 0 lo=0/\HT.sIx xs.length xs.length hi=xs.length
    . refine P0 l s σ H _ v vl vu lo hi sl Q I rx hs pl pu ⟨a,xs,rfl,i,j,?_⟩
      have:JE ds lo hi=ds:=by unfold JE;exact vn ds _ _ (by rw[rl.length];exact j.1) (by rw[rl.length];exact j.2)
      rw[this]at k;exact k _ ρ B H Gr.refl W (YH nb i rl)
    . exact M7 l s σ H _ v vl vu lo hi sl Q I rx hs pl pu ⟨a,xs,rfl,i,j,YC W (qm rl) k⟩
  |non=>cases e
  |bl _=>cases e
  |int _=>cases e
  |str _=>cases e
  |ref _=>cases e
theorem Z7{lo hi:Option Expr}{ol oh:fO}{I:Pos}(h:DE X e f)(F:DO X lo ol)(C:DO X hi oh):DE X (.Subscript e (.Slice lo hi none I) pos) (aZ f ol oh) :=
 L2.PE.imp (xy q_ h F C) λσ H Q q=>by obtain⟨Z,env,ρ,B,U,d,i,S,e,k⟩:=q;obtain⟨x,hp1,r,e⟩:=bind_some e;obtain⟨l,hp2,t,e⟩:=bind_some e;obtain⟨u,j,y,e⟩:=bind_some e;refine tD.run S r λv ρ1 B1 H1 z S1 J=>iy.run S1 t λρ2 B2 H2 m S2=>iy.run S2 y λρ3 o H3 n S3=>?_;exact⟨ρ3,o,j,x,d,i,S3.wo,ao.grow S1.wo.rb (m.trans n) _ _ J,e,k.after (z.trans (m.trans n))⟩
theorem Mw{P:Program}{w:World}{K:Aa}{mg:C5}{O8:Heap}{x:Str}{i:Stmt}{g:Addr}{fd:FuncData}{N ps:List Str}{k:Nat}{l:aG}(F:Fun K x x i g fd)(q:QS N ps (Qs i))
  (h:∀(j:Value)(A:Around)(outer:List Env)(s:Shared)(H:Hp)(E:XK),Room k (A.deeper (envOfC x (Qs i) s.heap.objs.size g j))->fJ (jb CX0 P w K mg O8 N x (Qs i) g j A outer s H E).nox (Zw i) l) :
  X2 P w K mg O8 CX0 (k+1) g fd ps (fL K ps.length (ZH N.length l)):=by
 refine F.ok q (λvs H Q E h=>h.1) (λj A outer s H vs Q E y sp=>?_);obtain⟨C,ρ,B,U,ds,d,u,W,r,e,k⟩:=sp;obtain⟨⟨o,m⟩,hp1,t,n⟩:=bind_some e;refine⟨_,h j A outer s H E y,⟨ρ,B,H⟩,_,ρ,B,U,o,m,hp1,zH W r,t,λσ' ρ' B' H' g' S'=>?_⟩;cases o with
 |nx=>obtain⟨rfl,rfl⟩:=Qk n;exact k .non ρ' B' H' S'.gr S'.wo XR
 |rt x=>obtain⟨rfl,rfl⟩:=Qk n;exact λv z=>k v ρ' B' H' S'.gr S'.wo z
 |bk=>cases n
 |ct=>cases n
theorem UN{K:Aa}{ρ:C9}{B:C8}{H:Hp}:∀ns:List Int,aj K ρ B H (ns.map DV.int) (ns.map V.int)
 | []=>aj.nil
 |_::r=>aj.cons ZJ (UN r)
theorem Np{K:Aa}{F:Ea}{H:Hp}{a:Addr}{ns:List Int}{E:XK}(h:∃d,F [.lst (ns.map .int)] []=some (.bl true,d))(j:SqL K H a (ns.map V.int)):fL K 1 F [.ref a] H (λv _=>v=.bl true) E:=by obtain⟨d,h⟩:=h;refine⟨rfl,[],λ_=>False,[],[.lst (ns.map .int)],.bl true,d,⟨rfl,List.nodup_nil,λi a o h=>by simp at h,λa h=>absurd h (by simp),λa h=>absurd h (λz=>z),λa h=>h.elim⟩,aj.one (jx (λz=>z) j (UN ns)),h,λv _ _ _ _ _ r=>r.eO⟩
end
end D
namespace L2
open PySem PySem.Spec PyProof.Rows
section
variable{prog:Program}{w:World}{A:Around}{E:C2}{s:Shared}
end
section
variable{X:Cx}{O9:C4}{σ:L2.St}{H:Hp}{s:Shared}{h':Heap}
end
section
variable{X:Cx}{elts:List Expr}{kt:Nat}{p2:Pos}
end
end L2
namespace D
open PySem PySem.Spec PyProof.Rows L2
def FZ:List DV->List DV->List DV
 |x::xs,y::ys=>.tup [x,y]::FZ xs ys
 |_,_=>[]
section
variable{X:Cx}{elts:List Expr}{kt:Nat}{p2:Pos}{f g:au}
def gT(a:List Nat):h_:=λd env=>do
 let ds <- wA d
 QM (decide (ds.length=a.length))
 pure ((a.zip ds).foldl (λb q=>b.set q.1 (.val q.2)) env)
def yV(X:Cx):List Nat->List Expr->Prop
 | [],[]=>True
 |i::a,.Name x _::es=>X.N[i]?=some x/\Loc X.env.scope x/\(X.fn x=true∨X.env.scope.names.lookup x=some .local)/\yV X a es
 |_,_=>False
theorem yJ(l:X.N.Nodup):∀(e:List Nat)(es:List Expr),yV X e es->(∀a x p,(assignEach (.Name x p::a) X.env).map (·.2)=assign (.Name x p) X.env::(assignEach a X.env).map (·.2)) ->
    PGs X es (λvs σ H Q=>vs.length=e.length/\Q ((e.zip vs).foldl (λs q=>s.set q.1 (some q.2)) σ) H)
  | [],[],_,_=>by
    intro b s σ H vs us Q I r h;obtain⟨c,d⟩:=h;have:vs=[]:=by cases vs with|nil=>rfl|cons _ _=>simp at c
    subst this;exact Pb b s σ H [] us Q I r ⟨rfl,by simpa using d⟩
  |i::u,.Name x p::es,⟨c,d,n,o⟩,m=>by
    intro b s σ H vs us Q I r h;obtain⟨j,t⟩:=h;cases vs with
    |nil=>simp at j
    |cons v vs=>exact kJ (VN l c d n) (yJ l u es o m) (m _ _ _) b s σ H (v::vs) us Q I r ⟨v,vs,rfl,by simpa using j,by simpa using t⟩
theorem Gf{K:Aa}{Z:Ent}{ρ:C9}{B:C8}{U:Hs}{H:Hp}:∀(b:List Nat)(ds:List DV)(vs:List V){env:En}{σ:L2.St},aj K ρ B H ds vs->bK K Z env σ ρ B U H ->
    bK K Z ((b.zip ds).foldl (λc q=>c.set q.1 (.val q.2)) env) ((b.zip vs).foldl (λs q=>s.set q.1 (some q.2)) σ) ρ B U H
  | [],_,_,_,_,_,S=>by simpa using S
  |i::a,[],_,_,_,r,S=>by unfold aj at r;subst r;simpa using S
  |i::a,d::ds,_,_,_,r,S=>by unfold aj at r;obtain⟨v,vs,rfl,e,h⟩:=r;simpa using Gf a ds vs h (S.set (i:=i) e)
theorem uW(b:List Nat)(q:X.N.Nodup)(z:yV X b elts)(y:X.calm=true)(t:∀c x p,(assignEach (.Name x p::c) X.env).map (·.2)=assign (.Name x p) X.env::(assignEach c X.env).map (·.2))
  (hl:(assignEach elts X.env).length=b.length:=by rfl) (hst:(assignEach elts X.env).findIdx? (·.1)=none:=by rfl):PG X (.Tuple elts kt p2) (mH X.K (gT b)):=by
 intro m s σ H v u Q I r h;refine Mf y (yJ q b elts z t) hl hst m s σ H v u Q I r ?_;obtain⟨Z,env,ρ,B,U,d,j,C,S,L,e,k⟩:=h;obtain⟨ds,hp1,n,e⟩:=bind_some e;obtain⟨rfl,rfl⟩:=ux n;obtain⟨_,hp2,o,e⟩:=bind_some e;obtain⟨F,rfl⟩:=QF o;obtain⟨rfl,rfl⟩:=Qk e;obtain⟨a,xs,rfl,na,J,l⟩:=L.tupI;have i:xs.length=b.length:=by rw[<- l.length];exact Cz F
 exact⟨a,xs,rfl,J,i,i,k _ ρ B H Gs.refl (Gf b ds xs l S)⟩
def XT(f:au)(g:h_):aG:=λenv=>do let d <- f env;let env' <- g d env;pure (.nx,env')
theorem Xj{a e:Expr}{g:h_}{c:Pos}(o:DE X e f)(q:PG X a (mH X.K g))(t:swapsWithSole [a] e c.line X.env=pure false:=by rfl)(u:swappedStores [a] e X.env=pure none:=by rfl)
  (h1:(assignEach [a] X.env).map (·.2)=[assign a X.env]:=by rfl):DS X (.Assign [a] e c) (XT f g) :=
 L2.PS.imp (L_ o q t u h1) λD σ H j=>by obtain⟨Z,env,ρ,B,U,y,b,r,S,e,k⟩:=j;obtain⟨d,hp1,l,e⟩:=bind_some e;obtain⟨aY,hp2,m,e⟩:=bind_some e;obtain⟨z,rfl⟩:=Qk e;cases z;exact tD.run S l λv ρ1 h H1 n i x=>⟨Z,env,ρ1,h,hp1,d,b,hp2,i,x,m,λσ' ρ' B' H' g' S'=>k σ' ρ' B' H' ((n.gs S.wo.rb).trans g') S'⟩
end
theorem KE{lo:Int}{n i:Nat}{d:DV}(h:(Zy lo n)[i]?=some d):i<n/\d=.int (lo+i):=by
 have hi:i<n:=by have:=(Ac.mp h).1;simpa [Zy]using this
 refine⟨hi,?_⟩;simp[Zy,hi]at h;exact h.symm
theorem ZR(lo:Int)(n:Nat):(Zy lo n).length=n:=by simp[Zy]
theorem ju(i:Int):fM (.int i)=true:=by rfl
def Gd(i j:Int):PyData.eqv (.int i) (.int j)=(i==j):=rfl
theorem Vp(i j:Int):mD (.int i) (.int j)=pure (.bl (i==j)):=by simp only[mD,ju,Bool.and_self,QM,if_true,C1,toP,Gd]
theorem GJ(i j:Int):sU (.int i) (.int j)=pure (.bl (!(i==j))):=by simp only[sU,ju,Bool.and_self,QM,if_true,C1,toP,Gd]
theorem uJ{α:Type}{xs:List α}{i:Int}(a:0<=i)(b:i<xs.length):atI xs i=xs[i.toNat]?:=by unfold atI ixN;rw[Ct a,Ct b];rfl
theorem qh(ns:List Int){i:Int}(b:0<=i)(c:i<ns.length):atI (ns.map DV.int) i=some (.int (ns.getD i.toNat 0)):=by
 have a:i.toNat<ns.length:=⋯
 rw[uJ b (by simpa using c),Bh,Ab a];simp[B8,a]
theorem uK(ns:List Int)(h:ns≠[]):∃x,ns.getLast?=some x/\atI (ns.map DV.int) (-1)=some (.int x):=by obtain⟨r,x,rfl⟩:∃r x,ns=r++[x]:=⟨ns.dropLast,ns.getLast h,(List.dropLast_concat_getLast h).symm⟩;refine⟨x,by simp,?_⟩;rw[List.map_append];exact V6 _ _
def opt:Option Int->DV
 |none=>.non
 |some i=>.int i
theorem Zj(x y:Int)(h:0<y):QO (.int x) (.int y)=pure (.int (x % y)):=by simp[QO,Yc,wI,h]
theorem Um(x y:Int)(h:0<y)(h':y<1073741824):jc (.int x) (.int y)=pure (.int (x / y)):=by simp[jc,Yc,wJ,h,h']
theorem XN(x y:Int)(h:-(2 ^ 64)<x)(h':x<2 ^ 64):Yh (.int x) (.int y)=pure (.int (x * y)):=by simp only[Yh,Yc,wH,Cy (Or.inl (b:=(-(2 ^ 64)<y/\y<2 ^ 64)) (And.intro h h')),if_true]
def V4(x y:Int):QP (.int x) (.int y)=pure (.int (x+y)):=rfl
def qX(x y:Int):qb (.int x) (.int y)=pure (.int (x-y)):=rfl
def Gm(x y:Int):eG (.int x) (.int y)=pure (.bl (decide (y<x))):=rfl
def GD(x y:Int):cj (.int x) (.int y)=pure (.bl (decide (x<y))):=rfl
def GB(x y:Int):d9 (.int x) (.int y)=pure (.bl (decide (x<=y))):=rfl
def Gh(x y:Int):Fe (.int x) (.int y)=pure (.bl (decide (y<=x))):=rfl
def UD(x:Int):wz (.int x)=pure (.int (-x)):=rfl
def GN:Ji (.int 10) (.int 30)=pure (.int 1000000000000000000000000000000):=rfl
def wX:Ji (.int 10) (.int 21)=pure (.int 1000000000000000000000):=rfl
def wg:Ji (.int 10) (.int 9)=pure (.int 1000000000):=rfl
theorem RQ{m:Int}(a:0<=m)(b:m<=1000000):VX m=true:=Cy ⟨⋯,⋯⟩
theorem Zv(x y:Int)(h:0<y):0<=x % y/\x % y<y:=⟨Int.emod_nonneg _ ⋯,Int.emod_lt_of_pos _ h⟩
theorem Xb{f g:aG}{env aY:En}(h:f env=pure (.nx,aY)):Qx f g env=g aY:=by simp only[Qx,h,C1]
theorem GX{f g:aG}{env aY:En}{d:DV}(h:f env=pure (.rt d,aY)):Qx f g env=pure (.rt d,aY):=by simp only[Qx,h,C1]
theorem VP{i:Nat}{f:au}{env:En}{d:DV}(h:f env=pure d):QG i f env=pure (.nx,env.set i (.val d)):=by simp only[QG,h,C1]
theorem wR{c:bO}{f g:aG}{env:En}(h:c env=pure true):aP c f g env=f env:=by simp only[aP,h,C1,if_true]
theorem wU{c:bO}{f g:aG}{env:En}(h:c env=pure false):aP c f g env=g env:=by simp only[aP,h,C1,Aw,if_false]
theorem jB{f:au}{env:En}{d:DV}(h:f env=pure d):Q3 f env=pure (.rt d,env):=by simp only[Q3,h,C1]
theorem jy{n:Nat}{a:aG}{ds:List DV}{d:DV}{env:En}(h:a (ds.map .val++List.replicate (n-ds.length) .un)=pure (.rt d,env)):ZH n a ds=pure d:=by simp only[ZH,h,C1]
theorem MF{f:au}{env:En}{b:Bool}(h:f env=pure (.bl b)):eB f env=pure b:=by simp only[eB,h,C1,g_]
theorem Zb{g:DV->DV->M DV}{f f':au}{env:En}{x y d:DV}(h:f env=pure x)(h':f' env=pure y)(a:g x y=pure d):Qf g f f' env=pure d:=by simp only[Qf,h,h',C1,a]
theorem Vm{F:Ea}{f f':au}{env:En}{x y d:DV}(h:f env=pure x)(h':f' env=pure y)(a:F [x,y]=pure d):Qu 2 F (Qa f (Qa f' Qj)) env=pure d:=by simp[Qu,Qa,Qj,h,h',QM,a]
section
variable{K:Aa}{ρ:C9}{B:C8}{U:Hs}{H:Hp}
theorem Gr.dw{p:Addr}{o:HO}(h:H p=none)(kf:K.lookup p=none):Gr K ρ B H (ρ++[p]) (YX B p) (upd H p o) where
 pre:=List.prefix_append _ _
 ban:=λ_ h=>.inl h
 new:=λa z=>z.elim .inl λe=>.inr (e▸⟨h,kf⟩)
 cA:=λa z=>(Ah.mp z).elim .inl λq=>.inr (by rw[Aq.mp q];exact h)
 keep:=λa u _ q=>by rw[Q4 (ZP q h)];exact q
 trk:=(Gr.laid (K:=K) (ρ:=ρ) (B:=B) h).trk
theorem aW.dw{p:Addr}{o:HO}{v:OV}(W:aW K ρ B U H)(h:H p=none)(kf:K.lookup p=none)(j:bB K (ρ++[p]) (YX B p) (upd H p o) p v):aW K (ρ++[p]) (YX B p) (U++[v]) (upd H p o) where
 len:=by simp[W.len]
 nd:=List.nodup_append.mpr ⟨W.nd,by simp,λa d b f=>by rw[Aq.mp f];exact λz=>W.bt a (W.rb a d) (z▸h)⟩
 obj:=λi a u e q=>by
  by_cases hi:i<ρ.length
  ·rw[Ag hi]at e;rw[Ag (by rw[<- W.len];exact hi)]at q;exact bB.gs ((Gr.dw h kf).gs W.rb) (Q4 (λz=>W.bt a (W.rb a (At e)) (z▸h))) (W.obj i a u e q)
  ·rw[Ap ⋯]at e;rw[Ap (by rw[<- W.len];lia)]at q;have c:i-ρ.length=0:=by have:=(Ac.mp e).1;simp at this;lia
   rw[c]at e;rw[<- W.len,c]at q;simp at e q;subst e q;exact j
 rb:=λa z=>(Ah.mp z).elim (λq=>.inl (W.rb a q)) λq=>.inr (Aq.mp q)
 bt:=λa z q=>by
  have l:=(Gr.laid (K:=K) (ρ:=ρ) (B:=B) h).trk a q;rcases z with z|rfl
  ·exact W.bt a z l
  ·rw[Q5]at q;cases q
 bk:=λa z=>z.elim (W.bk a) λe=>e▸kf
theorem Gr.dD{i:Nat}{a:Addr}{o o':HO}(c:ρ[i]?=some a)(h:H a=some o):Gr K ρ B H ρ B (upd H a o') where
 pre:=Bz
 ban:=λ_ h=>h
 new:=λ_ h=>.inl h
 cA:=λ_ h=>.inl h
 keep:=λb u nb q=>by rw[Q4 (show b≠a from λz=>nb (by rw[z];exact At c))];exact q
 trk:=λb q=>by
  by_cases e:b=a
  ·subst e;rw[Q5]at q;cases q
  ·rw[Q4 e]at q;exact q
theorem aW.dD{i:Nat}{a:Addr}{o o':HO}{v:OV}(W:aW K ρ B U H)(c:ρ[i]?=some a)(h:H a=some o)(m:bB K ρ B (upd H a o') a v):aW K ρ B (U.set i v) (upd H a o') where
 len:=by simp[W.len]
 nd:=W.nd
 obj:=λj b u e q=>by
  by_cases d:j=i
  ·subst d;rw[c]at e;cases e;have l:j<U.length:=by rw[<- W.len];exact(Ac.mp c).1
   rw[Ar l]at q;cases q;exact m
  ·rw[Ak (Ne.symm d)]at q;have f:b≠a:=λz=>d (by subst z;exact(List.getElem?_inj (Ac.mp e).1 W.nd).mp (e.trans c.symm))
   exact bB.gs ((Gr.dD c h).gs W.rb) (Q4 f) (W.obj j b u e q)
 rb:=W.rb
 bt:=λb z q=>W.bt b z ((Gr.dD (K:=K) (B:=B) c h).trk b q)
 bk:=W.bk
end
section
variable{X:Cx}{e a b c:Expr}{f fa fb fc:au}{pos:Pos}
def Xg(o:OV):M DV:=λh=>some (.ref h.length,h++[o])
def Zi(i:Nat):M OV:=λh=>match h[i]? with
 |some o=>some (o,h)
 |none=>none
def qW(i:Nat)(o:OV):M Unit:=λh=>some ((),h.set i o)
theorem Zl{i:Nat}{o:OV}{U d:Hs}(h:Zi i U=some (o,d)):U[i]?=some o/\U=d:=by
 unfold Zi at h;cases q:U[i]? with
 |none=>rw[q]at h;cases h
 |some z=>rw[q]at h;cases h;exact⟨rfl,rfl⟩
def Ur(f:bR):au:=λenv=>do let ds <- f env;QM (Yp ds);Xg (.lst ds)
theorem Vr{K:Aa}{ρ:C9}{B:C8}{H:Hp}{U:Hs}{ds:List DV}{xs:List V}{Q:VK}(W:aW K ρ B U H)(r:aj K ρ B H ds xs)(k:fB K ρ B H (.ref U.length) (U++[.lst ds]) Q):∀p,H p=none->uD K (upd H p (.lst xs))->Q (.ref p) (upd H p (.lst xs)):=λp d kf=>by have kp:=kf p _ Q5;have g:Gr K ρ B H (ρ++[p]) (YX B p) (upd H p (.lst xs)):=Gr.dw d kp;refine k _ _ _ _ g (W.dw d kp ⟨xs,Q5,aj.grow W.rb g _ _ r⟩) ?_;unfold ao;exact⟨p,rfl,by rw[<- W.len];simp⟩
theorem Vg{es:List Expr}{f:bR}(h:DA X es f):DE X (.List es pos) (Ur f) :=
 L2.PE.imp (Ky h).kf λσ H Q j=>by obtain⟨Z,env,ρ,B,U,d,r,S,e,k⟩:=j;obtain⟨xs,hp1,l,m⟩:=bind_some e;obtain⟨_,hp2,n,o⟩:=bind_some m;obtain⟨t,rfl⟩:=QF n;cases o;exact dY.run S l λvs ρ1 B1 H1 q S1 i=>⟨by rw[<- i.length];exact Yq t,Vr S1.wo i (k.after q)⟩
theorem ao.aX{K:Aa}{ρ:C9}{B:C8}{H:Hp}{U:Hs}{i:Nat}{o:OV}{v:V}(W:aW K ρ B U H)(r:ao K ρ B H (.ref i) v)(h:U[i]?=some o):∃a,v=.ref a/\ρ[i]?=some a/\bB K ρ B H a o:=by obtain⟨a,rfl,e⟩:=r.lq;exact⟨a,rfl,e,W.obj i a o e h⟩
def T7:DV->DV->M DV
  |.ref n,.int i=>do
    match <- Zi n with
    |.lst ds=>match atI ds i with
      |some d=>pure d
      |none=>failure
    |_=>failure
  |x,y=>eZ x y
def rB:List DV->M DV
  | [.ref n]=>do
    match <- Zi n with
    |.lst ds=>pure (.tup ds)
    |_=>failure
  |xs=>rC xs
theorem uQ:Z5 X (.type "tuple") (fK X.K rB):=by
  intro l s σ H xs us Q I r h;obtain⟨ρ,B,U,ds,d,j,W,rl,e,k⟩:=h;unfold rB at e;split at e
  . rename_i n
    obtain⟨o,hp1,m,i⟩:=bind_some e;obtain⟨q,rfl⟩:=Zl m;cases o with
    |aB _=>cases i
    |ins _ _=>cases i
    |lst x=>obtain⟨rfl,rfl⟩:=Qk i;obtain⟨v,rfl,u⟩:=rl.cg;obtain⟨a,rfl,_,ys,t,l1⟩:=ao.aX W u q;exact Xi l s σ H _ us Q I r ⟨a,ys,rfl,.inl ⟨SqL.of t,YC W l1 k⟩⟩
  . exact SM l s σ H xs us Q I r ⟨ρ,B,U,_,d,j,W,rl,e,k⟩
end
def Runs{α:Type}(m:M α)(x:α):Prop:=∀U,∃a,m U=some (x,a)
section
variable{f g:aG}{env aY lN:En}{c ca cb:bO}{e fa fb:au}{d x y:DV}{r:Fl×En}
end
theorem Qg{α β:Type}{m:M α}{k:α->M β}{x:α}{U hp1:Hs}(h:m U=some (x,hp1)):(m >>= k) U=k x hp1:=by show(m U).bind (λp=>k p.1 p.2)=_;rw[h];rfl
def Qi{f g:aG}{env aY:En}{U hp1:Hs}(h:f env U=some ((.nx,aY),hp1)):Qx f g env U=g aY hp1:=Qg h
def Qw{i:Nat}{f:au}{env:En}{d:DV}{U hp1:Hs}(h:f env U=some (d,hp1)):QG i f env U=some ((.nx,env.set i (.val d)),hp1):=Qg h
theorem XI{ds:List DV}{i:Int}{d:DV}(h:atI ds i=some d):eZ (.lst ds) (.int i)=pure d:=by simp only[eZ,h]
theorem jM(ds:List DV)(m:Nat):D.JE ds none (some (m:Int))=ds.take m:=by unfold D.JE;rw[HT.sIx_nat];show(ds.drop 0).take (min m ds.length-0)=ds.take m;simp
theorem Ug(ds:List DV)(m:Nat):D.JE ds (some (m:Int)) none=ds.drop m:=by
 unfold D.JE;rw[HT.sIx_nat];show(ds.drop (min m ds.length)).take (ds.length-min m ds.length)=ds.drop m;rcases Nat.le_total m ds.length with h|h
 ·rw[Nat.min_eq_left h,Bw (by simp)]
 ·rw[Nat.min_eq_right h,B0 h,B0 (Ae _)];simp
end D
namespace L2
open PySem PySem.Spec PyProof.Rows
section
variable{X:Cx}
def Lk:R2:=λx y H Q=>∃a kvs k v,x=.ref a/\y=kV k/\H a=some (.dK kvs)/\Js kvs k=some v/\Q v H
theorem Tf(e:X.A.units+1<cLine):IxR X Lk:=by intro value slice O9 s σ H x y v u Q I rx ry h hs;obtain⟨a,kvs,k,z,rfl,rfl,d,f,q⟩:=h;cases rx;have g:DGet H a (kV k) (some z):=f▸DGet.k d;exact tail_any (Uk I g) PySem.F.slot_dict_getitem.lookup (vo e I g ry λi s' c b=>⟨z,H,c,b,q⟩) hs
theorem Kw(d:X.A.units+1<cLine):OpR X (compareOp .In) (λx y H Q=>∃a kvs k,y=.ref a/\x=kV k/\H a=some (.dK kvs)/\Q (.bl (Js kvs k).isSome) H):=by intro e s σ H x y v u Q I rx ry h;obtain⟨a,kvs,k,rfl,rfl,c,q⟩:=h;cases ry;exact Iv d I (DGet.k c) rx λs' b=>⟨.bl _,H,b,rfl,q⟩
def Hx:V->V->V->Hp->(Hp->Prop)->Prop:=λo i v H Q=>∃a kvs k,o=.ref a/\i=kV k/\H a=some (.dK kvs)/\kvs.length<sizeLine/\Q (upd H a (.dK (XZ kvs k v)))
theorem k7(e:X.A.units+1<cLine):oE X Hx:=λm s σ H o i v r n u Q I j f l h=>by obtain⟨a,kvs,k,rfl,rfl,c,d,q⟩:=h;cases j;exact vp e I (DPut.k c d) f l λs' b=>⟨_,b,q⟩
def Hy:V->List V->Hp->VK->Prop:=λx vs H Q=>∃a kvs k,x=.ref a/\H a=some (.dK kvs)/\((vs=[kV k]/\∃v,Js kvs k=some v/\Q v (upd H a (.dK (qw kvs k)))) ∨
 ∃z,vs=[kV k,z]/\(∀v,Js kvs k=some v->Q v (upd H a (.dK (qw kvs k))))/\(Js kvs k=none->Q z H))
theorem VH:MtR X "dict.pop" Hy:=by
 intro o s σ H x vs v us Q I rx rv h;obtain⟨a,kvs,k,rfl,e,h⟩:=h;cases rx;rcases h with ⟨rfl,w,f,q⟩|⟨z,rfl,j,m⟩
 ·obtain⟨u,rfl,d⟩:=Ys rv;exact CJ I e d f (.inl rfl) λn s' c b=>⟨w,_,c,b,q⟩
 ·obtain⟨u,u2,rfl,d,i⟩:=G9 rv;cases l:Js kvs k with
  |some w=>exact CJ I e d l (.inr ⟨u2,rfl⟩) λn s' c b=>⟨w,_,c,b,j w l⟩
  |none=>exact Oa I e d l λs' c=>⟨z,H,c,i,m l⟩
def Hz:V->List V->Hp->VK->Prop:=λx vs H Q=>∃a kvs k,x=.ref a/\H a=some (.dK kvs)/\((vs=[kV k]/\Q ((Js kvs k).getD .non) H)∨∃z,vs=[kV k,z]/\Q ((Js kvs k).getD z) H)
theorem GI(f:X.A.units+1<cLine):MtR X "dict.get" Hz:=by
 intro l s σ H x vs v us Q I rx rv h;obtain⟨a,kvs,k,rfl,e,h⟩:=h;cases rx;rcases h with ⟨rfl,q⟩|⟨z,rfl,q⟩
 ·obtain⟨u,rfl,d⟩:=Ys rv;exact Oc f I (DGet.k e) d λj s' c b=>⟨_,H,c,b,q⟩
 ·obtain⟨u,u2,rfl,d,i⟩:=G9 rv;exact Ob f I (DGet.k e) d i λj s' c b=>⟨_,H,c,b,q⟩
end
end L2
namespace D
open PySem PySem.Spec PyProof.Rows L2
def ya:DV->Option Key
 |.int i=>some (.inl i)
 |.str x=>some (.inr x)
 |_=>none
def ZA(kvs:List (Key×DV))(k:Key):Option DV:=(kvs.find? λa=>decide (a.1=k)).map (·.2)
def Z9(kvs:List (Key×DV))(k:Key)(d:DV):List (Key×DV) :=
 if (kvs.any λa=>decide (a.1=k))=true then kvs.map (λa=>if a.1=k then (a.1,d)else a)else kvs++[(k,d)]
def Je(kvs:List (Key×DV))(k:Key):List (Key×DV):=kvs.filter λa=>decide (a.1≠k)
section
variable{K:Aa}{ρ:C9}{B:C8}{H:Hp}{U:Hs}
theorem JA{d:DV}{k:Key}{v:V}(h:ya d=some k)(r:ao K ρ B H d v):v=kV k:=by
 cases d<;>simp[ya]at h<;>subst h
 ·exact r.bf
 ·exact r.dM
abbrev aO(K:Aa)(ρ:C9)(B:C8)(H:Hp):List (Key×DV)->List (Key×V)->Prop:=Paired λp q=>p.1=q.1/\ao K ρ B H p.2 q.2
theorem GU:∀{kvs:List (Key×DV)}{xs:List (Key×V)},xs.map (·.1)=kvs.map (·.1)->aj K ρ B H (kvs.map (·.2)) (xs.map (·.2))->aO K ρ B H kvs xs
  | [],[],_,_=>.nil
  | [],_::_,e,_=>by simp at e
  |_::_,[],e,_=>by simp at e
  |p::kvs,q::xs,e,r=>by simp only[A3,List.cons.injEq]at e;simp only[A3]at r;unfold aj at r;obtain⟨x,t,a,b,c⟩:=r;simp only[List.cons.injEq]at a;obtain⟨rfl,rfl⟩:=a;exact .cons ⟨e.1.symm,b⟩ (GU e.2 c)
theorem aO.to{kvs:List (Key×DV)}{xs:List (Key×V)}(r:aO K ρ B H kvs xs):xs.map (·.1)=kvs.map (·.1)/\aj K ρ B H (kvs.map (·.2)) (xs.map (·.2)):=by
 induction r with
 |nil=>exact⟨rfl,aj.nil⟩
 |cons h _ a=>exact⟨by simp[a.1,h.1],by simpa using aj.cons h.2 a.2⟩
theorem aO.val{kvs:List (Key×DV)}{xs:List (Key×V)}(r:aO K ρ B H kvs xs)(k:Key):(ZA kvs k=none/\Js xs k=none)∨∃d v,ZA kvs k=some d/\Js xs k=some v/\ao K ρ B H d v:=by
  induction r with
  |nil=>exact .inl ⟨rfl,rfl⟩
  |@cons p q _ _ h _ b =>
    by_cases e:p.1=k
    . exact .inr ⟨p.2,q.2,by simp[ZA,Bp,e],by simp[Js,Bp,h.1▸e],h.2⟩
    . have a:¬ q.1=k:=h.1▸e
      simpa [ZA,Js,Bp,e,a]using b
theorem aO.any{kvs:List (Key×DV)}{xs:List (Key×V)}(r:aO K ρ B H kvs xs)(k:Key):(kvs.any λa=>decide (a.1=k))=xs.any λa=>decide (a.1=k):=by
 induction r with
 |nil=>rfl
 |cons h _ b=>simp only[Cb,b,h.1]
theorem aO.repl{kvs:List (Key×DV)}{xs:List (Key×V)}(r:aO K ρ B H kvs xs)(k:Key){d:DV}{v:V}(c:ao K ρ B H d v):aO K ρ B H (kvs.map λa=>if a.1=k then (a.1,d)else a) (xs.map λa=>if a.1=k then (a.1,v)else a):=by
  induction r with
  |nil=>exact .nil
  |@cons p q _ _ h _ b =>
    refine .cons ?_ b;dsimp only;by_cases e:p.1=k
    . rw[Ct e,Ct (h.1▸e)];exact⟨h.1,c⟩
    . rw[Cs e,Cs (h.1▸e)];exact h
theorem aO.snoc{kvs:List (Key×DV)}{xs:List (Key×V)}(r:aO K ρ B H kvs xs){k:Key}{d:DV}{v:V}(b:ao K ρ B H d v):aO K ρ B H (kvs++[(k,d)]) (xs++[(k,v)]):=by
 induction r with
 |nil=>exact .cons ⟨rfl,b⟩ .nil
 |cons h _ a=>exact .cons h a
theorem aO.put{kvs:List (Key×DV)}{xs:List (Key×V)}(r:aO K ρ B H kvs xs)(k:Key){d:DV}{v:V}(a:ao K ρ B H d v):aO K ρ B H (Z9 kvs k d) (XZ xs k v):=by
 unfold Z9 XZ;rw[r.any k];split
 ·exact r.repl k a
 ·exact r.snoc a
theorem aO.drop{kvs:List (Key×DV)}{xs:List (Key×V)}(r:aO K ρ B H kvs xs)(k:Key):aO K ρ B H (Je kvs k) (qw xs k):=by
  induction r with
  |nil=>exact .nil
  |@cons p q _ _ h _ b =>
    unfold Je qw at b ⊢;by_cases e:p.1=k
    . have a:q.1=k:=h.1▸e
      simpa [e,a]using b
    . have a:¬ q.1=k:=h.1▸e
      rw[Cd (by simpa using e),Cd (by simpa using a)];exact .cons h b
def aO.len{kvs:List (Key×DV)}{xs:List (Key×V)}(r:aO K ρ B H kvs xs):kvs.length=xs.length:=Paired.length r
def aO.gs{ρ':C9}{a:C8}{H':Hp}{kvs:List (Key×DV)}{xs:List (Key×V)}(g:Gs K ρ B H ρ' a H')(r:aO K ρ B H kvs xs):aO K ρ' a H' kvs xs:=L2.Paired.mapP r λ_ _ h=>⟨h.1,ao.gs g _ _ h.2⟩
theorem bB.aB{a:Addr}{kvs:List (Key×DV)}(h:bB K ρ B H a (.aB kvs)):∃xs,H a=some (.dK xs)/\aO K ρ B H kvs xs:=by obtain⟨xs,e,b,rl⟩:=h;exact⟨xs,e,GU b rl⟩
def aO.fD{a:Addr}{kvs:List (Key×DV)}{xs:List (Key×V)}(r:aO K ρ B H kvs xs)(e:H a=some (.dK xs)):bB K ρ B H a (.aB kvs):=⟨xs,e,r.to.1,r.to.2⟩
theorem xX{n:Nat}{a:Addr}{xs c:List (Key×V)}{b:List (Key×DV)}(W:aW K ρ B U H)(i:ρ[n]?=some a)(e:H a=some (.dK xs))(r:aO K ρ B H b c):Gr K ρ B H ρ B (upd H a (.dK c))/\aW K ρ B (U.set n (.aB b)) (upd H a (.dK c)):=by have g:Gr K ρ B H ρ B (upd H a (.dK c)):=Gr.dD i e;exact⟨g,W.dD (o':=.dK c) (v:=.aB b) i e ((r.gs (g.gs W.rb)).fD Q5)⟩
theorem qZ{n:Nat}{a:Addr}{o:HO}{b:List V}{c:List DV}(W:aW K ρ B U H)(i:ρ[n]?=some a)(e:H a=some o)(r:aj K ρ B H c b):Gr K ρ B H ρ B (upd H a (.lst b))/\aW K ρ B (U.set n (.lst c)) (upd H a (.lst b)):=by have g:Gr K ρ B H ρ B (upd H a (.lst b)):=Gr.dD i e;exact⟨g,W.dD (o':=.lst b) (v:=.lst c) i e ⟨b,Q5,aj.grow W.rb g _ _ r⟩⟩
end
section
variable{X:Cx}{e a b c:Expr}{f fa fb fc:au}{pos:Pos}
def UH(o:Option DV):M DV:=match o with
 |some d=>pure d
 |none=>failure
theorem YG{o:Option DV}{d:DV}{U i:Hs}(h:UH o U=some (d,i)):o=some d/\U=i:=by
 cases o with
 |none=>cases h
 |some z=>obtain⟨rfl,rfl⟩:=Qk h;exact⟨rfl,rfl⟩
def Xr(d:DV):M Key:=match ya d with
 |some k=>pure k
 |none=>failure
theorem Jo{d:DV}{k:Key}{U i:Hs}(h:Xr d U=some (k,i)):ya d=some k/\U=i:=by
 unfold Xr at h;cases q:ya d with
 |none=>rw[q]at h;cases h
 |some z=>rw[q]at h;obtain⟨rfl,rfl⟩:=Qk h;exact⟨rfl,rfl⟩
def aq:DV->DV->M DV
  |.ref n,y=>do
    match <- Zi n with
    |.lst ds=>do let i <- f9 y;UH (atI ds i)
    |.aB kvs=>do let k <- Xr y;UH (ZA kvs k)
    |_=>failure
  |x,y=>eZ x y
theorem Ib(Y:X.A.units+1<cLine):IxR X (lX X.K aq):=by
  intro value slice O9 s σ H x y v u Q I rx ry h hsub;obtain⟨ρ,B,U,dx,dy,d,t,W,L,C,e,k⟩:=h;unfold aq at e;split at e
  . rename_i n
    obtain⟨o,hp1,P,l⟩:=bind_some e;obtain⟨R,rfl⟩:=Zl P;obtain⟨a,rfl,i1,O⟩:=ao.aX W L R;cases o with
    |ins _ _=>cases l
    |aB kvs =>
      obtain⟨J,hp2,m,q⟩:=bind_some l;obtain⟨T,rfl⟩:=Jo m;obtain⟨j,rfl⟩:=YG q;obtain⟨xs,r,Z⟩:=O.aB;rcases Z.val J with ⟨z,_⟩|⟨d',v',z,zv,F⟩
      . rw[j]at z;cases z
      . rw[j]at z;cases z
        exact Tf Y value slice O9 s σ H _ _ v u Q I rx ry ⟨a,xs,J,v',rfl,JA T C,r,zv,k _ ρ B H Gr.refl W F⟩ hsub
    |lst ds=>obtain⟨i,hp2,m,q⟩:=bind_some l;obtain⟨rfl,rfl⟩:=jE m;obtain⟨j,rfl⟩:=YG q;obtain⟨xs,r,l1⟩:=O;obtain⟨z,hz,F⟩:=y4 l1 j;exact Gy value slice O9 s σ H _ _ v u Q I rx ry ⟨a,xs,i,z,rfl,C.bf,SqL.of r,hz,k _ ρ B H Gr.refl W F⟩ hsub
  . exact wj value slice O9 s σ H x y v u Q I rx ry ⟨ρ,B,U,_,_,d,t,W,L,C,e,k⟩ hsub
theorem Qq(l:X.A.units+1<cLine)(d:DE X a fa)(i:DE X b fb)(j:yW b:=by intro _ _;rfl):DE X (.Subscript a b pos) (Qf aq fa fb):=L2.PE.imp (wZ (Ib l) d i j) λ_ _ _ h=>X8 h
def Zo:List DV->M DV
  | [.ref n]=>do
    match <- Zi n with
    |.lst ds=>pure (.int ds.length)
    |.aB kvs=>pure (.int kvs.length)
    |_=>failure
  |xs=>vK xs
theorem ZT:Z5 X (.builtin "len") (fK X.K Zo):=by
  intro i s σ H xs us Q I r h;obtain⟨ρ,B,U,ds,d,m,W,rl,e,k⟩:=h;unfold Zo at e;split at e
  . rename_i n
    obtain⟨o,hp1,t,j⟩:=bind_some e;obtain⟨u,rfl⟩:=Zl t;obtain⟨v,rfl,x⟩:=rl.cg;obtain⟨a,rfl,_,q⟩:=ao.aX W x u;cases o with
    |ins _ _=>cases j
    |lst y=>obtain⟨rfl,rfl⟩:=Qk j;obtain⟨ys,l,l1⟩:=q;exact XA i s σ H _ us Q I r ⟨a,ys,rfl,.inl (SqL.of l),by rw[<- l1.length];exact k _ ρ B H Gr.refl W ZJ⟩
    |aB kvs=>obtain⟨rfl,rfl⟩:=Qk j;obtain⟨ys,l,l1⟩:=q.aB;exact vh i s σ H _ us Q I r ⟨a,ys,rfl,l,by rw[<- l1.len];exact k _ ρ B H Gr.refl W ZJ⟩
  . exact CN i s σ H xs us Q I r ⟨ρ,B,U,_,d,m,W,rl,e,k⟩
def n8:DV->M (List DV)
  |.tup ds=>pure ds
  |.lst ds=>pure ds
  |.ref n=>do
    match <- Zi n with
    |.lst ds=>pure ds
    |_=>failure
  |_=>failure
theorem k5{d:DV}{ds:List DV}{U i:Hs}{K:Aa}{ρ:C9}{B:C8}{H:Hp}{v:V}(W:aW K ρ B U H)(r:ao K ρ B H d v)(h:n8 d U=some (ds,i)):U=i/\∃p xs,v=.ref p/\(SqL K H p xs∨SqT K H p xs)/\aj K ρ B H ds xs:=by
  cases d with
  |tup xs=>obtain⟨rfl,rfl⟩:=Qk h;obtain⟨a,ys,rfl,_,m,l⟩:=r.tupI;exact⟨rfl,a,ys,rfl,.inr m,l⟩
  |lst xs=>obtain⟨rfl,rfl⟩:=Qk h;obtain⟨a,ys,rfl,_,m,l⟩:=r.bV;exact⟨rfl,a,ys,rfl,.inl m,l⟩
  |ref n =>
    obtain⟨o,hp1,q,j⟩:=bind_some (show(Zi n >>= λo=>(match o with|.lst ds=>pure ds|_=>failure:M (List DV))) U=some (ds,i)from h);obtain⟨t,rfl⟩:=Zl q;cases o with
    |lst x=>obtain⟨rfl,rfl⟩:=Qk j;obtain⟨a,rfl,_,ys,u,l1⟩:=ao.aX W r t;exact⟨rfl,a,ys,rfl,.inl (SqL.of u),l1⟩
    |aB _=>cases j
    |ins _ _=>cases j
  |non=>cases h
  |bl _=>cases h
  |int _=>cases h
  |str _=>cases h
def kA(g:DV->M DV):List DV->M DV
 | [d]=>g d
 |_=>failure
def JZ:List DV->M DV:=kA λd=>do let ds <- n8 d;pure (.lst ds)
theorem zD{g:DV->M DV}{ds:List DV}{d:DV}{U i:Hs}(h:kA g ds U=some (d,i)):∃x,ds=[x]/\g x U=some (d,i):=by
 unfold kA at h;split at h
 ·exact⟨_,rfl,h⟩
 ·cases h
theorem jI:Z5 X (.type "list") (fK X.K JZ):=by intro i s σ H xs us Q I r h;obtain⟨ρ,B,U,ds,d,n,W,rl,e,k⟩:=h;obtain⟨x,rfl,e⟩:=zD e;obtain⟨t,hp1,j,m⟩:=bind_some e;obtain⟨rfl,rfl⟩:=Qk m;obtain⟨v,rfl,o⟩:=rl.cg;obtain⟨rfl,p,ys,rfl,q,l⟩:=k5 W o j;exact Vc i s σ H _ us Q I r ⟨p,ys,rfl,q,XF W l k⟩
end
def bH:Nat->Hs->DV->Option DV
  |0,_,_=>none
  |n+1,U,d=>match d with
    |.ref i=>match U[i]? with
      |some (.lst ds)=>(ds.mapM (bH n U)).map .lst
      |_=>none
    |.tup ds=>(ds.mapM (bH n U)).map .tup
    |.lst ds=>(ds.mapM (bH n U)).map .lst
    |d=>some d
theorem xl{α β:Type}{f:α->Option β}{x:α}{xs:List α}{ys:List β}(h:(x::xs).mapM f=some ys):∃y a,f x=some y/\xs.mapM f=some a/\ys=y::a:=by
  rw[List.mapM_cons]at h;cases q:f x with
  |none=>rw[q]at h;cases h
  |some y =>
    cases b:xs.mapM f with
    |none=>rw[q,b]at h;cases h
    |some a=>rw[q,b]at h;exact⟨y,a,rfl,rfl,(Aj h).symm⟩
section
variable{X:Cx}{O9:C4}{σ:St}{H:Hp}{s:Shared}{ρ:C9}{B:C8}{U:Hs}
theorem Xt(I:Inv X O9 σ H s)(W:aW X.K ρ B U H):∀(n:Nat)(d d':DV)(v:V)(u:Value),bH n U d=some d'->ao X.K ρ B H d v->RelV v u->∃j,Reads s.heap u (toP d') j
  |0,_,_,_,_,h,_,_=>by cases h
  |n+1,d,d',v,u,h,r,f=>by
    have all:∀(ds c:List DV)(xs:List V)(us:List Value),ds.mapM (bH n U)=some c->aj X.K ρ B H ds xs->Vals xs us->∃j,ReadsAll s.heap us (aV c) j:=by
      intro ds;induction ds with
      |nil=>intro c xs us h r f;rw[List.mapM_nil]at h;cases h;unfold aj at r;subst r;cases f;exact⟨[],by unfold aV;exact .nil⟩
      |cons x ds R =>
        intro c xs us h r f;obtain⟨y,zs,m,J,rfl⟩:=xl h;unfold aj at r;obtain⟨z,t,rfl,Z,r2⟩:=r;cases f with
        |cons T Y=>obtain⟨j,P⟩:=Xt I W n x y z _ m Z T;obtain⟨bs,Q⟩:=R zs t _ J r2 Y;exact⟨_,by unfold aV;exact .cons P Q⟩
    have lst:∀(ds c:List DV)(a:Addr)(xs:List V),ds.mapM (bH n U)=some c->SqL X.K H a xs->aj X.K ρ B H ds xs->∃j,Reads s.heap (.ref a) (toP (.lst c)) j:=by intro ds c a xs h F rl;obtain⟨C,O,⟨o,k,e,L,_,hd⟩,_⟩:=I.list F;obtain⟨j,q⟩:=all ds c xs C h rl O;exact⟨_,by unfold toP;exact reads_list_at e L hd (by simpa using q)⟩
    unfold bH at h;cases d with
    |non=>cases h;obtain rfl:=r.dN;cases f;exact⟨[],by unfold toP;exact .none⟩
    |bl b=>cases h;obtain rfl:=r.eO;cases f;exact⟨[],by unfold toP;exact .bool b⟩
    |int i=>cases h;obtain rfl:=r.bf;obtain⟨t,rfl⟩:=f;exact⟨[],by unfold toP;exact .int i t⟩
    |str x=>cases h;obtain rfl:=r.dM;obtain⟨t,rfl⟩:=f;exact⟨[],by unfold toP;exact .str x t⟩
    |tup ds=>obtain⟨c,m,rfl⟩:=Bv.mp h;obtain⟨a,xs,rfl,_,F,rl⟩:=r.tupI;cases f;obtain⟨C,O,⟨o,e,L,k,hd⟩,_⟩:=I.tuple F;obtain⟨j,q⟩:=all ds c xs C m rl O;exact⟨_,by unfold toP;exact reads_tuple_at e L hd (by simpa using q)⟩
    |lst ds=>obtain⟨c,m,rfl⟩:=Bv.mp h;obtain⟨a,xs,rfl,_,F,rl⟩:=r.bV;cases f;exact lst ds c a xs m F rl
    |ref i =>
      cases q:U[i]? with
      |none=>simp only[q]at h;cases h
      |some o =>
        simp only[q]at h;cases o with
        |aB _=>cases h
        |ins _ _=>cases h
        |lst ds=>obtain⟨c,m,rfl⟩:=Bv.mp h;obtain⟨a,rfl,_,xs,J,l⟩:=ao.aX W r q;cases f;exact lst ds c a xs m (SqL.of J) l
end
def Kl(d:DV):M DV:=λU=>(bH 40 U d).map λx=>(x,U)
theorem yv{d d':DV}{U a:Hs}(h:Kl d U=some (d',a)):bH 40 U d=some d'/\U=a:=by obtain⟨x,b,c⟩:=Bv.mp h;cases c;exact⟨b,rfl⟩
def Yb(x y:DV):M Bool:=do
 let x' <- Kl x
 let y' <- Kl y
 QM (SeqAt.shaped (toP x')&&SeqAt.shaped (toP y'))
 pure (PyData.eqv (toP x') (toP y'))
def aK:DV->DV->M DV:=λx y=>do let b <- Yb x y;pure (.bl b)
def bU:DV->DV->M DV:=λx y=>do let b <- Yb x y;pure (.bl (!b))
section
variable{X:Cx}{e a b c:Expr}{f fa fb fc:au}{ca cb:bO}{pos:Pos}
theorem yA{x y:DV}{k:Bool}{U d:Hs}(h:Yb x y U=some (k,d)):∃i j,bH 40 U x=some i/\bH 40 U y=some j/\SeqAt.shaped (toP i)=true/\SeqAt.shaped (toP j)=true/\k=PyData.eqv (toP i) (toP j)/\U=d:=by obtain⟨i,hp1,m,h⟩:=bind_some h;obtain⟨j,hp2,n,h⟩:=bind_some h;obtain⟨_,q,o,h⟩:=bind_some h;obtain⟨r,rfl⟩:=yv m;obtain⟨t,rfl⟩:=yv n;obtain⟨l,rfl⟩:=QF o;obtain⟨rfl,rfl⟩:=Qk h;rw[A4]at l;exact⟨i,j,r,t,l.1,l.2,rfl,rfl⟩
theorem Zx(o:X.A.units+64<cLine):P2 X (compareOp .Eq) aK:=by intro J s σ H x y v u Q I rx ry h;obtain⟨ρ,B,U,O,P,d,n,W,t,z,e,k⟩:=h;obtain⟨b,hp1,l,m⟩:=bind_some e;obtain⟨rfl,rfl⟩:=Qk m;obtain⟨R,T,q,r,C,F,rfl,rfl⟩:=yA l;obtain⟨L,i⟩:=Xt I W _ _ _ _ _ q t rx;obtain⟨bs,j⟩:=Xt I W _ _ _ _ _ r z ry;exact eq_dataH i j C F o ⟨.bl _,H,I,rfl,k _ ρ B H Gr.refl W J1⟩
theorem qL(o:X.A.units+64<cLine):P2 X (compareOp .NotEq) bU:=by intro J s σ H x y v u Q I rx ry h;obtain⟨ρ,B,U,O,P,d,n,W,t,z,e,k⟩:=h;obtain⟨b,hp1,l,m⟩:=bind_some e;obtain⟨rfl,rfl⟩:=Qk m;obtain⟨R,T,q,r,C,F,rfl,rfl⟩:=yA l;obtain⟨L,i⟩:=Xt I W _ _ _ _ _ q t rx;obtain⟨bs,j⟩:=Xt I W _ _ _ _ _ r z ry;exact ne_dataH i j C F o ⟨.bl _,H,I,rfl,k _ ρ B H Gr.refl W J1⟩
def ZY:DV->Bool
 |.non=>true
 |.bl _=>true
 |.int _=>true
 |.str _=>true
 |_=>false
def tU:DV->DV->Bool
 |.non,.non=>true
 |.bl a,.bl b=>a==b
 |.bl a,.int b=>(if a then 1 else 0)==b
 |.int a,.bl b=>a==(if b then 1 else 0)
 |.int a,.int b=>a==b
 |.str a,.str b=>a==b
 |_,_=>false
def iI:DV->V
 |.non=>.non
 |.bl b=>.bl b
 |.int i=>.int i
 |.str x=>.str x
 |_=>.non
theorem G8{K:Aa}{ρ:C9}{B:C8}{H:Hp}{d:DV}{v:V}(h:ZY d=true)(r:ao K ρ B H d v):v=iI d:=by
 cases d<;>simp[ZY]at h
 ·exact r.dN
 ·exact r.eO
 ·exact r.bf
 ·exact r.dM
theorem Uu{d:DV}(h:ZY d=true):J8 (iI d)=true:=by cases d<;>simp[ZY]at h<;>rfl
theorem Sg{d e:DV}(h:ZY d=true)(h':ZY e=true):eqV (iI d) (iI e)=tU d e:=by cases d<;>simp[ZY]at h<;>cases e<;>simp[ZY]at h'<;>rfl
theorem G7{K:Aa}{ρ:C9}{B:C8}{H:Hp}:∀{ds:List DV}{xs:List V},ds.all ZY=true->aj K ρ B H ds xs->xs=ds.map iI
  | [],_,_,r=>by unfold aj at r;exact r
  |d::ds,_,h,r=>by unfold aj at r;obtain⟨x,t,rfl,i,j⟩:=r;rw[Cm,A4]at h;rw[G8 h.1 i,G7 h.2 j];rfl
def inB(d:DV)(ds:List DV):Bool:=ds.any λy=>tU y d
theorem Go{d:DV}(h:ZY d=true):∀{ds:List DV},ds.all ZY=true->inV (iI d) (ds.map iI)=inB d ds
  | [],_=>rfl
  |x::ds,h'=>by rw[Cm,A4]at h';have i:=Go h h'.2;unfold inV inB at i ⊢;rw[A3,Cb,Cb,i,Sg h'.1 h]
theorem V5:∀{ds:List DV},ds.all ZY=true->(ds.map iI).all J8=true
  | [],_=>rfl
  |x::ds,h=>by rw[Cm,A4]at h;rw[A3,Cm,Uu h.1,V5 h.2];rfl
def oK(x:DV):DV->M Bool
  |.ref n=>do
    match <- Zi n with
    |.lst ds=>do QM (ZY x&&ds.all ZY);pure (inB x ds)
    |.aB kvs=>do let k <- Xr x;pure (ZA kvs k).isSome
    |_=>failure
  |.tup ds=>do QM (ZY x&&ds.all ZY);pure (inB x ds)
  |.lst ds=>do QM (ZY x&&ds.all ZY);pure (inB x ds)
  |_=>failure
def eF:DV->DV->M DV:=λx y=>do let b <- oK x y;pure (.bl b)
theorem Kt{x y:DV}{k:Bool}{U d:Hs}{K:Aa}{ρ:C9}{B:C8}{H:Hp}{l t:V}(W:aW K ρ B U H)(C:ao K ρ B H x l)(z:ao K ρ B H y t)(h:oK x y U=some (k,d)):U=d /\
    ((∃p xs,t=.ref p/\(SqL K H p xs∨SqT K H p xs)/\J8 l=true/\xs.all J8=true/\k=inV l xs)∨∃a kvs q,t=.ref a/\l=kV q/\H a=some (.dK kvs)/\k=(Js kvs q).isSome):=by
  have j:∀(ds:List DV)(xs:List V)(p:Addr),(do QM (ZY x&&ds.all ZY);pure (inB x ds):M Bool) U=some (k,d)->aj K ρ B H ds xs->(SqL K H p xs∨SqT K H p xs)->t=.ref p->U=d/\(∃p xs,t=.ref p/\(SqL K H p xs∨SqT K H p xs)/\J8 l=true/\xs.all J8=true/\k=inV l xs):=by intro ds xs p h rl r P;obtain⟨_,hp1,u,m⟩:=bind_some h;obtain⟨i,rfl⟩:=QF u;obtain⟨rfl,rfl⟩:=Qk m;rw[A4]at i;have ex:=G7 i.2 rl;have I:=G8 i.1 C;subst ex I;exact⟨rfl,p,_,P,r,Uu i.1,V5 i.2,(Go i.1 i.2).symm⟩
  cases y with
  |tup ds=>obtain⟨a,xs,rfl,_,r,rl⟩:=z.tupI;exact(j ds xs a h rl (.inr r) rfl).imp id .inl
  |lst ds=>obtain⟨a,xs,rfl,_,r,rl⟩:=z.bV;exact(j ds xs a h rl (.inl r) rfl).imp id .inl
  |ref n =>
    obtain⟨o,hp1,u,m⟩:=bind_some h;obtain⟨J,rfl⟩:=Zl u;obtain⟨a,rfl,_,F⟩:=ao.aX W z J;cases o with
    |lst ds=>obtain⟨xs,v,rl⟩:=F;exact(j ds xs a m rl (.inl (SqL.of v)) rfl).imp id .inl
    |aB kvs=>obtain⟨q,hp2,L,O⟩:=bind_some m;obtain⟨Q,rfl⟩:=Jo L;obtain⟨rfl,rfl⟩:=Qk O;obtain⟨xs,v,R⟩:=F.aB;refine⟨rfl,.inr ⟨a,xs,q,rfl,JA Q C,v,?_⟩⟩;rcases R.val q with ⟨z1,z2⟩|⟨_,_,z1,z2,_⟩<;>rw[z1,z2]<;>rfl
    |ins _ _=>cases m
  |non=>cases h
  |bl _=>cases h
  |int _=>cases h
  |str _=>cases h
theorem kE(t:X.A.units+1<cLine):P2 X (compareOp .In) eF:=by
 intro j s σ H x y v u Q I rx ry h;obtain⟨ρ,B,U,L,O,d,r,W,C,F,e,k⟩:=h;obtain⟨b,hp1,l,m⟩:=bind_some e;obtain⟨rfl,rfl⟩:=Qk m;obtain⟨rfl,h⟩:=Kt W C F l;have i:=k _ ρ B H Gr.refl W (J1 (b:=b));rcases h with ⟨p,xs,rfl,J,n,o,rfl⟩|⟨a,kvs,z,rfl,rfl,q,rfl⟩
 ·exact vS j s σ H _ _ v u Q I rx ry ⟨p,xs,rfl,J,n,o,i⟩
 ·exact Kw t j s σ H _ _ v u Q I rx ry ⟨a,kvs,z,rfl,rfl,q,i⟩
def nY(o i d:DV):M Unit:=match o with
  |.ref n=>do
    match <- Zi n with
    |.lst ds=>do
      let k <- f9 i
      match ixN ds.length k with
      |some j=>qW n (.lst (ds.set j d))
      |none=>failure
    |.aB kvs=>do
      let k <- Xr i
      QM (decide (kvs.length<lim))
      qW n (.aB (Z9 kvs k d))
    |_=>failure
  |_=>failure
def DK(K:Aa)(g:DV->DV->DV->M Unit):oA:=λo i v H Q=>∃ρ B U h j dv d,aW K ρ B U H/\ao K ρ B H h o/\ao K ρ B H j i/\ao K ρ B H dv v/\g h j dv U=some ((),d)/\∀ρ' B' H',Gr K ρ B H ρ' B' H'->aW K ρ' B' d H'->Q H'
theorem aj.set{K:Aa}{ρ:C9}{B:C8}{H:Hp}{d:DV}{x:V}(r:ao K ρ B H d x):∀{ds:List DV}{xs:List V}(i:Nat),aj K ρ B H ds xs->aj K ρ B H (ds.set i d) (xs.set i x)
  | [],_,i,h=>by unfold aj at h;subst h;exact aj.nil
  |_::ds,_,0,h=>by unfold aj at h;obtain⟨y,t,rfl,_,j⟩:=h;exact aj.cons r j
  |_::ds,_,i+1,h=>by unfold aj at h;obtain⟨y,t,rfl,l,j⟩:=h;exact aj.cons l (aj.set r i j)
theorem Ia(hu:X.A.units+1<cLine):oE X (DK X.K nY):=by
  intro y s σ H o i v ov iv u Q I ro ri rv h;obtain⟨ρ,B,U,P,di,dv,aa,W,r1,F,J,e,k⟩:=h;cases P with
  |ref n =>
    obtain⟨ob,hp1,R,t⟩:=bind_some e;obtain⟨T,rfl⟩:=Zl R;obtain⟨a,rfl,z,O⟩:=ao.aX W r1 T;cases ob with
    |ins _ _=>cases t
    |lst ds =>
      obtain⟨j,hp2,x,d⟩:=bind_some t;obtain⟨rfl,rfl⟩:=jE x;obtain⟨xs,l,l1⟩:=O;cases q:ixN ds.length j with
      |none=>simp only[q]at d;cases d
      |some m=>simp only[q]at d;cases d;obtain⟨g,r⟩:=qZ W z l (aj.set J m l1);exact set_list y s σ H _ _ v ov iv u Q I ro ri rv ⟨a,xs,j,m,rfl,F.bf,l,by rw[<- l1.length];exact q,k ρ B _ g r⟩
    |aB kvs=>obtain⟨C,hp2,x,d⟩:=bind_some t;obtain⟨Y,rfl⟩:=Jo x;obtain⟨_,ad,e6,e7⟩:=bind_some d;obtain⟨Z,rfl⟩:=QF e6;cases e7;obtain⟨xs,l,L⟩:=O.aB;obtain⟨g,r⟩:=xX W z l (L.put C J);exact k7 hu y s σ H _ _ v ov iv u Q I ro ri rv ⟨a,xs,C,rfl,JA Y F,l,by rw[<- L.len];exact Av (Cz Z) xh,k ρ B _ g r⟩
  |non=>cases e
  |bl _=>cases e
  |int _=>cases e
  |str _=>cases e
  |tup _=>cases e
  |lst _=>cases e
def fu(f g:au):h_:=λd env=>do
 let o <- f env
 let i <- g env
 nY o i d
 pure env
theorem X6{o i:Expr}{q n:au}(Y:X.A.units+1<cLine)(R:DE X o q)(hi:DE X i n)
  (ha:∀v,assign (.Subscript o i pos) X.env v=(do
   let ov <- holding [v] (eval o X.env)
   let iv <- holding [v,ov] (eval i X.env)
   standAt pos
   holding [v,ov,iv] (setItem ov iv v)
   release [v,ov,iv] []):=by intro _;rfl):PG X (.Subscript o i pos) (mH X.K (fu q n)):=by
 intro J s σ H v u Q I r h;refine Mg R hi (Ia Y) ha J s σ H v u Q I r ?_;obtain⟨Z,env,ρ,B,U,d,m,T,S,rd,e,k⟩:=h;obtain⟨x,hp1,L,e⟩:=bind_some e;obtain⟨y,hp2,O,e⟩:=bind_some e;obtain⟨z,l,P,e⟩:=bind_some e;obtain⟨rfl,rfl⟩:=Qk e;refine tD.run S L λvx ρ1 B1 H1 t S1 r1=>tD.run S1 O λvy ρ2 F H2 j S2 r2=>?_;exact⟨ρ2,F,hp2,x,y,d,l,S2.wo,ao.grow S1.wo.rb j _ _ r1,r2,ao.grow S.wo.rb (t.trans j) _ _ rd,P,λρ3 B3 H3 C W3=>k _ ρ3 B3 H3 ((t.trans (j.trans C)).gs S.wo.rb) (S2.grow C W3)⟩
def zR:String->DV->M Unit
  | "list", .lst _=>pure ()
  | "str", .str _=>pure ()
  |T,.ref n=>do
    match <- Zi n with
    |.lst _=>QM (T == "list")
    |.aB _=>QM (T == "dict")
    |_=>failure
  |_,_=>failure
theorem gQ{T:String}{d:DV}{U i:Hs}{K:Aa}{ρ:C9}{B:C8}{H:Hp}{v:V}{u:Unit}(W:aW K ρ B U H)(r:ao K ρ B H d v)(h:zR T d U=some (u,i)):U=i/\tyV K T v H:=by
  unfold zR at h;split at h
  . obtain⟨_,rfl⟩:=Qk h
    obtain⟨a,xs,rfl,_,x,_⟩:=r.bV;exact⟨rfl,.inl ⟨rfl,xs,x⟩⟩
  . obtain⟨_,rfl⟩:=Qk h
    obtain rfl:=r.dM;exact⟨rfl,rfl⟩
  . obtain⟨o,hp1,q,j⟩:=bind_some h
    obtain⟨t,rfl⟩:=Zl q;obtain⟨a,rfl,_,n⟩:=ao.aX W r t;cases o with
    |lst ds=>obtain⟨m,rfl⟩:=QF j;obtain⟨xs,l,_⟩:=n;exact⟨rfl,.inl ⟨by simpa using m,xs,SqL.of l⟩⟩
    |aB kvs=>obtain⟨m,rfl⟩:=QF j;obtain⟨xs,l,_⟩:=n;exact⟨rfl,.inr (.inr (.inl ⟨by simpa using m,.inl ⟨xs,l⟩⟩))⟩
    |ins _ _=>cases j
  . cases h
def lW(K:Aa)(m:DV->List DV->M DV):V->List V->Hp->VK->Prop:=λx vs H Q=>∃ρ B U i ds d h,aW K ρ B U H/\ao K ρ B H i x/\aj K ρ B H ds vs/\m i ds U=some (d,h)/\fB K ρ B H d h Q
def ZI(T:String)(m:DV->List DV->M DV)(f:au)(a:bR):au:=λenv=>do
 let x <- f env
 zR T x
 let ds <- a env
 m x ds
theorem Jn{T id:String}{name:Str}{o:Expr}{es:List Expr}{r:au}{fs:bR}{m:DV->List DV->M DV}{i h:Pos}(Y:MtR X id (lW X.K m))(pa:PlainAttrs T)(slot:Slot T name id)(n:typeOf (.builtin id)=pure (.type "method_descriptor"))(ho:DE X o r)(R:DA X (e::es) fs)
  (hbase:attributeBase o name X.env (eval o X.env)=eval o X.env:=by rfl)
  (hfew:((backTo h (starEach (e::es) X.env)).all (λx=>!x.1)&&(backToKw h (keywordEach [] X.env)).all (λx=>x.1.isSome)
   && decide ((e::es).length+([]:List Keyword).length+(if ([]:List Keyword).isEmpty then 0 else 1)<30))=true:=by rfl)
  (hline:(i.endLine==h.line)=true:=by rfl) (hs:starEach (e::es) X.env=(false,eval e X.env)::starEach es X.env:=by rfl) (hplain:(backTo h (starEach es X.env)).any (·.1)=false:=by rfl) :
  DE X (.Call (.Attribute o name i) (e::es) [] h) (ZI T m r fs) :=
 L2.PE.imp (w6 pa slot n Y ho R hbase hfew hline hs hplain) λσ H Q C=>by obtain⟨Z,env,ρ,B,U,d,j,S,e,k⟩:=C;obtain⟨x,hp1,F,J⟩:=bind_some e;obtain⟨_,hp2,I,L⟩:=bind_some J;obtain⟨ds,l,q,O⟩:=bind_some L;refine tD.run S F λv ρ1 B1 H1 P S1 u=>?_;obtain⟨z,ty⟩:=gQ S1.wo u I;rw[<- z]at q;exact⟨ty,dY.run S1 q λvs ρ2 y H2 t S2 r2=>⟨ρ2,y,l,x,ds,d,j,S2.wo,ao.grow S1.wo.rb t _ _ u,r2,O,k.after (P.trans t)⟩⟩
def mR(x:DV)(k:Nat->List DV->M DV):M DV:=match x with
  |.ref n=>do
    match <- Zi n with
    |.lst ds=>k n ds
    |_=>failure
  |_=>failure
def lY(x:DV)(k:Nat->List (Key×DV)->M DV):M DV:=match x with
  |.ref n=>do
    match <- Zi n with
    |.aB ds=>k n ds
    |_=>failure
  |_=>failure
theorem qK{x d:DV}{k:Nat->List DV->M DV}{U i:Hs}(h:mR x k U=some (d,i)):∃n ds,x=.ref n/\U[n]?=some (.lst ds)/\k n ds U=some (d,i):=by
  cases x with
  |ref n =>
    obtain⟨o,hp1,l,j⟩:=bind_some h;obtain⟨m,rfl⟩:=Zl l;cases o with
    |lst ds=>exact⟨n,ds,rfl,m,j⟩
    |aB _=>cases j
    |ins _ _=>cases j
  |_=>cases h
theorem Yj{x d:DV}{k:Nat->List (Key×DV)->M DV}{U i:Hs}(h:lY x k U=some (d,i)):∃n ds,x=.ref n/\U[n]?=some (.aB ds)/\k n ds U=some (d,i):=by
  cases x with
  |ref n =>
    obtain⟨o,hp1,l,j⟩:=bind_some h;obtain⟨m,rfl⟩:=Zl l;cases o with
    |aB ds=>exact⟨n,ds,rfl,m,j⟩
    |lst _=>cases j
    |ins _ _=>cases j
  |_=>cases h
def Jw(x:DV):List DV->M DV
 | [d]=>mR x λn ds=>do QM (decide (ds.length<lim));qW n (.lst (ds++[d]));pure .non
 |_=>failure
theorem qI:MtR X "list.append" (lW X.K Jw):=by
 intro l s σ H x vs v us Q I rx rv h;obtain⟨ρ,B,U,J,es,d,u,W,C,F,e,k⟩:=h;unfold Jw at e;split at e
 ·rename_i y;obtain⟨n,ds,rfl,r,e⟩:=qK e;obtain⟨_,hp1,o,q⟩:=bind_some e;obtain⟨t,rfl⟩:=QF o;cases q;obtain⟨a,rfl,z,xs,j,l1⟩:=ao.aX W C r;obtain⟨w,rfl,i⟩:=F.cg;obtain⟨g,m⟩:=qZ W z j (aj.append l1 (aj.one i));exact zC l s σ H _ _ v us Q I rx rv ⟨a,xs,w,rfl,rfl,j,by rw[<- l1.length];exact Av (Cz t) xh,k _ ρ B _ g m XR⟩
 ·cases e
def yF(x:DV):List DV->M DV
  | [y]=>lY x λn kvs=>do
    let k <- Xr y
    let d <- UH (ZA kvs k)
    qW n (.aB (Je kvs k))
    pure d
  | [y,z]=>lY x λn kvs=>do
    let k <- Xr y
    match ZA kvs k with
    |some d=>do qW n (.aB (Je kvs k));pure d
    |none=>pure z
  |_=>failure
theorem g9:MtR X "dict.pop" (lW X.K yF):=by
 intro u s σ H x vs v us Q I rx rv h;obtain⟨ρ,B,U,dx,es,d,aa,W,Z,q,e,k⟩:=h;unfold yF at e;split at e
 ·rename_i y;obtain⟨n,kvs,rfl,L,e⟩:=Yj e;obtain⟨j,hp1,J,e⟩:=bind_some e;obtain⟨O,rfl⟩:=Jo J;obtain⟨d',hp2,e2,e⟩:=bind_some e;obtain⟨i,rfl⟩:=YG e2;cases e;obtain⟨a,rfl,P,R⟩:=ao.aX W Z L;obtain⟨xs,m,r⟩:=R.aB;obtain⟨w,rfl,l⟩:=q.cg;obtain rfl:=JA O l;obtain⟨g,C⟩:=xX W P m (r.drop j);rcases r.val j with ⟨z,_⟩|⟨F,v',z,o,T⟩
  ·rw[i]at z;cases z
  ·rw[i]at z;cases z;exact VH u s σ H _ _ v us Q I rx rv ⟨a,xs,j,rfl,m,.inl ⟨rfl,v',o,k _ ρ B _ g C (ao.grow W.rb g _ _ T)⟩⟩
 ·rename_i y z;obtain⟨n,kvs,rfl,L,e⟩:=Yj e;obtain⟨j,hp1,J,e⟩:=bind_some e;obtain⟨O,rfl⟩:=Jo J;obtain⟨a,rfl,P,R⟩:=ao.aX W Z L;obtain⟨xs,m,r⟩:=R.aB;unfold aj at q;obtain⟨w,t,rfl,l,q⟩:=q;obtain rfl:=JA O l;obtain⟨w2,rfl,oY⟩:=q.cg;rcases r.val j with ⟨z1,o⟩|⟨F,v',z1,o,T⟩
  ·rw[z1]at e;obtain⟨rfl,rfl⟩:=Qk e;exact VH u s σ H _ _ v us Q I rx rv ⟨a,xs,j,rfl,m,.inr ⟨w2,rfl,(λv i=>by rw[o]at i;cases i),λ_=>k _ ρ B H Gr.refl W oY⟩⟩
  ·rw[z1]at e;cases e;obtain⟨g,C⟩:=xX W P m (r.drop j);exact VH u s σ H _ _ v us Q I rx rv ⟨a,xs,j,rfl,m,.inr ⟨w2,rfl,(λv i=>by rw[o]at i;cases i;exact k _ ρ B _ g C (ao.grow W.rb g _ _ T)),λY=>by rw[o]at Y;cases Y⟩⟩
 ·cases e
def J0(x:DV):List DV->M DV
  | [y]=>lY x λn kvs=>do
    let k <- Xr y
    pure ((ZA kvs k).getD .non)
  | [y,z]=>lY x λn kvs=>do
    let k <- Xr y
    pure ((ZA kvs k).getD z)
  |_=>failure
theorem xj(P:X.A.units+1<cLine):MtR X "dict.get" (lW X.K J0):=by
 intro O s σ H x vs v us Q I rx rv h;obtain⟨ρ,B,U,dx,es,d,T,W,R,l,e,k⟩:=h;unfold J0 at e;split at e
 ·rename_i y;obtain⟨n,kvs,rfl,r,e⟩:=Yj e;obtain⟨j,hp1,q,e⟩:=bind_some e;obtain⟨C,rfl⟩:=Jo q;obtain⟨rfl,rfl⟩:=Qk e;obtain⟨a,rfl,Y,J⟩:=ao.aX W R r;obtain⟨xs,u,F⟩:=J.aB;obtain⟨w,rfl,i⟩:=l.cg;obtain rfl:=JA C i;refine GI P O s σ H _ _ v us Q I rx rv ⟨a,xs,j,rfl,u,.inl ⟨rfl,k _ ρ B H Gr.refl W ?_⟩⟩;rcases F.val j with ⟨z1,m⟩|⟨o,v',z1,m,L⟩<;>rw[z1,m]
  ·exact XR
  ·exact L
 ·rename_i y z;obtain⟨n,kvs,rfl,r,e⟩:=Yj e;obtain⟨j,hp1,q,e⟩:=bind_some e;obtain⟨C,rfl⟩:=Jo q;obtain⟨rfl,rfl⟩:=Qk e;obtain⟨a,rfl,Y,J⟩:=ao.aX W R r;obtain⟨xs,u,F⟩:=J.aB;unfold aj at l;obtain⟨w,t,rfl,i,l⟩:=l;obtain rfl:=JA C i;obtain⟨w2,rfl,Z⟩:=l.cg;refine GI P O s σ H _ _ v us Q I rx rv ⟨a,xs,j,rfl,u,.inr ⟨w2,rfl,k _ ρ B H Gr.refl W ?_⟩⟩;rcases F.val j with ⟨z1,m⟩|⟨o,v',z1,m,L⟩<;>rw[z1,m]
  ·exact Z
  ·exact L
 ·cases e
end
end D
namespace L2
open PySem PySem.Spec PyProof.Rows
theorem Inv.eE{X:Cx}{a:C4}{σ:St}{H:Hp}{s:Shared}(I:Inv X a σ H s):X.K.lookup s.heap.objs.size=none:=by
 cases q:X.K.lookup s.heap.objs.size with
 |none=>rfl
 |some o=>exact absurd (Ao (I.kIn _ o q)) (Cf _)
theorem vW{X:Cx}{b:Pos}:PE X (.Dict [] [] b) (λ_ H Q=>∀p,H p=none->X.K.lookup p=none->Q (.ref p) (upd H p (.dK []))):=λc s σ H Q I h =>
 wpAny_Dict_empty ⟨.ref s.heap.objs.size,_,I.laid (a:=s.heap.objs.size) (o:=.dK []) (t':=s.toks) (λ_ _ q=>Ad _ q) (Ae _) (uX s.heap I.big),rfl,h _ (I.hok.fresh (Ae _)) I.eE⟩
end L2
namespace D
open PySem PySem.Spec PyProof.Rows L2
section
variable{X:Cx}{e a b c:Expr}{f fa fb fc:au}{ca cb:bO}{pos:Pos}
def Y4(kvs more:List (Key×DV)):List (Key×DV):=more.foldl (λacc d=>Z9 acc d.1 d.2) kvs
theorem aO.merge{K:Aa}{ρ:C9}{B:C8}{H:Hp}{more:List (Key×DV)}{i:List (Key×V)}(r:aO K ρ B H more i):∀{kvs:List (Key×DV)}{xs:List (Key×V)},aO K ρ B H kvs xs->aO K ρ B H (Y4 kvs more) (Yg xs i):=by
  induction r with
  |nil=>intro kvs xs r;exact r
  |@cons p q _ _ h _ d=>intro kvs xs r;unfold Y4 Yg at d ⊢;rw[List.foldl_cons,List.foldl_cons,h.1];exact d (r.put q.1 h.2)
def X9:au:=λ_=>Xg (.aB [])
theorem qt:DE X (.Dict [] [] pos) X9:=L2.PE.imp vW λσ H Q j=>by obtain⟨Z,env,ρ,B,U,d,l,S,e,k⟩:=j;cases e;intro p i h;have g:Gr X.K ρ B H (ρ++[p]) (YX B p) (upd H p (.dK [])):=Gr.dw i h;refine k _ _ _ _ g (S.wo.dw i h (aO.fD (xs:=[]) .nil Q5)) ?_;unfold ao;exact⟨p,rfl,by rw[<- S.wo.len];simp⟩
abbrev NX:=Nat->M (Option DV)
def uE(K:Aa)(ρ:C9)(B:C8)(H:Hp)(nxt:NX)(J:It):Prop :=
  ∀ρ1 B1 hp1 h, Gs K ρ B H ρ1 B1 h -> aW K ρ1 B1 hp1 h -> ∀(i : Nat)(o : Option DV)(hp2 : Hs), nxt i hp1 = some (o, hp2) -> hp2 = hp1 /\ match o with
    |none=>J.stop i h
    |some d=>J.go i h/\∀x H',J.yld i h x H'->ao K ρ1 B1 H' d x/\(H'=h∨∃p o,h p=none/\H'=upd h p o)
abbrev iw:=En->M NX
def rY(K:Aa)(f:iw):TI:=λσ H R=>∃Z env ρ B U nxt d,bK K Z env σ ρ B U H/\f env U=some (nxt,d)/\∀J ρ' B' H',Gr K ρ B H ρ' B' H'->aW K ρ' B' d H'->uE K ρ' B' H' nxt J->R J H'
def DX(X:Cx)(h d:Expr)(f:iw):Prop:=PI X h d (rY X.K f)
def cU(ds:List DV):NX:=λi=>if i<=ds.length then pure ds[i]? else failure
def eU(n:Nat):NX:=λi=>do
 match <- Zi n with
 |.lst ds=>pure ds[i]?
 |_=>failure
theorem kz{K:Aa}{ρ:C9}{B:C8}{H:Hp}{ds:List DV}{J:It}(h:oF K ρ B H ds J):uE K ρ B H (cU ds) J:=λρ1 B1 hp1 H1 g W i o hp2 e=>by
  unfold cU at e;by_cases hi:i<=ds.length
  . rw[Ct hi]at e
    obtain⟨rfl,rfl⟩:=Qk e;obtain⟨j,l⟩:=h ρ1 B1 H1 g W.rb W.bt;refine⟨rfl,?_⟩;cases q:ds[i]? with
    |none =>
      have:i=ds.length:=by have:=List.getElem?_eq_none_iff.mp q;lia
      subst this;exact l
    |some d=>exact j i d q
  . rw[Cs hi]at e;cases e
theorem Oi{K:Aa}{ρ:C9}{B:C8}{H:Hp}{n:Nat}{a:Addr}(v:ρ[n]?=some a)(kf:∀h:Hp,∀xs ys,h a=some (.lst xs)->SqL K h a ys->ys=xs):uE K ρ B H (eU n) (Itl K a):=λρ1 B1 hp1 h g W i o hp2 e=>by
  obtain⟨C,z,r,j⟩:=bind_some e;obtain⟨t,rfl⟩:=Zl r;have m:=GP g.pre v;cases C with
  |aB _=>cases j
  |ins _ _=>cases j
  |lst ds =>
    obtain⟨rfl,rfl⟩:=Qk j;obtain⟨xs,l,l1⟩:=W.obj n a _ m t;refine⟨rfl,?_⟩;cases q:ds[i]? with
    |none=>exact⟨xs,SqL.of l,by rw[<- l1.length];exact List.getElem?_eq_none_iff.mp q⟩
    |some d=>obtain⟨x,hx,F⟩:=l1.get q;refine⟨⟨xs,x,SqL.of l,hx⟩,λy H' ⟨u,hy⟩=>?_⟩;subst u;have:=hy xs (SqL.of l);rw[hx]at this;cases this;exact⟨F,.inl rfl⟩
theorem RM{K:Aa}{a:Addr}(d:K.lookup a=none)(H:Hp)(xs ys:List V)(h:H a=some (.lst xs))(h':SqL K H a ys):ys=xs:=by
 rcases h' with (h'|⟨o,h'⟩)|⟨o,_,_,h',_⟩
 ·rw[h]at h';cases h';rfl
 ·rw[h]at h';cases h'
 ·rw[d]at h';cases h'
def iH(f:lV):iw:=λenv=>do let ds <- f env;pure (cU ds)
def dj(f:au):iw:=λenv=>do
  match <- f env with
  |.lst ds=>pure (cU ds)
  |.ref n=>do
    match <- Zi n with
    |.lst _=>pure (eU n)
    |_=>failure
  |_=>failure
variable{tg iter:Expr}
theorem Up{g:lV}(h:DI X tg iter g):DX X tg iter (iH g):=L2.PI.imp h λσ H R d=>by obtain⟨Z,env,ρ,B,U,nxt,l,S,e,k⟩:=d;obtain⟨ds,hp1,i,j⟩:=bind_some e;obtain⟨rfl,rfl⟩:=Qk j;exact⟨Z,env,ρ,B,U,ds,hp1,S,i,λJ ρ' B' H' g W m=>k J ρ' B' H' g W (kz m)⟩
theorem Ju(h:DE X iter f):DX X tg iter (dj f):=L2.PI.imp (Pa (L2.PE.kf h)) λσ H R u=>by
  obtain⟨Z,env,ρ,B,U,nxt,l,S,e,k⟩:=u;obtain⟨d,hp1,x,i⟩:=bind_some e;refine tD.run S x λv ρ1 B1 H1 m S1 r kf=>?_;cases d with
  |lst ds=>obtain⟨rfl,rfl⟩:=Qk i;obtain⟨a,xs,rfl,nb,t,rl⟩:=r.bV;exact⟨a,rfl,⟨xs,t⟩,k _ ρ1 B1 H1 m S1.wo (kz (R0 nb t rl))⟩
  |ref n =>
    obtain⟨o,hp2,y,j⟩:=bind_some (show(Zi n >>= λo=>(match o with|.lst _=>pure (eU n)|_=>failure:M NX)) hp1=some (nxt,l)from i);obtain⟨C,e6⟩:=Zl y;cases o with
    |lst ds=>obtain⟨rfl,z⟩:=Qk j;rw[<- z,<- e6]at k;obtain⟨a,rfl,F,xs,q,_⟩:=ao.aX S1.wo r C;exact⟨a,rfl,⟨xs,SqL.of q⟩,k _ ρ1 B1 H1 m S1.wo (Oi F (RM (kf a _ q)))⟩
    |aB _=>cases j
    |ins _ _=>cases j
  |non=>cases i
  |bl _=>cases i
  |int _=>cases i
  |str _=>cases i
  |tup _=>cases i
def XG(nxt:NX)(b:DV->aG):Nat->Nat->aG
  |0,_,_=>failure
  |m+1,i,env=>do
    match <- nxt i with
    |none=>pure (.nx,env)
    |some d=>do
      let r <- b d env
      match r.1 with
      |.nx=>XG nxt b m (i+1) r.2
      |.ct=>XG nxt b m (i+1) r.2
      |.bk=>pure (.nx,r.2)
      |.rt x=>pure (.rt x,r.2)
def Ym(f:iw)(g:h_)(h:aG):aG:=λenv=>do let nxt <- f env;XG nxt (λd env=>do let env' <- g d env;h env') 100000 0 env
theorem Yy{j:List Stmt}{Y:iw}{g:h_}{sb:aG}(U:PassesOwn (model X.prog X.w) X.A X.env X.xe)(hc:X.calm=true)(hi:DX X tg iter Y)(hg:PG X tg (mH X.K g))(hb:fJ X j sb)
    (hs:∀x,foldedSetIterable iter X.env x=pure x:=by intro _;rfl):DS X (.For tg iter j [] pos) (Ym Y g sb) :=
  (LQ U hc hi hg hb hs).imp λD σ H aH=>by
    obtain⟨Z,env,ρ,B,U,fl,h,r,S,e,k⟩:=aH;obtain⟨nxt,hp1,e1,e2⟩:=bind_some e;refine⟨Z,env,ρ,B,U,nxt,hp1,S,e1,λJ ρ1 L H1 g1 W1 it=>?_⟩;have k1:=k.after (g1.gs S.wo.rb);refine⟨λi m σ H=>∃env ρ B U,bK X.K Z env σ ρ B U H/\Gs X.K ρ1 L H1 ρ B H/\XG nxt (λd env=>do let h <- g d env;sb h) m i env U=some ((fl,h),r),
      ⟨100000,env,ρ1,L,hp1,S.grow g1 W1,Gs.refl,e2⟩,?_⟩
    rintro i m σ H ⟨lN,ρ2,B2,hp2,S2,g2,n⟩;cases m with
    |zero=>cases n
    |succ m =>
      obtain⟨o,l,eo,n⟩:=bind_some n;obtain⟨rfl,u⟩:=it ρ2 B2 hp2 H g2 S2.wo i o l eo;cases o with
      |none=>obtain⟨z,rfl⟩:=Qk n;cases z;exact .inl ⟨u,k1 σ ρ2 B2 H g2 S2⟩
      |some d =>
        obtain⟨go,yl⟩:=u;obtain⟨⟨T,Q⟩,O,e4,I⟩:=bind_some n;obtain⟨nu,t,e6,e7⟩:=bind_some e4;refine .inr ⟨go,λσ' H'=>∃env ρ B U,bK X.K Z env σ' ρ B U H'/\Gs X.K ρ1 L H1 ρ B H'/\XG nxt (λd env=>do let h <- g d env;sb h) m (i+1) env U=some ((fl,h),r),
          λσ' H' q=>⟨m,Cj m,q⟩,λx H' y=>?_⟩
        obtain⟨rx,hx⟩:=yl x H' y;have R:bK X.K Z lN σ ρ2 B2 l H'/\Gs X.K ρ2 B2 H ρ2 B2 H':=by
          rcases hx with rfl|⟨p,o,P,rfl⟩
          . exact⟨S2,Gs.refl⟩
          . exact⟨S2.grow (Gr.laid P) (S2.wo.laid P),M4 S2.wo.rb P⟩
        refine⟨Z,lN,ρ2,B2,l,d,nu,t,R.1,rx,e6,λσ5 ρ5 B5 H5 g5 S5=>⟨Z,nu,ρ5,B5,t,T,Q,O,S5,e7,λσ6 ρ6 v H6 g6 F=>?_⟩⟩;have C:=g2.trans (R.2.trans (g5.trans g6));cases T with
        |nx=>exact⟨Q,ρ6,v,O,F,C,I⟩
        |ct=>exact⟨Q,ρ6,v,O,F,C,I⟩
        |bk=>obtain⟨z,rfl⟩:=Qk I;cases z;exact k1 σ6 ρ6 v H6 C F
        |rt d=>obtain⟨z,rfl⟩:=Qk I;cases z;exact k1 σ6 ρ6 v H6 C F
def ZX(nxt:NX)(g:DV->M Bool)(f:DV->M DV):Nat->Nat->M (List DV)
  |0,_=>failure
  |m+1,i=>do
    match <- nxt i with
    |none=>pure []
    |some d=>do
      if <- g d then
        let y <- f d
        let ys <- ZX nxt g f m (i+1)
        pure (y::ys)
      else ZX nxt g f m (i+1)
def ZB(i:Bool)(h:iw)(idx:List Nat)(t:bO)(f:au):au:=λenv=>do
 let nxt <- h env
 let out <- ZX nxt (λd=>t (cE idx env d)) (λd=>f (cE idx env d)) lim 0
 if i then Xg (.lst out)else pure (.lst out)
variable{elt:Expr}{x:Str}{px:Pos}{ifs:List Expr}{scope:Scope}{cl:List (Str×Addr)}{caps:List Str}{idx:List Nat}{src:iw}{te:bO}{nw:Bool}
theorem jU{K:Aa}{σ:St}{H:Hp}{Q:VK}(h:tD K (ZB nw src idx te f) σ H Q):G0 K (rY K src) (dX K te) (tD K f) idx σ H Q:=by
  obtain⟨Z,env,ρ,B,U,d,Y,S,e,k⟩:=h;obtain⟨nxt,hp1,e1,e2⟩:=bind_some e;obtain⟨ad,ae,e5,e6⟩:=bind_some e2;refine⟨Z,env,ρ,B,U,nxt,hp1,S,e1,λJ ρ1 B1 H1 g1 W1 it D O hK=>?_⟩;have Fg:=g1.gs S.wo.rb;refine⟨λi m ys H2=>H2 D=some (.lst ys)/\i+m=lim/\∃ρ2 n hp2 l C,Gr K ρ1 B1 H1 ρ2 n H2/\aW K ρ2 n hp2 H2/\n D/\D∉ρ2/\aj K ρ2 n H2 l ys/\l.length<=i /\
    ZX nxt (λd=>te (cE idx env d)) (λd=>f (cE idx env d)) m i hp2=some (C,ae)/\l++C=ad,?_,?_⟩
  . exact⟨lim,Q5,Nat.zero_add _,ρ1,YX B1 D,hp1,[],ad,Gr.banned O hK,W1.banned O hK,.inr rfl,λz=>W1.bt D (W1.rb D z) O,aj.nil,Ae _,e5,rfl⟩
  . rintro i m ys H2 ⟨m9,him,ρ2,n,hp2,l,C,g2,W2,bD,nD,rd,dn,e7,e8⟩
    refine⟨m9,?_⟩;cases m with
    |zero=>cases e7
    |succ m =>
      obtain⟨o,t,eo,e7⟩:=bind_some e7;obtain⟨rfl,aa⟩:=it ρ2 n hp2 H2 (g2.gs W1.rb) W2 i o t eo;cases o with
      |some d0 =>
        obtain⟨go,yl⟩:=aa;obtain⟨b,dJ,e9,e10⟩:=bind_some e7;refine .inr ⟨go,λx H3 y=>?_⟩;obtain⟨rx,hx⟩:=yl x H3 y;have L:Gr K ρ2 n H2 ρ2 n H3/\aW K ρ2 n t H3:=by
          rcases hx with rfl|⟨p,o,hn,rfl⟩
          . exact⟨Gr.refl,W2⟩
          . exact⟨Gr.laid hn,W2.laid hn⟩
        have g3:=g2.trans L.1;have C3:=cσ_ok (idx:=idx) S (Fg.trans (g3.gs W1.rb)) L.2 rx;refine dX.run C3 e9 λρ4 B4 H4 F S4=>?_;have pK:H4 D=some (.lst ys):=F.keep D _ nD (L.1.keep D _ nD m9);have o9:D∉ρ4:=λz=>(F.cA D z).elim nD λq=>by rw[L.1.keep D _ nD m9]at q;cases q
        cases b with
        |false=>exact gO ⟨m,Cj m,pK,⋯,ρ4,B4,dJ,l,C,g3.trans F,S4.wo,F.ban D bD,o9,aj.grow W2.rb (L.1.trans F) _ _ rd,⋯,e10,e8⟩
        |true =>
          obtain⟨z,fY,pU,Fz⟩:=bind_some e10;obtain⟨zs,m7,lO,Fy⟩:=bind_some Fz;obtain⟨rfl,rfl⟩:=Qk Fy;refine gP (tD.run S4 pU λv ρ5 B5 H5 P S5 r5=>?_);have Fb:H5 D=some (.lst ys):=P.keep D _ o9 pK;have sW:D∉ρ5:=λz=>(P.cA D z).elim o9 λq=>by rw[pK]at q;cases q
          have t_:B5 D:=P.ban D (F.ban D bD);have I:=g3.trans (F.trans P);have sO:=aj.grow W2.rb (L.1.trans (F.trans P)) _ _ rd;have trk:∀b,(upd H5 D (.lst (ys++[v]))) b=none->H5 b=none:=λb q=>by
            by_cases e:b=D
            . subst e;rw[Q5]at q;cases q
            . rw[Q4 e]at q;exact q
          have g6:Gs K ρ5 B5 H5 ρ5 B5 (upd H5 D (.lst (ys++[v]))):=⟨Bz,λ_ h=>.inl h,λb o nb h=>by rw[Q4 (show b≠D from λz=>nb (by rw[z];exact t_))];exact h,trk⟩;refine⟨Fb,?_,m,Cj m,Q5,⋯,ρ5,B5,fY,l++[z],zs,?_,?_,t_,sW,aj.gs g6 _ _ (aj.append sO (aj.one r5)),by simp;lia,lO,by rw[<- e8];simp⟩
          . have h1:=sO.length
            have h2:lim<sizeLine:=by decide
            lia
          . exact⟨I.pre,I.ban,I.new,I.cA,λb o nb h=>by rw[Q4 (show b≠D from λq=>by rw[q,O]at h;cases h)];exact I.keep b o nb h,λb q=>I.trk b (trk b q)⟩
          . exact⟨S5.wo.len,S5.wo.nd,λj b o r u=>bB.gs g6 (Q4 (show b≠D from λz=>sW (by rw[<- z];exact At r))) (S5.wo.obj j b o r u),S5.wo.rb,λb z q=>S5.wo.bt b z (trk b q),S5.wo.bk⟩
      |none =>
        obtain⟨z,z'⟩:=Qk e7;subst z;subst z';refine .inl ⟨aa,?_⟩;rw[Bg]at e8;subst e8;cases nw with
        |false =>
          obtain⟨rfl,rfl⟩:=Qk (show(pure (.lst l):M DV) t=some (d,Y)from e6);have R:Gs K ρ2 n H2 ρ2 (λb=>n b/\b≠D) H2:=⟨Bz,λ_ h=>.inl h.1,λ_ _ _ h=>h,λ_ h=>h⟩;refine k (.ref D) ρ2 (λb=>n b/\b≠D) H2 (g1.trans ⟨g2.pre,λb z=>⟨g2.ban b z,λq=>W1.bt b z (q▸O)⟩,λb z=>g2.new b z.1,g2.cA,g2.keep,g2.trk⟩)
            ⟨W2.len,W2.nd,λj b o r u=>bB.gs R rfl (W2.obj j b o r u),λb z=>⟨W2.rb b z,λq=>nD (q▸z)⟩,λb z=>W2.bt b z.1,λb z=>W2.bk b z.1⟩ (jx (λz=>z.2 rfl) (SqL.of m9) (aj.gs R _ _ rd))
        |true =>
          cases (show some (DV.ref t.length,t++[OV.lst l])=some (d,Y)from e6);have R:Gs K ρ2 n H2 (ρ2++[D]) n H2:=⟨List.prefix_append _ _,λ_ h=>.inl h,λ_ _ _ h=>h,λ_ h=>h⟩;refine k (.ref D) (ρ2++[D]) n H2 (g1.trans ⟨g2.pre.trans (List.prefix_append _ _),g2.ban,g2.new,λa z=>(Ah.mp z).elim (g2.cA a) λq=>.inr (by rw[Aq.mp q];exact O),g2.keep,g2.trk⟩)
            ⟨by simp[W2.len],List.nodup_append.mpr ⟨W2.nd,by simp,λa ha b hb=>by rw[Aq.mp hb];exact λz=>nD (z▸ha)⟩,λj b o r u=>?_,λb z=>(Ah.mp z).elim (W2.rb b) λq=>by rw[Aq.mp q];exact bD,W2.bt,W2.bk⟩ ?_
          . by_cases hi:j<ρ2.length
            . rw[Ag hi]at r
              rw[Ag (by rw[<- W2.len];exact hi)]at u;exact bB.gs R rfl (W2.obj j b o r u)
            . rw[Ap ⋯]at r
              rw[Ap (by rw[<- W2.len];lia)]at u;have T:j-ρ2.length=0:=by have:=(Ac.mp r).1;simp at this;lia
              rw[T]at r;rw[<- W2.len,T]at u;simp at r u;subst r u;exact⟨ys,m9,aj.gs R _ _ rd⟩
          . unfold ao
            exact⟨D,rfl,by rw[<- W2.len];simp⟩
theorem qo(S:VZ X x scope cl caps idx)(d:X.calm=true)(hi:DX X (.Name x px) iter src)
  (ht:∀C s₀ H₀ ex,oN (JF X scope cl C (x::caps) s₀ H₀ ex) ifs te) (he:∀C s₀ H₀ ex,DE (JF X scope cl C (x::caps) s₀ H₀ ex) elt f)
  (hs:∀x,foldedSetIterable iter X.env x=pure x:=by intro _;rfl):DE X (.ListComp elt [⟨.Name x px,iter,ifs,0⟩] scope pos) (ZB nw src idx te f) :=
 L2.PE.imp (Pj (tt:=dX X.K te) (te:=tD X.K f) S d hi ht he hs) λ_ _ _ h=>jU h
theorem X7(i:Nat){y:Str}{j d:Pos}(l:X.N.Nodup)(S:VZ X x scope cl caps idx)(m:X.calm=true)(hi:DX X (.Name x px) iter src)
  (ht:∀C s₀ H₀ ex,oN (JF X scope cl C (x::caps) s₀ H₀ ex) ifs te) (he:∀C s₀ H₀ ex,DE (JF X scope cl C (x::caps) s₀ H₀ ex) elt f)
  (hy:X.N[i]?=some y:=by rfl) (hx:Loc X.env.scope y:=by first|exact Or.inl rfl|exact Or.inr rfl)
  (hsw:swapsWith (.ListComp elt [⟨.Name x px,iter,ifs,0⟩] scope pos) (some (.Name y j)) d.line X.env=pure true:=by with_unfolding_all rfl)
  (hf:X.fn y=true∨X.env.scope.names.lookup y=some .local:=by first|exact .inl rfl|exact .inr rfl|assumption)
  (hs:∀x,foldedSetIterable iter X.env x=pure x:=by intro _;rfl):DS X (.Assign [.Name y j] (.ListComp elt [⟨.Name x px,iter,ifs,0⟩] scope pos) d) (QG i (ZB nw src idx te f)) :=
 L2.PS.imp (Oz (tt:=dX X.K te) (te:=tD X.K f) S m hi ht he l hy hx hsw hf hs) λ_ _ _ h=>UP (λ_ _ _ q=>jU q) h
end
def WP{α:Type}(m:M α)(U:Hs)(Q:α->Hs->Prop):Prop:=∃x a,m U=some (x,a)/\Q x a
section
variable{α β:Type}{m:M α}{k:α->M β}{U:Hs}{Q:α->Hs->Prop}{R:β->Hs->Prop}
theorem cu{x:α}:WP (pure x) U Q↔Q x U:=⟨λ⟨y,h,e,q⟩=>by obtain⟨rfl,rfl⟩:=Qk e;exact q,λq=>⟨x,U,rfl,q⟩⟩
theorem ji:WP (m >>= k) U R↔WP m U λx h=>WP (k x) h R:=⟨λ⟨y,h,e,q⟩=>by obtain⟨x,c,a,b⟩:=bind_some e;exact⟨x,c,a,y,h,b,q⟩,λ⟨x,c,a,y,h,b,q⟩=>⟨y,h,(Qg a).trans b,q⟩⟩
def WP.mono{a:α->Hs->Prop}(h:WP m U Q)(c:∀x h,Q x h->a x h):WP m U a:=let ⟨x,b,e,q⟩:=h;⟨x,b,e,c x b q⟩
def WP.of{x:α}{a:Hs}(e:m U=some (x,a))(q:Q x a):WP m U Q:=⟨x,a,e,q⟩
end
section
variable{U:Hs}{env:En}{Q:Fl×En->Hs->Prop}
theorem Wg{b:DV->aG}(I:Nat->En->Hs->Prop)(ds:List DV)(j:I 0 env U)(n:∀(i:Nat) d,ds[i]?=some d->∀env U,I i env U->WP (b d env) U λr h=>match r.1 with
    |.nx=>I (i+1) r.2 h
    |.ct=>I (i+1) r.2 h
    |.bk=>Q (.nx,r.2) h
    |.rt x=>Q (.rt x,r.2) h) (l:∀env U,I ds.length env U->Q (.nx,env) U):WP (gA b ds env) U Q:=by
  suffices h:∀(m i:Nat) env U,m+i=ds.length->I i env U->WP (gA b (ds.drop i) env) U Q by simpa using h ds.length 0 env U rfl j
  intro m;induction m with
  |zero =>
    intro i env U e hI;have:i=ds.length:=⋯
    subst this;rw[Ck];exact cu.mpr (l env U hI)
  |succ m c =>
    intro i env U e hI;have a:i<ds.length:=⋯
    rw[A8 a,gA,ji];refine(n i ds[i] (Ab a) env U hI).mono λr h q=>?_;obtain⟨f,aY⟩:=r;cases f with
    |nx=>exact c (i+1) aY h ⋯ q
    |ct=>exact c (i+1) aY h ⋯ q
    |bk=>exact cu.mpr q
    |rt x=>exact cu.mpr q
theorem KY{nxt:NX}{b:DV->aG}(ds:List DV)(I:Nat->En->Hs->Prop)(u:ds.length<100000)(f:∀(i:Nat) env U,i<=ds.length->I i env U->nxt i U=some (ds[i]?,U))(o:I 0 env U)(v:∀(i:Nat) d,ds[i]?=some d->∀env U,I i env U->WP (b d env) U λr h=>match r.1 with
    |.nx=>I (i+1) r.2 h
    |.ct=>I (i+1) r.2 h
    |.bk=>Q (.nx,r.2) h
    |.rt x=>Q (.rt x,r.2) h) (t:∀env U,I ds.length env U->Q (.nx,env) U):WP (XG nxt b 100000 0 env) U Q:=by
  suffices h:∀(m i n:Nat) env U,m+i=ds.length->m<n->I i env U->WP (XG nxt b n i env) U Q from h ds.length 0 100000 env U rfl u o;intro m;induction m with
  |zero =>
    intro i n env U e c hI;have:i=ds.length:=⋯
    subst this;obtain⟨n,rfl⟩:∃k,n=k+1:=⟨n-1,⋯⟩;rw[XG,ji];refine WP.of (f _ env U (Ae _) hI) ?_;rw[show ds[ds.length]?=none by simp];exact cu.mpr (t env U hI)
  |succ m j =>
    intro i n env U e c hI;have a:i<ds.length:=⋯
    obtain⟨n,rfl⟩:∃k,n=k+1:=⟨n-1,⋯⟩;rw[XG,ji];refine WP.of (f i env U ⋯ hI) ?_;simp only[Ab a];rw[ji];refine(v i ds[i] (Ab a) env U hI).mono λr h q=>?_;obtain⟨l,aY⟩:=r;cases l with
    |nx=>exact j (i+1) n aY h ⋯ ⋯ q
    |ct=>exact j (i+1) n aY h ⋯ ⋯ q
    |bk=>exact cu.mpr q
    |rt x=>exact cu.mpr q
theorem Yi(ds:List DV)(i:Nat)(h:i<=ds.length)(U:Hs):cU ds i U=some (ds[i]?,U):=by unfold cU;rw[Ct h];rfl
theorem Kv{n:Nat}{ds:List DV}{U:Hs}(h:U[n]?=some (.lst ds))(i:Nat):eU n i U=some (ds[i]?,U):=by
 unfold eU;have:Zi n U=some (.lst ds,U):=by unfold Zi;rw[h]
 rw[Qg this];rfl
theorem Xn{b:DV->aG}(ds:List DV)(I:Nat->En->Hs->Prop)(e:ds.length<100000)(a:I 0 env U)(f:∀(i:Nat) d,ds[i]?=some d->∀env U,I i env U->WP (b d env) U λr h=>match r.1 with
  |.nx=>I (i+1) r.2 h
  |.ct=>I (i+1) r.2 h
  |.bk=>Q (.nx,r.2) h
  |.rt x=>Q (.rt x,r.2) h) (c:∀env U,I ds.length env U->Q (.nx,env) U):WP (XG (cU ds) b 100000 0 env) U Q :=
 KY ds I e (λi env U h _=>Yi ds i h U) a f c
end
theorem Ki{nxt:NX}{t:DV->M Bool}{f:DV->M DV}{p:Int->Bool}{g:Int->Int}{U:Hs}(ns:List Int)(d:∀i,i<=ns.length->nxt i U=some ((ns.map DV.int)[i]?,U))(l:∀x,t (.int x) U=some (p x,U))(hf:∀x,f (.int x) U=some (.int (g x),U))(j:ns.length<100000) :
    ZX nxt t f 100000 0 U=some (((ns.filter p).map g).map .int,U):=by
  suffices h:∀(m i n:Nat),m+i=ns.length->m<n->ZX nxt t f n i U=some ((((ns.drop i).filter p).map g).map .int,U)by simpa using h ns.length 0 100000 rfl j
  intro m;induction m with
  |zero =>
    intro i n e c;obtain⟨n,rfl⟩:∃k,n=k+1:=⟨n-1,⋯⟩;have:i=ns.length:=⋯
    subst this;have a:=d ns.length (Ae _);rw[show(ns.map DV.int)[ns.length]?=none by simp]at a;rw[ZX,Qg a,Ck];rfl
  |succ m o =>
    intro i n e c;obtain⟨n,rfl⟩:∃k,n=k+1:=⟨n-1,⋯⟩;have b:i<ns.length:=⋯
    have a:=d i ⋯;rw[Bh,Ab b]at a;have hi:=o (i+1) n ⋯ ⋯;rw[ZX,Qg a];simp only[Option.map_some];rw[Qg (l ns[i]),A8 b];cases q:p ns[i]with
    |false=>rw[Cq (by simp[q])];simpa using hi
    |true=>rw[Cd q];simp only[if_true];rw[Qg (hf ns[i]),Qg hi];rfl
def K8(n:Nat)(U:Hs)(i:Int):bH (n+1) U (.int i)=some (.int i):=rfl
def jl(n:Nat)(U:Hs)(b:Str):bH (n+1) U (.str b)=some (.str b):=rfl
theorem JV{α:Type}{f:α->Option α}:∀{xs:List α},(∀x∈xs,f x=some x)->xs.mapM f=some xs
  | [],_=>rfl
  |x::xs,h=>by rw[List.mapM_cons,h x (by simp),JV λy a=>h y (Au _ a)];rfl
theorem J5{d d':DV}{U:Hs}(h:bH 40 U d=some d'):Kl d U=some (d',U):=by unfold Kl;rw[h];rfl
theorem jn{x y a b:DV}{U:Hs}(hx:bH 40 U x=some a)(e:bH 40 U y=some b)(c:fM a=true)(d:fM b=true):Yb x y U=some (PyData.eqv (toP a) (toP b),U):=by unfold Yb;simp only[fM,A4]at c d;rw[Qg (J5 hx),Qg (J5 e)];simp only[c.2,d.2,Bool.and_self,QM,if_true,C1];rfl
def gh(i j:Int)(U:Hs):Yb (.int i) (.int j) U=some (i==j,U):=jn (K8 39 U i) (K8 39 U j) (ju i) (ju j)
theorem gi(a b:Option Int)(U:Hs):Yb (opt a) (opt b) U=some (decide (a=b),U):=by
  have e:∀c:Option Int,bH 40 U (opt c)=some (opt c):=λc=>by cases c<;>rfl
  have s:∀c:Option Int,fM (opt c)=true:=λc=>by cases c<;>rfl
  rw[jn (e a) (e b) (s a) (s b)];cases a with
  |none=>cases b<;>simp[opt,toP,PyData.eqv]
  |some i =>
    cases b with
    |none=>simp[opt,toP,PyData.eqv]
    |some j=>simp only[opt,toP,PyData.eqv,Option.some.injEq];congr 1
theorem Jr(p:Key×DV)(r:List (Key×DV))(j:Key):ZA (p::r) j=if p.1=j then some p.2 else ZA r j:=by
 by_cases e:p.1=j
 ·simp[ZA,Bp,e]
 ·simp[ZA,Bp,e]
theorem RK(a b:List (Key×DV))(j:Key):ZA (a++b) j=match ZA a j with
    |some d=>some d
    |none=>ZA b j:=by
  induction a with
  |nil=>rfl
  |cons p r c =>
    rw[List.cons_append,Jr,Jr];split
    . rfl
    . exact c
theorem xT(kvs:List (Key×DV))(k:Key):(kvs.any λb=>decide (b.1=k))=(ZA kvs k).isSome:=by
  induction kvs with
  |nil=>rfl
  |cons p r a=>rw[Cb,Jr,a];by_cases e:p.1=k<;>simp[e]
theorem uA(kvs:List (Key×DV))(k j:Key)(d:DV):ZA (kvs.map λb=>if b.1=k then (b.1,d)else b) j=(ZA kvs j).map λx=>if j=k then d else x:=by
  induction kvs with
  |nil=>rfl
  |cons p r c =>
    rw[A3,Jr,Jr,c];by_cases e:p.1=k
    . rw[Ct e]
      by_cases a:p.1=j
      . have:j=k:=a▸e
        simp[a,this]
      . simp[a]
    . rw[Cs e]
      by_cases a:p.1=j
      . have:¬ j=k:=a▸e
        simp[a,this]
      . simp[a]
theorem qY(kvs:List (Key×DV))(k j:Key)(d:DV):ZA (Z9 kvs k d) j=if j=k then some d else ZA kvs j:=by
  unfold Z9;rw[xT];cases q:ZA kvs k with
  |none =>
    rw[Cs (by simp),RK,Jr];by_cases e:j=k
    . subst e;simp[q]
    . rw[Cs e,Cs (Ne.symm e)]
      cases ZA kvs j<;>rfl
  |some x =>
    rw[Ct (show(some x).isSome=true from rfl),uA];by_cases e:j=k
    . subst e;simp[q]
    . simp only[Cs e]
      cases ZA kvs j<;>rfl
theorem UL(kvs:List (Key×DV))(k:Key)(d:DV):(Z9 kvs k d).length<=kvs.length+1:=by unfold Z9;split<;>simp
theorem Q6{n:Nat}{o:OV}{U:Hs}(h:U[n]?=some o):Zi n U=some (o,U):=by unfold Zi;rw[h]
theorem kO{n:Nat}{kvs:List (Key×DV)}{U:Hs}{i d:DV}{k:Key}(h:U[n]?=some (.aB kvs))(c:ya i=some k)(e:kvs.length<100000):nY (.ref n) i d U=some ((),U.set n (.aB (Z9 kvs k d))):=by
 show(Zi n >>= _) U=_;rw[Qg (Q6 h)];have a:Xr i U=some (k,U):=by unfold Xr;rw[c];rfl
 have b:QM (decide (kvs.length<lim)) U=some ((),U):=by rw[show decide (kvs.length<lim)=true from Cy e];rfl
 show(Xr i >>= λk=>QM (decide (kvs.length<lim)) >>= λ_=>qW n (.aB (Z9 kvs k d))) U=_;rw[Qg a,Qg b];rfl
theorem jA{f:au}{g:h_}{env a:En}{d:DV}{U hp1 hp2:Hs}(h:f env U=some (d,hp1))(h':g d env hp1=some (a,hp2)):XT f g env U=some ((.nx,a),hp2):=by unfold XT;rw[Qg h,Qg h'];rfl
theorem Zq{α:Type}{m:M α}{x:α}(h:m=pure x)(U:Hs):m U=some (x,U):=by rw[h];rfl
theorem kW{c:bO}{f g:aG}{env:En}{b:Bool}{U hp1:Hs}(h:c env U=some (b,hp1)):aP c f g env U=if b=true then f env hp1 else g env hp1:=by unfold aP;rw[Qg h];cases b<;>rfl
theorem QJ{f:au}{env:En}{b:Bool}{U hp1:Hs}(h:f env U=some (.bl b,hp1)):eB f env U=some (b,hp1):=by unfold eB;rw[Qg h];rfl
theorem Qp{g:DV->DV->M DV}{f f':au}{env:En}{x y d:DV}{U hp1 hp2 a:Hs}(h:f env U=some (x,hp1))(h':f' env hp1=some (y,hp2))(b:g x y hp2=some (d,a)):Qf g f f' env U=some (d,a):=by unfold Qf;rw[Qg h,Qg h',b]
theorem Qz{f:au}{env:En}{d:DV}{U hp1:Hs}(h:f env U=some (d,hp1)):Q3 f env U=some ((.rt d,env),hp1):=by unfold Q3;rw[Qg h];rfl
theorem QT{f g:aG}{env aY:En}{d:DV}{U hp1:Hs}(h:f env U=some ((.rt d,aY),hp1)):Qx f g env U=some ((.rt d,aY),hp1):=by unfold Qx;rw[Qg h];rfl
theorem JB{f:au}{env:En}{d:DV}{U hp1:Hs}(h:f env U=some (d,hp1)):Xa f env U=some ((.nx,env),hp1):=by unfold Xa;rw[Qg h];rfl
theorem QC{n:Nat}{a:aG}{ds:List DV}{d:DV}{env:En}{U hp1:Hs}(h:a (ds.map .val++List.replicate (n-ds.length) .un) U=some ((.rt d,env),hp1)):ZH n a ds U=some (d,hp1):=by unfold ZH;rw[Qg h];rfl
theorem Jf{c:bO}{env:En}{b:Bool}{U hp1:Hs}(h:c env U=some (b,hp1)):XE c env U=some (!b,hp1):=by unfold XE;rw[Qg h];rfl
end D
namespace TS
open PySem PyProof.Rows
def gal:Bool->Keyed->Array Keyed->Nat->Nat->Nat->StateT SortSt Sem (Option Nat):=sortPriv% PySem.Builtin.gallop
def o_:Array Keyed->Array Keyed->StateT SortSt Sem (Array Keyed):=sortPriv% PySem.Builtin.mergeLo
def pq:Array Keyed->Array Keyed->StateT SortSt Sem (Array Keyed):=sortPriv% PySem.Builtin.mergeHi
def Y8:Nat->StateT SortSt Sem Unit:=sortPriv% PySem.Builtin.setMinGallop
def sZ:Nat->StateT SortSt Sem Bool:=mergeAt'
structure cM where
 key:Keyed->Int
 kd:SortKind
 S:Keyed->Prop
 prog:Program
 w:World
 A:Around
 E:Value->Shared->Prop
 s:Shared
 lt:∀(st:SortSt)(p q:Keyed)(Q:Option Bool->SortSt->Prop),S p->S q->kindOf st=kd->Q (some (decide (key p<key q))) st->wpS (model prog w) A E s (lt' p q) Q st
variable{C:cM}
abbrev W(C:cM){σ α:Type}(m:StateT σ Sem α)(Q:α->σ->Prop)(a:σ):Prop:=wpS (model C.prog C.w) C.A C.E C.s m Q a
def kx(C:cM)(xs:Array Keyed)(i:Nat):Int:=((xs[i]?).map C.key).getD 0
structure Ok(C:cM)(st:SortSt):Prop where
 kind:kindOf st=C.kd
 fine:failedOf st=none
 mem:∀p∈(arrOf st).toList,C.S p
theorem Zh{xs:Array Keyed}{i:Nat}{Q:Keyed->SortSt->Prop}{a:SortSt}(hi:i<xs.size)(h:Q xs[i] a):W C (elem' xs i) Q a:=by rw[elem'_eq,getElem?_pos xs i hi];exact Cw h
theorem ZS(xs:Array Keyed){i:Nat}(hi:i<xs.size):kx C xs i=C.key xs[i]:=by unfold kx;rw[getElem?_pos xs i hi];rfl
theorem zy{a:SortSt}{i j:Nat}{Q:Option Bool->SortSt->Prop}(g:Ok C a)(hi:i<(arrOf a).size)(b:j<(arrOf a).size)(h:Q (some (decide (kx C (arrOf a) i<kx C (arrOf a) j))) a):W C (ltAt' i j) Q a:=by rw[ltAt'_eq];refine Cv (wpS_get (Cv (Zh hi (Cv (Zh b ?_)))));refine C.lt a _ _ Q (g.mem _ (by simp)) (g.mem _ (by simp)) g.kind ?_;rw[<- ZS _ hi,<- ZS _ b];exact h
theorem NP(left:Bool)(key:Keyed)(c:Array Keyed)(O8 n a:Nat):gal left key c O8 n a=(do
  let d (i:Nat):StateT SortSt Sem (Option Bool):=do
   let x <- elem' c (O8+i)
   if left then lt' x key else return (<- lt' key x).map (!·)
  let mut last:=0
  let mut ofs:=1
  let mut lo:=0
  let mut hi:=0
  let some right <- d a|return none
  if right then
   let b:=n-a
   for _ in [0:n] do
    if ofs≥b then break
    let some more <- d (a+ofs)|return none
    if !more then break
    last:=ofs
    ofs:=2 * ofs+1
   lo:=a+last+1
   hi:=a+min ofs b
  else
   let b:=a+1
   for _ in [0:n] do
    if ofs≥b then break
    let some found <- d (a-ofs)|return none
    if found then break
    last:=ofs
    ofs:=2 * ofs+1
   lo:=a+1-min ofs b
   hi:=a-last
  for _ in [0:n] do
   if lo≥hi then break
   let m:=lo+(hi-lo) / 2
   let some more <- d m|return none
   if more then lo:=m+1 else hi:=m
  return some hi):=rfl
def rK(left:Bool)(key:Keyed)(a:Array Keyed)(O8 i:Nat):StateT SortSt Sem (Option Bool):=do
 let x <- elem' a (O8+i)
 if left then lt' x key else return (<- lt' key x).map (!·)
def wK(left:Bool)(key:Keyed)(a:Array Keyed)(O8 n l h:Nat):StateT SortSt Sem (Option Nat):=do
 let mut lo:=l
 let mut hi:=h
 for _ in [0:n] do
  if lo≥hi then break
  let m:=lo+(hi-lo) / 2
  let some more <- rK left key a O8 m|return none
  if more then lo:=m+1 else hi:=m
 return some hi
theorem Xq{left:Bool}{key:Keyed}{e:Array Keyed}{O8 n a:Nat}{Q:Option Nat->SortSt->Prop}{f:SortSt}(T:Nat->Bool)(J:kindOf f=C.kd)(m:C.S key)(P:∀p∈e.toList,C.S p)(hb:O8+n<=e.size)(U:a<n)
    (hT:∀i,i<n->T i=if left then decide (kx C e (O8+i)<C.key key)else !decide (C.key key<kx C e (O8+i))) (mono:∀i j,i<=j->j<n->T j=true->T i=true)
    (h:∀hi,hi<=n->(∀i,i<hi->T i=true)->(∀i,hi<=i->i<n->T i=false)->Q (some hi) f):W C (gal left key e O8 n a) Q f:=by
  have z:∀(i:Nat)(R:Option Bool->SortSt->Prop),i<n->R (some (T i)) f->W C (rK left key e O8 i) R f:=by
    intro i R hi t;have u:O8+i<e.size:=⋯
    unfold rK;refine Cv (Zh u ?_);have l:C.S e[O8+i]:=P _ (by simp);rw[hT i hi,ZS _ u]at t;cases left with
    |true=>simp only[if_true]at t ⊢;exact C.lt f _ _ R l m J t
    |false=>simp only[Aw,if_false]at t ⊢;exact Cv (C.lt f _ _ _ m l J (Cw t))
  have bin:∀lo hi,lo<=hi->hi<=n->(∀i,i<lo->T i=true)->(∀i,hi<=i->i<n->T i=false)->W C (wK left key e O8 n lo hi) Q f:=by
    intro lo hi L F Y y;unfold wK;dsimp only;refine Cv (wpS_mono (wpS_forRange (I:=λx c d=>d=f/\∃lo hi,c=(none,lo,hi)/\lo<=hi/\hi<=n/\hi-lo<=n-x/\(∀i,i<lo->T i=true)/\(∀i,hi<=i->i<n->T i=false))
      (Q:=λc d=>d=f/\∃hi lo,c=(none,lo,hi)/\hi<=n/\(∀i,i<hi->T i=true)/\(∀i,hi<=i->i<n->T i=false)) ?step ?fin ⟨rfl,lo,hi,rfl,L,F,⋯,Y,y⟩) ?post)
    case post =>
      rintro c d ⟨rfl,hi,lo,rfl,h1,h2,h3⟩;exact Cw (h hi h1 h2 h3)
    case fin =>
      rintro c d ⟨rfl,lo,hi,rfl,h1,h2,h3,h4,o⟩;have:lo=hi:=⋯
      subst this;exact⟨rfl,lo,lo,rfl,h2,h4,o⟩
    case step =>
      rintro x c d _ hx ⟨rfl,lo,hi,rfl,h1,h2,h3,h4,o⟩;dsimp only;by_cases q:lo≥hi
      . rw[Ct q]
        have:lo=hi:=⋯
        subst this;exact Cw ⟨rfl,lo,lo,rfl,h2,h4,o⟩
      . rw[Cs q]
        refine Cv (z _ _ ⋯ ?_);dsimp only;cases l:T (lo+(hi-lo) / 2)with
        |true=>simp only[if_true];refine Cw ⟨rfl,_,hi,rfl,⋯,h2,⋯,λi X=>?_,o⟩;exact mono i (lo+(hi-lo) / 2) ⋯ ⋯ l
        |false =>
          simp only[Aw,if_false];refine Cw ⟨rfl,lo,_,rfl,⋯,⋯,⋯,h4,λi r O=>?_⟩;cases v:T i with
          |false=>rfl
          |true=>rw[mono _ i r O v]at l;cases l
  rw[NP];dsimp only;refine Cv (z a _ U ?_);dsimp only;cases y:T a with
  |true =>
    simp only[if_true];refine Cv (wpS_mono (wpS_forRange (I:=λx c d=>d=f/\∃last b,c=(none,last,b)/\last<b/\x+1<=b/\a+last<n/\T (a+last)=true)
      (Q:=λc d=>d=f/\∃last b,c=(none,last,b)/\last<b/\a+last<n/\T (a+last)=true/\(n-a<=b∨T (a+b)=false)) ?step ?fin ⟨rfl,0,1,rfl,⋯,⋯,⋯,y⟩) ?post)
    case fin =>
      rintro c d ⟨rfl,last,b,rfl,h1,h2,h3,h4⟩;exact⟨rfl,last,b,rfl,h1,h3,h4,.inl ⋯⟩
    case step =>
      rintro x c d _ hx ⟨rfl,last,b,rfl,h1,h2,h3,h4⟩;dsimp only;by_cases q:b≥n-a
      . rw[Ct q]
        exact Cw ⟨rfl,last,b,rfl,h1,h3,h4,.inl q⟩
      . rw[Cs q]
        refine Cv (z _ _ ⋯ ?_);dsimp only;cases l:T (a+b)with
        |true=>simp only[Bool.not_true,Aw,if_false];exact Cw ⟨rfl,b,2 * b+1,rfl,⋯,⋯,⋯,l⟩
        |false=>simp only[Bool.not_false,if_true];exact Cw ⟨rfl,last,b,rfl,h1,h3,h4,.inr l⟩
    case post =>
      rintro c d ⟨rfl,last,b,rfl,h1,h2,h3,h4⟩;dsimp only;refine bin (a+last+1) (a+min b (n-a)) ⋯ ⋯ (λi hi=>mono i (a+last) ⋯ h2 h3) λi o r=>?_;rcases h4 with q|q
      . lia
      . cases v:T i with
        |false=>rfl
        |true=>rw[mono _ i ⋯ r v]at q;cases q
  |false =>
    simp only[Aw,if_false];refine Cv (wpS_mono (wpS_forRange (I:=λx c d=>d=f/\∃last b,c=(none,last,b)/\last<b/\x+1<=b/\last<=a/\T (a-last)=false)
      (Q:=λc d=>d=f/\∃last b,c=(none,last,b)/\last<b/\last<=a/\T (a-last)=false/\(a+1<=b∨(b<=a/\T (a-b)=true))) ?step ?fin ⟨rfl,0,1,rfl,⋯,⋯,⋯,y⟩) ?post)
    case fin =>
      rintro c d ⟨rfl,last,b,rfl,h1,h2,h3,h4⟩;exact⟨rfl,last,b,rfl,h1,h3,h4,.inl ⋯⟩
    case step =>
      rintro x c d _ hx ⟨rfl,last,b,rfl,h1,h2,h3,h4⟩;dsimp only;by_cases q:b≥a+1
      . rw[Ct q]
        exact Cw ⟨rfl,last,b,rfl,h1,h3,h4,.inl q⟩
      . rw[Cs q]
        refine Cv (z _ _ ⋯ ?_);dsimp only;cases l:T (a-b)with
        |true=>simp only[if_true];exact Cw ⟨rfl,last,b,rfl,h1,h3,h4,.inr ⟨⋯,l⟩⟩
        |false=>simp only[Aw,if_false];exact Cw ⟨rfl,b,2 * b+1,rfl,⋯,⋯,⋯,l⟩
    case post =>
      rintro c d ⟨rfl,last,b,rfl,h1,h2,h3,h4⟩;dsimp only;refine bin (a+1-min b (a+1)) (a-last) ⋯ ⋯ (λi hi=>?_) λi o r=>?_
      . rcases h4 with q|⟨q1,Z⟩
        . lia
        . exact mono i (a-b) ⋯ ⋯ Z
      . cases v:T i with
        |false=>rfl
        |true=>rw[mono _ i o r v]at h3;cases h3
variable{C:cM}
def bA(C:cM)(l:List Keyed):Prop:=l.Pairwise λp q=>C.key p<=C.key q
def Sm(b a:SortSt):Prop:=kindOf a=kindOf b/\arrOf a=arrOf b/\pendingOf a=pendingOf b/\failedOf a=failedOf b
def Sm.refl(a:SortSt):Sm a a:=⟨rfl,rfl,rfl,rfl⟩
theorem qV{g:Nat}{st₀ st:SortSt}{Q:Unit->SortSt->Prop}(b:Sm st₀ st)(h:∀a,Sm st₀ a->Q () a):W C (Y8 g) Q st:=by show W C (modify (λs=>SortSt.mk' (kindOf s) (arrOf s) (pendingOf s) g (failedOf s)):StateT SortSt Sem Unit) Q st;exact wpS_modify (h _ b)
def zG{x:String}{a:SortSt}{Q:Unit->SortSt->Prop}(h:Q () a):W C (liftM (rule x):StateT SortSt Sem Unit) Q a:=wpS_lift (wpAny_rule ⟨rfl,h⟩)
structure MI(C:cM)(A B out:List Keyed)(i j:Nat):Prop where
 perm:(out++(A.drop i++B.drop j)).Perm (A++B)
 cH:bA C out
 low:∀x∈out,∀y∈A.drop i++B.drop j,C.key x<=C.key y
section
variable{A B out:List Keyed}{i j:Nat}
def bA.drop(h:bA C A)(n:Nat):bA C (A.drop n):=List.Pairwise.sublist (List.drop_sublist _ _) h
def bA.take(h:bA C A)(n:Nat):bA C (A.take n):=List.Pairwise.sublist (List.take_sublist _ _) h
def bA.app(h:bA C A)(h':bA C B)(a:∀x∈A,∀y∈B,C.key x<=C.key y):bA C (A++B):=Bi.mpr ⟨h,h',a⟩
theorem MI.cO(m:MI C A B out i j)(b:bA C A)(k:Nat)(h:∀x∈(A.drop i).take k,∀y∈B.drop j,C.key x<=C.key y):MI C A B (out++(A.drop i).take k) (i+k) j:=by
 have e:A.drop i=(A.drop i).take k++A.drop (i+k):=by rw[<- Cc,Bm]
 have hd:=b.drop i;rw[e]at hd;obtain⟨_,_,c⟩:=Bi.mp hd;refine⟨?_,m.cH.app ((b.drop i).take k) λx hx y a=>m.low x hx y (Ax _ (Bj a)),λx hx y a=>?_⟩
 ·have:=m.perm;rw[e]at this;simpa [Ay]using this
 ·rcases Ah.mp hx with q|q
  ·refine m.low x q y ?_;rcases Ah.mp a with z|z
   ·exact Ax _ (by rw[e];exact Ai _ z)
   ·exact Ai _ z
  ·rcases Ah.mp a with z|z
   ·exact c x q y z
   ·exact h x q y z
theorem MI.cN(m:MI C A B out i j)(b:bA C B)(k:Nat)(h:∀x∈(B.drop j).take k,∀y∈A.drop i,C.key x<=C.key y):MI C A B (out++(B.drop j).take k) i (j+k):=by
 have e:B.drop j=(B.drop j).take k++B.drop (j+k):=by rw[<- Cc,Bm]
 have hd:=b.drop j;rw[e]at hd;obtain⟨_,_,c⟩:=Bi.mp hd;refine⟨?_,m.cH.app ((b.drop j).take k) λx hx y a=>m.low x hx y (Ai _ (Bj a)),λx hx y a=>?_⟩
 ·refine List.Perm.trans ?_ m.perm;rw[Ay];refine List.Perm.append_left _ ?_;generalize (B.drop j).take k=ch at e ⊢;rw[e,<- Ay,<- Ay];exact List.Perm.append_right _ List.perm_append_comm
 ·rcases Ah.mp hx with q|q
  ·refine m.low x q y ?_;rcases Ah.mp a with z|z
   ·exact Ax _ z
   ·exact Ai _ (by rw[e];exact Ai _ z)
  ·rcases Ah.mp a with z|z
   ·exact h x q y z
   ·exact c x q y z
def Fin(C:cM)(A B r:List Keyed):Prop:=bA C r/\r.Perm (A++B)
theorem MI.fG(m:MI C A B out i j)(a:bA C A)(h:B.length<=j):Fin C A B (out++A.drop i++B.drop j):=by have e:B.drop j=[]:=B0 h;refine⟨?_,by have:=m.perm;simpa [Ay]using this⟩;rw[e,Bg];exact m.cH.app (a.drop i) λx hx y b=>m.low x hx y (Ax _ b)
theorem MI.fH(m:MI C A B out i j)(a:bA C B)(h:A.length<=i):Fin C A B (out++A.drop i++B.drop j):=by have e:A.drop i=[]:=B0 h;refine⟨?_,by have:=m.perm;simpa [Ay]using this⟩;rw[e,Bg];exact m.cH.app (a.drop j) λx hx y b=>m.low x hx y (Ai _ b)
theorem MI.eX(m:MI C A B out i j)(c:bA C A)(d:bA C B)(b:∀x∈A.drop (A.length-1),∀y∈B,C.key y<=C.key x)(h:i+1=A.length):Fin C A B (out++B.drop j++A.drop i):=by
 have e:A.length-1=i:=⋯
 rw[e]at b;refine⟨?_,?_⟩
 ·refine(m.cH.app (d.drop j) λx hx y a=>m.low x hx y (Ai _ a)).app (c.drop i) λx hx y a=>?_;rcases Ah.mp hx with q|q
  ·exact m.low x q y (Ax _ a)
  ·exact b y a x (List.mem_of_mem_drop q)
 ·refine List.Perm.trans ?_ m.perm;rw[Ay];exact List.Perm.append_left _ List.perm_append_comm
end
theorem Ol(a b:Array Keyed):o_ a b=(do
  rule "list.sort.merge-lo"
  let all:=a.size+b.size
  let c (res:Array Keyed) (i j:Nat):=res++a.extract i a.size++b.extract j b.size
  let lst (res:Array Keyed) (i j:Nat):=res++b.extract j b.size++a.extract i a.size
  let mut res:Array Keyed:=#[<- elem' b 0]
  let mut i:=0
  let mut j:=1
  if j==b.size then return c res i j
  if i+1==a.size then return lst res i j
  let mut mg:=gallopOf (<- get)
  for _ in [0:all] do
   let mut ac:=0
   let mut bc:=0
   for _ in [0:all] do
    let some bw <- lt' (<- elem' b j) (<- elem' a i)|return c res i j
    if bw then
     res:=res.push (<- elem' b j);j:=j+1;bc:=bc+1;ac:=0
     if j==b.size then return c res i j
     if bc≥mg then break
    else
     res:=res.push (<- elem' a i);i:=i+1;ac:=ac+1;bc:=0
     if i+1==a.size then return lst res i j
     if ac≥mg then break
   rule "list.sort.gallop"
   mg:=mg+1
   for _ in [0:all] do
    if mg > 1 then mg:=mg-1
    Y8 mg
    let some k <- gal false (<- elem' b j) a i (a.size-i) 0|return c res i j
    ac:=k
    if k > 0 then
     res:=res++a.extract i (i+k);i:=i+k
     if i+1==a.size then return lst res i j
     if i==a.size then return c res i j
    res:=res.push (<- elem' b j);j:=j+1
    if j==b.size then return c res i j
    let some k <- gal true (<- elem' a i) b j (b.size-j) 0|return c res i j
    bc:=k
    if k > 0 then
     res:=res++b.extract j (j+k);j:=j+k
     if j==b.size then return c res i j
    res:=res.push (<- elem' a i);i:=i+1
    if i+1==a.size then return lst res i j
    if ac<7&&bc<7 then break
   mg:=mg+1
   Y8 mg
  unsupported "internal:list.sort.merge-bound"):=rfl
abbrev GS:=Option (Array Keyed)×Array Keyed×Nat×Nat×Nat×Nat×Nat
def pC(a b:Array Keyed)(mg ac bc:Nat)(res:Array Keyed)(i j:Nat):StateT SortSt Sem (ForInStep GS):=do
 let x <- elem' a i
 if (i+1+1==a.size)=true then pure (.done (some (res.push x++b.extract j b.size++a.extract (i+1) a.size),res.push x,i+1,j,mg,ac,bc))
 else if (decide (ac<7)&&decide (bc<7))=true then pure (.done (none,res.push x,i+1,j,mg,ac,bc))else pure (.yield (none,res.push x,i+1,j,mg,ac,bc))
def tu(a b:Array Keyed)(mg ac bc:Nat)(res:Array Keyed)(i j:Nat):StateT SortSt Sem (ForInStep GS):=do
 let y <- elem' a i
 let z <- gal true y b j (b.size-j) 0
 match z with
 |some k=>(if k > 0 then (if (j+k==b.size)=true then pure (.done (some (res++b.extract j (j+k)++a.extract i a.size++b.extract (j+k) b.size),res++b.extract j (j+k),i,j+k,mg,ac,k))else pC a b mg ac k (res++b.extract j (j+k)) i (j+k))else pC a b mg ac k res i j:StateT SortSt Sem (ForInStep GS))
 |_=>pure (.done (some (res++a.extract i a.size++b.extract j b.size),res,i,j,mg,ac,bc))
def lo2(a b:Array Keyed)(mg ac bc:Nat)(res:Array Keyed)(i j:Nat):StateT SortSt Sem (ForInStep GS):=do
 let y <- elem' b j
 if (j+1==b.size)=true then pure (.done (some (res.push y++a.extract i a.size++b.extract (j+1) b.size),res.push y,i,j+1,mg,ac,bc))
 else tu a b mg ac bc (res.push y) i (j+1)
def lo1(a b:Array Keyed)(mg ac bc:Nat)(res:Array Keyed)(i j:Nat):StateT SortSt Sem (ForInStep GS):=do
 Y8 mg
 let y <- elem' b j
 let z <- gal false y a i (a.size-i) 0
 match z with
 |some k=>(if k > 0 then (if (i+k+1==a.size)=true then pure (.done (some (res++a.extract i (i+k)++b.extract j b.size++a.extract (i+k) a.size),res++a.extract i (i+k),i+k,j,mg,k,bc))
   else if (i+k==a.size)=true then pure (.done (some (res++a.extract i (i+k)++a.extract (i+k) a.size++b.extract j b.size),res++a.extract i (i+k),i+k,j,mg,k,bc))
   else lo2 a b mg k bc (res++a.extract i (i+k)) (i+k) j)else lo2 a b mg k bc res i j:StateT SortSt Sem (ForInStep GS))
 |_=>pure (.done (some (res++a.extract i a.size++b.extract j b.size),res,i,j,mg,ac,bc))
section
variable{a b res:Array Keyed}{i j k:Nat}
theorem Jj(a:Array Keyed)(i:Nat):(a.extract i a.size).toList=a.toList.drop i:=by simp[Array.toList_extract,List.extract_eq_take_drop];exact Bw (by simp)
theorem yB(a:Array Keyed)(i k:Nat):(a.extract i (i+k)).toList=(a.toList.drop i).take k:=by simp[Array.toList_extract,List.extract_eq_take_drop]
theorem JK(a:Array Keyed){i:Nat}(h:i<a.size):(a.toList.drop i).take 1=[a[i]]:=by rw[A8 (by simpa using h)];simp
theorem Yf{x:Keyed}(h:x∈(a.toList.drop i).take k):∃t,t<k/\∃q:i+t<a.size,x=a[i+t]:=by
 obtain⟨t,c,e⟩:=List.getElem_of_mem h;have d:t<k:=by simp at c;lia
 have f:i+t<a.size:=by simp at c;lia
 exact⟨t,d,f,by rw[<- e];simp[List.getElem_take,List.getElem_drop]⟩
theorem zA{x:Keyed}(h:x∈a.toList.drop i):∃t,i<=t/\∃q:t<a.size,x=a[t]:=by
 obtain⟨t,d,e⟩:=List.getElem_of_mem h;have c:i+t<a.size:=by simp at d;lia
 exact⟨i+t,⋯,c,by rw[<- e];simp[List.getElem_drop]⟩
theorem XU(h:bA C a.toList){s t:Nat}(c:s<=t)(d:t<a.size):C.key (a[s]'⋯)<=C.key a[t]:=by
 rcases A7 s t with q|q
 ·have:=B9.mp h s t (by simp;lia) (by simpa using d) q;simpa using this
 ·have:s=t:=⋯
  subst this;exact Bc _
theorem xQ(h:bA C a.toList){s t:Nat}(c:s<=t)(d:t<a.size):kx C a s<=kx C a t:=by rw[ZS a ⋯,ZS a d];exact XU h c d
end
structure Two(C:cM)(a b:Array Keyed):Prop where
 sa:bA C a.toList
 sb:bA C b.toList
 ma:∀p∈a.toList,C.S p
 mb:∀p∈b.toList,C.S p
 na:1<=a.size
 nb:1<=b.size
 first:∀y∈a.toList,∀x∈b.toList.take 1,C.key x<=C.key y
 last:∀x∈a.toList.drop (a.size-1),∀y∈b.toList,C.key y<=C.key x
section
variable{a b:Array Keyed}{st₀:SortSt}{n0:Nat}
def V0(C:cM)(a b:Array Keyed)(st₀:SortSt)(r:Option (Array Keyed))(c:SortSt):Prop:=Sm st₀ c/\∃x,r=some x/\Fin C a.toList b.toList x.toList
def iZ(C:cM)(a b:Array Keyed)(st₀:SortSt)(n0:Nat)(r:Option (Array Keyed))(res:Array Keyed)(i j:Nat)(c:SortSt):Prop:=Sm st₀ c/\r=none/\MI C a.toList b.toList res.toList i j/\i+1<a.size/\j<b.size/\n0<i+j
def KU(C:cM)(a b:Array Keyed)(st₀:SortSt)(n0:Nat)(r:ForInStep GS)(d:SortSt):Prop:=match r with
 |.done c=>V0 C a b st₀ c.1 d∨iZ C a b st₀ n0 c.1 c.2.1 c.2.2.1 c.2.2.2.1 d
 |.yield c=>iZ C a b st₀ n0 c.1 c.2.1 c.2.2.1 c.2.2.2.1 d
variable{mg ac bc i j:Nat}{res:Array Keyed}{st:SortSt}
theorem BK(T:Two C a b)(e:Sm st₀ st)(m:MI C a.toList b.toList res.toList i j)(hi:i+1<a.size)(h:j<b.size)(n:n0<=i+j)(f:∀y∈b.toList.drop j,C.key (a[i]'⋯)<=C.key y):W C (pC a b mg ac bc res i j) (KU C a b st₀ n0) st:=by
 have c:i<a.size:=⋯
 refine Cv (Zh c ?_);have d:=m.cO T.sa 1 (λx hx y l=>by rw[JK a c]at hx;rw[Aq.mp hx];exact f y l);rw[JK a c,<- Ci]at d;by_cases q:i+1+1=a.size
 ·rw[Ct (by simpa using q)];refine Cw (.inl ⟨e,_,rfl,?_⟩);rw[Af,Af,Jj,Jj];exact d.eX T.sa T.sb (by simpa using T.last) (by simpa using q)
 ·rw[Cs (by simpa using q)];have g:iZ C a b st₀ n0 none (res.push a[i]) (i+1) j st:=⟨e,rfl,d,⋯,h,⋯⟩;split
  ·exact Cw (.inr g)
  ·exact Cw g
theorem Ng(T:Two C a b)(z:kindOf st=C.kd)(h:Sm st₀ st)(m:MI C a.toList b.toList res.toList i j)(hi:i+1<a.size)(v:j<b.size)(F:n0<=i+j):W C (tu a b mg ac bc res i j) (KU C a b st₀ n0) st:=by
 have f:i<a.size:=⋯
 refine Cv (Zh f (Cv (Xq (λt=>decide (kx C b (j+t)<C.key a[i])) z (T.ma _ (by simp)) T.mb ⋯ ⋯ (λt _=>rfl) (λs t u n e=>?_) λk u n e=>?_)))
 ·exact Cy (Int.lt_of_le_of_lt (xQ T.sb ⋯ ⋯) (Cz e))
 ·dsimp only;have I:∀x∈(b.toList.drop j).take k,C.key x<C.key a[i]:=λx hx=>by
   obtain⟨t,d,q,rfl⟩:=Yf hx;have:=Cz (n t d)
   rwa [ZS b q]at this
  have r:=m.cN T.sb k (λx hx y l=>by obtain⟨t,d,q,rfl⟩:=zA l;have:=I x hx;have:=XU T.sa d q;lia)
  have o:∀y∈b.toList.drop (j+k),C.key a[i]<=C.key y:=λy l=>by obtain⟨t,d,q,rfl⟩:=zA l;have:=of_decide_eq_false (e (t-j) ⋯ ⋯);rw[show j+(t-j)=t by lia,ZS b q]at this;lia
  by_cases c:k > 0
  ·rw[Ct c];by_cases q:j+k=b.size
   ·rw[Ct (by simpa using q)];refine Cw (.inl ⟨h,_,rfl,?_⟩);rw[Af,Af,Af,Jj,Jj,yB];exact r.fG T.sa (by simp;lia)
   ·rw[Cs (by simpa using q)];refine BK T h ?_ hi ⋯ ⋯ o;rw[Af,yB];exact r
  ·rw[Cs c];have:k=0:=⋯
   subst this;exact BK T h m hi v F o
theorem BL(T:Two C a b)(h:kindOf st=C.kd)(e:Sm st₀ st)(m:MI C a.toList b.toList res.toList i j)(hi:i+1<a.size)(c:j<b.size)(n:n0<=i+j)(f:∀y∈a.toList.drop i,C.key b[j]<=C.key y):W C (lo2 a b mg ac bc res i j) (KU C a b st₀ n0) st:=by
 refine Cv (Zh c ?_);have d:=m.cN T.sb 1 (λx hx y l=>by rw[JK b c]at hx;rw[Aq.mp hx];exact f y l);rw[JK b c,<- Ci]at d;by_cases q:j+1=b.size
 ·rw[Ct (by simpa using q)];refine Cw (.inl ⟨e,_,rfl,?_⟩);rw[Af,Af,Jj,Jj];exact d.fG T.sa (by simp;lia)
 ·rw[Cs (by simpa using q)];exact Ng T h e d hi ⋯ ⋯
theorem Nh(T:Two C a b)(F:kindOf st₀=C.kd)(d:Sm st₀ st)(m:MI C a.toList b.toList res.toList i j)(hi:i+1<a.size)(l:j<b.size)(I:n0<=i+j):W C (lo1 a b mg ac bc res i j) (KU C a b st₀ n0) st:=by
 refine Cv (qV d λst d=>?_);have c:kindOf st=C.kd:=d.1.trans F;refine Cv (Zh l (Cv (Xq (λt=>!decide (C.key b[j]<kx C a (i+t))) c (T.mb _ (by simp)) T.ma ⋯ ⋯ (λt _=>rfl) (λs t z r h=>?_) λk z r h=>?_)))
 ·have q:=xQ T.sa (show i+s<=i+t by lia) ⋯;simp only[Ca,decide_eq_false_iff_not]at h ⊢;lia
 ·dsimp only;have J:∀x∈(a.toList.drop i).take k,C.key x<=C.key b[j]:=λx hx=>by obtain⟨t,f,q,rfl⟩:=Yf hx;have:=r t f;simp only[Ca,decide_eq_false_iff_not]at this;rw[ZS a q]at this;lia
  have o:=m.cO T.sa k (λx hx y n=>by obtain⟨t,f,q,rfl⟩:=zA n;have:=J x hx;have:=XU T.sb f q;lia)
  have u:∀y∈a.toList.drop (i+k),C.key b[j]<=C.key y:=λy n=>by obtain⟨t,f,q,rfl⟩:=zA n;have:=h (t-i) ⋯ ⋯;simp only[Bool.not_eq_false',decide_eq_true_eq]at this;rw[show i+(t-i)=t by lia,ZS a q]at this;lia
  by_cases e:k > 0
  ·rw[Ct e];by_cases q:i+k+1=a.size
   ·rw[Ct (by simpa using q)];refine Cw (.inl ⟨d,_,rfl,?_⟩);rw[Af,Af,Af,Jj,Jj,yB];exact o.eX T.sa T.sb (by simpa using T.last) (by simpa using q)
   ·rw[Cs (by simpa using q)];by_cases v:i+k=a.size
    ·rw[Ct (by simpa using v)];refine Cw (.inl ⟨d,_,rfl,?_⟩);rw[Af,Af,Af,Jj,Jj,yB];exact o.fH T.sb (by simp;lia)
    ·rw[Cs (by simpa using v)];refine BL T c d ?_ ⋯ l ⋯ u;rw[Af,yB];exact o
  ·rw[Cs e];have:k=0:=⋯
   subst this;exact BL T c d m hi l I u
end
variable{C:cM}{a b:Array Keyed}
theorem Ej(T:Two C a b):MI C a.toList b.toList [b[0]'T.nb] 0 1:=by have m:MI C a.toList b.toList [] 0 0:=⟨by simp,List.Pairwise.nil,λx hx=>by simp at hx⟩;have:=m.cN T.sb 1 (λx hx y c=>T.first y (by simpa using c) x (by simpa using hx));rw[JK b T.nb]at this;simpa using this
def tR{α β γ δ:Type}{P:α->β->γ->δ->Prop}{G:Prop}(k:∀a b c d,P a b c d->G):(∃a b c d,P a b c d)->G:=λ⟨a,b,c,d,h⟩=>k a b c d h
def nT{α β γ δ ε:Type}{P:α->β->γ->δ->ε->Prop}{G:Prop}(k:∀a b c d e,P a b c d e->G):(∃a b c d e,P a b c d e)->G:=λ⟨a,b,c,d,e,h⟩=>k a b c d e h
def nR{α β γ δ ε ζ:Type}{P:α->β->γ->δ->ε->ζ->Prop}{G:Prop}(k:∀a b c d e f,P a b c d e f->G):(∃a b c d e f,P a b c d e f)->G:=λ⟨a,b,c,d,e,f,h⟩=>k a b c d e f h
theorem Nb{v:SortSt}{Q:Array Keyed->SortSt->Prop}(T:Two C a b)(hk:kindOf v=C.kd)(h:∀r l,Sm v l->Fin C a.toList b.toList r.toList->Q r l):W C (o_ a b) Q v:=by
  have na:=T.na;have nb:=T.nb;have m0:=Ej T;rw[Ol];dsimp only;refine Cv (zG (Cv (Zh T.nb ?_)));by_cases q:1=b.size
  . rw[Ct (by simpa using q)]
    refine Cw (h _ v (Sm.refl _) ?_);rw[Af,Af,Jj,Jj];exact m0.fG T.sa (by simp;lia)
  rw[Cs (by simpa using q)];by_cases q:0+1=a.size
  . rw[Ct (by simpa using q)]
    refine Cw (h _ v (Sm.refl _) ?_);rw[Af,Af,Jj,Jj];exact m0.eX T.sa T.sb (by simpa using T.last) (by simpa using q)
  rw[Cs (by simpa using q)];refine Cv (wpS_get ?_);refine Cv (wpS_mono (wpS_forRange (I:=λx c l=>∃res i j mg,c=(none,res,i,j,mg)/\iZ C a b v x none res i j l) (Q:=λc l=>V0 C a b v c.1 l) ?step ?fin ⟨_,_,_,_,rfl,Sm.refl _,rfl,m0,⋯,⋯,⋯⟩) ?post)
  case post =>
    rintro⟨Z,c2⟩ l ⟨f,x,rfl,hf⟩;exact Cw (h x l f hf)
  case fin =>
    rintro c l ⟨res,i,j,mg,rfl,f,_,m,u,n,U⟩;lia
  case step =>
    intro x c l _ hx;refine tR λres i j mg z=>?_;have e:=z.1;subst e;have f:=z.2.1;have m:=z.2.2.2.1;have u:=z.2.2.2.2.1;have n:=z.2.2.2.2.2.1;have U:=z.2.2.2.2.2.2;dsimp only;refine Cv (wpS_mono (wpS_forRange (I:=λy c d=>∃res i j ac bc,c=(none,res,i,j,ac,bc)/\iZ C a b v (x+y) none res i j d)
      (Q:=λc d=>V0 C a b v c.1 d∨∃res i j ac bc,c=(none,res,i,j,ac,bc)/\iZ C a b v (x+1) none res i j d) ?step1 ?lH ⟨_,_,_,_,_,rfl,f,rfl,m,u,n,U⟩) ?fV)
    case lH =>
      rintro c d ⟨res,i,j,ac,bc,rfl,f,_,m,u,n,U⟩;lia
    case step1 =>
      intro y c d _ hy;refine nT λres i j ac bc z=>?_;have e:=z.1;subst e;have f:=z.2.1;have m:=z.2.2.2.1;have u:=z.2.2.2.2.1;have n:=z.2.2.2.2.2.1;have U:=z.2.2.2.2.2.2;dsimp only;have hi:i<a.size:=⋯
      refine Cv (Zh n (Cv (Zh hi (Cv (C.lt d _ _ _ (T.mb _ (by simp)) (T.ma _ (by simp)) (f.1.trans hk) ?_)))));dsimp only;by_cases aa:C.key b[j]<C.key a[i]
      . simp only[aa,decide_true,if_true]
        refine Cv (Zh n ?_);have X:=m.cN T.sb 1 (λx hx y hy=>by rw[JK b n]at hx;rw[Aq.mp hx];obtain⟨t,ht,q,rfl⟩:=zA hy;have:=XU T.sa ht q;lia)
        rw[JK b n,<- Ci]at X;by_cases q:j+1=b.size
        . rw[Ct (by simpa using q)]
          refine Cw (.inl ⟨f,_,rfl,?_⟩);rw[Af,Af,Jj,Jj];exact X.fG T.sa (by simp;lia)
        . rw[Cs (by simpa using q)]
          split
          . exact Cw (.inr ⟨_,_,_,_,_,rfl,f,rfl,X,u,⋯,⋯⟩)
          . exact Cw ⟨_,_,_,_,_,rfl,f,rfl,X,u,⋯,⋯⟩
      . simp only[aa,decide_false,Aw,if_false]
        refine Cv (Zh hi ?_);have X:=m.cO T.sa 1 (λx hx y hy=>by rw[JK a hi]at hx;rw[Aq.mp hx];obtain⟨t,ht,q,rfl⟩:=zA hy;have:=XU T.sb ht q;lia)
        rw[JK a hi,<- Ci]at X;by_cases q:i+1+1=a.size
        . rw[Ct (by simpa using q)]
          refine Cw (.inl ⟨f,_,rfl,?_⟩);rw[Af,Af,Jj,Jj];exact X.eX T.sa T.sb (by simpa using T.last) (by simpa using q)
        . rw[Cs (by simpa using q)]
          split
          . exact Cw (.inr ⟨_,_,_,_,_,rfl,f,rfl,X,⋯,n,⋯⟩)
          . exact Cw ⟨_,_,_,_,_,rfl,f,rfl,X,⋯,n,⋯⟩
    case fV =>
      intro c d z0;refine z0.elim (λz0=>?_) (nT λres i j ac bc z=>?_)
      . obtain⟨Z,c2⟩:=c
        obtain⟨f,r,P,hf⟩:=z0;simp only at P;subst P;exact Cw ⟨f,r,rfl,hf⟩
      . have e:=z.1
        subst e;have f:=z.2.1;have m:=z.2.2.2.1;have u:=z.2.2.2.2.1;have n:=z.2.2.2.2.2.1;have U:=z.2.2.2.2.2.2;dsimp only;refine Cv (zG ?_);refine Cv (wpS_mono (wpS_forRange (I:=λy c o=>∃res i j mg ac bc,c=(none,res,i,j,mg,ac,bc)/\iZ C a b v (x+1+y) none res i j o)
          (Q:=λc o=>V0 C a b v c.1 o∨∃res i j mg ac bc,c=(none,res,i,j,mg,ac,bc)/\iZ C a b v (x+1) none res i j o) ?fQ ?fin2 ⟨_,_,_,_,_,_,rfl,f,rfl,m,u,n,⋯⟩) ?post2)
        case fin2 =>
          rintro c o ⟨res,i,j,mg,ac,bc,rfl,f,_,m,u,n,U⟩;lia
        case fQ =>
          intro y c o _ hy;refine nR λres i j mg ac bc z=>?_;have e:=z.1;subst e;have f:=z.2.1;have m:=z.2.2.2.1;have u:=z.2.2.2.2.1;have n:=z.2.2.2.2.2.1;have U:=z.2.2.2.2.2.2;dsimp only;have key:=λmg=>Nh (mg:=mg) (ac:=ac) (bc:=bc) (n0:=x+1+(y+1)) T hk f m u n ⋯;rcases A7 1 mg with hm|hm
          . rw[Ct hm]
            refine wpS_mono (key (mg-1)) ?_;intro r iz P;cases r with
            |done c =>
              obtain⟨Z,c2,c3,c4,c5,c6,c7⟩:=c;rcases P with q|q
              . exact .inl q
              . obtain⟨Y,F,J,L,O,R⟩:=q
                simp only at F J L O R;subst F;exact .inr ⟨_,_,_,_,_,_,rfl,Y,rfl,J,L,O,⋯⟩
            |yield c=>obtain⟨Z,c2,c3,c4,c5,c6,c7⟩:=c;obtain⟨Y,F,J,L,O,R⟩:=P;simp only at F J L O R;subst F;exact⟨_,_,_,_,_,_,rfl,Y,rfl,J,L,O,R⟩
          . rw[Cs ⋯]
            refine wpS_mono (key mg) ?_;intro r iz P;cases r with
            |done c =>
              obtain⟨Z,c2,c3,c4,c5,c6,c7⟩:=c;rcases P with q|q
              . exact .inl q
              . obtain⟨Y,F,J,L,O,R⟩:=q
                simp only at F J L O R;subst F;exact .inr ⟨_,_,_,_,_,_,rfl,Y,rfl,J,L,O,⋯⟩
            |yield c=>obtain⟨Z,c2,c3,c4,c5,c6,c7⟩:=c;obtain⟨Y,F,J,L,O,R⟩:=P;simp only at F J L O R;subst F;exact⟨_,_,_,_,_,_,rfl,Y,rfl,J,L,O,R⟩
        case post2 =>
          intro c o z0;refine z0.elim (λz0=>?_) (nR λres i j mg ac bc z=>?_)
          . obtain⟨Z,c2⟩:=c
            obtain⟨f,r,P,hf⟩:=z0;simp only at P;subst P;exact Cw ⟨f,r,rfl,hf⟩
          . have e:=z.1
            subst e;have f:=z.2.1;have m:=z.2.2.2.1;have u:=z.2.2.2.2.1;have n:=z.2.2.2.2.2.1;have U:=z.2.2.2.2.2.2;dsimp only;refine Cv (qV f λiz pG=>?_);exact Cw ⟨_,_,_,_,rfl,pG,rfl,m,u,n,U⟩
variable{C:cM}
structure MH(C:cM)(A B R:List Keyed)(p q:Nat):Prop where
 perm:(A.take p++B.take q++R).Perm (A++B)
 cH:bA C R
 high:∀x∈A.take p++B.take q,∀y∈R,C.key x<=C.key y
section
variable{A B R:List Keyed}{p q:Nat}
theorem uT(A:List Keyed){p r:Nat}(h:r<=p):A.take p=A.take r++(A.take p).drop r:=by
 have:A.take r=(A.take p).take r:=by rw[List.take_take,Nat.min_eq_left h]
 rw[this,Bm]
theorem MH.cO(m:MH C A B R p q)(f:bA C A){r:Nat}(l:r<=p)(h:∀y∈(A.take p).drop r,∀x∈B.take q,C.key x<=C.key y):MH C A B ((A.take p).drop r++R) r q:=by
 have e:=uT A l;have hd:=f.take p;rw[e]at hd;obtain⟨_,_,d⟩:=Bi.mp hd;have j:bA C ((A.take p).drop r):=(f.take p).drop r;have i:∀y∈(A.take p).drop r,y∈A.take p:=λy c=>List.mem_of_mem_drop c;generalize (A.take p).drop r=ch at e h d j i ⊢;refine⟨?_,j.app m.cH λx hx y c=>m.high x (Ax _ (i x hx)) y c,λx hx y c=>?_⟩
 ·refine List.Perm.trans ?_ m.perm;rw[e];simp only[Ay];refine List.Perm.append_left _ ?_;rw[<- Ay,<- Ay];exact List.Perm.append_right _ List.perm_append_comm
 ·rcases Ah.mp c with z|z
  ·rcases Ah.mp hx with w|w
   ·exact d x w y z
   ·exact h y z x w
  ·refine m.high x ?_ y z;rcases Ah.mp hx with w|w
   ·exact Ax _ (by rw[e];exact Ax _ w)
   ·exact Ai _ w
theorem MH.cN(m:MH C A B R p q)(f:bA C B){r:Nat}(l:r<=q)(h:∀y∈(B.take q).drop r,∀x∈A.take p,C.key x<=C.key y):MH C A B ((B.take q).drop r++R) p r:=by
 have e:=uT B l;have hd:=f.take q;rw[e]at hd;obtain⟨_,_,d⟩:=Bi.mp hd;have j:bA C ((B.take q).drop r):=(f.take q).drop r;have i:∀y∈(B.take q).drop r,y∈B.take q:=λy c=>List.mem_of_mem_drop c;generalize (B.take q).drop r=ch at e h d j i ⊢;refine⟨?_,j.app m.cH λx hx y c=>m.high x (Ai _ (i x hx)) y c,λx hx y c=>?_⟩
 ·have:=m.perm;rw[e]at this;simpa [Ay]using this
 ·rcases Ah.mp c with z|z
  ·rcases Ah.mp hx with w|w
   ·exact h y z x w
   ·exact d x w y z
  ·refine m.high x ?_ y z;rcases Ah.mp hx with w|w
   ·exact Ax _ w
   ·exact Ai _ (by rw[e];exact Ax _ w)
theorem MH.fH(m:MH C A B R p q)(U:p=0)(c:bA C B):Fin C A B (A.take p++B.take q++R):=by subst U;exact⟨by simpa using(c.take q).app m.cH λx hx y d=>m.high x (Ai _ hx) y d,m.perm⟩
theorem MH.fG(m:MH C A B R p q)(d:q=0)(c:bA C A):Fin C A B (A.take p++B.take q++R):=by subst d;exact⟨by simpa using(c.take p).app m.cH λx hx y e=>m.high x (Ax _ hx) y e,m.perm⟩
theorem MH.dG(m:MH C A B R p q)(f:q=1)(d:bA C A)(e:bA C B)(hf:∀y∈A,∀x∈B.take 1,C.key x<=C.key y):Fin C A B (B.take q++A.take p++R):=by
 subst f;refine⟨((e.take 1).app (d.take p) λx hx y c=>hf y (Bj c) x hx).app m.cH λx hx y c=>?_,?_⟩
 ·refine m.high x ?_ y c;rcases Ah.mp hx with w|w
  ·exact Ai _ w
  ·exact Ax _ w
 ·exact(List.Perm.append_right _ List.perm_append_comm).trans m.perm
end
theorem Om(a b:Array Keyed):pq a b=(do
  rule "list.sort.merge-hi"
  let all:=a.size+b.size
  let c (res:Array Keyed) (p q:Nat):=a.extract 0 p++b.extract 0 q++res.reverse
  let fst (res:Array Keyed) (p q:Nat):=b.extract 0 q++a.extract 0 p++res.reverse
  let mut p:=a.size-1
  let mut q:=b.size
  let mut res:Array Keyed:=#[<- elem' a p]
  if p==0 then return c res p q
  if q==1 then return fst res p q
  let mut mg:=gallopOf (<- get)
  for _ in [0:all] do
   let mut ac:=0
   let mut bc:=0
   for _ in [0:all] do
    let some aw <- lt' (<- elem' b (q-1)) (<- elem' a (p-1))|return c res p q
    if aw then
     p:=p-1;res:=res.push (<- elem' a p);ac:=ac+1;bc:=0
     if p==0 then return c res p q
     if ac≥mg then break
    else
     q:=q-1;res:=res.push (<- elem' b q);bc:=bc+1;ac:=0
     if q==1 then return fst res p q
     if bc≥mg then break
   rule "list.sort.gallop"
   mg:=mg+1
   for _ in [0:all] do
    if mg > 1 then mg:=mg-1
    Y8 mg
    let some t <- gal false (<- elem' b (q-1)) a 0 p (p-1)|return c res p q
    let k:=p-t
    ac:=k
    if k > 0 then
     res:=res++(a.extract t p).reverse;p:=t
     if p==0 then return c res p q
    q:=q-1;res:=res.push (<- elem' b q)
    if q==1 then return fst res p q
    let some t <- gal true (<- elem' a (p-1)) b 0 q (q-1)|return c res p q
    let k:=q-t
    bc:=k
    if k > 0 then
     res:=res++(b.extract t q).reverse;q:=t
     if q==1 then return fst res p q
     if q==0 then return c res p q
    p:=p-1;res:=res.push (<- elem' a p)
    if p==0 then return c res p q
    if ac<7&&bc<7 then break
   mg:=mg+1
   Y8 mg
  unsupported "internal:list.sort.merge-bound"):=rfl
abbrev HS:=Option (Array Keyed)×Nat×Nat×Array Keyed×Nat×Nat×Nat
def pH(a b:Array Keyed)(mg ac bc:Nat)(res:Array Keyed)(p q:Nat):StateT SortSt Sem (ForInStep HS):=do
 let x <- elem' a (p-1)
 if (p-1==0)=true then pure (.done (some (a.extract 0 (p-1)++b.extract 0 q++(res.push x).reverse),p-1,q,res.push x,mg,ac,bc))
 else if (decide (ac<7)&&decide (bc<7))=true then pure (.done (none,p-1,q,res.push x,mg,ac,bc))else pure (.yield (none,p-1,q,res.push x,mg,ac,bc))
def tK(a b:Array Keyed)(mg ac bc:Nat)(res:Array Keyed)(p q:Nat):StateT SortSt Sem (ForInStep HS):=do
 let y <- elem' a (p-1)
 let z <- gal true y b 0 q (q-1)
 match z with
 |some t=>(if q-t > 0 then (if (t==1)=true then pure (.done (some (b.extract 0 t++a.extract 0 p++(res++(b.extract t q).reverse).reverse),p,t,res++(b.extract t q).reverse,mg,ac,q-t))
   else if (t==0)=true then pure (.done (some (a.extract 0 p++b.extract 0 t++(res++(b.extract t q).reverse).reverse),p,t,res++(b.extract t q).reverse,mg,ac,q-t))
   else pH a b mg ac (q-t) (res++(b.extract t q).reverse) p t)else pH a b mg ac (q-t) res p q:StateT SortSt Sem (ForInStep HS))
 |_=>pure (.done (some (a.extract 0 p++b.extract 0 q++res.reverse),p,q,res,mg,ac,bc))
def hi2(a b:Array Keyed)(mg ac bc:Nat)(res:Array Keyed)(p q:Nat):StateT SortSt Sem (ForInStep HS):=do
 let y <- elem' b (q-1)
 if (q-1==1)=true then pure (.done (some (b.extract 0 (q-1)++a.extract 0 p++(res.push y).reverse),p,q-1,res.push y,mg,ac,bc))
 else tK a b mg ac bc (res.push y) p (q-1)
def hi1(a b:Array Keyed)(mg ac bc:Nat)(res:Array Keyed)(p q:Nat):StateT SortSt Sem (ForInStep HS):=do
 Y8 mg
 let y <- elem' b (q-1)
 let z <- gal false y a 0 p (p-1)
 match z with
 |some t=>(if p-t > 0 then (if (t==0)=true then pure (.done (some (a.extract 0 t++b.extract 0 q++(res++(a.extract t p).reverse).reverse),t,q,res++(a.extract t p).reverse,mg,p-t,bc))
   else hi2 a b mg (p-t) bc (res++(a.extract t p).reverse) t q)else hi2 a b mg (p-t) bc res p q:StateT SortSt Sem (ForInStep HS))
 |_=>pure (.done (some (a.extract 0 p++b.extract 0 q++res.reverse),p,q,res,mg,ac,bc))
section
variable{a b res:Array Keyed}{p q r:Nat}
theorem XY(a:Array Keyed)(p:Nat):(a.extract 0 p).toList=a.toList.take p:=by simp[Array.toList_extract,List.extract_eq_take_drop]
theorem gp(a:Array Keyed)(r p:Nat):(a.extract r p).toList=(a.toList.take p).drop r:=by rw[Array.toList_extract,List.extract_eq_take_drop,List.drop_take]
theorem jz(x:Keyed):(res.push x).toList.reverse=x::res.toList.reverse:=by simp
theorem kT(ch:Array Keyed):(res++ch.reverse).toList.reverse=ch.toList++res.toList.reverse:=by simp
theorem XV(a:Array Keyed){p:Nat}(c:1<=p)(h:p<=a.size):(a.toList.take p).drop (p-1)=[a[p-1]'⋯]:=by rw[List.drop_take,show p-(p-1)=1 by lia];exact JK a ⋯
theorem GG{x:Keyed}(h:x∈(a.toList.take p).drop r):∃t,r<=t/\t<p/\∃z:t<a.size,x=a[t]:=by
 obtain⟨t,d,e⟩:=List.getElem_of_mem h;have c:r+t<p/\r+t<a.size:=by simp at d;lia
 exact⟨r+t,⋯,c.1,c.2,by rw[<- e];simp[List.getElem_take,List.getElem_drop]⟩
theorem zB{x:Keyed}(h:x∈a.toList.take p):∃t,t<p/\∃z:t<a.size,x=a[t]:=by
 obtain⟨t,d,e⟩:=List.getElem_of_mem h;have c:t<p/\t<a.size:=by simp at d;lia
 exact⟨t,c.1,c.2,by rw[<- e];simp[List.getElem_take]⟩
end
section
variable{a b:Array Keyed}{st₀:SortSt}{n0:Nat}
def iY(C:cM)(a b:Array Keyed)(st₀:SortSt)(n0:Nat)(r:Option (Array Keyed))(res:Array Keyed)(p q:Nat)(c:SortSt):Prop:=Sm st₀ c/\r=none/\MH C a.toList b.toList res.toList.reverse p q/\(1<=p/\p<=a.size)/\(2<=q/\q<=b.size)/\n0+p+q<a.size+b.size
def KW(C:cM)(a b:Array Keyed)(st₀:SortSt)(n0:Nat)(r:ForInStep HS)(d:SortSt):Prop:=match r with
 |.done c=>V0 C a b st₀ c.1 d∨iY C a b st₀ n0 c.1 c.2.2.2.1 c.2.1 c.2.2.1 d
 |.yield c=>iY C a b st₀ n0 c.1 c.2.2.2.1 c.2.1 c.2.2.1 d
variable{mg ac bc p q:Nat}{res:Array Keyed}{st:SortSt}
theorem BP(T:Two C a b)(e:Sm st₀ st)(m:MH C a.toList b.toList res.toList.reverse p q)(U:1<=p/\p<=a.size)(i:2<=q/\q<=b.size)(j:n0+p+q<=a.size+b.size)(h:∀x∈b.toList.take q,C.key x<=C.key (a[p-1]'⋯)):W C (pH a b mg ac bc res p q) (KW C a b st₀ n0) st:=by
 have c:p-1<a.size:=⋯
 refine Cv (Zh c ?_);have d:=m.cO T.sa (r:=p-1) ⋯ (λy f x hx=>by rw[XV a U.1 U.2]at f;rw[Aq.mp f];exact h x hx);rw[XV a U.1 U.2,List.singleton_append,<- jz]at d;by_cases z:p-1=0
 ·rw[Ct (by simpa using z)];refine Cw (.inl ⟨e,_,rfl,?_⟩);rw[Af,Af,XY,XY,Bt];exact d.fH z T.sb
 ·rw[Cs (by simpa using z)];have g:iY C a b st₀ n0 none (res.push a[p-1]) (p-1) q st:=⟨e,rfl,d,⋯,i,⋯⟩;split
  ·exact Cw (.inr g)
  ·exact Cw g
theorem Nm(T:Two C a b)(I:kindOf st=C.kd)(f:Sm st₀ st)(m:MH C a.toList b.toList res.toList.reverse p q)(U:1<=p/\p<=a.size)(L:2<=q/\q<=b.size)(J:n0+p+q<=a.size+b.size):W C (tK a b mg ac bc res p q) (KW C a b st₀ n0) st:=by
 have d:p-1<a.size:=⋯
 refine Cv (Zh d (Cv (Xq (λt=>decide (kx C b (0+t)<C.key a[p-1])) I (T.ma _ (by simp)) T.mb ⋯ ⋯ (λt _=>rfl) (λs t n o i=>?_) λt n o i=>?_)))
 ·exact Cy (Int.lt_of_le_of_lt (xQ T.sb ⋯ ⋯) (Cz i))
 ·dsimp only;have h:=m.cN T.sb n (λy O x hx=>by obtain⟨u,j,l,z,rfl⟩:=GG O;have e:=of_decide_eq_false (i u j l);rw[Nat.zero_add,ZS b z]at e;obtain⟨v,F,z2,rfl⟩:=zB hx;have:=XU T.sa (show v<=p-1 by lia) d;lia)
  have r:∀x∈b.toList.take t,C.key x<=C.key a[p-1]:=λx hx=>by obtain⟨v,F,z2,rfl⟩:=zB hx;have e:=Cz (o v F);rw[Nat.zero_add,ZS b z2]at e;lia
  rw[<- gp,<- kT]at h;by_cases c:q-t > 0
  ·rw[Ct c];by_cases z:t=1
   ·rw[Ct (by simpa using z)];refine Cw (.inl ⟨f,_,rfl,?_⟩);rw[Af,Af,XY,XY,Bt];exact h.dG z T.sa T.sb T.first
   ·rw[Cs (by simpa using z)];by_cases z2:t=0
    ·rw[Ct (by simpa using z2)];refine Cw (.inl ⟨f,_,rfl,?_⟩);rw[Af,Af,XY,XY,Bt];exact h.fG z2 T.sa
    ·rw[Cs (by simpa using z2)];exact BP T f h U ⋯ ⋯ r
  ·rw[Cs c];have:t=q:=⋯
   subst this;exact BP T f m U L J r
theorem BR(T:Two C a b)(j:kindOf st=C.kd)(f:Sm st₀ st)(m:MH C a.toList b.toList res.toList.reverse p q)(U:1<=p/\p<=a.size)(e:2<=q/\q<=b.size)(l:n0+p+q<=a.size+b.size)(i:∀x∈a.toList.take p,C.key x<=C.key (b[q-1]'⋯)):W C (hi2 a b mg ac bc res p q) (KW C a b st₀ n0) st:=by
 have c:q-1<b.size:=⋯
 refine Cv (Zh c ?_);have d:=m.cN T.sb (r:=q-1) ⋯ (λy h x hx=>by rw[XV b ⋯ e.2]at h;rw[Aq.mp h];exact i x hx);rw[XV b ⋯ e.2,List.singleton_append,<- jz]at d;by_cases z:q-1=1
 ·rw[Ct (by simpa using z)];refine Cw (.inl ⟨f,_,rfl,?_⟩);rw[Af,Af,XY,XY,Bt];exact d.dG z T.sa T.sb T.first
 ·rw[Cs (by simpa using z)];exact Nm T j f d U ⋯ ⋯
theorem Mu(T:Two C a b)(L:kindOf st₀=C.kd)(d:Sm st₀ st)(m:MH C a.toList b.toList res.toList.reverse p q)(U:1<=p/\p<=a.size)(I:2<=q/\q<=b.size)(O:n0+p+q<=a.size+b.size):W C (hi1 a b mg ac bc res p q) (KW C a b st₀ n0) st:=by
 refine Cv (qV d λst d=>?_);have c:kindOf st=C.kd:=d.1.trans L;have h:q-1<b.size:=⋯
 refine Cv (Zh h (Cv (Xq (λt=>!decide (C.key b[q-1]<kx C a (0+t))) c (T.mb _ (by simp)) T.ma ⋯ ⋯ (λt _=>rfl) (λs t o r i=>?_) λt o r i=>?_)))
 ·have e:=xQ T.sa (show 0+s<=0+t by lia) ⋯;simp only[Ca,decide_eq_false_iff_not]at i ⊢;lia
 ·dsimp only;have n:=m.cO T.sa o (λy P x hx=>by obtain⟨u,j,l,z,rfl⟩:=GG P;have e:=i u j l;simp only[Bool.not_eq_false',decide_eq_true_eq]at e;rw[Nat.zero_add,ZS a z]at e;obtain⟨v,J,z2,rfl⟩:=zB hx;have:=XU T.sb (show v<=q-1 by lia) h;lia)
  have F:∀x∈a.toList.take t,C.key x<=C.key b[q-1]:=λx hx=>by obtain⟨v,J,z2,rfl⟩:=zB hx;have e:=r v J;simp only[Ca,decide_eq_false_iff_not]at e;rw[Nat.zero_add,ZS a z2]at e;lia
  rw[<- gp,<- kT]at n;by_cases f:p-t > 0
  ·rw[Ct f];by_cases z:t=0
   ·rw[Ct (by simpa using z)];refine Cw (.inl ⟨d,_,rfl,?_⟩);rw[Af,Af,XY,XY,Bt];exact n.fH z T.sb
   ·rw[Cs (by simpa using z)];exact BR T c d n ⋯ I ⋯ F
  ·rw[Cs f];have:t=p:=⋯
   subst this;exact BR T c d m U I O F
theorem El(T:Two C a b):MH C a.toList b.toList [a[a.size-1]'(by have:=T.na;lia)] (a.size-1) b.size:=by have na:=T.na;have d:a.toList.take a.size=a.toList:=Bw (by simp);have e:b.toList.take b.size=b.toList:=Bw (by simp);have m:MH C a.toList b.toList [] a.size b.size:=⟨by rw[d,e,Bg],List.Pairwise.nil,λx hx y c=>by simp at c⟩;have:=m.cO T.sa (r:=a.size-1) ⋯ (λy c x hx=>T.last y (by rw[d]at c;exact c) x (Bj hx));rw[XV a na (Ae _)]at this;simpa using this
theorem Nf{Q:Array Keyed->SortSt->Prop}(T:Two C a b)(hk:kindOf st=C.kd)(h:∀r i,Sm st i->Fin C a.toList b.toList r.toList->Q r i):W C (pq a b) Q st:=by
  have na:=T.na;have nb:=T.nb;have m0:=El T;have hl:a.size-1<a.size:=⋯
  rw[Om];dsimp only;refine Cv (zG (Cv (Zh hl ?_)));have m1:MH C a.toList b.toList (#[a[a.size-1]]).toList.reverse (a.size-1) b.size:=m0;by_cases z:a.size-1=0
  . rw[Ct (by simpa using z)]
    refine Cw (h _ st (Sm.refl _) ?_);rw[Af,Af,XY,XY,Bt];exact m1.fH z T.sb
  rw[Cs (by simpa using z)];by_cases z:b.size=1
  . rw[Ct (by simpa using z)]
    refine Cw (h _ st (Sm.refl _) ?_);rw[Af,Af,XY,XY,Bt];exact m1.dG z T.sa T.sb T.first
  rw[Cs (by simpa using z)];refine Cv (wpS_get ?_);refine Cv (wpS_mono (wpS_forRange (I:=λx c i=>∃p q res mg,c=(none,p,q,res,mg)/\iY C a b st x none res p q i) (Q:=λc i=>V0 C a b st c.1 i) ?step ?fin ⟨_,_,_,_,rfl,Sm.refl _,rfl,m1,⋯,⋯,⋯⟩) ?post)
  case post =>
    rintro⟨Z,c2⟩ i ⟨f,x,rfl,hf⟩;exact Cw (h x i f hf)
  case fin =>
    rintro c i ⟨p,q,res,mg,rfl,f,_,m,j,l,O⟩;lia
  case step =>
    intro x c i _ hx;refine tR λp q res mg z=>?_;have e:=z.1;subst e;have f:=z.2.1;have m:=z.2.2.2.1;have j:=z.2.2.2.2.1;have l:=z.2.2.2.2.2.1;have O:=z.2.2.2.2.2.2;dsimp only;refine Cv (wpS_mono (wpS_forRange (I:=λy c d=>∃p q res ac bc,c=(none,p,q,res,ac,bc)/\iY C a b st (x+y) none res p q d)
      (Q:=λc d=>V0 C a b st c.1 d∨∃p q res ac bc,c=(none,p,q,res,ac,bc)/\iY C a b st (x+1) none res p q d) ?step1 ?lH ⟨_,_,_,_,_,rfl,f,rfl,m,j,l,O⟩) ?fV)
    case lH =>
      rintro c d ⟨p,q,res,ac,bc,rfl,f,_,m,j,l,O⟩;lia
    case step1 =>
      intro y c d _ Y;refine nT λp q res ac bc z=>?_;have e:=z.1;subst e;have f:=z.2.1;have m:=z.2.2.2.1;have j:=z.2.2.2.2.1;have l:=z.2.2.2.2.2.1;have O:=z.2.2.2.2.2.2;dsimp only;have U:p-1<a.size:=⋯
      have X:q-1<b.size:=⋯
      refine Cv (Zh X (Cv (Zh U (Cv (C.lt d _ _ _ (T.mb _ (by simp)) (T.ma _ (by simp)) (f.1.trans hk) ?_)))));dsimp only;by_cases aa:C.key b[q-1]<C.key a[p-1]
      . simp only[aa,decide_true,if_true]
        refine Cv (Zh U ?_);have P:=m.cO T.sa (r:=p-1) ⋯ (λy Y x hx=>by rw[XV a j.1 j.2]at Y;rw[Aq.mp Y];obtain⟨v,hv,z2,rfl⟩:=zB hx;have:=XU T.sb (show v<=q-1 by lia) X;lia)
        rw[XV a j.1 j.2,List.singleton_append,<- jz]at P;by_cases z:p-1=0
        . rw[Ct (by simpa using z)]
          refine Cw (.inl ⟨f,_,rfl,?_⟩);rw[Af,Af,XY,XY,Bt];exact P.fH z T.sb
        . rw[Cs (by simpa using z)]
          split
          . exact Cw (.inr ⟨_,_,_,_,_,rfl,f,rfl,P,⋯,l,⋯⟩)
          . exact Cw ⟨_,_,_,_,_,rfl,f,rfl,P,⋯,l,⋯⟩
      . simp only[aa,decide_false,Aw,if_false]
        refine Cv (Zh X ?_);have P:=m.cN T.sb (r:=q-1) ⋯ (λy Y x hx=>by rw[XV b ⋯ l.2]at Y;rw[Aq.mp Y];obtain⟨v,hv,z2,rfl⟩:=zB hx;have:=XU T.sa (show v<=p-1 by lia) U;lia)
        rw[XV b ⋯ l.2,List.singleton_append,<- jz]at P;by_cases z:q-1=1
        . rw[Ct (by simpa using z)]
          refine Cw (.inl ⟨f,_,rfl,?_⟩);rw[Af,Af,XY,XY,Bt];exact P.dG z T.sa T.sb T.first
        . rw[Cs (by simpa using z)]
          split
          . exact Cw (.inr ⟨_,_,_,_,_,rfl,f,rfl,P,j,⋯,⋯⟩)
          . exact Cw ⟨_,_,_,_,_,rfl,f,rfl,P,j,⋯,⋯⟩
    case fV =>
      intro c d z0;refine z0.elim (λz0=>?_) (nT λp q res ac bc z=>?_)
      . obtain⟨Z,c2⟩:=c
        obtain⟨f,r,J,hf⟩:=z0;simp only at J;subst J;exact Cw ⟨f,r,rfl,hf⟩
      . have e:=z.1
        subst e;have f:=z.2.1;have m:=z.2.2.2.1;have j:=z.2.2.2.2.1;have l:=z.2.2.2.2.2.1;have O:=z.2.2.2.2.2.2;dsimp only;refine Cv (zG ?_);refine Cv (wpS_mono (wpS_forRange (I:=λy c n=>∃p q res mg ac bc,c=(none,p,q,res,mg,ac,bc)/\iY C a b st (x+1+y) none res p q n)
          (Q:=λc n=>V0 C a b st c.1 n∨∃p q res mg ac bc,c=(none,p,q,res,mg,ac,bc)/\iY C a b st (x+1) none res p q n) ?fQ ?fin2 ⟨_,_,_,_,_,_,rfl,f,rfl,m,j,l,⋯⟩) ?post2)
        case fin2 =>
          rintro c n ⟨p,q,res,mg,ac,bc,rfl,f,_,m,j,l,O⟩;lia
        case fQ =>
          intro y c n _ Y;refine nR λp q res mg ac bc z=>?_;have e:=z.1;subst e;have f:=z.2.1;have m:=z.2.2.2.1;have j:=z.2.2.2.2.1;have l:=z.2.2.2.2.2.1;have O:=z.2.2.2.2.2.2;dsimp only;have key:=λmg=>Mu (mg:=mg) (ac:=ac) (bc:=bc) (n0:=x+1+(y+1)) T hk f m j l ⋯;rcases A7 1 mg with hm|hm
          . rw[Ct hm]
            refine wpS_mono (key (mg-1)) ?_;intro r iz J;cases r with
            |done c =>
              obtain⟨Z,c2,c3,c4,c5,c6,c7⟩:=c;rcases J with z|z
              . exact .inl z
              . obtain⟨R,o,t,u,F,L⟩:=z
                simp only at o t u F L;subst o;exact .inr ⟨_,_,_,_,_,_,rfl,R,rfl,t,u,F,⋯⟩
            |yield c=>obtain⟨Z,c2,c3,c4,c5,c6,c7⟩:=c;obtain⟨R,o,t,u,F,L⟩:=J;simp only at o t u F L;subst o;exact⟨_,_,_,_,_,_,rfl,R,rfl,t,u,F,L⟩
          . rw[Cs ⋯]
            refine wpS_mono (key mg) ?_;intro r iz J;cases r with
            |done c =>
              obtain⟨Z,c2,c3,c4,c5,c6,c7⟩:=c;rcases J with z|z
              . exact .inl z
              . obtain⟨R,o,t,u,F,L⟩:=z
                simp only at o t u F L;subst o;exact .inr ⟨_,_,_,_,_,_,rfl,R,rfl,t,u,F,⋯⟩
            |yield c=>obtain⟨Z,c2,c3,c4,c5,c6,c7⟩:=c;obtain⟨R,o,t,u,F,L⟩:=J;simp only at o t u F L;subst o;exact⟨_,_,_,_,_,_,rfl,R,rfl,t,u,F,L⟩
        case post2 =>
          intro c n z0;refine z0.elim (λz0=>?_) (nR λp q res mg ac bc z=>?_)
          . obtain⟨Z,c2⟩:=c
            obtain⟨f,r,J,hf⟩:=z0;simp only at J;subst J;exact Cw ⟨f,r,rfl,hf⟩
          . have e:=z.1
            subst e;have f:=z.2.1;have m:=z.2.2.2.1;have j:=z.2.2.2.2.1;have l:=z.2.2.2.2.2.1;have O:=z.2.2.2.2.2.2;dsimp only;refine Cv (qV f λiz pG=>?_);exact Cw ⟨_,_,_,_,rfl,pG,rfl,m,j,l,O⟩
end
variable{C:cM}
def seg(L:List Keyed)(s n:Nat):List Keyed:=(L.drop s).take n
theorem JU{L:List Keyed}{s n:Nat}(h:s+n<=L.length):(seg L s n).length=n:=by simp[seg];lia
theorem yL(L:List Keyed)(s n:Nat):L=L.take s++seg L s n++L.drop (s+n):=by unfold seg;rw[Ay,<- Cc,Bm,Bm]
theorem jC(L:List Keyed)(s n m:Nat):seg L s (n+m)=seg L s n++seg L (s+n) m:=by unfold seg;rw[<- Cc,List.take_add]
theorem Rb{P M M' R:List Keyed}{s n:Nat}(h:s+n<=P.length):seg (P++M++R) s n=seg (P++M'++R) s n:=by
 unfold seg;have:∀T:List Keyed,((P++T).drop s).take n=(P.drop s).take n:=λT=>by rw[List.drop_append_of_le_length ⋯,List.take_append_of_le_length (by simp;lia)]
 rw[Ay,Ay,this,this]
theorem kY{P M M' R:List Keyed}{s n:Nat}(d:M.length=M'.length)(h:P.length+M.length<=s):seg (P++M++R) s n=seg (P++M'++R) s n:=by
 unfold seg;have e:∀T:List Keyed,T.length<=s->(T++R).drop s=R.drop (s-T.length):=λT c=>by rw[List.drop_append,B0 c,List.nil_append]
 rw[e (P++M) (by rw[Am];lia),e (P++M') (by rw[Am];lia),Am,Am,d]
theorem Rf{P M R:List Keyed}{s n:Nat}(h:s=P.length)(c:n=M.length):seg (P++M++R) s n=M:=by subst h c;unfold seg;rw[Ay,List.drop_left,List.take_left]
theorem VU{c:Array Keyed}{s n i j:Nat}(h:bA C (seg c.toList s n))(e:s+n<=c.size)(d:i<=j)(f:j<n):kx C c (s+i)<=kx C c (s+j):=by
 rcases A7 i j with q|q
 ·have l:(seg c.toList s n).length=n:=JU (by simpa using e);have:=B9.mp h i j ⋯ ⋯ q;rw[ZS c ⋯,ZS c ⋯];simpa [seg,List.getElem_take,List.getElem_drop]using this
 ·have:i=j:=⋯
  subst this;exact Bc _
theorem PX{c:Array Keyed}{s n:Nat}(e:s+n<=c.size)(h:∀i j,i<=j->j<n->kx C c (s+i)<=kx C c (s+j)):bA C (seg c.toList s n):=by refine B9.mpr λi j hi f d=>?_;have l:(seg c.toList s n).length=n:=JU (by simpa using e);have:=h i j ⋯ ⋯;rw[ZS c ⋯,ZS c ⋯]at this;simpa [seg,List.getElem_take,List.getElem_drop]using this
def Runs(C:cM)(L:List Keyed):List (Nat×Nat×Nat)->Nat->Nat->Prop
 | [],s,e=>s=e
 | (x,n,_)::r,s,e=>x=s/\1<=n/\bA C (seg L s n)/\Runs C L r (s+n) e
theorem Runs.le{L:List Keyed}:∀{r:List (Nat×Nat×Nat)}{s e:Nat},Runs C L r s e->s+r.length<=e
 | [],_,_,h=>by cases h;simp
 | (x,n,_)::r,s,e,⟨_,d,_,c⟩=>by have:=Runs.le c;simp;lia
theorem Runs.congr{L L':List Keyed}:∀{r:List (Nat×Nat×Nat)}{s e:Nat},Runs C L r s e->(∀a n,s<=a->a+n<=e->seg L' a n=seg L a n)->Runs C L' r s e
  | [],_,_,h,_=>h
  | (x,n,_)::r,s,e,⟨d,f,i,c⟩,q=>by have j:=c.le;exact⟨d,f,by rw[q s n (Ae _) ⋯];exact i,c.congr λa m o l=>q a m ⋯ l⟩
theorem Runs.app{L:List Keyed}:∀{r f:List (Nat×Nat×Nat)}{s e:Nat},Runs C L (r++f) s e↔∃m,Runs C L r s m/\Runs C L f m e
  | [],f,s,e=>⟨λh=>⟨s,rfl,h⟩,λ⟨m,c,d⟩=>by cases c;exact d⟩
  | (x,n,_)::r,f,s,e=>by
    constructor
    . rintro⟨i,c,d,j⟩
      obtain⟨m,l,o⟩:=Runs.app.mp j;exact⟨m,⟨i,c,d,l⟩,o⟩
    . rintro⟨m,⟨i,c,d,j⟩,q⟩
      exact⟨i,c,d,Runs.app.mpr ⟨m,j,q⟩⟩
structure G(C:cM)(L0:List Keyed)(st:SortSt)(lo:Nat):Prop where
 kind:kindOf st=C.kd
 fine:failedOf st=none
 perm:(arrOf st).toList.Perm L0
 runs:Runs C (arrOf st).toList (pendingOf st).toList 0 lo
 le:lo<=(arrOf st).size
theorem Uv(c:Nat):∀(M:List Keyed)(j0:Nat)(d:Array Keyed),c+j0+M.length<=d.size->((M.zipIdx j0).foldl (λa x=>a.setIfInBounds (c+x.2) x.1) d).toList=d.toList.take (c+j0)++M++d.toList.drop (c+j0+M.length)
  | [],j0,d,h=>by simp
  |m::M,j0,d,h=>by
    rw[List.zipIdx_cons,List.foldl_cons];have h':c+j0<d.size:=by simp at h;lia
    rw[Uv c M (j0+1) _ (by simp at h ⊢;lia)];have e:(d.setIfInBounds (c+j0) m).toList=d.toList.take (c+j0)++m::d.toList.drop (c+j0+1):=by rw[Array.toList_setIfInBounds,List.set_eq_take_append_cons_drop,Ct (by simpa using h')]
    have f:(d.toList.take (c+j0)).length=c+j0:=by simp;lia
    have i:(d.toList.take (c+j0)++m::d.toList.drop (c+j0+1)).take (c+(j0+1))=d.toList.take (c+j0)++[m]:=by rw[List.take_append,f,show c+(j0+1)-(c+j0)=1 by lia,Bw ⋯];simp
    have j:(d.toList.take (c+j0)++m::d.toList.drop (c+j0+1)).drop (c+(j0+1)+M.length)=d.toList.drop (c+j0+(m::M).length):=by rw[List.drop_append,f,B0 ⋯,show c+(j0+1)+M.length-(c+j0)=M.length+1 by lia];simp[Cc];congr 1;lia
    show _=_;rw[e,i,j];simp
theorem Oo(i:Nat):sZ i=(do
  let s <- get
  let (some (sa,na,pw),some (sb,nb,_)):=((pendingOf s)[i]?,(pendingOf s)[i+1]?)|unsupported "internal:list.sort.pending"
  set (setPending s (((pendingOf s).setIfInBounds i (sa,na+nb,pw)).eraseIdxIfInBounds (i+1)))
  let some k <- gal false (<- elem' (arrOf s) sb) (arrOf s) sa na 0|return false
  let (sa,na):=(sa+k,na-k)
  if na==0 then return true
  let some nb <- gal true (<- elem' (arrOf s) (sa+na-1)) (arrOf s) sb nb (nb-1)|return false
  if nb==0 then return true
  let x:=(arrOf s).extract sa sb
  let y:=(arrOf s).extract sb (sb+nb)
  let both <- if na<=nb then o_ x y else pq x y
  modify λs=>setArr s (both.toList.zipIdx.foldl (λa x=>a.setIfInBounds (sa+x.2) x.1) (arrOf s))
  return (failedOf (<- get)).isNone):=rfl
def gq(a:Array Keyed)(s n:Nat):(a.extract s (s+n)).toList=seg a.toList s n:=yB a s n
theorem RG{σ:Type}{s' c:σ}{Q:PUnit->σ->Prop}(h:Q ⟨⟩ s'):W C (set s':StateT σ Sem PUnit) Q c:=by show wpS _ _ _ _ _ Q c;unfold wpS;rw[StateT.run_set];exact Cu ⟨rfl,h⟩
theorem BJ{L0:List Keyed}{c:SortSt}{lo i:Nat}{Q:Bool->SortSt->Prop}(hS:∀p∈L0,C.S p)(g:G C L0 c lo)(hi:i+1<(pendingOf c).size)(h:∀j,G C L0 j lo->(pendingOf j).size+1=(pendingOf c).size->(arrOf j).toList.drop lo=(arrOf c).toList.drop lo->Q true j):W C (sZ i) Q c:=by
 have lC:∀p∈(arrOf c).toList,C.S p:=λp U=>hS p (g.perm.mem_iff.mp U);have e1:(pendingOf c)[i]?=some (pendingOf c)[i]:=getElem?_pos _ i ⋯;have e2:(pendingOf c)[i+1]?=some (pendingOf c)[i+1]:=getElem?_pos _ (i+1) hi;obtain⟨⟨sa,na,pw⟩,ea⟩:∃x,(pendingOf c)[i]=x:=⟨_,rfl⟩;obtain⟨⟨sb,nb,Ed⟩,eb⟩:∃x,(pendingOf c)[i+1]=x:=⟨_,rfl⟩;rw[ea]at e1;rw[eb]at e2;have split:(pendingOf c).toList=(pendingOf c).toList.take i++(sa,na,pw)::(sb,nb,Ed)::(pendingOf c).toList.drop (i+2):=by
  have l1:i<(pendingOf c).toList.length:=by simp;lia
  have l2:i+1<(pendingOf c).toList.length:=by simpa using hi
  conv=>lhs;rw[<- Bm i (pendingOf c).toList,A8 l1,A8 l2]
  simp[ea,eb]
 have O1:(((pendingOf c).setIfInBounds i (sa,na+nb,pw)).eraseIdxIfInBounds (i+1)).toList=(pendingOf c).toList.take i++(sa,na+nb,pw)::(pendingOf c).toList.drop (i+2):=by
  have l1:i<(pendingOf c).toList.length:=by simp;lia
  have:∀(x:Array (Nat×Nat×Nat)) k,(x.eraseIdxIfInBounds k).toList=x.toList.eraseIdx k:=λx k=>by
   have e:x=x.toList.toArray:=by simp
   conv=>lhs;rw[e,List.eraseIdxIfInBounds_toArray]
  rw[this,Array.toList_setIfInBounds,List.set_eq_take_append_cons_drop,Ct l1];have l3:((pendingOf c).toList.take i).length=i:=by simp;lia
  rw[List.eraseIdx_append_of_length_le ⋯,l3,show i+1-i=1 by lia];rw[A8 (by simpa using hi)];rfl
 have r:=g.runs;rw[split]at r;obtain⟨m,r1,⟨ah,ay,sA,am,az,sB,r2⟩⟩:=Runs.app.mp r;subst ah am;have ax:=r2.le;have hsz:=g.le;have av:(arrOf c).toList.length=(arrOf c).size:=by simp
 have T6:=r1.le;generalize F:(arrOf c).toList=L at *;have done:∀(j:SortSt)(M:List Keyed),kindOf j=kindOf c->failedOf j=failedOf c->pendingOf j=((pendingOf c).setIfInBounds i (sa,na+nb,pw)).eraseIdxIfInBounds (i+1)->(arrOf j).toList=L.take sa++M++L.drop (sa+(na+nb))->bA C M->M.Perm (seg L sa na++seg L (sa+na) nb)->Q true j:=by
  intro j M q1 q2 q3 q4 q5 q6;have hM:M.length=na+nb:=by rw[q6.length_eq,Am,JU ⋯,JU ⋯]
  have hT:(L.take sa).length=sa:=by simp;lia
  have lG:=yL L sa (na+nb);have iB:(seg L sa (na+nb)).length=M.length:=by rw[JU ⋯,hM]
  refine h j ⟨q1.trans g.kind,q2.trans g.fine,?_,?_,?_⟩ ?_ ?_
  ·rw[q4];refine List.Perm.trans ?_ (show L.Perm L0 from F▸g.perm)
   conv=>rhs;rw[lG,jC]
   exact List.Perm.append_right _ (List.Perm.append_left _ q6)
  ·rw[q3,O1,q4];refine Runs.app.mpr ⟨sa,r1.congr λa n ha hn=>?_,rfl,⋯,?_,?_⟩
   ·conv=>rhs;rw[lG]
    exact Rb (by rw[hT];lia)
   ·rw[Rf hT.symm hM.symm];exact q5
   ·have ar:Runs C L ((pendingOf c).toList.drop (i+2)) (sa+(na+nb)) lo:=by rw[<- Nat.add_assoc];exact r2
    refine ar.congr λa n ha hn=>?_
    conv=>rhs;rw[lG]
    exact kY iB.symm (by rw[hT,hM];lia)
  ·have:(arrOf j).size=(arrOf c).size:=by have e:=congrArg List.length q4;rw[Am,Am,hM,hT,Be]at e;rw[<- Bx,e];lia
   lia
  ·have e:=congrArg List.length O1;rw[<- q3]at e;have e0:=congrArg List.length split;simp at e e0;lia
  ·have d:L.drop lo=(L.drop (sa+(na+nb))).drop (lo-(sa+(na+nb))):=by rw[Cc];congr 1;lia
   have hl:(L.take sa++M).length=sa+(na+nb):=by rw[Am,hT,hM]
   rw[q4,d,List.drop_append,hl,List.drop_eq_nil_of_le (by rw[hl];lia),List.nil_append]
 rw[Oo];refine Cv (wpS_get ?_);simp only[e1,e2];refine Cv (RG ?_);have kd:kindOf (setPending c (((pendingOf c).setIfInBounds i (sa,na+nb,pw)).eraseIdxIfInBounds (i+1)))=C.kd:=g.kind;generalize O:setPending c (((pendingOf c).setIfInBounds i (sa,na+nb,pw)).eraseIdxIfInBounds (i+1))=u at kd;have Y:kindOf u=kindOf c:=by rw[<- O]
 have nQ:failedOf u=failedOf c:=by rw[<- O]
 have pN:pendingOf u=((pendingOf c).setIfInBounds i (sa,na+nb,pw)).eraseIdxIfInBounds (i+1):=by rw[<- O]
 have tO:arrOf u=arrOf c:=by rw[<- O]
 have Z:sa+na<(arrOf c).size:=⋯
 have sG:bA C (seg (arrOf c).toList sa na):=by rw[F];exact sA
 have sE:bA C (seg (arrOf c).toList (sa+na) nb):=by rw[F];exact sB
 have eV:∀p∈(arrOf c).toList,C.S p:=by rw[F];exact lC
 have b0:∀y∈seg L (sa+na) nb,C.key (arrOf c)[sa+na]<=C.key y:=λy o=>by rw[<- F]at o;obtain⟨t,R,z,rfl⟩:=Yf o;have:=VU sE ⋯ (A5 t) R;rw[Nat.add_zero,ZS _ Z,ZS _ z]at this;exact this
 refine Cv (Zh Z (Cv (Xq (λt=>!decide (C.key (arrOf c)[sa+na]<kx C (arrOf c) (sa+t))) kd (eV _ (by simp)) eV ⋯ ⋯ (λt _=>rfl) (λs t h1 h2 h3=>?_) λk h1 h2 h3=>?_)))
 ·have q:=VU sG ⋯ h1 h2;simp only[Ca,decide_eq_false_iff_not]at h3 ⊢;lia
 dsimp only;have A1:∀x∈seg L sa k,C.key x<=C.key (arrOf c)[sa+na]:=λx hx=>by rw[<- F]at hx;obtain⟨t,R,z,rfl⟩:=Yf hx;have e:=h2 t R;simp only[Ca,decide_eq_false_iff_not]at e;rw[ZS _ z]at e;lia
 have A2:∀x∈seg L (sa+k) (na-k),C.key (arrOf c)[sa+na]<C.key x:=λx hx=>by rw[<- F]at hx;obtain⟨t,R,z,rfl⟩:=Yf hx;have e:=h3 (k+t) ⋯ ⋯;simp only[Bool.not_eq_false',decide_eq_true_eq]at e;rw[<- Nat.add_assoc,ZS _ z]at e;exact e
 have eA:seg L sa na=seg L sa k++seg L (sa+k) (na-k):=by rw[<- jC,show k+(na-k)=na by lia]
 have X:(arrOf u).toList=L.take sa++(seg L sa na++seg L (sa+na) nb)++L.drop (sa+(na+nb)):=by rw[tO,F,<- jC];exact yL L sa (na+nb)
 by_cases hz:na-k=0
 ·rw[Ct (by simpa using hz)];have ag:k=na:=⋯
  subst ag;exact Cw (done u _ Y nQ pN X (sA.app sB λx hx y o=>Ch (A1 x hx) (b0 y o)) (List.Perm.refl _))
 rw[Cs (by simpa using hz)];have I:sa+k+(na-k)-1<(arrOf c).size:=⋯
 have pQ:sa+k+(na-k)-1=sa+(na-1):=⋯
 have kl:∀x∈seg L sa na,C.key x<=C.key ((arrOf c)[sa+k+(na-k)-1]'I):=λx hx=>by rw[<- F]at hx;obtain⟨t,R,z,rfl⟩:=Yf hx;have e:=VU sG ⋯ (show t<=na-1 by lia) ⋯;rw[ZS _ z,<- pQ,ZS _ I]at e;exact e
 refine Cv (Zh I (Cv (Xq (λt=>decide (kx C (arrOf c) (sa+na+t)<C.key ((arrOf c)[sa+k+(na-k)-1]'I))) kd (eV _ (by simp)) eV ⋯ ⋯ (λt _=>rfl) (λs t h1 h2 h3=>?_) λf g1 g2 g3=>?_)))
 ·exact Cy (Int.lt_of_le_of_lt (VU sE ⋯ h1 h2) (Cz h3))
 dsimp only;generalize af:C.key ((arrOf c)[sa+k+(na-k)-1]'I)=al at kl g2 g3;have B1:∀y∈seg L (sa+na) f,C.key y<al:=λy o=>by
  rw[<- F]at o;obtain⟨t,R,z,rfl⟩:=Yf o;have e:=Cz (g2 t R)
  rwa [ZS _ z]at e
 have B2:∀y∈seg L (sa+na+f) (nb-f),al<=C.key y:=λy o=>by rw[<- F]at o;obtain⟨t,R,z,rfl⟩:=Yf o;have e:=of_decide_eq_false (g3 (f+t) ⋯ ⋯);rw[<- Nat.add_assoc,ZS _ z]at e;lia
 have eB:seg L (sa+na) nb=seg L (sa+na) f++seg L (sa+na+f) (nb-f):=by rw[<- jC,show f+(nb-f)=nb by lia]
 by_cases aa:f=0
 ·rw[Ct (by simpa using aa)];subst aa;refine Cw (done u _ Y nQ pN X (sA.app sB λx hx y o=>?_) (List.Perm.refl _));exact Ch (kl x hx) (B2 y (by simpa using o))
 rw[Cs (by simpa using aa)];have ex:((arrOf c).extract (sa+k) (sa+na)).toList=seg L (sa+k) (na-k):=by rw[show sa+na=sa+k+(na-k)by lia,gq,F]
 have ey:((arrOf c).extract (sa+na) (sa+na+f)).toList=seg L (sa+na) f:=by rw[gq,F]
 have sx:((arrOf c).extract (sa+k) (sa+na)).size=na-k:=by rw[<- Bx,ex,JU ⋯]
 have sy:((arrOf c).extract (sa+na) (sa+na+f)).size=f:=by rw[<- Bx,ey,JU ⋯]
 have sX:bA C (seg L (sa+k) (na-k)):=by rw[eA]at sA;exact(Bi.mp sA).2.1
 have sY:bA C (seg L (sa+na) f):=by rw[eB]at sB;exact(Bi.mp sB).1
 have DR:bA C (seg L (sa+na+f) (nb-f)):=by rw[eB]at sB;exact(Bi.mp sB).2.1
 have DY:bA C (seg L sa k):=by rw[eA]at sA;exact(Bi.mp sA).1
 have tE:∀s n,∀p∈seg L s n,p∈L:=λs n p U=>List.mem_of_mem_drop (Bj U);have T:Two C ((arrOf c).extract (sa+k) (sa+na)) ((arrOf c).extract (sa+na) (sa+na+f)):=by
  refine⟨by rw[ex];exact sX,by rw[ey];exact sY,by rw[ex];exact λp U=>lC p (tE _ _ p U),by rw[ey];exact λp U=>lC p (tE _ _ p U),⋯,⋯,?_,?_⟩
  ·rw[ex,ey];intro y o x hx;have:x∈seg L (sa+na) 1:=by
    unfold seg at hx ⊢;rw[List.take_take]at hx
    rwa [Nat.min_eq_left ⋯]at hx
   rw[<- F]at this;have e:=JK (arrOf c) Z;unfold seg at this;rw[e]at this;rw[Aq.mp this];exact By (A2 y o)
  ·rw[ex,ey,sx];intro x hx y o;have P:x∈seg L (sa+k+(na-k)-1) 1:=by
    unfold seg at hx ⊢;rw[List.drop_take,Cc,show na-k-(na-k-1)=1 by lia]at hx
    rwa [show sa+k+(na-k)-1=sa+k+(na-k-1)by lia]
   rw[<- F]at P;have e:=JK (arrOf c) I;unfold seg at P;rw[e]at P;rw[Aq.mp P,af];exact By (B1 y o)
 have ad:∀(r:Array Keyed)(l:SortSt),Sm u l->Fin C ((arrOf c).extract (sa+k) (sa+na)).toList ((arrOf c).extract (sa+na) (sa+na+f)).toList r.toList->W C (do
   modify λs=>setArr s (r.toList.zipIdx.foldl (λa x=>a.setIfInBounds (sa+k+x.2) x.1) (arrOf s))
   let __do_lift <- get
   pure (failedOf __do_lift).isNone:StateT SortSt Sem Bool) Q l:=by
  intro r l J ⟨f1,f2⟩;rw[ex,ey]at f2;refine Cv (wpS_modify (Cv (wpS_get ?_)));have hf:failedOf (setArr l (r.toList.zipIdx.foldl (λa x=>a.setIfInBounds (sa+k+x.2) x.1) (arrOf l)))=none:=(J.2.2.2.trans nQ).trans g.fine;rw[hf];have rl:r.toList.length=na-k+f:=by rw[f2.length_eq,Am,JU ⋯,JU ⋯]
  have a2:arrOf l=arrOf c:=J.2.1.trans tO;have mW:∀x∈r.toList,x∈seg L (sa+k) (na-k)∨x∈seg L (sa+na) f:=λx hx=>Ah.mp (f2.mem_iff.mp hx);refine Cw (done _ (seg L sa k++r.toList++seg L (sa+na+f) (nb-f)) (J.1.trans Y) (J.2.2.2.trans nQ) (J.2.2.1.trans pN) ?_ ?_ ?_)
  ·show((r.toList.zipIdx.foldl (λa x=>a.setIfInBounds (sa+k+x.2) x.1) (arrOf l)).toList)=_;rw[a2,Uv (sa+k) r.toList 0 (arrOf c) (by rw[rl];lia),F,Nat.add_zero,rl];have t1:L.take (sa+k)=L.take sa++seg L sa k:=by unfold seg;rw[List.take_add]
   have t2:L.drop (sa+k+(na-k+f))=seg L (sa+na+f) (nb-f)++L.drop (sa+(na+nb)):=by unfold seg;rw[show sa+k+(na-k+f)=sa+na+f by lia,show L.drop (sa+(na+nb))=(L.drop (sa+na+f)).drop (nb-f)by rw[Cc];congr 1;lia,Bm]
   rw[t1,t2];simp[Ay]
  ·refine(DY.app f1 λx hx y o=>?_).app DR λx hx y o=>?_
   ·rcases mW y o with w|w
    ·exact Ch (A1 x hx) (By (A2 y w))
    ·exact Ch (A1 x hx) (b0 y (by rw[eB];exact Ax _ w))
   ·have ae:=B2 y o;rcases Ah.mp hx with w|w
    ·exact Ch (A1 x w) (b0 y (by rw[eB];exact Ai _ o))
    ·rcases mW x w with v|v
     ·exact Ch (kl x (by rw[eA];exact Ai _ v)) ae
     ·exact By (Int.lt_of_lt_of_le (B1 x v) ae)
  ·rw[eA,eB];have:(seg L sa k++r.toList++seg L (sa+na+f) (nb-f)).Perm (seg L sa k++(seg L (sa+k) (na-k)++seg L (sa+na) f)++seg L (sa+na+f) (nb-f)):=List.Perm.append_right _ (List.Perm.append_left _ f2);simpa [Ay]using this
 by_cases m8:na-k<=f
 ·rw[Ct m8];exact Cv (Nb T kd λr l J hf=>ad r l J hf)
 ·rw[Cs m8];exact Cv (Nf T kd λr l J hf=>ad r l J hf)
variable{C:cM}
structure Bs(C:cM)(st₀ st:SortSt)(lo:Nat):Prop where
 kind:kindOf st=C.kd
 fine:failedOf st=none
 pend:pendingOf st=pendingOf st₀
 perm:(arrOf st).toList.Perm (arrOf st₀).toList
 low:∀i:Nat,i<lo->(arrOf st)[i]?=(arrOf st₀)[i]?
 mem:∀p∈(arrOf st₀).toList,C.S p
def SR(C:cM)(c:SortSt)(lo n:Nat):Prop:=∀i j,i<=j->j<n->kx C (arrOf c) (lo+i)<=kx C (arrOf c) (lo+j)
def NI(C:cM)(c:SortSt)(lo n:Nat):Prop:=∀i j,i<=j->j<n->kx C (arrOf c) (lo+j)<=kx C (arrOf c) (lo+i)
section
variable{st₀ st:SortSt}{lo n m:Nat}
theorem Bs.size(b:Bs C st₀ st lo):(arrOf st).size=(arrOf st₀).size:=by have:=b.perm.length_eq;simpa using this
def Bs.ok(b:Bs C st₀ st lo):Ok C st:=⟨b.kind,b.fine,λp U=>b.mem p (b.perm.mem_iff.mp U)⟩
theorem Bs.set(b:Bs C st₀ st lo){xs:Array Keyed}(U:xs.Perm (arrOf st))(c:∀i:Nat,i<lo->xs[i]?=(arrOf st)[i]?):Bs C st₀ (setArr st xs) lo :=
 ⟨b.kind,b.fine,b.pend,(Array.perm_iff_toList_perm.mp U).trans b.perm,λi h=>(c i h).trans (b.low i h),b.mem⟩
theorem Uz{xs ys:Array Keyed}{i j:Nat}(h:xs[i]?=ys[j]?):kx C xs i=kx C ys j:=by unfold kx;rw[h]
theorem zx{xs:Array Keyed}{i j:Nat}(c:j<=xs.size)(k:Nat):kx C (mirror xs i j ((j-i) / 2)) k=if i<=k/\k<j then kx C xs (i+j-1-k)else kx C xs k:=by
 have e:=getElem?_mirror_all (i:=i) c k;split at e<;>rename_i q
 ·rw[Ct q];exact Uz e
 ·rw[Cs q];exact Uz e
theorem Bs.mirror(b:Bs C st₀ st lo){i j:Nat}(hi:lo<=i)(c:j<=(arrOf st).size):Bs C st₀ (setArr st (mirror (arrOf st) i j ((j-i) / 2))) lo :=
 b.set (mirror_perm _ _ _ _) λk d=>by rw[getElem?_mirror_all c,Cs ⋯]
theorem VC{xs:Array Keyed}{i j:Nat}(d:j<=xs.size)(c:∀k,i<=k->k<j->kx C xs k=kx C xs (j-1))(k:Nat):kx C (mirror xs i j ((j-i) / 2)) k=kx C xs k:=by
 rw[zx d];split
 ·rename_i q;rw[c (i+j-1-k) ⋯ ⋯,c k q.1 q.2]
 ·rfl
theorem GW{i j:Nat}{Q:Unit->SortSt->Prop}(h:Q () (setArr st (mirror (arrOf st) i j ((j-i) / 2)))):W C (reverseSlice' i j) Q st:=by rw[reverseSlice'_eq];exact wpS_modify h
def rO(lo n c:Nat):StateT SortSt Sem (Option Nat):=do
 reverseSlice' lo (lo+n)
 let mut m:=n
 for _ in [n:c] do
  let some less <- ltAt' (lo+m) (lo+m-1)|return none
  if less then break
  m:=m+1
 return some m
theorem G2{d:Nat}{Q:Option Nat->SortSt->Prop}(b:Bs C st₀ st lo)(J:1<=n)(L:n<=d)(O:lo+d<=(arrOf st₀).size)(F:NI C st lo n)(h:∀m e,Bs C st₀ e lo->1<=m->m<=d->SR C e lo m->Q (some m) e):W C (rO lo n d) Q st:=by
 unfold rO;have hz:=b.size;refine Cv (GW ?_);have o:=b.mirror (i:=lo) (j:=lo+n) (Ae _) ⋯;have t:SR C (setArr st (PyProof.Rows.mirror (arrOf st) lo (lo+n) ((lo+n-lo) / 2))) lo n:=λi j l u=>by show kx C (PyProof.Rows.mirror _ _ _ _) _<=kx C (PyProof.Rows.mirror _ _ _ _) _;rw[zx ⋯,zx ⋯,Ct ⋯,Ct ⋯];have:=F (n-1-j) (n-1-i) ⋯ ⋯;rw[show lo+(lo+n)-1-(lo+i)=lo+(n-1-i)by lia,show lo+(lo+n)-1-(lo+j)=lo+(n-1-j)by lia];exact this
 generalize setArr st (PyProof.Rows.mirror (arrOf st) lo (lo+n) ((lo+n-lo) / 2))=f at o t ⊢;have z:=o.size;dsimp only;refine Cv (wpS_mono (wpS_forRange (I:=λx c e=>e=f/\c=(none,x)/\SR C f lo x) (Q:=λc e=>e=f/\∃m,c=(none,m)/\1<=m/\m<=d/\SR C f lo m) ?step ?fin ⟨rfl,rfl,t⟩) ?post)
 case post =>
  rintro c e ⟨rfl,m,rfl,q1,q2,q3⟩;exact Cw (h m _ o q1 q2 q3)
 case fin =>
  rintro c e ⟨rfl,rfl,q⟩;rw[show max n d=d by lia]at q ⊢;exact⟨rfl,d,rfl,⋯,Ae _,q⟩
 case step =>
  rintro x c e hx y ⟨rfl,rfl,q⟩;dsimp only;refine Cv (zy o.ok ⋯ ⋯ ?_);by_cases r:kx C (arrOf e) (lo+x)<kx C (arrOf e) (lo+x-1)
  ·simp only[r,decide_true,if_true];exact Cw ⟨rfl,x,rfl,⋯,⋯,q⟩
  ·simp only[r,decide_false,Aw,if_false];refine Cw ⟨rfl,rfl,λi j l u=>?_⟩;rcases A7 j x with w|w
   ·exact q i j l w
   ·have:j=x:=⋯
    subst this;rcases A7 i j with v|v
    ·have:=q i (j-1) ⋯ ⋯;rw[show lo+(j-1)=lo+j-1 by lia]at this;lia
    ·have:i=j:=⋯
     subst this;exact Bc _
def B_(lo n0 c:Nat):StateT SortSt Sem (Option Nat):=do
 rule "list.sort.descending-run"
 let mut n:=n0+1
 let mut eqs:=0
 for _ in [n:c] do
  let some less <- ltAt' (lo+n) (lo+n-1)|return none
  if less then
   if eqs > 0 then reverseSlice' (lo+n-(eqs+1)) (lo+n)
   eqs:=0
  else
   let some more <- ltAt' (lo+n-1) (lo+n)|return none
   if more then break
   eqs:=eqs+1
  n:=n+1
 if eqs > 0 then reverseSlice' (lo+n-(eqs+1)) (lo+n)
 rO lo n c
theorem K7{l:Nat}{Q:Option Nat->SortSt->Prop}(b:Bs C st₀ st lo)(T:n+1<=l)(J:lo+l<=(arrOf st₀).size)(R:NI C st lo (n+1))(h:∀m d,Bs C st₀ d lo->1<=m->m<=l->SR C d lo m->Q (some m) d):W C (B_ lo n l) Q st:=by
 unfold B_;refine Cv (zG ?_);dsimp only;refine Cv (wpS_mono (wpS_forRange (I:=λx c d=>∃f,c=(none,x,f)/\Bs C st₀ d lo/\NI C d lo x/\f+1<=x/\∀i,x-(f+1)<=i->i<x->kx C (arrOf d) (lo+i)=kx C (arrOf d) (lo+x-1))
  (Q:=λc d=>∃x f,c=(none,x,f)/\Bs C st₀ d lo/\NI C d lo x/\f+1<=x/\1<=x/\x<=l/\∀i,x-(f+1)<=i->i<x->kx C (arrOf d) (lo+i)=kx C (arrOf d) (lo+x-1)) ?step ?fin ⟨0,rfl,b,R,⋯,λi r t=>by congr 1;lia⟩) ?post)
 case fin =>
  rintro c d ⟨f,rfl,q1,q2,q3,q4⟩;rw[show max (n+1) l=l by lia]at q2 q3 q4 ⊢;exact⟨l,f,rfl,q1,q2,q3,⋯,Ae _,q4⟩
 case step =>
  rintro x c d hx P ⟨f,rfl,q1,q2,q3,q4⟩;dsimp only;have hz:=q1.size;refine Cv (zy q1.ok ⋯ ⋯ ?_);by_cases z:kx C (arrOf d) (lo+x)<kx C (arrOf d) (lo+x-1)
  ·simp only[z,decide_true,if_true];have more:∀ys:Array Keyed,(∀k,kx C ys k=kx C (arrOf d) k)->∀i j,i<=j->j<x+1->kx C ys (lo+j)<=kx C ys (lo+i):=λys L i j o y=>by
    rw[L,L];rcases A7 j x with w|w
    ·exact q2 i j o w
    ·have:j=x:=⋯
     subst this;rcases A7 i j with v|v
     ·have:=q2 i (j-1) ⋯ ⋯;rw[show lo+(j-1)=lo+j-1 by lia]at this;lia
     ·have:i=j:=⋯
      subst this;exact Bc _
   by_cases u:f > 0
   ·rw[Ct u];refine Cv (GW (Cw ⟨0,rfl,q1.mirror ⋯ ⋯,more _ (VC ⋯ λk r t=>?_),⋯,λi r t=>by congr 1;lia⟩));have e:=q4 (k-lo) ⋯ ⋯
    rwa [show lo+(k-lo)=k by lia]at e
   ·rw[Cs u];exact Cw ⟨0,rfl,q1,more _ λ_=>rfl,⋯,λi r t=>by congr 1;lia⟩
  ·simp only[z,decide_false,Aw,if_false];refine Cv (zy q1.ok ⋯ ⋯ ?_);by_cases F:kx C (arrOf d) (lo+x-1)<kx C (arrOf d) (lo+x)
   ·simp only[F,decide_true,if_true];exact Cw ⟨x,f,rfl,q1,q2,q3,⋯,⋯,q4⟩
   ·simp only[F,decide_false,Aw,if_false];have O:kx C (arrOf d) (lo+x)=kx C (arrOf d) (lo+x-1):=⋯
    refine Cw ⟨f+1,rfl,q1,λi j o y=>?_,⋯,λi r t=>?_⟩
    ·rcases A7 j x with w|w
     ·exact q2 i j o w
     ·have:j=x:=⋯
      subst this;rcases A7 i j with v|v
      ·have:=q2 i (j-1) ⋯ ⋯;rw[show lo+(j-1)=lo+j-1 by lia]at this;lia
      ·have:i=j:=⋯
       subst this;exact Bc _
    ·rw[show lo+(x+1)-1=lo+x by lia];rcases A7 i x with w|w
     ·rw[q4 i ⋯ w,O]
     ·have:i=x:=⋯
      subst this;rfl
 case post =>
  rintro c d ⟨x,f,rfl,q1,q2,q3,q4,q5,q6⟩;dsimp only;have hz:=q1.size;by_cases u:f > 0
  ·rw[Ct u];refine Cv (GW (G2 (q1.mirror ⋯ ⋯) q4 q5 J ?_ h));intro i j o y;show kx C (PyProof.Rows.mirror _ _ _ _) _<=kx C (PyProof.Rows.mirror _ _ _ _) _;have q:=VC (C:=C) (xs:=arrOf d) (i:=lo+x-(f+1)) (j:=lo+x) ⋯ λk r t=>by
    have e:=q6 (k-lo) ⋯ ⋯
    rwa [show lo+(k-lo)=k by lia]at e
   rw[q,q];exact q2 i j o y
  ·rw[Cs u];exact G2 q1 q4 q5 J q2 h
theorem Kj{f:Nat}{Q:Option Nat->SortSt->Prop}(b:Bs C st₀ st lo)(O:1<=f)(L:lo+f<=(arrOf st₀).size)(h:∀m d,Bs C st₀ d lo->1<=m->m<=f->SR C d lo m->Q (some m) d):W C (countRun' lo f) Q st:=by
 have hz:=b.size;rw[countRun'_eq];dsimp only;refine Cv (wpS_mono (wpS_forRange (I:=λx c d=>d=st/\c=(none,x)/\SR C st lo x) (Q:=λc d=>d=st/\∃m,c=(none,m)/\1<=m/\m<=f/\SR C st lo m/\(m=f∨kx C (arrOf st) (lo+m)<kx C (arrOf st) (lo+m-1))) ?step ?fin ⟨rfl,rfl,λi j l u=>(by obtain rfl:i=j:=⋯;exact Bc _)⟩) ?post)
 case fin =>
  rintro c d ⟨rfl,rfl,q⟩;rw[show max 1 f=f by lia]at q ⊢;exact⟨rfl,f,rfl,⋯,Ae _,q,.inl rfl⟩
 case step =>
  rintro x c d hx R ⟨rfl,rfl,q⟩;dsimp only;refine Cv (zy b.ok ⋯ ⋯ ?_);by_cases y:kx C (arrOf d) (lo+x)<kx C (arrOf d) (lo+x-1)
  ·simp only[y,decide_true,if_true];exact Cw ⟨rfl,x,rfl,⋯,⋯,q,.inr y⟩
  ·simp only[y,decide_false,Aw,if_false];refine Cw ⟨rfl,rfl,λi j l u=>?_⟩;rcases A7 j x with w|w
   ·exact q i j l w
   ·have:j=x:=⋯
    subst this;rcases A7 i j with v|v
    ·have:=q i (j-1) ⋯ ⋯;rw[show lo+(j-1)=lo+j-1 by lia]at this;lia
    ·have:i=j:=⋯
     subst this;exact Bc _
 case post =>
  rintro c d ⟨rfl,m,rfl,q1,q2,q3,q4⟩;dsimp only;by_cases z:m=f
  ·rw[Ct (by simpa using z)];exact Cw (h m _ b q1 q2 q3)
  ·rw[Cs (by simpa using z)];have lt:=q4.resolve_left z;by_cases F:m > 1
   ·rw[Ct F];refine Cv (zy b.ok ⋯ ⋯ ?_);by_cases J:kx C (arrOf d) lo<kx C (arrOf d) (lo+m-1)
    ·simp only[J,decide_true,if_true];exact Cw (h m _ b q1 q2 q3)
    ·simp only[J,decide_false,Aw,if_false];have all:∀k,k<m->kx C (arrOf d) (lo+k)=kx C (arrOf d) (lo+m-1):=λk P=>by have r:=q3 0 k ⋯ P;have t:=q3 k (m-1) ⋯ ⋯;rw[show lo+(m-1)=lo+m-1 by lia]at t;rw[Nat.add_zero]at r;lia
     have o:=VC (C:=C) (xs:=arrOf d) (i:=lo) (j:=lo+m) ⋯ λk O T=>by
      have e:=all (k-lo) ⋯
      rwa [show lo+(k-lo)=k by lia]at e
     refine Cv (GW (K7 (b.mirror (Ae _) ⋯) ⋯ L (λi j l u=>?_) h));show kx C (PyProof.Rows.mirror _ _ _ _) _<=kx C (PyProof.Rows.mirror _ _ _ _) _;rw[o,o];rcases A7 j m with w|w
     ·rw[all i ⋯,all j w];exact Bc _
     ·have:j=m:=⋯
      subst this;rcases A7 i j with v|v
      ·rw[all i v];exact By lt
      ·have:i=j:=⋯
       subst this;exact Bc _
   ·rw[Cs F];have:m=1:=⋯
    subst this;refine K7 b ⋯ L (λi j l u=>?_) h;rcases A7 i j with v|v
    ·have r:i=0:=⋯
     have t:j=1:=⋯
     subst r t;rw[Nat.add_zero];exact By lt
    ·have:i=j:=⋯
     subst this;exact Bc _
theorem vJ{xs:Array Keyed}{c d:Nat}(h:c<xs.size)(hd:d<=c)(k:Nat):kx C (bubble xs c d) k=if k=c-d then kx C xs c else if c-d<k/\k<=c then kx C xs (k-1)else kx C xs k:=by
 have e:=getElem?_bubble h d hd k;split at e<;>rename_i q
 ·rw[Ct q];exact Uz e
 ·rw[Cs q];split at e<;>rename_i f
  ·rw[Ct f];exact Uz e
  ·rw[Cs f];exact Uz e
theorem uO{ok:Nat}{Q:Bool->SortSt->Prop}(b:Bs C st₀ st lo)(J:1<=ok)(U:ok<=n)(X:lo+n<=(arrOf st₀).size)(P:SR C st lo ok)(h:∀d,Bs C st₀ d lo->SR C d lo n->Q true d):W C (binarySort' lo n ok) Q st:=by
 rw[binarySort'_eq];refine Cv (wpS_mono (wpS_forRange (I:=λk c d=>c=(none,())/\Bs C st₀ d lo/\SR C d lo (min k n)) (Q:=λc d=>c=(none,())/\Bs C st₀ d lo/\SR C d lo n) ?step ?fin ?init) ?post)
 case post =>
  rintro c d ⟨rfl,q1,q2⟩;exact Cw (h d q1 q2)
 case init=>exact⟨rfl,b,λi j o L=>P i j o ⋯⟩
 case fin =>
  rintro c d ⟨e,q1,q2⟩;refine⟨e,q1,?_⟩
  rwa [show min (max (max ok 1) n) n=n by lia]at q2
 case step =>
  rintro k c d T O ⟨rfl,q1,q2⟩;rw[show min k n=k by lia]at q2;have hz:=q1.size;refine Cv (wpS_mono (wpS_forRange (I:=λx c f=>f=d/\∃l r,c=(none,l,r)/\l<=r/\r<=k/\r-l<=k-x/\(∀i,i<l->kx C (arrOf d) (lo+i)<=kx C (arrOf d) (lo+k))/\(∀i,r<=i->i<k->kx C (arrOf d) (lo+k)<kx C (arrOf d) (lo+i)))
   (Q:=λc f=>f=d/\∃l r,c=(none,l,r)/\l<=k/\(∀i,i<l->kx C (arrOf d) (lo+i)<=kx C (arrOf d) (lo+k))/\(∀i,l<=i->i<k->kx C (arrOf d) (lo+k)<kx C (arrOf d) (lo+i))) ?st2 ?Fo ⟨rfl,0,k,rfl,⋯,⋯,⋯,(λi hi=>⋯),λi J R=>⋯⟩) ?Ei)
  case Fo =>
   rintro c f ⟨rfl,l,r,rfl,g1,g2,g3,g4,g5⟩;have:l=r:=⋯
   subst this;exact⟨rfl,l,l,rfl,g2,g4,g5⟩
  case st2 =>
   rintro x c f _ hx ⟨rfl,l,r,rfl,g1,g2,g3,g4,g5⟩;dsimp only;by_cases t:l≥r
   ·rw[Ct t];have:l=r:=⋯
    subst this;exact Cw ⟨rfl,l,l,rfl,g2,g4,g5⟩
   ·rw[Cs t];refine Cv (zy q1.ok ⋯ ⋯ ?_);by_cases u:kx C (arrOf f) (lo+k)<kx C (arrOf f) (lo+(l+r) / 2)
    ·simp only[u,decide_true,if_true];exact Cw ⟨rfl,l,(l+r) / 2,rfl,⋯,⋯,⋯,g4,λi u1 u2=>Int.lt_of_lt_of_le u (q2 _ _ u1 u2)⟩
    ·simp only[u,decide_false,Aw,if_false];exact Cw ⟨rfl,(l+r) / 2+1,r,rfl,⋯,⋯,⋯,(λi u1=>Ch (q2 i ((l+r) / 2) ⋯ ⋯) (Int.not_lt.mp u)),g5⟩
  case Ei =>
   rintro c f ⟨rfl,l,r,rfl,g1,g2,g3⟩;show W C (do moveDown' (lo+k) (lo+l);pure (ForInStep.yield (none,()))) _ _;rw[moveDown'_eq];have q:lo+k<(arrOf f).size:=⋯
   refine Cv (wpS_modify (Cw ⟨rfl,q1.set (bubble_perm _ _ _) (λi hi=>?_),?_⟩))
   ·rw[getElem?_bubble q _ ⋯,Cs ⋯,Cs ⋯]
   rw[show min (k+1) n=k+1 by lia];intro i j o L;show kx C (bubble (arrOf f) (lo+k) (lo+k-(lo+l))) (lo+i)<=kx C (bubble (arrOf f) (lo+k) (lo+k-(lo+l))) (lo+j);have val:∀i,i<=k->kx C (bubble (arrOf f) (lo+k) (lo+k-(lo+l))) (lo+i)=if i=l then kx C (arrOf f) (lo+k)else if l<i then kx C (arrOf f) (lo+(i-1))else kx C (arrOf f) (lo+i):=λi hi=>by
    rw[vJ q ⋯];by_cases v:i=l
    ·rw[Ct ⋯,Ct v]
    ·rw[Cs ⋯,Cs v];by_cases y:l<i
     ·rw[Ct ⋯,Ct y,show lo+i-1=lo+(i-1)by lia]
     ·rw[Cs ⋯,Cs y]
   rw[val i ⋯,val j ⋯];by_cases z:i=l
   ·rw[Ct z];by_cases j1:j=l
    ·rw[Ct j1];exact Bc _
    ·rw[Cs j1,Ct ⋯];exact By (g3 (j-1) ⋯ ⋯)
   ·rw[Cs z];by_cases F:l<i
    ·rw[Ct F,Cs ⋯,Ct ⋯];exact q2 _ _ ⋯ ⋯
    ·rw[Cs F];by_cases j1:j=l
     ·rw[Ct j1];exact g2 i ⋯
     ·rw[Cs j1];by_cases j2:l<j
      ·rw[Ct j2];exact q2 _ _ ⋯ ⋯
      ·rw[Cs j2];exact q2 _ _ ⋯ ⋯
end
end TS
open PySem PyProof PyProof.Rows
namespace TS
variable{C:cM}
theorem ul{L L':List Keyed}{lo a n:Nat}(h:∀i:Nat,i<lo->L'[i]?=L[i]?)(b:a+n<=lo):seg L' a n=seg L a n:=by
 apply List.ext_getElem?;intro i;unfold seg;by_cases hi:i<n
 ·rw[List.getElem?_take_of_lt hi,List.getElem?_take_of_lt hi,List.getElem?_drop,List.getElem?_drop];exact h _ ⋯
 ·rw[Cg (by simp;lia),Cg (by simp;lia)]
theorem Bs.g{L0:List Keyed}{st₀ st:SortSt}{lo:Nat}(b:Bs C st₀ st lo)(g:G C L0 st₀ lo):G C L0 st lo:=by refine⟨b.kind,b.fine,b.perm.trans g.perm,?_,by have:=b.size;have:=g.le;lia⟩;rw[b.pend];refine g.runs.congr λa n _ c=>ul (lo:=lo) (λi hi=>?_) c;have:=b.low i hi;simpa using this
theorem kZ{L L':List Keyed}{lo n:Nat}(h:L'.drop lo=L.drop lo):seg L' lo n=seg L lo n:=by unfold seg;rw[h]
theorem Runs.pw{L:List Keyed}{pw:Nat}:∀{r:List (Nat×Nat×Nat)}{s e:Nat}(k:Nat),Runs C L r s e->Runs C L (r.modify k λ(a,b,_)=>(a,b,pw)) s e
 | [],_,_,k,h=>by simpa using h
 | (x,n,_)::r,s,e,0,⟨c,d,f,i⟩=>⟨c,d,f,i⟩
 | (x,n,_)::r,s,e,k+1,⟨c,d,f,i⟩=>⟨c,d,f,i.pw k⟩
theorem G.pw{L0:List Keyed}{a:SortSt}{lo pw:Nat}(g:G C L0 a lo):G C L0 (setPending a ((pendingOf a).modify ((pendingOf a).size-1) λ(a,len,_)=>(a,len,pw))) lo:=by refine⟨g.kind,g.fine,g.perm,?_,g.le⟩;show Runs C (arrOf a).toList ((pendingOf a).modify _ _).toList 0 lo;rw[Array.toList_modify];exact g.runs.pw _
theorem G.push{L0:List Keyed}{a:SortSt}{lo n:Nat}(g:G C L0 a lo)(b:1<=n)(c:lo+n<=(arrOf a).size)(d:bA C (seg (arrOf a).toList lo n)):G C L0 (setPending a ((pendingOf a).push (lo,n,0))) (lo+n):=by refine⟨g.kind,g.fine,g.perm,?_,c⟩;show Runs C (arrOf a).toList ((pendingOf a).push (lo,n,0)).toList 0 (lo+n);rw[Ci];exact Runs.app.mpr ⟨lo,g.runs,rfl,b,d,rfl⟩
theorem G.size{L0:List Keyed}{a:SortSt}{lo:Nat}(g:G C L0 a lo):(arrOf a).size=L0.length:=by have:=g.perm.length_eq;simpa using this
theorem kS{L:List Keyed}{r:List (Nat×Nat×Nat)}{e:Nat}(h:Runs C L r 0 e)(c:r.length<=1):bA C (L.take e):=by
  match r,c,h with
  | [],_,h=>cases h;simp[bA]
  | [(x,n,_)],_,⟨_,_,a,b⟩ => 
    have:0+n=e:=b;subst this;simpa [seg]using a
theorem RZ(b:Bool)(k:Nat):(if b=true then k-1 else k)<=k:=by cases b<;>simp
theorem xP{L0:List Keyed}{st:SortSt}{Q:Unit->SortSt->Prop}(T:∀p∈L0,C.S p)(g0:G C L0 st 0)(h:∀d,failedOf d=none->(arrOf d).toList.Perm L0->bA C (arrOf d).toList->Q () d):W C sortRuns' Q st:=by
  rw[sortRuns'_eq];refine Cv (wpS_get ?_);dsimp only;rw[g0.size];generalize hm:minRun' L0.length L0.length 0=f;generalize hsz:L0.length=size;refine Cv (wpS_mono (wpS_forRange
    (I:=λx c d=>∃lo,c=(none,lo)/\G C L0 d lo/\min x size<=lo)
    (Q:=λc d=>c=(none,size)/\G C L0 d size) ?step ?fin ⟨0,rfl,g0,⋯⟩) ?post)
  case fin =>
    rintro c d ⟨lo,rfl,g,q⟩;have a:=g.le;have b:=g.size;obtain rfl:lo=size:=⋯
    exact⟨rfl,g⟩
  case step =>
    rintro x c d _ hx ⟨lo,rfl,g,q⟩;dsimp only;have hz:=g.size;have ad:=g.le;by_cases O:lo≥size
    . rw[Ct O]
      obtain rfl:lo=size:=⋯
      exact Cw ⟨rfl,g⟩
    rw[Cs O];have b0:Bs C d d lo:=⟨g.kind,g.fine,rfl,List.Perm.refl _,λ_ _=>rfl,λp U=>T p (g.perm.mem_iff.mp U)⟩;refine Cv (Kj b0 ⋯ ⋯ λm aa R z X oU=>?_);dsimp only;by_cases u:m<f;rw[Ct u];refine Cv (zG ?_);refine Cv (uO R z (n:=min (size-lo) f) ⋯ ⋯ oU λe b P=>?_);simp only[Bool.not_true,Aw,if_false];have r:1<=min (size-lo) f:=⋯
    have F:lo+min (size-lo) f<=size:=⋯
    generalize min (size-lo) f=n at r F P ⊢
    rotate_left
    rw[Cs u];have F:lo+m<=size:=⋯
    have r:=z;have b:=R;have P:=oU;clear oU R z X u;generalize m=n at r F P ⊢;generalize aa=e at b P ⊢
    all_goals
      have o:=b.g g;have Y:=o.size;have iB:bA C (seg (arrOf e).toList lo n):=PX ⋯ P;refine Cv (wpS_get ?_);cases hb:(pendingOf e).back? with
      |none=>dsimp only;exact Cv (wpS_modify (Cw ⟨lo+n,rfl,o.push r ⋯ iB,⋯⟩))
      |some v =>
        obtain⟨s1,Z,Tv⟩:=v;dsimp only;generalize power' size (2 * s1+Z) (2 * s1+Z+Z+n) size=pw;refine Cv (wpS_mono (wpS_forRange (I:=λ_ c d=>c=(none,())/\G C L0 d lo/\(arrOf d).toList.drop lo=(arrOf e).toList.drop lo) (Q:=λc d=>c=(none,())/\G C L0 d lo/\(arrOf d).toList.drop lo=(arrOf e).toList.drop lo) ?_ (λ_ _ hh=>hh) ⟨rfl,o,rfl⟩) ?_)
        . rintro y c j _ hy ⟨rfl,t,t3⟩
          refine Cv (wpS_get ?_);by_cases L:(pendingOf j).size > 1
          . rw[Ct L,getElem?_pos (pendingOf j) ((pendingOf j).size-2) ⋯]
            obtain⟨⟨q1,q2,J⟩,eo⟩:∃x,(pendingOf j)[(pendingOf j).size-2]'(by omega)=x:=⟨_,rfl⟩;rw[eo];dsimp only;by_cases ho:J<=pw
            . rw[Ct ho]
              exact Cw ⟨rfl,t,t3⟩
            . rw[Cs ho]
              refine Cv (BJ T t ⋯ λiz g4 _ t4=>?_);simp only[Bool.not_true,Aw,if_false];exact Cw ⟨rfl,g4,t4.trans t3⟩
          . rw[Cs L]
            exact Cw ⟨rfl,t,t3⟩
        . rintro c j ⟨rfl,t,t3⟩
          dsimp only;have T8:=t.size;refine Cv (wpS_modify (Cv (wpS_modify (Cw ⟨lo+n,rfl,G.push t.pw r (by show lo+n<=(arrOf j).size;lia) ?_,⋯⟩))));show bA C (seg (arrOf j).toList lo n);rw[kZ t3];exact iB
  case post =>
    rintro c d ⟨rfl,g⟩;dsimp only;have hz:=g.size;have af:=g.runs.le;have ae:(pendingOf d).toList.length=(pendingOf d).size:=by simp
    refine Cv (wpS_mono (wpS_forRange (I:=λx c l=>c=(none,())/\G C L0 l size/\(pendingOf l).size+x<=size) (Q:=λc l=>c=(none,())/\G C L0 l size/\(pendingOf l).size<=1) ?_ ?_ ⟨rfl,g,⋯⟩) ?_)
    . rintro x c e _ hx ⟨rfl,o,U⟩
      refine Cv (wpS_get ?_);by_cases L:(pendingOf e).size<=1
      . rw[Ct L]
        exact Cw ⟨rfl,o,L⟩
      . rw[Cs L]
        generalize hi:(if Option.any (λx=>decide (x<Option.elim (pendingOf e)[(pendingOf e).size-2+1]? 0 λx=>x.2.1)) (if (pendingOf e).size-2 > 0 then Option.map (λx=>x.2.1) (pendingOf e)[(pendingOf e).size-2-1]? else none)=true then (pendingOf e).size-2-1 else (pendingOf e).size-2)=i;have hi2:i<=(pendingOf e).size-2:=by rw[<- hi];exact RZ _ _
        refine Cv (BJ T o ⋯ λj t hq _=>?_);simp only[Bool.not_true,Aw,if_false];exact Cw ⟨rfl,t,⋯⟩
    . rintro c e ⟨rfl,o,U⟩
      exact⟨rfl,o,⋯⟩
    . rintro c e ⟨rfl,o,U⟩
      have Y:=o.size;have s2:=kS o.runs (by simpa using U);rw[Bw (by simp;lia)]at s2;exact Cw (h e o.fine o.perm s2)
open PySem PyProof PyProof.Rows
section
variable{prog:Program}{w:World}{A:Around}{E:C2}{s:Shared}
def CI(prog:Program)(w:World)(A:Around)(E:C2)(s:Shared):cM where
 key p:=numOf p.1
 kd:=oneType'
 S p:=∃n t,p.1=.int n t
 prog:=prog
 w:=w
 A:=A
 E:=E
 s:=s
 lt:=by rintro a ⟨_,p⟩ ⟨_,q⟩ Q ⟨n,t,rfl⟩ ⟨k,u,rfl⟩ hk h;rw[lt'_eq];refine Cv (wpS_get ?_);rw[hk];exact Cv (wpS_lift (wpAny_attempt (keyLt'_oneType _ _▸oneLt_int ⟨rfl,Cw h⟩)))
theorem wM(xs:Array Keyed)(i:Nat):kx (CI prog w A E s) xs i=K xs i:=by unfold kx K;cases xs[i]?<;>rfl
theorem ue{vs:List Value}{ns:List Int}(hI:IntsAre vs ns):wpAny (model prog w) A (sortRuns'.run (SortSt.mk' oneType' (vs.toArray.zip vs.toArray) #[] 7 none)) (λr s'=>s'=s/\failedOf r.2=none/\(arrOf r.2).Perm (pairsOf vs)/\SortedTo (arrOf r.2) (pairsOf vs).size) E s:=by
 have q:W (CI prog w A E s) sortRuns' (λ_ a=>failedOf a=none/\(arrOf a).Perm (pairsOf vs)/\SortedTo (arrOf a) (pairsOf vs).size) (SortSt.mk' oneType' (vs.toArray.zip vs.toArray) #[] 7 none):=by
  refine xP (L0:=(pairsOf vs).toList) (λp U=>hI.intKeys p U) ⟨rfl,rfl,List.Perm.refl _,rfl,A5 _⟩ λa d f h=>?_;have c:(arrOf a).Perm (pairsOf vs):=Array.perm_iff_toList_perm.mpr f;refine⟨d,c,λi j b l=>?_⟩;have e:=xQ h b (by rw[c.size_eq];exact l)
  rwa [wM,wM]at e
 exact q
def Keeps(h h':Heap)(a:Addr):Prop:=∀b o,b≠a->h.get? b=some o->h'.get? b=some o
theorem Keeps.upd(h:Heap)(a:Addr)(f:Obj->Obj):Keeps h (h.update a f) a:=λb o c e=>by rw[Heap.get?_update_ne _ _ _ _ c];exact e
theorem yO{a:Addr}{vs:List Value}{ns:List Int}{n:Nat}{P:PySem.Fin->Shared->Prop}(J:s.heap.get? a=some (seqObj "list" vs.toArray n))(hI:IntsAre vs ns)(hz:vs.length<=sizeLine)
  (h:∀(h':Heap) (q:List Value) (f:List Int) (c:Nat),Keeps s.heap h' a->h'.get? a=some (seqObj "list" q.toArray c)->IntsAre q f->f.Perm ns->f.Pairwise (· <= ·)->P (.done (.ret .none)) { s with heap:=h' }) :
  wpAny (model prog w) A (Builtin.«list.sort» ⟨[.ref a],[]⟩) P E s:=by
 have k1:=Keeps.upd s.heap a (Obj.mapSeq λ_=>#[]);obtain⟨u,z⟩:∃u,(s.heap.update a (Obj.mapSeq λ_=>#[])).get? a=some (seqObj "list" #[] u):=⟨_,get?_update_seq J (λ_=>#[])⟩;generalize I:s.heap.update a (Obj.mapSeq λ_=>#[])=H1 at k1 z;have F:=Ad (seqObj "list" #[] 0) (Ad (seqObj "tuple" vs.toArray 0) z);have k3:Keeps s.heap ((H1.push (seqObj "tuple" vs.toArray 0)).push (seqObj "list" #[] 0)) a:=λb o t e=>Ad _ (Ad _ (k1 b o t e));have hsz:vs.toArray.size=vs.length:=by simp
 have m:∀d:SortSt,failedOf d=none->(arrOf d).Perm (pairsOf vs)->SortedTo (arrOf d) (pairsOf vs).size->wpAny (model prog w) A (do
   let touched:=(<- seqEpoch a) != u
   Builtin.List.listUpdate (.ref a) λ_=>(arrOf d).map (·.2)
   if let some e:=failedOf d then rule "list.sort.comparison-raised"; throw e
   if touched then rule "list.sort.modified"; raiseError "ValueError" "list modified during sort"
   ret .none) P E { s with heap:=(H1.push (seqObj "tuple" vs.toArray 0)).push (seqObj "list" #[] 0) }:=by
  intro d x r y;obtain⟨f,R,T,U⟩:=sorted_out hI r y;refine Cr (seqEpoch_at F rfl ?_);have X:((arrOf d).map (·.2)).size<=sizeLine+1:=by rw[Array.size_map,r.size_eq,pairsOf_size];lia
  refine Cr (listUpdate_at F rfl ?_ (A5 _) X);rw[x];simp only[bne_self_eq_false,Aw,if_false];obtain⟨v,e⟩:∃v,(((H1.push (seqObj "tuple" vs.toArray 0)).push (seqObj "list" #[] 0)).update a (Obj.mapSeq λ_=>(arrOf d).map (·.2))).get? a=some (seqObj "list" ((arrOf d).map (·.2)) v):=⟨_,get?_update_seq F λ_=>(arrOf d).map (·.2)⟩;refine Cu (h _ ((arrOf d).map (·.2)).toList f v (λb o t e=>Keeps.upd _ a _ b o t (k3 b o t e)) ?_ R T U);rw[Array.toArray_toList];exact e
 rw[list_sort_plain];refine Cr (listItems_at J rfl (Cr (listUpdate_at J rfl ?_ (by rw[hsz];exact hz) (A5 _))));rw[I];refine Cr (seqEpoch_at z rfl (Cr (wpAny_newTuple ?_ (by simpa using hz))));refine Cr (wpAny_newList (wpAny_holding ?_) (A5 _));show wpAny (model prog w) A _ P E { s with heap:=(H1.push (seqObj "tuple" vs.toArray 0)).push (seqObj "list" #[] 0) };dsimp only;by_cases l:vs.toArray.size<2
 ·rw[Ct l,Ct l];refine Cr (Cu ?_);rw[StateT.run_pure];refine Cr (Cu (m (SortSt.mk' general' (vs.toArray.zip vs.toArray) #[] 7 none) rfl (Array.Perm.refl _) λi j L O=>?_));obtain rfl:i=j:=by rw[pairsOf_size]at O;lia
  exact Bc _
 ·rw[Cs l,Cs l];have Q:keyKind' vs.toArray=pure oneType':=by
   match vs,hI,l with
   | [],_,l=>simp at l
   | [_],_,l=>simp at l
   |_::_::_,hI,_=>exact keyKind_ints hI
  rw[Q];refine Cr (Cu (Cr (wpAny_mono (ue hI) ?_ λ_ _ e=>e)));rintro⟨⟨⟩,d⟩ s' ⟨rfl,x,r,y⟩;exact m d x r y
theorem fC{x:Value}{ns:List Int}{Q:C2}
  (hc:∀(R:List Value->Shared->Prop),(∀(h':Heap)(tk:Nat)(vs:List Value),IntsAre vs ns->vs.length<=sizeLine->(∀b o,s.heap.get? b=some o->h'.get? b=some o)->R vs { s with heap:=h',toks:=tk })->wpAny (model prog w) A.in1 (collect x) R E s)
  (h:∀(f h':Heap) (tk:Nat) (d:List Value) (a:List Int) (c:Nat),(∀b o,s.heap.get? b=some o->f.get? b=some o)->(∀b o,f.get? b=some o->h'.get? b=some o)->h'.get? f.objs.size=some (seqObj "list" d.toArray c)->IntsAre d a->a.Perm ns->a.Pairwise (· <= ·)->Q (.ref f.objs.size) { s with heap:=h',toks:=tk }) :
  wpAny (model prog w) A (call (.builtin "sorted") [x]) Q E s:=by
 refine Calls.call_function_entry kind_sorted plain_sorted entry_sorted (args_sorted1 _) ?_;unfold Builtin.«sorted»;refine Cr (m:=checkCount "sorted" 1 1 _) (Cu (Cr (hc _ λf tk vs hI hz k1=>?_)));refine Cr (wpAny_newList ?_ hz);have g:(f.push (seqObj "list" vs.toArray 0)).get? f.objs.size=some (seqObj "list" vs.toArray 0):=As _ rfl;refine Cr (wpAny_holding (wpAny_call_entry slot_list_sort ⟨_,g,rfl⟩ entry_list_sort (yO g hI hz λj d a c k2 i l n q=>⟨_,rfl,?_⟩) (args_list_sort _)));refine Cu ⟨_,rfl,h f j tk d a c k1 (λb o e=>k2 b o (A6 (Ao e)) (Ad _ e)) i l n q⟩
end
section
variable{prog:Program}{w:World}{A:Around}{E:C2}{s:Shared}{g:Int->Int}
def aQ(h:Heap)(g:Int->Int)(v:Value)(n:Int):Prop:=∃(a:Addr) (o:Obj) (t u:Tok) (k:Nat),v=.ref a/\h.get? a=some o/\o.cls=.type "tuple" /\ o.data=.seq #[.int n t,.int (g n) u] k
def bx(h:Heap):Value->Int
  |.ref a=>match h.get? a with
    |some o=>(match o.data with
      |.seq xs _=>((xs[0]?).map numOf).getD 0
      |_=>0)
    |none=>0
  |_=>0
theorem bM{h:Heap}{v:Value}{n:Int}(p:aQ h g v n):bx h v=n:=by obtain⟨a,o,t,u,k,rfl,b,_,c⟩:=p;simp only[bx,b,c];rfl
theorem aQ.keep{h h':Heap}{v:Value}{n:Int}(p:aQ h g v n)(f:∀b o,v=.ref b->h.get? b=some o->h'.get? b=some o):aQ h' g v n:=by obtain⟨a,o,t,u,k,rfl,c,d,e⟩:=p;exact⟨a,o,t,u,k,rfl,f a o rfl c,d,e⟩
def CT(prog:Program)(w:World)(A:Around)(E:C2)(s:Shared)(g:Int->Int):cM where
 key p:=bx s.heap p.1
 kd:=tuples' true
 S p:=∃n,aQ s.heap g p.1 n
 prog:=prog
 w:=w
 A:=A
 E:=E
 s:=s
 lt:=by
  rintro F ⟨x,p⟩ ⟨y,q⟩ Q ⟨n,hn⟩ ⟨m,hm⟩ hk h;have c:=bM hn;have d:=bM hm;dsimp only at c d h hn hm;rw[c,d]at h;obtain⟨a,o,t,u,k,rfl,f,r,i⟩:=hn;obtain⟨b,o',t',I,z,rfl,j,v,l⟩:=hm;rw[lt'_eq];refine Cv (wpS_get ?_);rw[hk];refine Cv (wpS_lift (wpAny_attempt (PySem.W.kat_lt f i j l ?_)));refine PySem.W.kat_cons (wpAny_eqBool_int (PySem.W.kat_go (λe=>?_) λe=>?_))
  ·have:n=m:=by simpa using e
   subst this;refine PySem.W.kat_yes (PySem.W.kat_cons (wpAny_eqBool_int (PySem.W.kat_go (λ_=>PySem.W.kat_yes (PySem.W.kat_nil ⟨rfl,Cw ?_⟩)) λe=>?_)))
   ·simpa using h
   ·simp at e
  ·exact PySem.W.kat_no (oneLt_int ⟨rfl,Cw h⟩)
theorem KG{vs:List Value}(hI:∀v∈vs,∃n,aQ s.heap g v n):wpAny (model prog w) A (sortRuns'.run (SortSt.mk' (tuples' true) (vs.toArray.zip vs.toArray) #[] 7 none)) (λr s'=>s'=s/\failedOf r.2=none/\(arrOf r.2).toList.Perm (vs.zip vs)/\(arrOf r.2).toList.Pairwise λp q=>bx s.heap p.1<=bx s.heap q.1) E s:=by
 have b:(vs.toArray.zip vs.toArray).toList=vs.zip vs:=by simp
 have q:W (CT prog w A E s g) sortRuns' (λ_ a=>failedOf a=none/\(arrOf a).toList.Perm (vs.zip vs)/\(arrOf a).toList.Pairwise λp q=>bx s.heap p.1<=bx s.heap q.1) (SortSt.mk' (tuples' true) (vs.toArray.zip vs.toArray) #[] 7 none):=by refine xP (L0:=(vs.toArray.zip vs.toArray).toList) (λp U=>?_) ⟨rfl,rfl,List.Perm.refl _,rfl,A5 _⟩ λa c d e=>⟨c,by rw[<- b];exact d,e⟩;rw[b]at U;exact hI p.1 (List.of_mem_zip U).1
 exact q
theorem VY(vs:List Value):(vs.zip vs).map (·.1)=vs/\(vs.zip vs).map (·.2)=vs/\∀p∈vs.zip vs,p.1=p.2:=by
  induction vs with
  |nil=>exact⟨rfl,rfl,λp U=>by cases U⟩
  |cons v vs a =>
    refine⟨by simp[a.1],by simp[a.2.1],λp U=>?_⟩;rcases Ba.mp (show p∈(v,v)::vs.zip vs from U)with rfl|h
    . rfl
    . exact a.2.2 p h
theorem KM{a:Addr}{vs:List Value}{n:Nat}{P:PySem.Fin->Shared->Prop}(y:s.heap.get? a=some (seqObj "list" vs.toArray n))(hI:∀v∈vs,∃n,aQ s.heap g v n)(hz:vs.length<=sizeLine)
    (h:∀(h':Heap) (r:List Value) (c:Nat),Keeps s.heap h' a->h'.get? a=some (seqObj "list" r.toArray c)->r.Perm vs->(r.map (bx s.heap)).Pairwise (· <= ·)->P (.done (.ret .none)) { s with heap:=h' }) :
    wpAny (model prog w) A (Builtin.«list.sort» ⟨[.ref a],[]⟩) P E s:=by
  have k1:=Keeps.upd s.heap a (Obj.mapSeq λ_=>#[]);obtain⟨J,U⟩:∃J,(s.heap.update a (Obj.mapSeq λ_=>#[])).get? a=some (seqObj "list" #[] J):=⟨_,get?_update_seq y (λ_=>#[])⟩;generalize Y:s.heap.update a (Obj.mapSeq λ_=>#[])=H1 at k1 U;have z:=Ad (seqObj "list" #[] 0) (Ad (seqObj "tuple" vs.toArray 0) U);have k3:Keeps s.heap ((H1.push (seqObj "tuple" vs.toArray 0)).push (seqObj "list" #[] 0)) a:=λb o F e=>Ad _ (Ad _ (k1 b o F e));have hsz:vs.toArray.size=vs.length:=by simp
  have na:∀v∈vs,v≠.ref a:=λv f e=>by obtain⟨n,b,o,t,u,k,rfl,i,l,_⟩:=hI v f;cases e;rw[y]at i;cases i;exact absurd (show Value.type "list" = Value.type "tuple" from l) (by decide)
  have I:∀v∈vs,∃n,aQ ((H1.push (seqObj "tuple" vs.toArray 0)).push (seqObj "list" #[] 0)) g v n:=λv f=>by obtain⟨n,p⟩:=hI v f;exact⟨n,p.keep λb o i l=>k3 b o (λe=>na v f (by rw[i,e])) l⟩
  have O:∀v∈vs,bx ((H1.push (seqObj "tuple" vs.toArray 0)).push (seqObj "list" #[] 0)) v=bx s.heap v:=λv f=>by obtain⟨n,p⟩:=hI v f;rw[bM p,bM (p.keep λb o i l=>k3 b o (λe=>na v f (by rw[i,e])) l)]
  obtain⟨z1,z2,z3⟩:=VY vs;have m:∀d:SortSt,failedOf d=none->(arrOf d).toList.Perm (vs.zip vs)->(arrOf d).toList.Pairwise (λp q=>bx s.heap p.1<=bx s.heap q.1)->wpAny (model prog w) A (do
      let touched:=(<- seqEpoch a) != J
      Builtin.List.listUpdate (.ref a) λ_=>(arrOf d).map (·.2)
      if let some e:=failedOf d then rule "list.sort.comparison-raised"; throw e
      if touched then rule "list.sort.modified"; raiseError "ValueError" "list modified during sort"
      ret .none) P E { s with heap:=(H1.push (seqObj "tuple" vs.toArray 0)).push (seqObj "list" #[] 0) }:=by
    intro d Q j R;refine Cr (seqEpoch_at z rfl ?_);have ol:((arrOf d).map (·.2)).toList=(arrOf d).toList.map (·.2):=by simp
    have oz:((arrOf d).map (·.2)).size<=sizeLine+1:=by have:=j.length_eq;rw[Array.size_map,<- Bx,this,List.length_zip];lia
    refine Cr (listUpdate_at z rfl ?_ (A5 _) oz);rw[Q];simp only[bne_self_eq_false,Aw,if_false];obtain⟨L,e⟩:∃L,(((H1.push (seqObj "tuple" vs.toArray 0)).push (seqObj "list" #[] 0)).update a (Obj.mapSeq λ_=>(arrOf d).map (·.2))).get? a=some (seqObj "list" ((arrOf d).map (·.2)) L):=⟨_,get?_update_seq z λ_=>(arrOf d).map (·.2)⟩;refine Cu (h _ ((arrOf d).map (·.2)).toList L (λb o F e=>Keeps.upd _ a _ b o F (k3 b o F e)) ?_ ?_ ?_)
    . rw[Array.toArray_toList];exact e
    . rw[ol]
      have:=j.map (·.2);rw[z2]at this;exact this
    . rw[ol,List.map_map,List.pairwise_map]
      refine(List.Pairwise.and_mem.mp R).imp λX=>?_;obtain⟨m1,m2,le⟩:=X;dsimp only[Function.comp];rw[<- z3 _ (j.mem_iff.mp m1),<- z3 _ (j.mem_iff.mp m2)];exact le
  rw[list_sort_plain];refine Cr (listItems_at y rfl (Cr (listUpdate_at y rfl ?_ (by rw[hsz];exact hz) (A5 _))));rw[Y];refine Cr (seqEpoch_at U rfl (Cr (wpAny_newTuple ?_ (by simpa using hz))));refine Cr (wpAny_newList (wpAny_holding ?_) (A5 _));show wpAny (model prog w) A _ P E { s with heap:=(H1.push (seqObj "tuple" vs.toArray 0)).push (seqObj "list" #[] 0) };dsimp only;by_cases x:vs.toArray.size<2
  . rw[Ct x,Ct x]
    refine Cr (Cu ?_);rw[StateT.run_pure];refine Cr (Cu (m (SortSt.mk' general' (vs.toArray.zip vs.toArray) #[] 7 none) rfl (by show(vs.toArray.zip vs.toArray).toList.Perm _;simp) ?_));show(vs.toArray.zip vs.toArray).toList.Pairwise _;rw[show(vs.toArray.zip vs.toArray).toList=vs.zip vs by simp];have Z:(vs.zip vs).length<2:=by rw[List.length_zip];lia
    match vs.zip vs,Z with
    | [],_=>exact .nil
    | [_],_=>exact List.pairwise_singleton _ _
    |_::_::_,Z=>exact absurd Z (by simp)
  . rw[Cs x,Cs x]
    obtain⟨fs,t1,t2,t3⟩:∃fs,PySem.W.KatTups ((H1.push (seqObj "tuple" vs.toArray 0)).push (seqObj "list" #[] 0)) vs fs/\fs.length=vs.length/\∀v∈fs,∃n t,v=.int n t:=by
      clear m O na x hsz hz z1 z2 z3;generalize (H1.push (seqObj "tuple" vs.toArray 0)).push (seqObj "list" #[] 0)=HH at I;clear z k3 y hI h;induction vs with
      |nil=>exact⟨[],.nil,rfl,λv f=>by cases f⟩
      |cons v vs ih =>
        obtain⟨fs,a1,a2,a3⟩:=ih (λv f=>I v (Au _ f));obtain⟨n,b,o,t,u,k,rfl,i,l,e3⟩:=I v (Cp);refine⟨.int n t::fs,.cons i l e3 rfl a1,by simp[a2],λv f=>?_⟩;rcases Ba.mp f with rfl|f
        . exact⟨n,t,rfl⟩
        . exact a3 v f
    refine Cr (PySem.W.kat_kind (T:=.type "int") t1 (by rw[t2];simp at x;lia) (λv f=>?_) (by decide) ?_)
    . obtain⟨n,t,rfl⟩:=t3 v f
      exact .now
    . refine Cr (wpAny_mono (KG (g:=g) (s:={ s with heap:=(H1.push (seqObj "tuple" vs.toArray 0)).push (seqObj "list" #[] 0) }) I) ?_ λ_ _ e=>e)
      rintro⟨⟨⟩,d⟩ s' ⟨rfl,Q,j,R⟩;refine m d Q j ((List.Pairwise.and_mem.mp R).imp λX=>?_);obtain⟨m1,m2,le⟩:=X;have q1:=(List.of_mem_zip (j.mem_iff.mp m1)).1;have q2:=(List.of_mem_zip (j.mem_iff.mp m2)).1;dsimp only at le;rw[O _ q1,O _ q2]at le;exact le
theorem d7{x:Value}{ks:List Int}{F:Value->Prop}{Q:C2}
  (hc:∀(R:List Value->Shared->Prop),(∀(h':Heap)(tk:Nat)(vs:List Value),(∀v∈vs,F v/\∃n,aQ h' g v n)->vs.map (bx h')=ks->vs.length<=sizeLine->(∀b o,s.heap.get? b=some o->h'.get? b=some o)->R vs { s with heap:=h',toks:=tk })->wpAny (model prog w) A.in1 (collect x) R E s)
  (h:∀(a h':Heap) (tk:Nat) (d:List Value) (c:Nat),(∀b o,s.heap.get? b=some o->a.get? b=some o)->(∀b o,a.get? b=some o->h'.get? b=some o)->h'.get? a.objs.size=some (seqObj "list" d.toArray c)->(∀v∈d,F v/\∃n,aQ a g v n)->(d.map (bx a)).Perm ks->(d.map (bx a)).Pairwise (· <= ·)->Q (.ref a.objs.size) { s with heap:=h',toks:=tk }) :
  wpAny (model prog w) A (call (.builtin "sorted") [x]) Q E s:=by
 refine Calls.call_function_entry kind_sorted plain_sorted entry_sorted (args_sorted1 _) ?_;unfold Builtin.«sorted»;refine Cr (m:=checkCount "sorted" 1 1 _) (Cu (Cr (hc _ λa tk vs hI y hz k1=>?_)));refine Cr (wpAny_newList ?_ hz);have j:(a.push (seqObj "list" vs.toArray 0)).get? a.objs.size=some (seqObj "list" vs.toArray 0):=As _ rfl;have l:∀v∈vs,∃n,aQ (a.push (seqObj "list" vs.toArray 0)) g v n:=λv f=>by obtain⟨n,p⟩:=(hI v f).2;exact⟨n,p.keep λb o _ e=>Ad _ e⟩
 have q:∀v∈vs,bx (a.push (seqObj "list" vs.toArray 0)) v=bx a v:=λv f=>by obtain⟨n,p⟩:=(hI v f).2;rw[bM p,bM (p.keep (h':=a.push (seqObj "list" vs.toArray 0)) λb o _ e=>Ad _ e)]
 refine Cr (wpAny_holding (wpAny_call_entry slot_list_sort ⟨_,j,rfl⟩ entry_list_sort (KM (g:=g) j l hz λu d c k2 t i z=>⟨_,rfl,?_⟩) (args_list_sort _)));have r:d.map (bx (a.push (seqObj "list" vs.toArray 0)))=d.map (bx a):=List.map_congr_left λv f=>q v (i.mem_iff.mp f);refine Cu ⟨_,rfl,h a u tk d c k1 (λb o e=>k2 b o (A6 (Ao e)) (Ad _ e)) t (λv f=>hI v (i.mem_iff.mp f)) (by rw[<- y];exact i.map _) (by rw[<- r];exact z)⟩
end
end TS
namespace TS
open PySem
def Rs(xs:Array Nat):Prop:=xs.toList.Pairwise (· < ·)
theorem Rs.lt{xs:Array Nat}(h:Rs xs){i k a b:Nat}(hi:xs[i]?=some a)(d:xs[k]?=some b)(c:i<k):a<b:=by rw[<- Array.getElem?_toList]at hi d;obtain⟨e,rfl⟩:=Ac.mp hi;obtain⟨f,rfl⟩:=Ac.mp d;exact B9.mp h i k e f c
theorem jG{xs:Array Nat}(h:Rs xs)(j:Nat):∀(b lo hi:Nat),hi<=xs.size->lo<=hi->hi-lo<=b->(∀i a,i<lo->xs[i]?=some a->a<j)->(∀i a,hi<=i->xs[i]?=some a->j<=a) ->
    SetTable.below.go xs j b lo hi<=xs.size/\(∀i a,i<SetTable.below.go xs j b lo hi->xs[i]?=some a->a<j)/\(∀i a,SetTable.below.go xs j b lo hi<=i->xs[i]?=some a->j<=a)
  |0,lo,hi,l,u,v,m,n=>by
    have:lo=hi:=⋯
    subst this;unfold SetTable.below.go;exact⟨l,m,n⟩
  |b+1,lo,hi,l,u,v,m,n=>by
    unfold SetTable.below.go;by_cases c:lo<hi
    . rw[Ct c]
      dsimp only;have r:(lo+hi) / 2<xs.size:=⋯
      have f:xs[(lo+hi) / 2]?=some xs[(lo+hi) / 2]:=Array.getElem?_eq_getElem r;have t:xs.getD ((lo+hi) / 2) j=xs[(lo+hi) / 2]:=by simp[Array.getD,r]
      rw[t];by_cases d:xs[(lo+hi) / 2]<j
      . rw[Ct d]
        refine jG h j b _ _ l ⋯ ⋯ (λi a q e=>?_) n;by_cases o:i=(lo+hi) / 2
        . subst o;rw[f]at e;cases e;exact d
        . have:=h.lt e f ⋯;lia
      . rw[Cs d]
        refine jG h j b _ _ ⋯ ⋯ ⋯ m (λi a q e=>?_);by_cases o:i=(lo+hi) / 2
        . subst o;rw[f]at e;cases e;lia
        . have:=h.lt f e ⋯;lia
    . rw[Cs c]
      have:lo=hi:=⋯
      subst this;exact⟨l,m,n⟩
theorem jH{xs:Array Nat}(h:Rs xs)(j:Nat):SetTable.below xs j<=xs.size/\(∀i a,i<SetTable.below xs j->xs[i]?=some a->a<j)/\(∀i a,SetTable.below xs j<=i->xs[i]?=some a->j<=a) :=
 jG h j xs.size 0 xs.size (Ae _) (A5 _) ⋯ (λi a hi=>⋯) (λi a hi e=>by have:=(Array.getElem?_eq_some_iff.mp e).1;lia)
theorem yd{α:Type}(xs:Array α)(p:Nat)(x:α):(SetTable.insertAt xs p x).toList=xs.toList.take p++x::xs.toList.drop p:=by unfold SetTable.insertAt;simp;exact Bw (by simp)
theorem Rs.insert{xs:Array Nat}(h:Rs xs){j:Nat}(o:xs[SetTable.below xs j]?≠some j):Rs (SetTable.insertAt xs (SetTable.below xs j) j):=by
  obtain⟨r,m,f⟩:=jH h j;unfold Rs at *;rw[yd];have tk:∀a∈xs.toList.take (SetTable.below xs j),a<j:=λa c=>by
    obtain⟨i,hi⟩:=List.mem_iff_getElem?.mp c;rw[List.getElem?_take]at hi;split at hi
    . exact m i a (by assumption) (by rw[<- Array.getElem?_toList];exact hi)
    . cases hi
  have dp:∀a∈xs.toList.drop (SetTable.below xs j),j<a:=λa c=>by
    obtain⟨i,hi⟩:=List.mem_iff_getElem?.mp c;rw[List.getElem?_drop,Array.getElem?_toList]at hi;have le:=f _ a (Nat.le_add_right _ i) hi;rcases A7 j a with q|q
    . exact q
    . exfalso
      have n:a=j:=⋯
      subst n;cases i with
      |zero=>exact o hi
      |succ i =>
        have lt:SetTable.below xs a<xs.size:=by have:=(Array.getElem?_eq_some_iff.mp hi).1;lia
        have l:xs[SetTable.below xs a]?=some xs[SetTable.below xs a]:=Array.getElem?_eq_getElem lt;have l1:=f _ _ (Ae _) l;have l2:=Rs.lt (xs:=xs) h l hi ⋯;lia
  rw[Bi,List.pairwise_cons];have e:=h;rw[<- Bm (SetTable.below xs j) xs.toList,Bi]at e;refine⟨e.1,⟨dp,e.2.1⟩,λa c b d=>?_⟩;rcases Ba.mp d with rfl|d
  . exact tk a c
  . have:=tk a c;have:=dp b d;lia
structure Gt(b:Bool)(t:SetTable):Prop where
 rs:t.plain=true->Rs t.place
 nd:t.dummies = #[]
 ld:t.led=b
def Gt.fresh(f m:Nat)(l:Bool):Gt l (SetTable.fresh f m l):=⟨λ_=>List.Pairwise.nil,rfl,rfl⟩
theorem Gt.standIn{b:Bool}{t:SetTable}(g:Gt b t)(n:Nat):Gt b (t.standIn n):=⟨λh=>(by cases h),rfl,g.ld⟩
theorem Gt.fW{b:Bool}{t:SetTable}(g:Gt b t):Gt b { t with plain:=false }:=⟨λh=>(by cases h),g.nd,g.ld⟩
theorem Gn(j:Nat):SetTable.has #[] j=false:=by unfold SetTable.has;simp
theorem UK{t:SetTable}(hd:t.dummies = #[])(f:Nat->Int)(h:Int):∀(a:Nat)(p:SetTable.Probe)(j:Nat)(d:Option Nat),SetTable.probe.go t f h a p=some (.empty j d)->t.slot j=.empty/\d=p.dummy
  |0,p,j,d,e=>by unfold SetTable.probe.go at e;cases e
  |a+1,p,j,d,e=>by
    unfold SetTable.probe.go at e;have c:(t.advance p).dummy=p.dummy:=by unfold SetTable.advance;split<;>rfl
    cases b:t.slot p.j with
    |empty=>rw[b]at e;cases e;exact⟨b,rfl⟩
    |dummy =>
      exfalso;unfold SetTable.slot at b;dsimp only at b;rw[hd,Gn]at b;split at b
      . cases b
      . simp at b
    |live i =>
      rw[b]at e;dsimp only at e;split at e
      . cases e
      . rw[<- c];exact UK hd f h a _ j d e
theorem Gt.put{b:Bool}{t:SetTable}(g:Gt b t){j:Nat}(a:t.slot j=.empty):Gt b (t.put j).1:=by
 have ne:t.place[SetTable.below t.place j]?≠some j:=λe=>by unfold SetTable.slot at a;dsimp only at a;rw[e]at a;simp at a
 refine⟨λU=>?_,?_,g.ld⟩
 ·show Rs (SetTable.insertAt t.place (SetTable.below t.place j) j);exact(g.rs U).insert ne
 ·show(if SetTable.has t.dummies j=true then _ else _)=_;rw[g.nd,Gn];rfl
theorem Gt.orStandIn{b:Bool}{t:SetTable}(g:Gt b t)(n:Nat):Gt b (t.orStandIn n):=by
 unfold SetTable.orStandIn;split
 ·exact g
 ·exact g.standIn _
theorem Gt.layNew{b:Bool}{t:SetTable}(g:Gt b t)(es:Array (Int×Value))(h:Int)(x:Value):Gt b (layNew t es h x).2.1:=by
  unfold PySem.layNew;cases e:t.freeSlot h with
  |none=>exact g.standIn _
  |some q =>
    obtain⟨slot,wd⟩:=q;dsimp only;refine Gt.orStandIn (g.put ?_) _;unfold SetTable.freeSlot at e;split at e
    . rename_i j d a
      obtain⟨c,f⟩:=UK g.nd _ h _ _ j d a;have:d=none:=f;subst this;cases e;exact c
    . cases e
theorem Tc{c d moves:Nat}{l plain:Bool}{r:Array Int}{t:SetTable}{o:Array Nat}(h:SetTable.laid c d moves l plain r=some (t,o)):Gt l t:=by
  unfold SetTable.laid at h;cases e:SetTable.layClean c r with
  |none=>rw[e]at h;cases h
  |some owner =>
    rw[e]at h;simp only[Option.bind_eq_bind,Option.bind_some,Option.pure_def,Option.some.injEq,Prod.mk.injEq]at h;obtain⟨rfl,_⟩:=h;refine⟨λ_=>?_,rfl,rfl⟩;show((((List.range (c+1)).filterMap λj=>(owner.getD j none).map (j,·)).map (·.1)).toArray).toList.Pairwise (· < ·);rw[List.toList_toArray,List.pairwise_map];refine List.Pairwise.filterMap _ (λa u n b m v f=>?_) (List.pairwise_lt_range);cases q:owner.getD a none with
    |none=>rw[q]at m;cases m
    |some x =>
      cases i:owner.getD u none with
      |none=>rw[i]at f;cases f
      |some y=>rw[q]at m;rw[i]at f;cases m;cases f;exact n
theorem Gt.relayAll{b:Bool}{t:SetTable}(g:Gt b t)(es:Array (Int×Value))(n:Nat):Gt b (relayAll t es n).2.1:=by
  unfold PySem.relayAll;cases e:t.relaid (es.map (·.1)) n with
  |none=>exact g.standIn _
  |some q =>
    obtain⟨t',o⟩:=q;dsimp only;split
    . have:=Tc e
      rw[g.ld]at this;exact this
    . exact g.standIn _
open PyProof PyProof.Rows
section
variable{prog:Program}{w:World}{A:Around}{E:C2}{s:Shared}{a:Addr}
def Gs(prog:Program)(w:World)(b:Bool)(h:Heap)(a:Addr)(ns:List Int):Prop :=
 ∃(o:Obj)(es:Array (Int×Value))(ep:Nat)(t:SetTable),h.get? a=some o/\o.ExactSet/\o.data=.set es ep t/\ElemsOf (intKind prog w) es.toList/\(es.toList.map λe=>numOf e.2).Perm ns/\ns.Nodup/\ns.length<scanBound/\t.fits es.size=true/\Gt b t
theorem yz{es:List (Int×Value)}(h:ElemsOf (intKind prog w) es){e:Int×Value}(b:e∈es):∃t,e.2=.int (numOf e.2) t:=by obtain⟨⟨k,c,_⟩,_⟩:=h e b;obtain⟨t,q⟩:=Value.isInt_shape c;exact⟨t,by rw[q];rfl⟩
theorem Gs.size{b:Bool}{h:Heap}{ns:List Int}{es:Array (Int×Value)}(p:(es.toList.map λe=>numOf e.2).Perm ns):es.size=ns.length:=by have:=p.length_eq;rw[Bf,Bx]at this;exact this
theorem Ry{b:Bool}{ns:List Int}{n:Int}{tk:Tok}{Q:Bool->Shared->Prop}(hS:Gs prog w b s.heap a ns)(O:ns.length+1<scanBound)
    (h:∀h',Heap.SameBut a s.heap h'->Gs prog w b h' a (if n∈ns then ns else ns++[n])->Q (!decide (n∈ns)) { s with heap:=h' }) :
    wpAny (model prog w) A (setAddHashed a (.int n tk) (hashInt n)) Q E s:=by
  obtain⟨o,es,ep,t,ho,I,hd,u,pm,nd,hb,hf,g⟩:=hS;have sz:=Gs.size (b:=b) (h:=s.heap) pm;have C:(intKind prog w).is n (.int n tk)=true:=intKind_is _ _ _ _;have mem:n∈ns↔∃e∈es.toList,(intKind prog w).is n e.2=true:=by
    rw[<- pm.mem_iff,Co];constructor
    . rintro⟨e,T,q⟩
      obtain⟨t',q'⟩:=yz u T;exact⟨e,T,by rw[q',q];exact intKind_is _ _ _ _⟩
    . rintro⟨e,T,q⟩
      obtain⟨t',q'⟩:=Value.isInt_shape q;exact⟨e,T,by rw[q'];rfl⟩
  unfold setAddHashed setAddHashedIn;refine wpAny_holding (Cr (wpAny_setState_of ho hd hf ?_));dsimp only;rw[byScan_of rfl ⋯ u];simp only[if_true];unfold setAddByScan;refine Cr (Cr (wpAny_rule (Cr (wpAny_setScan_of C ho hd hf u ?_))));cases hr:List.findIdx? (λe=>(intKind prog w).is n e.2) es.toList with
  |some j=>dsimp only;obtain⟨hj,af,_⟩:=List.findIdx?_eq_some_iff_getElem.mp hr;have v:n∈ns:=mem.mpr ⟨_,Bq hj,af⟩;have q:=h s.heap (Heap.SameBut.refl a s.heap) (by rw[Ct v];exact⟨o,es,ep,t,ho,I,hd,u,pm,nd,hb,hf,g⟩);rw[Cy v]at q;exact Cu (Cu q)
  |none =>
    dsimp only;have no:n∉ns:=λv=>by obtain⟨e,T,q⟩:=mem.mp v;have:=List.findIdx?_eq_none_iff.mp hr e T;rw[q]at this;cases this
    have l:=layNew_perm t es (hashInt n) (.int n tk);have i:=layNew_fits t es (hashInt n) (.int n tk);have gl:=g.layNew es (hashInt n) (.int n tk);generalize hL:layNew t es (hashInt n) (.int n tk)=L at l i gl;obtain⟨d,t1,wd,gv⟩:=L;dsimp only at l i gl ⊢;rw[Ci]at l;have gw:∀(c:Bool) {s₁:Shared} {Q':Unit->Shared->Prop},Q' () s₁->wpAny (model prog w) A (match c with|true=>rule "set.scan.the-table-gave-way" | false=>pure ()) Q' E s₁:=λc s₁ Q' hq=>by
      cases c
      . exact Cu hq
      . exact wpAny_rule hq
    have Y:ElemsOf (intKind prog w) d.toList:=(u.push C rfl).perm l;have P:(d.toList.map λe=>numOf e.2).Perm (ns++[n]):=by refine(l.map _).trans ?_;rw[List.map_append];exact pm.append (List.Perm.refl [n])
    have sV:(ns++[n]).Nodup:=List.nodup_append.mpr ⟨nd,by simp,λx hx y hy e=>by rw[Aq.mp hy]at e;exact no (e▸hx)⟩
    have aa:(ns++[n]).length<scanBound:=by simpa using O
    have s1:=Gs.size (b:=b) (h:=s.heap) P;have q:∀h',Heap.SameBut a s.heap h'->Gs prog w b h' a (ns++[n])->Q true { s with heap:=h' }:=λh' x1 x2=>by have:=h h' x1 (by rw[Cs no];exact x2);rw[C0 no]at this;exact this
    have ad:∀f:SetTable,f.fits d.size=true->Gt b f->wpAny (model prog w) A (do
        storeSet a d f
        if (!wd&&f.tooFull)=true then do
            (match (relayAll f d (SetTable.grown d.size)).2.2 with|true=>rule "set.scan.the-table-gave-way" | false=>pure ())
            storeSet a (relayAll f d (SetTable.grown d.size)).1 (relayAll f d (SetTable.grown d.size)).2.1
            pure (some true)
          else pure (some true)) (λr s'=>r=some true/\∃h',s'={ s with heap:=h' }/\Heap.SameBut a s.heap h'/\Gs prog w b h' a (ns++[n])) E s:=λf f2 g2=>by
      refine Cr (wpAny_storeSet_of ho hd ?_ (fits_of_scanBound ⋯));have hg:(s.heap.update a (Obj.putSet d f)).get? a=some { o with data:=.set d (ep+1) f }:=by have:=Heap.get?_update_self (Obj.putSet d f) ho (by rw[putSet_of d f hd];rfl);rw[putSet_of d f hd]at this;exact this
      have sb:=Heap.SameBut.update s.heap a (Obj.putSet d f);split
      . have U:=relayAll_perm f d (SetTable.grown d.size)
        have J:=relayAll_fits f d (SetTable.grown d.size);have g3:=g2.relayAll d (SetTable.grown d.size);generalize relayAll f d (SetTable.grown d.size)=R at U J g3;obtain⟨m,X,T_⟩:=R;dsimp only at U J g3 ⊢;have e2:m.size=d.size:=by rw[<- Bx,U.length_eq,Bx]
        refine Cr (gw _ ?_);refine Cr (wpAny_storeSet_of hg rfl ?_ (fits_of_scanBound ⋯));have ae:((s.heap.update a (Obj.putSet d f)).update a (Obj.putSet m X)).get? a=some { o with data:=.set m (ep+1+1) X }:=by have:=Heap.get?_update_self (Obj.putSet m X) hg (by rw[putSet_of (o:={ o with data:=.set d (ep+1) f }) m X rfl];rfl);rw[putSet_of (o:={ o with data:=.set d (ep+1) f }) m X rfl]at this;exact this
        exact Cu ⟨rfl,_,rfl,sb.trans (Heap.SameBut.update _ a _),_,m,_,X,ae,I,rfl,Y.perm U,(U.map _).trans P,sV,aa,J,g3⟩
      . exact Cu ⟨rfl,_,rfl,sb,_,d,_,f,hg,I,rfl,Y,P,sV,aa,f2,g2⟩
    have Z:∀f:SetTable,f.fits d.size=true->Gt b f->wpAny (model prog w) A (do
        storeSet a d f
        if (!wd&&f.tooFull)=true then do
            (match (relayAll f d (SetTable.grown d.size)).2.2 with|true=>rule "set.scan.the-table-gave-way" | false=>pure ())
            storeSet a (relayAll f d (SetTable.grown d.size)).1 (relayAll f d (SetTable.grown d.size)).2.1
            pure (some true)
          else pure (some true)) (λr s'=>wpAny (model prog w) A (match r with|some F=>pure F|none=>setAddHashedIn a (.int n tk) (hashInt n) 99999) Q E s') E s:=λf f2 g2=>wpAny_mono (ad f f2 g2) (λr s' z=>by
      obtain⟨rfl,h',rfl,z1,z2⟩:=z;exact Cu (q h' z1 z2)) λ_ _ x=>x
    refine Cr (gw _ ?_);split
    . refine Cr ?_
      rw[hashByValue_scannable 8 (x:=.int n tk) rfl];refine Cu ?_;exact Z _ (by split;exact i;exact SetTable.fits_plain_off i) (by split;exact gl;exact gl.fW)
    . refine Cr (Cu ?_)
      simp only[if_true];exact Z _ i gl
end
end TS
namespace TS
open PySem PyProof PyProof.Rows
section
variable{prog:Program}{w:World}{A:Around}{E:C2}{s:Shared}
def cC(w:World):Bool:=w.params.followText "set-order"
def xL(b:Bool):Obj:={ cls:=.type "set", dict:=none,data:=.set #[] 0 (.fresh 0 0 b) }
theorem P_(a:Value){Q₁:C2}(h:Q₁ (.ref s.heap.objs.size) { s with heap:=s.heap.push (xL (!cC w)) }) :
  codeAny (model prog w) A (.call (.builtin "set.__new__") ⟨[.type "set", a],[]⟩) (wants Q₁ E) s:=by
 refine codeAny_of_tree ?_;show wpAny _ A.in1 (checkBuiltinCall "set.__new__" ⟨[.type "set", a],[]⟩ >>= λ_=>again (.builtin "set.__new__" ⟨[.type "set", a],[]⟩)) _ _ s;refine Cr (wpAny_of_eq (F.newCall_set_1 a) (Cu ⟨plainId_quiet F.plain_set_new _,codeAny_builtin F.entry_set_new ?_⟩));rw[Around.under_plainId F.plain_set_new _];unfold Builtin.«set.__new__» Builtin.Frozenset.newClass;have sb:=sub_set_self;obtain⟨U,b,dr,tk,os⟩:=s;dsimp only
 wp_walk
 refine wpAny_askSetting (Cu ?_);dsimp only;simp only[newObj];refine Cr (wpAny_alloc (Cu (Cu ?_)));exact h
def met(ns:List Int)(i:Nat):List Int:=(ns.take i).foldl (λl n=>if n∈l then l else l++[n]) []
theorem dF(ns:List Int):∀i,(met ns i).length<=i:=by
  intro i;have:∀(l acc:List Int),(l.foldl (λl n=>if n∈l then l else l++[n]) acc).length<=acc.length+l.length:=by
    intro l;induction l with
    |nil=>intro acc;simp
    |cons x l a =>
      intro acc;rw[List.foldl_cons];refine A9 (a _) ?_;split
      . simp
      . simp;lia
  have h:=this (ns.take i) [];have:(ns.take i).length<=i:=by rw[Az];lia
  unfold met;simp only[List.length_nil]at h;lia
theorem kh{ns:List Int}{i:Nat}{n:Int}(h:ns[i]?=some n):met ns (i+1)=if n∈met ns i then met ns i else met ns i++[n]:=by unfold met;rw[List.take_succ,h,List.foldl_append];rfl
theorem Gs.keep{b:Bool}{h h':Heap}{a:Addr}{ns:List Int}(g:Gs prog w b h a ns)(k:∀o,h.get? a=some o->h'.get? a=some o):Gs prog w b h' a ns:=by obtain⟨o,es,ep,t,c,r⟩:=g;exact⟨o,es,ep,t,k o c,r⟩
theorem RV{I:Addr}{T C:C9}{G:Array GenState->Array GenState->Prop}{n:Nat}{P:Nat->Value->Prop}{St:Nat->Shared->Prop}{R:Result->Shared->Prop}{b:Bool}
    (W:WalksS prog w A.in1 I T C G n P St) (S:Addr) (hSf:S∉T) (ns:List Int) (hval:∀i v,P i v->∃x t,ns[i]?=some x/\v=.int x t) (hb:n+1<scanBound) :
    ∀(k i : Nat)(s : Shared), n-i = k -> i <= n -> St i s -> Gs prog w b s.heap S (met ns i) ->
      (∀s',Moved (S::C) G s s'->Gs prog w b s'.heap S (met ns n)->R (.ok (.ret .none)) s') ->
      codeAny (model prog w) A (.builtin "set.update.loop" ⟨[.ref S,.ref I],[]⟩) R s:=by
  have l:S∉C:=λh=>hSf (W.sub _ h);have a:∀c∈C,c∈S::C:=λc m=>Au _ m;intro k;induction k with
  |zero =>
    intro i s X hi d L J;obtain rfl:i=n:=⋯
    refine codeAny_builtin F.entry_set_update_loop ?_;rw[Around.under_plainId F.plain_set_update_loop _];show wpAny _ A.in1 (pyNext (.ref I) >>= _) _ _ s;refine Cr (W.done s _ _ d λs' r=>?_);show wpAny _ A.in1 (ret Value.none) _ _ s';exact Cu (J s' (r.mono a) (L.keep λo e=>r.heap S _ l e))
  |succ k Y =>
    intro i s X hi d L J;have q:i<n:=⋯
    refine codeAny_builtin F.entry_set_update_loop ?_;rw[Around.under_plainId F.plain_set_update_loop _];show wpAny _ A.in1 (pyNext (.ref I) >>= _) _ _ s;refine Cr (W.item i s _ _ q d λv s' U z r=>?_);obtain⟨x,t,hx,rfl⟩:=hval i v U;have O:Gs prog w b s'.heap S (met ns i):=L.keep λo e=>r.heap S _ l e;show wpAny _ A.in1 (holding [Value.int x t] (setAdd S (.int x t)) >>= _) _ _ s';refine Cr (wpAny_holding ?_);unfold setAdd;refine wpAny_holding (Cr ((intKind prog w).pyHash (k:=x) (intKind_is _ _ _ _) ?_));refine Ry (s:={ s' with toks:=s'.toks+1 }) (n:=x) (tk:=t) O (by have:=dF ns i;lia) λh' y j=>?_;rw[<- kh hx]at j;refine Cu ⟨plainId_quiet F.plain_set_update_loop _,Y (i+1) _ ⋯ q (W.frame _ s' _ _ z (Nat.le_succ _) λc m o e=>?_) j λQ u f=>?_⟩
    . rw[y.2 c (λh:c=S=>hSf (by rw[<- h];exact m))];exact e
    . refine J Q (Moved.trans W.gtrans ((r.mono a).then_heap (Nat.le_succ _) λc o m e=>?_) u) f
      rw[y.2 c (λh:c=S=>m (by rw[h];exact Cp))];exact e
theorem set_list{l:Addr}{items:Array Value}{ns:List Int}{Q:C2}(hh:A.handled=none)(hl:s.heap.IsList l items)(hi:IntsAre items.toList ns)(hb:items.size+1<scanBound)
    (h:∀(h':Heap)(tk:Nat),Gs prog w (!cC w) h' s.heap.objs.size (met ns items.size)->(∀c o,c<s.heap.objs.size->s.heap.get? c=some o->h'.get? c=some o)->Q (.ref s.heap.objs.size) { s with heap:=h',toks:=tk }) :
    wpAny (model prog w) A (call (.type "set") [.ref l]) Q E s:=by
  obtain⟨cc,tl,ad⟩:=F.called_set.mro;have X:=F.called_set.made;have ae:=F.called_set.sub;refine wpAny_call (codeAny_of_tree ?_);show wpAny _ _ (callAny (.type "set") _) _ _ _;refine Cu ⟨Code.quiet_builtin _ (by decide +kernel),codeAny_builtin F.entry_type_call ?_⟩;rw[Around.under_plain (weight_type_call_type "set" [.ref l] []) rfl];have h1:=F.called_set.notType;have h2:=F.called_set.canCreate;have ah:=F.typeCall_set_1 (.ref l)
  repeat (any_goals (first|assumption|wp_step))
  refine codeAny_mono (P_ (.ref l) (E:=E) (Q₁:=λobj s₁=>obj=.ref s.heap.objs.size/\s₁={ s with heap:=s.heap.push (xL (!cC w)) }) ⟨rfl,rfl⟩) λr s₁ f=>?_;cases r with
  |error e=>exact f
  |ok L =>
    cases L with
    |ret obj =>
      obtain⟨rfl,rfl⟩:=f;have hS:(s.heap.push (xL (!cC w))).get? s.heap.objs.size=some (xL (!cC w)):=As _ rfl;have hT:Shared.TypeIs { s with heap:=s.heap.push (xL (!cC w)) } (.ref s.heap.objs.size) "set" := ⟨_,hS,rfl⟩;have am:=F.called_set.init.lookup;have ag:=F.called_set.init.bind (.ref s.heap.objs.size)
      repeat (any_goals (first|assumption|wp_step))
      refine codeAny_mono (codeAny_call_builtin (R:=wants (λr s₂=>r=.none/\∃h' tk,s₂={ s with heap:=h',toks:=tk }/\Gs prog w (!cC w) h' s.heap.objs.size (met ns items.size)/\(∀c o,c<s.heap.objs.size->s.heap.get? c=some o->h'.get? c=some o)) E) F.called_set.init.plain F.entry_set_init (check_set_init_1 hT ?_)) λr₂ s₂ f₂=>?_
      . obtain⟨ol,y,m,nl,n⟩:=hl
        obtain⟨af,j,Y,a⟩:=ol;simp only at m n;subst m;subst n;have z:(s.heap.push (xL (!cC w))).get? l=some { cls:=.type "list", dict:=j,data:=.seq items nl,slots:=a }:=Ad _ y;have y1:=F.sub_list_set;have y2:=F.sub_list_frozenset;have y3:(Value.type "list" == Value.type "dict")=false:=by decide
        have q:(s.heap.push (xL (!cC w))).IsList l items:=⟨_,z,rfl,nl,rfl⟩;unfold Builtin.«set.__init__» noKeywords Builtin.Frozenset.updateFrom;generalize O:pyIter=PI
        wp_walk
        subst O;refine wpAny_pyIter_list q (Cr (wpAny_runValue ?_));have u:l<s.heap.objs.size:=Ao y;have T:A.in1.in1.in1.handled=none:=by simp[hh]
        have lI:l≠(s.heap.push (xL (!cC w))).objs.size:=by rw[B7];exact A6 (Nat.lt_succ_of_lt u)
        have P:s.heap.objs.size∉[(s.heap.push (xL (!cC w))).objs.size,l]:=by rw[B7];simp only[Ba,Aq,Bu,or_false,not_or];exact⟨A6 (Cj _),Cn u⟩
        have il:=hi.length;have I:∀(i:Nat)(v:Value),items[i]?=some v->∃x t,ns[i]?=some x/\v=.int x t:=λi v hv=>by
          have C:items.toList[i]?=some v:=by rw[Array.getElem?_toList];exact hv
          obtain⟨t,e⟩:=IntsAre.int_at hi i v C;have li:i<ns.length:=by have:=(Ac.mp C).1;lia
          exact⟨ns[i],t,Ab li,by rw[e,B8,Ab li];rfl⟩
        refine RV (b:=!cC w) ((Walks.list T _ l lI items).toS) s.heap.objs.size P ns I hb (items.size-0) 0 _ ⋯ (A5 _) ⟨⟨_,As _ rfl,rfl,rfl⟩,(q.push _)⟩ ?hS0 ?hR
        case hS0 =>
          refine⟨xL (!cC w),#[],0,.fresh 0 0 (!cC w),Ad _ hS,⟨rfl,rfl,rfl⟩,rfl,λe he=>by simp at he,List.Perm.refl [],List.Pairwise.nil,(show([]:List Int).length<scanBound by decide),rfl,Gt.fresh _ _ _⟩
        case hR =>
          intro s' J d;obtain⟨h',g',d',aa,Z⟩:=s';obtain rfl:g'=s.gens:=J.gens;obtain rfl:d'=s.drawn:=J.drawn;obtain rfl:Z=s.os:=J.os;show wpAny _ _ _ _ _ _;refine Cu ?_;show wpAny _ _ (ret Value.none) _ _ _;refine Cu ⟨rfl,h',aa,rfl,d,λc o hc e=>?_⟩;have c1:c≠s.heap.objs.size:=A6 hc;have c2:c≠(s.heap.push (xL (!cC w))).objs.size:=by rw[B7];exact A6 (Nat.lt_succ_of_lt hc)
          exact J.heap c o (by simp only[Ba,Aq,Bu,or_false,not_or];exact⟨c1,c2⟩) (Ad _ (Ad _ e))
      . cases r₂ with
        |error e=>exact f₂
        |ok L₂ =>
          cases L₂ with
          |ret r =>
            obtain⟨rfl,h',tk,rfl,d,U⟩:=f₂
            repeat (any_goals (first|assumption|wp_step))
            exact h _ _ d U
          |_=>exact f₂.elim
    |_=>exact f.elim
end
theorem aR:Slot "set_iterator" "__next__" "set_iterator.__next__" :=
 .of (owner := "set_iterator") (n := "__next__") (by rw[typeLookup_type,builtinLookup_eq_fast];kernel_rfl) (by decide +kernel) (by decide +kernel) (by decide +kernel) (by first|exact .inl (by decide +kernel)|exact .inr (by decide +kernel)) (by rw[isSubtype_type];kernel_rfl)
theorem vT:Manifest.owners.lookup (String.ofList ['r','o','t','a','r','e','t','i','_','t','e','s'].reverse)=some Manifest.sig_set_iterator:=by kernel_rfl
theorem qf(a:Value):argsOk "set_iterator.__next__" ⟨[a],[]⟩:=by unfold argsOk;rw[signature?_of (id := "set_iterator.__next__") (n:=['_','_','t','x','e','n','_','_']) (o:=['r','o','t','a','r','e','t','i','_','t','e','s']) (by kernel_rfl) vT];kernel_rfl
theorem YA:entryFor table "set_iterator.__next__" = some Builtin.«set_iterator.__next__»:=entryFor_of_tree (by kernel_rfl)
theorem jW:entryFor table "set.__iter__" = some Builtin.«frozenset.__iter__»:=entryFor_alias (id' := "frozenset.__iter__") (by kernel_rfl) rfl (by decide +kernel) (by kernel_rfl)
section
variable{prog:Program}{w:World}{A:Around}{E:C2}{s:Shared}
def dI(first:Value)(i:Int)(a:Value)(n ep:Nat):Obj:={ cls:=.type "set_iterator", data:=.fields #[first,rawInt i,a,rawInt n,rawInt ep] }
structure Wo(w:World)(h:Heap)(S:Addr)(es:Array (Int×Value))(ep:Nat)(t:SetTable):Prop where
 at_:∃o,h.get? S=some o/\o.ExactSet/\o.data=.set es ep t
 fit:t.fits es.size=true
 gt:Gt (!cC w) t
theorem Wo.size{h:Heap}{S:Addr}{es:Array (Int×Value)}{ep:Nat}{t:SetTable}(W:Wo w h S es ep t):t.place.size=es.size:=by have:=W.fit;unfold SetTable.fits at this;simp only[A4,beq_iff_eq]at this;exact this.1
theorem Gv{I S:Addr}{es:Array (Int×Value)}{ep i j nx:Nat}{t:SetTable}{x:Value}{Q:Option Value->Shared->Prop}(W:Wo w s.heap S es ep t)(hI:s.heap.get? I=some (dI (rawInt j) i (.ref S) es.size ep))
  (hn:∀{Q':Option (Value×Nat)->Shared->Prop}{E':C2},Q' (some (x,nx)) s->wpAny (model prog w) A.in1 (setNext S j i ep) Q' E' s)
  (h:∀h',(∀b o,b≠I->s.heap.get? b=some o->h'.get? b=some o)->h'.get? I=some (dI (rawInt nx) (i+1:Nat) (.ref S) es.size ep)->Q (some x) { s with heap:=h' }) :
  wpAny (model prog w) A (pyNext (.ref I)) Q E s:=by
 obtain⟨o,n,m,hd⟩:=W.at_;have d:s.TypeIs (.ref I) "set_iterator" := ⟨_,hI,rfl⟩;unfold pyNext;refine Cr (wpAny_attempt (wpAny_callSpecial?_slot (name:=Str.ofString "__next__") d aR (wpAny_call_entry aR d YA ?_ (qf _))));unfold Builtin.«set_iterator.__next__» slotArgs;simp only[List.isEmpty_nil,Bool.not_true,Aw,if_false,bind_assoc,List.length_nil,bne_self_eq_false];refine Cr (Cu ?_);dsimp only;refine Cr (wpAny_fieldsOf hI rfl ?_);dsimp only[rawInt,List.toList_toArray];refine Cr (wpAny_setEntries_of n hd W.fit ?_);rw[Cs (by simp)];simp only[Bo];refine Cr (hn ?_);dsimp only;refine Cr (wpAny_setField hI rfl (by simp) ?_);have a:=Heap.get?_update_self (Obj.mapFields (·.setIfInBounds 0 (.int (nx:Nat) 0))) hI rfl;refine Cr (wpAny_setField a rfl (by simp[Obj.mapFields,dI]) ?_);have l:=Heap.get?_update_self (Obj.mapFields (·.setIfInBounds 1 (.int ((i:Int)+1) 0))) a rfl;refine Cu ⟨_,rfl,Cu (h _ (λc q f e=>?_) ?_)⟩
 ·exact(Heap.get?_update_other _ _ (Ne.symm f)).trans ((Heap.get?_update_other _ _ (Ne.symm f)).trans e)
 ·exact l
theorem Gw{I S:Addr}{es:Array (Int×Value)}{ep i f:Nat}{t:SetTable}{Q:Option Value->Shared->Prop}(n:A.handled=none)(W:Wo w s.heap S es ep t)(hI:s.heap.get? I=some (dI (rawInt f) i (.ref S) es.size ep))
  (hn:∀{Q':Option (Value×Nat)->Shared->Prop}{E':C2},Q' none s->wpAny (model prog w) A.in1 (setNext S f i ep) Q' E' s)
  (h:∀h',(∀b o,b≠I->s.heap.get? b=some o->h'.get? b=some o)->Q none { s with heap:=h' }) :
  wpAny (model prog w) A (pyNext (.ref I)) Q E s:=by
 obtain⟨o,q,l,hd⟩:=W.at_;have d:s.TypeIs (.ref I) "set_iterator" := ⟨_,hI,rfl⟩;unfold pyNext;refine Cr (wpAny_attempt (wpAny_callSpecial?_slot (name:=Str.ofString "__next__") d aR (wpAny_call_entry aR d YA ?_ (qf _))));unfold Builtin.«set_iterator.__next__» slotArgs;simp only[List.isEmpty_nil,Bool.not_true,Aw,if_false,bind_assoc,List.length_nil,bne_self_eq_false];refine Cr (Cu ?_);dsimp only;refine Cr (wpAny_fieldsOf hI rfl ?_);dsimp only[rawInt,List.toList_toArray];refine Cr (wpAny_setEntries_of q hd W.fit ?_);rw[Cs (by simp)];simp only[Bo];refine Cr (hn ?_);dsimp only;refine Cr (wpAny_setField hI rfl (by simp) ?_);refine Cr ?_;simp only[newExc,newTuple];refine Cr (wpAny_newObj_type ?_ (by size_fits));refine Cr (m:=firstArgMember _ _) (wpAny_of_eq (a:=Value.none) (by first|rfl|(simp only[firstArgMember];rfl)) ?_);refine wpAny_newObj_type ?_ (by size_fits);simp only[raiseNew];refine Cr (wpAny_handled ?_);rw[show A.in1.handled=none from n];refine Cr (Cu (wpAny_throw ?_));refine Cr (wpAny_isInstance (T := "StopIteration") (b:=true) ⟨_,As _ rfl,rfl⟩ isSubtype_stop ?_);refine Cu (h _ λc r j e=>?_);exact Ad _ (Ad _ ((Heap.get?_update_other _ _ (Ne.symm j)).trans e))
theorem xq{S:Addr}{es:Array (Int×Value)}{ep i:Nat}{t:SetTable}{b:Nat}{Q:Option (Value×Nat)->Shared->Prop}(W:Wo w s.heap S es ep t)(a:cC w=false)(U:t.plain=true∨es.size<=1)(e:SetTable.below t.place b=i)
  (h:Q (match es[i]?,t.place[i]? with|some (_,x),some j=>some (x,j+1)|_,_=>none) s):wpAny (model prog w) A (setNext S b i ep) Q E s:=by
 obtain⟨o,d,c,hd⟩:=W.at_;have ld:t.led=true:=by rw[W.gt.ld,a];rfl
 unfold setNext setsByText;refine Cr (wpAny_setState_of d hd W.fit ?_);dsimp only;refine Cr (Cr (wpAny_askSetting (Cu ?_)));dsimp only;rw[Cs (show ¬ (model prog w).w.params.followText "set-order" = true from by have:cC w=false:=a;unfold cC at this;show ¬ w.params.followText "set-order" = true;rw[this];simp)]
 rw[Cs (λq=>by
  have q:(!t.plain&&decide (es.size > 1))=true:=q;rcases U with U|U
  ·rw[U]at q;cases q
  ·rw[C0 ⋯,Bool.and_false]at q;cases q)]
 refine Cr (show wpAny (model prog w) _ (if (!t.led&&!es.isEmpty)=true then unsupported "set:maker-not-led" else pure PUnit.unit) _ _ _ from ?_);rw[Cs (by rw[ld];simp)];refine Cu ?_;rw[e];exact Cu h
theorem yH{S:Addr}{es:Array (Int×Value)}{ep i:Nat}{t:SetTable}{b:Nat}{Q:Option (Value×Nat)->Shared->Prop}(W:Wo w s.heap S es ep t)(c:cC w=true)
  (h:Q (((pickOrder (w.params.setOrder S ep) es)[i]?).map λe=>(e.2,b)) s):wpAny (model prog w) A (setNext S b i ep) Q E s:=by
 obtain⟨o,a,d,hd⟩:=W.at_;have bt:w.params.followText "set-order" = true:=c;unfold setNext setsByText;refine Cr (wpAny_setState_of a hd W.fit ?_);dsimp only;refine Cr (Cr (wpAny_askSetting (Cu ?_)));dsimp only;rw[Ct (show(model prog w).w.params.followText "set-order" = true from bt)];rw[Cs (by simp)];unfold setWalk setsByText;refine Cr (Cr (wpAny_setState_of a hd W.fit ?_));dsimp only;refine Cr (Cr (wpAny_askSetting (Cu ?_)));dsimp only;rw[Ct (show(model prog w).w.params.followText "set-order" = true from bt)];refine Cr (wpAny_askSetting (Cu ?_));exact Cu h
end
section
variable{prog:Program}{w:World}{A:Around}{E:C2}
theorem YZ{α:Type}:∀{xs:List α}{i:Nat}(h:i<xs.length),(xs[i]::xs.eraseIdx i).Perm xs
  |x::xs,0,_=>List.Perm.refl _
  |x::xs,i+1,h=>by have:=YZ (xs:=xs) (i:=i) (by simpa using h);show(xs[i]'(by simpa using h)::x::xs.eraseIdx i).Perm (x::xs);exact(List.Perm.swap _ _ _).trans (List.Perm.cons _ this)
theorem Ru{M:Model}{s:Shared}{a:Source}{n:Nat}{Q:Nat->Shared->Prop}(b:n≠0)(h:Q (M.w.draws a (s.drawn.get a) % n) { s with drawn:=s.drawn.bump a }):wpAny M A (choose a n) Q E s:=fun Γ p hΓ=>by unfold choose;rw[Sem.wp_choose];exact⟨b,by simpa using h⟩
theorem U5{α:Type}:∀(n:Nat)(xs:List α)(s:Shared){Q:List α->Shared->Prop},xs.length=n->(∀ys d,ys.Perm xs->Q ys { s with drawn:=d })->wpAny (model prog w) A (drawOrder n xs) Q E s
  |0,xs,s,Q,b,h=>by have:xs=[]:=List.eq_nil_of_length_eq_zero b;subst this;unfold drawOrder;exact Cu (h [] s.drawn (List.Perm.refl _))
  |n+1,xs,s,Q,b,h=>by
    cases xs with
    |nil=>simp at b
    |cons e a =>
      unfold drawOrder;refine Cr (Ru (by simp) ?_);generalize hi:(model prog w).w.draws .order (s.drawn.get .order) % (e::a).length=i;have c:i<(e::a).length:=by rw[<- hi];exact Nat.mod_lt _ (by simp)
      rw[Ab c];dsimp only;refine Cr (U5 n _ _ (by rw[List.length_eraseIdx];simp only[c,if_true];simp only[A0]at b ⊢;lia) λys d U=>?_);refine Cu (h _ d ?_);refine(List.Perm.cons _ U).trans ?_;exact YZ c
variable{s:Shared}
theorem Ss{I S T:Addr}{es:Array (Int×Value)}{ep i:Nat}{t:SetTable}{l:Obj}{ps:List Nat}{c:Nat}{x:Int×Value}{p:Nat}{Q:Option Value->Shared->Prop}(W:Wo w s.heap S es ep t)(hI:s.heap.get? I=some (dI (.ref T) i (.ref S) es.size ep))(a:s.heap.get? T=some l)(d:l.data=.seq (ps.map λ(k:Nat)=>rawInt k).toArray c)
  (U:ps[i]?=some p) (hx:es[p]?=some x)
  (h:∀h',(∀b o,b≠I->s.heap.get? b=some o->h'.get? b=some o)->h'.get? I=some (dI (.ref T) (i+1:Nat) (.ref S) es.size ep)->Q (some x.2) { s with heap:=h' }) :
  wpAny (model prog w) A (pyNext (.ref I)) Q E s:=by
 obtain⟨o,j,r,hd⟩:=W.at_;have f:s.TypeIs (.ref I) "set_iterator" := ⟨_,hI,rfl⟩;unfold pyNext;refine Cr (wpAny_attempt (wpAny_callSpecial?_slot (name:=Str.ofString "__next__") f aR (wpAny_call_entry aR f YA ?_ (qf _))));unfold Builtin.«set_iterator.__next__» slotArgs;simp only[List.isEmpty_nil,Bool.not_true,Aw,if_false,bind_assoc,List.length_nil,bne_self_eq_false];refine Cr (Cu ?_);dsimp only;refine Cr (wpAny_fieldsOf hI rfl ?_);dsimp only[rawInt,List.toList_toArray];refine Cr (wpAny_setEntries_of j hd W.fit ?_);rw[Cs (by simp)];simp only[Bo];unfold seqItems?;refine Cr (Cr (wpAny_load a ?_));rw[d];refine Cu ?_;dsimp only;have m:((ps.map λ(k:Nat)=>rawInt k).toArray)[i]?=some (rawInt p):=by simp[U]
 rw[m];dsimp only[rawInt];unfold setNextDrawn;refine Cr (Cr (wpAny_setState_of j hd W.fit ?_));dsimp only;rw[Cs (by simp)];simp only[Bo];rw[hx];refine Cu ?_;refine Cr (wpAny_setField hI rfl (by simp) ?_);have n:=Heap.get?_update_self (Obj.mapFields (·.setIfInBounds 1 (.int ((i:Int)+1) 0))) hI rfl;refine Cu ⟨_,rfl,Cu (h _ (λu v q e=>?_) ?_)⟩
 ·exact(Heap.get?_update_other _ _ (Ne.symm q)).trans e
 ·exact n
end
section
variable{prog:Program}{w:World}{A:Around}{E:C2}{s:Shared}
theorem k8{r:Addr}(d:s.TypeIs (.ref r) "set"){Q:Bool->Shared->Prop}(h:Q false s):wpAny (model prog w) A (Builtin.List.listLengthHint (.ref r)) Q E s:=by
 unfold Builtin.List.listLengthHint;refine Cr (wpAny_specialOf d F.slot_set_len.lookup ?_);generalize c:("set.__len__" : String)=e
 wp_delta
 rw[show splitId e=some ("set", "__len__")from by subst c;decide +kernel];subst c;refine Cr (wpAny_isInstance (T := "set") (b:=true) d (by rw[isSubtype_type];kernel_rfl) ?_);refine wpAny_ite_split (λa=>absurd a (by decide)) (λ_=>?_);refine wpAny_ite_split (λ_=>?_) (λa=>absurd (by decide +kernel) a);refine Cr (wpAny_typeOf d ?_);exact Cu h
def UY:typeLookup (.type "set_iterator") "__next__" = pure (some (.builtin "set_iterator.__next__")):=aR.lookup
theorem k9{S:Addr}{es:Array (Int×Value)}{ep:Nat}{t:SetTable}{Q:C2}(W:Wo w s.heap S es ep t)(hz:es.size<scanBound)
    (U:(cC w=true∨t.plain=true∨es.size<=1)->Q (.ref s.heap.objs.size) { s with heap:=s.heap.push (dI (rawInt 0) 0 (.ref S) es.size ep) })
    (hd':∀(ps:List Nat) (d:Drawn),ps.Perm (List.range es.size)->Q (.ref (s.heap.objs.size+1)) { s with heap:=(s.heap.push { cls:=.type "tuple", data:=.seq (ps.map λ(k:Nat)=>rawInt k).toArray }).push (dI (.ref s.heap.objs.size) 0 (.ref S) es.size ep),drawn:=d }) :
    wpAny (model prog w) A (pyIter (.ref S)) Q E s:=by
  obtain⟨o,a,b,hd⟩:=W.at_;have e:s.TypeIs (.ref S) "set" := ⟨o,a,b.1⟩;refine wpAny_pyIter_slot e F.slot_set_iter (wpAny_call_entry F.slot_set_iter e jW ?_ (F.args_set_iter_1 _));unfold Builtin.«frozenset.__iter__» Builtin.Frozenset.slot0 slotArgs;simp only[List.isEmpty_nil,Bool.not_true,Aw,if_false,bind_assoc,List.length_nil,bne_self_eq_false];unfold Builtin.Frozenset.addrOf Builtin.Frozenset.sizeOf;refine Cr (Cu ?_);dsimp only;refine Cr (Cu ?_);refine Cr (Cr (wpAny_setEntries_of a hd W.fit (Cu ?_)));unfold setDrawn setsByText;refine Cr (Cr (wpAny_setState_of a hd W.fit ?_));dsimp only;refine Cr (Cr (wpAny_askSetting (Cu (Cu ?_))));show wpAny (model prog w) _ (if (!cC w&&(!t.plain&&decide (es.size > 1)))=true then _ else _) _ _ _;by_cases c:(!cC w&&(!t.plain&&decide (es.size > 1)))=true
  . rw[Ct c]
    refine Cr (U5 _ _ _ (List.length_range) λps d f=>?_);have pl:ps.length=es.size:=by rw[f.length_eq,List.length_range]
    refine Cr (wpAny_newTuple ?_ (by rw[Bf,pl];exact Nat.le_of_lt (Av hz (by decide))));refine Cr (wpAny_setEpoch_of (Ad _ a) hd W.fit ?_);refine Cr (wpAny_newObj_type ?_);refine Cu ⟨_,rfl, "set_iterator", _,⟨_,As _ rfl,rfl⟩,UY,?_⟩;have q:=hd' ps d f;rw[<- B7 s.heap { cls:=.type "tuple", data:=.seq (ps.map λ(k:Nat)=>rawInt k).toArray }]at q;exact q
  . rw[Cs c]
    refine Cr (Cu ?_);refine Cr (wpAny_setEpoch_of a hd W.fit ?_);refine Cr (wpAny_newObj_type ?_);refine Cu ⟨_,rfl, "set_iterator", _,⟨_,As _ rfl,rfl⟩,UY,?_⟩;refine U ?_;cases h:cC w with
    |true=>exact .inl rfl
    |false =>
      cases i:t.plain with
      |true=>exact .inr (.inl rfl)
      |false=>rw[h,i]at c;refine .inr (.inr (Nat.le_of_not_lt λz=>c ?_));simp;exact z
theorem Sq{I S T:Addr}{es:Array (Int×Value)}{ep i:Nat}{t:SetTable}{n:Obj}{ps:List Nat}{c:Nat}{Q:Option Value->Shared->Prop}(v:A.handled=none)(W:Wo w s.heap S es ep t)(hI:s.heap.get? I=some (dI (.ref T) i (.ref S) es.size ep))(d:s.heap.get? T=some n)(f:n.data=.seq (ps.map λ(k:Nat)=>rawInt k).toArray c)
  (U:ps[i]?=none)
  (h:∀h',(∀b o,b≠I->s.heap.get? b=some o->h'.get? b=some o)->Q none { s with heap:=h' }) :
  wpAny (model prog w) A (pyNext (.ref I)) Q E s:=by
 obtain⟨o,x,u,hd⟩:=W.at_;have j:s.TypeIs (.ref I) "set_iterator" := ⟨_,hI,rfl⟩;unfold pyNext;refine Cr (wpAny_attempt (wpAny_callSpecial?_slot (name:=Str.ofString "__next__") j aR (wpAny_call_entry aR j YA ?_ (qf _))));unfold Builtin.«set_iterator.__next__» slotArgs;simp only[List.isEmpty_nil,Bool.not_true,Aw,if_false,bind_assoc,List.length_nil,bne_self_eq_false];refine Cr (Cu ?_);dsimp only;refine Cr (wpAny_fieldsOf hI rfl ?_);dsimp only[rawInt,List.toList_toArray];refine Cr (wpAny_setEntries_of x hd W.fit ?_);rw[Cs (by simp)];simp only[Bo];unfold seqItems?;refine Cr (Cr (wpAny_load d ?_));rw[f];refine Cu ?_;dsimp only;have q:((ps.map λ(k:Nat)=>rawInt k).toArray)[i]?=none:=by simpa using U
 rw[q];dsimp only;refine Cr (wpAny_setField hI rfl (by simp) ?_);have r:=Heap.get?_update_self (Obj.mapFields (·.setIfInBounds 0 (.int 0 0))) hI rfl;refine Cr (wpAny_setField r rfl (by simp[Obj.mapFields,dI]) ?_);refine Cr ?_;simp only[newExc,newTuple];refine Cr (wpAny_newObj_type ?_ (by size_fits));refine Cr (m:=firstArgMember _ _) (wpAny_of_eq (a:=Value.none) (by first|rfl|(simp only[firstArgMember];rfl)) ?_);refine wpAny_newObj_type ?_ (by size_fits);simp only[raiseNew];refine Cr (wpAny_handled ?_);rw[show A.in1.handled=none from v];refine Cr (Cu (wpAny_throw ?_));refine Cr (wpAny_isInstance (T := "StopIteration") (b:=true) ⟨_,As _ rfl,rfl⟩ isSubtype_stop ?_);refine Cu (h _ λy z l e=>?_);exact Ad _ (Ad _ ((Heap.get?_update_other _ _ (Ne.symm l)).trans ((Heap.get?_update_other _ _ (Ne.symm l)).trans e)))
end
theorem Kh{xs:Array Nat}(h:Rs xs):SetTable.below xs 0=0:=by
 obtain⟨b,a,_⟩:=jH h 0;rcases Nat.eq_zero_or_pos (SetTable.below xs 0)with e|e
 ·exact e
 ·have:=a 0 _ e (Array.getElem?_eq_getElem ⋯);lia
theorem Kg{xs:Array Nat}(h:Rs xs){i j:Nat}(hi:xs[i]?=some j):SetTable.below xs (j+1)=i+1:=by
 obtain⟨c,a,b⟩:=jH h (j+1);rcases Nat.lt_trichotomy (SetTable.below xs (j+1)) (i+1)with q|q|q
 ·have:=b i j ⋯ hi;lia
 ·exact q
 ·have e:=Array.getElem?_eq_getElem (xs:=xs) (i:=i+1) ⋯;have l1:=a (i+1) _ q e;have l2:=h.lt hi e ⋯;lia
theorem GL{α:Type}(f:Nat->Nat):∀(n k:Nat)(left:List α)(a:Array α),left.length=n->(pickOrder.go f n k left a).toList.Perm (a.toList++left)
  |0,k,left,a,h=>by have:left=[]:=List.eq_nil_of_length_eq_zero h;subst this;unfold pickOrder.go;simp
  |n+1,k,left,a,h=>by have b:f k % left.length<left.length:=Nat.mod_lt _ ⋯;unfold pickOrder.go;rw[Ab b];dsimp only;refine(GL f n (k+1) _ _ (by rw[List.length_eraseIdx,Ct b];lia)).trans ?_;rw[Ci,Ay];exact List.Perm.append_left _ (YZ b)
theorem vZ{α:Type}(f:Nat->Nat)(xs:Array α):(pickOrder f xs).toList.Perm xs.toList:=by have:=GL f xs.size 0 xs.toList #[] (by simp);simpa [pickOrder]using this
section
variable{prog:Program}{w:World}{A:Around}{E:C2}{s:Shared}
theorem Ut{I L:Addr}{n:Nat}{St:Nat->Heap->Prop}{P:Nat->Value->Prop}{R:Result->Shared->Prop}
    (nx:∀(i:Nat)(s:Shared)(Q:Option Value->Shared->Prop)(E:C2),i<n->St i s.heap->(∀v h',P i v->St (i+1) h'->(∀b o,b≠I->s.heap.get? b=some o->h'.get? b=some o)->Q (some v) { s with heap:=h' })->wpAny (model prog w) A.in1 (pyNext (.ref I)) Q E s)
    (en:∀(s:Shared)(Q:Option Value->Shared->Prop)(E:C2),St n s.heap->(∀h',(∀b o,b≠I->s.heap.get? b=some o->h'.get? b=some o)->Q none { s with heap:=h' })->wpAny (model prog w) A.in1 (pyNext (.ref I)) Q E s)
    (fr:∀(i:Nat)(h h':Heap),St i h->(∀b o,b≠L->h.get? b=some o->h'.get? b=some o)->St i h') (hLI:L≠I) (hn:n<=sizeLine) (res:Value) :
    ∀(k i:Nat) (s:Shared) (acc:Array Value) (c:Nat),n-i=k->i<=n->St i s.heap->s.heap.get? L=some { cls:=.type "list", dict:=none,data:=.seq acc c,slots:=#[] }->ItemsOf P acc i ->
    (∀h' d z,(∀b o,b≠L->b≠I->s.heap.get? b=some o->h'.get? b=some o)->h'.get? L=some { cls:=.type "list", dict:=none,data:=.seq d z,slots:=#[] }->ItemsOf P d n->R (.ok (.ret res)) { s with heap:=h' }) ->
    codeAny (model prog w) A (.builtin "list.extend.loop" ⟨[.ref L,.ref I,res],[]⟩) R s:=by
  intro k;induction k with
  |zero =>
    intro i s acc c T hi j J a C;obtain rfl:i=n:=⋯
    refine codeAny_builtin F.entry_extend_loop ?_;rw[Around.under_plainId F.plain_extend_loop _];show wpAny _ A.in1 (pyNext (.ref I) >>= _) _ _ s;refine Cr (en s _ _ j λh' u=>?_);exact Cu (C h' acc c (λb o _ l e=>u b o l e) (u L _ hLI J) a)
  |succ k U =>
    intro i s acc c T hi j J a C;have t:i<n:=⋯
    refine codeAny_builtin F.entry_extend_loop ?_;rw[Around.under_plainId F.plain_extend_loop _];show wpAny _ A.in1 (pyNext (.ref I) >>= _) _ _ s;refine Cr (nx i s _ _ t j λv X O y u=>?_);have m:=u L _ hLI J;show wpAny _ A.in1 (updateSeq L (·.push v) >>= _) _ _ _;refine Cr ?_;refine wpAny_updateSeq m rfl (Cu ⟨plainId_quiet F.plain_extend_loop _,U (i+1) _ (acc.push v) _ ⋯ t (fr _ _ _ y λb o l e=>?_) (Heap.get?_update_self _ m rfl) (a.push O) λh' d z x q f=>?_⟩)
      (by rw[a.1];lia) (by show(acc.push v).size<=sizeLine+1;rw[Array.size_push,a.1];lia)
    . exact(Heap.get?_update_other _ _ (Ne.symm l)).trans e
    . refine C h' d z (λb o l r e=>x b o l r ?_) q f
      exact(Heap.get?_update_other _ _ (Ne.symm l)).trans (u b o r e)
end
section
variable{prog:Program}{w:World}{A:Around}{E:C2}{s:Shared}
def d8(xs:Array Value)(c:Nat):Obj:={ cls:=.type "list", dict:=none,data:=.seq xs c,slots:=#[] }
theorem Wo.keep{h h':Heap}{S:Addr}{es:Array (Int×Value)}{ep:Nat}{t:SetTable}(W:Wo w h S es ep t)(k:∀o,h.get? S=some o->h'.get? S=some o):Wo w h' S es ep t:=by obtain⟨⟨o,e,r⟩,f,g⟩:=W;exact⟨⟨o,k o e,r⟩,f,g⟩
theorem UX{S L I:Addr}{q:Bool}{R:Result->Shared->Prop}{c:Nat}(m:s.TypeIs (.ref S) "set")(h:s.heap.get? L=some (d8 #[] c))
  (loop:∀h' a,(∀b o,b≠L->s.heap.get? b=some o->h'.get? b=some o)->h'.get? L=some (d8 #[] a)->codeAny (model prog w) A (.builtin "list.extend.loop" ⟨[.ref L,.ref I,.ref L],[]⟩) R { s with heap:=h' }) :
  wpAny (model prog w) A.in1 (do
   let O4 <- holding [.ref I] (Builtin.List.listLengthHint (.ref S))
   if (O4||q)=true then do
     rule "list.extend.makes-room"
     Builtin.List.listTouch (.ref L)
     again (.builtin "list.extend.loop" ⟨[.ref L,.ref I,.ref L],[]⟩)
    else again (.builtin "list.extend.loop" ⟨[.ref L,.ref I,.ref L],[]⟩)) (λd s'=>match d with|.done f=>R (.ok f) s'|.again a=>a.quiet=true/\codeAny (model prog w) A a R s') (λe s'=>R (.error e) s') s:=by
 refine Cr (wpAny_holding (k8 m ?_));refine wpAny_ite_split (λ_=>?_) (λ_=>Cu ⟨plainId_quiet F.plain_extend_loop _,loop s.heap c (λ_ _ _ e=>e) h⟩);refine Cr (wpAny_rule (Cr ?_));show wpAny _ _ (updateSeq L (·.push .none) >>= λ_=>updateSeq L (·.pop)) _ _ _;refine Cr (wpAny_updateSeq h rfl ?_);have i:=Heap.get?_update_self (Obj.mapSeq (·.push Value.none)) h rfl;refine wpAny_updateSeq (hz:=by seq_fits) i rfl ?_;have l:=Heap.get?_update_self (Obj.mapSeq (·.pop)) i rfl;refine Cu ⟨plainId_quiet F.plain_extend_loop _,loop _ _ (λb o j e=>?_) l⟩;exact(Heap.get?_update_other _ _ (Ne.symm j)).trans ((Heap.get?_update_other _ _ (Ne.symm j)).trans e)
theorem xc{P:Nat->Value->Prop}{acc:Array Value}{es:Array (Int×Value)}{ns:List Int}{a:List (Int×Value)}(b:ElemsOf (intKind prog w) es.toList)(z:(es.toList.map λe=>numOf e.2).Perm ns)(po:a.Perm es.toList)(h:ItemsOf P acc es.size)(o:∀i v,P i v->∃e,a[i]?=some e/\v=e.2):∃f:List Int,IntsAre acc.toList f/\f.Perm ns:=by
  have C:a.length=es.size:=by rw[po.length_eq,Bx]
  have n:acc.toList=a.map (·.2):=by
    refine List.ext_getElem? λi=>?_;rw[Bh,Array.getElem?_toList];cases d:acc[i]? with
    |none =>
      have:a[i]?=none:=by rw[List.getElem?_eq_none_iff];rw[Array.getElem?_eq_none_iff,h.1]at d;lia
      rw[this];rfl
    |some v=>obtain⟨e,j,m⟩:=o i v (h.2 i v d);rw[j,m];rfl
  have go:∀l:List (Int×Value),(∀e∈l,e∈es.toList)->IntsAre (l.map (·.2)) (l.map λe=>numOf e.2):=by
    intro l;induction l with
    |nil=>intro _;exact .nil
    |cons e l y=>intro c;obtain⟨t,q⟩:=yz b (c e Cp);show IntsAre (e.2::l.map (·.2)) (numOf e.2::l.map λe=>numOf e.2);have u:=y λx hx=>c x (Au _ hx);rw[q];exact .cons _ t u
  exact⟨a.map λe=>numOf e.2,by rw[n];exact go a λe r=>po.mem_iff.mp r,(po.map _).trans z⟩
theorem UW{S:Addr}{ns:List Int}{R:List Value->Shared->Prop}(hh:A.handled=none)(g:Gs prog w (!cC w) s.heap S ns)
    (h:∀(h':Heap)(d:Drawn)(vs:List Value)(ms:List Int),IntsAre vs ms->ms.Perm ns->(∀b o,s.heap.get? b=some o->h'.get? b=some o)->R vs { s with heap:=h',drawn:=d }) :
    wpAny (model prog w) A (collect (.ref S)) R E s:=by
  obtain⟨o,es,ep,t,ho,O,hd,ae,pm,nd,hb,hf,gt⟩:=g;have sz:=Gs.size (b:=!cC w) (h:=s.heap) pm;have u:S<s.heap.objs.size:=Ao ho;have W:Wo w s.heap S es ep t:=⟨⟨o,ho,O,hd⟩,hf,gt⟩;have rs:t.plain=true∨es.size<=1->Rs t.place:=λq=>by
    rcases q with q|q
    . exact gt.rs q
    . have:=W.size
      unfold Rs
      match e:t.place.toList with
      | []=>exact .nil
      | [_]=>exact List.pairwise_singleton _ _
      |_::_::_=>have:=congrArg List.length e;simp at this;lia
  unfold collect;refine Cr (wpAny_runValue (codeAny_builtin F.entry_proto_collect ?_));rw[Around.under_plainId F.plain_proto_collect _];show wpAny _ A.in1 (newList [] >>= λl=>again (.builtin "list.__iadd__" ⟨[l,.ref S],[]⟩)) _ _ s;refine Cr (wpAny_newObj_type ?_);refine Cu ⟨plainId_quiet F.plain_list_iadd _,codeAny_builtin F.entry_list_iadd ?_⟩;rw[Around.under_plainId F.plain_list_iadd _];show wpAny _ A.in1 (Builtin.List.listExtendWith (.ref s.heap.objs.size) (.ref S) (.ref s.heap.objs.size)) _ _ _;have aa:(s.heap.push (d8 #[] 0)).get? s.heap.objs.size=some (d8 #[] 0):=As _ rfl;have W1:Wo w (s.heap.push (d8 #[] 0)) S es ep t:=W.keep λo e=>Ad _ e;have af:Shared.TypeIs { s with heap:=s.heap.push (d8 #[] 0) } (.ref S) "set" := ⟨o,Ad _ ho,O.1⟩;unfold Builtin.List.listExtendWith;refine Cr (wpAny_typeOf af ?_);have h1:Builtin.List.listSameRef (.ref s.heap.objs.size) (.ref S)=false:=by simp[Builtin.List.listSameRef,Cn u]
  have h2:(Value.type "set" == Value.type "list")=false:=by decide
  have h3:(Value.type "set" == Value.type "tuple")=false:=by decide
  simp only[h1,h2,h3,Bool.or_false,Aw,if_false];refine Cr (k9 (s:={ s with heap:=s.heap.push (d8 #[] 0) }) W1 ⋯ (λhm=>?_) (λps d pp=>?_))
  . -- by places,or by the text
    let I:=(s.heap.push (d8 #[] 0)).objs.size
    have Y:I=s.heap.objs.size+1:=B7 _ _
    let f:Array (Int×Value):=if cC w=true then pickOrder (w.params.setOrder S ep) es else es
    have po:f.toList.Perm es.toList:=by
      show(if cC w=true then pickOrder (w.params.setOrder S ep) es else es).toList.Perm _;split
      . exact vZ _ _
      . exact List.Perm.refl _
    have os:f.size=es.size:=by rw[<- Bx,po.length_eq,Bx]
    let St:Nat->Heap->Prop:=λi h=>∃X:Nat,h.get? I=some (dI (rawInt X) i (.ref S) es.size ep)/\Wo w h S es ep t/\(cC w=false->SetTable.below t.place X=i)
    let P:Nat->Value->Prop:=λi v=>∃e,f.toList[i]?=some e/\v=e.2
    have ad:S≠I:=by rw[Y];exact A6 (Nat.lt_succ_of_lt u)
    have pl:cC w=false->(t.plain=true∨es.size<=1):=λe=>by rw[e]at hm;simpa using hm
    have nx:∀(i:Nat)(s':Shared)(Q:Option Value->Shared->Prop)(E:C2),i<es.size->St i s'.heap->(∀v h',P i v->St (i+1) h'->(∀b o,b≠I->s'.heap.get? b=some o->h'.get? b=some o)->Q (some v) { s' with heap:=h' })->wpAny (model prog w) A.in1 (pyNext (.ref I)) Q E s':=λi s' Q E hi j U=>by
      obtain⟨X,C,m,J⟩:=j;cases y:cC w with
      |true=>have eo:f=pickOrder (w.params.setOrder S ep) es:=Ct y;have ex:f[i]?=some f[i]:=Array.getElem?_eq_getElem ⋯;refine Gv (x:=f[i].2) (nx:=X) m C (λ{Q' E'} z=>yH m y (by rw[<- eo,ex];exact z)) λh' k1 k2=>U _ h' ⟨f[i],by rw[Array.getElem?_toList];exact ex,rfl⟩ ⟨X,k2,m.keep λo e=>k1 S o ad e,λz=>by rw[y]at z;cases z⟩ k1
      |false =>
        have eo:f=es:=Cs (by rw[y];simp);have ex:es[i]?=some es[i]:=Array.getElem?_eq_getElem hi;have lp:i<t.place.size:=by rw[W.size];exact hi
        have ej:t.place[i]?=some t.place[i]:=Array.getElem?_eq_getElem lp;refine Gv (x:=es[i].2) (nx:=t.place[i]+1) m C (λ{Q' E'} z=>xq m y (pl y) (J y) (by rw[ex,ej];exact z)) λh' k1 k2=>U _ h' ⟨es[i],by rw[eo,Array.getElem?_toList];exact ex,rfl⟩ ⟨_,k2,m.keep λo e=>k1 S o ad e,λ_=>Kg (rs (pl y)) ej⟩ k1
    have en:∀(s':Shared)(Q:Option Value->Shared->Prop)(E:C2),St es.size s'.heap->(∀h',(∀b o,b≠I->s'.heap.get? b=some o->h'.get? b=some o)->Q none { s' with heap:=h' })->wpAny (model prog w) A.in1 (pyNext (.ref I)) Q E s':=λs' Q E j U=>by
      obtain⟨X,C,m,J⟩:=j;cases y:cC w with
      |true=>have eo:f=pickOrder (w.params.setOrder S ep) es:=Ct y;refine Gw (by simpa using hh) m C (λ{Q' E'} z=>yH m y (by rw[<- eo,Array.getElem?_eq_none ⋯];exact z)) U
      |false=>refine Gw (by simpa using hh) m C (λ{Q' E'} z=>xq m y (pl y) (J y) (by rw[Array.getElem?_eq_none (Ae _)];exact z)) U
    refine UX (R:=λr s'=>match r with
      |.ok (.ret v)=>wpAny (model prog w) A (match v with
        |.ref a=>do
          let o <- load a
          match o.data with
            |.seq xs _=>pure xs.toList
            |_=>unsupported "internal:collect"
        |_=>unsupported "internal:collect") R E s'
      |.ok _=>False
      |.error e=>E e s') (I:=I) (s:={ s with heap:=(s.heap.push (d8 #[] 0)).push (dI (rawInt 0) 0 (.ref S) es.size ep) }) (c:=0) ⟨o,Ad _ (Ad _ ho),O.1⟩ (Ad _ aa) λh2 c2 k2 l2=>?_
    refine Ut (n:=es.size) (St:=St) (P:=P) nx en (λi h h' j k=>?_) (by rw[Y];exact A6 (Cj _)) (Nat.le_of_lt (Av (show es.size<scanBound by lia) (by decide))) _ es.size 0 _ #[] c2 rfl (A5 _) ⟨0,k2 I _ (by rw[Y];exact Cn (Cj _)) (As _ rfl),((W1.keep λo e=>Ad _ e).keep λo e=>k2 S o (A6 u) e),λz=>Kh (rs (pl z))⟩ l2 (ItemsOf.nil P) λh3 acc c3 k3 l3 it=>?_
    . obtain⟨X,C,m,J⟩:=j
      exact⟨X,k I _ (by rw[Y];exact Cn (Cj _)) C,m.keep λo e=>k S o (A6 u) e,J⟩
    . show wpAny _ A (load s.heap.objs.size >>= _) _ _ _
      refine Cr (wpAny_load l3 (Cu ?_));obtain⟨ms,q1,q2⟩:=xc ae pm po it (λi v z=>z);exact h h3 s.drawn acc.toList ms q1 q2 λb L e=>k3 b L (A6 (Ao e)) (by rw[Y];exact A6 (Nat.lt_succ_of_lt (Ao e))) (k2 b L (A6 (Ao e)) (Ad _ (Ad _ e)))
  . -- in a drawn order
    let T:=(s.heap.push (d8 #[] 0)).objs.size
    have eT:T=s.heap.objs.size+1:=B7 _ _
    let I:=T+1
    let tp:Obj:={ cls:=.type "tuple", data:=.seq (ps.map λ(k:Nat)=>rawInt k).toArray }
    have Y:((s.heap.push (d8 #[] 0)).push tp).objs.size=I:=B7 _ _;have LT:s.heap.objs.size≠T:=by rw[eT];exact A6 (Cj _)
    have LI:s.heap.objs.size≠I:=by show _≠T+1;rw[eT];exact A6 (Nat.lt_succ_of_lt (Cj _))
    have TI:T≠I:=A6 (Cj _);have SI:S≠I:=by show _≠T+1;rw[eT];exact A6 (Nat.lt_succ_of_lt (Nat.lt_succ_of_lt u))
    let f:List (Int×Value):=ps.map λp=>es.getD p (0,.none)
    have po:f.Perm es.toList:=by
      refine(pp.map _).trans (List.Perm.of_eq ?_);refine List.ext_getElem? λi=>?_;rw[Bh];by_cases q:i<es.size
      . rw[List.getElem?_range q,Array.getElem?_toList,Array.getElem?_eq_getElem q]
        simp[Array.getD,q]
      . rw[Cg (by simpa using Nat.le_of_not_lt q),Cg (by simpa using Nat.le_of_not_lt q)];rfl
    have Tw:ps.length=es.size:=by rw[pp.length_eq,List.length_range]
    let St:Nat->Heap->Prop:=λi h=>h.get? I=some (dI (.ref T) i (.ref S) es.size ep)/\Wo w h S es ep t/\h.get? T=some tp
    let P:Nat->Value->Prop:=λi v=>∃e,f[i]?=some e/\v=e.2
    have nx:∀(i:Nat)(s':Shared)(Q:Option Value->Shared->Prop)(E:C2),i<es.size->St i s'.heap->(∀v h',P i v->St (i+1) h'->(∀b o,b≠I->s'.heap.get? b=some o->h'.get? b=some o)->Q (some v) { s' with heap:=h' })->wpAny (model prog w) A.in1 (pyNext (.ref I)) Q E s':=λi s' Q E hi j U=>by
      obtain⟨C,m,J⟩:=j;have li:i<ps.length:=⋯
      have tV:ps[i]?=some ps[i]:=Ab li;have lp:ps[i]<es.size:=List.mem_range.mp (pp.mem_iff.mp (Bq li));have ee:es[ps[i]]?=some es[ps[i]]:=Array.getElem?_eq_getElem lp;refine Ss m C J rfl tV ee λh' k1 k2=>U _ h' ⟨es[ps[i]],?_,rfl⟩ ⟨k2,m.keep λo e=>k1 S o SI e,k1 T _ TI J⟩ k1;show(ps.map _)[i]?=_;rw[Bh,tV];simp[Array.getD,lp]
    have en:∀(s':Shared)(Q:Option Value->Shared->Prop)(E:C2),St es.size s'.heap->(∀h',(∀b o,b≠I->s'.heap.get? b=some o->h'.get? b=some o)->Q none { s' with heap:=h' })->wpAny (model prog w) A.in1 (pyNext (.ref I)) Q E s':=λs' Q E j U=>by obtain⟨C,m,J⟩:=j;exact Sq (by simpa using hh) m C J rfl (Cg ⋯) U
    have Z:∀b L,s.heap.get? b=some L->(((s.heap.push (d8 #[] 0)).push tp).push (dI (.ref T) 0 (.ref S) es.size ep)).get? b=some L:=λb L e=>Ad _ (Ad _ (Ad _ e));refine UX (R:=λr s'=>match r with
      |.ok (.ret v)=>wpAny (model prog w) A (match v with
        |.ref a=>do
          let o <- load a
          match o.data with
            |.seq xs _=>pure xs.toList
            |_=>unsupported "internal:collect"
        |_=>unsupported "internal:collect") R E s'
      |.ok _=>False
      |.error e=>E e s') (I:=I) (s:={ s with heap:=((s.heap.push (d8 #[] 0)).push tp).push (dI (.ref T) 0 (.ref S) es.size ep),drawn:=d }) (c:=0) ⟨o,Z S o ho,O.1⟩ (Ad _ (Ad _ aa)) λh2 c2 k2 l2=>?_
    have gI:(((s.heap.push (d8 #[] 0)).push tp).push (dI (.ref T) 0 (.ref S) es.size ep)).get? I=some (dI (.ref T) 0 (.ref S) es.size ep):=by rw[<- Y];exact As _ rfl
    have gT:(((s.heap.push (d8 #[] 0)).push tp).push (dI (.ref T) 0 (.ref S) es.size ep)).get? T=some tp:=Ad _ (As _ rfl);refine Ut (n:=es.size) (St:=St) (P:=P) nx en (λi h h' j k=>?_) LI (Nat.le_of_lt (Av (show es.size<scanBound by lia) (by decide))) _ es.size 0 _ #[] c2 rfl (A5 _) ⟨k2 I _ (Ne.symm LI) gI,(W.keep λo e=>Z S o e).keep λo e=>k2 S o (A6 u) e,k2 T _ (Ne.symm LT) gT⟩ l2 (ItemsOf.nil P) λh3 acc c3 k3 l3 it=>?_
    . obtain⟨C,m,J⟩:=j
      exact⟨k I _ (Ne.symm LI) C,m.keep λo e=>k S o (A6 u) e,k T _ (Ne.symm LT) J⟩
    . show wpAny _ A (load s.heap.objs.size >>= _) _ _ _
      refine Cr (wpAny_load l3 (Cu ?_));obtain⟨ms,q1,q2⟩:=xc ae pm po it (λi v z=>z);have ag:∀{b:Nat},b<s.heap.objs.size->b≠I:=λ{b} z=>by show b≠T+1;rw[eT];exact A6 (Nat.lt_succ_of_lt (Nat.lt_succ_of_lt z))
      exact h h3 d acc.toList ms q1 q2 λb L e=>k3 b L (A6 (Ao e)) (ag (Ao e)) (k2 b L (A6 (Ao e)) (Z b L e))
end
section
variable{prog:Program}{w:World}{A:Around}{E:C2}{s:Shared}
theorem cX:∀{vs:List Value}{ns:List Int},IntsAre vs ns->vs.length=ns.length
 |_,_,.nil=>rfl
 |_,_,.cons _ _ r=>by rw[A0,A0,cX r]
theorem dZ{S:Addr}{ns:List Int}{Q:C2}(r:A.handled=none)(g:Gs prog w (!cC w) s.heap S ns)(hz:ns.length<=sizeLine)
  (h:∀(i h':Heap) (d:Drawn) (f:List Value) (a:List Int) (c:Nat),(∀b o,s.heap.get? b=some o->i.get? b=some o)->(∀b o,i.get? b=some o->h'.get? b=some o)->h'.get? i.objs.size=some (seqObj "list" f.toArray c)->IntsAre f a->a.Perm ns->a.Pairwise (· <= ·)->Q (.ref i.objs.size) { s with heap:=h',drawn:=d }) :
  wpAny (model prog w) A (call (.builtin "sorted") [.ref S]) Q E s:=by
 refine Calls.call_function_entry kind_sorted plain_sorted entry_sorted (args_sorted1 _) ?_;unfold Builtin.«sorted»;refine Cr (m:=checkCount "sorted" 1 1 _) (Cu (Cr (UW (by simpa using r) g λi d vs x hI l k1=>?_)));have j:vs.length<=sizeLine:=by rw[cX hI,l.length_eq];exact hz
 refine Cr (wpAny_newList ?_ j);have g:(i.push (seqObj "list" vs.toArray 0)).get? i.objs.size=some (seqObj "list" vs.toArray 0):=As _ rfl;refine Cr (wpAny_holding (wpAny_call_entry slot_list_sort ⟨_,g,rfl⟩ entry_list_sort (yO g hI j λq f a c k2 n t u v=>⟨_,rfl,?_⟩) (args_list_sort _)));refine Cu ⟨_,rfl,h i q d f a c k1 (λb o e=>k2 b o (A6 (Ao e)) (Ad _ e)) n t (u.trans l) v⟩
end
end TS
namespace TV
open PySem PyProof PyProof.Rows
theorem xt:Manifest.owners.lookup (String.ofList ['d','e','s','r','e','v','e','r'].reverse)=some Manifest.sig_reversed:=by kernel_rfl
theorem slot_next:Slot "reversed" "__next__" "reversed.__next__" :=
 .of (owner := "reversed") (n := "__next__") (by rw[typeLookup_type,builtinLookup_eq_fast];kernel_rfl) (by decide +kernel) (by decide +kernel) (by decide +kernel)
  (by first|exact .inl (by decide +kernel)|exact .inr (by decide +kernel)) (by rw[isSubtype_type];kernel_rfl)
theorem jV:entryFor table "reversed.__next__" = some Builtin.«reversed.__next__»:=entryFor_of_tree (by kernel_rfl)
theorem yn(a:Value):argsOk "reversed.__next__" ⟨[a],[]⟩:=by unfold argsOk;rw[signature?_of (id := "reversed.__next__") (n:=['_','_','t','x','e','n','_','_']) (o:=['d','e','s','r','e','v','e','r']) (by kernel_rfl) xt];kernel_rfl
theorem yN:Slot "reversed" "__iter__" "reversed.__iter__" :=
 .of (owner := "reversed") (n := "__iter__") (by rw[typeLookup_type,builtinLookup_eq_fast];kernel_rfl) (by decide +kernel) (by decide +kernel) (by decide +kernel)
  (by first|exact .inl (by decide +kernel)|exact .inr (by decide +kernel)) (by rw[isSubtype_type];kernel_rfl)
theorem vd(a:Value):argsOk "reversed.__iter__" ⟨[a],[]⟩:=by unfold argsOk;rw[signature?_of (id := "reversed.__iter__") (n:=['_','_','r','e','t','i','_','_']) (o:=['d','e','s','r','e','v','e','r']) (by kernel_rfl) xt];kernel_rfl
theorem Ko:entryFor table "reversed.__iter__" = some Builtin.«dict_keyiterator.__iter__» :=
 entryFor_alias (id' := "dict_keyiterator.__iter__") (by kernel_rfl) (by first|rfl|decide +kernel|(unfold String.splitOn;simp +decide [String.splitOnAux])) (by decide +kernel) (by kernel_rfl)
theorem cJ:Slot "reversed" "__length_hint__" "reversed.__length_hint__" :=
 .of (owner := "reversed") (n := "__length_hint__") (by rw[typeLookup_type,builtinLookup_eq_fast];kernel_rfl) (by decide +kernel) (by decide +kernel) (by decide +kernel)
  (by first|exact .inl (by decide +kernel)|exact .inr (by decide +kernel)) (by rw[isSubtype_type];kernel_rfl)
theorem Kn:entryFor table "reversed.__length_hint__" = some Builtin.«reversed.__length_hint__»:=entryFor_of_tree (by kernel_rfl)
theorem vc(a:Value):argsOk "reversed.__length_hint__" ⟨[a],[]⟩:=by unfold argsOk;rw[signature?_of (id := "reversed.__length_hint__") (n:=['_','_','t','n','i','h','_','h','t','g','n','e','l','_','_']) (o:=['d','e','s','r','e','v','e','r']) (by kernel_rfl) xt];kernel_rfl
theorem Oj:typeLookup (.type "reversed") "__len__" = pure none:=by rw[typeLookup_type,builtinLookup_eq_fast];kernel_rfl
theorem KQ:typeLookup (.type "tuple") "__reversed__" = pure none:=by rw[typeLookup_type,builtinLookup_eq_fast];kernel_rfl
theorem xR:isSubtype (.type "tuple") (.type "dict")=pure false:=by rw[isSubtype_type];kernel_rfl
theorem uq:Slot "reversed" "__init__" "object.__init__" :=
 .of (owner := "object") (n := "__init__") (by rw[typeLookup_type,builtinLookup_eq_fast];kernel_rfl) (by decide +kernel) (by decide +kernel) (by decide +kernel)
  (by first|exact .inl (by decide +kernel)|exact .inr (by decide +kernel)) (by rw[isSubtype_type];kernel_rfl)
theorem cF:TypeCalled "reversed" "reversed.__new__" "object.__init__" :=
 ⟨by decide +kernel,by decide +kernel,⟨_,_,F.mro_reversed⟩,F.made_reversed,by decide +kernel,by rw[isSubtype_type];kernel_rfl,uq⟩
def sH(l:Addr)(i:Int):Obj:={ cls:=.type "reversed", data:=.fields #[.ref l,rawInt i] }
section
variable{prog:Program}{w:World}{A:Around}{E:C2}{s:Shared}
theorem uS{l:Addr}{items:Array Value}{Q₁:C2}(d:IsTup s.heap l items)(hz:(items.size:Int)<2 ^ 63)
  (h:∀tk,Q₁ (.ref s.heap.objs.size) { s with heap:=s.heap.push (sH l ((items.size:Int)-1)),toks:=tk }) :
  codeAny (model prog w) A (.call (.builtin "reversed.__new__") ⟨[.type "reversed", .ref l],[]⟩) (wants Q₁ E) s:=by
 refine codeAny_of_tree ?_;show wpAny _ A.in1 (do checkBuiltinCall "reversed.__new__" ⟨[.type "reversed", .ref l],[]⟩;again (.builtin "reversed.__new__" ⟨[.type "reversed", .ref l],[]⟩)) _ _ s;refine Cr (wpAny_of_eq (F.newCall_reversed_1 _) (Cu ⟨plainId_quiet F.plain_reversed_new _,codeAny_builtin F.entry_reversed_new ?_⟩));rw[Around.under_plainId F.plain_reversed_new _];unfold Builtin.«reversed.__new__»;refine Cr (wpAny_of_eq (newClass_reversed _) ?_)
 try dsimp only
 refine Cr (wpAny_of_eq (a:=()) (by first|rfl|kernel_rfl) ?_);refine Cr (wpAny_of_eq (a:=()) (by first|rfl|kernel_rfl) ?_)
 try dsimp only
 refine Cr (wpAny_specialOf d.typeIs KQ ?_)
 try dsimp only
 refine Cr ?_
 wp_delta
 refine Cr (wpAny_isInstance (T := "tuple") (b:=false) d.typeIs xR ?_);refine wpAny_ite_split (λc=>absurd c (by decide)) (λ_=>?_);refine Cr (wpAny_specialOf d.typeIs PyProof.Rows.slot_tuple_getitem.lookup ?_);dsimp only;refine wpAny_ite_split (λ_=>?_) (λc=>absurd (by decide +kernel) c);refine Cu ?_;refine wpAny_ite_split (λc=>absurd c (by decide)) (λ_=>?_);refine Cr (len_tuple d hz ?_);refine Cr (Cu ?_);dsimp only;unfold Builtin.SmallTypes.newRecord;dsimp only;refine Cr (wpAny_newObj_type ?_);exact Cu (h _)
end
def cG(h:Heap)(a l:Addr)(i:Int):Prop:=∃o,h.get? a=some o/\o.cls=.type "reversed" /\ o.data=.fields #[.ref l,rawInt i]
def cG.typeIs{s:Shared}{a l:Addr}{i:Int}(x:cG s.heap a l i):s.TypeIs (.ref a) "reversed" := let ⟨o,c,b,_⟩:=x;⟨o,c,b⟩
def cG.at{h h':Heap}{a l:Addr}{i:Int}(x:cG h a l i)(e:∀o,h.get? a=some o->h'.get? a=some o):cG h' a l i:=let ⟨o,b,r⟩:=x;⟨o,e _ b,r⟩
def IsTup.at{h h':Heap}{a:Addr}{items:Array Value}(x:IsTup h a items)(e:∀o,h.get? a=some o->h'.get? a=some o):IsTup h' a items:=let ⟨o,b,r⟩:=x;⟨o,e _ b,r⟩
section
variable{prog:Program}{w:World}{A:Around}{E:C2}{s:Shared}
theorem vQ{c l:Addr}{i:Nat}{items:Array Value}{x:Value}{Q:Option Value->Shared->Prop}(b:cG s.heap c l (i:Int))(e:IsTup s.heap l items)(hx:items[i]?=some x)(hz:(items.size:Int)<2 ^ 63)
  (hQ:∀h' tk,cG h' c l ((i:Int)-1)->Heap.SameBut c s.heap h'->Q (some x) { s with heap:=h',toks:=tk }):wpAny (model prog w) A (pyNext (.ref c)) Q E s:=by
 obtain⟨o,d,f,hd⟩:=id b;have h:i<items.size:=(Array.getElem?_eq_some_iff.mp hx).1;unfold pyNext;refine Cr (wpAny_attempt (wpAny_callSpecial?_slot (name:=Str.ofString "__next__") b.typeIs slot_next
  (wpAny_call_entry slot_next b.typeIs jV ?_ (yn _))))
 unfold Builtin.«reversed.__next__»;refine Cr (wpAny_of_eq (a:=(Value.ref c,[])) rfl ?_)
 try dsimp only
 refine Cr (wpAny_field d hd (x:=.ref l) rfl ?_);refine Cr (wpAny_field d hd (x:=rawInt (i:Int)) rfl ?_);show wpAny _ _ (if (i:Int)<0 then _ else _) _ _ s;rw[Cs ⋯];refine Cr (wpAny_specialOf e.typeIs PyProof.Rows.slot_tuple_getitem.lookup ?_);rw[Cs (by simp)];refine Cr (wpAny_mkInt ?_);refine Cr (wpAny_attempt (getItem_tuple (j:=i) (x:=x) e ⋯ ⋯ (seqIndex_of ⋯ ⋯) hx ?_));dsimp only;refine Cr (wpAny_field d hd (x:=rawInt (i:Int)) rfl ?_);show wpAny _ _ (setField (.ref c) 1 (rawInt ((i:Int)-1)) >>= _) _ _ _;refine Cr (wpAny_setField d hd (by simp) ?_);refine Cu ⟨x,rfl,Cu (hQ _ _ ?_ (Heap.SameBut.update ..))⟩;exact⟨_,Heap.get?_update_self _ d (Obj.isFreed_of_fields (Obj.data_mapFields hd _)),(Obj.cls_mapFields ..).trans f,by rw[Obj.data_mapFields hd];simp⟩
theorem kq{f l:Addr}{Q:Option Value->Shared->Prop}(i:A.handled=none)(c:cG s.heap f l (-1))
  (hQ:∀h',Heap.ExtBut f s.heap h'->Q none { s with heap:=h' }):wpAny (model prog w) A (pyNext (.ref f)) Q E s:=by
 obtain⟨o,d,n,hd⟩:=id c;unfold pyNext;refine Cr (wpAny_attempt (wpAny_callSpecial?_slot (name:=Str.ofString "__next__") c.typeIs slot_next
  (wpAny_call_entry slot_next c.typeIs jV ?_ (yn _))))
 unfold Builtin.«reversed.__next__»;refine Cr (wpAny_of_eq (a:=(Value.ref f,[])) rfl ?_)
 try dsimp only
 refine Cr (wpAny_field d hd (x:=.ref l) rfl ?_);refine Cr (wpAny_field d hd (x:=rawInt (-1)) rfl ?_);show wpAny _ _ (if (-1:Int)<0 then _ else _) _ _ s;rw[Ct (by decide)];refine Cr (wpAny_rule ?_);refine Cr ?_
 wp_delta
 refine Cr (wpAny_setField d hd (by simp) ?_);have j:=Heap.get?_update_self (Obj.mapFields (·.setIfInBounds 1 (rawInt (-1)))) d (Obj.isFreed_of_fields (Obj.data_mapFields hd _));refine wpAny_setField j (Obj.data_mapFields hd _) (by simp) ?_
 first
 |show wpAny _ _ (newExc (.type "StopIteration") [] >>= _) _ _ _
 | (refine Cr ?_;show wpAny _ _ (newExc (.type "StopIteration") [] >>= _) _ _ _)
 refine Cr ?_;simp only[newExc,newTuple];refine Cr (wpAny_newObj_type ?_ (by size_fits));refine Cr (m:=firstArgMember _ _) (wpAny_of_eq (a:=Value.none) (by first|rfl|(simp only[firstArgMember];rfl)) ?_);refine wpAny_newObj_type ?_ (by size_fits);simp only[raiseNew];refine Cr (wpAny_handled ?_)
 first|rw[show A.in1.handled=none from i]|rw[i]
 refine Cr (Cu (wpAny_throw ?_));refine Cr (wpAny_isInstance (T := "StopIteration") (b:=true) ⟨_,As _ rfl,rfl⟩ isSubtype_stop ?_);refine Cu (hQ _ λb q h e=>?_);refine Ad _ (Ad _ ?_);exact(Heap.get?_update_other _ _ (Ne.symm h)).trans ((Heap.get?_update_other _ _ (Ne.symm h)).trans e)
theorem yD{b l:Addr}{i:Int}{Q:C2}(a:cG s.heap b l i)(h:Q (.ref b) s):wpAny (model prog w) A (pyIter (.ref b)) Q E s:=by refine wpAny_pyIter_slot a.typeIs yN (wpAny_call_entry yN a.typeIs Ko ?_ (vd _));show wpAny _ _ (ret (.ref b)) _ _ s;exact Cu ⟨_,rfl, "reversed", _,a.typeIs,slot_next.lookup,h⟩
end
theorem Lr{prog:Program}{w:World}{A:Around}(u:A.handled=none)(I l:Addr)(q:l≠I)(items:Array Value)(hz:(items.size:Int)<2 ^ 63) :
  Walks prog w A I [I,l] [I] items.size (λi v=>items[items.size-1-i]?=some v) (λi h=>i<=items.size/\cG h I l ((items.size:Int)-1-(i:Int))/\IsTup h l items) where
 sub:=λb d=>by simp at d;simp[d]
 frame:=λ_ _ _ x r=>⟨x.1,x.2.1.at λo e=>r I (by simp) o e,TV.IsTup.at x.2.2 λo e=>r l (by simp) o e⟩
 item:=λi s Q E hi x j=>by
  have e:(items.size:Int)-1-(i:Int)=((items.size-1-i:Nat):Int):=⋯
  have a:=x.2.1;rw[e]at a;have hx:items[items.size-1-i]?=some (items[items.size-1-i]'⋯):=Array.getElem?_eq_getElem ⋯;refine vQ a x.2.2 hx hz λh' tk c m=>?_;have t:((items.size-1-i:Nat):Int)-1=(items.size:Int)-1-((i+1:Nat):Int):=⋯
  rw[t]at c;exact j _ h' tk hx ⟨hi,c,TV.IsTup.at x.2.2 λo f=>(m.2 l q).trans f⟩ λb o d f=>m.extBut b o (λh=>d (by simp[h])) f
 done:=λs Q E x j=>by
  have e:(items.size:Int)-1-(items.size:Int) = -1:=⋯
  have a:=x.2.1;rw[e]at a;exact kq u a λh' n=>j h' s.toks λb o d f=>n b o (λh=>d (by simp[h])) f
 self:=λ_ _ _ _ x j=>yD x.2.1 j
section
variable{prog:Program}{w:World}{A:Around}{E:C2}{s:Shared}
theorem Rg{I l:Addr}{items:Array Value}{Q:Bool->Shared->Prop}(d:cG s.heap I l ((items.size:Int)-1))(r:IsTup s.heap l items)(hz:items.size<=2 ^ 24)
  (h:∀b tk,Q b { s with toks:=tk }):wpAny (model prog w) A (Builtin.List.listLengthHint (.ref I)) Q E s:=by
 obtain⟨o,n,v,hd⟩:=id d;unfold Builtin.List.listLengthHint;refine Cr (wpAny_specialOf d.typeIs Oj ?_);show wpAny _ A (specialOf (Value.ref I) (Str.ofString "__length_hint__") >>= _) _ _ _;refine Cr (wpAny_specialOf d.typeIs cJ.lookup ?_);generalize e:("reversed.__length_hint__" : String)=j
 wp_delta
 rw[show splitId j=some ("reversed", "__length_hint__")from by subst e;decide +kernel];subst e;refine Cr (wpAny_isInstance (T := "reversed") (b:=true) d.typeIs (by rw[isSubtype_type];kernel_rfl) ?_);refine wpAny_ite_split (λc=>absurd c (by decide)) (λ_=>?_);refine wpAny_ite_split (λc=>absurd c (by decide +kernel)) (λ_=>?_);refine Cr (wpAny_rule ?_);refine Cr (wpAny_of_eq (cJ.bind _) ?_);dsimp only;refine Cr (wpAny_attempt (wpAny_call_entry cJ d.typeIs Kn ?_ (vc _)));unfold Builtin.«reversed.__length_hint__»;refine Cr (wpAny_of_eq (a:=Value.ref I) rfl ?_);refine Cr (wpAny_field n hd (x:=.ref l) rfl ?_);refine wpAny_ite_split (λc=>absurd (show false=true from c) (by decide)) (λ_=>?_);refine Cr (len_tuple r ⋯ ?_);refine Cr (m:=asInt? _) (Cu ?_);dsimp only;refine Cr (wpAny_field n hd (x:=rawInt ((items.size:Int)-1)) rfl ?_);dsimp only[rawInt];refine wpAny_ite_split (λc=>absurd c ⋯) (λ_=>?_);refine Cr (wpAny_mkInt (Cu ⟨_,rfl,?_⟩));dsimp only;refine Cr (m:=asInt? _) (Cu ?_);dsimp only;have q:(items.size:Int)-1+1=(items.size:Int):=⋯
 rw[q];generalize y:(items.size:Int)=m;have t:0<=m:=⋯
 have u:m<=2 ^ 24:=⋯
 have i:Builtin.List.listTooLong m.toNat=false:=by simp[Builtin.List.listTooLong,sizeLine];lia
 have f:Builtin.List.listFitsIndex m=true:=by unfold Builtin.List.listFitsIndex;simp;lia
 refine wpAny_ite_split (λc=>absurd c (by rw[f];decide)) (λ_=>?_);refine wpAny_ite_split (λc=>absurd c ⋯) (λ_=>?_);exact wpAny_ite_split (λc=>absurd c (by rw[i];decide)) (λ_=>Cu (h _ _))
theorem KH{I l:Addr}{items:Array Value}{Q:List Value->Shared->Prop}(Y:A.handled=none)(q:cG s.heap I l ((items.size:Int)-1))(O:IsTup s.heap l items)(hz:items.size<=2 ^ 24)(L:l≠I)
    (hQ:∀(h':Heap)(tk:Nat)(acc:Array Value),(∀b o',b≠I->s.heap.get? b=some o'->h'.get? b=some o')->ItemsOf (λi v=>items[items.size-1-i]?=some v) acc items.size->Q acc.toList { s with heap:=h',toks:=tk }) :
    wpAny (model prog w) A (collect (.ref I)) Q E s:=by
  have W:=(Lr (prog:=prog) (w:=w) (A:=A.in1) Y I l L items ⋯).toS;have z:I<s.heap.objs.size:=Ao q.choose_spec.1;have u:l<s.heap.objs.size:=O.lt;have j:s.heap.objs.size≠I:=Cn z;have J:s.heap.objs.size∉[I,l]:=λy=>by
    rcases Ba.mp y with e|e
    . exact j e
    . exact Cn u (Aq.mp e)
  unfold collect;refine Cr (wpAny_runValue (codeAny_builtin F.entry_proto_collect ?_));rw[Around.under_plainId F.plain_proto_collect _];show wpAny _ A.in1 (newList [] >>= λl=>again (.builtin "list.__iadd__" ⟨[l,.ref I],[]⟩)) _ _ s;refine Cr (wpAny_newObj_type ?_);refine Cu ⟨plainId_quiet F.plain_list_iadd _,codeAny_builtin F.entry_list_iadd ?_⟩;rw[Around.under_plainId F.plain_list_iadd _];show wpAny _ A.in1 (Builtin.List.listExtendWith (.ref s.heap.objs.size) (.ref I) (.ref s.heap.objs.size)) _ _ _;have d:cG (s.heap.push { cls:=.type "list", data:=.seq ([]:List Value).toArray }) I l ((items.size:Int)-1):=q.at λo e=>Ad _ e;have t:IsTup (s.heap.push { cls:=.type "list", data:=.seq ([]:List Value).toArray }) l items:=O.push _;have key:∀(h:Heap) (c₁ tk:Nat),(∀b o,b≠s.heap.objs.size->(s.heap.push { cls:=.type "list", data:=.seq ([]:List Value).toArray }).get? b=some o->h.get? b=some o) ->
      h.get? s.heap.objs.size=some { cls:=.type "list", data:=.seq #[] c₁ }->codeAny (model prog w) A (.builtin "list.extend.loop" ⟨[.ref s.heap.objs.size,.ref I,.ref s.heap.objs.size],[]⟩) (λr s'=>match r with
      |.ok (.ret v)=>wpAny (model prog w) A (match v with
        |.ref a=>do
          let o <- load a
          match o.data with
            |.seq xs _=>pure xs.toList
            |_=>unsupported "internal:collect"
        |_=>unsupported "internal:collect") Q E s'
      |.ok _=>False
      |.error e=>E e s') { s with heap:=h,toks:=tk }:=by
    intro h c₁ tk hk hS₁;refine codeAny_extend_loopS W (by rw[sizeLine_eq];lia) _ J _ items.size 0 _ #[] c₁ rfl (A5 _) ⟨A5 _,by simpa using d.at λo e=>hk I o (Ne.symm j) e,TV.IsTup.at t λo e=>hk l o (A6 u) e⟩ hS₁ (ItemsOf.nil _) λs' m Z y C n=>?_;rw[Moved.eq_with y];show wpAny _ A (load s.heap.objs.size >>= _) _ _ _;refine Cr (wpAny_load C (Cu ?_));refine hQ s'.heap s'.toks m (λb o x e=>y.heap b o (λf=>?_) (hk b o (A6 (Ao e)) (Ad _ e))) n;rcases Ba.mp f with P|f
    . exact A6 (Ao e) P
    . exact x (Aq.mp f)
  have hS₁:(s.heap.push { cls:=.type "list", data:=.seq ([]:List Value).toArray }).get? s.heap.objs.size=some { cls:=.type "list", data:=.seq #[] 0 }:=As _ rfl;unfold Builtin.List.listExtendWith;refine Cr (wpAny_typeOf (T := "reversed") d.typeIs ?_);have R:Builtin.List.listSameRef (.ref s.heap.objs.size) (.ref I)=false:=by simp[Builtin.List.listSameRef,j]
  have U:(Value.type "reversed" == Value.type "list")=false:=by decide
  have X:(Value.type "reversed" == Value.type "tuple")=false:=by decide
  simp only[R,U,X,Bool.or_false,Aw,if_false];refine Cr (yD d ?_);refine Cr (wpAny_holding (Rg d t hz λb tk=>?_));refine wpAny_ite_split (λ_=>?_) (λ_=>Cu ⟨plainId_quiet F.plain_extend_loop _,key _ 0 _ (λb o _ e=>e) hS₁⟩);refine Cr (wpAny_rule ?_);refine Cr ?_;show wpAny _ _ (updateSeq s.heap.objs.size (·.push .none) >>= λ_=>updateSeq s.heap.objs.size (·.pop)) _ _ _;refine Cr (wpAny_updateSeq hS₁ rfl ?_);have hS₂:=Heap.get?_update_self (Obj.mapSeq (·.push Value.none)) hS₁ rfl;refine wpAny_updateSeq (hz:=by seq_fits) hS₂ rfl ?_;have hS₃:=Heap.get?_update_self (Obj.mapSeq (·.pop)) hS₂ rfl;refine Cu ⟨plainId_quiet F.plain_extend_loop _,key _ _ _ (λb o x e=>?_) hS₃⟩;exact(Heap.get?_update_other _ _ (Ne.symm x)).trans ((Heap.get?_update_other _ _ (Ne.symm x)).trans e)
theorem jK{Q₁:C2}{I l:Addr}{items:Array Value}(n:A.handled=none)(c:cG s.heap I l ((items.size:Int)-1))(o:IsTup s.heap l items)(hz:items.size<=2 ^ 24)(j:l≠I)
  (h:∀(h':Heap) (tk:Nat) (acc:Array Value),(∀b o',b≠I->s.heap.get? b=some o'->h'.get? b=some o')->ItemsOf (λi v=>items[items.size-1-i]?=some v) acc items.size->Q₁ (.ref h'.objs.size) { s with heap:=h'.push { cls:=.type "tuple", data:=.seq acc },toks:=tk }) :
  codeAny (model prog w) A (.call (.builtin "tuple.__new__") ⟨[.type "tuple", .ref I],[]⟩) (wants Q₁ E) s:=by
 refine codeAny_of_tree ?_;show wpAny _ A.in1 (do checkBuiltinCall "tuple.__new__" ⟨[.type "tuple", .ref I],[]⟩;again (.builtin "tuple.__new__" ⟨[.type "tuple", .ref I],[]⟩)) _ _ s;refine Cr (wpAny_of_eq (F.newCall_tuple_1 _) (Cu ⟨plainId_quiet F.plain_tuple_new _,codeAny_builtin F.entry_tuple_new ?_⟩));rw[Around.under_plainId F.plain_tuple_new _];have m:=sub_tuple_self;have f:=init_tuple_lookup;have r:=madeHere_tuple;have d:s.TypeIs (.ref I) "reversed" := c.typeIs
 wp_walk using wpAny_typeOf d,KH (A:=A.in1) n c o hz j
 intro h' tk acc q a;show wpAny _ _ (Builtin.Tuple.tupleExact acc.toList.toArray >>= λv=>ret v) _ _ _;unfold Builtin.Tuple.tupleExact;have sz:items.size<=sizeLine:=A9 hz (by decide);refine Cr (wpAny_newObj_type ?_ (by show acc.toList.toArray.size<=sizeLine;simp only[Array.toArray_toList];rw[a.1];exact sz));refine Cu ?_;have e:acc.toList.toArray=acc:=by simp
 rw[e];exact h h' tk acc q a
theorem cZ{Q:C2}{I l:Addr}{items:Array Value}(e:A.handled=none)(c:cG s.heap I l ((items.size:Int)-1))(f:IsTup s.heap l items)(hz:items.size<=2 ^ 24)(d:l≠I)
  (hQ:∀(h':Heap) (tk:Nat) (acc:Array Value),(∀b o',b≠I->s.heap.get? b=some o'->h'.get? b=some o')->ItemsOf (λi v=>items[items.size-1-i]?=some v) acc items.size->Q (.ref h'.objs.size) { s with heap:=h'.push { cls:=.type "tuple", data:=.seq acc },toks:=tk }) :
  wpAny (model prog w) A (call (.type "tuple") [.ref I]) Q E s:=by
 refine callType_codes (Q₁:=λobj s₁=>s₁.TypeIs obj "tuple" /\ Q obj s₁) F.called_tuple (F.typeCall_tuple_1 _) F.entry_object_init
  (jK (A:=A.in1) e c f hz d λh' tk acc j a=>⟨⟨_,As _ rfl,rfl⟩,hQ h' tk acc j a⟩) λobj s₁ h₁=>?_
 exact⟨h₁.1,F.args_object_init_2 obj _,object_init_meets F.called_tuple.init.lookup F.called_tuple.made (by decide) prog w A.in1 _ s₁ ⟨h₁.1,rfl,h₁.2⟩⟩
theorem fZ{Q:C2}{l:Addr}{items:Array Value}(a:IsTup s.heap l items)(hz:(items.size:Int)<2 ^ 63)
  (hQ:∀tk,Q (.ref s.heap.objs.size) { s with heap:=s.heap.push (sH l ((items.size:Int)-1)),toks:=tk }) :
  wpAny (model prog w) A (call (.type "reversed") [.ref l]) Q E s:=by
 refine callType_codes (Q₁:=λobj s₁=>s₁.TypeIs obj "reversed" /\ Q obj s₁) cF (F.typeCall_reversed_1 _) F.entry_object_init
  (uS (A:=A.in1) a hz λtk=>⟨⟨_,As _ rfl,rfl⟩,hQ tk⟩) λobj s₁ h₁=>?_
 exact⟨h₁.1,F.args_object_init_2 obj _,object_init_meets cF.init.lookup cF.made (by decide) prog w A.in1 _ s₁ ⟨h₁.1,rfl,h₁.2⟩⟩
end
end TV
namespace D
open PySem PySem.Spec PyProof.Rows L2
variable{X:Cx}
def cH(ns:List Int):List Int:=ns.mergeSort (λa b=>decide (a<=b))
def Z8(ns:List Int):(cH ns).Perm ns:=List.mergeSort_perm _ _
theorem KO(ns:List Int):(cH ns).Pairwise (· <= ·):=by have:=List.pairwise_mergeSort (le:=λa b:Int=>decide (a<=b)) (λa b c d e=>by simp at *;lia) (λa b=>by simp;lia) ns;exact this.imp λh=>by simpa using h
theorem Y9{ns c:List Int}(p:c.Perm ns)(h:c.Pairwise (· <= ·)):c=cH ns :=
 (p.trans (Z8 ns).symm).eq_of_pairwise (λa b _ _ d e=>Int.le_antisymm d e) h (KO ns)
theorem YF:∀{ns:List Int}{us:List Value},Vals (ns.map V.int) us->IntsAre us ns
 | [],_,.nil=>.nil
 |n::ns,_,.cons ⟨t,e⟩ r=>by subst e;exact .cons n t (YF r)
theorem Jt:∀{us:List Value}{ns:List Int},IntsAre us ns->Vals (ns.map V.int) us
 |_,_,.nil=>.nil
 |_,_,.cons n t r=>.cons ⟨t,rfl⟩ (Jt r)
theorem Gp:∀{us:List Value}{ns:List Int},us.length=ns.length->(∀(j:Nat)(u:Value)(n:Int),us[j]?=some u->ns[j]?=some n->∃t,u=.int n t)->IntsAre us ns
  | [],[],_,_=>.nil
  |u::us,n::ns,c,h=>by obtain⟨t,rfl⟩:=h 0 u n rfl rfl;exact .cons n t (Gp (by simpa using c) λj u n a b=>h (j+1) u n a b)
theorem GA:∀{kvs:List (Key×V)}{vs:List (Key×Value)},KV kvs vs->vs.map (·.1)=kvs.map (·.1)
 |_,_,.nil=>rfl
 |_,_,.cons a b=>by rw[A3,A3,GA b,a.1]
def uB(K:Aa)(H:Hp)(p:Addr)(ns:List Int):Prop:=SqL K H p (ns.map .int)∨∃kvs:List (Key×V),H p=some (.dK kvs)/\kvs.map (·.1)=ns.map .inl
theorem Ub(hc:X.calm=true):Z5 X (.builtin "sorted") (λxs H Q=>∃p ns,xs=[.ref p]/\uB X.K H p ns/\∀l,H l=none->Q (.ref l) (upd H l (.lst ((cH ns).map .int)))):=by
 intro Z s σ H xs us Q I r h;obtain⟨p,ns,rfl,d,q⟩:=h;have hh:X.A.handled=none:=I.ok.hd hc;obtain⟨u,rfl,rx⟩:=Ys r;cases rx;have hz:ns.length<=sizeLine:=by
  rcases d with d|⟨kvs,d,e⟩
  ·have:=(I.list d).choose_spec.2.2;simpa using this
  ·have a:=(jO I.hok d).1;have b:=congrArg List.length e;simp at b;lia
 refine TS.fC (ns:=ns) (λR T=>?_) λf h' tk L aa c k1 k2 g o1 o2 o3=>?_
 ·rcases d with d|⟨kvs,d,e⟩
  ·obtain⟨m,Y,pl,z⟩:=I.list d;have hI:=YF Y;have hl:m.length=ns.length:=by have:=Y.length;simpa using this.symm
   have R1:=T ((s.heap.push (seqObj "list" #[] 0)).update s.heap.objs.size (Obj.mapSeq (· ++ m.toArray))) s.toks m hI ⋯ λb o e=>by have C:b<s.heap.objs.size:=Ao e;rw[Heap.get?_update_ne _ _ _ _ (A6 C)];exact Ad _ e
   exact collect_list pl.isList R1 ⋯
  ·obtain⟨_,lo,vs,kv,hd⟩:=jO I.hok d;obtain⟨ep,y⟩:=hd.dictAt;have U:vs.map (·.1)=ns.map Sum.inl:=(GA kv).trans e;have F:vs.length=ns.length:=by have:=congrArg List.length U;simpa using this
   refine PySem.W.kdu_collect (PySem.W.kdl_dict (knd:=Zc X.prog X.w) (kvs:=vs) (ep:=ep) lo) hh y ⋯ λf tk acc k1 J=>T f tk acc.toList (Gp ?_ λj u n a b=>?_) ?_ k1
   ·rw[Bx,J.1,F]
   ·obtain⟨k,x,e1,e2⟩:=J.2 j u (by simpa using a);have:k=Sum.inl n:=by have P:=congrArg (λl=>l[j]?) U;simp[e1,b]at P;exact P
    subst this;rcases Zn (show qC (Sum.inl n) u=true from e2)with ⟨i,t,f,h2⟩|⟨_,_,f,_⟩
    ·cases f;exact⟨t,h2⟩
    ·cases f
   ·rw[Bx,J.1];lia
 ·obtain rfl:=Y9 o2 o3;have O:Inv X Z σ H { s with heap:=f,toks:=tk }:=I.kept k1;have v:(cH ns).length<=sizeLine:=by rw[(Z8 ns).length_eq];exact hz
  exact⟨.ref f.objs.size,_,O.laid (t':=tk) k2 (Ae _) (show ObjOk X.prog X.w _ h' _ (.lst ((cH ns).map .int))from⟨by simpa using v,L,c,Jt o1,g⟩),rfl,q _ (O.hok.fresh (Ae _))⟩
def Jz:List DV->Option (List Int)
 | []=>some []
 |.int n::r=>(Jz r).map (n :: ·)
 |_=>none
def qB:List (Key×DV)->Option (List Int)
 | []=>some []
 | (.inl n,_)::r=>(qB r).map (n :: ·)
 |_=>none
def XO{α:Type}:Option α->M α
 |some d=>pure d
 |none=>failure
theorem Jp{α:Type}{o:Option α}{d:α}{U a:Hs}(h:XO o U=some (d,a)):o=some d/\U=a:=by
 cases o with
 |none=>cases h
 |some x=>obtain⟨rfl,rfl⟩:=Qk h;exact⟨rfl,rfl⟩
def gJ:DV->M (List Int)
  |.lst ds=>XO (Jz ds)
  |.ref n=>do
    match <- Zi n with
    |.lst ds=>XO (Jz ds)
    |.aB kvs=>XO (qB kvs)
    |_=>failure
  |_=>failure
def xO:List DV->M DV:=kA λd=>do let ns <- gJ d;pure (.lst ((cH ns).map .int))
variable{K:Aa}{ρ:C9}{B:C8}{H:Hp}
theorem Jm:∀{ds:List DV}{ns:List Int}{xs:List V},Jz ds=some ns->aj K ρ B H ds xs->xs=ns.map .int
  | [],_,xs,h,r=>by cases h;exact r
  |.int n::ds,ns,xs,h,⟨x,q,e,b,c⟩=>by obtain⟨d,a,rfl⟩:=Bv.mp (show(Jz ds).map (n :: ·)=some ns from h);rw[e,b.bf,Jm a c];rfl
theorem YE:∀ns:List Int,aj K ρ B H (ns.map .int) (ns.map .int)
 | []=>rfl
 |n::ns=>⟨_,_,rfl,ZJ,YE ns⟩
theorem xg:∀{kvs:List (Key×DV)}{ns:List Int},qB kvs=some ns->kvs.map (·.1)=ns.map .inl
  | [],_,h=>by cases h;rfl
  | (.inl n,d)::kvs,ns,h=>by obtain⟨b,a,rfl⟩:=Bv.mp (show(qB kvs).map (n :: ·)=some ns from h);rw[A3,A3,xg a]
theorem Yw:∀(ns:List Int),Jz (ns.map .int)=some ns
  | []=>rfl
  |n::ns=>by show(Jz (ns.map .int)).map (n :: ·)=_;rw[Yw ns];rfl
theorem ze(y:X.calm=true):Z5 X (.builtin "sorted") (fK X.K xO):=by
  intro q s σ H xs us Q I r h;obtain⟨ρ,B,U,ds,d,z,W,rl,e,k⟩:=h;obtain⟨x,rfl,e⟩:=zD e;obtain⟨ns,hp1,b,t⟩:=bind_some e;obtain⟨rfl,rfl⟩:=Qk t;obtain⟨v,rfl,j⟩:=rl.cg;have key:U=hp1/\∃p,v=.ref p/\uB X.K H p ns:=by
    cases x with
    |lst O=>obtain⟨c,rfl⟩:=Jp b;obtain⟨a,ys,rfl,_,L,l⟩:=j.bV;exact⟨rfl,a,rfl,.inl (Jm c l▸L)⟩
    |ref n =>
      obtain⟨o,hp2,u,f⟩:=bind_some (show(Zi n >>= λo=>(match o with|.lst ds=>XO (Jz ds)|.aB kvs=>XO (qB kvs)|_=>failure:M (List Int))) U=some (ns,hp1)from b);obtain⟨m,rfl⟩:=Zl u;cases o with
      |lst O=>obtain⟨c,rfl⟩:=Jp f;obtain⟨a,rfl,_,ys,i,l1⟩:=ao.aX W j m;exact⟨rfl,a,rfl,.inl (Jm c l1▸SqL.of i)⟩
      |aB kvs=>obtain⟨c,rfl⟩:=Jp f;obtain⟨a,rfl,_,J⟩:=ao.aX W j m;obtain⟨ys,i,F⟩:=J.aB;exact⟨rfl,a,rfl,.inr ⟨ys,i,F.to.1.trans (xg c)⟩⟩
      |ins _ _=>cases f
    |tup _=>cases b
    |non=>cases b
    |bl _=>cases b
    |int _=>cases b
    |str _=>cases b
  obtain⟨rfl,p,rfl,C⟩:=key;exact Ub y q s σ H _ us Q I r ⟨p,ns,rfl,C,XF W (YE _) k⟩
abbrev bL(K:Aa)(c:Str)(C:Addr):Prop:=PySem.W.nsIn K mainGlobals c=some (some (.ref C))
theorem bL.uniq{K:Aa}{c:Str}{C C':Addr}(h:bL K c C)(h':bL K c C'):C=C':=by have e:=h.symm.trans h';cases e;rfl
structure U8(K:Aa)(c f:Str):Prop where
 ex:∃C,bL K c C/\Cls K C/\NoAttr K C f
structure V2(P:Program)(w:World)(K:Aa)(mg:C5)(O8:Heap)(c m:Str)(k n:Nat)(F:Ea):Prop where
 ex:∃(C f:Addr)(fd:FuncData)(ps:List Str),bL K c C/\Cls K C/\Ka K C m f/\X2 P w K mg O8 CX0 k f fd ps (fL K n F)/\Binds K fd ps []
structure oG(P:Program)(w:World)(K:Aa)(mg:C5)(O8:Heap)(c:Str)(k n:Nat)(F:Ea):Prop where
 ex:∃(C f:Addr)(fd:FuncData)(ps:List Str),bL K c C/\mg c=some (.ref C)/\Mk K C f/\X2 P w K mg O8 CX0 k f fd ps (fL K n F)/\Binds K fd ps []
section
variable{K:Aa}{ρ:C9}{B:C8}{H:Hp}{U:Hs}
abbrev bW(K:Aa)(ρ:C9)(B:C8)(H:Hp):List (Str×DV)->List (Str×V)->Prop:=Paired λp q=>p.1=q.1/\ao K ρ B H p.2 q.2
theorem GT:∀{fs:List (Str×DV)}{xs:List (Str×V)},xs.map (·.1)=fs.map (·.1)->aj K ρ B H (fs.map (·.2)) (xs.map (·.2))->bW K ρ B H fs xs
  | [],[],_,_=>.nil
  | [],_::_,e,_=>by simp at e
  |_::_,[],e,_=>by simp at e
  |p::fs,q::xs,e,r=>by simp only[A3,List.cons.injEq]at e;simp only[A3]at r;unfold aj at r;obtain⟨x,t,a,b,c⟩:=r;simp only[List.cons.injEq]at a;obtain⟨rfl,rfl⟩:=a;exact .cons ⟨e.1.symm,b⟩ (GT e.2 c)
theorem bW.to{fs:List (Str×DV)}{xs:List (Str×V)}(r:bW K ρ B H fs xs):xs.map (·.1)=fs.map (·.1)/\aj K ρ B H (fs.map (·.2)) (xs.map (·.2)):=by
 induction r with
 |nil=>exact⟨rfl,aj.nil⟩
 |cons h _ a=>exact⟨by simp[a.1,h.1],by simpa using aj.cons h.2 a.2⟩
theorem bW.look{fs:List (Str×DV)}{xs:List (Str×V)}(r:bW K ρ B H fs xs)(f:Str):(fs.lookup f=none/\xs.lookup f=none)∨∃d v,fs.lookup f=some d/\xs.lookup f=some v/\ao K ρ B H d v:=by
  induction r with
  |nil=>exact .inl ⟨rfl,rfl⟩
  |@cons p q _ _ h _ i =>
    obtain⟨b,j⟩:=p;obtain⟨l,m⟩:=q;obtain⟨a,c⟩:=h;have a:b=l:=a;subst a;cases e:f==b with
    |true=>exact .inr ⟨j,m,by simp[List.lookup,e],by simp[List.lookup,e],c⟩
    |false=>simpa [List.lookup,e]using i
def xC(f:Str)(d:DV):List (Str×DV)->List (Str×DV)
 | []=>[(f,d)]
 | (g,x)::r=>if g=f then (g,d)::r else (g,x)::xC f d r
theorem bW.put{fs:List (Str×DV)}{xs:List (Str×V)}(r:bW K ρ B H fs xs)(f:Str){d:DV}{v:V}(c:ao K ρ B H d v):bW K ρ B H (xC f d fs) (Xs f v xs):=by
  induction r with
  |nil=>exact .cons ⟨rfl,c⟩ .nil
  |@cons p q _ _ h t j =>
    obtain⟨b,m⟩:=p;obtain⟨l,n⟩:=q;obtain⟨a,i⟩:=h;have a:b=l:=a;subst a;unfold xC Xs;by_cases e:b=f
    . rw[Ct e,Ct e];exact .cons ⟨rfl,c⟩ t
    . rw[Cs e,Cs e];exact .cons ⟨rfl,i⟩ j
def bW.len{fs:List (Str×DV)}{xs:List (Str×V)}(r:bW K ρ B H fs xs):fs.length=xs.length:=Paired.length r
def bW.gs{ρ':C9}{a:C8}{H':Hp}{fs:List (Str×DV)}{xs:List (Str×V)}(g:Gs K ρ B H ρ' a H')(r:bW K ρ B H fs xs):bW K ρ' a H' fs xs:=L2.Paired.mapP r λ_ _ h=>⟨h.1,ao.gs g _ _ h.2⟩
theorem bB.ins{a:Addr}{c:Str}{fs:List (Str×DV)}(h:bB K ρ B H a (.ins c fs)):∃C b xs,bL K c C/\H a=some (.ins C b xs)/\bW K ρ B H fs xs:=by obtain⟨C,b,xs,f,e,d,rl⟩:=h;exact⟨C,b,xs,f,e,GT d rl⟩
def bW.fD{a C b:Addr}{c:Str}{fs:List (Str×DV)}{xs:List (Str×V)}(d:bL K c C)(r:bW K ρ B H fs xs)(e:H a=some (.ins C b xs)):bB K ρ B H a (.ins c fs):=⟨C,b,xs,d,e,r.to.1,r.to.2⟩
theorem RB{n:Nat}{a C f:Addr}{c:Str}{xs b:List (Str×V)}{d:List (Str×DV)}(W:aW K ρ B U H)(i:ρ[n]?=some a)(h:bL K c C)(e:H a=some (.ins C f xs))(r:bW K ρ B H d b):Gr K ρ B H ρ B (upd H a (.ins C f b))/\aW K ρ B (U.set n (.ins c d)) (upd H a (.ins C f b)):=by have g:Gr K ρ B H ρ B (upd H a (.ins C f b)):=Gr.dD i e;exact⟨g,W.dD (o':=.ins C f b) (v:=.ins c d) i e ((r.gs (g.gs W.rb)).fD h Q5)⟩
end
def lu{α:Type}(c:Str)(x:DV)(k:Nat->List (Str×DV)->M α):M α:=match x with
  |.ref n=>do
    match <- Zi n with
    |.ins a fs=>do QM (decide (a=c));k n fs
    |_=>failure
  |_=>failure
theorem qJ{α:Type}{c:Str}{x:DV}{d:α}{k:Nat->List (Str×DV)->M α}{U a:Hs}(h:lu c x k U=some (d,a)):∃n fs,x=.ref n/\U[n]?=some (.ins c fs)/\k n fs U=some (d,a):=by
  cases x with
  |ref n =>
    obtain⟨o,hp1,f,b⟩:=bind_some (show(Zi n >>= λo=>(match o with|.ins e fs=>do QM (decide (e=c));k n fs|_=>failure:M α)) U=some (d,a)from h);obtain⟨i,rfl⟩:=Zl f;cases o with
    |ins e fs=>obtain⟨_,hp2,j,l⟩:=bind_some b;obtain⟨m,rfl⟩:=QF j;obtain rfl:=Cz m;exact⟨n,fs,rfl,i,l⟩
    |lst _=>cases b
    |aB _=>cases b
  |non=>cases h
  |bl _=>cases h
  |int _=>cases h
  |str _=>cases h
  |tup _=>cases h
  |lst _=>cases h
def rH(c f:Str)(x:DV):M DV:=lu c x λ_ fs=>UH (fs.lookup f)
def rD(c f:Str)(x d:DV):M Unit:=lu c x λn fs=>do QM (decide (fs.length<1000));qW n (.ins c (xC f d fs))
def ZC(c f:Str)(g:au):au:=λenv=>do let x <- g env;rH c f x
def Yl(c f:Str)(a b:au):aG:=λenv=>do let y <- b env;let x <- a env;rD c f x y;pure (.nx,env)
def XW(c m:Str)(n:Nat)(F:Ea)(a:au)(fa:bR):au:=λenv=>do
 let x <- a env
 lu c x λ_ fs=>QM (fs.lookup m).isNone
 let ds <- fa env
 QM (decide (ds.length+1=n))
 F (x::ds)
def Ga(c:Str)(n:Nat)(F:Ea)(fa:bR):au:=λenv=>do
 let ds <- fa env
 QM (decide (ds.length+1=n))
 let x <- Xg (.ins c [])
 let r <- F (x::ds)
 match r with
 |.non=>pure x
 |_=>failure
section
variable{X:Cx}{o e value:Expr}{c f m:Str}{pos pos' tpos apos:Pos}{fo fv:au}
theorem gC{K:Aa}{ρ:C9}{B:C8}{H:Hp}{U b:Hs}{x d:DV}{v:V}(W:aW K ρ B U H)(r:ao K ρ B H x v)(h:rH c f x U=some (d,b)):U=b/\∃a C j xs u,v=.ref a/\bL K c C/\H a=some (.ins C j xs)/\xs.lookup f=some u/\ao K ρ B H d u:=by
 obtain⟨n,fs,rfl,q,t⟩:=qJ h;obtain⟨l,rfl⟩:=YG t;obtain⟨a,rfl,i,I⟩:=ao.aX W r q;obtain⟨C,j,xs,y,e,F⟩:=I.ins;rcases F.look f with ⟨z,_⟩|⟨d',u,z,L,J⟩
 ·rw[l]at z;cases z
 ·rw[l]at z;cases z;exact⟨rfl,a,C,j,xs,u,rfl,y,e,L,J⟩
theorem k6{K:Aa}{ρ:C9}{B:C8}{H:Hp}{U j:Hs}{x d:DV}{v y:V}{z:Unit}(W:aW K ρ B U H)(r:ao K ρ B H x v)(O:ao K ρ B H d y)(h:rD c f x d U=some (z,j)):∃a C b xs,v=.ref a/\bL K c C/\H a=some (.ins C b xs)/\xs.length<1000/\Gr K ρ B H ρ B (upd H a (.ins C b (Xs f y xs)))/\aW K ρ B j (upd H a (.ins C b (Xs f y xs))):=by obtain⟨n,fs,rfl,u,F⟩:=qJ h;obtain⟨_,hp1,I,J⟩:=bind_some F;obtain⟨L,rfl⟩:=QF I;cases J;obtain⟨a,rfl,i,P⟩:=ao.aX W r u;obtain⟨C,b,xs,l,e,q⟩:=P.ins;obtain⟨g,t⟩:=RB W i l e (q.put f O);exact⟨a,C,b,xs,rfl,l,e,by rw[<- q.len];exact Cz L,g,t⟩
theorem JX(r:U8 X.K c f)(y:DE X o fo)(q:attributeBase o f X.env (eval o X.env)=eval o X.env:=by rfl):DE X (.Attribute o f pos) (ZC c f fo) :=
 L2.PE.imp (Mq y q) λσ H Q b=>by obtain⟨Z,env,ρ,B,U,d,z,S,e,k⟩:=b;obtain⟨x,hp1,i,j⟩:=bind_some e;refine tD.run S i λv ρ1 B1 H1 n S1 J=>?_;obtain⟨rfl,a,C,h,xs,u,rfl,I,l,t,L⟩:=gC S1.wo J j;obtain⟨O,F,cl,na⟩:=r.ex;obtain rfl:=I.uniq F;exact⟨a,C,h,xs,u,rfl,l,cl,na,t,k u ρ1 B1 H1 n S1.wo L⟩
theorem Vj(F:U8 X.K c f)(J:DE X o fo)(Q:DE X value fv)(P:swapsWith value (some (.Attribute o f pos')) pos.line X.env=pure false:=by rfl):DS X (.Assign [.Attribute o f pos'] value pos) (Yl c f fo fv) :=
 L2.PS.imp (LR J Q P) λD σ H h=>by obtain⟨Z,env,ρ,B,U,fl,b,L,S,e,k⟩:=h;obtain⟨y,hp1,j,e⟩:=bind_some e;obtain⟨x,hp2,l,e⟩:=bind_some e;obtain⟨z,O,n,e⟩:=bind_some e;obtain⟨q,rfl⟩:=Qk e;cases q;refine tD.run S j λu ρ1 B1 H1 t S1 Y=>tD.run S1 l λv ρ2 B2 H2 d S2 r2=>?_;obtain⟨a,C,i,xs,rfl,T,r,I,g,W⟩:=k6 S2.wo r2 (ao.grow S1.wo.rb d _ _ Y) n;obtain⟨C',R,cl,na⟩:=F.ex;obtain rfl:=T.uniq R;exact⟨a,C,i,xs,rfl,r,cl,na,I,k σ ρ2 B2 _ ((t.trans (d.trans g)).gs S.wo.rb) (S2.grow g W)⟩
theorem kj{C:Addr}{n:Nat}{F:Ea}{fa:bR}{σ:St}{H:Hp}{Q:VK}(nc:bL X.K c C)(h:tD X.K (XW c m n F fo fa) σ H Q):rP C m (fL X.K n F) [] E0 (tD X.K fo) (dY X.K fa) σ H Q:=by
 obtain⟨Z,env,ρ,B,U,d,b,S,e,k⟩:=h;obtain⟨x,hp1,I,e⟩:=bind_some e;obtain⟨_,hp2,J,e⟩:=bind_some e;obtain⟨ds,j,L,e⟩:=bind_some e;obtain⟨_,dJ,O,R⟩:=bind_some e;obtain⟨Y,rfl⟩:=QF O;refine tD.run S I λv ρ1 B1 H1 T S1 r=>?_;obtain⟨i,fs,rfl,w1,w2⟩:=qJ J;obtain⟨q,rfl⟩:=QF w2;obtain⟨a,rfl,_,ro⟩:=ao.aX S1.wo r w1;obtain⟨C',y,xs,lB,P,rf⟩:=ro.ins;obtain rfl:=lB.uniq nc;have hx:xs.lookup m=none:=by
  rcases rf.look m with ⟨_,z⟩|⟨_,_,z,_,_⟩
  ·exact z
  ·rw[z]at q;cases q
 refine⟨a,y,xs,rfl,P,hx,dY.run S1 L λvs ρ2 u H2 l S2 t=>?_⟩;refine⟨?_,ρ2,u,j,_,d,b,S2.wo,?_,R,k.after (T.trans l)⟩
 ·rw[Bg,A0,<- t.length];exact Cz Y
 ·rw[Bg];exact aj.cons (ao.grow S1.wo.rb l _ _ r) t
theorem Vf{k j n:Nat}{F:Ea}{es:List Expr}{fa:bR}{pl:Sem Bool}(h:V2 X.prog X.w X.K X.mg X.O8 c m j n F)(t:Room k X.A)(i:j<=k)(hx:Xf CX0 X E0)(r:DE X o fo)(b:DA X (e::es) fa)
  (hst:starEach (e::es) X.env=(false,eval e X.env)::starEach es X.env:=by rfl) (hpl:(backTo pos (starEach es X.env)).any (·.1)=false:=by rfl)
  (ht:eval (.Call (.Attribute o m apos) (e::es) [] pos) X.env=(do
   let ov <- eval o X.env
   standAt apos.atName
   let (f,first) <- holding [ov] (getMethod ov m pl)
   callWith pos f first (backTo pos (starEach (e::es) X.env)) (backToKw pos (keywordEach [] X.env))):=by rfl):DE X (.Call (.Attribute o m apos) (e::es) [] pos) (XW c m n F fo fa):=by
 obtain⟨C,g,fd,ps,u,cl,l,a,d⟩:=h.ex;exact L2.PE.imp (Pg (pl:=pl) r cl l a (t.mono i) d .nil hx b hst hpl ht) λσ H Q q=>kj u q
theorem Uh{k j n:Nat}{F:Ea}{pl:Sem Bool}(h:V2 X.prog X.w X.K X.mg X.O8 c m j n F)(hr:Room k X.A)(hj:j<=k)(hx:Xf CX0 X E0)(ho:DE X o fo)
  (ht:eval (.Call (.Attribute o m apos) [] [] pos) X.env=(do
   let ov <- eval o X.env
   standAt apos.atName
   let (f,first) <- holding [ov] (getMethod ov m pl)
   callWith pos f first (backTo pos (starEach [] X.env)) (backToKw pos (keywordEach [] X.env))):=by rfl):DE X (.Call (.Attribute o m apos) [] [] pos) (XW c m n F fo Qj):=by
 obtain⟨C,g,fd,ps,nc,cl,hm,u,Y⟩:=h.ex;refine L2.PE.imp (kG (pl:=pl) ho cl hm u (hr.mono hj) Y .nil hx ht) λσ H Q q=>?_;obtain⟨Z,env,ρ,B,U,d,b,S,e,k⟩:=q;obtain⟨x,hp1,I,e⟩:=bind_some e;obtain⟨_,hp2,J,e⟩:=bind_some e;obtain⟨ds,aa,L,e⟩:=bind_some e;obtain⟨_,dJ,O,R⟩:=bind_some e;obtain⟨hl,rfl⟩:=QF O;obtain⟨rfl,rfl⟩:=Qk L;refine tD.run S I λv ρ1 t H1 T S1 r=>?_;obtain⟨i,fs,rfl,w1,w2⟩:=qJ J;obtain⟨l,rfl⟩:=QF w2;obtain⟨a,rfl,_,ro⟩:=ao.aX S1.wo r w1;obtain⟨C',y,xs,lB,P,rf⟩:=ro.ins;obtain rfl:=lB.uniq nc;have hx:xs.lookup m=none:=by
  rcases rf.look m with ⟨_,z⟩|⟨_,_,z,_,_⟩
  ·exact z
  ·rw[z]at l;cases l
 exact⟨a,y,xs,rfl,P,hx,Cz hl,ρ1,t,hp1,_,d,b,S1.wo,aj.cons r aj.nil,R,k.after T⟩
theorem ud{k:Nat}{C g:Addr}{fd:FuncData}{ps:List Str}{sp:Sp}{b:C4}{σ:St}{H:Hp}{s:Shared}{Q:VK}{us:List Value}{vs:List V}(M:Mk X.K C g)(F:X2 X.prog X.w X.K X.mg X.O8 CX0 k g fd ps sp)(y:Room (k+1) X.A)(t:Binds X.K fd ps [])
    (hx:Xf CX0 X E0) (I:Inv X b σ H s) (r:Vals vs us)
    (h:∀x a,H x=none->H a=none->a≠x->X.K.lookup x=none->sp (.ref x::vs) (upd (upd H a (.own x)) x (.ins C a [])) (λv H2=>v=.non/\Q (.ref x) H2) E0) :
    wpAny (model X.prog X.w) X.A (call (.ref C) us) (EP X b σ Q) X.xe s:=by
  have kf:X.K.lookup (s.heap.objs.size+1)=none:=by
    cases q:X.K.lookup (s.heap.objs.size+1)with
    |none=>rfl
    |some o=>exact absurd (Ao (I.kIn _ _ q)) (Nat.not_lt.mpr (Nat.le_succ _))
  have i:=h _ _ (I.hok.fresh (Nat.le_succ _)) (I.hok.fresh (Ae _)) (A6 (Cj _)) kf;have J:=Inv.made (C:=C) I;have rr:Vals (V.ref (s.heap.objs.size+1)::vs) (Value.ref (s.heap.objs.size+1)::us):=.cons rfl r;have L:((Value.ref (s.heap.objs.size+1)::us)++[]).length=ps.length:=by rw[Bg,<- rr.length];exact F.len _ _ _ _ i
  have d:=t _ (Value.ref (s.heap.objs.size+1)::us) J.kIn L;rw[Bg]at d;refine wpAny_call (kg (f:=g) I.kIn M.makes M.init (beq_iff_eq.mp M.fn) (codeAny_mono (F.run _ X.stack _ _ ⟨Value.ref (s.heap.objs.size+1)::us,[]⟩ _ _ _ E0 (y.make C us []) (J.env0.make C us []) d rr i) λq s' z=>?_));cases q with
  |error e=>exact hx b σ _ _ e s' J z
  |ok n =>
    cases n with
    |ret u=>obtain⟨v,H',j,P,l,O⟩:=J.after z;subst l;exact⟨P,⟨V.ref (s.heap.objs.size+1),H',j,rfl,O⟩⟩
    |next=>exact z.elim
    |brk=>exact z.elim
    |cont=>exact z.elim
theorem ke{C:Addr}{n:Nat}{F:Ea}{vs:List V}{K:Aa}{ρ:C9}{B:C8}{U b:Hs}{H:Hp}{ds:List DV}{d:DV}{Q:VK}(P:bL K c C)(O:ds.length+1=n)(W:aW K ρ B U H)(r:aj K ρ B H ds vs)
  (e:(do let x <- Xg (.ins c []);let r <- F (x::ds);match r with|.non=>pure x|_=>failure:M DV) U=some (d,b)) (k:fB K ρ B H d b Q) :
  ∀x a,H x=none->H a=none->a≠x->K.lookup x=none->fL K n F (.ref x::vs) (upd (upd H a (.own x)) x (.ins C a [])) (λv H2=>v=.non/\Q (.ref x) H2) E0:=by
 intro x a hx i ne kf;have l:F (.ref U.length::ds) (U++[.ins c []])=some (.non,b)/\d=.ref U.length:=by
  obtain⟨y,hp1,I,J⟩:=bind_some e;cases I;obtain⟨y,hp2,L,h⟩:=bind_some J;cases y with
  |non=>obtain⟨rfl,rfl⟩:=Qk h;exact⟨L,rfl⟩
  |bl _=>cases h
  |int _=>cases h
  |str _=>cases h
  |tup _=>cases h
  |lst _=>cases h
  |ref _=>cases h
 obtain⟨l,rfl⟩:=l;have j:upd H a (.own x) x=none:=by rw[Q4 (Ne.symm ne)];exact hx
 have t:Gr K ρ B H ρ B (upd H a (.own x)):=Gr.laid i;have u:Gr K ρ B (upd H a (.own x)) (ρ++[x]) (YX B x) (upd (upd H a (.own x)) x (.ins C a [])):=Gr.dw j kf;have q:aW K (ρ++[x]) (YX B x) (U++[.ins c []]) (upd (upd H a (.own x)) x (.ins C a [])):=(W.laid i).dw j kf (bW.fD P .nil Q5);have z:ao K (ρ++[x]) (YX B x) (upd (upd H a (.own x)) x (.ins C a [])) (.ref U.length) (.ref x):=by unfold ao;exact⟨x,rfl,by rw[<- W.len];simp⟩
 refine⟨?_,ρ++[x],YX B x,U++[.ins c []],.ref U.length::ds,.non,b,q,aj.cons z (aj.grow W.rb (t.trans u) _ _ r),l,λv ρ' B' H' g' W' R=>?_⟩
 ·rw[A0,<- r.length];exact O
 ·exact⟨R.dN,k _ ρ' B' H' ((t.trans u).trans g') W' (ao.grow q.rb g' _ _ z)⟩
theorem Sw{k j n:Nat}{F:Ea}{es:List Expr}{fa:bR}{p:Pos}(h:oG X.prog X.w X.K X.mg X.O8 c j n F)(T:Room k X.A)(L:j+1<=k)(hx:Xf CX0 X E0)(y:DA X (e::es) fa)(J:Gl X c:=by rfl)
  (hdb:(c==("__debug__" : Str))=false:=by decide) (he:starEach (e::es) X.env=(false,eval e X.env)::starEach es X.env:=by rfl) (hpl:(backTo pos (starEach es X.env)).any (·.1)=false:=by rfl):DE X (.Call (.Name c p) (e::es) [] pos) (Ga c n F fa):=by
 obtain⟨C,g,fd,ps,Y,P,M,a,z⟩:=h.ex;intro i s σ H Q I q;obtain⟨Z,env,ρ,B,U,d,R,S,e,k⟩:=q;obtain⟨ds,hp1,l,t⟩:=bind_some e;obtain⟨_,hp2,u,v⟩:=bind_some t;obtain⟨O,rfl⟩:=QF u;refine wpAny_Call_Name_kw (jr I J P ?_ hdb);refine PySem.W.callWith_K (h₀:=X.O8) I.ok.mod.kin M.kp (thn (y pos i s σ H _ I (dY.run S l λvs ρ1 B1 b x S1 r1=>ke (Q:=Q) Y (Cz O) S1.wo r1 v (k.after x))) λus s1 ⟨vs,b,I1,r,q⟩=>⟨I1.kIn,?_⟩) he hpl;exact ud M a (T.mono L) z hx I1 r q
end
theorem gz{P:Program}{w:World}{K:Aa}{mg:C5}{O8:Heap}{x a:Str}{b:Stmt}{g:Addr}{fd:FuncData}{N ps:List Str}{k:Nat}{f:aG}(F:Fun K x a b g fd)(m:QS N ps (Qs b))
  (h:∀(c:Value)(A:Around)(outer:List Env)(s:Shared)(H:Hp)(E:XK),Room k (A.deeper (envOfC a (Qs b) s.heap.objs.size g c))->fJ (jb CX0 P w K mg O8 N a (Qs b) g c A outer s H E).nox (Zw b) f) :
  X2 P w K mg O8 CX0 (k+1) g fd ps (fL K ps.length (ZH N.length f)):=by
 refine F.ok m (λvs H Q E h=>h.1) (λc A outer s H vs Q E q sp=>?_);obtain⟨u,ρ,B,U,ds,d,o,W,r,e,k⟩:=sp;obtain⟨⟨l,i⟩,hp1,n,j⟩:=bind_some e;refine⟨_,h c A outer s H E q,⟨ρ,B,H⟩,_,ρ,B,U,l,i,hp1,zH W r,n,λσ' ρ' B' H' g' S'=>?_⟩;cases l with
 |nx=>obtain⟨rfl,rfl⟩:=Qk j;exact k .non ρ' B' H' S'.gr S'.wo XR
 |rt x=>obtain⟨rfl,rfl⟩:=Qk j;exact λv t=>k v ρ' B' H' S'.gr S'.wo t
 |bk=>cases j
 |ct=>cases j
theorem ki{P:Program}{w:World}{K:Aa}{mg:C5}{O8:Heap}{c m b:Str}{a:Stmt}{C g:Addr}{fd:FuncData}{N ps:List Str}{k:Nat}{e:aG}(n:bL K c C)(cl:Cls K C)(l:Ka K C m g)(F:Fun K m b a g fd)(i:QS N ps (Qs a))
  (hb:∀(kV f o:Value)(j:Option Addr)(d ct:Value)(us:List Value),us.length=ps.length->bindArgs (PySem.W.fnOf m b (Z4 a) (Zw a) (Qs a) .none kV f o j d ct) ⟨us,[]⟩=pure (ps.zip us))
  (h:∀(d:Value)(A:Around)(outer:List Env)(s:Shared)(H:Hp)(E:XK),Room k (A.deeper (envOfC b (Qs a) s.heap.objs.size g d))->fJ (jb CX0 P w K mg O8 N b (Qs a) g d A outer s H E).nox (Zw a) e) :
  V2 P w K mg O8 c m (k+1) ps.length (ZH N.length e):=⟨C,g,fd,ps,n,cl,l,gz F i h,F.binds hb⟩
theorem gH{P:Program}{w:World}{K:Aa}{mg:C5}{O8:Heap}{c b:Str}{a:Stmt}{C g:Addr}{fd:FuncData}{N ps:List Str}{k:Nat}{e:aG}(n:bL K c C)(l:mg c=some (.ref C))(m:Mk K C g)(F:Fun K "__init__" b a g fd)(i:QS N ps (Qs a))
  (hb:∀(kV f o:Value) (j:Option Addr) (d ct:Value) (us:List Value),us.length=ps.length->bindArgs (PySem.W.fnOf "__init__" b (Z4 a) (Zw a) (Qs a) .none kV f o j d ct) ⟨us,[]⟩=pure (ps.zip us))
  (h:∀(d:Value)(A:Around)(outer:List Env)(s:Shared)(H:Hp)(E:XK),Room k (A.deeper (envOfC b (Qs a) s.heap.objs.size g d))->fJ (jb CX0 P w K mg O8 N b (Qs a) g d A outer s H E).nox (Zw a) e) :
  oG P w K mg O8 c (k+1) ps.length (ZH N.length e):=⟨C,g,fd,ps,n,l,m,gz F i h,F.binds hb⟩
section
variable{X:Cx}
end
mutual
def bJ(K:Aa):DV->V->Prop
 |.non,v=>v=.non
 |.bl b,v=>v=.bl b
 |.int i,v=>v=.int i
 |.str x,v=>v=.str x
 |.tup ds,v=>∃(a:Addr) (o:Obj) (c:Array Value) (n:Nat) (xs:List V),v=.ref a/\K.lookup a=some o/\o.cls=.type "tuple" /\ o.data=.seq c n/\c.size<=sizeLine/\Vals xs c.toList/\bF K ds xs
 |_,_=>False
def bF(K:Aa):List DV->List V->Prop
 | [],xs=>xs=[]
 |d::ds,xs=>∃x r,xs=x::r/\bJ K d x/\bF K ds r
end
mutual
theorem bJ.rep{K:Aa}{ρ:C9}{B:C8}{H:Hp}(e:∀a,B a->K.lookup a=none):∀(d:DV)(v:V),bJ K d v->ao K ρ B H d v
  |.non,_,h=>by unfold bJ at h;unfold ao;exact h
  |.bl _,_,h=>by unfold bJ at h;unfold ao;exact h
  |.int _,_,h=>by unfold bJ at h;unfold ao;exact h
  |.str _,_,h=>by unfold bJ at h;unfold ao;exact h
  |.lst _,_,h=>by unfold bJ at h;exact h.elim
  |.ref _,_,h=>by unfold bJ at h;exact h.elim
  |.tup ds,_,h=>by unfold bJ at h;unfold ao;obtain⟨a,o,c,n,xs,rfl,b,f,i,j,l,m⟩:=h;exact⟨a,xs,rfl,λz=>(by rw[e a z]at b;cases b),.inr ⟨o,c,n,b,f,i,j,l⟩,bF.rep e ds xs m⟩
theorem bF.rep{K:Aa}{ρ:C9}{B:C8}{H:Hp}(b:∀a,B a->K.lookup a=none):∀(ds:List DV)(xs:List V),bF K ds xs->aj K ρ B H ds xs
  | [],_,h=>by unfold bF at h;unfold aj;exact h
  |d::ds,_,h=>by unfold bF at h;unfold aj;obtain⟨x,r,e,c,f⟩:=h;exact⟨x,r,e,bJ.rep b d x c,bF.rep b ds r f⟩
end
theorem Nr{K:Aa}{ds:List DV}{a:Addr}{f:Option Addr}{b:Array Value}{n:Nat}{i:Array (Option Value)}{xs:List V}(h:K.lookup a=some ⟨.type "tuple", f,.seq b n,i⟩)(d:b.size<=sizeLine)(e:Vals xs b.toList)(c:bF K ds xs):bJ K (.tup ds) (.ref a):=by unfold bJ;exact⟨a,_,b,n,xs,rfl,h,rfl,rfl,d,e,c⟩
theorem VB{K:Aa}{i:Str}:bJ K (.str i) (.str i):=by unfold bJ;rfl
theorem Td{K:Aa}:bF K [] []:=by unfold bF;rfl
theorem qD{K:Aa}{d:DV}{ds:List DV}{x:V}{r:List V}(h:bJ K d x)(h':bF K ds r):bF K (d::ds) (x::r):=by unfold bF;exact⟨x,r,rfl,h,h'⟩
theorem Sx{X:Cx}{x:Str}{ds:List DV}{a:Addr}{b:Pos}(d:Gl X x)(h:X.mg x=some (.ref a))(f:bJ X.K (.tup ds) (.ref a))(hd:(x==("__debug__" : Str))=false:=by decide):DE X (.Name x b) (eC (.tup ds)) :=
 (Ph (v:=.ref a) d h rfl hd).imp λσ H Q c=>by obtain⟨Z,env,ρ,B,U,d',i,S,e,k⟩:=c;obtain⟨rfl,rfl⟩:=Qk e;exact k _ ρ B H Gr.refl S.wo (bJ.rep S.wo.bk _ _ f)
theorem YI{n i:Nat}{d:DV}(h:(Zy 0 n)[i]?=some d):i<n/\d=.int (i:Int):=by obtain⟨a,b⟩:=KE h;exact⟨a,by rw[b];simp⟩
theorem ur{n:Nat}(h:n<=1000000):VX (n:Int)=true:=RQ ⋯ ⋯
theorem RW{n i:Nat}(h:i<n):ixN n (i:Int)=some i:=by unfold ixN;rw[Ct ⋯,Ct ⋯];simp
theorem Jq{f:iw}{g:h_}{a:aG}{env:En}{U hp1:Hs}{ds:List DV}{r:(Fl×En)×Hs}(h:f env U=some (cU ds,hp1))(h':XG (cU ds) (λd env=>do let env' <- g d env;a env') 100000 0 env hp1=some r):Ym f g a env U=some r:=by unfold Ym;rw[Qg h];exact h'
theorem Rj{m:Nat}(h:m<=1000000)(U:Hs):ua [.int (m:Int)] U=some (Zy 0 m,U):=by
 have e:ua [.int (m:Int)]=pure (Zy 0 (m:Int).toNat):=by simp only[ua,ur h,QM,if_true,C1]
 rw[e,Bo];rfl
theorem YD{f:bR}{env:En}{U hp1:Hs}{m:Nat}(h:f env U=some ([.int (m:Int)],hp1))(a:m<=1000000):Ux f env U=some (Zy 0 m,hp1):=by unfold Ux;rw[Qg h];exact Rj a hp1
theorem JD{f:au}{env:En}{U hp1:Hs}{ds:List DV}(h:f env U=some (.lst ds,hp1)):dj f env U=some (cU ds,hp1):=by unfold dj;rw[Qg h];rfl
section
variable{X:Cx}
def qG(x:DV):List DV->M DV
 | [y]=>mR x λn ds=>mR y λ_ es=>do QM (decide (ds.length+es.length<=lim));qW n (.lst (ds++es));pure .non
 |_=>failure
theorem ka:MtR X "list.extend" (lW X.K qG):=by
 intro j s σ H x vs v us Q I rx rv h;obtain⟨ρ,B,U,L,es,d,z,W,F,J,e,k⟩:=h;unfold qG at e;split at e
 ·rename_i y;obtain⟨n,ds,rfl,r,e⟩:=qK e;obtain⟨m,P,rfl,c,e⟩:=qK e;obtain⟨_,hp1,o,q⟩:=bind_some e;obtain⟨u,rfl⟩:=QF o;cases q;obtain⟨a,rfl,C,xs,i,l1⟩:=ao.aX W F r;obtain⟨w,rfl,f⟩:=J.cg;obtain⟨b,rfl,O,ys,t,l2⟩:=ao.aX W f c;obtain⟨g,l⟩:=qZ W C i (aj.append l1 l2);exact vO j s σ H _ _ v us Q I rx rv ⟨a,b,xs,ys,rfl,rfl,i,t,by rw[<- l1.length,<- l2.length];exact A9 (Cz u) xh,k _ ρ B _ g l XR⟩
 ·cases e
end
end D
namespace L2
open PySem PySem.Spec PyProof.Rows
section
variable{prog:Program}{w:World}{A:Around}{E:C2}{s:Shared}
end
section
variable{X:Cx}{xn:Str}{p2:Pos}{O9:C4}{σ:L2.St}
end
end L2
namespace D
open PySem PySem.Spec PyProof.Rows L2
section
variable{X:Cx}{xn:Str}{p2:Pos}{f g:au}
end
def aD(ps:C7):List DV:=ps.map λp=>.tup [.int p.1,.int p.2]
section
variable(s f q:Nat)(d a g p n w e x:DV)
end
section
variable{c f m:Str}{o e:au}{fa:bR}{env:En}{U hp1 hp2:Hs}{a n:Nat}{fs:List (Str×DV)}{d v:DV}{ds:List DV}{F:Ea}
theorem VJ{α:Type}{k:Nat->List (Str×DV)->M α}(h:U[a]?=some (.ins c fs)):lu c (.ref a) k U=k a fs U:=by show(Zi a >>= _) U=_;rw[Qg (Q6 h)];show(QM (decide (c=c)) >>= λ_=>k a fs) U=_;rw[Cy rfl];rfl
theorem jo(b:e env U=some (v,hp1))(j:o env hp1=some (.ref a,hp1))(h:hp1[a]?=some (.ins c fs))(i:fs.length<1000):Yl c f o e env U=some ((.nx,env),hp1.set a (.ins c (xC f v fs))):=by
 unfold Yl;rw[Qg b,Qg j];unfold rD;have:lu c (.ref a) (λn fs=>do QM (decide (fs.length<1000));qW n (.ins c (xC f v fs))) hp1=some ((),hp1.set a (.ins c (xC f v fs))):=by rw[VJ h,Cy i];rfl
 rw[Qg this];rfl
theorem NQ(b:o env U=some (.ref a,hp1))(h:hp1[a]?=some (.ins c fs))(hf:fs.lookup f=some d):ZC c f o env U=some (d,hp1):=by unfold ZC;rw[Qg b];unfold rH;rw[VJ h,hf];rfl
theorem Jx(q:o env U=some (.ref a,U))(h:U[a]?=some (.ins c fs))(j:fs.lookup m=none)(i:fa env U=some (ds,hp1))(l:ds.length+1=n)(b:F (.ref a::ds) hp1=some (d,hp2)):XW c m n F o fa env U=some (d,hp2):=by
 unfold XW;rw[Qg q];have:lu c (.ref a) (λ_ fs=>QM (fs.lookup m).isNone) U=some ((),U):=by rw[VJ h,j];rfl
 rw[Qg this,Qg i,Cy l];show(QM true >>= λ_=>F (.ref a::ds)) hp1=_;exact b
def uF:Qj env U=some ([],U):=rfl
theorem Zd(h:e env U=some (v,hp1)):Qa e Qj env U=some ([v],hp1):=by unfold Qa;rw[Qg h];rfl
theorem Za{b:au}{v':DV}(h:e env U=some (v,hp1))(h':b env hp1=some (v',hp2)):Qa e (Qa b Qj) env U=some ([v,v'],hp2):=by have:=Zd h';unfold Qa at this ⊢;rw[Qg h,Qg this];rfl
theorem Xo{q b:au}{v' j:DV}{i:Hs}(h:e env U=some (v,hp1))(h':q env hp1=some (v',hp2))(l:b env hp2=some (j,i)):Qa e (Qa q (Qa b Qj)) env U=some ([v,v',j],i):=by have:=Za h' l;unfold Qa at this ⊢;rw[Qg h,Qg this];rfl
theorem Qe{i:Nat}(h:env[i]?=some (.val d)):Qb i env U=some (d,U):=by unfold Qb;rw[h];rfl
theorem QU{k:Nat}(h:fa env U=some (ds,hp1))(i:ds.length=k)(b:F ds hp1=some (d,hp2)):Qu k F fa env U=some (d,hp2):=by unfold Qu;rw[Qg h,Cy i];exact b
theorem QY{c:bO}{f g:aG}(h:c env U=some (true,hp1)):aP c f g env U=f env hp1:=by rw[kW h];rfl
theorem Qv{c:bO}{f g:aG}(h:c env U=some (false,hp1)):aP c f g env U=g env hp1:=by rw[kW h];rfl
theorem RX{i:Nat}(h:U[a]?=some (.lst ds))(hd:ds[i]?=some d):aq (.ref a) (.int i) U=some (d,U):=by show(Zi a >>= _) U=_;rw[Qg (Q6 h)];show(f9 (.int (i:Int)) >>= λi=>UH (atI ds i)) U=_;simp only[f9,C1,yZ hd];rfl
end
theorem CV{xs:List DV}{i:Nat}{d:DV}(h:xs[i]?=some d)(U:Hs):aq (.tup xs) (.int i) U=some (d,U):=by show eZ (.tup xs) (.int i) U=_;simp only[eZ,yZ h];rfl
section
variable{e e' e'' e3 e4:au}{fa:bR}{env:En}{U hp1 hp2 hp3 dJ fY:Hs}{v v' v'' v3 v4 d:DV}{ds:List DV}
theorem Ze(a:fa env U=some (ds,hp1))(b:ds.length<=100000):Q2 fa env U=some (.tup ds,hp1):=by unfold Q2;rw[Qg a];have:Yp ds=true:=Cy b;rw[this];rfl
theorem K0(h:e env U=some (v,hp1))(h':e' env hp1=some (v',hp2))(a:e'' env hp2=some (v'',hp3))(b:e3 env hp3=some (v3,dJ)):Qa e (Qa e' (Qa e'' (Qa e3 Qj))) env U=some ([v,v',v'',v3],dJ):=by have:=Xo h' a b;unfold Qa at this ⊢;rw[Qg h,Qg this];rfl
theorem K1(h:e env U=some (v,hp1))(h':e' env hp1=some (v',hp2))(a:e'' env hp2=some (v'',hp3))(b:e3 env hp3=some (v3,dJ))(c:e4 env dJ=some (v4,fY)):Qa e (Qa e' (Qa e'' (Qa e3 (Qa e4 Qj)))) env U=some ([v,v',v'',v3,v4],fY):=by have:=K0 h' a b c;unfold Qa at this ⊢;rw[Qg h,Qg this];rfl
end
theorem Yv{t:DV->M Bool}{f:DV->M DV}{p:DV->Bool}{U:Hs}(ds:List DV)(l:∀d∈ds,t d U=some (p d,U))(hf:∀d∈ds,f d U=some (d,U))(j:ds.length<100000):ZX (cU ds) t f 100000 0 U=some (ds.filter p,U):=by
  suffices h:∀(m i n:Nat),m+i=ds.length->m<n->ZX (cU ds) t f n i U=some ((ds.drop i).filter p,U)by simpa using h ds.length 0 100000 rfl j
  intro m;induction m with
  |zero =>
    intro i n e c;obtain⟨n,rfl⟩:∃k,n=k+1:=⟨n-1,⋯⟩;have:i=ds.length:=⋯
    subst this;have b:=Yi ds ds.length (Ae _) U;rw[show ds[ds.length]?=none by simp]at b;rw[ZX,Qg b,Ck];rfl
  |succ m o =>
    intro i n e c;obtain⟨n,rfl⟩:∃k,n=k+1:=⟨n-1,⋯⟩;have a:i<ds.length:=⋯
    have b:=Yi ds i ⋯ U;rw[Ab a]at b;have hi:=o (i+1) n ⋯ ⋯;rw[ZX,Qg b];simp only;rw[Qg (l ds[i] (Bq a)),A8 a];cases q:p ds[i]with
    |false=>rw[Cq (by simp[q])];simpa using hi
    |true=>rw[Cd q];simp only[if_true];rw[Qg (hf ds[i] (Bq a)),Qg hi];rfl
def pZ(l h:Int):DV->Bool
 |.tup [.int x,_]=>decide (l<=x)&&decide (x<h)
 |_=>false
theorem xB(l h:Int)(a:C7):(aD a).filter (pZ l h)=aD (a.filter λq=>decide (l<=q.1)&&decide (q.1<h)):=by unfold aD;rw[List.filter_map];rfl
theorem vA{o:au}{fa:bR}{env:En}{U:Hs}{a b:Nat}{ds es:List DV}(i:o env U=some (.ref a,U))(h:U[a]?=some (.lst ds))(d:fa env U=some ([.ref b],U))(e:U[b]?=some (.lst es))(f:ds.length+es.length<=100000):ZI "list" qG o fa env U=some (.non,U.set a (.lst (ds++es))):=by
 unfold ZI;rw[Qg i];have c:zR "list" (.ref a) U=some ((),U):=by show(Zi a >>= _) U=_;rw[Qg (Q6 h)];rfl
 rw[Qg c,Qg d];show(Zi a >>= _) U=_;rw[Qg (Q6 h)];show(Zi b >>= _) U=_;rw[Qg (Q6 e)];show(QM (decide (ds.length+es.length<=lim)) >>= λ_=>qW a (.lst (ds++es)) >>= λ_=>pure DV.non) U=_;rw[show decide (ds.length+es.length<=lim)=true from Cy f];rfl
theorem Kx(o:Option Int):gL (opt o) .non=pure (.bl o.isSome):=by cases o<;>rfl
theorem jv{x:Str}(h:PyData.strOk x=true):fM (.str x)=true:=by simp[fM,yI,toP,SeqAt.shaped,PyData.canLay0,PyData.depth,h]
theorem mC{x y:Str}(U:Hs)(a:PyData.strOk x=true)(c:PyData.strOk y=true){b:Bool}(h:(x==y)=b):aK (.str x) (.str y) U=some (.bl b,U):=by
 unfold aK;have e:Yb (.str x) (.str y) U=some (x==y,U):=by rw[jn (jl 39 U x) (jl 39 U y) (jv a) (jv c)];rfl
 rw[Qg e,h];rfl
section
variable{c c':bO}{e e':au}{env:En}{U hp1:Hs}{b:Bool}
theorem Us(h:c env U=some (true,hp1)):cB c c' env U=some (true,hp1):=by unfold cB;rw[Qg h];rfl
theorem qx(h:c env U=some (false,hp1)):cB c c' env U=c' env hp1:=by unfold cB;rw[Qg h];rfl
theorem Vl(h:c env U=some (true,hp1)):JG c c' env U=c' env hp1:=by unfold JG;rw[Qg h];rfl
theorem jT(h:c env U=some (false,hp1)):JG c c' env U=some (false,hp1):=by unfold JG;rw[Qg h];rfl
end
section
variable{f g:au}{fa:bR}{env:En}{U hp1 hp2:Hs}{d x y:DV}{ds:List DV}{F:Ea}
theorem Jd(h:fa env U=some (ds,hp1))(a:F ds hp1=some (d,hp2)):QR F fa env U=some (d,hp2):=by unfold QR;rw[Qg h];exact a
def gY(ds:List DV)(U:Hs):Zo [.lst ds] U=some (.int ds.length,U):=rfl
theorem gZ{n:Nat}(h:U[n]?=some (.lst ds)):Zo [.ref n] U=some (.int ds.length,U):=by show(Zi n >>= _) U=_;rw[Qg (Q6 h)];rfl
theorem Fq(i j:Int)(U:Hs):aK (.int i) (.int j) U=some (.bl (i==j),U):=by unfold aK;rw[Qg (gh i j U)];rfl
end
theorem zL{f:lV}{env:En}{U hp1:Hs}{ds:List DV}(h:f env U=some (ds,hp1)):iH f env U=some (cU ds,hp1):=by unfold iH;rw[Qg h];rfl
section
variable{c:bO}{b:aG}{n:Nat}{env aY:En}{U hp1 hp2:Hs}
end
theorem Yu{o e:au}{env:En}{U:Hs}{a:Nat}{ds:List DV}{d:DV}(i:o env U=some (.ref a,U))(h:U[a]?=some (.lst ds))(c:e env U=some (d,U))(f:ds.length<100000):ZI "list" Jw o (Qa e Qj) env U=some (.non,U.set a (.lst (ds++[d]))):=by
 unfold ZI;rw[Qg i];have b:zR "list" (.ref a) U=some ((),U):=by show(Zi a >>= _) U=_;rw[Qg (Q6 h)];rfl
 rw[Qg b,Qg (Zd c)];show(Zi a >>= _) U=_;rw[Qg (Q6 h)];show(QM (decide (ds.length<lim)) >>= λ_=>qW a (.lst (ds++[d])) >>= λ_=>pure DV.non) U=_;rw[show decide (ds.length<lim)=true from Cy f];rfl
theorem Rh{n:Nat}{a:aG}{ds:List DV}{env:En}{U hp1:Hs}(h:a (ds.map .val++List.replicate (n-ds.length) .un) U=some ((.nx,env),hp1)):ZH n a ds U=some (.non,hp1):=by unfold ZH;rw[Qg h];rfl
def Pl:Nat->DV->Prop
 |_,.non=>True
 |_,.bl _=>True
 |_,.int _=>True
 |_,.str x=>PyData.strOk x=true
 |n+1,.tup ds=>∀d∈ds,Pl n d
 |n+1,.lst ds=>∀d∈ds,Pl n d
 |_,_=>False
theorem zi:∀(n:Nat)(d:DV)(k:Nat)(U:Hs),Pl n d->bH (n+k+1) U d=some d
  |n,.non,k,U,_=>rfl
  |n,.bl _,k,U,_=>rfl
  |n,.int _,k,U,_=>rfl
  |n,.str _,k,U,_=>rfl
  |0,.tup ds,k,U,h=>h.elim
  |0,.lst ds,k,U,h=>h.elim
  |0,.ref _,k,U,h=>h.elim
  |n+1,.ref _,k,U,h=>h.elim
  |n+1,.tup ds,k,U,h=>by show(ds.mapM (bH (n+1+k) U)).map DV.tup=_;rw[JV λd hd=>(by rw[Nat.add_right_comm];exact zi n d k U (h d hd))];rfl
  |n+1,.lst ds,k,U,h=>by show(ds.mapM (bH (n+1+k) U)).map DV.lst=_;rw[JV λd hd=>(by rw[Nat.add_right_comm];exact zi n d k U (h d hd))];rfl
theorem VD:∀(ds:List DV),(∀d∈ds,(toP d).canLay0=true)->PyData.canLayAll0 (aV ds)=true
 | [],_=>by unfold aV PyData.canLayAll0;rfl
 |d::ds,h=>by unfold aV PyData.canLayAll0;rw[h d (by simp),VD ds λx hx=>h x (Au _ hx)];rfl
theorem VE:∀(n:Nat)(d:DV),Pl n d->(toP d).canLay0=true
 |n,.non,_=>by unfold toP PyData.canLay0;rfl
 |n,.bl _,_=>by unfold toP PyData.canLay0;rfl
 |n,.int _,_=>by unfold toP PyData.canLay0;rfl
 |n,.str x,h=>by cases n<;>(unfold toP PyData.canLay0;exact h)
 |0,.tup ds,h=>h.elim
 |0,.lst ds,h=>h.elim
 |0,.ref _,h=>h.elim
 |n+1,.ref _,h=>h.elim
 |n+1,.tup ds,h=>by unfold toP PyData.canLay0;exact VD ds λd hd=>VE n d (h d hd)
 |n+1,.lst ds,h=>by unfold toP PyData.canLay0;exact VD ds λd hd=>VE n d (h d hd)
theorem zh(n:Nat):∀(ds:List DV),(∀d∈ds,(toP d).depth<=n)->PyData.depthAll (aV ds)<=n
 | [],_=>by unfold aV PyData.depthAll;exact A5 _
 |d::ds,h=>by unfold aV PyData.depthAll;exact Nat.max_le.mpr ⟨h d (by simp),zh n ds λx hx=>h x (Au _ hx)⟩
theorem jN:∀(n:Nat)(d:DV),Pl n d->(toP d).depth<=n
 |n,.non,_=>by unfold toP PyData.depth;exact A5 _
 |n,.bl _,_=>by unfold toP PyData.depth;exact A5 _
 |n,.int _,_=>by unfold toP PyData.depth;exact A5 _
 |n,.str x,h=>by unfold toP PyData.depth;exact A5 _
 |0,.tup ds,h=>h.elim
 |0,.lst ds,h=>h.elim
 |0,.ref _,h=>h.elim
 |n+1,.ref _,h=>h.elim
 |n+1,.tup ds,h=>by unfold toP PyData.depth;exact Nat.succ_le_succ (zh n ds λd hd=>jN n d (h d hd))
 |n+1,.lst ds,h=>by unfold toP PyData.depth;exact Nat.succ_le_succ (zh n ds λd hd=>jN n d (h d hd))
theorem yM{n:Nat}{d:DV}(h:Pl n d)(a:n<=64):SeqAt.shaped (toP d)=true:=by unfold SeqAt.shaped;rw[VE n d h,Cy (A9 (jN n d h) a)];rfl
theorem qv{n:Nat}{d:DV}(h:Pl n d)(a:n<40)(U:Hs):bH 40 U d=some d:=by
 have:=zi n d (39-n) U h
 rwa [show n+(39-n)+1=40 by lia]at this
theorem Pl.mono:∀{n m:Nat}{d:DV},Pl n d->n<=m->Pl m d
 |n,m,.non,h,a=>by cases m<;>trivial
 |n,m,.bl _,h,a=>by cases m<;>trivial
 |n,m,.int _,h,a=>by cases m<;>trivial
 |n,m,.str _,h,a=>by cases n<;>cases m<;>exact h
 |0,m,.tup ds,h,a=>h.elim
 |0,m,.lst ds,h,a=>h.elim
 |0,m,.ref _,h,a=>h.elim
 |n+1,m,.ref _,h,a=>h.elim
 |n+1,0,.tup ds,h,a=>absurd a (Nat.not_succ_le_zero _)
 |n+1,0,.lst ds,h,a=>absurd a (Nat.not_succ_le_zero _)
 |n+1,m+1,.tup ds,h,a=>λd hd=>(h d hd).mono (Nat.le_of_succ_le_succ a)
 |n+1,m+1,.lst ds,h,a=>λd hd=>(h d hd).mono (Nat.le_of_succ_le_succ a)
theorem JL(n:Nat)(i:Int):Pl n (.int i):=by cases n<;>trivial
theorem zF(n:Nat):Pl n .non:=by cases n<;>trivial
theorem Y5{n:Nat}{x:Str}(h:PyData.strOk x=true):Pl n (.str x):=by cases n<;>exact h
theorem KC(n:Nat)(o:Option Int):Pl n (opt o):=by cases o;exact zF n;exact JL n _
def xA{n:Nat}{ds:List DV}(h:∀d∈ds,Pl n d):Pl (n+1) (.tup ds):=h
def KB{n:Nat}{ds:List DV}(h:∀d∈ds,Pl n d):Pl (n+1) (.lst ds):=h
theorem YB{x y:DV}{n m:Nat}(h:Pl n x)(h':Pl m y)(b:n<40)(a:m<40)(U:Hs):Yb x y U=some (PyData.eqv (toP x) (toP y),U):=by unfold Yb Kl;show((Option.map _ (bH 40 U x)).bind _)=_;rw[qv h b];show((Option.map _ (bH 40 U y)).bind _)=_;rw[qv h' a];show(QM (SeqAt.shaped (toP x)&&SeqAt.shaped (toP y)) >>= λ_=>pure (PyData.eqv (toP x) (toP y)):M Bool) U=_;rw[yM h ⋯,yM h' ⋯];rfl
theorem zo{x:DV}{n:Nat}(h:Pl n x)(a:n<40)(U:Hs):Yb x x U=some (true,U):=by rw[YB h h a a,SeqAt.eqv_refl _ (VE n x h)]
theorem ge{x:DV}{n:Nat}(h:Pl n x)(a:n<40)(U:Hs):aK x x U=some (.bl true,U):=by unfold aK;rw[Qg (zo h a U)];rfl
theorem xp{x:DV}{n:Nat}(h:Pl n x)(a:n<40)(U:Hs):bU x x U=some (.bl false,U):=by unfold bU;rw[Qg (zo h a U)];rfl
theorem vj{t:DV->M Bool}{f:DV->M DV}{g:DV->DV}{U:Hs}(ds:List DV)(l:∀d∈ds,t d U=some (true,U))(hf:∀d∈ds,f d U=some (g d,U))(j:ds.length<100000):ZX (cU ds) t f 100000 0 U=some (ds.map g,U):=by
  suffices h:∀(m i n:Nat),m+i=ds.length->m<n->ZX (cU ds) t f n i U=some ((ds.drop i).map g,U)by simpa using h ds.length 0 100000 rfl j
  intro m;induction m with
  |zero =>
    intro i n e c;obtain⟨n,rfl⟩:∃k,n=k+1:=⟨n-1,⋯⟩;have:i=ds.length:=⋯
    subst this;have b:=Yi ds ds.length (Ae _) U;rw[show ds[ds.length]?=none by simp]at b;rw[ZX,Qg b,Ck];rfl
  |succ m o =>
    intro i n e c;obtain⟨n,rfl⟩:∃k,n=k+1:=⟨n-1,⋯⟩;have a:i<ds.length:=⋯
    have b:=Yi ds i ⋯ U;rw[Ab a]at b;rw[ZX,Qg b];simp only;rw[Qg (l ds[i] (Bq a)),A8 a];simp only[if_true];rw[Qg (hf ds[i] (Bq a)),Qg (o (i+1) n ⋯ ⋯)];rfl
section
variable{env:En}{U hp1 hp2 hp3 dJ fY m7 tG:Hs}{e e' e'' e3 e4 e5 e6:au}{v v' v'' v3 v4 v5 v6:DV}
theorem K2(h:e env U=some (v,hp1))(h':e' env hp1=some (v',hp2))(a:e'' env hp2=some (v'',hp3))(b:e3 env hp3=some (v3,dJ))(c:e4 env dJ=some (v4,fY))(d:e5 env fY=some (v5,m7)):Qa e (Qa e' (Qa e'' (Qa e3 (Qa e4 (Qa e5 Qj))))) env U=some ([v,v',v'',v3,v4,v5],m7):=by show(e env >>= λx=>Qa e' (Qa e'' (Qa e3 (Qa e4 (Qa e5 Qj)))) env >>= λxs=>pure (x::xs)) U=_;rw[Qg h,Qg (K1 h' a b c d)];rfl
theorem uG(h:e env U=some (v,hp1))(h':e' env hp1=some (v',hp2))(a:e'' env hp2=some (v'',hp3))(b:e3 env hp3=some (v3,dJ))(c:e4 env dJ=some (v4,fY))(d:e5 env fY=some (v5,m7))(f:e6 env m7=some (v6,tG)):Qa e (Qa e' (Qa e'' (Qa e3 (Qa e4 (Qa e5 (Qa e6 Qj)))))) env U=some ([v,v',v'',v3,v4,v5,v6],tG):=by show(e env >>= λx=>Qa e' (Qa e'' (Qa e3 (Qa e4 (Qa e5 (Qa e6 Qj))))) env >>= λxs=>pure (x::xs)) U=_;rw[Qg h,Qg (K2 h' a b c d f)];rfl
theorem gG{x:DV}{ds:List DV}(a:ZY x=true)(c:ds.all ZY=true)(U:Hs):eF x (.tup ds) U=some (.bl (inB x ds),U):=by show((QM (ZY x&&ds.all ZY) >>= λ_=>pure (inB x ds)) >>= λb=>pure (DV.bl b):M DV) U=_;rw[a,c];rfl
end
section
variable{X:Cx}{tg e a b c:Expr}{f fa fb:au}{pos:Pos}
def su(d:DV)(lo hi:Option Int):M DV:=match d with
  |.ref n=>do
    match <- Zi n with
    |.lst ds=>pure (.lst (JE ds lo hi))
    |_=>failure
  |d=>oW d lo hi
def Vn(f:au)(lo hi:fO):au:=λenv=>do let d <- f env;let l <- lo env;let h <- hi env;su d l h
def Hh(K:Aa):V->Option Int->Option Int->Hp->VK->Prop:=λx lo hi H Q=>∃ρ B U d r h,aW K ρ B U H/\ao K ρ B H d x/\su d lo hi U=some (r,h)/\fB K ρ B H r h Q
theorem H_:SlR X (Hh X.K):=by
  intro j s σ H x v vl vu lo hi sl Q I rx hs pl pu h;obtain⟨ρ,B,U,d,r,i,W,m,e,k⟩:=h;cases d with
  |ref n =>
    obtain⟨o,hp1,q,l⟩:=bind_some e;obtain⟨t,rfl⟩:=Zl q;cases o with
    |lst ds=>obtain⟨rfl,rfl⟩:=Qk l;obtain⟨a,rfl,_,xs,u,l1⟩:=ao.aX W m t;exact VV j s σ H _ v vl vu lo hi sl Q I rx hs pl pu ⟨a,xs,rfl,SqL.of u,XF W (qm l1) k⟩
    |aB _=>cases l
    |ins _ _=>cases l
  |lst ds=>exact q_ j s σ H x v vl vu lo hi sl Q I rx hs pl pu ⟨ρ,B,U,_,r,i,W,m,e,k⟩
  |tup ds=>exact q_ j s σ H x v vl vu lo hi sl Q I rx hs pl pu ⟨ρ,B,U,_,r,i,W,m,e,k⟩
  |non=>cases e
  |bl _=>cases e
  |int _=>cases e
  |str _=>cases e
theorem Vh{lo hi:Option Expr}{ol oh:fO}{I:Pos}(h:DE X e f)(F:DO X lo ol)(C:DO X hi oh):DE X (.Subscript e (.Slice lo hi none I) pos) (Vn f ol oh) :=
 L2.PE.imp (xy H_ h F C) λσ H Q q=>by obtain⟨Z,env,ρ,B,U,d,i,S,e,k⟩:=q;obtain⟨x,hp1,r,e⟩:=bind_some e;obtain⟨l,hp2,t,e⟩:=bind_some e;obtain⟨u,j,y,e⟩:=bind_some e;refine tD.run S r λv ρ1 B1 H1 z S1 J=>iy.run S1 t λρ2 B2 H2 m S2=>iy.run S2 y λρ3 o H3 n S3=>?_;exact⟨ρ3,o,j,x,d,i,S3.wo,ao.grow S1.wo.rb (m.trans n) _ _ J,e,k.after (z.trans (m.trans n))⟩
end
theorem Iw(ds:List DV)(a b:Nat)(h:a<=b):D.JE ds (some (a:Int)) (some (b:Int))=(ds.drop a).take (b-a):=by
 unfold D.JE;rw[HT.sIx_nat,HT.sIx_nat];rcases Nat.le_total a ds.length with q|q
 ·rw[Nat.min_eq_left q];rcases Nat.le_total b ds.length with c|c
  ·rw[Nat.min_eq_left c]
  ·rw[Nat.min_eq_right c,Bw (by simp),Bw (by simp;lia)]
 ·rw[Nat.min_eq_right q,B0 q,B0 (Ae _)];simp
section
variable{env:En}{U hp1 hp2 hp3:Hs}{f g h:au}{ds:List DV}{d:DV}
theorem RT{a b:Nat}(hf:f env U=some (.lst ds,U))(l:g env U=some (.int (a:Int),U))(m:h env U=some (.int (b:Int),U))(c:a<=b):aZ f (QH g) (QH h) env U=some (.lst ((ds.drop a).take (b-a)),U):=by
 unfold aZ QH;rw[Qg hf];have e:(do let i <- f9 (<- g env);pure (some i):M (Option Int)) U=some (some (a:Int),U):=by rw[Qg l];rfl
 have j:(do let i <- f9 (<- h env);pure (some i):M (Option Int)) U=some (some (b:Int),U):=by rw[Qg m];rfl
 rw[Qg e,Qg j,<- Iw ds a b c];rfl
theorem Zp{i:Nat}(hf:f env U=some (.lst ds,U))(a:g env U=some (.int (i:Int),U))(hd:ds[i]?=some d):Qf aq f g env U=some (d,U):=by
 refine Qp hf a ?_;show eZ (.lst ds) (.int (i:Int)) U=_;rw[XI (d:=d)]
 ·rfl
 ·rw[uJ ⋯ (by have:=(Ac.mp hd).1;lia)];exact hd
def QN{i:Nat}(hf:f env U=some (.tup ds,U))(a:g env U=some (.int (i:Int),U))(hd:ds[i]?=some d):Qf aq f g env U=some (d,U):=Qp hf a (CV hd U)
def Yd{i n:Nat}(hf:f env U=some (.ref n,U))(b:U[n]?=some (.lst ds))(a:g env U=some (.int (i:Int),U))(hd:ds[i]?=some d):Qf aq f g env U=some (d,U):=Qp hf a (RX b hd)
def Xl(hf:f env U=some (.lst ds,U)):QR Zo (Qa f Qj) env U=some (.int ds.length,U):=Jd (Zd hf) (gY ds U)
def qE{n:Nat}(hf:f env U=some (.ref n,U))(a:U[n]?=some (.lst ds)):QR Zo (Qa f Qj) env U=some (.int ds.length,U):=Jd (Zd hf) (gZ a)
def Z3{i j:Int}(hf:f env U=some (.int i,U))(a:g env U=some (.int j,U)):Qf QP f g env U=some (.int (i+j),U):=Qp hf a rfl
def jD{i j:Int}(hf:f env U=some (.int i,U))(a:g env U=some (.int j,U)):Qf qb f g env U=some (.int (i-j),U):=Qp hf a rfl
def jZ{i j:Int}(hf:f env U=some (.int i,U))(a:g env U=some (.int j,U)):Qf eG f g env U=some (.bl (decide (j<i)),U):=Qp hf a rfl
def xi{i j:Int}(hf:f env U=some (.int i,U))(a:g env U=some (.int j,U)):Qf cj f g env U=some (.bl (decide (i<j)),U):=Qp hf a rfl
def JI{i j:Int}(hf:f env U=some (.int i,U))(a:g env U=some (.int j,U)):Qf aK f g env U=some (.bl (i==j),U):=Qp hf a (Fq i j U)
theorem uI{i:Nat}(hf:f env U=some (d,hp1))(a:env[i]?=some (.acc ds))(b:ds.length<100000):UO i f env U=some ((.nx,env.set i (.acc (ds++[d]))),hp1):=by unfold UO;rw[Qg hf];simp only[a];rw[Ct (show ds.length<lim from b)];rfl
end
section
variable{prog:Program}{w:World}{A:Around}{E:C2}{s:Shared}
theorem R5:typeLookup (.type "list") "keys" = pure none:=am_miss_of_fast (by decide +kernel)
theorem R6{a:Addr}{o:Obj}{xs:Array Value}{k:Nat}{Q:Option Value->Shared->Prop}(hx:s.heap.get? a=some o)(l:o.cls=.type "list")(b:o.data=.seq xs k)(hd:o.dict=none)(q:A.handled=none)
  (h:∀h' tk e,Heap.NewExcOf s.heap h' e "AttributeError" -> Q none { s with heap:=h',toks:=tk }):wpAny (model prog w) A (getAttr? (.ref a) "keys") Q E s:=by
 obtain⟨c,n,m,r⟩:=o;simp only at l b hd;subst l b hd;obtain⟨U,g,d,tk,os⟩:=s;have j:∀i,(⟨U,g,d,i,os⟩:Shared).TypeIs (.ref a) "list" := λ_=>⟨_,hx,rfl⟩;have t:=sub_AttributeError;have u:=PySem.F.slot_list_getattribute.lookup;have v:=PySem.F.slot_list_getattribute.bind (.ref a);have x:=am_list_getattr_none;unfold getAttr? getAttrBy? getAttrBy
 repeat (any_goals (first|assumption|exact j _|((with_reducible show wpAny _ _ (call (Value.builtin "list.__getattribute__") _ _) _ _ _);refine call_meets PySem.F.slot_list_getattribute (j _) am_entry_list_getattribute (PySem.F.args_list_getattribute_2 _ _) (meets_getattribute_miss_list a xs k r "keys" _ R5 (by decide +kernel)) ⟨hx,q,λh' i e f=>?_⟩)|wp_step))
 obtain⟨t',z,y⟩:=f.there;show wpAny _ _ (getattributeRaised _ _ _ _ _ _ _) _ _ _;unfold getattributeRaised
 repeat (any_goals (first|assumption|wp_step))
 exact h _ _ _ f.of
end
section
variable{prog:Program}{w:World}{K:Type}[DecidableEq K]{knd:KeyKind prog w K}{A:Around}{R:Result->Shared->Prop}
theorem yy:entryFor table "dict.update.loop" = some Builtin.«dict.update.loop»:=entryFor_of_tree (by kernel_rfl)
theorem Yz:plainId "dict.update.loop" = true:=by decide +kernel
def aQ(knd:KeyKind prog w K)(h:Heap)(u:Value)(a:K×Value):Prop:=∃t o n key,u=.ref t/\h.get? t=some o/\o.cls=.type "tuple" /\ o.data=.seq #[key,a.2] n/\knd.is a.1 key=true
theorem gb{d f l:Addr}{items:Array Value}{more:List (K×Value)}(hh:A.handled=none)(m:d≠f)(Ew:l≠d)(ad:l≠f)(hsz:more.length<=sizeLine)(ar:items.size=more.length) :
    ∀(k i:Nat)(s:Shared),more.length-i=k->i<=more.length->s.heap.IsListIter f l i->s.heap.IsList l items ->
    (∀(j:Nat)(u:Value)(O:K×Value),items[j]?=some u->more[j]?=some O->aQ knd s.heap u O/\u≠.ref d/\u≠.ref f)->s.heap.DictOf knd d (merged [] (more.take i)) ->
    (∀h' t',h'.DictOf knd d (merged [] more)->(∀b o,b≠d->b≠f->s.heap.get? b=some o->h'.get? b=some o)->R (.ok (.ret .none)) { s with heap:=h',toks:=t' }) ->
    codeAny (model prog w) A (.builtin "dict.update.loop" ⟨[.ref d,.ref f,rawInt i,.none],[]⟩) R s:=by
  intro k;induction k with
  |zero =>
    intro i s hk hi q L U hd T;have Z:i=more.length:=⋯
    refine codeAny_builtin yy ?_;rw[Around.under_plainId Yz _];show wpAny _ A.in1 (pyNext (.ref f) >>= _) _ _ s;refine Cr (wpAny_pyNext_list_end (by exact hh) q L (by rw[Array.getElem?_eq_none];lia) λh' hx=>?_);refine Cr (Cu (Cu (T h' s.toks ?_ λb o x c e=>hx b o c e)));rw[Z,List.take_length]at hd;obtain⟨o,es,ep,ho,r⟩:=hd;exact⟨o,es,ep,hx d o m ho,r⟩
  |succ k ih =>
    intro i s hk hi q L U hd T;have av:i<more.length:=⋯
    obtain⟨u,hu⟩:∃u,items[i]?=some u:=⟨items[i]'⋯,Array.getElem?_eq_getElem _⟩;have C:more[i]?=some more[i]:=Ab _;obtain⟨⟨t,o,n,key,rfl,ht,ah,am,h⟩,n1,n2⟩:=U i u _ hu C;refine codeAny_builtin yy ?_;rw[Around.under_plainId Yz _];show wpAny _ A.in1 (pyNext (.ref f) >>= _) _ _ s;refine Cr (wpAny_pyNext_list_item q L hu λh1 z v=>?_);have td:t≠d:=λe=>n1 (by rw[e]);have ti:t≠f:=λe=>n2 (by rw[e]);have I:h1.get? t=some o:=(v.2 t ti).trans ht;refine Cr (wpAny_holding ?_);refine Cr (wpAny_tryCatch ?_);unfold Builtin.Dict.pairItems;refine Cr (wpAny_typeOf ⟨o,I,ah⟩ ?_);rw[Ct (by decide)];refine Cr (wpAny_seqItems I am (Cu ?_));show wpAny _ _ (holding [key,more[i].2] (dictSet d key more[i].2)) _ _ _;refine wpAny_holding ?_;unfold dictSet
    try with_reducible refine wpAny_holding ?_
    obtain⟨od,es,ep,ae,rd⟩:=hd;have Y:h1.DictOf knd d (merged [] (more.take i)):=⟨od,es,ep,(v.2 d m).trans ae,rd⟩;have ml:(merged [] (more.take i)).length<=sizeLine:=by have:=merged_length_le (K:=K) [] (more.take i);rw[Az]at this;simp at this;lia
    refine Cr (knd.pyHash h (wpAny_dictSetHashed_pairs (hsz:=ml) h Y λh2 y F=>?_));rw[<- merged_take_succ [] more i _ C]at y;have keep:∀b o,b≠d->b≠f->s.heap.get? b=some o->h2.get? b=some o:=λb o x c e=>(F.2 b x).trans ((v.2 b c).trans e);obtain⟨oi,af,ri⟩:=z;obtain⟨ol,ag,rl⟩:=L;refine Cu ⟨plainId_quiet Yz _,?_⟩;refine ih (i+1) _ ⋯ ⋯ ⟨oi,(F.2 f m.symm).trans af,ri⟩ ⟨ol,keep l ol Ew ad ag,rl⟩ (λj u O P Q=>?_) y λh' t' X aa=>?_
    . obtain⟨⟨t',o',n',J,rfl,a,b⟩,c1,c2⟩:=U j u O P Q
      exact⟨⟨t',o',n',J,rfl,keep t' o' (λe=>c1 (by rw[e])) (λe=>c2 (by rw[e])) a,b⟩,c1,c2⟩
    . exact T h' t' X λb o x c e=>aa b o x c (keep b o x c e)
end
section
variable{prog:Program}{w:World}{K:Type}[DecidableEq K]{knd:KeyKind prog w K}{A:Around}{E:C2}{s:Shared}
theorem jJ{l:Addr}{o:Obj}{items:Array Value}{n:Nat}{more:List (K×Value)}{Q:C2}(X:A.handled=none)(P:s.heap.get? l=some o)(I:o.cls=.type "list")(d:o.data=.seq items n)(L:o.dict=none)
  (hsz:more.length<=sizeLine) (hlen:items.size=more.length) (U:∀(j:Nat)(u:Value)(x:K×Value),items[j]?=some u->more[j]?=some x->aQ knd s.heap u x)
  (h:∀h' t',h'.DictOf knd s.heap.objs.size (merged [] more)->(∀b o,s.heap.get? b=some o->h'.get? b=some o)->Q (.ref s.heap.objs.size) { s with heap:=h',toks:=t' }) :
  wpAny (model prog w) A (call (.type "dict") [.ref l]) Q E s:=by
 refine callType_codes (Q₁:=λobj s₁=>obj=.ref s.heap.objs.size/\s₁={ s with heap:=s.heap.push { cls:=.type "dict", data:=.dict #[] } }) PySem.F.kt_called_dict (PySem.F.kt_typeCall_dict_1 _) PySem.F.entry_dict_init (kt_code_dict_new _ ⟨rfl,rfl⟩) ?_;rintro obj s₁ ⟨rfl,rfl⟩;have c:(s.heap.push { cls:=.type "dict", data:=.dict #[] }).DictOf knd s.heap.objs.size []:=Heap.DictOf.new s.heap;have f:(s.heap.push { cls:=.type "dict", data:=.dict #[] }).get? l=some o:=Ad _ P;have T:∀b q,s.heap.get? b=some q->b≠s.heap.objs.size:=λb q e z=>absurd (Ao e) (by rw[z];exact Cf _);refine⟨c.typeIs,PySem.F.args_dict_init_2 _ _,?_⟩;unfold Builtin.«dict.__init__»;refine Cr ?_;unfold Builtin.Dict.selfAndRest;refine Cr (wpAny_notOrdered_dict c.typeIs ?_);show wpAny _ _ (pure (s.heap.objs.size,[Value.ref l])) _ _ _;refine Cu ?_;show wpAny _ _ (Builtin.Dict.updateFrom "dict.__init__" s.heap.objs.size (.ref l) [] .none) _ _ _;unfold Builtin.Dict.updateFrom;refine Cr (wpAny_typeOf ⟨o,f,I⟩ ?_);rw[Ct (by decide)];refine Cr (R6 f I d L (by exact X) λv t1 e1 hx=>?_);rw[Ct (show(none:Option Value).isNone=true from rfl)];refine Cr (wpAny_rule ?_);have m:v.IsList l items:=⟨o,hx.keeps l o f,I,n,d⟩;refine Cr (wpAny_pyIter_list m ?_);have Z:s.heap.objs.size≠v.objs.size:=λz=>by obtain⟨Y,_,_,i,_⟩:=c;exact absurd (Ao (hx.keeps _ _ i)) (by rw[z];exact Cf _)
 have kp:∀b q,s.heap.get? b=some q->(v.push { cls:=.type "list_iterator", data:=.fields #[.ref l,.int 0 0] }).get? b=some q:=λb q e=>Ad _ (hx.keeps b q (Ad _ e));have R:∀b q,s.heap.get? b=some q->b≠v.objs.size:=λb q e z=>absurd (Ao (hx.keeps b q (Ad _ e))) (by rw[z];exact Cf _);refine Cu ⟨plainId_quiet Yz _,?_⟩;refine gb (knd:=knd) (l:=l) (items:=items) (more:=more) (by exact X) Z (T l o P) (R l o P) hsz hlen more.length 0 _ rfl (A5 _) ⟨_,As _ rfl,rfl,rfl⟩ (m.push _) (λj u x y C=>?_) ?_ λh' t' J O=>⟨rfl,h h' t' J λb q e=>O b q (T b q e) (R b q e) (kp b q e)⟩
 ·obtain⟨t,o',n',key,rfl,a,b⟩:=U j u x y C;exact⟨⟨t,o',n',key,rfl,kp t o' a,b⟩,λe=>T t o' a (by injection e),λe=>R t o' a (by injection e)⟩
 ·obtain⟨Y,es,ep,i,r⟩:=c;exact⟨Y,es,ep,Ad _ (hx.keeps _ _ i),r⟩
end
section
variable{X:Cx}
def iQ:List DV->Option (List (Key×DV))
  | []=>some []
  |.tup [k,v]::r=>match ya k,iQ r with
    |some k,some ps=>some ((k,v)::ps)
    |_,_=>none
  |_=>none
def nO:DV->M (List DV)
  |.lst ds=>pure ds
  |.ref n=>do
    match <- Zi n with
    |.lst ds=>pure ds
    |_=>failure
  |_=>failure
theorem S_{d:DV}{ds:List DV}{U b:Hs}{K:Aa}{ρ:C9}{B:C8}{H:Hp}{v:V}(W:aW K ρ B U H)(r:ao K ρ B H d v)(h:nO d U=some (ds,b)):U=b/\∃p xs,v=.ref p/\SqL K H p xs/\aj K ρ B H ds xs:=by
  cases d with
  |lst xs=>obtain⟨rfl,rfl⟩:=Qk h;obtain⟨a,ys,rfl,_,j,l⟩:=r.bV;exact⟨rfl,a,ys,rfl,j,l⟩
  |ref n =>
    obtain⟨o,hp1,e,c⟩:=bind_some (show(Zi n >>= λo=>(match o with|.lst ds=>pure ds|_=>failure:M (List DV))) U=some (ds,b)from h);obtain⟨f,rfl⟩:=Zl e;cases o with
    |lst m=>obtain⟨rfl,rfl⟩:=Qk c;obtain⟨a,rfl,_,ys,i,l1⟩:=ao.aX W r f;exact⟨rfl,a,ys,rfl,SqL.of i,l1⟩
    |aB _=>cases c
    |ins _ _=>cases c
  |non=>cases h
  |bl _=>cases h
  |int _=>cases h
  |str _=>cases h
  |tup _=>cases h
def nJ(o:Option α):M α:=match o with
 |some a=>pure a
 |none=>failure
theorem kB{o:Option α}{a:α}{U b:Hs}(h:nJ o U=some (a,b)):o=some a/\U=b:=by
 cases o with
 |none=>cases h
 |some z=>obtain⟨rfl,rfl⟩:=Qk h;exact⟨rfl,rfl⟩
def oJ:List DV->M DV:=kA λd=>do
 let ds <- nO d
 let ps <- nJ (iQ ds)
 Xg (.aB (Y4 [] ps))
theorem OD{O:C4}{σ:St}{H:Hp}{s:Shared}{ρ:C9}{B:C8}(I:Inv X O σ H s):∀{ds:List DV}{kvs:List (Key×DV)}{ys:List V}{f:List Value},iQ ds=some kvs->aj X.K ρ B H ds ys->Vals ys f ->
    ∃(q:List (Key×V))(more:List (Key×Value)),aO X.K ρ B H kvs q/\KV q more/\f.length=more.length/\∀(j:Nat)(u:Value)(i:Key×Value),f[j]?=some u->more[j]?=some i->aQ (Zc X.prog X.w) s.heap u i:=by
  intro ds;induction ds with
  |nil=>intro kvs ys f h r v;cases h;unfold aj at r;subst r;cases v;exact⟨[],[],.nil,.nil,rfl,λj u i h=>by simp at h⟩
  |cons d ds ih =>
    intro kvs ys f h r v;unfold aj at r;obtain⟨y,ad,rfl,r1,r2⟩:=r;cases v with
    |@cons _ u _ us v1 v2 =>
    obtain⟨k,dv,rfl,m,ps,hk,t,rfl⟩:∃k dv,d=.tup [k,dv]/\∃m ps,ya k=some m/\iQ ds=some ps/\kvs=(m,dv)::ps:=by
      unfold iQ at h;split at h
      . rename_i e;cases e
      . rename_i k v r e
        injection e with Z e2;subst Z e2;split at h
        . rename_i a b c d;cases h;exact⟨_,_,rfl,_,_,c,d,rfl⟩
        . cases h
      . cases h
    obtain⟨q,more,P,Q,R,T⟩:=ih t r2 v2;obtain⟨a,xs,rfl,_,sq,l⟩:=r1.tupI;obtain⟨x1,r',rfl,U,l⟩:=(show ∃x r,xs=x::r/\ao X.K ρ B H k x/\aj X.K ρ B H [dv] r by unfold aj at l;exact l);obtain⟨x2,aa,rfl,Y,l⟩:=(show ∃x r,r'=x::r/\ao X.K ρ B H dv x/\aj X.K ρ B H [] r by unfold aj at l;exact l);unfold aj at l;subst l;obtain rfl:=JA hk U;cases v1;obtain⟨L,C,pl,hz⟩:=I.tuple sq;cases C with
    |@cons _ w1 _ ws q1 z =>
    cases z with
    |@cons _ w2 _ ws z q3 =>
    cases q3;obtain⟨o,ho,hc,n,hd⟩:=pl;refine⟨(m,x2)::q,(m,w2)::more,.cons ⟨rfl,Y⟩ P,.cons ⟨rfl,z⟩ Q,by simp[R],λj u i F J=>?_⟩;cases j with
    |zero=>cases F;cases J;exact⟨a,o,n,w1,rfl,ho,hc,hd,YM q1⟩
    |succ j=>exact T j u i F J
theorem SN(Y:X.calm=true):Z5 X (.type "dict") (fK X.K oJ):=by
 intro O9 s σ H xs us Q I r h;obtain⟨ρ,B,U,ds,d,aa,W,rl,e,k⟩:=h;obtain⟨x,rfl,e⟩:=zD e;obtain⟨zs,hp1,L,O⟩:=bind_some e;obtain⟨kvs,hp2,P,R⟩:=bind_some O;obtain⟨T,rfl⟩:=kB P;cases R;obtain⟨v,rfl,rv⟩:=rl.cg;obtain⟨rfl,p,ys,rfl,sq,l⟩:=S_ W rv L;obtain⟨u,rfl,rx⟩:=Ys r;cases rx;obtain⟨ad,C,pl,hz⟩:=I.list sq;obtain⟨o,n,Z,i,m,b⟩:=pl;obtain⟨c,more,F,q,t,J⟩:=OD I T l C;have zm:more.length<=sizeLine:=by rw[<- t,<- C.length];exact hz
 have zk:(Yg [] c).length<=sizeLine:=by have f:=YO c [];have y:=q.length;rw[List.length_nil]at f;lia
 refine jJ (knd:=Zc X.prog X.w) (I.ok.hd Y) Z i b m zm (by simpa using t) (λj u kv f y=>J j u kv (by simpa using f) y) λh' t' dd kp=>?_;have z:=I.hok.fresh (Ae s.heap.objs.size);refine⟨.ref s.heap.objs.size,_,I.laid (a:=s.heap.objs.size) (o:=.dK (Yg [] c)) (t':=t') kp (Ae _) (Vi zk (beq_eq_false_iff_ne.mpr (Ne.symm (A6 I.big))) (q.merge .nil) dd),rfl,?_⟩;have g:Gr X.K ρ B H (ρ++[s.heap.objs.size]) (YX B s.heap.objs.size) (upd H s.heap.objs.size (.dK (Yg [] c))):=Gr.dw z I.eE;refine k _ _ _ _ g (W.dw z I.eE (aO.fD (aO.gs ?_ (aO.merge F (kvs:=[]) (xs:=[]) .nil)) Q5)) ?_
 ·exact g.gs W.rb
 ·unfold ao;exact⟨_,rfl,by rw[<- W.len];simp⟩
end
end D
namespace L2
open PySem PySem.Spec PyProof.Rows
section
variable{X:Cx}{O9:C4}{σ:L2.St}
end
section
variable{X:Cx}
end
end L2
namespace D
open PySem PySem.Spec PyProof.Rows L2
theorem aj.of_get{K:Aa}{ρ:C9}{B:C8}{H:Hp}:∀{ds:List DV}{a:List V},ds.length=a.length->(∀(m:Nat)(d:DV)(t:V),ds[m]?=some d->a[m]?=some t->ao K ρ B H d t)->aj K ρ B H ds a
  | [],[],_,_=>by unfold aj;rfl
  | [],_::_,h,_=>by cases h
  |_::_,[],h,_=>by cases h
  |d::ds,t::a,h,f=>by unfold aj;exact⟨t,a,rfl,f 0 d t rfl rfl,aj.of_get (Nat.succ.inj h) λm x y b c=>f (m+1) x y b c⟩
theorem Gr.more{K:Aa}{ρ:C9}{B:C8}{H H':Hp}(kp:∀c q,H c=some q->H' c=some q):Gr K ρ B H ρ B H' :=
 ⟨Bz,λ_ h=>h,λ_ h=>.inl h,λ_ z=>.inl z,λa o _ h=>kp a o h,λa q=>by
  cases e:H a with
  |none=>rfl
  |some o=>rw[kp a o e]at q;cases q⟩
theorem aW.more{K:Aa}{ρ:C9}{B:C8}{U:Hs}{H H':Hp}(W:aW K ρ B U H)(kp:∀c q,H c=some q->H' c=some q):aW K ρ B U H' where
 len:=W.len
 nd:=W.nd
 obj:=λi a u e q=>by
  refine bB.gs ((Gr.more kp).gs W.rb) ?_ (W.obj i a u e q);have:=W.bt a (W.rb a (At e));cases z:H a with
  |none=>exact absurd z this
  |some o=>exact kp a o z
 rb:=W.rb
 bt:=λa h z=>by
  have:=W.bt a h;cases y:H a with
  |none=>exact this y
  |some o=>rw[kp a o y]at z;cases z
 bk:=W.bk
section
variable{X:Cx}{f g:au}
end
structure UF(K:Aa)(mg:C5)(x:Str)(st:Stmt):Prop where
 ex:∃g fd,Fun K x x st g fd/\mg x=some (.ref g)
structure UC(K:Aa)(c:Str):Prop where
 ex:∀C,bL K c C->Cls K C
structure UM(K:Aa)(c m q:Str)(st:Stmt):Prop where
 ex:∃C g fd,Fun K m q st g fd/\bL K c C/\Cls K C/\Ka K C m g
structure UI(K:Aa)(mg:C5)(c q:Str)(st:Stmt):Prop where
 ex:∃C g fd,Fun K "__init__" q st g fd/\bL K c C/\mg c=some (.ref C)/\Mk K C g
structure UT(K:Aa)(mg:C5)(x:Str)(d:DV):Prop where
 ex:∃a,mg x=some (.ref a)/\bJ K d (.ref a)
section
variable{K:Aa}{h:Heap}{mg:C5}{f C:Addr}{x c m q:Str}{st:Stmt}{oc:Value}{od an:Option Addr}{osl:Array (Option Value)}{kV doc pm cdv ct:Value}{i:Int}{t:Tok}{d:DV}{a:Addr}
def uf(X:K.In h)(G:h.Ns mainGlobals mg)(n:PySem.W.nsIn K mainGlobals x=some (some (.ref f)))(l:K.lookup f=some ⟨oc,od,.func (PySem.W.fnOf x x (Z4 st) (Zw st) (Qs st) .none kV doc pm an cdv ct),osl⟩)(e:PySem.W.codeIn K cdv x=true)(k:PySem.W.keepIn K (.ref f)=true):UF K mg x st:=⟨_,_,Vs l e k,PySem.W.mg_of X G n⟩
theorem uc(X:K.In h)(n:PySem.W.nsIn K mainGlobals c=some (some (.ref C)))(p:PySem.W.plainGet K C Str.empty=true)(e:PySem.W.hasDictIn K C=true)(o:PySem.W.plainOver K C=true)(s:PySem.W.findIn K (.ref C) "__setattr__" = some (some (.builtin "object.__setattr__"))):UC K c:=⟨λj b=>by cases bL.uniq (show bL K c C from n) b;exact⟨p,e,o,s⟩⟩
def um(X:K.In h)(u:UC K c)(n:PySem.W.nsIn K mainGlobals c=some (some (.ref C)))(a:PySem.W.findIn K (.ref C) m=some (some (.ref f)))(b:PySem.W.isFn K (.ref f)=true)(l:K.lookup f=some ⟨oc,od,.func (PySem.W.fnOf m q (Z4 st) (Zw st) (Qs st) .none kV doc pm an cdv ct),osl⟩)(e:PySem.W.codeIn K cdv q=true)(k:PySem.W.keepIn K (.ref f)=true):UM K c m q st:=⟨_,_,_,Vs l e k,n,u.ex _ n,a,b,k⟩
def ui(X:K.In h)(G:h.Ns mainGlobals mg)(n:PySem.W.nsIn K mainGlobals c=some (some (.ref C)))(a:PySem.W.findIn K (.ref C) "__init__" = some (some (.ref f)))(b:PySem.W.isFn K (.ref f)=true)(l:K.lookup f=some ⟨oc,od,.func (PySem.W.fnOf "__init__" q (Z4 st) (Zw st) (Qs st) .none kV doc pm an cdv ct),osl⟩)(e:PySem.W.codeIn K cdv q=true)(k:PySem.W.keepIn K (.ref f)=true)(v:PySem.W.makesIn K C=true)(z:PySem.W.keepIn K (.ref C)=true):UI K mg c q st:=⟨_,_,_,Vs l e k,n,PySem.W.mg_of X G n,v,a,b,z⟩
def uk(X:K.In h)(u:UC K c)(n:PySem.W.nsIn K mainGlobals c=some (some (.ref C)))(a:PySem.W.findIn K (.ref C) x=some none):U8 K c x:=⟨C,n,u.ex _ n,a⟩
def ut(X:K.In h)(G:h.Ns mainGlobals mg)(n:PySem.W.nsIn K mainGlobals x=some (some (.ref a)))(r:bJ K d (.ref a)):UT K mg x d:=⟨_,PySem.W.mg_of X G n,r⟩
theorem ZK{N ps:List Str}{s:Scope}(h:(s.kind==.function&&!s.isCoroutine&&!s.isGenerator&&decide N.Nodup&&decide (N.take ps.length=ps)&&ps.all (λx=>decide (s.names.lookup x=some .local)||decide (s.names.lookup x=some .cell))&&s.names.all λy=>decide (y.2≠.free))=true:=by decide +kernel):QS N ps s:=by simp only[A4,Ca,decide_eq_true_eq,List.all_eq_true,Bool.or_eq_true]at h;obtain⟨⟨⟨⟨⟨⟨a,b⟩,c⟩,d⟩,e⟩,f⟩,g⟩:=h;refine⟨?_,b,c,d,e,f,λy j=>by have:=g y j;simpa using this⟩;revert a;cases s.kind<;>first|(intro _;rfl)|(intro z;exact absurd z (by decide))
end
section
variable{P:Program}{w:World}{K:Aa}{mg:C5}{O8:Heap}{x c m q:Str}{st:Stmt}{N ps:List Str}{k:Nat}{body:aG}
def Bn(ps:List Str)(x q:Str)(st:Stmt):Prop:=∀(kV b e:Value)(d:Option Addr)(a ct:Value)(us:List Value),us.length=ps.length->bindArgs (PySem.W.fnOf x q (Z4 st) (Zw st) (Qs st) .none kV b e d a ct) ⟨us,[]⟩=pure (ps.zip us)
def Bd(P:Program)(w:World)(K:Aa)(mg:C5)(O8:Heap)(N:List Str)(k:Nat)(q:Str)(st:Stmt)(body:aG):Prop:=∀(g:Addr)(a:Value)(A:Around)(outer:List Env)(s:Shared)(H:Hp)(E:XK),Room k (A.deeper (envOfC q (Qs st) s.heap.objs.size g a))->fJ (jb CX0 P w K mg O8 N q (Qs st) g a A outer s H E).nox (Zw st) body
theorem hf(u:UF K mg x st)(a:QS N ps (Qs st))(h:N.Nodup->Bd P w K mg O8 N k x st body:=by intro s _ _ _ _ _ _ _ f;trivial)(b:Bn ps x x st:=by intro _ _ _ _ _ _ us d;rcases us with _|⟨_,_|⟨_,_|⟨_,_|⟨_,_|⟨_,_|⟨_,_⟩⟩⟩⟩⟩⟩<;>first|rfl|cases d):Has P w K mg O8 x (k+1) ps.length (ZH N.length body):=let ⟨_,_,F,e⟩:=u.ex;gy F a e b (h a.nd _)
theorem hM(u:UM K c m q st)(a:QS N ps (Qs st))(h:N.Nodup->Bd P w K mg O8 N k q st body:=by intro s _ _ _ _ _ _ _ i;trivial)(b:Bn ps m q st:=by intro _ _ _ _ _ _ us d;rcases us with _|⟨_,_|⟨_,_|⟨_,_|⟨_,_|⟨_,_|⟨_,_⟩⟩⟩⟩⟩⟩<;>first|rfl|cases d):V2 P w K mg O8 c m (k+1) ps.length (ZH N.length body):=let ⟨_,_,_,F,f,cl,e⟩:=u.ex;ki f cl e F a b (h a.nd _)
theorem hI(u:UI K mg c q st)(a:QS N ps (Qs st))(h:N.Nodup->Bd P w K mg O8 N k q st body:=by intro s _ _ _ _ _ _ _ j;trivial)(b:Bn ps "__init__" q st:=by intro _ _ _ _ _ _ us d;rcases us with _|⟨_,_|⟨_,_|⟨_,_|⟨_,_|⟨_,_|⟨_,_⟩⟩⟩⟩⟩⟩<;>first|rfl|cases d):oG P w K mg O8 c (k+1) ps.length (ZH N.length body):=let ⟨_,_,_,F,i,e,f⟩:=u.ex;gH i e f F a b (h a.nd _)
end
def eN{α:Type}(m:M α)(k:α->Hs->Option (Str×Hs)):Hs->Option (Str×Hs):=λU=>(m U).bind λr=>k r.1 r.2
section
variable{X:Cx}{E:XK}{e o:Expr}{es:List Expr}{st:Stmt}{rest:List Stmt}{g g':C_}{f:aG}{pos apos p:Pos}{c m:Str}{fo:au}{fa:bR}
end
section
variable{X:Cx}{E:XK}{c:Str}{C:Addr}{np cpos pos p2:Pos}{msg:Str}{j:Nat}
end
section
variable{P:Program}{w:World}{K:Aa}{mg:C5}{O8:Heap}{x c m q:Str}{st:Stmt}{N ps:List Str}{k:Nat}{g:C_}
end
section
variable{K:Aa}{h:Heap}{mg:C5}{c sc a1 b1 b2 b3 b4:Str}{C SC A1 B1 B2 B3 B4:Addr}
end
section
variable{X:Cx}{a C:Addr}{oe:Obj}
end
section
variable{X:Cx}{E:XK}{l:List Stmt}{g g':C_}
end
section
variable{X:Cx}{c sc a1 b1 b2 b3 b4 x n nr no:Str}{e:Expr}{es:List Expr}{fa:bR}{p pos cpos epos hpos np p1 p2 p3 p4 p5 p6 p7 p8 p9 o8 T5 T4 T3 TY TX TQ TJ TF Tz q1 q2:Pos}{kt:Nat}
end
end D
namespace L2
open PySem PySem.Spec PyProof.Rows
section
variable{X:Cx}
def isI(i:Int):Value->Bool
 |.int a _=>a==i
 |_=>false
theorem xa:∀{vs:List Value}{ns:List Int},IntsAre vs ns->∀(j:Nat)(n:Int),ns[j]?=some n->∃t,vs[j]?=some (.int n t)
 |_,_,.cons _ t h,0,n,e=>by cases e;exact⟨t,rfl⟩
 |_,_,.cons _ t h,j+1,n,e=>xa h j n e
theorem j9:∀{vs:List Value}{ns:List Int},IntsAre vs ns->∀(j:Nat),IntsAre (vs.eraseIdx j) (ns.eraseIdx j)
 |_,_,.nil,j=>by simpa using IntsAre.nil
 |_,_,.cons _ t h,0=>h
 |_,_,.cons m t h,j+1=>.cons m t (j9 h j)
theorem Gq{i:Int}{t:Tok}:∀{vs:List Value}{ns:List Int},IntsAre vs ns->∀y∈vs,PySem.MeetsSeq.EqGives y (.int i t) (isI i y)
  |_,_,.cons _ u h,y,a=>by
    rcases Ba.mp a with rfl|a
    . exact PySem.MeetsSeq.EqGives.int _ _ _ _
    . exact Gq h y a
def Rp:V->List V->Hp->VK->Prop:=λx vs H Q=>∃(l:Addr)(ns:List Int)(i:Int)(j:Nat),x=.ref l/\vs=[.int i]/\H l=some (.lst (ns.map .int))/\ns[j]?=some i/\(∀m,m<j->ns[m]?≠some i)/\Q .non (upd H l (.lst ((ns.eraseIdx j).map .int)))
theorem vP:MtR X "list.remove" Rp:=by
 intro Z s σ H x vs v us Q I rx rv h;obtain⟨l,ns,i,j,rfl,rfl,o,O,d,q⟩:=h;cases rx;obtain⟨u,rfl,t,rfl⟩:=Ys rv;obtain⟨z,a,n,r,hl,e⟩:=I.lstM o;have b:IntsAre a ns:=D.YF r;obtain⟨U,f⟩:=xa b j i O;have T:j<a.toArray.size:=by rw[An];exact(Ac.mp f).1
 have C:a.toArray[j]=.int i U:=by have:=(Ac.mp f).2;simpa using this
 refine call_meets F.slot_list_remove ⟨_,e,rfl⟩ F.entry_list_remove (F.args_list_remove_2 _ _) (PySem.MeetsSeq.list_remove l a.toArray n (.int i t) (isI i) (λy R=>Gq b y (by simpa using R)) j T (by rw[C];exact beq_self_eq_true i) (λm P Es=>?_) ?_) ⟨e,?_⟩
 ·have c:m<ns.length:=by have:=b.length;rw[An]at P;lia
  obtain⟨Y,L⟩:=xa b m ns[m] (Ab c);have J:a.toArray[m]=.int ns[m] Y:=by have:=(Ac.mp L).2;simpa using this
  rw[J];refine Bool.eq_false_iff.mpr λz=>d m Es ?_;rw[Ab c,beq_iff_eq.mp z]
 ·rw[An];lia
 ·refine⟨.non,_,I.lset (its':=a.eraseIdx j) o e ?_ (D.Jt (j9 b j)) ?_,rfl,q⟩
  ·apply Array.toList_inj.mp;simp
  ·rw[Bf]at z ⊢;exact A9 (List.length_eraseIdx_le ns j) z
end
end L2
namespace D
open PySem PySem.Spec PyProof.Rows L2
section
variable{X:Cx}
def qH(x:DV):List DV->M DV
  | [.int i]=>mR x λn ds=>do
    let ns <- XO (Jz ds)
    QM (decide (i∈ns))
    qW n (.lst ((ns.erase i).map .int))
    pure .non
  |_=>failure
theorem gk(ns:List Int)(i:Int)(h:i∈ns):ns[ns.idxOf i]?=some i/\(∀m,m<ns.idxOf i->ns[m]?≠some i)/\ns.eraseIdx (ns.idxOf i)=ns.erase i:=by
 refine⟨?_,λm b q=>?_,?_⟩
 ·rw[Ab (List.idxOf_lt_length_iff.mpr h),List.getElem_idxOf]
 ·have a:m<ns.length:=(Ac.mp q).1;have:=List.not_of_lt_findIdx (xs:=ns) (p:=(· == i)) b;rw[Ab a]at q;cases q;simp at this
 ·rw[List.erase_eq_eraseIdx_of_idxOf rfl]
theorem kc:MtR X "list.remove" (lW X.K qH):=by
 intro f s σ H x vs v us Q I rx rv h;obtain⟨ρ,B,U,F,es,d,u,W,z,C,e,k⟩:=h;unfold qH at e;split at e
 ·rename_i i;obtain⟨n,ds,rfl,t,e⟩:=qK e;obtain⟨ns,hp1,q,e⟩:=bind_some e;obtain⟨hd,rfl⟩:=Jp q;obtain⟨_,hp2,r,e⟩:=bind_some e;obtain⟨hi,rfl⟩:=QF r;cases e;obtain⟨a,rfl,y,xs,c,l1⟩:=ao.aX W z t;obtain⟨w,rfl,b⟩:=C.cg;obtain rfl:=b.bf;obtain rfl:=Jm hd l1;obtain⟨l,m,o⟩:=gk ns i (Cz hi);obtain⟨g,j⟩:=qZ W y c (YE (ns.erase i));exact vP f s σ H _ _ v us Q I rx rv ⟨a,ns,i,ns.idxOf i,rfl,rfl,c,l,m,by rw[o];exact k .non ρ B _ g j XR⟩
 ·cases e
end
def uw(T:List (Str×Str)):List (Str×PyData):=T.map λp=>(p.1,.str p.2)
def wB(T:List (Str×Str)):DV->M DV
  |.str x=>match T.lookup x with
    |some y=>pure (.str y)
    |none=>failure
  |_=>failure
def vt(T:List (Str×Str))(f:au):au:=λenv=>do
 let d <- f env
 wB T d
theorem uv{T:List (Str×Str)}{d r:DV}{U a:Hs}(h:wB T d U=some (r,a)):∃k z,d=.str k/\T.lookup k=some z/\r=.str z/\a=U:=by
  cases d with
  |str k =>
    have h:(match T.lookup k with|some y=>pure (DV.str y)|none=>failure:M DV) U=some (r,a):=h;cases e:T.lookup k with
    |none=>rw[e]at h;cases h
    |some z=>rw[e]at h;cases h;exact⟨k,z,rfl,e,rfl,rfl⟩
  |_=>cases h
structure ou(K:Aa)(mg:C5)(x:Str)(T:List (Str×Str)):Prop where
 ex:∃a,mg x=some (.ref a)/\KTD.tabLook KTD.flatLooks (λb=>K.lookup b) a (uw T)=true
theorem G_{K:Aa}{h:Heap}{mg:C5}{x:Str}{a:Addr}{o:Obj}{T:List (Str×Str)}(X:K.In h)(G:h.Ns mainGlobals mg)(n:PySem.W.nsIn K mainGlobals x=some (some (.ref a)))(l:K.lookup a=some o)(r:KTD.tabLook KTD.flatLooks (λ_=>some o) a (uw T)=true):ou K mg x T :=
 ⟨_,PySem.W.mg_of X G n,by unfold KTD.tabLook at r ⊢;simp only[l];exact r⟩
theorem KP{x y:Str}:∀{T:List (Str×Str)},T.lookup x=some y->KTD.datumAt x ((uw T).map λp=>(p.1,KTD.Dat.flat p.2))=some (.flat (.str y))
  | [],h=>by cases h
  | (a,b)::r,h=>by
    show(if decide (x=a)=true then some (KTD.Dat.flat (.str b))else KTD.datumAt x ((uw r).map λp=>(p.1,KTD.Dat.flat p.2)))=_;by_cases e:x=a
    . rw[Ct (Cy e)]
      rw[List.lookup_cons,show(x==a)=true from beq_iff_eq.mpr e]at h;cases h;rfl
    . rw[Cs (by simpa using e)]
      rw[List.lookup_cons,show(x==a)=false from Bool.eq_false_iff.mpr λz=>e (beq_iff_eq.mp z)]at h;exact KP h
section
variable{X:Cx}{x:Str}{T:List (Str×Str)}{e:Expr}{p pos:Pos}
theorem Mi{ty:TE}(u:ou X.K X.mg x T)(hi:PE X e ty)(C:Gl X x)(hd:(x==("__debug__" : Str))=false)(L:rG e):PE X (.Subscript (.Name x p) e pos) (λσ H Q=>ty σ H λy f=>∃k z,y=.str k/\T.lookup k=some z/\Q (.str z) f):=by
 obtain⟨a,J,R⟩:=u.ex;intro n s σ H Q I h;refine PL PySem.F.slot_dict_getitem.lookup L (jr I C J (thn (hi n s σ H _ I h) λY c z=>?_) hd);obtain⟨y,f,i,U,k,z,rfl,j,q⟩:=z;obtain⟨t,rfl⟩:=U;have r:KTD.TabOf (λd v=>PyProof.V.Flat v d) c.heap a (uw T):=KTD.tab_of_look (λ_ _=>KTD.flat_of_looks) (λb o e=>i.kIn b o e) R;have TT:KTD.Here c.heap c.heap a ((uw T).map λp=>(p.1,KTD.Dat.flat p.2)):=⟨r.text,λ_ _ e=>e⟩;refine⟨TT.typeIs,?_⟩;unfold getItem
 try with_reducible refine wpAny_holding ?_
 refine Cr (wpAny_sequenceKey TT.typeIs (by decide) ?_);refine Cr (wpAny_callSpecial?_slot (name:=Str.ofString "__getitem__") TT.typeIs slot_dict_getitem
  (wpAny_call_entry slot_dict_getitem TT.typeIs entry_dict_getitem ?_ (args_dict_getitem _ _)))
 show wpAny _ _ (dictGet a (.str k t) >>= _) _ _ c;refine Cr (KTD.dictGet_text TT (λd v l O=>?_) λm=>?_)
 ·rw[KP j]at l;cases l;obtain⟨t',rfl⟩:∃t',v=.str z t':=KTD.Opened.of (h:=c.heap) (P:=λv=>∃t',v=.str z t') (KTD.opened_str λt'=>⟨t',rfl⟩) v O;exact Cu ⟨_,rfl,Cu ⟨.str z,f,i.tok _,⟨_,rfl⟩,q⟩⟩
 ·rw[KP j]at m;cases m
theorem N8{f:au}(u:ou X.K X.mg x T)(i:DE X e f)(j:Gl X x:=by rfl)(hd:(x==("__debug__" : Str))=false:=by decide)(m:rG e:=by intro _ _;rfl):DE X (.Subscript (.Name x p) e pos) (vt T f) :=
 (Mi u i j hd m).imp λσ H Q z=>by obtain⟨Z,env,ρ,B,U,d,l,S,a,k⟩:=z;obtain⟨y,hp1,b,c⟩:=bind_some a;refine tD.run S b λv ρ1 B1 H1 h S1 o=>?_;obtain⟨n,z,rfl,hz,rfl,rfl⟩:=uv c;exact⟨n,z,o.dM,hz,k _ ρ1 B1 H1 h S1.wo Rm⟩
end
section
variable{X:Cx}
end
section
variable{P:Program}{w:World}{K:Aa}{mg:C5}{O8:Heap}{x:Str}{st:Stmt}{N ps:List Str}{k:Nat}{body:aG}
theorem tL(u:UF K mg x st)(a:QS N ps (Qs st))(h:N.Nodup->Bd P w K mg O8 N k x st body:=by intro s _ _ _ _ _ _ _ e;trivial)(b:Bn ps x x st:=by intro _ _ _ _ _ _ us c;rcases us with _|⟨_,_|⟨_,_|⟨_,_|⟨_,_|⟨_,_|⟨_,_|⟨_,_⟩⟩⟩⟩⟩⟩⟩<;>first|rfl|cases c):Has P w K mg O8 x (k+1) ps.length (ZH N.length body):=let ⟨_,_,F,d⟩:=u.ex;gy F a d b (h a.nd _)
end
section
variable{X:Cx}
end
section
variable{env aY:En}{U hp1:Hs}{f g:aG}{c:bO}{r:Option ((Fl×En)×Hs)}
def Gk{α:Type}{xs:List α}{i:Nat}{x:α}(h:xs[i]?=some x):i<xs.length:=(Ac.mp h).1
def gB{α:Type}{xs ys:List α}{i:Nat}{x:α}(h:xs[i]?=some x):(xs++ys)[i]?=some x:=(Ag (Gk h)).trans h
end
end D
namespace L2
open PySem PySem.Spec PyProof.Rows
section
variable{X:Cx}
theorem Inv.lE{d:C4}{σ:St}{H H':Hp}{s:Shared}{h':Heap}{t':Nat}(I:Inv X d σ H s)(k:∀b u,s.heap.get? b=some u->h'.get? b=some u)(a:∀b o,H b=some o->H' b=some o)
    (new:∀b o,H' b=some o->H b=some o∨(s.heap.objs.size<=b/\ObjOk X.prog X.w H' h' b o)):Inv X d σ H' { s with heap:=h',toks:=t' }:=by
  refine I.un ⟨λb u q _ _ _=>k b u q,λb u q _ _ _=>⟨u.slots,k b u q⟩,λb u q n _=>?_,λb u q _=>⟨u,k b u q⟩,λb xs q=>a b _ q,λb u xs q=>a b _ q,λb ps q=>⟨#[],by rw[a b _ q];simp⟩⟩ λb o e=>?_
  . cases e:H' b with
    |none=>rfl
    |some o =>
      rcases new b o e with h|⟨h,_⟩
      . rw[n]at h;cases h
      . exact absurd (Av (Ao q) h) (Cf _)
  . rcases new b o e with h|⟨_,h⟩
    . exact(I.hok b o h).stay (λc v _ q=>k c v q) (λc q=>a c _ q) λc xs q=>a c _ q
    . exact h
theorem gR{κ:Type}:∀{kvs:List (κ×V)}{vs:List (κ×Value)}{i:Nat}{x:κ×V},KV kvs vs->kvs[i]?=some x->∃y,vs[i]?=some y/\x.1=y.1/\RelV x.2 y.2
 |_,_,0,_,.cons a _,e=>by cases e;exact⟨_,rfl,a⟩
 |_,_,i+1,_,.cons _ b,e=>gR (i:=i) b e
theorem yR:∀a:List Addr,Vals (a.map V.ref) (a.map Value.ref)
 | []=>.nil
 |_::a=>.cons rfl (yR a)
def eN(z:C7)(n:Int):Int:=((z.find? λp=>decide (p.1=n)).map (·.2)).getD 0
theorem qz:∀{z:C7},(z.map (·.1)).Nodup->∀p∈z,eN z p.1=p.2
  |q::z,nd,p,U=>by
    obtain⟨a,b⟩:=Ce.mp nd;unfold eN;rw[Bp];rcases Ba.mp U with rfl|U
    . simp
    . have ne:¬ q.1=p.1:=λe=>a (Co.mpr ⟨p,U,e.symm⟩)
      simp only[ne,decide_false];exact qz b p U
theorem kH{o:Expr}{to:TE}{p r C ah:Pos}(lF:Gl X "sorted")(ag:X.mg "sorted" = none)(hc:X.calm=true)(ho:PE X o to)
    (hbase:attributeBase o "items" X.env (eval o X.env)=eval o X.env:=by rfl) (hline:(r.endLine==C.line)=true:=by rfl)
    (hs3:starEach [.Call (.Attribute o "items" r) [] [] C] X.env=[(false,eval (.Call (.Attribute o "items" r) [] [] C) X.env)]:=by rfl) :
    PE X (.Call (.Name "sorted" p) [.Call (.Attribute o "items" r) [] [] C] [] ah) (λσ H Q=>to σ H λv P=>∃(a:Addr) (z:C7),v=.ref a/\P a=some (.dK (z.map λp=>(.inl p.1,.int p.2)))/\(z.map (·.1)).Nodup /\
      ∀(l:Addr)(H':Hp)(d:C9)(O:C7),O.Perm z->O.Pairwise (λp q=>p.1<=q.1)->P l=none->(∀b o,P b=some o->H' b=some o)->H' l=some (.lst (d.map .ref))->d.length=O.length->(∀(m:Nat)(b:Addr)(q:Int×Int),d[m]?=some b->O[m]?=some q->P b=none/\H' b=some (.tup [.int q.1,.int q.2]))->Q (.ref l) H'):=by
  intro O9 s σ H Q I h;refine wpAny_Call_Name_kw (XL I lF ag boot_sorted ?_);refine PyProof.Rows.callWith_builtin1 ?_ hs3 rfl;rw[hs3];show wpAny _ _ (spliced ((false,eval (.Call (.Attribute o "items" r) [] [] C) X.env)::[])) _ _ s;refine Calls.spliced_cons (wpAny_Call_method0_late hbase hline (thn (ho O9 s σ H _ I h) λv L ⟨x,P,I1,r1,q1⟩=>?_));obtain⟨a,z,rfl,hd,nd,q⟩:=q1;have hh:X.A.handled=none:=I1.ok.hd hc;obtain⟨hz,lo,vs,kv,aa⟩:=jO I1.hok hd;obtain⟨ep,af⟩:=aa.dictAt;obtain⟨f,h2⟩:=CQ (T := "dict") I1 r1 (.inr (.inr (.inl ⟨rfl,.inl ⟨_,hd⟩⟩)));cases r1;refine⟨"dict", "dict.items", PySem.F.plainAttrs_dict,PySem.F.slot_dict_items,PySem.F.type_dict_items,f,h2,Calls.callWith_builtin rfl (PySem.evalArgs_none ?_)⟩;refine call_meetsIn PySem.F.slot_dict_items aa.typeIs PySem.F.entry_dict_items (PySem.F.args_dict_items_1 _) (meets_dict_items (Zc X.prog X.w) a lo) ⟨⟨vs,aa⟩,Calls.spliced_nil ?_⟩;have kl:z.length=vs.length:=by have:=Paired.length kv;rw[Bf]at this;exact this
  have zl:z.length<=sizeLine:=by rw[Bf]at hz;exact hz
  have I2:Inv X O9 σ P { L with heap:=L.heap.push { cls:=.type "dict_items", data:=.fields #[.ref a] },toks:=L.toks }:=I1.kept λb u e=>Ad _ e;have ve:∀(j:Nat)(k:Key)(u:Value),vs[j]?=some (k,u)->∃p t,z[j]?=some p/\k=.inl p.1/\u=.int p.2 t:=λj k u e=>by
    have lj:j<z.length:=by rw[kl];exact(Ac.mp e).1
    have ez:(z.map λp=>((.inl p.1:Key),V.int p.2))[j]?=some (.inl z[j].1,.int z[j].2):=by rw[Bh,Ab lj];rfl
    obtain⟨y,y1,y2⟩:=gR kv ez;rw[e]at y1;cases y1;obtain⟨Y,t,Z⟩:=y2;exact⟨z[j],t,Ab lj,Y.symm,Z⟩
  refine TS.d7 (g:=eN z) (ks:=z.map (·.1)) (F:=λv=>∃b,v=.ref b/\L.heap.objs.size+1<=b) (λR hR=>?_) λf h' tk ad c k1 k2 g2 hF pm so=>?_
  . refine PySem.W.kdx_collect (knd:=Zc X.prog X.w) (kvs:=vs) (ep:=ep) hh ⟨_,As _ rfl,rfl,rfl⟩ (af.push _) ⋯ λh' tk d k1 al G=>hR h' tk (d.map .ref) (λv hv=>?_) ?_ (by rw[Bf];lia) k1
    . obtain⟨b,J,rfl⟩:=Co.mp hv
      obtain⟨j,hj⟩:=List.mem_iff_getElem?.mp J;obtain⟨key,k,x,Y,Z,e3⟩:=G.pairs j b hj;obtain⟨p,t,p1,rfl,rfl⟩:=ve j k x Y;have ab:=G.above b J;have ab:L.heap.objs.size+1<b:=by rw[<- B7 L.heap];exact ab
      refine⟨⟨b,rfl,Nat.le_of_lt ab⟩,p.1,?_⟩;rcases Zn (show qC (Sum.inl p.1) key=true from Z)with ⟨i,t',f,h2⟩|⟨_,_,f,_⟩
      . cases f
        subst h2;exact⟨b,_,t',t,0,rfl,e3,rfl,by rw[qz nd p (At p1)]⟩
      . cases f
    . refine List.ext_getElem? λj=>?_
      rw[Bh,Bh,Bh];cases hj:d[j]? with
      |none =>
        have:z[j]?=none:=by rw[List.getElem?_eq_none_iff]at hj ⊢;lia
        rw[this];rfl
      |some b =>
        obtain⟨key,k,x,Y,Z,e3⟩:=G.pairs j b hj;obtain⟨p,t,p1,rfl,rfl⟩:=ve j k x Y;rw[p1];show some (TS.bx h' (.ref b))=some p.1;rcases Zn (show qC (Sum.inl p.1) key=true from Z)with ⟨i,t',f,h2⟩|⟨_,_,f,_⟩
        . cases f
          subst h2;simp only[TS.bx,e3];rfl
        . cases f
  . obtain⟨d,rfl⟩:∃d:List Addr,ad=d.map .ref:=by
      clear pm so g2;induction ad with
      |nil=>exact⟨[],rfl⟩
      |cons v ad ih=>obtain⟨d,e⟩:=ih λv hv=>hF v (Au _ hv);obtain⟨⟨b,rfl,_⟩,_⟩:=hF v Cp;exact⟨b::d,by rw[e];rfl⟩
    have sz:L.heap.objs.size+1<=f.objs.size:=Ao (k1 _ _ (As L.heap rfl))
    let K:Addr->Int:=λb=>TS.bx f (.ref b)
    let H':Hp:=λb=>if b=f.objs.size then some (.lst (d.map .ref))else if b∈d then some (.tup [.int (K b),.int (eN z (K b))])else P b
    have nW:∀b∈d,L.heap.objs.size+1<=b/\b<f.objs.size/\∃n,TS.aQ f (eN z) (.ref b) n:=λb J=>by obtain⟨⟨b',e,h3⟩,n,p⟩:=hF (.ref b) (Co.mpr ⟨b,J,rfl⟩);cases e;refine⟨h3,?_,n,p⟩;obtain⟨a',o',_,_,_,e,Y,_⟩:=p;cases e;exact Ao Y
    have iR:∀b,L.heap.objs.size+1<=b->P b=none:=λb J=>I1.hok.fresh ⋯;have Hl:H' f.objs.size=some (.lst (d.map .ref)):=Ct rfl;have Ha:∀b∈d,H' b=some (.tup [.int (K b),.int (eN z (K b))]):=λb J=>by show(if b=f.objs.size then _ else _)=_;rw[Cs (A6 (nW b J).2.1),Ct J]
    have ae:∀b o,P b=some o->H' b=some o:=λb o e=>by have lt:b<L.heap.objs.size:=I1.hok.lt e;show(if b=f.objs.size then _ else _)=_;rw[Cs (A6 (Av lt (A9 (Nat.le_succ _) sz))),Cs (λJ=>Cf _ (Av lt (A9 (Nat.le_succ _) (nW b J).1)))];exact e
    have I3:=Inv.lE (H':=H') (h':=h') (t':=tk) I2 (λb u e=>k2 b u (k1 b u e)) ae (λb o e=>by
      by_cases J:b=f.objs.size
      . subst J
        rw[Hl]at e;cases e;refine .inr ⟨by show(L.heap.push _).objs.size<=_;rw[B7];exact sz,?_,d.map .ref,c,?_,g2⟩
        . have:=pm.length_eq
          simp only[Bf]at this ⊢;lia
        . exact yR d
      . by_cases ha:b∈d
        . rw[Ha b ha]at e;cases e
          obtain⟨f1,f2,n,p⟩:=nW b ha;have en:K b=n:=TS.bM p;obtain⟨a',o',t,u,k,e,Y,Z,e3⟩:=p;cases e;refine .inr ⟨by show(L.heap.push _).objs.size<=_;rw[B7];exact f1,Nat.le_of_ble_eq_true rfl,[.int n t,.int (eN z n) u],?_,o',k2 _ _ Y,Z,k,e3⟩;rw[en];exact .cons ⟨t,rfl⟩ (.cons ⟨u,rfl⟩ .nil)
        . left
          have:(if b=f.objs.size then some (HO.lst (d.map .ref))else if b∈d then some (HO.tup [.int (K b),.int (eN z (K b))])else P b)=some o:=e;rw[Cs J,Cs ha]at this;exact this)
    let O:List (Int×Int):=d.map λb=>(K b,eN z (K b))
    have km:(d.map Value.ref).map (TS.bx f)=O.map (·.1):=by rw[List.map_map,List.map_map];rfl
    rw[km]at pm so;have zz:z.map (λp=>(p.1,eN z p.1))=z:=by
      conv=>rhs;rw[<- List.map_id z]
      exact List.map_congr_left λp U=>by rw[qz nd p U];rfl
    have zp:O.Perm z:=by have:=pm.map λn=>(n,eN z n);rw[show(O.map (·.1)).map (λn=>(n,eN z n))=O by show((d.map _).map _).map _=d.map _;rw[List.map_map,List.map_map];rfl,List.map_map]at this;exact this.trans (by rw[show z.map ((λn=>(n,eN z n))∘λx=>x.1)=z from zz])
    refine⟨.ref f.objs.size,H',I3,rfl,q f.objs.size H' d O zp (List.pairwise_map.mp so) (iR _ sz) ae Hl (by show d.length=(d.map _).length;rw[Bf]) λm b p J U=>?_⟩;have mb:=At J;have ep:O[m]?=some (K b,eN z (K b)):=by show(d.map _)[m]?=_;rw[Bh,J];rfl
    rw[ep]at U;cases U;exact⟨iR b (nW b mb).1,Ha b mb⟩
end
end L2
namespace D
open PySem PySem.Spec PyProof.Rows L2
section
variable{X:Cx}
def dU:List (Key×DV)->Option (C7)
 | []=>some []
 | (.inl n,.int m)::r=>(dU r).map ((n,m) :: ·)
 |_=>none
theorem U7:∀{kvs:List (Key×DV)}{z:C7},dU kvs=some z->kvs=z.map λp=>(.inl p.1,.int p.2)
  | [],_,h=>by cases h;rfl
  | (.inl n,.int m)::r,z,h=>by
    cases e:dU r with
    |none=>simp[dU,e]at h
    |some a=>simp[dU,e]at h;subst h;rw[U7 e];rfl
  | (.inr _,_)::_,_,h=>by simp[dU] at h
  | (.inl _,.non)::_,_,h=>by simp[dU] at h
  | (.inl _,.bl _)::_,_,h=>by simp[dU] at h
  | (.inl _,.str _)::_,_,h=>by simp[dU] at h
  | (.inl _,.tup _)::_,_,h=>by simp[dU] at h
  | (.inl _,.lst _)::_,_,h=>by simp[dU] at h
  | (.inl _,.ref _)::_,_,h=>by simp[dU] at h
theorem vb:∀z:List (Int×Int),dU (z.map λp=>(.inl p.1,.int p.2))=some z
 | []=>rfl
 |p::z=>by show(dU _).map _=_;rw[vb z];rfl
def KN(z:C7):List (Int×Int):=z.mergeSort λp q=>decide (p.1<=q.1)
def yP(z:C7):(KN z).Perm z:=List.mergeSort_perm _ _
theorem UZ(z:C7):(KN z).Pairwise λp q=>p.1<=q.1:=by have:=List.pairwise_mergeSort (le:=λp q:Int×Int=>decide (p.1<=q.1)) (λa b c d e=>by simp at *;lia) (λa b=>by simp;lia) z;exact this.imp λh=>by simpa using h
theorem R8:∀{z:C7},(z.map (·.1)).Nodup->∀p∈z,∀q∈z,p.1=q.1->p=q:=λnd p U q c e=>by have a:=qz nd p U;have b:=qz nd q c;rw[e]at a;exact Prod.ext e (a.symm.trans b)
theorem zZ{z c:C7}(nd:(z.map (·.1)).Nodup)(p:c.Perm z)(h:c.Pairwise λp q=>p.1<=q.1):c=KN z :=
 (p.trans (yP z).symm).eq_of_pairwise (λa b f i d e=>R8 nd a (p.mem_iff.mp f) b ((yP z).mem_iff.mp i) (Int.le_antisymm d e)) h (UZ z)
theorem gS:∀{xs:List (Key×V)}{z:C7},xs.map (·.1)=z.map (λp=>.inl p.1)->xs.map (·.2)=z.map (λp=>V.int p.2)->xs=z.map λp=>(.inl p.1,.int p.2)
  | [],[],_,_=>rfl
  | [],_::_,h,_=>by simp at h
  |_::_,[],h,_=>by simp at h
  | (k,v)::xs,p::z,a,b=>by simp only[A3,List.cons.injEq]at a b ⊢;exact⟨by rw[a.1,b.1],gS a.2 b.2⟩
theorem Sy(z:C7):Jz (z.map λp=>DV.int p.2)=some (z.map (·.2)):=by
 induction z with
 |nil=>rfl
 |cons p z a=>show(Jz _).map _=_;rw[a];rfl
end
end D
namespace L2
open PySem PySem.Spec PyProof.Rows
section
variable{X:Cx}
theorem uP:bootBuiltins "set" = some (.type "set"):=by with_unfolding_all rfl
theorem Inv.dr{a:C4}{σ:St}{H:Hp}{s:Shared}(I:Inv X a σ H s)(d:Drawn):Inv X a σ H { s with drawn:=d } :=
 I.call (h':=s.heap) (g':=s.gens) (d':=d) (t':=s.toks) (ch:=[]) Un.refl I.hok I.bare λ_ z=>nomatch z
theorem Kz{x:Expr}{U:TE}{p n f J:Pos}(lF:Gl X "sorted")(t:X.mg "sorted" = none)(r:Gl X "set")(C:X.mg "set" = none)(hc:X.calm=true)(hx:PE X x U)
  (hs:starEach [x] X.env=[(false,eval x X.env)]:=by rfl)
  (hs3:starEach [.Call (.Name "set" n) [x] [] f] X.env=[(false,eval (.Call (.Name "set" n) [x] [] f) X.env)]:=by rfl) :
  PE X (.Call (.Name "sorted" p) [.Call (.Name "set" n) [x] [] f] [] J) (λσ H Q=>U σ H λv j=>∃(a:Addr) (ns:List Int),v=.ref a/\SqL X.K j a (ns.map .int)/\ns.length<=4000/\∀l,j l=none->Q (.ref l) (upd j l (.lst ((D.cH (TS.met ns ns.length)).map .int)))):=by
 intro o s σ H Q I h;refine wpAny_Call_Name_kw (XL I lF t boot_sorted ?_);refine PyProof.Rows.callWith_builtin1 ?_ hs3 rfl;rw[hs3];show wpAny _ _ (spliced ((false,eval (.Call (.Name "set" n) [x] [] f) X.env)::[])) _ _ s;refine Calls.spliced_cons (Call_ (XL I r C uP (PyProof.Rows.callWith_type1 ?_ hs rfl)));rw[hs];show wpAny _ _ (spliced ((false,eval x X.env)::[])) _ _ s;refine Calls.spliced_cons (thn (hx o s σ H _ I h) λv T ⟨y,j,I1,r1,q1⟩=>?_);obtain⟨a,ns,rfl,hq,hn,q⟩:=q1;cases r1;have P:X.A.handled=none:=I1.ok.hd hc;obtain⟨i,r',pl,z⟩:=I1.list hq;have hI:=D.YF r';have hl:i.length=ns.length:=TS.cX hI;refine Calls.spliced_nil ?_;refine TS.set_list (items:=i.toArray) (ns:=ns) P pl.isList (by simpa using hI) (by show i.toArray.size+1<4096;rw[An];lia) λh1 tk g k1=>?_;have Y:Inv X o σ j { T with heap:=h1,toks:=tk }:=I1.kept λb u e=>k1 b u (Ao e) e;refine Calls.spliced_nil ?_;have R:=TS.dF ns i.toArray.size;have es:i.toArray.size=ns.length:=by rw[An];exact hl
 rw[es]at g R;have hz:(TS.met ns ns.length).length<=sizeLine:=A9 R (A9 hn (by decide));refine TS.dZ P g hz λO h3 d F aa c k2 k3 Z o1 o2 o3=>?_;obtain rfl:=D.Y9 o2 o3;have L:Inv X o σ j { T with heap:=O,toks:=tk }:=Y.kept k2;have m:(D.cH (TS.met ns ns.length)).length<=sizeLine:=by rw[(D.Z8 _).length_eq];exact hz
 exact⟨.ref O.objs.size,_,Inv.dr (L.laid (t':=tk) k3 (Ae _) (show ObjOk X.prog X.w _ h3 _ (.lst ((D.cH (TS.met ns ns.length)).map .int))from⟨by simpa using m,F,c,D.Jt o1,Z⟩)) d,rfl,q _ (L.hok.fresh (Ae _))⟩
end
end L2
namespace D
open PySem PySem.Spec PyProof.Rows L2
section
variable{X:Cx}
def Ln:DV->M (List Int)
  |.lst ds=>XO (Jz ds)
  |.ref n=>do
    match <- Zi n with
    |.lst ds=>XO (Jz ds)
    |_=>failure
  |_=>failure
def Ya(f:au):au:=λenv=>do
 let d <- f env
 let ns <- Ln d
 QM (decide (ns.length<=4000))
 pure (.lst ((cH (TS.met ns ns.length)).map .int))
theorem Kk{x:Expr}{f:au}{p r b t:Pos}(m:X.mg "sorted" = none)(q:X.mg "set" = none)(O:X.calm=true)(hx:DE X x f)(lF:Gl X "sorted" := by rfl)(j:Gl X "set" := by rfl)
    (hs:starEach [x] X.env=[(false,eval x X.env)]:=by rfl)
    (hs3:starEach [.Call (.Name "set" r) [x] [] b] X.env=[(false,eval (.Call (.Name "set" r) [x] [] b) X.env)]:=by rfl) :
    DE X (.Call (.Name "sorted" p) [.Call (.Name "set" r) [x] [] b] [] t) (Ya f) :=
  L2.PE.imp (Kz lF m j q O hx hs hs3) λσ H Q y=>by
    obtain⟨Z,env,ρ,B,U,d,R,S,e,k⟩:=y;obtain⟨v,hp1,z,C⟩:=bind_some e;obtain⟨ns,hp2,c,F⟩:=bind_some C;obtain⟨_,T,I,e6⟩:=bind_some F;obtain⟨P,rfl⟩:=QF I;obtain⟨rfl,rfl⟩:=Qk e6;refine tD.run S z λv' ρ1 B1 H1 J S1 u=>?_;have key:hp1=hp2/\∃p,v'=.ref p/\SqL X.K H1 p (ns.map .int):=by
      cases v with
      |lst zs=>obtain⟨i,rfl⟩:=Jp c;obtain⟨a,ys,rfl,_,sq,l⟩:=u.bV;exact⟨rfl,a,rfl,Jm i l▸sq⟩
      |ref n =>
        obtain⟨o,hp2,e7,h⟩:=bind_some (show(Zi n >>= λo=>(match o with|.lst ds=>XO (Jz ds)|_=>failure:M (List Int))) hp1=some (ns,_)from c);obtain⟨e9,rfl⟩:=Zl e7;cases o with
        |lst zs=>obtain⟨i,rfl⟩:=Jp h;obtain⟨a,rfl,_,ys,L,l1⟩:=ao.aX S1.wo u e9;exact⟨rfl,a,rfl,Jm i l1▸SqL.of L⟩
        |aB _=>cases h
        |ins _ _=>cases h
      |tup _=>cases c
      |non=>cases c
      |bl _=>cases c
      |int _=>cases c
      |str _=>cases c
    obtain⟨rfl,a,rfl,Y⟩:=key;exact⟨a,ns,rfl,Y,Cz P,XF S1.wo (YE _) (k.after J)⟩
theorem KL{f:au}{env:En}{U hp1:Hs}{ns:List Int}(hf:f env U=some (.lst (ns.map .int),hp1))(a:ns.length<=4000):Ya f env U=some (.lst ((cH (TS.met ns ns.length)).map .int),hp1):=by unfold Ya;rw[Qg hf];show(XO (Jz (ns.map .int)) >>= _) hp1=_;rw[Yw,Qg (show XO (some ns) hp1=some (ns,hp1)from rfl)];rw[Qg (show QM (decide (ns.length<=4000)) hp1=some ((),hp1)by rw[Cy a];rfl)];rfl
end
section
variable{X:Cx}{e:Expr}{f:au}{pos:Pos}
def DQ(d:DV)(lo hi:Option Int):M DV:=match d with
 |.lst ds=>Xg (.lst (JE ds lo hi))
 |_=>failure
def gc(f:au)(lo hi:fO):au:=λenv=>do let d <- f env;let l <- lo env;let h <- hi env;DQ d l h
theorem N_{lo hi:Option Expr}{ol oh:fO}{z:Pos}(h:DE X e f)(r:DO X lo ol)(q:DO X hi oh):DE X (.Subscript e (.Slice lo hi none z) pos) (gc f ol oh) :=
  L2.PE.imp (xy VV h r q).kf λσ H Q i=>by
    obtain⟨Z,env,ρ,B,U,d,t,S,e,k⟩:=i;obtain⟨x,hp1,j,e⟩:=bind_some e;obtain⟨l,hp2,m,e⟩:=bind_some e;obtain⟨u,y,n,e⟩:=bind_some e;refine tD.run S j λv ρ1 B1 H1 o S1 C=>iy.run S1 m λρ2 B2 H2 b S2=>iy.run S2 n λρ3 B3 H3 c S3=>?_;have F:=ao.grow S1.wo.rb (b.trans c) _ _ C;cases x with
    |lst ds=>cases e;obtain⟨a,xs,rfl,nb,I,rl⟩:=F.bV;exact⟨a,xs,rfl,I,Vr S3.wo (qm rl) (k.after (o.trans (b.trans c)))⟩
    |tup _=>cases e
    |non=>cases e
    |bl _=>cases e
    |int _=>cases e
    |str _=>cases e
    |ref _=>cases e
theorem M8{ol oh:fO}{env:En}{U hp1:Hs}{ds:List DV}{lo hi:Option Int}(hf:f env U=some (.lst ds,hp1))(b:ol env hp1=some (lo,hp1))(a:oh env hp1=some (hi,hp1)):gc f ol oh env U=some (.ref hp1.length,hp1++[.lst (JE ds lo hi)]):=by unfold gc;rw[Qg hf,Qg b,Qg a];rfl
def Vo(f:au):au:=λenv=>do
 let d <- f env
 lY d λ_ kvs=>do
  let z <- XO (dU kvs)
  QM (decide (z.map (·.1)).Nodup)
  Xg (.lst ((KN z).map λp=>.tup [.int p.1,.int p.2]))
theorem uV{o:Expr}{P:au}{p h i pos:Pos}(I:X.mg "sorted" = none)(hc:X.calm=true)(ho:DE X o P)(lF:Gl X "sorted" := by rfl)
    (hbase:attributeBase o "items" X.env (eval o X.env)=eval o X.env:=by rfl) (hline:(h.endLine==i.line)=true:=by rfl)
    (hs3:starEach [.Call (.Attribute o "items" h) [] [] i] X.env=[(false,eval (.Call (.Attribute o "items" h) [] [] i) X.env)]:=by rfl) :
    DE X (.Call (.Name "sorted" p) [.Call (.Attribute o "items" h) [] [] i] [] pos) (Vo P) :=
  L2.PE.imp (kH lF I hc ho hbase hline hs3).kf λσ H Q aH=>by
    obtain⟨Z,env,ρ,B,U,d,aa,S,e,k⟩:=aH;obtain⟨x,hp1,e1,ea⟩:=bind_some e;refine tD.run S e1 λv ρ1 B1 L g1 S1 r1=>?_;obtain⟨n,kvs,rfl,e4,e3⟩:=Yj ea;obtain⟨z,hp2,e5,e6⟩:=bind_some e3;obtain⟨e7,rfl⟩:=Jp e5;obtain⟨_,ad,e8,e9⟩:=bind_some e6;obtain⟨nd,rfl⟩:=QF e8;cases e9;have nd:=Cz nd;have ek:=U7 e7;subst ek;obtain⟨a,rfl,ra⟩:=r1.lq;obtain⟨xs,h1,R⟩:=(S1.wo.obj n a _ ra e4).aB;have T:=R.to.1;have Y:=R.to.2;rw[List.map_map]at T Y;have ex:xs=z.map λp=>(.inl p.1,.int p.2):=gS (T.trans rfl) ((Jm (Sy z) Y).trans (by rw[List.map_map];rfl));subst ex;refine⟨a,z,rfl,h1,nd,λl H' O zs pm so hl kp Hl len pr=>?_⟩;obtain rfl:=zZ nd pm so
    let y:Hp:=λb=>if b=l then none else H' b
    have eH:H'=upd y l (.lst (O.map .ref)):=by
      funext b;by_cases F:b=l
      . subst F;rw[Q5];exact Hl
      . show H' b=if b=l then _ else _;rw[Cs F];exact(Cs F).symm
    have n2:y l=none:=Ct rfl;have k2:∀c q,L c=some q->y c=some q:=λc q z=>by show(if c=l then none else H' c)=_;rw[Cs (λu=>by subst u;rw[hl]at z;cases z)];exact kp c q z
    have g2:Gr X.K ρ1 B1 L ρ1 B1 y:=Gr.more k2;have W2:=S1.wo.more k2;rw[eH];refine Vr W2 (aj.of_get (by rw[Bf,Bf];exact len.symm) λm d t j r=>?_) (k.after (g1.trans g2)) l n2;rw[Bh]at j r;cases hz:(KN z)[m]? with
    |none=>rw[hz]at j;cases j
    |some q =>
      cases C:O[m]? with
      |none=>rw[C]at r;cases r
      |some b =>
        rw[hz]at j;rw[C]at r;cases j;cases r;obtain⟨n1,J⟩:=pr m b q C hz;have nb:b≠l:=λu=>by subst u;rw[Hl]at J;cases J
        exact YH (λu=>S1.wo.bt b u n1) (SqT.of ((Cs nb).trans J)) (aj.cons ZJ (aj.one ZJ))
theorem RN{f:au}{env:En}{U hp1:Hs}{n:Nat}{z:C7}(hf:f env U=some (.ref n,hp1))(h:hp1[n]?=some (.aB (z.map λp=>(.inl p.1,.int p.2))))(nd:(z.map (·.1)).Nodup):Vo f env U=some (.ref hp1.length,hp1++[.lst ((KN z).map λp=>.tup [.int p.1,.int p.2])]):=by unfold Vo;rw[Qg hf];show(Zi n >>= _) hp1=_;rw[Qg (Q6 h)];show(XO (dU _) >>= _) hp1=_;rw[vb,Qg (show XO (some z) hp1=some (z,hp1)from rfl)];rw[Qg (show QM (decide (z.map (·.1)).Nodup) hp1=some ((),hp1)by rw[Cy nd];rfl)];rfl
end
end D
namespace L2
open PySem PySem.Spec PyProof.Rows
section
variable{X:Cx}
theorem RJ{xs:List V}{a:List Value}{acc:Array Value}(r:Vals xs a)(h:ItemsOf (λi v=>a.toArray[a.toArray.size-1-i]?=some v) acc a.toArray.size):Vals xs.reverse acc.toList:=by
 have e:acc.toList=a.reverse:=by
  refine List.ext_getElem? λi=>?_;have c:acc.size=a.length:=by rw[h.1];simp
  rw[Array.getElem?_toList];by_cases q:i<acc.size
  ·have b:=Array.getElem?_eq_getElem q;have:=h.2 i _ b;rw[b,List.getElem?_reverse ⋯];rw[<- this];simp
  ·rw[Array.getElem?_eq_none ⋯,Cg (by simp;lia)]
 rw[e];exact r.reverse
theorem vX{x:Expr}{O:TE}{p j C c:Pos}(n:Gl X "tuple")(t:X.mg "tuple" = none)(R:Gl X "reversed")(U:X.mg "reversed" = none)(P:X.calm=true)(hx:PE X x O)
  (hs:starEach [x] X.env=[(false,eval x X.env)]:=by rfl) (hs3:starEach [.Call (.Name "reversed" j) [x] [] c] X.env=[(false,eval (.Call (.Name "reversed" j) [x] [] c) X.env)]:=by rfl) :
  PE X (.Call (.Name "tuple" p) [.Call (.Name "reversed" j) [x] [] c] [] C) (λσ H Q=>O σ H λv d=>∃a xs,v=.ref a/\SqT X.K d a xs/\∀l,d l=none->Q (.ref l) (upd d l (.tup xs.reverse))):=by
 intro J s σ H Q I h;refine wpAny_Call_Name_kw (XL I n t boot_tuple ?_);refine PyProof.Rows.callWith_type1 ?_ hs3 rfl;rw[hs3];show wpAny _ _ (spliced ((false,eval (.Call (.Name "reversed" j) [x] [] c) X.env)::[])) _ _ s;refine Calls.spliced_cons (Call_ (XL I R U boot_reversed (PyProof.Rows.callWith_type1 ?_ hs rfl)));rw[hs];show wpAny _ _ (spliced ((false,eval x X.env)::[])) _ _ s;refine Calls.spliced_cons (thn (hx J s σ H _ I h) λv L ⟨y,d,I1,r1,q1⟩=>Calls.spliced_nil ?_);obtain⟨a,xs,rfl,Y,q⟩:=q1;cases r1;obtain⟨f,r,pl,hz⟩:=I1.tuple Y;have T:=r.length;have z:f.toArray.size<=2 ^ 24:=by rw[An,<- T];exact hz
 refine TV.fZ pl ⋯ λtk=>Calls.spliced_nil ?_;have m:a<L.heap.objs.size:=pl.lt;refine TV.cZ (l:=a) (items:=f.toArray) (I1.ok.hd P) ⟨_,As _ rfl,rfl,rfl⟩ (pl.push _) z (A6 m) λh' i acc k Z=>?_;have F:Inv X J σ d { L with heap:=h',toks:=i }:=I1.kept λb o e=>k b o (A6 (Ao e)) (Ad _ e);have hf:d h'.objs.size=none:=F.hok.fresh (Ae _);refine⟨.ref h'.objs.size,upd d h'.objs.size (.tup xs.reverse),F.laid (t':=i) (λb u e=>Ad _ e) (Ae _) ?_,rfl,q _ hf⟩;exact⟨by rw[List.length_reverse];exact hz,acc.toList,RJ r Z,⟨_,As _ rfl,rfl,_,rfl⟩⟩
end
end L2
namespace D
open PySem PySem.Spec PyProof.Rows L2
section
variable{X:Cx}{x:Expr}{f:au}{p p' pos pos':Pos}
def Hv:DV->M DV
 |.tup ds=>pure (.tup ds.reverse)
 |_=>failure
def jm(f:au):au:=λenv=>do let d <- f env;Hv d
theorem vq(h:X.mg "tuple" = none)(o:X.mg "reversed" = none)(m:X.calm=true)(hx:DE X x f)(c:Gl X "tuple" := by rfl)(n:Gl X "reversed" := by rfl)
    (hs:starEach [x] X.env=[(false,eval x X.env)]:=by rfl) (hs3:starEach [.Call (.Name "reversed" p') [x] [] pos'] X.env=[(false,eval (.Call (.Name "reversed" p') [x] [] pos') X.env)]:=by rfl) :
    DE X (.Call (.Name "tuple" p) [.Call (.Name "reversed" p') [x] [] pos'] [] pos) (jm f) :=
  (vX c h n o m hx hs hs3).imp λσ H Q i=>by
    obtain⟨Z,env,ρ,B,U,d,q,S,e,k⟩:=i;obtain⟨y,hp1,j,b⟩:=bind_some e;refine tD.run S j λv ρ1 B1 H1 l S1 r=>?_;cases y with
    |tup ds=>obtain⟨rfl,rfl⟩:=Qk b;obtain⟨a,xs,rfl,nb,t,rl⟩:=r.tupI;exact⟨a,xs,rfl,t,YC S1.wo rl.reverse (k.after l)⟩
    |lst _=>cases b
    |non=>cases b
    |bl _=>cases b
    |int _=>cases b
    |str _=>cases b
    |ref _=>cases b
theorem uy{env:En}{U hp1:Hs}{ds:List DV}(h:f env U=some (.tup ds,hp1)):jm f env U=some (.tup ds.reverse,hp1):=by unfold jm;rw[Qg h];rfl
end
end D
namespace K43
open PySem PySem.Spec PyProof.Rows L2 D
def top (i:Nat):Stmt:=PySem.Challenge.pw_sidelink_k43_first_that_does_not_fit.main.body.getD i (.Pass ⟨0,0,0,0⟩)
abbrev JN:Stmt:=qA (top 5) 1
def YJ:aG:=Q3 (Vo (ZC "Judge" "worths" (Qb 0)))
def Zk:List DV->M DV:=ZH 1 YJ
abbrev Xw:Stmt:=qA (top 5) 3
def zc:aG:=Qx (QG 3 (Qf aq (Qb 1) (eC (.int 1)))) (Qx (aP (eB (Qf bU (Qb 2) (ZI "dict" J0 (ZC "Judge" "worths" (Qb 0)) (Qa (Qb 3) (Qj))))) (Q3 (eC (.bl false))) (Zf)) (Qx (aP (eB (Qf aK (Qf aq (Qb 1) (eC (.int 0))) (eC (.str "put")))) (XT (Qf aq (Qb 1) (eC (.int 2))) (fu (ZC "Judge" "worths" (Qb 0)) (Qb 3))) (Zf)) (Qx (aP (JG (eB (Qf aK (Qf aq (Qb 1) (eC (.int 0))) (eC (.str "cut")))) (eB (Qf gL (Qb 2) (eC .non)))) (Xa (ZI "dict" yF (ZC "Judge" "worths" (Qb 0)) (Qa (Qb 3) (Qj)))) (Zf)) (Q3 (eC (.bl true))))))
def Z1:List DV->M DV:=ZH 4 zc
abbrev JC:Stmt:=qA (top 5) 4
def Q0:au:=ZB false (dj (XW "Judge" "plain_table" 1 Zk (Qb 0) Qj)) [5,6] (eB (ZV d9 cj (Qb 1) (Qf aq (Qb 0) (eC (.int 0))) (Qb 2))) (Qb 0)
def X3:aG:=Qx (QG 5 (ZI "dict" J0 (ZC "Judge" "begins" (Qb 0)) (Qa (Qb 1) (Qa (Qf aq (Qb 2) (eC (.int 1))) (Qj))))) (Qx (QG 6 (Qf aq (Qb 2) (eC (.int 2)))) (Qx (aP (eB (Qf isD (Qb 4) (eC .non))) (XT (eC (.bl true)) (fu (ZC "Judge" "closed" (Qb 0)) (Qb 1))) (Qx (aP (XE (eB (ZV cj cj (Qb 5) (Qb 4) (Qb 6)))) (Q3 (eC (.bl false))) (Zf)) (Qx (XT (Qb 4) (fu (ZC "Judge" "begins" (Qb 0)) (Qb 1))) (QG 6 (Qb 4))))) (Q3 (Qf aK (QR JZ (Qa (Qb 3) (Qj))) (Q0)))))
def ZE:List DV->M DV:=ZH 7 X3
abbrev qN:Stmt:=qA (top 5) 2
def y6:aG:=Qx (QG 2 (Qf aq (Qb 1) (eC (.int 2)))) (Qx (aP (cB (XE (eB (ZV d9 cj (eC (.int 0)) (Qb 2) (QR Zo (Qa (ZC "Judge" "deeds" (Qb 0)) (Qj)))))) (eB (Qf eF (Qb 2) (ZC "Judge" "closed" (Qb 0))))) (Q3 (eC (.bl false))) (Zf)) (Qx (QG 3 (Qf aq (ZC "Judge" "deeds" (Qb 0)) (Qb 2))) (Qx (aP (eB (Qf bU (Qf aq (Qb 1) (eC (.int 0))) (vt [("find", "found"),("put", "put"),("cut", "cut"),("stretch", "read")] (Qf aq (Qb 3) (eC (.int 0)))))) (Q3 (eC (.bl false))) (Zf)) (Qx (aP (eB (Qf aK (Qf aq (Qb 1) (eC (.int 0))) (eC (.str "read")))) (Q3 (XW "Judge" "fits_stretch" 5 ZE (Qb 0) (Qa (Qb 2) (Qa (Qb 3) (Qa (Qf aq (Qb 1) (eC (.int 4))) (Qa (Qf aq (Qb 1) (eC (.int 6))) (Qj))))))) (Zf)) (Qx (XT (eC (.bl true)) (fu (ZC "Judge" "closed" (Qb 0)) (Qb 2))) (Q3 (XW "Judge" "fits_key" 3 Z1 (Qb 0) (Qa (Qb 3) (Qa (Qf aq (Qb 1) (eC (.int 4))) (Qj))))))))))
def Zr:List DV->M DV:=ZH 4 y6
abbrev yK:Stmt:=top 3
def zM:au:=ZB false (dj (Qb 0)) [] (eB (Qf eF (Qf aq (Qb 0) (eC (.int 0))) (eC (.tup [.str "found", .str "put", .str "cut", .str "read"])))) (Qb 0)
def vf:aG:=Q3 (zM)
def q8:List DV->M DV:=ZH 1 vf
abbrev Xv:Stmt:=qA (top 5) 0
def za:aG:=Qx (Yl "Judge" "deeds" (Qb 0) (Qb 1)) (Qx (Yl "Judge" "worths" (Qb 0) (QR oJ (Qa (Qb 2) (Qj)))) (Qx (Yl "Judge" "begins" (Qb 0) (X9)) (Yl "Judge" "closed" (Qb 0) (X9))))
def Z0:List DV->M DV:=ZH 3 za
abbrev UQ:Stmt:=top 4
def ZO:aG:=aP (XE (eB (XW "Judge" "fits" 2 Zr (Qb 3) (Qa (Qf aq (Qb 4) (Qb 5)) (Qj))))) (Q3 (Q2 (Qa (eC (.str "unfit")) (Qa (Qb 5) (Qj))))) (Zf)
def YV:aG:=Ym (iH (Ux (Qa (QR Zo (Qa (Qb 4) (Qj))) (Qj)))) (gN 5) (ZO)
def uL:aG:=Qx (QG 3 (Ga "Judge" 3 Z0 (Qa (Qb 1) (Qa (Qb 2) (Qj))))) (Qx (QG 4 (Qu 1 q8 (Qa (Qb 0) (Qj)))) (Qx (YV) (Q3 (Q2 (Qa (eC (.str "fits")) (Qa (XW "Judge" "plain_table" 1 Zk (Qb 3) Qj) (Qj)))))))
def Z6:List DV->M DV:=ZH 6 uL
abbrev XX:Stmt:=top 23
def ja:aG:=Q3 (Qf eF (Qf aq (Qb 0) (eC (.int 0))) (Q2 (Qa (eC (.str "found")) (Qa (eC (.str "put")) (Qa (eC (.str "cut")) (Qa (eC (.str "read")) (Qj)))))))
def ZD:List DV->M DV:=ZH 1 ja
abbrev Yn:Stmt:=top 24
def Jl:au:=ZB false (dj (Vn (Qb 0) (Q7) (QH (Qb 3)))) [] (eB (Qu 1 ZD (Qa (Qb 0) (Qj)))) (Qb 0)
def jF:aG:=Qx (QG 3 (Qf QP (Qf QP (Qb 1) (eC (.int 1))) (Qf QO (Qb 2) (Qf qb (QR Zo (Qa (Qb 0) (Qj))) (Qb 1))))) (Qx (QG 4 (QR Zo (Qa (Jl) (Qj)))) (Q3 (Q2 (Qa (Qf QP (Qf QP (Vn (Qb 0) (Q7) (QH (Qb 3))) (Zm (Qa (Qf aq (Qb 0) (Qb 1)) (Qj)))) (Vn (Qb 0) (QH (Qb 3)) (Q7))) (Qa (Qb 4) (Qj))))))
def Jc:List DV->M DV:=ZH 5 jF
abbrev Xd:Stmt:=top 18
def qj:aG:=Qx (aP (eB (Qf isD (Qb 0) (eC .non))) (Q3 (Qf aq (Zm (Qa (eC (.int 0)) (Qa (eC (.int 7)) (Qa (JS (Qf Ji (eC (.int 10)) (eC (.int 30)))) (Qj))))) (Qf QO (Qb 1) (eC (.int 3))))) (Zf)) (Qx (aP (eB (Qf aK (Qf QO (Qb 1) (eC (.int 3))) (eC (.int 0)))) (Q3 (eC .non)) (Zf)) (Q3 (Qf QP (Qb 0) (Qf aq (Zm (Qa (eC (.int 1)) (Qa (JS (eC (.int 1))) (Qj)))) (QR vD (Qa (Qf eG (Qb 0) (eC (.int 0))) (Qj)))))))
def Zg:List DV->M DV:=ZH 2 qj
abbrev Xc:Stmt:=top 19
def qi:aG:=Qx (aP (eB (Qf aK (Qb 0) (Q2 (Qj)))) (Q3 (Q2 (Qa (Q2 (Qa (Qb 1) (Qa (eC (.int 7)) (Qj)))) (Qj)))) (Zf)) (Qx (QG 3 (Qf QO (Qf jc (Qb 2) (eC (.int 5))) (QR Zo (Qa (Qb 0) (Qj))))) (Qx (XT (Qf aq (Qb 0) (Qb 3)) (gT [1,4])) (Qx (aP (eB (Qf aK (Qf QO (Qb 2) (eC (.int 5))) (eC (.int 0)))) (Q3 (Qf QP (aZ (Qb 0) (Q7) (QH (Qb 3))) (aZ (Qb 0) (QH (Qf QP (Qb 3) (eC (.int 1)))) (Q7)))) (Zf)) (Qx (aP (eB (Qf aK (Qf QO (Qb 2) (eC (.int 5))) (eC (.int 1)))) (Q3 (Qf QP (Qf QP (aZ (Qb 0) (Q7) (QH (Qb 3))) (Q2 (Qa (Q2 (Qa (Qb 1) (Qa (Qu 2 Zg (Qa (Qb 4) (Qa (eC (.int 1)) (Qj)))) (Qj)))) (Qj)))) (aZ (Qb 0) (QH (Qf QP (Qb 3) (eC (.int 1)))) (Q7)))) (Zf)) (Qx (aP (JG (eB (Qf aK (Qf QO (Qb 2) (eC (.int 5))) (eC (.int 2)))) (eB (Qf eG (QR Zo (Qa (Qb 0) (Qj))) (eC (.int 1))))) (Q3 (jm (Qb 0))) (Zf)) (Qx (aP (eB (Qf aK (Qf QO (Qb 2) (eC (.int 5))) (eC (.int 3)))) (Q3 (Qf QP (Qf QP (aZ (Qb 0) (Q7) (QH (Qb 3))) (Q2 (Qa (Q2 (Qa (Qf QP (Qb 1) (Qf aq (Zm (Qa (eC (.int 1)) (Qa (JS (eC (.int 1))) (Qj)))) (QR vD (Qa (Qf eG (Qb 1) (eC (.int 0))) (Qj))))) (Qa (Qb 4) (Qj)))) (Qj)))) (aZ (Qb 0) (QH (Qf QP (Qb 3) (eC (.int 1)))) (Q7)))) (Zf)) (Q3 (Qf QP (Qf QP (aZ (Qb 0) (Q7) (QH (Qb 3))) (aZ (Qb 0) (QH (Qb 3)) (QH (Qf QP (Qb 3) (eC (.int 1)))))) (aZ (Qb 0) (QH (Qb 3)) (Q7))))))))))
def ZW:List DV->M DV:=ZH 5 qi
abbrev Xx:Stmt:=top 20
def ZL:au:=ZB false (dj (Zm (Qa (eC (.str "found")) (Qa (eC (.str "put")) (Qa (eC (.str "cut")) (Qa (eC (.str "read")) (Qj))))))) [0] (eB (Qf bU (Qb 0) (Qf aq (Qb 1) (eC (.int 0))))) (Qb 0)
def zd:aG:=Qx (QG 2 (ZL)) (Qx (QG 3 (Qf aq (Qb 2) (Qf QO (Qb 1) (eC (.int 3))))) (Qx (QG 4 (eC .non)) (Qx (aP (eB (Qf bU (Qf aq (Qb 0) (eC (.int 0))) (eC (.str "read")))) (QG 4 (Qf aq (Qb 0) (eC (.int 4)))) (Zf)) (Qx (aP (eB (Qf aK (Qb 3) (eC (.str "read")))) (Q3 (Qf QP (Qf QP (Q2 (Qa (Qb 3) (Qj))) (aZ (Qb 0) (QH (eC (.int 1))) (QH (eC (.int 4))))) (Q2 (Qa (Q2 (Qj)) (Qa (eC .non) (Qa (eC .non) (Qj))))))) (Zf)) (Qx (aP (eB (Qf aK (Qb 3) (eC (.str "put")))) (Q3 (Qf QP (Qf QP (Q2 (Qa (Qb 3) (Qj))) (aZ (Qb 0) (QH (eC (.int 1))) (QH (eC (.int 4))))) (Q2 (Qa (Qb 4) (Qa (eC .non) (Qj)))))) (Zf)) (Q3 (Qf QP (Qf QP (Q2 (Qa (Qb 3) (Qj))) (aZ (Qb 0) (QH (eC (.int 1))) (QH (eC (.int 4))))) (Q2 (Qa (Qb 4) (Qj))))))))))
def Z2:List DV->M DV:=ZH 5 zd
abbrev qR:Stmt:=top 22
def qk:aG:=Qx (QG 5 (Qf QO (Qf aq (Qb 4) (eC (.int 0))) (eC (.int 5)))) (Qx (aP (eB (Qf aK (Qb 5) (eC (.int 0)))) (Q3 (Qf QP (Qf QP (aZ (Qb 0) (Q7) (QH (eC (.int 2)))) (Q2 (Qa (Qf aq (Zm (Qa (Qb 3) (Qa (JS (eC (.int 1))) (Qa (Qf Ji (eC (.int 10)) (eC (.int 20))) (Qa (Qf QP (Qb 3) (eC (.int 5))) (Qj)))))) (Qf QO (Qf aq (Qb 4) (eC (.int 1))) (eC (.int 4)))) (Qj)))) (aZ (Qb 0) (QH (eC (.int 3))) (Q7)))) (Zf)) (Qx (aP (eB (Qf aK (Qb 5) (eC (.int 1)))) (Q3 (Qu 2 Z2 (Qa (Qb 0) (Qa (Qf aq (Qb 4) (eC (.int 1))) (Qj))))) (Zf)) (Qx (aP (eB (Qf bU (Qf aq (Qb 0) (eC (.int 0))) (eC (.str "read")))) (Q3 (Qf QP (Qf QP (aZ (Qb 0) (Q7) (QH (eC (.int 4)))) (Q2 (Qa (Qu 2 Zg (Qa (Qf aq (Qb 0) (eC (.int 4))) (Qa (Qf aq (Qb 4) (eC (.int 1))) (Qj)))) (Qj)))) (aZ (Qb 0) (QH (eC (.int 5))) (Q7)))) (Zf)) (Qx (aP (JG (eB (Qf aK (Qb 5) (eC (.int 2)))) (JG (eB (Qf isD (Qf aq (Qb 0) (eC (.int 6))) (eC .non))) (eB (Qf aK (Qf QO (Qf aq (Qb 4) (eC (.int 1))) (eC (.int 2))) (eC (.int 0)))))) (Q3 (Qf QP (aZ (Qb 0) (Q7) (QH (eC (.int 5)))) (Q2 (Qa (eC (.int 3)) (Qa (Qf aq (Zm (Qa (Qf aq (Qb 1) (eC (.int 2))) (Qa (QR Ku (Qa (Qf Ji (eC (.int 10)) (eC (.int 30))) (Qa (Qf QP (Qf QP (Qf aq (Qb 1) (eC (.int 2))) (eC (.int 1))) (Qf QO (Qf aq (Qb 4) (eC (.int 1))) (eC (.int 9)))) (Qj)))) (Qj)))) (Qf QO (Qf jc (Qf aq (Qb 4) (eC (.int 1))) (eC (.int 2))) (eC (.int 2)))) (Qj)))))) (Zf)) (Qx (aP (JG (eB (Qf cj (Qb 5) (eC (.int 4)))) (eB (Qf eG (Qf QO (Qf aq (Qb 4) (eC (.int 1))) (eC (.int 3))) (eC (.int 0))))) (Q3 (Qf QP (aZ (Qb 0) (Q7) (QH (eC (.int 4)))) (Q2 (Qa (Q2 (Qj)) (Qa (eC (.int 3)) (Qa (Qf aq (Zm (Qa (Qb 2) (Qa (Qf aq (Qb 1) (eC (.int 1))) (Qj)))) (Qf QO (Qf jc (Qf aq (Qb 4) (eC (.int 1))) (eC (.int 6))) (eC (.int 2)))) (Qj))))))) (Zf)) (Q3 (Qf QP (Qf QP (aZ (Qb 0) (Q7) (QH (eC (.int 4)))) (Q2 (Qa (Qu 3 ZW (Qa (Qf aq (Qb 0) (eC (.int 4))) (Qa (Qf aq (Qb 1) (eC (.int 1))) (Qa (Qf aq (Qb 4) (eC (.int 1))) (Qj))))) (Qj)))) (aZ (Qb 0) (QH (eC (.int 5))) (Q7)))))))))
def ZN:List DV->M DV:=ZH 6 qk
abbrev zV:Stmt:=top 21
def YN:aG:=aP (JG (eB (Qf aK (Qf aq (Qb 4) (eC (.int 0))) (eC (.str "read")))) (eB (Qf aK (Qf aq (Qb 4) (eC (.int 2))) (Qf aq (Qf aq (Qb 0) (Qb 1)) (eC (.int 2)))))) (QG 3 (Qf aq (Qb 4) (eC (.int 6)))) (Zf)
def xZ:aG:=Ym (dj (Vn (Qb 0) (Q7) (QH (Qb 1)))) (gN 4) (YN)
def V7:aG:=Qx (QG 3 (Qf aq (Qb 2) (eC (.int 1)))) (Qx (xZ) (Q3 (Qb 3)))
def J4:List DV->M DV:=ZH 5 V7
abbrev YR:Stmt:=top 7
def Xh:aG:=Qx (aP (eB (Qf cj (Qb 1) (QR vK (Qa (Qb 0) (Qj))))) (Q3 (Qf eZ (Qb 0) (Qb 1))) (Zf)) (Q3 (eC (.int 0)))
def Zt:List DV->M DV:=ZH 2 Xh
abbrev zW:Stmt:=top 8
def V8:aG:=Qx (QG 2 (Qf QO (Qf QP (Qf QO (Qb 0) (eC (.int 982451653))) (Qf Yh (eC (.int 7368787)) (Qf QP (Qb 1) (eC (.int 1))))) (eC (.int 982451653)))) (Qx (QG 2 (Qf QP (Qf QO (Qf Yh (Qb 2) (Qb 2)) (eC (.int 982451653))) (Qf Yh (eC (.int 3)) (Qb 1)))) (Q3 (Qf QO (Qf Yh (Qb 2) (Qf QP (Qb 2) (eC (.int 15485863)))) (eC (.int 899809343)))))
def Qo:List DV->M DV:=ZH 3 V8
abbrev zX:Stmt:=top 13
def Xe:au:=ZB false (dj (QR xO (Qa (Qb 0) (Qj)))) [0,1,2] (JG (eB (Qf d9 (Qb 2) (Qb 0))) (eB (Qf cj (Qb 0) (Qb 3)))) (Q2 (Qa (Qb 0) (Qa (Qf aq (Qb 1) (Qb 0)) (Qj))))
def V9:aG:=Q3 (QR rB (Qa (Xe) (Qj)))
def Ja:List DV->M DV:=ZH 3 V9
abbrev xI:Stmt:=top 14
def Xz:au:=ZB false (dj (Qb 2)) [6,4] (JG (eB (Qf cj (Qb 1) (Qb 0))) (eB (Qf cj (Qb 0) (Qf aq (Qb 2) (eC (.int 2)))))) (Qb 0)
def Ke:aG:=Qx (QG 6 (ZI "dict" J0 (Qb 1) (Qa (Qb 3) (Qa (Qf aq (Qb 4) (eC (.int 1))) (Qj))))) (Qx (QG 7 (Qf QO (Qu 2 Qo (Qa (Qb 5) (Qa (eC (.int 10)) (Qj)))) (eC (.int 8)))) (Qx (QG 8 (Qf QO (Qu 2 Qo (Qa (Qb 5) (Qa (eC (.int 11)) (Qj)))) (eC (.int 40)))) (Qx (QG 9 (Xz)) (Qx (aP (cB (eB (Qf aK (Qb 9) (Zm (Qj)))) (eB (Qf aK (Qf QO (Qu 2 Qo (Qa (Qb 5) (Qa (eC (.int 12)) (Qj)))) (eC (.int 2))) (eC (.int 0))))) (Q3 (Q2 (Qa (eC (.str "read")) (Qa (Qb 7) (Qa (Qb 3) (Qa (Qb 8) (Qa (Qu 3 Ja (Qa (Qb 0) (Qa (Qb 6) (Qa (Qf aq (Qb 4) (eC (.int 2))) (Qj))))) (Qa (eC .non) (Qa (eC .non) (Qj)))))))))) (Zf)) (Qx (XT (Qf aq (Qb 9) (Qf QO (Qu 2 Qo (Qa (Qb 5) (Qa (eC (.int 13)) (Qj)))) (QR Zo (Qa (Qb 9) (Qj))))) (fu (Qb 1) (Qb 3))) (Q3 (Q2 (Qa (eC (.str "read")) (Qa (Qb 7) (Qa (Qb 3) (Qa (Qb 8) (Qa (Qu 3 Ja (Qa (Qb 0) (Qa (Qb 6) (Qa (Qf aq (Qb 1) (Qb 3)) (Qj))))) (Qa (Qf QO (Qu 2 Qo (Qa (Qb 5) (Qa (eC (.int 14)) (Qj)))) (eC (.int 40))) (Qa (Qf aq (Qb 1) (Qb 3)) (Qj)))))))))))))))
def YT:List DV->M DV:=ZH 10 Ke
abbrev qP:Stmt:=top 15
def y9:aG:=Qx (QG 6 (Qf QO (Qu 2 Qo (Qa (Qb 5) (Qa (eC (.int 10)) (Qj)))) (eC (.int 8)))) (Qx (QG 7 (Qf QO (Qu 2 Qo (Qa (Qb 5) (Qa (eC (.int 11)) (Qj)))) (eC (.int 40)))) (Qx (aP (eB (Qf aK (Qf aq (Qb 4) (eC (.int 0))) (eC (.str "stretch")))) (Q3 (Qu 6 YT (Qa (Qb 0) (Qa (Qb 1) (Qa (Qb 2) (Qa (Qb 3) (Qa (Qb 4) (Qa (Qb 5) (Qj))))))))) (Zf)) (Qx (QG 8 (ZI "dict" J0 (Qb 0) (Qa (Qf aq (Qb 4) (eC (.int 1))) (Qj)))) (Qx (aP (eB (Qf aK (Qf aq (Qb 4) (eC (.int 0))) (eC (.str "find")))) (Q3 (Q2 (Qa (eC (.str "found")) (Qa (Qb 6) (Qa (Qb 3) (Qa (Qb 7) (Qa (Qb 8) (Qj)))))))) (Zf)) (Qx (aP (eB (Qf aK (Qf aq (Qb 4) (eC (.int 0))) (eC (.str "cut")))) (Qx (Xa (ZI "dict" yF (Qb 0) (Qa (Qf aq (Qb 4) (eC (.int 1))) (Qa (eC .non) (Qj))))) (Q3 (Q2 (Qa (eC (.str "cut")) (Qa (Qb 6) (Qa (Qb 3) (Qa (Qb 7) (Qa (Qb 8) (Qj))))))))) (Zf)) (Qx (XT (Qf aq (Qb 4) (eC (.int 2))) (fu (Qb 0) (Qf aq (Qb 4) (eC (.int 1))))) (Q3 (Q2 (Qa (eC (.str "put")) (Qa (Qb 6) (Qa (Qb 3) (Qa (Qb 7) (Qa (Qb 8) (Qa (Qf aq (Zm (Qa (eC .non) (Qa (Qf QO (Qu 2 Qo (Qa (Qb 5) (Qa (eC (.int 12)) (Qj)))) (eC (.int 40))) (Qj)))) (Qf QO (Qu 2 Qo (Qa (Qb 5) (Qa (eC (.int 13)) (Qj)))) (eC (.int 2)))) (Qj)))))))))))))))
def JQ:List DV->M DV:=ZH 9 y9
abbrev qO:Stmt:=top 16
def y8:aG:=Qx (QG 2 (Qf QO (Qu 2 Qo (Qa (Qb 0) (Qa (eC (.int 15)) (Qj)))) (eC (.int 8)))) (Qx (QG 3 (Qf QO (Qu 2 Qo (Qa (Qb 0) (Qa (eC (.int 16)) (Qj)))) (eC (.int 40)))) (Qx (QG 4 (Zm (Qa (Q2 (Qa (eC (.str "rest")) (Qa (Qb 2) (Qj)))) (Qa (Q2 (Qa (eC (.str "take")) (Qa (Qb 2) (Qa (Qb 1) (Qj))))) (Qa (Q2 (Qa (eC (.str "side")) (Qa (Qb 2) (Qa (Qb 1) (Qa (Qb 3) (Qa (Qf QP (Qb 3) (eC (.int 1))) (Qj))))))) (Qa (Q2 (Qa (eC (.str "down")) (Qa (Qb 2) (Qa (Qb 1) (Qa (Qb 3) (Qa (eC (.int 3)) (Qj))))))) (Qj))))))) (Q3 (Qf QP (Qb 4) (Zm (Qa (Q2 (Qa (eC (.str "told")) (Qa (Qb 2) (Qa (Qb 1) (Qa (Qb 3) (Qa (eC .non) (Qj))))))) (Qa (Q2 (Qa (eC (.str "raised")) (Qa (Qb 2) (Qa (Qb 1) (Qa (Qb 3) (Qa (eC (.int 7)) (Qj))))))) (Qj))))))))
def Jb:List DV->M DV:=ZH 5 y8
abbrev qQ:Stmt:=top 9
def Va:aG:=Qx (QG 2 (Qu 2 Qo (Qa (Qb 0) (Qa (Qf QP (Qb 1) (eC (.int 1))) (Qj))))) (Qx (aP (eB (Qf mD (Qf QO (Qu 2 Qo (Qa (Qb 0) (Qa (Qb 1) (Qj)))) (eC (.int 4))) (eC (.int 0)))) (Q3 (Qf eZ (Zm (Qa (Qf Ji (eC (.int 10)) (eC (.int 30))) (Qa (JS (Qf Ji (eC (.int 10)) (eC (.int 30)))) (Qa (eC (.int 0)) (Qa (Qf qb (eC (.int 1)) (Qf Ji (eC (.int 10)) (eC (.int 30)))) (Qj)))))) (Qf QO (Qb 2) (eC (.int 4))))) (Zf)) (Qx (aP (eB (Qf mD (Qf QO (Qu 2 Qo (Qa (Qb 0) (Qa (Qb 1) (Qj)))) (eC (.int 4))) (eC (.int 1)))) (Q3 (Qf qb (Qf QO (Qf QP (Qf QP (Qf Yh (Qb 2) (Qf Ji (eC (.int 10)) (eC (.int 22)))) (Qf Yh (Qu 2 Qo (Qa (Qb 0) (Qa (Qf QP (Qb 1) (eC (.int 2))) (Qj)))) (Qf Ji (eC (.int 10)) (eC (.int 13))))) (Qb 2)) (Qf QP (Qf Yh (eC (.int 2)) (Qf Ji (eC (.int 10)) (eC (.int 30)))) (eC (.int 1)))) (Qf Ji (eC (.int 10)) (eC (.int 30))))) (Zf)) (Q3 (Qf qb (Qf QO (Qb 2) (eC (.int 9))) (eC (.int 4))))))
def ZM:List DV->M DV:=ZH 3 Va
abbrev xG:Stmt:=top 12
def Kc:aG:=Qx (QG 2 (Qf QO (Qu 2 Qo (Qa (Qb 0) (Qa (eC (.int 1)) (Qj)))) (eC (.int 8)))) (Qx (aP (eB (Qf eG (Qb 2) (eC (.int 5)))) (Qx (QG 4 (Qf QO (Qu 2 Qo (Qa (Qb 0) (Qa (eC (.int 2)) (Qj)))) (Qf qb (QR Zo (Qa (Qb 1) (Qj))) (eC (.int 1))))) (Qx (QG 5 (Qf QP (Qf QP (Qb 4) (eC (.int 1))) (Qf QO (Qu 2 Qo (Qa (Qb 0) (Qa (eC (.int 3)) (Qj)))) (Qf qb (Qf qb (QR Zo (Qa (Qb 1) (Qj))) (eC (.int 1))) (Qb 4))))) (Q3 (Q2 (Qa (eC (.str "stretch")) (Qa (Qf aq (Qb 1) (Qb 4)) (Qa (Qf aq (Qb 1) (Qb 5)) (Qj)))))))) (Zf)) (Qx (QG 3 (Qf aq (Qb 1) (Qf QO (Qu 2 Qo (Qa (Qb 0) (Qa (eC (.int 2)) (Qj)))) (QR Zo (Qa (Qb 1) (Qj)))))) (Qx (aP (eB (Qf cj (Qb 2) (eC (.int 2)))) (Q3 (Q2 (Qa (eC (.str "find")) (Qa (Qb 3) (Qj))))) (Zf)) (Qx (aP (eB (Qf aK (Qb 2) (eC (.int 5)))) (Q3 (Q2 (Qa (eC (.str "cut")) (Qa (Qb 3) (Qj))))) (Zf)) (Q3 (Q2 (Qa (eC (.str "put")) (Qa (Qb 3) (Qa (Qu 2 ZM (Qa (Qb 0) (Qa (eC (.int 4)) (Qj)))) (Qj))))))))))
def JW:List DV->M DV:=ZH 6 Kc
abbrev xJ:Stmt:=top 17
def Jg:aG:=Qx (QG 9 (ZI "dict" J0 (Qb 5) (Qa (Qb 8) (Qa (Qf aq (Qf aq (Qb 3) (Qb 8)) (eC (.int 1))) (Qj))))) (aP (eB (Qf aK (Qf aq (Qf aq (Qb 3) (Qb 8)) (eC (.int 0))) (eC (.str "stretch")))) (Xa (ZI "list" Jw (Qb 4) (Qa (Q2 (Qa (eC (.str "read")) (Qa (eC (.int 0)) (Qa (Qb 8) (Qa (eC (.int 0)) (Qa (Qu 3 Ja (Qa (Qb 2) (Qa (Qb 9) (Qa (Qf aq (Qf aq (Qb 3) (Qb 8)) (eC (.int 2))) (Qj))))) (Qa (eC .non) (Qa (eC .non) (Qj))))))))) (Qj)))) (Zf))
def qe:aG:=Ym (dj (Qb 6)) (gN 8) (Jg)
def JT:aG:=Qx (aP (cB (eB (Qf aK (Qb 6) (Zm (Qj)))) (eB (Qf eG (Qf QO (Qu 2 Qo (Qa (Qb 7) (Qa (eC (.int 20)) (Qj)))) (eC (.int 3))) (eC (.int 0))))) (Qx (Xa (ZI "list" Jw (Qb 6) (Qa (QR Zo (Qa (Qb 3) (Qj))) (Qj)))) (Xa (ZI "list" Jw (Qb 3) (Qa (Qu 2 JW (Qa (Qb 7) (Qa (Qb 1) (Qj)))) (Qj))))) (Zf)) (Qx (QG 8 (Qf aq (Qb 6) (Qf QO (Qu 2 Qo (Qa (Qb 7) (Qa (eC (.int 21)) (Qj)))) (QR Zo (Qa (Qb 6) (Qj)))))) (Qx (Xa (ZI "list" qG (Qb 4) (Qa (gc (Qu 2 Jb (Qa (Qb 7) (Qa (Qb 8) (Qj)))) (Q7) (QH (Qf QO (Qu 2 Qo (Qa (Qb 7) (Qa (eC (.int 22)) (Qj)))) (eC (.int 7))))) (Qj)))) (Qx (Xa (ZI "list" Jw (Qb 4) (Qa (Qu 6 JQ (Qa (Qb 2) (Qa (Qb 5) (Qa (Qb 1) (Qa (Qb 8) (Qa (Qf aq (Qb 3) (Qb 8)) (Qa (Qb 7) (Qj)))))))) (Qj)))) (aP (cB (eB (Qf bU (Qf aq (Qf aq (Qb 4) (JS (eC (.int 1)))) (eC (.int 0))) (eC (.str "read")))) (eB (Qf isD (Qf aq (Qf aq (Qb 4) (JS (eC (.int 1)))) (eC (.int 6))) (eC .non)))) (Xa (ZI "list" qH (Qb 6) (Qa (Qb 8) (Qj)))) (Zf)))))
def yU:aG:=Ym (dj (Qb 0)) (gN 7) (JT)
def Kf:aG:=Qx (QG 4 (Ur (Qj))) (Qx (QG 5 (X9)) (Qx (QG 6 (Ur (Qj))) (Qx (yU) (Qx (qe) (Q3 (Qb 4))))))
def YU:List DV->M DV:=ZH 10 Kf
abbrev zY:Stmt:=top 11
def Jv:aG:=aP (eB (Qf aK (Qf QO (Qu 2 Qo (Qa (Qb 0) (Qa (Qf QP (eC (.int 40)) (Qb 3)) (Qj)))) (eC (.int 2))) (eC (.int 0)))) (XT (Qu 2 ZM (Qa (Qb 0) (Qa (Qf QP (eC (.int 60)) (Qf Yh (eC (.int 4)) (Qb 3))) (Qj)))) (fu (Qb 2) (Qf aq (Qb 1) (Qb 3)))) (Zf)
def YL:aG:=Ym (iH (Ux (Qa (QR Zo (Qa (Qb 1) (Qj))) (Qj)))) (gN 3) (Jv)
def Ua:aG:=Qx (QG 2 (X9)) (Qx (YL) (Q3 (Qb 2)))
def X1:List DV->M DV:=ZH 4 Ua
abbrev xH:Stmt:=top 10
def XJ:aG:=Qx (QG 3 (Qu 2 ZM (Qa (Qb 0) (Qa (Qf QP (eC (.int 1)) (Qf Yh (eC (.int 4)) (Qb 2))) (Qj))))) (Qx (UO 1 (Qb 3)) (aP (eB (Qf aK (Qf QO (Qu 2 Qo (Qa (Qb 0) (Qa (Qf QP (eC (.int 4)) (Qf Yh (eC (.int 4)) (Qb 2))) (Qj)))) (eC (.int 2))) (eC (.int 0)))) (UO 1 (QR Ku (Qa (Qf QP (Qb 3) (eC (.int 1))) (Qa (Qf Ji (eC (.int 10)) (eC (.int 30))) (Qj))))) (Zf)))
def qc:aG:=Ym (iH (Ux (Qa (Qf QP (eC (.int 2)) (Qf QO (Qu 2 Qo (Qa (Qb 0) (Qa (eC (.int 0)) (Qj)))) (eC (.int 4)))) (Qj)))) (gN 2) (XJ)
def Kd:aG:=Qx (n_ 1) (Qx (qc) (Qx (Xu 1 (QG 1 (Ya (Qb 1)))) (Qx (Xu 1 (aP (eB (Qf aK (QR Zo (Qa (Qb 1) (Qj))) (eC (.int 1)))) (Xu 1 (QG 1 (QR xO (Qa (Zm (Qa (Qf aq (Qb 1) (eC (.int 0))) (Qa (eC (.int 5)) (Qj)))) (Qj))))) (Zf))) (Qx (Xu 1 (aP (eB (Qf aK (Qf aq (Qb 1) (eC (.int 0))) (Qf aq (Qb 1) (JS (eC (.int 1)))))) (Xu 1 (QG 1 (Zm (Qa (Qf aq (Qb 1) (eC (.int 0))) (Qa (Qf QP (Qf aq (Qb 1) (eC (.int 0))) (eC (.int 1))) (Qj)))))) (Zf))) (Xu 1 (Q3 (Qb 1)))))))
def YS:List DV->M DV:=ZH 4 Kd
abbrev zU:Stmt:=top 25
def Yt:au:=ZB false (iH (Ux (Qa (eC (.int 4)) (Qj)))) [0] (nH) (Qu 2 Qo (Qa (Qu 2 Zt (Qa (Qb 1) (Qa (eC (.int 2)) (Qj)))) (Qa (Qb 0) (Qj))))
def yS:au:=ZB false (iH (Ux (Qa (QR Zo (Qa (Qb 5) (Qj))) (Qj)))) [5] (eB (Qu 1 ZD (Qa (Qf aq (Qb 1) (Qb 0)) (Qj)))) (Qb 0)
def yT:au:=ZB false (dj (QR xO (Qa (Qb 2) (Qj)))) [2] (nH) (Q2 (Qa (Qb 0) (Qa (Qf aq (Qb 1) (Qb 0)) (Qj))))
def MP:aG:=Qx (QG 1 (Qu 1 YS (Qa (Qu 2 Zt (Qa (Qb 0) (Qa (eC (.int 0)) (Qj)))) (Qj)))) (Qx (QG 2 (Qu 2 X1 (Qa (Qu 2 Zt (Qa (Qb 0) (Qa (eC (.int 1)) (Qj)))) (Qa (Qb 1) (Qj))))) (Qx (QG 3 (yT)) (Qx (QG 4 (Ur (Qj))) (Qx (QG 5 (Qu 4 YU (Qa (aZ (Qb 0) (QH (eC (.int 3))) (QH (eC (.int 203)))) (Qa (Qb 1) (Qa (Qb 2) (Qa (Qb 4) (Qj))))))) (Qx (QG 6 (yS)) (Qx (aP (eB (Qf aK (Qb 6) (Zm (Qj)))) (Q3 (Qf aK (Qu 3 Z6 (Qa (Zm (Qa (Q2 (Qa (eC (.str "rest")) (Qa (eC (.int 0)) (Qj)))) (Qj))) (Qa (Zm (Qj)) (Qa (QR JZ (Qa (Qb 3) (Qj))) (Qj))))) (Q2 (Qa (eC (.str "fits")) (Qa (Qb 3) (Qj)))))) (Zf)) (Qx (QG 7 (Yt)) (Qx (QG 8 (Qf QO (Qf aq (Qb 7) (eC (.int 2))) (QR Zo (Qa (Qb 6) (Qj))))) (Qx (QG 9 (Qf aq (Qb 6) (Qb 8))) (Qx (QG 10 (Qf aq (Qb 5) (Qb 9))) (Qx (aP (JG (eB (Qf aK (Qf QO (Qf aq (Qb 7) (eC (.int 3))) (eC (.int 4))) (eC (.int 0)))) (cB (eB (Qf bU (Qf aq (Qb 10) (eC (.int 0))) (eC (.str "read")))) (eB (Qf isD (Qf aq (Qb 10) (eC (.int 6))) (eC .non))))) (XT (Qu 3 Jc (Qa (Qb 5) (Qa (Qb 9) (Qa (Qf aq (Qb 7) (eC (.int 1))) (Qj))))) (gT [5,8])) (Qx (QG 13 (Qu 3 J4 (Qa (Qb 5) (Qa (Qb 9) (Qa (Qf aq (Qb 4) (Qf aq (Qb 10) (eC (.int 2)))) (Qj)))))) (XT (Qu 5 ZN (Qa (Qb 10) (Qa (Qf aq (Qb 4) (Qf aq (Qb 10) (eC (.int 2)))) (Qa (Qb 13) (Qa (QR Zo (Qa (Qb 4) (Qj))) (Qa (Qb 7) (Qj))))))) (fu (Qb 5) (Qb 9))))) (Qx (QG 11 (Zm (Qa (QR JZ (Qa (Qb 5) (Qj))) (Qa (QR JZ (Qa (Qb 4) (Qj))) (Qa (QR JZ (Qa (Qb 3) (Qj))) (Qj)))))) (Qx (QG 12 (Qu 3 Z6 (Qa (Qf aq (Qb 11) (eC (.int 0))) (Qa (Qf aq (Qb 11) (eC (.int 1))) (Qa (Qf aq (Qb 11) (eC (.int 2))) (Qj)))))) (Qx (aP (cB (XE (eB (jd "tuple" (Qb 12)))) (cB (eB (Qf bU (QR Zo (Qa (Qb 12) (Qj))) (eC (.int 2)))) (cB (eB (jd "bool" (Qf aq (Qb 12) (eC (.int 1))))) (eB (Qf bU (Qb 12) (Q2 (Qa (eC (.str "unfit")) (Qa (Qb 8) (Qj))))))))) (Q3 (eC (.bl false))) (Zf)) (Q3 (Qf aK (Qb 11) (Zm (Qa (Qb 5) (Qa (Qb 4) (Qa (Qb 3) (Qj)))))))))))))))))))))
def V1:List DV->M DV:=ZH 14 MP
structure Al(K:Aa)(mg:C5):Prop where
 z0:mg "sorted" = none
 z1:mg "list" = none
 z2:mg "len" = none
 z3:mg "dict" = none
 z4:mg "range" = none
 z5:mg "int" = none
 z6:mg "tuple" = none
 z7:mg "reversed" = none
 z8:mg "min" = none
 z9:mg "set" = none
 rQ:mg "isinstance" = none
 Df:mg "bool" = none
 t0:UT K mg "MOMENT_WORDS" (.tup [.str "found", .str "put", .str "cut", .str "read"])
 d0:ou K mg "WORD_OF_DEED" [("find", "found"),("put", "put"),("cut", "cut"),("stretch", "read")]
 k0:U8 K "Judge" "worths"
 k1:U8 K "Judge" "closed"
 k2:U8 K "Judge" "begins"
 k3:U8 K "Judge" "deeds"
 u0:UM K "Judge" "plain_table" "Judge.plain_table" JN
 u1:UM K "Judge" "fits_key" "Judge.fits_key" Xw
 u2:UM K "Judge" "fits_stretch" "Judge.fits_stretch" JC
 u3:UM K "Judge" "fits" "Judge.fits" qN
 u4:UF K mg "moments" yK
 u5:UI K mg "Judge" "Judge.__init__" Xv
 u6:UF K mg "judged" UQ
 u7:UF K mg "_law_is_moment" XX
 u8:UF K mg "_law_one_more" Yn
 u9:UF K mg "_law_other_worth" Xd
 Dw:UF K mg "_law_other_pairs" Xc
 Dv:UF K mg "_law_other_word" Xx
 Du:UF K mg "_law_spoilt" qR
 Dt:UF K mg "_law_begin" zV
 Ds:UF K mg "_law_cell_at" YR
 Dr:UF K mg "_law_dealt" zW
 u16:UF K mg "_law_pairs" zX
 Dq:UF K mg "_law_read" xI
 Dm:UF K mg "_law_moment" qP
 Dl:UF K mg "_law_beside" qO
 Dk:UF K mg "_law_number" qQ
 Dj:UF K mg "_law_deed" xG
 Di:UF K mg "_law_rows" xJ
 Dh:UF K mg "_law_table" zY
 Dg:UF K mg "_law_pool" xH
def Yo:QS ["self"] ["self"] (Qs JN):=ZK
def qT:QS ["self", "deed", "worth", "key"] ["self", "deed", "worth"] (Qs Xw):=ZK
def X0:QS ["self", "number", "deed", "pairs", "aim", "begin", "end"] ["self", "number", "deed", "pairs", "aim"] (Qs JC):=ZK
def yf:QS ["self", "row", "number", "deed"] ["self", "row"] (Qs qN):=ZK
def KI:QS ["rows"] ["rows"] (Qs yK):=ZK
def qS:QS ["self", "deeds", "table"] ["self", "deeds", "table"] (Qs Xv):=ZK
def uh:QS ["rows", "deeds", "table", "judge", "told", "number"] ["rows", "deeds", "table"] (Qs UQ):=ZK
def zI:QS ["row"] ["row"] (Qs XX):=ZK
def jg:QS ["rows", "at", "x", "place", "ahead"] ["rows", "at", "x"] (Qs Yn):=ZK
def Y7:QS ["worth", "x"] ["worth", "x"] (Qs Xd):=ZK
def Y6:QS ["pairs", "key", "x", "at", "worth"] ["pairs", "key", "x"] (Qs Xc):=ZK
def qU:QS ["row", "x", "words", "word", "worth"] ["row", "x"] (Qs Xx):=ZK
def yj:QS ["row", "asked", "begin", "many", "xs", "kind"] ["row", "asked", "begin", "many", "xs"] (Qs qR):=ZK
def VQ:QS ["rows", "at", "asked", "begin", "row"] ["rows", "at", "asked"] (Qs zV):=ZK
def xK:QS ["script", "k"] ["script", "k"] (Qs YR):=ZK
def VR:QS ["cell", "k", "stir"] ["cell", "k"] (Qs zW):=ZK
def VS:QS ["plain", "begin", "end"] ["plain", "begin", "end"] (Qs zX):=ZK
def UU:QS ["plain", "aims", "pool", "deed", "asked", "cell", "begin", "hand", "page", "inner"] ["plain", "aims", "pool", "deed", "asked", "cell"] (Qs xI):=ZK
def yh:QS ["plain", "aims", "pool", "deed", "asked", "cell", "hand", "page", "old"] ["plain", "aims", "pool", "deed", "asked", "cell"] (Qs qP):=ZK
def yg:QS ["cell", "deed", "hand", "page", "some"] ["cell", "deed"] (Qs qO):=ZK
def yi:QS ["cell", "k", "number"] ["cell", "k"] (Qs qQ):=ZK
def UR:QS ["cell", "pool", "kind", "key", "at", "to"] ["cell", "pool"] (Qs xG):=ZK
def UV:QS ["cells", "pool", "plain", "deeds", "rows", "aims", "waits", "cell", "deed", "begin"] ["cells", "pool", "plain", "deeds"] (Qs xJ):=ZK
def VT:QS ["cell", "pool", "plain", "k"] ["cell", "pool"] (Qs zY):=ZK
def US:QS ["cell", "some", "k", "key"] ["cell"] (Qs xH):=ZK
def fU:QS ["script", "pool", "plain", "table", "deeds", "rows", "places", "xs", "number", "at", "row", "handed", "found", "begin"] ["script"] (Qs zU):=ZK
section
variable{P:Program}{w:World}{K:Aa}{mg:C5}{O8:Heap}(Z:Al K mg)
include Z
def Jk:V2 P w K mg O8 "Judge" "plain_table" 1 1 Zk:=hM Z.u0 Yo λs _ _ _ _ _ _ _ a=>Qr (QI (uV Z.z0 rfl (JX Z.k0 (Qc 0))))
def Y2:V2 P w K mg O8 "Judge" "fits_key" 1 3 Z1:=hM Z.u1 qT λs _ _ _ _ _ _ _ a=>Qm (QL 3 s (Qq (Qt a) (Qc 1) Qh)) (Qm (Q9 (QE (qL a.units) (Qc 2) (Jn (xj (Qt a)) PySem.F.plainAttrs_dict PySem.F.slot_dict_get PySem.F.type_dict_get (JX Z.k0 (Qc 0)) (Qd (Qc 3) Ql)) (QD _)) (Qr (QI zO)) QK) (Qm (Q9 (QE (Zx a.units) (Qq (Qt a) (Qc 1) Qh) QX (QD _)) (Qr (Xj (Qq (Qt a) (Qc 1) Qh) (X6 (Qt a) (JX Z.k0 (Qc 0)) (Qc 3)))) QK) (Qm (Q9 (DW.pt (XD (QE (Zx a.units) (Qq (Qt a) (Qc 1) Qh) QX (QD _)) (J7 (QE Ie (Qc 2) ZU (QD _))))) (Qr (J6 (Jn g9 PySem.F.plainAttrs_dict PySem.F.slot_dict_pop PySem.F.type_dict_pop (JX Z.k0 (Qc 0)) (Qd (Qc 3) Ql)))) QK) (Qr (QI zO)))))
theorem XH:V2 P w K mg O8 "Judge" "fits_stretch" 2 5 ZE:=hM Z.u2 X0 λs _ _ _ _ _ _ _ a=>Qm (QL 5 s (Jn (xj (Qt a)) PySem.F.plainAttrs_dict PySem.F.slot_dict_get PySem.F.type_dict_get (JX Z.k2 (Qc 0)) (Qd (Qc 1) (Qd (Qq (Qt a) (Qc 2) Qh) Ql)))) (Qm (QL 6 s (Qq (Qt a) (Qc 2) Qh)) (Qm (Q9 (QE kF (Qc 4) ZU (QD _)) (Qr (Xj zO (X6 (Qt a) (JX Z.k1 (Qc 0)) (Qc 1)))) (Qm (Q9 (Vk (jR ye ye (Qc 5) (Qc 4) (Qc 6))) (Qr (QI zO)) QK) (Qm (Xj (Qc 4) (X6 (Qt a) (JX Z.k2 (Qc 0)) (Qc 1))) (Qr (QL 6 s (Qc 4)))))) (Qr (QI (zf (Zx a.units) (qu jI Z.z1 boot_list (Qd (Qc 3) Ql)) (qo (caps:=["begin", "end"]) (idx:=[5,6]) ⟨by with_unfolding_all rfl,by decide +kernel,rfl,by decide +kernel,rfl,(by exact⟨rfl,⟨rfl,trivial⟩⟩),by with_unfolding_all rfl,(by exact⟨rfl,.inl rfl,⟨_,rfl⟩,(λh=>NameKind.noConfusion (Aj (show some NameKind.cell=some NameKind.local from h))),⟨rfl,.inl rfl,⟨_,rfl⟩,(λh=>NameKind.noConfusion (Aj (show some NameKind.cell=some NameKind.local from h))),trivial⟩⟩),by decide⟩ rfl (Ju (Uh (Jk Z) a (by decide) QW (Qc 0))) (λ_ _ _ _=>XC (jR rA ye (Qc 1) (Qq (Qt a) (Qc 0) Qh) (Qc 2))) (λ_ _ _ _=>Qc 0)) (QD _))))))
theorem j4:V2 P w K mg O8 "Judge" "fits" 3 2 Zr:=hM Z.u3 yf λs _ _ _ _ _ _ _ a=>Qm (QL 2 s (Qq (Qt a) (Qc 1) Qh)) (Qm (Q9 (DW.pt (zP (Vk (jR rA ye Qh (Qc 2) (Zz ZT Z.z2 PySem.boot_len (Qd (JX Z.k3 (Qc 0)) Ql)))) (zn (QE (kE (Qt a)) (Qc 2) (JX Z.k1 (Qc 0)) (by with_unfolding_all rfl))))) (Qr (QI zO)) QK) (Qm (QL 3 s (Qq (Qt a) (JX Z.k3 (Qc 0)) (Qc 2))) (Qm (Q9 (QE (qL a.units) (Qq (Qt a) (Qc 1) Qh) (N8 Z.d0 (Qq (Qt a) (Qc 3) Qh)) (QD _)) (Qr (QI zO)) QK) (Qm (Q9 (QE (Zx a.units) (Qq (Qt a) (Qc 1) Qh) QX (QD _)) (Qr (QI (Vf (XH Z) a (by decide) QW (Qc 0) (Qd (Qc 2) (Qd (Qc 3) (Qd (Qq (Qt a) (Qc 1) Qh) (Qd (Qq (Qt a) (Qc 1) Qh) Ql))))))) QK) (Qm (Xj zO (X6 (Qt a) (JX Z.k1 (Qc 0)) (Qc 2))) (Qr (QI (Vf (Y2 Z) a (by decide) QW (Qc 0) (Qd (Qc 3) (Qd (Qq (Qt a) (Qc 1) Qh) Ql))))))))))
theorem Uw:Has P w K mg O8 "moments" 1 1 q8:=hf Z.u4 KI λs _ _ _ _ _ _ _ a=>let ⟨_,c,b⟩:=Z.t0.ex;Qr (QI (qo (caps:=[]) (idx:=[]) ⟨by with_unfolding_all rfl,by decide +kernel,rfl,by decide +kernel,rfl,(by exact trivial),by with_unfolding_all rfl,(by exact trivial),by decide⟩ rfl (Ju (Qc 0)) (λ_ _ _ _=>XC (QE (kE (Qt a)) (Qq (Qt a) (Qc 0) Qh) (Sx rfl c b) (by with_unfolding_all rfl))) (λ_ _ _ _=>Qc 0)))
def Y1:oG P w K mg O8 "Judge" 1 3 Z0:=hI Z.u5 qS λs _ _ _ _ _ _ _ a=>Qm (Vj Z.k3 (Qc 0) (Qc 1)) (Qm (Vj Z.k0 (Qc 0) (qu (SN rfl) Z.z3 boot_dict (Qd (Qc 2) Ql))) (Qm (Vj Z.k2 (Qc 0) qt) (Qr (Vj Z.k1 (Qc 0) qt))))
theorem j5:Has P w K mg O8 "judged" 4 3 Z6:=hf Z.u6 uh λs _ _ _ _ _ _ _ a=>Qm (QL 3 s (Sw (Y1 Z) a (by decide) QW (Qd (Qc 1) (Qd (Qc 2) Ql)))) (Qm (QL 4 s (QB (Uw Z) a (by decide) QW (Qd (Qc 0) Ql))) (Qm (Yy PassesOwn.never rfl (Up (Xp rfl Z.z4 (Qd (Zz ZT Z.z2 PySem.boot_len (Qd (Qc 4) Ql)) Ql))) (Yx 5 s) (Qr (Q9 (Vk (jS (Vf (j4 Z) a (by decide) QW (Qc 3) (Qd (Qq (Qt a) (Qc 4) (Qc 5)) Ql)))) (Qr (QI (QV (Qd QX (Qd (Qc 5) Ql))))) QK))) (Qr (QI (QV (Qd QX (Qd (Uh (Jk Z) a (by decide) QW (Qc 3)) Ql)))))))
theorem J9:Has P w K mg O8 "_law_is_moment" 1 1 ZD:=hf Z.u7 zI λs _ _ _ _ _ _ _ a=>Qr (QI (zf (kE (Qt a)) (Qq (Qt a) (Qc 0) Qh) (QV (Qd QX (Qd QX (Qd QX (Qd QX Ql))))) (by with_unfolding_all rfl)))
theorem zq:Has P w K mg O8 "_law_one_more" 2 3 Jc:=hf Z.u8 jg λs _ _ _ _ _ _ _ a=>Qm (QL 3 s (Qn QZ (Qn QZ (Qc 1) Qh) (Qn Q8 (Qc 2) (Qn xu (Zz ZT Z.z2 PySem.boot_len (Qd (Qc 0) Ql)) (Qc 1))))) (Qm (QL 4 s (Zz ZT Z.z2 PySem.boot_len (Qd (qo (caps:=[]) (idx:=[]) ⟨by with_unfolding_all rfl,by decide +kernel,rfl,by decide +kernel,rfl,(by exact trivial),by with_unfolding_all rfl,(by exact trivial),by decide⟩ rfl (Ju (Vh (Qc 0) Zu (Q1 (Qc 3)))) (λ_ _ _ _=>XC (jS (QB (J9 Z) a (by decide) QW (Qd (Qc 0) Ql)))) (λ_ _ _ _=>Qc 0)) Ql))) (Qr (QI (QV (Qd (Qn QZ (Qn QZ (Vh (Qc 0) Zu (Q1 (Qc 3))) (ZG (Qd (Qq (Qt a) (Qc 0) (Qc 1)) Ql))) (Vh (Qc 0) (Q1 (Qc 3)) Zu)) (Qd (Qc 4) Ql))))))
def JM:Has P w K mg O8 "_law_other_worth" 1 2 Zg:=hf Z.u9 Y7 λs _ _ _ _ _ _ _ a=>Qm (Q9 (QE kF (Qc 0) ZU (QD _)) (Qr (QI (Qq (Qt a) (ZG (Qd Qh (Qd Qh (Qd (X4 (Qn Yk Qh Qh)) Ql)))) (Qn Q8 (Qc 1) Qh)))) QK) (Qm (Q9 (QE (Zx a.units) (Qn Q8 (Qc 1) Qh) Qh (QD _)) (Qr (QI ZU)) QK) (Qr (QI (Qn QZ (Qc 0) (Qq (Qt a) (ZG (Qd Qh (Qd (X4 Qh) Ql))) (qu CP Z.z5 boot_int (Qd (zf vU (Qc 0) Qh (QD _)) Ql)))))))
theorem YK:Has P w K mg O8 "_law_other_pairs" 2 3 ZW:=hf Z.Dw Y6 λs _ _ _ _ _ _ _ a=>Qm (Q9 (QE (Zx a.units) (Qc 0) (QV Ql) (QD _)) (Qr (QI (QV (Qd (QV (Qd (Qc 1) (Qd Qh Ql))) Ql)))) QK) (Qm (QL 3 s (Qn Q8 (Qn kD (Qc 2) Qh) (Zz ZT Z.z2 PySem.boot_len (Qd (Qc 0) Ql)))) (Qm (Xj (Qq (Qt a) (Qc 0) (Qc 3)) (uW [1,4] s (by repeat' (first|exact trivial|refine⟨rfl,(by first|exact .inl rfl|exact .inr rfl),.inl rfl,?_⟩)) rfl (λ_ _ _=>rfl))) (Qm (Q9 (QE (Zx a.units) (Qn Q8 (Qc 2) Qh) Qh (QD _)) (Qr (QI (Qn QZ (Z7 (Qc 0) Zu (Q1 (Qc 3))) (Z7 (Qc 0) (Q1 (Qn QZ (Qc 3) Qh)) Zu)))) QK) (Qm (Q9 (QE (Zx a.units) (Qn Q8 (Qc 2) Qh) Qh (QD _)) (Qr (QI (Qn QZ (Qn QZ (Z7 (Qc 0) Zu (Q1 (Qc 3))) (QV (Qd (QV (Qd (Qc 1) (Qd (QB (JM Z) a (by decide) QW (Qd (Qc 4) (Qd Qh Ql))) Ql))) Ql))) (Z7 (Qc 0) (Q1 (Qn QZ (Qc 3) Qh)) Zu)))) QK) (Qm (Q9 (DW.pt (XD (QE (Zx a.units) (Qn Q8 (Qc 2) Qh) Qh (QD _)) (J7 (QE vU (Zz ZT Z.z2 PySem.boot_len (Qd (Qc 0) Ql)) Qh (QD _))))) (Qr (QI (vq Z.z6 Z.z7 rfl (Qc 0)))) QK) (Qm (Q9 (QE (Zx a.units) (Qn Q8 (Qc 2) Qh) Qh (QD _)) (Qr (QI (Qn QZ (Qn QZ (Z7 (Qc 0) Zu (Q1 (Qc 3))) (QV (Qd (QV (Qd (Qn QZ (Qc 1) (Qq (Qt a) (ZG (Qd Qh (Qd (X4 Qh) Ql))) (qu CP Z.z5 boot_int (Qd (zf vU (Qc 1) Qh (QD _)) Ql)))) (Qd (Qc 4) Ql))) Ql))) (Z7 (Qc 0) (Q1 (Qn QZ (Qc 3) Qh)) Zu)))) QK) (Qr (QI (Qn QZ (Qn QZ (Z7 (Qc 0) Zu (Q1 (Qc 3))) (Z7 (Qc 0) (Q1 (Qc 3)) (Q1 (Qn QZ (Qc 3) Qh)))) (Z7 (Qc 0) (Q1 (Qc 3)) Zu))))))))))
theorem Y3:Has P w K mg O8 "_law_other_word" 1 2 Z2:=hf Z.Dv qU λs _ _ _ _ _ _ _ a=>Qm (X7 2 s (caps:=["row"]) (idx:=[0]) ⟨by with_unfolding_all rfl,by decide +kernel,rfl,by decide +kernel,rfl,(by exact⟨rfl,trivial⟩),by with_unfolding_all rfl,(by exact⟨rfl,.inl rfl,⟨_,rfl⟩,(λh=>NameKind.noConfusion (Aj (show some NameKind.cell=some NameKind.local from h))),trivial⟩),by decide⟩ rfl (Ju (ZG (Qd QX (Qd QX (Qd QX (Qd QX Ql)))))) (λ_ _ _ _=>XC (QE (qL a.units) (Qc 0) (Qq (Qt a) (Qc 1) Qh) (QD _))) (λ_ _ _ _=>Qc 0)) (Qm (QL 3 s (Qq (Qt a) (Qc 2) (Qn Q8 (Qc 1) Qh))) (Qm (QL 4 s ZU) (Qm (Q9 (QE (qL a.units) (Qq (Qt a) (Qc 0) Qh) QX (QD _)) (Qr (QL 4 s (Qq (Qt a) (Qc 0) Qh))) QK) (Qm (Q9 (QE (Zx a.units) (Qc 3) QX (QD _)) (Qr (QI (Qn QZ (Qn QZ (QV (Qd (Qc 3) Ql)) (Z7 (Qc 0) (Q1 Qh) (Q1 Qh))) (QV (Qd (QV Ql) (Qd ZU (Qd ZU Ql))))))) QK) (Qm (Q9 (QE (Zx a.units) (Qc 3) QX (QD _)) (Qr (QI (Qn QZ (Qn QZ (QV (Qd (Qc 3) Ql)) (Z7 (Qc 0) (Q1 Qh) (Q1 Qh))) (QV (Qd (Qc 4) (Qd ZU Ql)))))) QK) (Qr (QI (Qn QZ (Qn QZ (QV (Qd (Qc 3) Ql)) (Z7 (Qc 0) (Q1 Qh) (Q1 Qh))) (QV (Qd (Qc 4) Ql))))))))))
theorem j8:Has P w K mg O8 "_law_spoilt" 3 5 ZN:=hf Z.Du yj λs _ _ _ _ _ _ _ a=>Qm (QL 5 s (Qn Q8 (Qq (Qt a) (Qc 4) Qh) Qh)) (Qm (Q9 (QE (Zx a.units) (Qc 5) Qh (QD _)) (Qr (QI (Qn QZ (Qn QZ (Z7 (Qc 0) Zu (Q1 Qh)) (QV (Qd (Qq (Qt a) (ZG (Qd (Qc 3) (Qd (X4 Qh) (Qd (Qn Yk Qh Qh) (Qd (Qn QZ (Qc 3) Qh) Ql))))) (Qn Q8 (Qq (Qt a) (Qc 4) Qh) Qh)) Ql))) (Z7 (Qc 0) (Q1 Qh) Zu)))) QK) (Qm (Q9 (QE (Zx a.units) (Qc 5) Qh (QD _)) (Qr (QI (QB (Y3 Z) a (by decide) QW (Qd (Qc 0) (Qd (Qq (Qt a) (Qc 4) Qh) Ql))))) QK) (Qm (Q9 (QE (qL a.units) (Qq (Qt a) (Qc 0) Qh) QX (QD _)) (Qr (QI (Qn QZ (Qn QZ (Z7 (Qc 0) Zu (Q1 Qh)) (QV (Qd (QB (JM Z) a (by decide) QW (Qd (Qq (Qt a) (Qc 0) Qh) (Qd (Qq (Qt a) (Qc 4) Qh) Ql))) Ql))) (Z7 (Qc 0) (Q1 Qh) Zu)))) QK) (Qm (Q9 (DW.pt (XD (QE (Zx a.units) (Qc 5) Qh (QD _)) (XD (QE kF (Qq (Qt a) (Qc 0) Qh) ZU (QD _)) (J7 (QE (Zx a.units) (Qn Q8 (Qq (Qt a) (Qc 4) Qh) Qh) Qh (QD _)))))) (Qr (QI (Qn QZ (Z7 (Qc 0) Zu (Q1 Qh)) (QV (Qd Qh (Qd (Qq (Qt a) (ZG (Qd (Qq (Qt a) (Qc 1) Qh) (Qd (Zz (CK rfl) Z.z8 boot_min (Qd (Qn Yk Qh Qh) (Qd (Qn QZ (Qn QZ (Qq (Qt a) (Qc 1) Qh) Qh) (Qn Q8 (Qq (Qt a) (Qc 4) Qh) Qh)) Ql))) Ql))) (Qn Q8 (Qn kD (Qq (Qt a) (Qc 4) Qh) Qh) Qh)) Ql)))))) QK) (Qm (Q9 (DW.pt (XD (QE ye (Qc 5) Qh (QD _)) (J7 (QE vU (Qn Q8 (Qq (Qt a) (Qc 4) Qh) Qh) Qh (QD _))))) (Qr (QI (Qn QZ (Z7 (Qc 0) Zu (Q1 Qh)) (QV (Qd (QV Ql) (Qd Qh (Qd (Qq (Qt a) (ZG (Qd (Qc 2) (Qd (Qq (Qt a) (Qc 1) Qh) Ql))) (Qn Q8 (Qn kD (Qq (Qt a) (Qc 4) Qh) Qh) Qh)) Ql))))))) QK) (Qr (QI (Qn QZ (Qn QZ (Z7 (Qc 0) Zu (Q1 Qh)) (QV (Qd (QB (YK Z) a (by decide) QW (Qd (Qq (Qt a) (Qc 0) Qh) (Qd (Qq (Qt a) (Qc 1) Qh) (Qd (Qq (Qt a) (Qc 4) Qh) Ql)))) Ql))) (Z7 (Qc 0) (Q1 Qh) Zu)))))))))
def yb:Has P w K mg O8 "_law_begin" 1 3 J4:=hf Z.Dt VQ λs _ _ _ _ _ _ _ a=>Qm (QL 3 s (Qq (Qt a) (Qc 2) Qh)) (Qm (Yy PassesOwn.never rfl (Ju (Vh (Qc 0) Zu (Q1 (Qc 1)))) (Yx 4 s) (Qr (Q9 (DW.pt (XD (QE (Zx a.units) (Qq (Qt a) (Qc 4) Qh) QX (QD _)) (J7 (QE (Zx a.units) (Qq (Qt a) (Qc 4) Qh) (Qq (Qt a) (Qq (Qt a) (Qc 0) (Qc 1)) Qh) (QD _))))) (Qr (QL 3 s (Qq (Qt a) (Qc 4) Qh))) QK))) (Qr (QI (Qc 3))))
def JJ:Has P w K mg O8 "_law_cell_at" 1 2 Zt:=hf Z.Ds xK λs _ _ _ _ _ _ _ a=>Qm (Q9 (QE ye (Qc 1) (Zz CN Z.z2 PySem.boot_len (Qd (Qc 0) Ql)) (QD _)) (Qr (QI (CG (Qc 0) (Qc 1)))) QK) (Qr (QI Qh))
def QA:Has P w K mg O8 "_law_dealt" 1 2 Qo:=hf Z.Dr VR λs _ _ _ _ _ _ _ a=>Qm (QL 2 s (Qn Q8 (Qn QZ (Qn Q8 (Qc 0) Qh) (Qn YQ Qh (Qn QZ (Qc 1) Qh))) Qh)) (Qm (QL 2 s (Qn QZ (Qn Q8 (Qn YQ (Qc 2) (Qc 2)) Qh) (Qn YQ Qh (Qc 1)))) (Qr (QI (Qn Q8 (Qn YQ (Qc 2) (Qn QZ (Qc 2) Qh)) Qh))))
theorem Xk:Has P w K mg O8 "_law_pairs" 1 3 Ja:=hf Z.u16 VS λs _ _ _ _ _ _ _ a=>Qr (QI (qu uQ Z.z6 boot_tuple (Qd (qo (caps:=["plain", "begin", "end"]) (idx:=[0,1,2]) ⟨by with_unfolding_all rfl,by decide +kernel,rfl,by decide +kernel,rfl,(by exact⟨rfl,⟨rfl,⟨rfl,trivial⟩⟩⟩),by with_unfolding_all rfl,(by exact⟨rfl,.inl rfl,⟨_,rfl⟩,(λh=>NameKind.noConfusion (Aj (show some NameKind.cell=some NameKind.local from h))),⟨rfl,.inl rfl,⟨_,rfl⟩,(λh=>NameKind.noConfusion (Aj (show some NameKind.cell=some NameKind.local from h))),⟨rfl,.inl rfl,⟨_,rfl⟩,(λh=>NameKind.noConfusion (Aj (show some NameKind.cell=some NameKind.local from h))),trivial⟩⟩⟩),by decide⟩ rfl (Ju (Zz (ze rfl) Z.z0 boot_sorted (Qd (Qc 0) Ql))) (λ_ _ _ _=>XC (DW.pt (XD (QE rA (Qc 2) (Qc 0) (QD _)) (J7 (QE ye (Qc 0) (Qc 3) (QD _)))))) (λ_ _ _ _=>QV (Qd (Qc 0) (Qd (Qq (Qt a) (Qc 1) (Qc 0)) Ql)))) Ql)))
theorem Vw:Has P w K mg O8 "_law_read" 2 6 YT:=tL Z.Dq UU λs _ _ _ _ _ _ _ a=>Qm (QL 6 s (Jn (xj (Qt a)) PySem.F.plainAttrs_dict PySem.F.slot_dict_get PySem.F.type_dict_get (Qc 1) (Qd (Qc 3) (Qd (Qq (Qt a) (Qc 4) Qh) Ql)))) (Qm (QL 7 s (Qn Q8 (QB (QA Z) a (by decide) QW (Qd (Qc 5) (Qd Qh Ql))) Qh)) (Qm (QL 8 s (Qn Q8 (QB (QA Z) a (by decide) QW (Qd (Qc 5) (Qd Qh Ql))) Qh)) (Qm (X7 9 s (caps:=["begin", "asked"]) (idx:=[6,4]) ⟨by with_unfolding_all rfl,by decide +kernel,rfl,by decide +kernel,rfl,(by exact⟨rfl,⟨rfl,trivial⟩⟩),by with_unfolding_all rfl,(by exact⟨rfl,.inl rfl,⟨_,rfl⟩,(λh=>NameKind.noConfusion (Aj (show some NameKind.cell=some NameKind.local from h))),⟨rfl,.inl rfl,⟨_,rfl⟩,(λh=>NameKind.noConfusion (Aj (show some NameKind.cell=some NameKind.local from h))),trivial⟩⟩),by decide⟩ rfl (Ju (Qc 2)) (λ_ _ _ _=>XC (DW.pt (XD (QE ye (Qc 1) (Qc 0) (QD _)) (J7 (QE ye (Qc 0) (Qq (Qt a) (Qc 2) Qh) (QD _)))))) (λ_ _ _ _=>Qc 0)) (Qm (Q9 (DW.pt (zP (QE (Zx a.units) (Qc 9) (ZG Ql) (QD _)) (zn (QE (Zx a.units) (Qn Q8 (QB (QA Z) a (by decide) QW (Qd (Qc 5) (Qd Qh Ql))) Qh) Qh (QD _))))) (Qr (QI (QV (Qd QX (Qd (Qc 7) (Qd (Qc 3) (Qd (Qc 8) (Qd (QB (Xk Z) a (by decide) QW (Qd (Qc 0) (Qd (Qc 6) (Qd (Qq (Qt a) (Qc 4) Qh) Ql)))) (Qd ZU (Qd ZU Ql)))))))))) QK) (Qm (Xj (Qq (Qt a) (Qc 9) (Qn Q8 (QB (QA Z) a (by decide) QW (Qd (Qc 5) (Qd Qh Ql))) (Zz ZT Z.z2 PySem.boot_len (Qd (Qc 9) Ql)))) (X6 (Qt a) (Qc 1) (Qc 3))) (Qr (QI (QV (Qd QX (Qd (Qc 7) (Qd (Qc 3) (Qd (Qc 8) (Qd (QB (Xk Z) a (by decide) QW (Qd (Qc 0) (Qd (Qc 6) (Qd (Qq (Qt a) (Qc 1) (Qc 3)) Ql)))) (Qd (Qn Q8 (QB (QA Z) a (by decide) QW (Qd (Qc 5) (Qd Qh Ql))) Qh) (Qd (Qq (Qt a) (Qc 1) (Qc 3)) Ql)))))))))))))))
theorem j7:Has P w K mg O8 "_law_moment" 3 6 JQ:=tL Z.Dm yh λs _ _ _ _ _ _ _ a=>Qm (QL 6 s (Qn Q8 (QB (QA Z) a (by decide) QW (Qd (Qc 5) (Qd Qh Ql))) Qh)) (Qm (QL 7 s (Qn Q8 (QB (QA Z) a (by decide) QW (Qd (Qc 5) (Qd Qh Ql))) Qh)) (Qm (Q9 (QE (Zx a.units) (Qq (Qt a) (Qc 4) Qh) QX (QD _)) (Qr (QI (QB (Vw Z) a (by decide) QW (Qd (Qc 0) (Qd (Qc 1) (Qd (Qc 2) (Qd (Qc 3) (Qd (Qc 4) (Qd (Qc 5) Ql))))))))) QK) (Qm (QL 8 s (Jn (xj (Qt a)) PySem.F.plainAttrs_dict PySem.F.slot_dict_get PySem.F.type_dict_get (Qc 0) (Qd (Qq (Qt a) (Qc 4) Qh) Ql))) (Qm (Q9 (QE (Zx a.units) (Qq (Qt a) (Qc 4) Qh) QX (QD _)) (Qr (QI (QV (Qd QX (Qd (Qc 6) (Qd (Qc 3) (Qd (Qc 7) (Qd (Qc 8) Ql)))))))) QK) (Qm (Q9 (QE (Zx a.units) (Qq (Qt a) (Qc 4) Qh) QX (QD _)) (Qm (J6 (Jn g9 PySem.F.plainAttrs_dict PySem.F.slot_dict_pop PySem.F.type_dict_pop (Qc 0) (Qd (Qq (Qt a) (Qc 4) Qh) (Qd ZU Ql)))) (Qr (QI (QV (Qd QX (Qd (Qc 6) (Qd (Qc 3) (Qd (Qc 7) (Qd (Qc 8) Ql))))))))) QK) (Qm (Xj (Qq (Qt a) (Qc 4) Qh) (X6 (Qt a) (Qc 0) (Qq (Qt a) (Qc 4) Qh))) (Qr (QI (QV (Qd QX (Qd (Qc 6) (Qd (Qc 3) (Qd (Qc 7) (Qd (Qc 8) (Qd (Qq (Qt a) (ZG (Qd ZU (Qd (Qn Q8 (QB (QA Z) a (by decide) QW (Qd (Qc 5) (Qd Qh Ql))) Qh) Ql))) (Qn Q8 (QB (QA Z) a (by decide) QW (Qd (Qc 5) (Qd Qh Ql))) Qh)) Ql)))))))))))))))
theorem j6:Has P w K mg O8 "_law_beside" 2 2 Jb:=hf Z.Dl yg λs _ _ _ _ _ _ _ a=>Qm (QL 2 s (Qn Q8 (QB (QA Z) a (by decide) QW (Qd (Qc 0) (Qd Qh Ql))) Qh)) (Qm (QL 3 s (Qn Q8 (QB (QA Z) a (by decide) QW (Qd (Qc 0) (Qd Qh Ql))) Qh)) (Qm (QL 4 s (ZG (Qd (QV (Qd QX (Qd (Qc 2) Ql))) (Qd (QV (Qd QX (Qd (Qc 2) (Qd (Qc 1) Ql)))) (Qd (QV (Qd QX (Qd (Qc 2) (Qd (Qc 1) (Qd (Qc 3) (Qd (Qn QZ (Qc 3) Qh) Ql)))))) (Qd (QV (Qd QX (Qd (Qc 2) (Qd (Qc 1) (Qd (Qc 3) (Qd Qh Ql)))))) Ql)))))) (Qr (QI (Qn QZ (Qc 4) (ZG (Qd (QV (Qd QX (Qd (Qc 2) (Qd (Qc 1) (Qd (Qc 3) (Qd ZU Ql)))))) (Qd (QV (Qd QX (Qd (Qc 2) (Qd (Qc 1) (Qd (Qc 3) (Qd Qh Ql)))))) Ql))))))))
theorem JY:Has P w K mg O8 "_law_number" 2 2 ZM:=hf Z.Dk yi λs _ _ _ _ _ _ _ a=>Qm (QL 2 s (QB (QA Z) a (by decide) QW (Qd (Qc 0) (Qd (Qn QZ (Qc 1) Qh) Ql)))) (Qm (Q9 (QE (wk a.units) (Qn Q8 (QB (QA Z) a (by decide) QW (Qd (Qc 0) (Qd (Qc 1) Ql))) Qh) Qh (QD _)) (Qr (QI (CG (ZG (Qd (Qn Yk Qh Qh) (Qd (X4 (Qn Yk Qh Qh)) (Qd Qh (Qd (Qn xu Qh (Qn Yk Qh Qh)) Ql))))) (Qn Q8 (Qc 2) Qh)))) QK) (Qm (Q9 (QE (wk a.units) (Qn Q8 (QB (QA Z) a (by decide) QW (Qd (Qc 0) (Qd (Qc 1) Ql))) Qh) Qh (QD _)) (Qr (QI (Qn xu (Qn Q8 (Qn QZ (Qn QZ (Qn YQ (Qc 2) (Qn Yk Qh Qh)) (Qn YQ (QB (QA Z) a (by decide) QW (Qd (Qc 0) (Qd (Qn QZ (Qc 1) Qh) Ql))) (Qn Yk Qh Qh))) (Qc 2)) (Qn QZ (Qn YQ Qh (Qn Yk Qh Qh)) Qh)) (Qn Yk Qh Qh)))) QK) (Qr (QI (Qn xu (Qn Q8 (Qc 2) Qh) Qh)))))
theorem Vu:Has P w K mg O8 "_law_deed" 3 2 JW:=hf Z.Dj UR λs _ _ _ _ _ _ _ a=>Qm (QL 2 s (Qn Q8 (QB (QA Z) a (by decide) QW (Qd (Qc 0) (Qd Qh Ql))) Qh)) (Qm (Q9 (QE vU (Qc 2) Qh (QD _)) (Qm (QL 4 s (Qn Q8 (QB (QA Z) a (by decide) QW (Qd (Qc 0) (Qd Qh Ql))) (Qn xu (Zz ZT Z.z2 PySem.boot_len (Qd (Qc 1) Ql)) Qh))) (Qm (QL 5 s (Qn QZ (Qn QZ (Qc 4) Qh) (Qn Q8 (QB (QA Z) a (by decide) QW (Qd (Qc 0) (Qd Qh Ql))) (Qn xu (Qn xu (Zz ZT Z.z2 PySem.boot_len (Qd (Qc 1) Ql)) Qh) (Qc 4))))) (Qr (QI (QV (Qd QX (Qd (Qq (Qt a) (Qc 1) (Qc 4)) (Qd (Qq (Qt a) (Qc 1) (Qc 5)) Ql)))))))) QK) (Qm (QL 3 s (Qq (Qt a) (Qc 1) (Qn Q8 (QB (QA Z) a (by decide) QW (Qd (Qc 0) (Qd Qh Ql))) (Zz ZT Z.z2 PySem.boot_len (Qd (Qc 1) Ql))))) (Qm (Q9 (QE ye (Qc 2) Qh (QD _)) (Qr (QI (QV (Qd QX (Qd (Qc 3) Ql))))) QK) (Qm (Q9 (QE (Zx a.units) (Qc 2) Qh (QD _)) (Qr (QI (QV (Qd QX (Qd (Qc 3) Ql))))) QK) (Qr (QI (QV (Qd QX (Qd (Qc 3) (Qd (QB (JY Z) a (by decide) QW (Qd (Qc 0) (Qd Qh Ql))) Ql))))))))))
theorem Vx:Has P w K mg O8 "_law_rows" 4 4 YU:=hf Z.Di UV λs _ _ _ _ _ _ _ a=>Qm (QL 4 s (Vg Ql)) (Qm (QL 5 s qt) (Qm (QL 6 s (Vg Ql)) (Qm (Yy PassesOwn.never rfl (Ju (Qc 0)) (Yx 7 s) (Qm (Q9 (DW.pt (zP (QE (Zx a.units) (Qc 6) (ZG Ql) (QD _)) (zn (QE vU (Qn Q8 (QB (QA Z) a (by decide) QW (Qd (Qc 7) (Qd Qh Ql))) Qh) Qh (QD _))))) (Qm (J6 (Jn qI PySem.F.plainAttrs_list PySem.F.slot_list_append PySem.F.type_list_append (Qc 6) (Qd (Zz ZT Z.z2 PySem.boot_len (Qd (Qc 3) Ql)) Ql))) (Qr (J6 (Jn qI PySem.F.plainAttrs_list PySem.F.slot_list_append PySem.F.type_list_append (Qc 3) (Qd (QB (Vu Z) a (by decide) QW (Qd (Qc 7) (Qd (Qc 1) Ql))) Ql))))) QK) (Qm (QL 8 s (Qq (Qt a) (Qc 6) (Qn Q8 (QB (QA Z) a (by decide) QW (Qd (Qc 7) (Qd Qh Ql))) (Zz ZT Z.z2 PySem.boot_len (Qd (Qc 6) Ql))))) (Qm (J6 (Jn ka PySem.F.plainAttrs_list PySem.F.slot_list_extend PySem.F.type_list_extend (Qc 4) (Qd (N_ (QB (j6 Z) a (by decide) QW (Qd (Qc 7) (Qd (Qc 8) Ql))) Zu (Q1 (Qn Q8 (QB (QA Z) a (by decide) QW (Qd (Qc 7) (Qd Qh Ql))) Qh))) Ql))) (Qm (J6 (Jn qI PySem.F.plainAttrs_list PySem.F.slot_list_append PySem.F.type_list_append (Qc 4) (Qd (QB (j7 Z) a (by decide) QW (Qd (Qc 2) (Qd (Qc 5) (Qd (Qc 1) (Qd (Qc 8) (Qd (Qq (Qt a) (Qc 3) (Qc 8)) (Qd (Qc 7) Ql))))))) Ql))) (Qr (Q9 (DW.pt (zP (QE (qL a.units) (Qq (Qt a) (Qq (Qt a) (Qc 4) (X4 Qh)) Qh) QX (QD _)) (zn (QE kF (Qq (Qt a) (Qq (Qt a) (Qc 4) (X4 Qh)) Qh) ZU (QD _))))) (Qr (J6 (Jn kc PySem.F.plainAttrs_list PySem.F.slot_list_remove PySem.F.type_list_remove (Qc 6) (Qd (Qc 8) Ql)))) QK))))))) (Qm (Yy PassesOwn.never rfl (Ju (Qc 6)) (Yx 8 s) (Qm (QL 9 s (Jn (xj (Qt a)) PySem.F.plainAttrs_dict PySem.F.slot_dict_get PySem.F.type_dict_get (Qc 5) (Qd (Qc 8) (Qd (Qq (Qt a) (Qq (Qt a) (Qc 3) (Qc 8)) Qh) Ql)))) (Qr (Q9 (QE (Zx a.units) (Qq (Qt a) (Qq (Qt a) (Qc 3) (Qc 8)) Qh) QX (QD _)) (Qr (J6 (Jn qI PySem.F.plainAttrs_list PySem.F.slot_list_append PySem.F.type_list_append (Qc 4) (Qd (QV (Qd QX (Qd Qh (Qd (Qc 8) (Qd Qh (Qd (QB (Xk Z) a (by decide) QW (Qd (Qc 2) (Qd (Qc 9) (Qd (Qq (Qt a) (Qq (Qt a) (Qc 3) (Qc 8)) Qh) Ql)))) (Qd ZU (Qd ZU Ql)))))))) Ql)))) QK)))) (Qr (QI (Qc 4)))))))
theorem yc:Has P w K mg O8 "_law_table" 3 2 X1:=hf Z.Dh VT λs _ _ _ _ _ _ _ a=>Qm (QL 2 s qt) (Qm (Yy PassesOwn.never rfl (Up (Xp rfl Z.z4 (Qd (Zz ZT Z.z2 PySem.boot_len (Qd (Qc 1) Ql)) Ql))) (Yx 3 s) (Qr (Q9 (QE (Zx a.units) (Qn Q8 (QB (QA Z) a (by decide) QW (Qd (Qc 0) (Qd (Qn QZ Qh (Qc 3)) Ql))) Qh) Qh (QD _)) (Qr (Xj (QB (JY Z) a (by decide) QW (Qd (Qc 0) (Qd (Qn QZ Qh (Qn YQ Qh (Qc 3))) Ql))) (X6 (Qt a) (Qc 2) (Qq (Qt a) (Qc 1) (Qc 3))))) QK))) (Qr (QI (Qc 2))))
theorem Vv:Has P w K mg O8 "_law_pool" 3 1 YS:=hf Z.Dg US λs _ _ _ _ _ _ _ a=>Qm (N6 1 s) (Qm (Yy PassesOwn.never rfl (Up (Xp rfl Z.z4 (Qd (Qn QZ Qh (Qn Q8 (QB (QA Z) a (by decide) QW (Qd (Qc 0) (Qd Qh Ql))) Qh)) Ql))) (Yx 2 s) (Qm (QL 3 s (QB (JY Z) a (by decide) QW (Qd (Qc 0) (Qd (Qn QZ Qh (Qn YQ Qh (Qc 2))) Ql)))) (Qm (ga 1 (Qc 3)) (Qr (Q9 (QE (Zx a.units) (Qn Q8 (QB (QA Z) a (by decide) QW (Qd (Qc 0) (Qd (Qn QZ Qh (Qn YQ Qh (Qc 2))) Ql))) Qh) Qh (QD _)) (Qr (ga 1 (Zz (CK rfl) Z.z8 boot_min (Qd (Qn QZ (Qc 3) Qh) (Qd (Qn Yk Qh Qh) Ql))))) QK))))) (Qm (zj 1 (QL 1 s (Kk Z.z0 Z.z9 rfl (Qc 1)))) (Qm (zj 1 (Q9 (QE (Zx a.units) (Zz ZT Z.z2 PySem.boot_len (Qd (Qc 1) Ql)) Qh (QD _)) (Qr (zj 1 (QL 1 s (Zz (ze rfl) Z.z0 boot_sorted (Qd (ZG (Qd (Qq (Qt a) (Qc 1) Qh) (Qd Qh Ql))) Ql))))) QK)) (Qm (zj 1 (Q9 (QE (Zx a.units) (Qq (Qt a) (Qc 1) Qh) (Qq (Qt a) (Qc 1) (X4 Qh)) (QD _)) (Qr (zj 1 (QL 1 s (ZG (Qd (Qq (Qt a) (Qc 1) Qh) (Qd (Qn QZ (Qq (Qt a) (Qc 1) Qh) Qh) Ql)))))) QK)) (Qr (zj 1 (QI (Qc 1))))))))
theorem law_fn{g:Addr}{fd:FuncData}(F:Fun K "law" "law" zU g fd):X2 P w K mg O8 CX0 5 g fd ["script"] (fL K 1 V1):=Mw F fU λ_ _ _ _ _ _ a=>have s:=fU.nd;Qm (QL 1 s (QB (Vv Z) a (by decide) QW (Qd (QB (JJ Z) a (by decide) QW (Qd (Qc 0) (Qd Qh Ql))) Ql))) (Qm (QL 2 s (QB (yc Z) a (by decide) QW (Qd (QB (JJ Z) a (by decide) QW (Qd (Qc 0) (Qd Qh Ql))) (Qd (Qc 1) Ql)))) (Qm (X7 3 s (caps:=["plain"]) (idx:=[2]) ⟨by with_unfolding_all rfl,by decide +kernel,rfl,by decide +kernel,rfl,(by exact⟨rfl,trivial⟩),by with_unfolding_all rfl,(by exact⟨rfl,.inl rfl,⟨_,rfl⟩,(λh=>NameKind.noConfusion (Aj (show some NameKind.cell=some NameKind.local from h))),trivial⟩),by decide⟩ rfl (Ju (Zz (ze rfl) Z.z0 boot_sorted (Qd (Qc 2) Ql))) (λ_ _ _ _=>K9) (λ_ _ _ _=>QV (Qd (Qc 0) (Qd (Qq (Qt a) (Qc 1) (Qc 0)) Ql)))) (Qm (QL 4 s (Vg Ql)) (Qm (QL 5 s (QB (Vx Z) a (by decide) QW (Qd (Z7 (Qc 0) (Q1 Qh) (Q1 Qh)) (Qd (Qc 1) (Qd (Qc 2) (Qd (Qc 4) Ql)))))) (Qm (X7 6 s (caps:=["rows"]) (idx:=[5]) ⟨by with_unfolding_all rfl,by decide +kernel,rfl,by decide +kernel,rfl,(by exact⟨rfl,trivial⟩),by with_unfolding_all rfl,(by exact⟨rfl,.inl rfl,⟨_,rfl⟩,(λh=>NameKind.noConfusion (Aj (show some NameKind.cell=some NameKind.local from h))),trivial⟩),by decide⟩ rfl (Up (Xp rfl Z.z4 (Qd (Zz ZT Z.z2 PySem.boot_len (Qd (Qc 5) Ql)) Ql))) (λ_ _ _ _=>XC (jS (QB (J9 Z) a (by decide) QW (Qd (Qq (Qt a) (Qc 1) (Qc 0)) Ql)))) (λ_ _ _ _=>Qc 0)) (Qm (Q9 (QE (Zx a.units) (Qc 6) (ZG Ql) (QD _)) (Qr (QI (zf (Zx a.units) (QB (j5 Z) a (by decide) QW (Qd (ZG (Qd (QV (Qd QX (Qd Qh Ql))) Ql)) (Qd (ZG Ql) (Qd (qu jI Z.z1 boot_list (Qd (Qc 3) Ql)) Ql)))) (QV (Qd QX (Qd (Qc 3) Ql))) (QD _)))) QK) (Qm (X7 7 s (caps:=["script"]) (idx:=[0]) ⟨by with_unfolding_all rfl,by decide +kernel,rfl,by decide +kernel,rfl,(by exact⟨rfl,trivial⟩),by with_unfolding_all rfl,(by exact⟨rfl,.inl rfl,⟨_,rfl⟩,(λh=>NameKind.noConfusion (Aj (show some NameKind.cell=some NameKind.local from h))),trivial⟩),by decide⟩ rfl (Up (Xp rfl Z.z4 (Qd Qh Ql))) (λ_ _ _ _=>K9) (λ_ _ _ _=>QB (QA Z) a (by decide) QW (Qd (QB (JJ Z) a (by decide) QW (Qd (Qc 1) (Qd Qh Ql))) (Qd (Qc 0) Ql)))) (Qm (QL 8 s (Qn Q8 (Qq (Qt a) (Qc 7) Qh) (Zz ZT Z.z2 PySem.boot_len (Qd (Qc 6) Ql)))) (Qm (QL 9 s (Qq (Qt a) (Qc 6) (Qc 8))) (Qm (QL 10 s (Qq (Qt a) (Qc 5) (Qc 9))) (Qm (Q9 (DW.pt (XD (QE (Zx a.units) (Qn Q8 (Qq (Qt a) (Qc 7) Qh) Qh) Qh (QD _)) (J7 (DW.pt (zP (QE (qL a.units) (Qq (Qt a) (Qc 10) Qh) QX (QD _)) (zn (QE kF (Qq (Qt a) (Qc 10) Qh) ZU (QD _)))))))) (Qr (Xj (QB (zq Z) a (by decide) QW (Qd (Qc 5) (Qd (Qc 9) (Qd (Qq (Qt a) (Qc 7) Qh) Ql)))) (uW [5,8] s (by repeat' (first|exact trivial|refine⟨rfl,(by first|exact .inl rfl|exact .inr rfl),.inl rfl,?_⟩)) rfl (λ_ _ _=>rfl)))) (Qm (QL 13 s (QB (yb Z) a (by decide) QW (Qd (Qc 5) (Qd (Qc 9) (Qd (Qq (Qt a) (Qc 4) (Qq (Qt a) (Qc 10) Qh)) Ql))))) (Qr (Xj (QB (j8 Z) a (by decide) QW (Qd (Qc 10) (Qd (Qq (Qt a) (Qc 4) (Qq (Qt a) (Qc 10) Qh)) (Qd (Qc 13) (Qd (Zz ZT Z.z2 PySem.boot_len (Qd (Qc 4) Ql)) (Qd (Qc 7) Ql)))))) (X6 (Qt a) (Qc 5) (Qc 9)))))) (Qm (QL 11 s (ZG (Qd (qu jI Z.z1 boot_list (Qd (Qc 5) Ql)) (Qd (qu jI Z.z1 boot_list (Qd (Qc 4) Ql)) (Qd (qu jI Z.z1 boot_list (Qd (Qc 3) Ql)) Ql))))) (Qm (QL 12 s (QB (j5 Z) a (by decide) QW (Qd (Qq (Qt a) (Qc 11) Qh) (Qd (Qq (Qt a) (Qc 11) Qh) (Qd (Qq (Qt a) (Qc 11) Qh) Ql))))) (Qm (Q9 (DW.pt (zP (Vk (jS (uU Z.rQ Z.z6 boot_tuple (by decide) (Qc 12)))) (zP (QE (qL a.units) (Zz ZT Z.z2 PySem.boot_len (Qd (Qc 12) Ql)) Qh (QD _)) (zP (jS (uU Z.rQ Z.Df boot_bool (by decide) (Qq (Qt a) (Qc 12) Qh))) (zn (QE (qL a.units) (Qc 12) (QV (Qd QX (Qd (Qc 8) Ql))) (QD _))))))) (Qr (QI zO)) QK) (Qr (QI (zf (Zx a.units) (Qc 11) (ZG (Qd (Qc 5) (Qd (Qc 4) (Qd (Qc 3) Ql)))) (QD _))))))))))))))))))
end
def HJ:Ji (.int 10) (.int 22)=pure (.int 10000000000000000000000):=rfl
def HN:Ji (.int 10) (.int 13)=pure (.int 10000000000000):=rfl
def stir(c k:Int):Int:=(c % 982451653+7368787 * (k+1)) % 982451653
def Qy(c k:Int):Int:=(stir c k * stir c k % 982451653+3 * k) * (stir c k * stir c k % 982451653+3 * k+15485863) % 899809343
theorem Ui(c k:Int):0<=Qy c k:=Int.emod_nonneg _ (by decide)
theorem Uj(c k:Int):Qy c k<899809343:=Int.emod_lt_of_pos _ (by decide)
theorem ZZ(c k:Int)(a:0<=k)(b:k<=1000):Qo [.int c,.int k]=pure (.int (Qy c k)):=by
 have h:0<=stir c k:=Int.emod_nonneg _ (by decide);have i:stir c k<982451653:=Int.emod_lt_of_pos _ (by decide);have e:0<=stir c k * stir c k % 982451653:=Int.emod_nonneg _ (by decide);have f:stir c k * stir c k % 982451653<982451653:=Int.emod_lt_of_pos _ (by decide);refine jy (env:=[.val (.int c),.val (.int k),.val (.int (stir c k * stir c k % 982451653+3 * k))]) ?_;refine(Xb (VP (d:=.int (stir c k)) ?_)).trans ((Xb (VP (d:=.int (stir c k * stir c k % 982451653+3 * k)) ?_)).trans (jB ?_))
 ·refine Zb (x:=.int (c % 982451653+7368787 * (k+1))) (y:=.int 982451653) ?_ rfl (Zj _ _ (by decide));refine Zb (x:=.int (c % 982451653)) (y:=.int (7368787 * (k+1))) (Zb (x:=.int c) (y:=.int 982451653) rfl rfl (Zj _ _ (by decide))) (Zb (x:=.int 7368787) (y:=.int (k+1)) rfl rfl (XN _ _ (by decide) (by decide))) rfl
 ·refine Zb (x:=.int (stir c k * stir c k % 982451653)) (y:=.int (3 * k)) (Zb (x:=.int (stir c k * stir c k)) (y:=.int 982451653) (Zb (x:=.int (stir c k)) (y:=.int (stir c k)) rfl rfl (XN _ _ ⋯ ⋯)) rfl (Zj _ _ (by decide))) (Zb (x:=.int 3) (y:=.int k) rfl rfl (XN _ _ (by decide) (by decide))) rfl
 ·refine Zb (x:=.int ((stir c k * stir c k % 982451653+3 * k) * (stir c k * stir c k % 982451653+3 * k+15485863))) (y:=.int 899809343) (Zb (x:=.int (stir c k * stir c k % 982451653+3 * k)) (y:=.int (stir c k * stir c k % 982451653+3 * k+15485863)) rfl rfl (XN _ _ ⋯ ⋯)) rfl (Zj _ _ (by decide))
theorem uY(c k m:Int)(t:En)(a:0<=k)(b:k<=1000)(d:0<m):Qf QO (Qu 2 Qo (Qa (Qb 0) (Qa (eC (.int k)) Qj))) (eC (.int m)) (.val (.int c)::t)=pure (.int (Qy c k % m)) :=
 Zb (x:=.int (Qy c k)) (y:=.int m) (Vm (x:=.int c) (y:=.int k) rfl rfl (ZZ c k a b)) rfl (Zj _ _ d)
def drawn(c k:Int):Int:=if Qy c k % 4=0 then ([1000000000000000000000000000000,-1000000000000000000000000000000,0,1-1000000000000000000000000000000]:List Int).getD (Qy c (k+1) % 4).toNat 0 else if Qy c k % 4=1 then (Qy c (k+1) * 10000000000000000000000+Qy c (k+2) * 10000000000000+Qy c (k+1)) % (2 * 1000000000000000000000000000000+1)-1000000000000000000000000000000 else Qy c (k+1) % 9-4
theorem jQ(c k:Int)(n:0<=k)(r:k<=900):ZM [.int c,.int k]=pure (.int (drawn c k)):=by
 have d0:=ZZ c k n ⋯;have l:=ZZ c (k+1) ⋯ ⋯;have m:=ZZ c (k+2) ⋯ ⋯;have o:=Ui c (k+1);have l1:=Uj c (k+1);have q:=Ui c (k+2);have l2:=Uj c (k+2);have t:∀(j:Int)(v:Sl),eB (Qf mD (Qf QO (Qu 2 Qo (Qa (Qb 0) (Qa (Qb 1) Qj))) (eC (.int 4))) (eC (.int j))) [.val (.int c),.val (.int k),v]=pure (decide (Qy c k % 4=j)):=λj v =>
  MF (Zb (x:=.int (Qy c k % 4)) (y:=.int j) (Zb (x:=.int (Qy c k)) (y:=.int 4) (Vm (x:=.int c) (y:=.int k) rfl rfl d0) rfl (Zj _ _ (by decide))) rfl (Vp _ _))
 have b:QG 2 (Qu 2 Qo (Qa (Qb 0) (Qa (Qf QP (Qb 1) (eC (.int 1))) Qj))) [.val (.int c),.val (.int k),.un]=pure (.nx,[.val (.int c),.val (.int k),.val (.int (Qy c (k+1)))]) :=
  VP (Vm (x:=.int c) (y:=.int (k+1)) rfl rfl l)
 unfold drawn;by_cases h:Qy c k % 4=0
 ·rw[Ct h];refine jy (env:=[.val (.int c),.val (.int k),.val (.int (Qy c (k+1)))]) ((Xb b).trans (GX ((wR ((t 0 _).trans (by rw[Cy h]))).trans (jB ?_))));have e:=Zv (Qy c (k+1)) 4 (by decide);have a:=qh [1000000000000000000000000000000,-1000000000000000000000000000000,0,1-1000000000000000000000000000000] (i:=Qy c (k+1) % 4) e.1 e.2;exact Zb (x:=.lst [.int 1000000000000000000000000000000,.int (-1000000000000000000000000000000),.int 0,.int (1-1000000000000000000000000000000)]) (y:=.int (Qy c (k+1) % 4)) rfl (Zb (x:=.int (Qy c (k+1))) (y:=.int 4) rfl rfl (Zj _ _ (by decide))) (XI a)
 ·rw[Cs h];have d:=(wU (f:=Q3 (Qf eZ (Zm (Qa (Qf Ji (eC (.int 10)) (eC (.int 30))) (Qa (JS (Qf Ji (eC (.int 10)) (eC (.int 30)))) (Qa (eC (.int 0)) (Qa (Qf qb (eC (.int 1)) (Qf Ji (eC (.int 10)) (eC (.int 30)))) Qj))))) (Qf QO (Qb 2) (eC (.int 4))))) (g:=Zf) ((t 0 (.val (.int (Qy c (k+1))))).trans (by rw[C0 h]))).trans (rfl:Zf _=pure (.nx,_));by_cases h':Qy c k % 4=1
  ·rw[Ct h'];refine jy (env:=[.val (.int c),.val (.int k),.val (.int (Qy c (k+1)))]) ((Xb b).trans ((Xb d).trans (GX ((wR ((t 1 _).trans (by rw[Cy h']))).trans (jB ?_)))));refine Zb (x:=.int _) (y:=.int 1000000000000000000000000000000) (Zb (x:=.int (Qy c (k+1) * 10000000000000000000000+Qy c (k+2) * 10000000000000+Qy c (k+1))) (y:=.int (2 * 1000000000000000000000000000000+1)) ?_ ?_ (Zj _ _ (by decide))) GN (qX _ _)
   ·refine Zb (x:=.int (Qy c (k+1) * 10000000000000000000000+Qy c (k+2) * 10000000000000)) (y:=.int (Qy c (k+1))) (Zb (x:=.int (Qy c (k+1) * 10000000000000000000000)) (y:=.int (Qy c (k+2) * 10000000000000)) (Zb (x:=.int (Qy c (k+1))) (y:=.int 10000000000000000000000) rfl HJ (XN _ _ ⋯ ⋯)) (Zb (x:=.int (Qy c (k+2))) (y:=.int 10000000000000) (Vm (x:=.int c) (y:=.int (k+2)) rfl rfl m) HN (XN _ _ ⋯ ⋯)) rfl) rfl rfl
   ·exact Zb (x:=.int (2 * 1000000000000000000000000000000)) (y:=.int 1) (Zb (x:=.int 2) (y:=.int 1000000000000000000000000000000) rfl GN (XN _ _ (by decide) (by decide))) rfl rfl
  ·rw[Cs h'];refine jy (env:=[.val (.int c),.val (.int k),.val (.int (Qy c (k+1)))]) ((Xb b).trans ((Xb d).trans ((Xb ((wU ((t 1 _).trans (by rw[C0 h']))).trans rfl)).trans (jB ?_))));exact Zb (x:=.int (Qy c (k+1) % 9)) (y:=.int 4) (Zb (x:=.int (Qy c (k+1))) (y:=.int 9) rfl rfl (Zj _ _ (by decide))) rfl (qX _ _)
theorem V3{f:au}{g:bR}{env:En}{x:DV}{xs:List DV}{U hp1 hp2:Hs}(h:f env U=some (x,hp1))(h':g env hp1=some (xs,hp2)):Qa f g env U=some (x::xs,hp2):=by unfold Qa;rw[Qg h,Qg h'];rfl
abbrev Zs:=List (Int×Int)
def zK(z:Zs):List Int:=z.map (·.1)
def zE(z:Zs):List (Key×DV):=z.map λp=>(.inl p.1,.int p.2)
def aF(z:Zs):Prop:=z.Pairwise λp q=>p.1<q.1
def g7(z:Zs)(k:Int):Zs:=z.filter λp=>decide (p.1<k)
def nG(z:Zs)(k:Int):Zs:=z.filter λp=>decide (k<p.1)
def xE(z:Zs)(k:Int)(n:Zs):Zs:=g7 z k++n++nG z k
def aF.keys{z:Zs}(h:aF z):(zK z).Pairwise (· < ·):=List.pairwise_map.mpr h
theorem GF{z:Zs}{k:Int}{p:Int×Int}(h:p∈g7 z k):p∈z/\p.1<k:=by have:=Bb.mp h;exact⟨this.1,by simpa using this.2⟩
theorem S9{z:Zs}{k:Int}{p:Int×Int}(h:p∈nG z k):p∈z/\k<p.1:=by have:=Bb.mp h;exact⟨this.1,by simpa using this.2⟩
theorem xF{z:Zs}(h:aF z)(k:Int){n:Zs}(f:aF n)(e:∀p∈n,p.1=k):aF (xE z k n):=by
 refine Bi.mpr ⟨Bi.mpr ⟨List.Pairwise.filter _ h,f,λa c b d=>?_⟩,List.Pairwise.filter _ h,λa c b d=>?_⟩
 ·have:=(GF c).2;have:=e b d;lia
 ·have q:=(S9 d).2;rcases Ah.mp c with w|w
  ·have:=(GF w).2;lia
  ·have:=e a w;lia
theorem xx(z:Zs)(k:Int):(z.filter λp=>decide (p.1≠k)).Perm (g7 z k++nG z k):=by
 have e:=List.filter_append_perm (λp:Int×Int=>decide (p.1<k)) (z.filter λp=>decide (p.1≠k));rw[List.filter_filter,List.filter_filter]at e;have a:(z.filter λp=>decide (p.1<k)&&decide (p.1≠k))=g7 z k:=List.filter_congr λp _=>by rw[<- Bool.decide_and,decide_eq_decide];lia
 have b:(z.filter λp=>(!decide (p.1<k))&&decide (p.1≠k))=nG z k:=List.filter_congr λp _=>by rw[<- decide_not,<- Bool.decide_and,decide_eq_decide];lia
 rw[a,b]at e;exact e.symm
theorem VO(z:Zs)(k:Int)(n:Zs):(xE z k n).length<=z.length+n.length:=by have e:=(xx z k).length_eq;have f:=Br (λp:Int×Int=>decide (p.1≠k)) z;unfold xE;simp only[Am]at e ⊢;lia
def Dz(kvs:List (Key×DV))(z:Zs):Prop:=kvs.Perm (zE z)
theorem Dz.len{kvs:List (Key×DV)}{z:Zs}(d:Dz kvs z):kvs.length=z.length:=by have:=d.length_eq;simpa [zE]using this
theorem Dz.nodup{kvs:List (Key×DV)}{z:Zs}(d:Dz kvs z)(h:aF z):(kvs.map (·.1)).Nodup:=by refine(d.map (·.1)).nodup_iff.mpr ?_;unfold zE;rw[List.map_map];refine List.pairwise_map.mpr (h.imp λq e=>?_);have:=Sum.inl.inj e;lia
theorem Dz.drop{kvs:List (Key×DV)}{z:Zs}(d:Dz kvs z)(k:Int):Dz (Je kvs (.inl k)) (xE z k []):=by
 have e:(zE z).filter (λa=>decide (a.1≠(Sum.inl k:Key)))=zE (z.filter λp=>decide (p.1≠k)):=by unfold zE;rw[List.filter_map];congr 1;apply List.filter_congr;intro p _;show decide ((Sum.inl p.1:Key)≠Sum.inl k)=decide (p.1≠k);rw[decide_eq_decide];exact⟨λh q=>h (by rw[q]),λh q=>h (Sum.inl.inj q)⟩
 have p:=(List.Perm.filter (λa:Key×DV=>decide (a.1≠(Sum.inl k:Key))) d);rw[e]at p;unfold Dz Je xE;rw[Bg];exact p.trans ((xx z k).map _)
theorem v9{k:Key}{d:DV}:∀{kvs:List (Key×DV)},(kvs.map (·.1)).Nodup->(Z9 kvs k d).Perm ((k,d)::Je kvs k):=by
  intro kvs h;unfold Z9;by_cases q:(kvs.any λc=>decide (c.1=k))=true
  . rw[Ct q]
    induction kvs with
    |nil=>simp at q
    |cons p r l =>
      obtain⟨i,j⟩:=Ce.mp h;by_cases e:p.1=k
      . have f:∀x∈r,x.1≠k:=λx hx y=>i (by show p.1∈_;rw[e,<- y];exact List.mem_map_of_mem hx)
        have a:r.map (λc=>if c.1=k then (c.1,d)else c)=r:=by
          conv=>rhs;rw[<- List.map_id r]
          exact List.map_congr_left λx hx=>by rw[Cs (f x hx)];rfl
        have b:Je (p::r) k=r:=by unfold Je;rw[Cq (by simp[e]),List.filter_eq_self];intro x hx;simpa using f x hx
        rw[A3,Ct e,a,b,e]
      . have m:(r.any λc=>decide (c.1=k))=true:=by simpa [e]using q
        have b:Je (p::r) k=p::Je r k:=by unfold Je;rw[Cd (by simpa using e)]
        rw[A3,Cs e,b];exact((l j m).cons p).trans (List.Perm.swap _ _ _)
  . rw[Cs q]
    have b:Je kvs k=kvs:=by unfold Je;rw[List.filter_eq_self];intro x hx;have:¬ x.1=k:=λe=>q (List.any_eq_true.mpr ⟨x,hx,by simpa using e⟩);simpa using this
    rw[b];exact List.perm_append_singleton _ _
theorem Dz.put{kvs:List (Key×DV)}{z:Zs}(d:Dz kvs z)(h:aF z)(k w:Int):Dz (Z9 kvs (.inl k) (.int w)) (xE z k [(k,w)]):=by refine(v9 (d.nodup h)).trans ?_;have e:=(d.drop k).cons ((Sum.inl k:Key),DV.int w);refine e.trans ?_;unfold xE zE;rw[Bg];rw[Ay];exact(List.perm_middle (a:=(k,w)) (l₁:=g7 z k) (l₂:=nG z k)).symm.map (λp=>((Sum.inl p.1:Key),DV.int p.2))
theorem U3{k:Key}{d:DV}:∀{kvs:List (Key×DV)},(kvs.map (·.1)).Nodup->(k,d)∈kvs->ZA kvs k=some d
  | [],_,h=>by cases h
  |p::r,c,h=>by
    obtain⟨a,b⟩:=Ce.mp c;rw[Jr];rcases Ba.mp h with e|e
    . rw[<- e,Ct rfl]
    . rw[Cs,U3 b e]
      intro q;exact a (by show p.1∈_;rw[q];exact List.mem_map_of_mem (f:=(·.1)) e)
theorem Dz.val{kvs:List (Key×DV)}{z:Zs}(d:Dz kvs z)(h:aF z){k w:Int}(a:(k,w)∈z):ZA kvs (.inl k)=some (.int w) :=
 U3 (d.nodup h) (d.mem_iff.mpr (List.mem_map_of_mem (f:=λp:Int×Int=>((Sum.inl p.1:Key),DV.int p.2)) a))
def kI:Key->Int
 |.inl i=>i
 |.inr _=>0
theorem yE:∀{kvs:List (Key×DV)},(∀p∈kvs,∃i,p.1=.inl i)->qB kvs=some (kvs.map λp=>kI p.1)
  | [],_=>rfl
  | (k,d)::r,h=>by obtain⟨i,e⟩:=h (k,d) (Cp ..);cases e;show(qB r).map (i :: ·)=_;rw[yE λp U=>h p (Au _ U)];rfl
theorem Dz.keys{kvs:List (Key×DV)}{z:Zs}(d:Dz kvs z)(h:aF z):∃ns,qB kvs=some ns/\cH ns=zK z:=by
 refine⟨_,yE λp U=>?_,(Y9 ?_ (h.keys.imp λq=>By q)).symm⟩
 ·obtain⟨q,_,rfl⟩:=Co.mp (d.mem_iff.mp U);exact⟨q.1,rfl⟩
 ·have e:=(d.map λp=>kI p.1).symm;have a:(zE z).map (λp=>kI p.1)=zK z:=by unfold zE zK;rw[List.map_map];rfl
  rwa [a]at e
theorem GZ{kvs:List (Key×DV)}{z:Zs}(d:Dz kvs z)(h:aF z){f:au}{env:En}{n:Nat}{U:Hs}(hf:f env U=some (.ref n,U))(i:U[n]?=some (.aB kvs)):QR xO (Qa f Qj) env U=some (.lst ((zK z).map .int),U):=by
 obtain⟨ns,c,e⟩:=d.keys h;have a:Qa f Qj env U=some ([.ref n],U):=V3 hf rfl;unfold QR;rw[Qg a];show(gJ (.ref n) >>= λns=>pure (DV.lst ((cH ns).map .int))) U=_;have b:gJ (.ref n) U=some (ns,U):=by show(Zi n >>= _) U=_;rw[Qg (Q6 i)];show XO (qB kvs) U=_;rw[c];rfl
 rw[Qg b,e];rfl
theorem VA{n:Nat}{U:Hs}{kvs:List (Key×DV)}{k:Int}{d:DV}(h:U[n]?=some (.aB kvs))(hd:ZA kvs (.inl k)=some d):aq (.ref n) (.int k) U=some (d,U):=by show(Zi n >>= _) U=_;rw[Qg (Q6 h)];show(Xr (.int k) >>= λk=>UH (ZA kvs k)) U=_;rw[show Xr (.int k)=pure (.inl k)from rfl,C1,hd];rfl
theorem Ma{n:Nat}{U:Hs}{kvs:List (Key×DV)}{k:Int}{f g:au}{env:En}{d:DV}(a:U[n]?=some (.aB kvs))(hf:f env U=some (.ref n,U))(b:g env U=some (.int k,U))(hd:ZA kvs (.inl k)=some d):ZI "dict" yF f (Qa g Qj) env U=some (d,U.set n (.aB (Je kvs (.inl k)))):=by
 unfold ZI;rw[Qg hf];have e:zR "dict" (.ref n) U=some ((),U):=by show(Zi n >>= _) U=_;rw[Qg (Q6 a)];rfl
 rw[Qg e,Qg (V3 b rfl)];show(Zi n >>= _) U=_;rw[Qg (Q6 a)];show(Xr (.int k) >>= _) U=_;rw[show Xr (.int k)=pure (.inl k)from rfl,C1,hd];rfl
def wV(k w:Int):aF [(k,w)]:=List.pairwise_singleton _ _
theorem Gz{U:Hs}{a:Nat}{kvs:List (Key×DV)}(h:U[a]?=some (.aB kvs)):zR "dict" (.ref a) U=some ((),U):=by show(Zi a >>= _) U=_;rw[Qg (Q6 h)];rfl
theorem Vt{o k:au}{env:En}{U:Hs}{a:Nat}{kvs:List (Key×DV)}{i:Int}(h:U[a]?=some (.aB kvs))(c:o env U=some (.ref a,U))(b:k env U=some (.int i,U)):ZI "dict" J0 o (Qa k Qj) env U=some ((ZA kvs (.inl i)).getD .non,U):=by unfold ZI;rw[Qg c,Qg (Gz h),Qg (Zd b)];show(Zi a >>= _) U=_;rw[Qg (Q6 h)];rfl
theorem jp{o k e:au}{env:En}{U:Hs}{a:Nat}{kvs:List (Key×DV)}{i:Int}{d:DV}(h:U[a]?=some (.aB kvs))(f:o env U=some (.ref a,U))(c:k env U=some (.int i,U))(b:e env U=some (d,U)):ZI "dict" J0 o (Qa k (Qa e Qj)) env U=some ((ZA kvs (.inl i)).getD d,U):=by unfold ZI;rw[Qg f,Qg (Gz h),Qg (Za c b)];show(Zi a >>= _) U=_;rw[Qg (Q6 h)];rfl
theorem J2{U:Hs}{a:Nat}{o:OV}(h:U[a]?=some o):U.set a o=U:=by
 refine List.ext_getElem? λi=>?_;by_cases q:a=i
 ·subst q;rw[Ar (Ac.mp h).1,h]
 ·rw[Ak q]
theorem yw{kvs:List (Key×DV)}{k:Key}(h:ZA kvs k=none):Je kvs k=kvs:=by unfold ZA at h;rw[Option.map_eq_none_iff,List.find?_eq_none]at h;unfold Je;rw[List.filter_eq_self];intro x hx;simpa using h x hx
theorem OJ{o k e:au}{env:En}{U:Hs}{a:Nat}{kvs:List (Key×DV)}{i:Int}{d:DV}(h:U[a]?=some (.aB kvs))(f:o env U=some (.ref a,U))(c:k env U=some (.int i,U))(b:e env U=some (d,U)):∃x,ZI "dict" yF o (Qa k (Qa e Qj)) env U=some (x,U.set a (.aB (Je kvs (.inl i)))):=by
  cases q:ZA kvs (.inl i)with
  |some y=>refine⟨y,?_⟩;unfold ZI;rw[Qg f,Qg (Gz h),Qg (Za c b)];show(Zi a >>= _) U=_;rw[Qg (Q6 h)];show(Xr (.int i) >>= _) U=_;rw[show Xr (.int i)=pure (.inl i)from rfl,C1,q];rfl
  |none=>refine⟨d,?_⟩;rw[yw q,J2 h];unfold ZI;rw[Qg f,Qg (Gz h),Qg (Za c b)];show(Zi a >>= _) U=_;rw[Qg (Q6 h)];show(Xr (.int i) >>= _) U=_;rw[show Xr (.int i)=pure (.inl i)from rfl,C1,q];rfl
theorem Jy{e o j:au}{env:En}{U:Hs}{a:Nat}{n:Int}{kvs:List (Key×DV)}{d:DV}(b:e env U=some (d,U))(i:o env U=some (.ref a,U))(c:j env U=some (.int n,U))(h:U[a]?=some (.aB kvs))(f:kvs.length<100000):XT e (fu o j) env U=some ((.nx,env),U.set a (.aB (Z9 kvs (.inl n) d))):=by refine jA b ?_;unfold fu;rw[Qg i,Qg c,Qg (kO (d:=d) h (show ya (.int n)=some (.inl n)from rfl) f)];rfl
def Jh(z:Zs)(k:Int):Option Int:=(z.find? λp=>decide (p.1=k)).map (·.2)
theorem Dz.get{kvs:List (Key×DV)}{z:Zs}(d:Dz kvs z)(h:aF z)(k:Int):ZA kvs (.inl k)=(Jh z k).map .int:=by
  cases e:z.find? (λp=>decide (p.1=k))with
  |some p =>
    have m:=List.mem_of_find?_eq_some e;have a:p.1=k:=by simpa using List.find?_some e
    rw[d.val h (k:=k) (w:=p.2) (by rw[<- a];exact m)];unfold Jh;rw[e];rfl
  |none=>unfold Jh;rw[e];unfold ZA;show _=none;rw[Option.map_eq_none_iff,List.find?_eq_none];rw[List.find?_eq_none]at e;intro x hx;obtain⟨p,U,rfl⟩:=Co.mp (d.mem_iff.mp hx);have:=e p U;simp only[decide_eq_true_eq]at this ⊢;exact λq=>this (Sum.inl.inj q)
theorem Dz.getD{kvs:List (Key×DV)}{z:Zs}(d:Dz kvs z)(h:aF z)(k:Int):(ZA kvs (.inl k)).getD .non=opt (Jh z k):=by rw[d.get h k];cases Jh z k<;>rfl
theorem uZ(c k:Int):drawn c k<=1000000000000000000000000000000:=by
 unfold drawn;split
 ·have r:=Zv (Qy c (k+1)) 4 (by decide);generalize Qy c (k+1) % 4=j at r;obtain rfl|rfl|rfl|rfl:j=0∨j=1∨j=2∨j=3:=⋯
  all_goals decide
 ·split
  ·have r:=Zv (Qy c (k+1) * 10000000000000000000000+Qy c (k+2) * 10000000000000+Qy c (k+1)) (2 * 1000000000000000000000000000000+1) (by decide);lia
  ·have r:=Zv (Qy c (k+1)) 9 (by decide);lia
theorem v7(c:Int)(ds:List DV)(z:Sl){k:Nat}(o:k<5)(r:ds.length<1000)(w:Hs):∃(ns:List Int)(y:Int),ns≠[]/\ns.length<=2/\(∀x∈ns,x<=1000000000000000000000000000000)/\XJ [.val (.int c),.acc ds,.val (.int k),z] w=some ((.nx,[.val (.int c),.acc (ds++ns.map .int),.val (.int k),.val (.int y)]),w):=by
 have k0:(0:Int)<=4 * k:=⋯
 have f:=Zq (jQ c (1+4 * k) ⋯ ⋯) w;have h:=Zq (ZZ c (4+4 * k) ⋯ ⋯) w;have b:=uZ c (1+4 * k);generalize drawn c (1+4 * k)=x at f b;generalize Qy c (4+4 * k)=y at h;have mk:∀(d:List DV)(z:Sl),Qf Yh (eC (.int 4)) (Qb 2) [.val (.int c),.acc d,.val (.int k),z] w=some (.int (4 * k),w):=λd z=>Qp (x:=.int 4) (y:=.int k) rfl rfl (Zq (XN _ _ (by decide) (by decide)) _)
 let E:List DV->Sl->En:=λds z=>[.val (.int c),.acc ds,.val (.int k),z]
 have j:QG 3 (Qu 2 ZM (Qa (Qb 0) (Qa (Qf QP (eC (.int 1)) (Qf Yh (eC (.int 4)) (Qb 2))) (Qj)))) (E ds z) w=some ((.nx,E ds (.val (.int x))),w) :=
  Qw (QU (Za (Qe rfl) (Qp (x:=.int 1) (y:=.int (4 * k)) rfl (mk ds z) rfl)) rfl f)
 have l:UO 1 (Qb 3) (E ds (.val (.int x))) w=some ((.nx,E (ds++[.int x]) (.val (.int x))),w):=uI (i:=1) (ds:=ds) (env:=E ds (.val (.int x))) (Qe rfl) rfl ⋯;have t:eB (Qf aK (Qf QO (Qu 2 Qo (Qa (Qb 0) (Qa (Qf QP (eC (.int 4)) (Qf Yh (eC (.int 4)) (Qb 2))) (Qj)))) (eC (.int 2))) (eC (.int 0))) (E (ds++[.int x]) (.val (.int x))) w=some (y % 2==0,w) :=
  QJ (JI (Qp (x:=.int y) (y:=.int 2) (QU (Za (Qe rfl) (Qp (x:=.int 4) (y:=.int (4 * k)) rfl (mk _ _) rfl)) rfl h) rfl (Zq (Zj _ _ (by decide)) _)) rfl)
 by_cases q:(y % 2==0)=true
 ·rw[q]at t
  let m:Int:=if 1000000000000000000000000000000<x+1 then 1000000000000000000000000000000 else x+1
  have n:QR Ku (Qa (Qf QP (Qb 3) (eC (.int 1))) (Qa (Qf Ji (eC (.int 10)) (eC (.int 30))) (Qj))) (E (ds++[.int x]) (.val (.int x))) w=some (.int m,w):=Jd (Za (v:=.int (x+1)) (v':=.int 1000000000000000000000000000000) rfl rfl) rfl;refine⟨[x,m],x,by simp,by simp,(λy a=>by
   simp only[Ba,Bu,or_false]at a;rcases a with rfl|rfl
   ·exact b
   ·show(if 1000000000000000000000000000000<x+1 then 1000000000000000000000000000000 else x+1:Int)<=_;split<;>lia),(Qi j).trans ((Qi l).trans ((QY t).trans ?_))⟩
  have e:=uI (i:=1) (ds:=ds++[.int x]) (env:=E (ds++[.int x]) (.val (.int x))) n rfl (by simp;lia);refine e.trans ?_;show some ((Fl.nx,E (ds++[.int x]++[.int m]) (.val (.int x))),w)=_;rw[Ay];rfl
 ·rw[Bool.eq_false_iff.mpr q]at t;exact⟨[x],x,by simp,by simp,(λy a=>by rw[Aq.mp a];exact b),(Qi j).trans ((Qi l).trans ((Qv t).trans rfl))⟩
theorem XB{i:Nat}{f:aG}{env a:En}{w:Hs}{r:Option ((Fl×En)×Hs)}(h:Ul i env=a)(k:f a w=r):Xu i f env w=r:=by unfold Xu;rw[h];exact k
theorem S8{ns:List Int}(h:ns≠[]):1<=(TS.met ns ns.length).length:=by
  have g:∀(l acc:List Int),acc.length<=(l.foldl (λl n=>if n∈l then l else l++[n]) acc).length:=by
    intro l;induction l with
    |nil=>intro acc;exact Ae _
    |cons x l a =>
      intro acc;rw[List.foldl_cons];refine A9 ?_ (a _);split
      . exact Ae _
      . simp
  match ns,h with
  |x::l,_=>unfold TS.met;rw[List.take_length,List.foldl_cons,Cs (by simp)];exact A9 (by simp) (g l _)
theorem Bl(l:List Int):∀acc:List Int,acc.Nodup->(l.foldl (λl n=>if n∈l then l else l++[n]) acc).Nodup/\∀x∈l.foldl (λl n=>if n∈l then l else l++[n]) acc,x∈acc∨x∈l:=by
  induction l with
  |nil=>intro acc h;exact⟨h,λx hx=>.inl hx⟩
  |cons y l c =>
    intro acc h;rw[List.foldl_cons];by_cases q:y∈acc
    . rw[Ct q]
      obtain⟨a,b⟩:=c acc h;exact⟨a,λx hx=>(b x hx).imp_right (Au _)⟩
    . rw[Cs q]
      obtain⟨a,b⟩:=c (acc++[y]) (List.nodup_append.mpr ⟨h,by simp,λu d v f e=>q (by rw[<- Aq.mp f,<- e];exact d)⟩);refine⟨a,λx hx=>(b x hx).elim (λz=>?_) λz=>.inr (Au _ z)⟩;exact(Ah.mp z).imp_right λz=>by rw[Aq.mp z];exact Cp
theorem vM(ns:List Int):(TS.met ns ns.length).Nodup:=by unfold TS.met;exact(Bl _ [] .nil).1
theorem S7{ns:List Int}{x:Int}(h:x∈TS.met ns ns.length):x∈ns:=by unfold TS.met at h;rw[List.take_length]at h;exact((Bl ns [] .nil).2 x h).elim (λz=>nomatch z) id
theorem qF{f g:au}{env:En}{x y:DV}{w:Hs}(h:f env w=some (x,w))(h':g env w=some (y,w)):Zm (Qa f (Qa g Qj)) env w=some (.lst [x,y],w):=by unfold Zm;rw[Qg (Za h h')];rfl
theorem RP{f:au}{env:En}{ns:List Int}{w:Hs}(h:f env w=some (.lst (ns.map .int),w)):QR xO (Qa f Qj) env w=some (.lst ((cH ns).map .int),w):=by refine Jd (Zd h) ?_;show(XO (Jz (ns.map .int)) >>= λns=>pure (DV.lst ((cH ns).map .int))) w=_;rw[Yw];rfl
theorem O3(c:Int)(w:Hs):∃ps:List Int,2<=ps.length/\ps.length<=10/\(∀x∈ps,x<=1000000000000000000000000000000)/\YS [.int c] w=some (.lst (ps.map .int),w):=by
 have mr:=Zv (Qy c 0) 4 (by decide)
 let m:Nat:=(2+Qy c 0 % 4).toNat
 have X:(m:Int)=2+Qy c 0 % 4:=Int.toNat_of_nonneg ⋯;have m1:2<=m:=⋯
 have m2:m<=5:=⋯
 obtain⟨q,b,e,ns,z2,z3,nn,nl,nb,rfl,rfl⟩:WP (XG (cU (Zy 0 m)) (λd env=>do let env' <- gN 2 d env;XJ env') 100000 0 [.val (.int c),.acc [],.un,.un]) w λq b=>∃(ns:List Int)(z2 z3:Sl),ns≠[]/\ns.length<=10/\(∀x∈ns,x<=1000000000000000000000000000000)/\q=(.nx,[.val (.int c),.acc (ns.map .int),z2,z3])/\b=w:=by
  refine Xn _ (λi env b=>∃(ns:List Int)(z2 z3:Sl),(0<i->ns≠[])/\ns.length<=2 * i/\(∀x∈ns,x<=1000000000000000000000000000000)/\env=[.val (.int c),.acc (ns.map .int),z2,z3]/\b=w) (by rw[ZR];lia) ⟨[],.un,.un,λz=>absurd z (Cf _),A5 _,(λx hx=>nomatch hx),rfl,rfl⟩ (λi d hd env b Q=>?_) (λenv b Q=>?_)
  ·obtain⟨ns,z2,z3,_,l,nb,rfl,rfl⟩:=Q;obtain⟨hi,rfl⟩:=YI hd;obtain⟨a,y,o,h2,mb,e⟩:=v7 c (ns.map .int) z3 (k:=i) ⋯ (by rw[Bf];lia) b;exact⟨_,_,e,ns++a,.val (.int i),.val (.int y),λ_ z=>o (List.append_eq_nil_iff.mp z).2,by rw[Am];lia,(λx hx=>(Ah.mp hx).elim (nb x) (mb x)),by rw[List.map_append],rfl⟩
  ·obtain⟨ns,z2,z3,o,l,nb,rfl,rfl⟩:=Q;rw[ZR]at o l;exact⟨ns,z2,z3,o ⋯,⋯,nb,rfl,rfl⟩
 have L:qc [.val (.int c),.acc [],.un,.un] b=some ((.nx,[.val (.int c),.acc (ns.map .int),z2,z3]),b):=by refine Jq (zL (YD (m:=m) (Zd ?_) ⋯)) e;rw[X];exact Z3 rfl (Zq (uY c 0 4 [.acc [],.un,.un] (by decide) (by decide) (by decide)) b)
 let E:List Int->En:=λa=>[.val (.int c),.val (.lst (a.map .int)),z2,z3]
 let a:=cH (TS.met ns ns.length)
 have l1:1<=a.length:=by rw[(Z8 _).length_eq];exact S8 nn
 have l2:a.length<=10:=by rw[(Z8 _).length_eq];exact A9 (TS.dF ns _) nl
 have T:Xu 1 (QG 1 (Ya (Qb 1))) [.val (.int c),.acc (ns.map .int),z2,z3] b=some ((.nx,E a),b):=XB rfl (Qw (KL (Qe rfl) ⋯));have mb:∀x∈a,x<=1000000000000000000000000000000:=λx hx=>nb x (S7 (List.Perm.mem_iff (Z8 _) |>.mp hx));have h:∀ks:List Int,2<=ks.length->ks.length<=10->(∀x∈ks,x<=1000000000000000000000000000000)->(ks[0]?=ks[ks.length-1]?->∀x∈ks,x<=5)->∃ps:List Int,2<=ps.length/\ps.length<=10/\(∀x∈ps,x<=1000000000000000000000000000000)/\∃env,(Qx (Xu 1 (aP (eB (Qf aK (Qf aq (Qb 1) (eC (.int 0))) (Qf aq (Qb 1) (JS (eC (.int 1)))))) (Xu 1 (QG 1 (Zm (Qa (Qf aq (Qb 1) (eC (.int 0))) (Qa (Qf QP (Qf aq (Qb 1) (eC (.int 0))) (eC (.int 1))) (Qj)))))) (Zf))) (Xu 1 (Q3 (Qb 1)))) (E ks) b=some ((.rt (.lst (ps.map .int)),env),b):=by
  intro ks k1 k2 k3 k4;obtain⟨x,hx,ex⟩:=uK ks (λz=>by rw[z]at k1;simp at k1);have u:(ks.map DV.int)[0]?=some (.int (ks[0]'⋯)):=by rw[Bh,Ab ⋯];rfl
  have n:Qf aq (Qb 1) (eC (.int 0)) (E ks) b=some (.int (ks[0]'⋯),b):=Zp (i:=0) (Qe rfl) rfl u;have Z:Qf aq (Qb 1) (JS (eC (.int 1))) (E ks) b=some (.int x,b):=Qp (x:=.lst (ks.map .int)) (y:=.int (-1)) (Qe rfl) rfl (Zq (XI ex) b);have t:=QJ (JI n Z);by_cases q:(ks[0]'⋯==x)=true
  ·rw[q]at t;refine⟨[ks[0]'⋯,ks[0]'⋯+1],by simp,by simp,(λy R=>by have q5:=k4 (by rw[<- List.getLast?_eq_getElem?,hx,Ab ⋯,show ks[0]'⋯=x from beq_iff_eq.mp q]) _ (Bq (show 0<ks.length by lia));simp only[Ba,Bu,or_false]at R;rcases R with rfl|rfl<;>lia),E [ks[0]'⋯,ks[0]'⋯+1],(Qi (XB rfl ((QY t).trans (XB rfl (Qw (qF n (Z3 n rfl))))))).trans (XB rfl (Qz (Qe rfl)))⟩
  ·rw[Bool.eq_false_iff.mpr q]at t;exact⟨ks,k1,k2,k3,E ks,(Qi (XB rfl (Qv t))).trans (XB rfl (Qz (Qe rfl)))⟩
 have r:eB (Qf aK (QR Zo (Qa (Qb 1) (Qj))) (eC (.int 1))) (E a) b=some (((a.length:Nat):Int)==1,b):=by have:=JI (j:=1) (Xl (f:=Qb 1) (env:=E a) (U:=b) (ds:=a.map .int) (Qe rfl)) (g:=eC (.int 1)) rfl;rw[Bf]at this;exact QJ this
 by_cases q:(((a.length:Nat):Int)==1)=true
 ·rw[q]at r;have u:(a.map DV.int)[0]?=some (.int (a[0]'⋯)):=by rw[Bh,Ab ⋯];rfl
  have n:Qf aq (Qb 1) (eC (.int 0)) (E a) b=some (.int (a[0]'⋯),b):=Zp (i:=0) (Qe rfl) rfl u
  let ks:=cH [a[0]'⋯,5]
  have kl:ks.length=2:=(Z8 _).length_eq;have kb:∀x∈ks,x=a[0]'⋯∨x=5:=λx hx=>by have:=(Z8 _).mem_iff.mp hx;simpa using this
  obtain⟨ps,J,O,P,env,F⟩:=h ks ⋯ ⋯ (λx hx=>by
   rcases kb x hx with rfl|rfl
   ·exact mb _ (Bq _)
   ·decide) (λe x hx=>by
   rw[kl]at e;have v:=Ab (show 0<ks.length by lia);have C:=Ab (show 1<ks.length by lia);rw[v,C]at e;have I:(5:Int)∈ks:=(Z8 _).mem_iff.mpr (by simp);obtain⟨i,hi,I⟩:=List.getElem_of_mem I;obtain⟨j,Y,hx⟩:=List.getElem_of_mem hx;have e:=Aj e;have:∀i(hi:i<ks.length),ks[i]=ks[0]'⋯:=λi hi=>by
    obtain rfl|rfl:i=0∨i=1:=⋯
    ·rfl
    ·exact e.symm
   rw[<- hx,this j Y,<- this i hi,I];exact Bc _)
  refine⟨ps,J,O,P,QC (env:=env) ((Qi (aY:=[.val (.int c),.acc [],.un,.un]) (hp1:=b) rfl).trans ((Qi L).trans ((Qi T).trans ((Qi (XB rfl ((QY r).trans (XB rfl (Qw (RP (ns:=[a[0]'⋯,5]) (qF n rfl))))))).trans F))))⟩
 ·rw[Bool.eq_false_iff.mpr q]at r;have:a.length≠1:=λz=>q (by rw[z];rfl);obtain⟨ps,J,O,P,env,F⟩:=h a ⋯ l2 mb (λe=>by have nd:a.Nodup:=(Z8 _).nodup_iff.mpr (vM ns);have v:=Ab (show 0<a.length by lia);have C:=Ab (show a.length-1<a.length by lia);rw[v,C]at e;exact absurd (Aj e) (B9.mp nd 0 (a.length-1) ⋯ ⋯ ⋯))
  exact⟨ps,J,O,P,QC (env:=env) ((Qi (aY:=[.val (.int c),.acc [],.un,.un]) (hp1:=b) rfl).trans ((Qi L).trans ((Qi T).trans ((Qi (XB rfl (Qv r))).trans F))))⟩
theorem Ud{t:DV->M Bool}{f:DV->M DV}{U:Hs}(z:Zs)(p:Int×Int->Bool)(o:∀q∈z,t (.int q.1) U=some (p q,U))(hf:∀q∈z,f (.int q.1) U=some (.tup [.int q.1,.int q.2],U))(j:z.length<100000):ZX (cU ((zK z).map .int)) t f 100000 0 U=some (aD (z.filter p),U):=by
  have zl:((zK z).map DV.int).length=z.length:=by simp[zK]
  have d:∀i,((zK z).map DV.int)[i]?=(z[i]?).map λq:Int×Int=>DV.int q.1:=λi=>by unfold zK;rw[List.map_map,Bh];rfl
  suffices h:∀(m i n:Nat),m+i=z.length->m<n->ZX (cU ((zK z).map .int)) t f n i U=some (aD ((z.drop i).filter p),U)by simpa using h z.length 0 100000 rfl j
  intro m;induction m with
  |zero =>
    intro i n e c;obtain⟨n,rfl⟩:∃k,n=k+1:=⟨n-1,⋯⟩;have:i=z.length:=⋯
    subst this;have b:=Yi ((zK z).map .int) z.length ⋯ U;rw[d,show z[z.length]?=none by simp]at b;rw[ZX,Qg b,Ck];rfl
  |succ m u =>
    intro i n e c;obtain⟨n,rfl⟩:∃k,n=k+1:=⟨n-1,⋯⟩;have a:i<z.length:=⋯
    have b:=Yi ((zK z).map .int) i ⋯ U;rw[d,Ab a]at b;have r:=u (i+1) n ⋯ ⋯;rw[ZX,Qg b];show(t (.int z[i].1) >>= _) U=_;rw[Qg (o _ (Bq a)),A8 a,List.filter_cons];cases l:p z[i]with
    |false=>rw[Cs (by simp)];exact r
    |true=>rw[Ct rfl,Ct rfl];show(f (.int z[i].1) >>= _) U=_;rw[Qg (hf _ (Bq a)),Qg r];rfl
theorem XQ(rows:C7):∀d∈aD rows,Pl 1 d:=λd hd=>by
 obtain⟨p,_,rfl⟩:=Co.mp hd;exact xA λx hx=>by
  rcases Ba.mp hx with rfl|hx
  ·exact JL _ _
  ·rcases Ba.mp hx with rfl|hx
   ·exact JL _ _
   ·cases hx
theorem Ra(w:Hs)(x y:OV):(w++[x]).set w.length y=w++[y]:=by simp
theorem Gj(w:Hs)(x:OV):(w++[x])[w.length]?=some x:=by simp
def jt(w:Hs)(env:En):X9 env w=some (.ref w.length,w++[.aB []]):=rfl
def GK(w:Hs)(env:En):Ur Qj env w=some (.ref w.length,w++[.lst []]):=rfl
theorem RL(c:Int){ps:List Int}(U:ps.length<=10)(w:Hs):∃(kvs:List (Key×DV))(z:Zs),aF z/\Dz kvs z/\z.length<=10/\X1 [.int c,.lst (ps.map .int)] w=some (.ref w.length,w++[.aB kvs]):=by
 let P:DV:=.lst (ps.map .int)
 let E:Sl->En:=λz=>[.val (.int c),.val P,.val (.ref w.length),z]
 obtain⟨q,r,e,kvs,z,b,l,hd,u,rfl,rfl⟩:WP (XG (cU (Zy 0 ps.length)) (λd env=>do let env' <- gN 3 d env;Jv env') 100000 0 (E .un)) (w++[.aB []]) λq r=>∃(kvs:List (Key×DV))(z:Zs)(b:Sl),aF z/\Dz kvs z/\z.length<=ps.length/\q=(.nx,E b)/\r=w++[.aB kvs]:=by
  refine Xn _ (λi env r=>∃(kvs:List (Key×DV))(z:Zs)(b:Sl),aF z/\Dz kvs z/\z.length<=i/\env=E b/\r=w++[.aB kvs]) (by rw[ZR];lia) ⟨[],[],.un,List.Pairwise.nil,List.Perm.refl _,Ae _,rfl,rfl⟩ (λi d hd env r C=>?_) (λenv r C=>?_)
  ·obtain⟨kvs,z,b,l,dz,u,rfl,rfl⟩:=C;obtain⟨hi,rfl⟩:=YI hd
   let v:=E (.val (.int (i:Int)))
   let W:=w++[OV.aB kvs]
   have I:=Zq (ZZ c (40+i) ⋯ ⋯) W;have F:=Zq (jQ c (60+4 * i) ⋯ ⋯) W;generalize Qy c (40+i)=y at I;generalize drawn c (60+4 * i)=x at F;have t:eB (Qf aK (Qf QO (Qu 2 Qo (Qa (Qb 0) (Qa (Qf QP (eC (.int 40)) (Qb 3)) (Qj)))) (eC (.int 2))) (eC (.int 0))) v W=some (y % 2==0,W) :=
    QJ (JI (Qp (x:=.int y) (y:=.int 2) (QU (Za (Qe rfl) (Z3 rfl (Qe rfl))) rfl I) rfl (Zq (Zj _ _ (by decide)) _)) rfl)
   have h:(do let env' <- gN 3 (.int (i:Int)) (E b);Jv env') W=Jv v W:=rfl;by_cases q:(y % 2==0)=true
   ·rw[q]at t;have J:(ps.map DV.int)[i]?=some (.int ps[i]):=by rw[Bh,Ab hi];rfl
    have O:=Jy (e:=Qu 2 ZM (Qa (Qb 0) (Qa (Qf QP (eC (.int 60)) (Qf Yh (eC (.int 4)) (Qb 3))) (Qj)))) (o:=Qb 2) (j:=Qf aq (Qb 1) (Qb 3)) (env:=v) (U:=W) (a:=w.length) (n:=ps[i]) (kvs:=kvs) (d:=.int x) (QU (Za (Qe rfl) (Z3 rfl (Qp (x:=.int 4) (y:=.int (i:Int)) rfl (Qe rfl) (Zq (XN _ _ (by decide) (by decide)) _)))) rfl F) (Qe rfl) (Zp (Qe rfl) (Qe rfl) J) (Gj w _) (by rw[dz.len];lia);refine⟨_,_,h.trans ((QY t).trans O),_,_,.val (.int (i:Int)),xF l ps[i] (wV ps[i] x) (λp U=>by rw[Aq.mp U]),dz.put l ps[i] x,?_,rfl,Ra _ _ _⟩;exact A9 (VO z ps[i] _) (by simp;lia)
   ·rw[Bool.eq_false_iff.mpr q]at t;exact⟨_,_,h.trans ((Qv t).trans rfl),kvs,z,.val (.int (i:Int)),l,dz,⋯,rfl,rfl⟩
  ·obtain⟨kvs,z,b,l,dz,u,rfl,rfl⟩:=C;rw[ZR]at u;exact⟨kvs,z,b,l,dz,u,rfl,rfl⟩
 have L:YL (E .un) (w++[.aB []])=some ((.nx,E b),w++[.aB kvs]):=by
  refine Jq (zL (YD (m:=ps.length) (Zd ?_) ⋯)) e;have:=Xl (f:=Qb 1) (env:=E .un) (U:=w++[.aB []]) (ds:=ps.map .int) (Qe rfl)
  rwa [Bf]at this
 exact⟨kvs,z,l,hd,⋯,QC (env:=E b) ((Qi (Qw (jt w _))).trans ((Qi L).trans (Qz (Qe rfl))))⟩
inductive De where
 |find (k:Int)
 |put (k v:Int)
 |cut (k:Int)
 |str (a b:Int)
def De.dv:De->DV
 |.find k=>.tup [.str "find", .int k]
 |.put k v=>.tup [.str "put", .int k,.int v]
 |.cut k=>.tup [.str "cut", .int k]
 |.str a b=>.tup [.str "stretch", .int a,.int b]
def De.ok:De->Prop
 |.str _ b=>b<=1000000000000000000000000000000
 |_=>True
theorem Sv(c:Int){ps:List Int}(h2:2<=ps.length)(T:ps.length<=10)(z:∀x∈ps,x<=1000000000000000000000000000000)(w:Hs):∃d:De,d.ok/\JW [.int c,.lst (ps.map .int)] w=some (d.dv,w):=by
 let P:DV:=.lst (ps.map .int)
 let E:Sl->Sl->Sl->Sl->En:=λa b d e=>[.val (.int c),.val P,a,b,d,e]
 have R:∀(j m:Int)(t:En),0<=j->j<=1000->0<m->Qf QO (Qu 2 Qo (Qa (Qb 0) (Qa (eC (.int j)) Qj))) (eC (.int m)) (.val (.int c)::t) w=some (.int (Qy c j % m),w):=λj m t u v C=>Zq (uY c j m t u v C) w;have r:∀(j m:Int)(t:En)(g:au),0<=j->j<=1000->0<m->g (.val (.int c)::t) w=some (.int m,w)->Qf QO (Qu 2 Qo (Qa (Qb 0) (Qa (eC (.int j)) Qj))) g (.val (.int c)::t) w=some (.int (Qy c j % m),w):=λj m t g u v C Y =>
  Qp (x:=.int (Qy c j)) (y:=.int m) (QU (Za (Qe rfl) rfl) rfl (Zq (ZZ c j u v) w)) Y (Zq (Zj _ _ C) w)
 have F:∀a b d e:Sl,QR Zo (Qa (Qb 1) (Qj)) (E a b d e) w=some (.int ps.length,w):=λa b d e=>by
  have:=Xl (f:=Qb 1) (env:=E a b d e) (U:=w) (ds:=ps.map .int) (Qe rfl)
  rwa [Bf]at this
 let kd:=Qy c 1 % 8
 have n:QG 2 (Qf QO (Qu 2 Qo (Qa (Qb 0) (Qa (eC (.int 1)) (Qj)))) (eC (.int 8))) (E .un .un .un .un) w=some ((.nx,E (.val (.int kd)) .un .un .un),w):=Qw (R 1 8 _ (by decide) (by decide) (by decide));have h:eB (Qf eG (Qb 2) (eC (.int 5))) (E (.val (.int kd)) .un .un .un) w=some (decide (5<kd),w):=QJ (jZ (Qe rfl) rfl);by_cases q:5<kd
 ·rw[Cy q]at h;have Z:=Zv (Qy c 2) (ps.length-1) ⋯
  let a:=Qy c 2 % (ps.length-1:Int)
  have rb:=Zv (Qy c 3) (ps.length-1-a) (by show(0:Int)<ps.length-1-Qy c 2 % (ps.length-1:Int);lia)
  let b:=a+1+Qy c 3 % (ps.length-1-a:Int)
  have X:0<=a/\a<ps.length-1:=Z;have I:0<=b/\b<ps.length:=by show 0<=a+1+_/\a+1+_<_;lia
  have i:QG 4 (Qf QO (Qu 2 Qo (Qa (Qb 0) (Qa (eC (.int 2)) (Qj)))) (Qf qb (QR Zo (Qa (Qb 1) (Qj))) (eC (.int 1)))) (E (.val (.int kd)) .un .un .un) w=some ((.nx,E (.val (.int kd)) .un (.val (.int a)) .un),w):=Qw (r 2 (ps.length-1) _ _ (by decide) (by decide) ⋯ (jD (F _ _ _ _) rfl));have s3:QG 5 (Qf QP (Qf QP (Qb 4) (eC (.int 1))) (Qf QO (Qu 2 Qo (Qa (Qb 0) (Qa (eC (.int 3)) (Qj)))) (Qf qb (Qf qb (QR Zo (Qa (Qb 1) (Qj))) (eC (.int 1))) (Qb 4)))) (E (.val (.int kd)) .un (.val (.int a)) .un) w=some ((.nx,E (.val (.int kd)) .un (.val (.int a)) (.val (.int b))),w):=Qw (Z3 (Z3 (Qe rfl) rfl) (r 3 (ps.length-1-a) _ _ (by decide) (by decide) ⋯ (jD (jD (F _ _ _ _) rfl) (Qe rfl))));refine⟨.str (ps.getD a.toNat 0) (ps.getD b.toNat 0),(by
   have J:b.toNat<ps.length:=⋯
   show ps.getD b.toNat 0<=_;rw[B8,Ab J];exact z _ (Bq J)),QC (env:=E (.val (.int kd)) .un (.val (.int a)) (.val (.int b))) ((Qi n).trans (QT ((QY h).trans ((Qi i).trans ((Qi s3).trans (Qz (Ze (Xo rfl (Qp (x:=P) (y:=.int a) (Qe rfl) (Qe rfl) (Zq (XI (qh ps X.1 ⋯)) w)) (Qp (x:=P) (y:=.int b) (Qe rfl) (Qe rfl) (Zq (XI (qh ps I.1 I.2)) w))) (by simp))))))))⟩
 ·rw[C0 q]at h;have Q:=Zv (Qy c 2) ps.length ⋯
  let k:=ps.getD (Qy c 2 % (ps.length:Int)).toNat 0
  have i:QG 3 (Qf aq (Qb 1) (Qf QO (Qu 2 Qo (Qa (Qb 0) (Qa (eC (.int 2)) (Qj)))) (QR Zo (Qa (Qb 1) (Qj))))) (E (.val (.int kd)) .un .un .un) w=some ((.nx,E (.val (.int kd)) (.val (.int k)) .un .un),w):=Qw (Qp (x:=P) (y:=.int (Qy c 2 % (ps.length:Int))) (Qe rfl) (r 2 ps.length _ _ (by decide) (by decide) ⋯ (F _ _ _ _)) (Zq (XI (qh ps Q.1 Q.2)) w));have l:eB (Qf cj (Qb 2) (eC (.int 2))) (E (.val (.int kd)) (.val (.int k)) .un .un) w=some (decide (kd<2),w):=QJ (xi (Qe rfl) rfl);have o:eB (Qf aK (Qb 2) (eC (.int 5))) (E (.val (.int kd)) (.val (.int k)) .un .un) w=some (kd==5,w):=QJ (JI (Qe rfl) rfl);by_cases L:kd<2
  ·rw[Cy L]at l;exact⟨.find k,trivial,QC (env:=E (.val (.int kd)) (.val (.int k)) .un .un) ((Qi n).trans ((Qi ((Qv h).trans rfl)).trans ((Qi i).trans (QT ((QY l).trans (Qz (Ze (Za rfl (Qe rfl)) (by simp))))))))⟩
  ·rw[C0 L]at l;by_cases O:(kd==5)=true
   ·rw[O]at o;exact⟨.cut k,trivial,QC (env:=E (.val (.int kd)) (.val (.int k)) .un .un) ((Qi n).trans ((Qi ((Qv h).trans rfl)).trans ((Qi i).trans ((Qi ((Qv l).trans rfl)).trans (QT ((QY o).trans (Qz (Ze (Za rfl (Qe rfl)) (by simp)))))))))⟩
   ·rw[Bool.eq_false_iff.mpr O]at o;exact⟨.put k (drawn c 4),trivial,QC (env:=E (.val (.int kd)) (.val (.int k)) .un .un) ((Qi n).trans ((Qi ((Qv h).trans rfl)).trans ((Qi i).trans ((Qi ((Qv l).trans rfl)).trans ((Qi ((Qv o).trans rfl)).trans (Qz (Ze (Xo rfl (Qe rfl) (QU (Za (Qe rfl) rfl) rfl (Zq (jQ c 4 (by decide) (by decide)) w))) (by simp))))))))⟩
theorem jL{nxt:NX}{t:DV->M Bool}{f:DV->M DV}{p:DV->Bool}{U:Hs}(ds:List DV)(j:∀i,i<=ds.length->nxt i U=some (ds[i]?,U))(o:∀d∈ds,t d U=some (p d,U))(hf:∀d∈ds,f d U=some (d,U))(l:ds.length<100000):ZX nxt t f 100000 0 U=some (ds.filter p,U):=by
  suffices h:∀(m i n:Nat),m+i=ds.length->m<n->ZX nxt t f n i U=some ((ds.drop i).filter p,U)by simpa using h ds.length 0 100000 rfl l
  intro m;induction m with
  |zero =>
    intro i n e c;obtain⟨n,rfl⟩:∃k,n=k+1:=⟨n-1,⋯⟩;have:i=ds.length:=⋯
    subst this;have b:=j ds.length (Ae _);rw[show ds[ds.length]?=none by simp]at b;rw[ZX,Qg b,Ck];rfl
  |succ m r =>
    intro i n e c;obtain⟨n,rfl⟩:∃k,n=k+1:=⟨n-1,⋯⟩;have a:i<ds.length:=⋯
    have b:=j i ⋯;rw[Ab a]at b;have hi:=r (i+1) n ⋯ ⋯;rw[ZX,Qg b];simp only;rw[Qg (o ds[i] (Bq a)),A8 a];cases q:p ds[i]with
    |false=>rw[Cq (by simp[q])];simpa using hi
    |true=>rw[Cd q];simp only[if_true];rw[Qg (hf ds[i] (Bq a)),Qg hi];rfl
def JR(z:Zs)(b e:Int):Zs:=z.filter λq=>decide (b<=q.1)&&decide (q.1<e)
def Oq{f g:au}{env:En}{U:Hs}{i j:Int}(hf:f env U=some (.int i,U))(a:g env U=some (.int j,U)):Qf d9 f g env U=some (.bl (decide (i<=j)),U):=Qp hf a rfl
theorem YW{c d:bO}{env:En}{U:Hs}{a b:Bool}(h:c env U=some (a,U))(h':d env U=some (b,U)):JG c d env U=some (a&&b,U):=by
 cases a
 ·exact jT h
 ·exact(Vl h).trans h'
theorem A_{c d:bO}{env:En}{U:Hs}{a b:Bool}(h:c env U=some (a,U))(h':d env U=some (b,U)):cB c d env U=some (a||b,U):=by
 cases a
 ·exact(qx h).trans h'
 ·exact Us h
theorem xw{T:Nat}{b e:Int}{w:Hs}{kvs:List (Key×DV)}{z:Zs}(a:w[T]?=some (.aB kvs))(dz:Dz kvs z)(c:aF z)(l:z.length<50000):Ja [.ref T,.int b,.int e] w=some (.tup (aD (JR z b e)),w):=by
 let E:En:=[.val (.ref T),.val (.int b),.val (.int e)]
 have h:=Ud (t:=λd=>JG (eB (Qf d9 (Qb 2) (Qb 0))) (eB (Qf cj (Qb 0) (Qb 3))) (cE [0,1,2] E d)) (f:=λd=>Q2 (Qa (Qb 0) (Qa (Qf aq (Qb 1) (Qb 0)) (Qj))) (cE [0,1,2] E d)) (U:=w) z (λq=>decide (b<=q.1)&&decide (q.1<e)) (λq _=>YW (QJ (Oq (Qe rfl) (Qe rfl))) (QJ (xi (Qe rfl) (Qe rfl)))) (λq j=>Ze (Za (Qe rfl) (Qp (x:=.ref T) (y:=.int q.1) (Qe rfl) (Qe rfl) (VA a (dz.val c j)))) (by simp)) ⋯;have i:Xe E w=some (.lst (aD (JR z b e)),w):=by unfold Xe ZB;show(dj (QR xO (Qa (Qb 0) Qj)) E >>= _) w=_;rw[Qg (JD (GZ dz c (Qe rfl) a))];exact(Qg h).trans rfl
 exact QC (env:=E) (Qz (Jd (Zd i) rfl))
def nU(h d p:Int):List DV:=[.tup [.str "rest", .int h],.tup [.str "take", .int h,.int d],.tup [.str "side", .int h,.int d,.int p,.int (p+1)],.tup [.str "down", .int h,.int d,.int p,.int 3],.tup [.str "told", .int h,.int d,.int p,.non],.tup [.str "raised", .int h,.int d,.int p,.int 7]]
theorem vg(c d:Int)(w:Hs):∃h p:Int,Jb [.int c,.int d] w=some (.lst (nU h d p),w):=by
 have e:∀(j m:Int)(t:En),0<=j->j<=1000->0<m->Qf QO (Qu 2 Qo (Qa (Qb 0) (Qa (eC (.int j)) Qj))) (eC (.int m)) (.val (.int c)::t) w=some (.int (Qy c j % m),w):=λj m t f i l=>Zq (uY c j m t f i l) w
 let h:=Qy c 15 % 8
 let p:=Qy c 16 % 40
 let E:Sl->Sl->Sl->En:=λa b x=>[.val (.int c),.val (.int d),a,b,x]
 let L:DV:=.lst [.tup [.str "rest", .int h],.tup [.str "take", .int h,.int d],.tup [.str "side", .int h,.int d,.int p,.int (p+1)],.tup [.str "down", .int h,.int d,.int p,.int 3]]
 refine⟨h,p,QC (env:=E (.val (.int h)) (.val (.int p)) (.val L)) ((Qi (Qw (e 15 8 _ (by decide) (by decide) (by decide)))).trans ((Qi (Qw (e 16 40 _ (by decide) (by decide) (by decide)))).trans ((Qi (Qw (d:=L) rfl)).trans (Qz rfl))))⟩
def bN(ak:List (Key×DV))(d a:Int):Int:=match ZA ak (.inl d)with
 |some (.int i)=>i
 |_=>a
def AI(ak:List (Key×DV)):Prop:=∀(n:Int)(v:DV),ZA ak (.inl n)=some v->∃i,v=.int i
theorem AI.bN{ak:List (Key×DV)}(h:AI ak)(d a:Int):(ZA ak (.inl d)).getD (.int a)=.int (bN ak d a):=by
 unfold K43.bN;cases e:ZA ak (.inl d)with
 |none=>rfl
 |some v=>obtain⟨i,rfl⟩:=h d v e;rfl
def aL(n:Int)(f:De)(row:DV)(z:Zs)(ak:List (Key×DV))(e:Zs)(d:List (Key×DV))(c:Bool):Prop:=match f with
 |.find k=>∃h p:Int,row=.tup [.str "found", .int h,.int n,.int p,opt (Jh z k)]/\e=z/\d=ak/\c=true
 |.cut k=>∃h p:Int,row=.tup [.str "cut", .int h,.int n,.int p,opt (Jh z k)]/\e=xE z k []/\d=ak/\c=true
 |.put k v=>∃(h p:Int) (x:Option Int),row=.tup [.str "put", .int h,.int n,.int p,opt (Jh z k),opt x]/\e=xE z k [(k,v)]/\d=ak/\c=true
 |.str a b=>∃h p:Int,e=z/\((row=.tup [.str "read", .int h,.int n,.int p,.tup (aD (JR z (bN ak n a) b)),.non,.non]/\d=ak/\c=true) ∨
   ∃m x:Int,bN ak n a<m/\m<b/\row=.tup [.str "read", .int h,.int n,.int p,.tup (aD (JR z (bN ak n a) m)),.int x,.int m]/\d=Z9 ak (.inl n) (.int m)/\c=false)
theorem jX(a:List Int)(U:Hs):aK (.lst (a.map .int)) (.lst []) U=some (.bl a.isEmpty,U):=by
 have b:Pl 1 (.lst (a.map .int)):=λd hd=>by obtain⟨x,_,rfl⟩:=Co.mp hd;exact JL 0 x
 have c:Pl 1 (.lst []):=λd hd=>nomatch hd;unfold aK;rw[Qg (YB b c (by decide) (by decide) U)]
 cases a<;>simp[toP,aV,PyData.eqv,PyData.eqvAll]<;>rfl
theorem vz{a:Nat}(b:List Int){U:Hs}(i:U[a]?=some (.lst (b.map .int))):aK (.ref a) (.lst []) U=some (.bl b.isEmpty,U):=by
 have c:∀d∈b.map DV.int,Pl 0 d:=λd hd=>by obtain⟨x,_,rfl⟩:=Co.mp hd;exact JL 0 x
 have j:Pl 1 (.lst []):=λd hd=>nomatch hd;have e:bH 40 U (.ref a)=some (.lst (b.map .int)):=by show(match U[a]? with|some (.lst ds)=>(ds.mapM (bH 39 U)).map DV.lst|_=>none)=_;rw[i];show((b.map DV.int).mapM (bH 39 U)).map DV.lst=_;rw[JV λd hd=>zi 0 d 38 U (c d hd)];rfl
 have q:=jX b U;unfold aK Yb Kl at q ⊢;have h:bH 40 U (.lst (b.map .int))=some (.lst (b.map .int)):=qv (n:=1) (d:=.lst (b.map .int)) c (by decide) U;show(((Option.map _ (bH 40 U (.ref a))).bind _).bind _)=_;rw[e];have f:(((Option.map _ (bH 40 U (.lst (b.map .int)))).bind _).bind _)=_:=q;rw[h]at f;exact f
theorem Rn{T A:Nat}{n c a b:Int}{ps:List Int}{w:Hs}{kvs ak:List (Key×DV)}{z:Zs}(R:w[T]?=some (.aB kvs))(J:w[A]?=some (.aB ak))(TA:A≠T)(dz:Dz kvs z)(Y:aF z)(X:z.length<50000)(ai:AI ak)(al:ak.length<50000)(pl:ps.length<=10) :
  ∃(row:DV)(u:List (Key×DV))(L:Bool),aL n (.str a b) row z ak z u L/\YT [.ref T,.ref A,.lst (ps.map .int),.int n,(De.str a b).dv,.int c] w=some (row,w.set A (.aB u)):=by
 let g:=bN ak n a
 let h:=Qy c 10 % 8
 let p:=Qy c 11 % 40
 let E:Sl->Sl->Sl->Sl->En:=λx1 x2 I x4=>[.val (.ref T),.val (.ref A),.val (.lst (ps.map .int)),.val (.int n),.val (De.str a b).dv,.val (.int c),x1,x2,I,x4]
 have C:∀(j m:Int)(x1 x2 I x4:Sl)(g:au)(w:Hs),0<=j->j<=1000->0<m->g (E x1 x2 I x4) w=some (.int m,w)->Qf QO (Qu 2 Qo (Qa (Qb 5) (Qa (eC (.int j)) Qj))) g (E x1 x2 I x4) w=some (.int (Qy c j % m),w):=λj m x1 x2 I x4 g w h0 h1 hm hg =>
  Qp (x:=.int (Qy c j)) (y:=.int m) (QU (Za (Qe rfl) rfl) rfl (Zq (ZZ c j h0 h1) w)) hg (Zq (Zj _ _ hm) w)
 have s1:QG 6 (ZI "dict" J0 (Qb 1) (Qa (Qb 3) (Qa (Qf aq (Qb 4) (eC (.int 1))) (Qj)))) (E .un .un .un .un) w=some ((.nx,E (.val (.int g)) .un .un .un),w):=by have:=jp (o:=Qb 1) (k:=Qb 3) (e:=Qf aq (Qb 4) (eC (.int 1))) (env:=E .un .un .un .un) (i:=n) (d:=.int a) J (Qe rfl) (Qe rfl) (QN (i:=1) (Qe rfl) rfl rfl);rw[ai.bN n a]at this;exact Qw this
 have s2:=Qw (i:=7) (C 10 8 (.val (.int g)) .un .un .un (eC (.int 8)) w (by decide) (by decide) (by decide) rfl);have s3:=Qw (i:=8) (C 11 40 (.val (.int g)) (.val (.int h)) .un .un (eC (.int 40)) w (by decide) (by decide) (by decide) rfl)
 let l:=ps.filter λk=>decide (g<k)&&decide (k<b)
 let v:=E (.val (.int g)) (.val (.int h)) (.val (.int p)) .un
 have hC:Xz v w=some (.lst (l.map .int),w):=by have Q:=Ki (nxt:=cU (ps.map .int)) (t:=λd=>JG (eB (Qf cj (Qb 1) (Qb 0))) (eB (Qf cj (Qb 0) (Qf aq (Qb 2) (eC (.int 2))))) (cE [6,4] v d)) (f:=λd=>Qb 0 (cE [6,4] v d)) (p:=λk=>decide (g<k)&&decide (k<b)) (g:=id) (U:=w) ps (λi hi=>Yi _ i (by rw[Bf];exact hi) w) (λx=>YW (QJ (xi (Qe rfl) (Qe rfl))) (QJ (xi (Qe rfl) (QN (i:=2) (ds:=[.str "stretch", .int a,.int b]) (Qe rfl) rfl rfl)))) (λx=>rfl) ⋯;rw[List.map_id]at Q;unfold Xz ZB;show(dj (Qb 2) v >>= _) w=_;rw[Qg (JD (f:=Qb 2) (env:=v) (ds:=ps.map .int) (Qe rfl))];exact(Qg Q).trans rfl
 have s4:=Qw (i:=9) hC
 let r:=E (.val (.int g)) (.val (.int h)) (.val (.int p)) (.val (.lst (l.map .int)))
 have t:=A_ (QJ (Qp (x:=.lst (l.map .int)) (y:=.lst []) (env:=r) (g:=aK) (f:=Qb 9) (f':=Zm Qj) (Qe rfl) rfl (jX l w))) (QJ (JI (C 12 2 (.val (.int g)) (.val (.int h)) (.val (.int p)) (.val (.lst (l.map .int))) (eC (.int 2)) w (by decide) (by decide) (by decide) rfl) (g:=eC (.int 0)) rfl));have i2:Qf aq (Qb 4) (eC (.int 2)) r w=some (.int b,w):=QN (i:=2) (ds:=[.str "stretch", .int a,.int b]) (Qe rfl) rfl rfl;by_cases q:(l.isEmpty||(Qy c 12 % 2==0))=true
 ·rw[q]at t;refine⟨_,ak,true,⟨h,p,rfl,.inl ⟨rfl,rfl,rfl⟩⟩,?_⟩;rw[J2 J];exact QC (env:=r) ((Qi s1).trans ((Qi s2).trans ((Qi s3).trans ((Qi s4).trans (QT ((QY t).trans (Qz (Ze (uG rfl (Qe rfl) (Qe rfl) (Qe rfl) (QU (Xo (Qe rfl) (Qe rfl) i2) rfl (xw R dz Y X)) rfl rfl) (by simp)))))))))
 ·rw[Bool.eq_false_iff.mpr q]at t;have Ep:l≠[]:=λz=>q (by rw[z];rfl);have il:(0:Int)<l.length:=by have:=List.length_pos_iff.mpr Ep;lia
  have rk:=Zv (Qy c 13) l.length il
  let m:=l.getD (Qy c 13 % (l.length:Int)).toNat 0
  have mm:m∈l:=by
   have lt:(Qy c 13 % (l.length:Int)).toNat<l.length:=⋯
   show l.getD _ 0∈l;rw[B8,Ab lt];exact Bq lt
  have mb:=(Bb.mp mm).2;simp only[A4,decide_eq_true_eq]at mb;have ln:QR Zo (Qa (Qb 9) Qj) r w=some (.int l.length,w):=by
   have:=Xl (f:=Qb 9) (env:=r) (U:=w) (ds:=l.map .int) (Qe rfl)
   rwa [Bf]at this
  have s5:=Jy (e:=Qf aq (Qb 9) (Qf QO (Qu 2 Qo (Qa (Qb 5) (Qa (eC (.int 13)) (Qj)))) (QR Zo (Qa (Qb 9) (Qj))))) (o:=Qb 1) (j:=Qb 3) (env:=r) (n:=n) (d:=.int m) (Qp (x:=.lst (l.map .int)) (y:=.int (Qy c 13 % (l.length:Int))) (Qe rfl) (C 13 l.length _ _ _ _ _ w (by decide) (by decide) il ln) (Zq (XI (qh l rk.1 rk.2)) w)) (Qe rfl) (Qe rfl) J ⋯
  let u:=Z9 ak (.inl n) (.int m)
  let F:=w.set A (.aB u)
  have O:F[A]?=some (.aB u):=Ar (Gk J);have P:F[T]?=some (.aB kvs):=by show(w.set A _)[T]?=_;rw[Ak TA];exact R
  have vm:ZA u (.inl n)=some (.int m):=by show ZA (Z9 ak (.inl n) (.int m)) (.inl n)=_;rw[qY,Ct rfl]
  have Z:Qf aq (Qb 1) (Qb 3) r F=some (.int m,F):=Qp (x:=.ref A) (y:=.int n) (Qe rfl) (Qe rfl) (VA O vm);refine⟨_,u,false,⟨h,p,rfl,.inr ⟨m,Qy c 14 % 40,mb.1,mb.2,rfl,rfl,rfl⟩⟩,?_⟩;exact QC (env:=r) ((Qi s1).trans ((Qi s2).trans ((Qi s3).trans ((Qi s4).trans ((Qi ((Qv t).trans rfl)).trans ((Qi s5).trans (Qz (Ze (uG rfl (Qe rfl) (Qe rfl) (Qe rfl) (QU (Xo (Qe rfl) (Qe rfl) Z) rfl (xw P dz Y X)) (C 14 40 _ _ _ _ (eC (.int 40)) F (by decide) (by decide) (by decide) rfl) Z) (by simp)))))))))
theorem JP{wd k:Str}{rest:List DV}{b:Bool}{env:En}{w:Hs}{i:Nat}(e:env[i]?=some (.val (.tup (.str wd::rest))))(a:PyData.strOk wd=true)(c:PyData.strOk k=true)(d:(wd==k)=b):eB (Qf aK (Qf aq (Qb i) (eC (.int 0))) (eC (.str k))) env w=some (b,w) :=
 QJ (Qp (x:=.str wd) (y:=.str k) (QN (i:=0) (Qe e) rfl rfl) rfl (mC w a c d))
theorem UL(kvs:List (Key×DV))(k:Key)(d:DV):(Z9 kvs k d).length<=kvs.length+1:=by
 unfold Z9;split
 ·rw[Bf];lia
 ·simp
theorem AI.put{ak:List (Key×DV)}(h:AI ak)(n m:Int):AI (Z9 ak (.inl n) (.int m)):=λj v e=>by
 rw[qY]at e;split at e
 ·cases e;exact⟨m,rfl⟩
 ·exact h j v e
theorem aL.ai{n:Int}{i:De}{row:DV}{z f:Zs}{ak d:List (Key×DV)}{e:Bool}(h:aL n i row z ak f d e)(c:aF z)(ai:AI ak):AI d/\aF f/\f.length<=z.length+1/\d.length<=ak.length+1:=by
  cases i with
  |find k=>obtain⟨_,_,_,rfl,rfl,_⟩:=h;exact⟨ai,c,Nat.le_succ _,Nat.le_succ _⟩
  |cut k=>obtain⟨_,_,_,rfl,rfl,_⟩:=h;exact⟨ai,xF c k List.Pairwise.nil (λp U=>nomatch U),A9 (VO z k []) (Nat.le_succ _),Nat.le_succ _⟩
  |put k v=>obtain⟨_,_,_,_,rfl,rfl,_⟩:=h;exact⟨ai,xF c k (wV k v) (λp U=>by rw[Aq.mp U]),VO z k _,Nat.le_succ _⟩
  |str a b =>
    obtain⟨_,_,rfl,⟨_,rfl,_⟩|⟨m,x,_,_,_,rfl,_⟩⟩:=h
    . exact⟨ai,c,Nat.le_succ _,Nat.le_succ _⟩
    . exact⟨ai.put n m,c,Nat.le_succ _,UL _ _ _⟩
theorem vN{T A:Nat}{n c:Int}(U:De){ps:List Int}{w:Hs}{kvs ak:List (Key×DV)}{z:Zs}(C:w[T]?=some (.aB kvs))(X:w[A]?=some (.aB ak))(TA:A≠T)(dz:Dz kvs z)(Y:aF z)(hl:z.length<50000)(ai:AI ak)(al:ak.length<50000)(pl:ps.length<=10) :
    ∃(row:DV)(q L:List (Key×DV))(z':Zs)(t:Bool),aL n U row z ak z' L t/\Dz q z'/\JQ [.ref T,.ref A,.lst (ps.map .int),.int n,U.dv,.int c] w=some (row,(w.set T (.aB q)).set A (.aB L)):=by
  let h:=Qy c 10 % 8
  let p:=Qy c 11 % 40
  have F:(w.set T (.aB kvs)).set A (.aB ak)=w:=by rw[J2 C,J2 X]
  have Z:∀q:List (Key×DV),(w.set T (.aB q))[A]?=some (.aB ak):=λq=>by rw[Ak (Ne.symm TA)];exact X
  let E:DV->Sl->Sl->Sl->En:=λdv x1 x2 R=>[.val (.ref T),.val (.ref A),.val (.lst (ps.map .int)),.val (.int n),.val dv,.val (.int c),x1,x2,R]
  have O:∀(dv:DV)(j m:Int)(x1 x2 R:Sl)(w:Hs),0<=j->j<=1000->0<m->Qf QO (Qu 2 Qo (Qa (Qb 5) (Qa (eC (.int j)) Qj))) (eC (.int m)) (E dv x1 x2 R) w=some (.int (Qy c j % m),w):=λdv j m x1 x2 R w h0 h1 hm =>
    Qp (x:=.int (Qy c j)) (y:=.int m) (QU (Za (Qe rfl) rfl) rfl (Zq (ZZ c j h0 h1) w)) rfl (Zq (Zj _ _ hm) w)
  have P:∀dv,QG 6 (Qf QO (Qu 2 Qo (Qa (Qb 5) (Qa (eC (.int 10)) (Qj)))) (eC (.int 8))) (E dv .un .un .un) w=some ((.nx,E dv (.val (.int h)) .un .un),w):=λdv=>Qw (O dv 10 8 _ _ _ w (by decide) (by decide) (by decide));have Q:∀dv,QG 7 (Qf QO (Qu 2 Qo (Qa (Qb 5) (Qa (eC (.int 11)) (Qj)))) (eC (.int 40))) (E dv (.val (.int h)) .un .un) w=some ((.nx,E dv (.val (.int h)) (.val (.int p)) .un),w):=λdv=>Qw (O dv 11 40 _ _ _ w (by decide) (by decide) (by decide))
  let r:DV->Sl->En:=λdv x=>E dv (.val (.int h)) (.val (.int p)) x
  have ok:PyData.strOk "find" = true/\PyData.strOk "cut" = true/\PyData.strOk "put" = true/\PyData.strOk "stretch" = true:=by decide +kernel
  have u:∀(k:Int) (wd:Str) (rest:List DV),QG 8 (ZI "dict" J0 (Qb 0) (Qa (Qf aq (Qb 4) (eC (.int 1))) (Qj))) (r (.tup (.str wd::.int k::rest)) .un) w=some ((.nx,r (.tup (.str wd::.int k::rest)) (.val (opt (Jh z k)))),w):=λk wd rest=>by have:=Vt (o:=Qb 0) (k:=Qf aq (Qb 4) (eC (.int 1))) (env:=r (.tup (.str wd::.int k::rest)) .un) (i:=k) C (Qe rfl) (QN (i:=1) (Qe rfl) rfl rfl);rw[dz.getD Y k]at this;exact Qw this
  cases U with
  |find k=>refine⟨_,kvs,ak,z,true,⟨h,p,rfl,rfl,rfl,rfl⟩,dz,?_⟩;rw[F];exact QC (env:=r (De.find k).dv (.val (opt (Jh z k)))) ((Qi (P _)).trans ((Qi (Q _)).trans ((Qi ((Qv (JP rfl ok.1 ok.2.2.2 (by decide +kernel))).trans rfl)).trans ((Qi (u k _ _)).trans (QT ((QY (JP rfl ok.1 ok.1 (by decide +kernel))).trans (Qz (Ze (K1 rfl (Qe rfl) (Qe rfl) (Qe rfl) (Qe rfl)) (by simp)))))))))
  |cut k =>obtain⟨x,ep⟩:=OJ (o:=Qb 0) (k:=Qf aq (Qb 4) (eC (.int 1))) (e:=eC .non) (env:=r (De.cut k).dv (.val (opt (Jh z k)))) (i:=k) (d:=.non) C (Qe rfl) (QN (i:=1) (ds:=[.str "cut", .int k]) (Qe rfl) rfl rfl) rfl;refine⟨_,Je kvs (.inl k),ak,xE z k [],true,⟨h,p,rfl,rfl,rfl,rfl⟩,dz.drop k,?_⟩;rw[J2 (Z _)];exact QC (env:=r (De.cut k).dv (.val (opt (Jh z k)))) ((Qi (P _)).trans ((Qi (Q _)).trans ((Qi ((Qv (JP rfl ok.2.1 ok.2.2.2 (by decide +kernel))).trans rfl)).trans ((Qi (u k _ _)).trans ((Qi ((Qv (JP rfl ok.2.1 ok.1 (by decide +kernel))).trans rfl)).trans (QT ((QY (JP rfl ok.2.1 ok.2.1 (by decide +kernel))).trans ((Qi (JB ep)).trans (Qz (Ze (K1 rfl (Qe rfl) (Qe rfl) (Qe rfl) (Qe rfl)) (by simp)))))))))))
  |put k v =>
    let dv:=(De.put k v).dv
    let J:=r dv (.val (opt (Jh z k)))
    have s5:=Jy (e:=Qf aq (Qb 4) (eC (.int 2))) (o:=Qb 0) (j:=Qf aq (Qb 4) (eC (.int 1))) (env:=J) (n:=k) (d:=.int v) (QN (i:=2) (ds:=[.str "put", .int k,.int v]) (Qe rfl) rfl rfl) (Qe rfl) (QN (i:=1) (ds:=[.str "put", .int k,.int v]) (Qe rfl) rfl rfl) C (by rw[dz.len];lia)
    let I:=w.set T (.aB (Z9 kvs (.inl k) (.int v)))
    have r2:=Zv (Qy c 13) 2 (by decide);have lx:∃x:Option Int,Qf aq (Zm (Qa (eC .non) (Qa (Qf QO (Qu 2 Qo (Qa (Qb 5) (Qa (eC (.int 12)) (Qj)))) (eC (.int 40))) (Qj)))) (Qf QO (Qu 2 Qo (Qa (Qb 5) (Qa (eC (.int 13)) (Qj)))) (eC (.int 2))) J I=some (opt x,I):=by
      have l:=qF (f:=eC .non) (g:=Qf QO (Qu 2 Qo (Qa (Qb 5) (Qa (eC (.int 12)) (Qj)))) (eC (.int 40))) (env:=J) (x:=.non) (w:=I) rfl (O dv 12 40 _ _ _ I (by decide) (by decide) (by decide));have i:=O dv 13 2 (.val (.int h)) (.val (.int p)) (.val (opt (Jh z k))) I (by decide) (by decide) (by decide);rcases(show Qy c 13 % 2=0∨Qy c 13 % 2=1 by lia)with e|e
      . rw[e]at i
        exact⟨none,Zp (i:=0) l i rfl⟩
      . rw[e]at i
        exact⟨some (Qy c 12 % 40),Zp (i:=1) l i rfl⟩
    obtain⟨x,ex⟩:=lx;refine⟨_,Z9 kvs (.inl k) (.int v),ak,xE z k [(k,v)],true,⟨h,p,x,rfl,rfl,rfl,rfl⟩,dz.put Y k v,?_⟩;rw[J2 (Z _)];exact QC (env:=J) ((Qi (P _)).trans ((Qi (Q _)).trans ((Qi ((Qv (JP rfl ok.2.2.1 ok.2.2.2 (by decide +kernel))).trans rfl)).trans ((Qi (u k _ _)).trans ((Qi ((Qv (JP rfl ok.2.2.1 ok.1 (by decide +kernel))).trans rfl)).trans ((Qi ((Qv (JP rfl ok.2.2.1 ok.2.1 (by decide +kernel))).trans rfl)).trans ((Qi s5).trans (Qz (Ze (K2 rfl (Qe rfl) (Qe rfl) (Qe rfl) (Qe rfl) ex) (by simp))))))))))
  |str a b=>obtain⟨row,L,t,hf,e⟩:=Rn (n:=n) (c:=c) (a:=a) (b:=b) (ps:=ps) C X TA dz Y hl ai al pl;refine⟨row,kvs,L,z,t,hf,dz,?_⟩;rw[J2 C];exact QC (env:=r (De.str a b).dv .un) ((Qi (P _)).trans ((Qi (Q _)).trans (QT ((QY (JP rfl ok.2.2.2 ok.2.2.2 (by decide +kernel))).trans (Qz (QU (K2 (Qe rfl) (Qe rfl) (Qe rfl) (Qe rfl) (Qe rfl) (Qe rfl)) rfl e))))))
theorem Uy{U:Hs}{a:Nat}{ds:List DV}(h:U[a]?=some (.lst ds)):zR "list" (.ref a) U=some ((),U):=by show(Zi a >>= _) U=_;rw[Qg (Q6 h)];rfl
theorem Sd{o:au}{fa:bR}{env:En}{U hp1:Hs}{a b:Nat}{nA ds es:List DV}(j:o env U=some (.ref a,U))(c:U[a]?=some (.lst nA))(d:fa env U=some ([.ref b],hp1))(h:hp1[a]?=some (.lst ds))(f:hp1[b]?=some (.lst es))(i:ds.length+es.length<=100000):ZI "list" qG o fa env U=some (.non,hp1.set a (.lst (ds++es))):=by have e:=vA (o:=eC (.ref a)) (fa:=λ_=>pure [.ref b]) (env:=env) (U:=hp1) rfl h rfl f i;unfold ZI at e ⊢;rw[Qg j,Qg (Uy c),Qg d];rw[Qg (show eC (.ref a) env hp1=some (.ref a,hp1)from rfl),Qg (Uy h)]at e;exact e
theorem Rx{o e:au}{env:En}{U hp1:Hs}{a:Nat}{nA ds:List DV}{d:DV}(i:o env U=some (.ref a,U))(b:U[a]?=some (.lst nA))(c:e env U=some (d,hp1))(h:hp1[a]?=some (.lst ds))(f:ds.length<100000):ZI "list" Jw o (Qa e Qj) env U=some (.non,hp1.set a (.lst (ds++[d]))):=by have q:=Yu (o:=eC (.ref a)) (e:=eC d) (env:=env) (U:=hp1) rfl h rfl f;unfold ZI at q ⊢;rw[Qg i,Qg (Uy b),Qg (Zd c)];rw[Qg (show eC (.ref a) env hp1=some (.ref a,hp1)from rfl),Qg (Uy h),Qg (Zd (show eC d env hp1=some (d,hp1)from rfl))]at q;exact q
theorem Lw{o e:au}{env:En}{U:Hs}{a:Nat}{ns:List Int}{i:Int}(c:o env U=some (.ref a,U))(h:U[a]?=some (.lst (ns.map .int)))(b:e env U=some (.int i,U))(hi:i∈ns):ZI "list" qH o (Qa e Qj) env U=some (.non,U.set a (.lst ((ns.erase i).map .int))):=by
 unfold ZI;rw[Qg c,Qg (Uy h),Qg (Zd b)];show(Zi a >>= _) U=_;rw[Qg (Q6 h)];show(XO (Jz (ns.map .int)) >>= _) U=_;rw[Yw,Qg (show XO (some ns) U=some (ns,U)from rfl)];rw[Qg (show QM (decide (i∈ns)) U=some ((),U)by rw[Cy hi];rfl)];have:qW a (.lst ((ns.erase i).map .int)) U=some ((),U.set a (.lst ((ns.erase i).map .int))):=by rfl
 rw[Qg this];rfl
theorem lZ{x y:Str}(U:Hs)(a:PyData.strOk x=true)(c:PyData.strOk y=true){b:Bool}(h:(x != y)=b):bU (.str x) (.str y) U=some (.bl b,U):=by
 unfold bU;have e:Yb (.str x) (.str y) U=some (x==y,U):=by rw[jn (jl 39 U x) (jl 39 U y) (jv a) (jv c)];rfl
 rw[Qg e];show some (DV.bl (!(x==y)),U)=_;rw[<- h];rfl
theorem NK{U:Hs}{a:Nat}{ds:List DV}{d:DV}(h:U[a]?=some (.lst (ds++[d]))):aq (.ref a) (.int (-1)) U=some (d,U):=by show(Zi a >>= _) U=_;rw[Qg (Q6 h)];have:atI (ds++[d]) (-1)=some d:=V6 _ _;show(UH (atI (ds++[d]) (-1))) U=_;rw[this];rfl
def xW:List Str:=["found", "put", "cut", "read", "side", "down", "told", "raised", "take", "rest"]
theorem zJ:∀w∈xW,PyData.strOk w=true:=by decide +kernel
def jY:List DV:=[.str "found", .str "put", .str "cut", .str "read"]
def aN:DV->Bool
 |.tup (x::_)=>inB x jY
 |_=>false
def aJ(d:DV):Prop:=∃(w:Str)(rest:List DV),d=.tup (.str w::rest)/\w∈xW/\∀x∈rest,Pl 2 x
theorem aJ.pl{d:DV}(h:aJ d):Pl 3 d:=by
 obtain⟨w,rest,rfl,b,a⟩:=h;intro x hx;rcases Ba.mp hx with rfl|hx
 ·exact Y5 (zJ w b)
 ·exact a x hx
def zQ{x:DV}{rest:List DV}{b:Bool}(h:inB x jY=b):aN (.tup (x::rest))=b:=h
theorem aL.row{n:Int}{e:De}{row:DV}{z l:Zs}{ak j:List (Key×DV)}{d:Bool}(h:aL n e row z ak l j d):aJ row/\aN row=true:=by
  have c:∀i:Int,Pl 2 (.int i):=λi=>JL 2 i;have po:∀o:Option Int,Pl 2 (opt o):=λo=>KC 2 o;have f:∀z:Zs,Pl 2 (.tup (aD z)):=λz=>xA (XQ z);cases e with
  |find k=>obtain⟨h,p,rfl,_⟩:=h;exact⟨⟨_,_,rfl,by decide +kernel,by simp[c,po]⟩,zQ (by decide +kernel)⟩
  |cut k=>obtain⟨h,p,rfl,_⟩:=h;exact⟨⟨_,_,rfl,by decide +kernel,by simp[c,po]⟩,zQ (by decide +kernel)⟩
  |put k v=>obtain⟨h,p,x,rfl,_⟩:=h;exact⟨⟨_,_,rfl,by decide +kernel,by simp[c,po]⟩,zQ (by decide +kernel)⟩
  |str a b =>
    obtain⟨h,p,_,⟨rfl,_⟩|⟨m,x,_,_,rfl,_⟩⟩:=h
    . exact⟨⟨_,_,rfl,by decide +kernel,by simp[c,f,zF]⟩,zQ (by decide +kernel)⟩
    . exact⟨⟨_,_,rfl,by decide +kernel,by simp[c,f]⟩,zQ (by decide +kernel)⟩
theorem Od(h n p:Int):∀d∈nU h n p,aJ d/\aN d=false:=by have a:∀i:Int,Pl 2 (.int i):=λi=>JL 2 i;intro d hd;simp only[nU,Ba,Bu,or_false]at hd;rcases hd with rfl|rfl|rfl|rfl|rfl|rfl<;>exact⟨⟨_,_,rfl,by decide +kernel,by simp[a,zF]⟩,zQ (by decide +kernel)⟩
def Run(dd:List De):List DV->Zs->List (Key×DV)->List Int->Zs->List (Key×DV)->List Int->Prop
 | [],z,ak,cl,d,b,c=>d=z/\b=ak/\c=cl
 |r::rs,z,ak,cl,d,b,c=>∃(n:Nat)(f:De)(z1:Zs)(e:List (Key×DV))(a:Bool),dd[n]?=some f/\(n:Int)∉cl/\aL n f r z ak z1 e a/\Run dd rs z1 e (if a=true then cl++[(n:Int)]else cl) d b c
theorem Run.more{dd:List De}(d:List De):∀{rs:List DV}{z:Zs}{ak:List (Key×DV)}{cl:List Int}{e:Zs}{b:List (Key×DV)}{c:List Int},Run dd rs z ak cl e b c->Run (dd++d) rs z ak cl e b c
 | [],_,_,_,_,_,_,h=>h
 |_::_,_,_,_,_,_,_,⟨n,i,z1,f,a,j,l,m,o⟩=>⟨n,i,z1,f,a,gB j,l,m,o.more d⟩
theorem Run.snoc{dd:List De}{r:DV}{n:Nat}{e:De}{z2:Zs}{d:List (Key×DV)}{b:Bool}(hd:dd[n]?=some e):∀{rs:List DV}{z:Zs}{ak:List (Key×DV)}{cl:List Int}{z1:Zs}{h:List (Key×DV)}{a:List Int},Run dd rs z ak cl z1 h a->(n:Int)∉a->aL n e r z1 h z2 d b->Run dd (rs++[r]) z ak cl z2 d (if b=true then a++[(n:Int)]else a)
 | [],_,_,_,_,_,_,⟨j,l,o⟩,f,hf=>by subst j l o;exact⟨n,e,z2,d,b,hd,f,hf,rfl,rfl,rfl⟩
 |_::_,_,_,_,_,_,_,⟨m,x,z3,i,c,q,t,u,v⟩,f,hf=>⟨m,x,z3,i,c,q,t,u,v.snoc hd f hf⟩
def GH(kvs:List (Key×DV))(dd:List De)(rr:List DV)(ak:List (Key×DV))(a:List Int)(gs:Hs):Hs:=.aB kvs::.lst (dd.map De.dv)::.lst rr::.aB ak::.lst (a.map .int)::gs
structure LI(z0:Zs)(kvs:List (Key×DV))(dd:List De)(rr:List DV)(ak:List (Key×DV))(ww:List Int)(z:Zs)(cl:List Int)(m:Nat):Prop where
 rise:aF z
 dz:Dz kvs z
 ai:AI ak
 run:Run dd (rr.filter aN) z0 [] [] z ak cl
 rows:∀d∈rr,aJ d
 nd:ww.Nodup
 wait:∀x∈ww,∃n:Nat,x=n/\n<dd.length/\x∉cl
 l1:rr.length<=8 * m
 l2:z.length<=10+m
 l3:ak.length<=m
 l4:dd.length<=m
 l5:ww.length<=m
 cls:∀x∈cl,∃n:Nat,x=n/\n<dd.length
 bd:∀d∈dd,d.ok
theorem LI.up{z0:Zs}{kvs:List (Key×DV)}{dd:List De}{rr:List DV}{ak:List (Key×DV)}{b:List Int}{z:Zs}{cl:List Int}{m a:Nat}(h:LI z0 kvs dd rr ak b z cl m)(c:m<=a):LI z0 kvs dd rr ak b z cl a :=
 ⟨h.rise,h.dz,h.ai,h.run,h.rows,h.nd,h.wait,by have:=h.l1;lia,by have:=h.l2;lia,by have:=h.l3;lia,by have:=h.l4;lia,by have:=h.l5;lia,h.cls,h.bd⟩
theorem LI.O2{z0:Zs}{kvs:List (Key×DV)}{dd:List De}{rr:List DV}{ak:List (Key×DV)}{i:List Int}{z:Zs}{cl:List Int}{m:Nat}(h:LI z0 kvs dd rr ak i z cl m)(d:De)(hd:d.ok):LI z0 kvs (dd++[d]) rr ak (i++[(dd.length:Int)]) z cl (m+1):=by
 refine⟨h.rise,h.dz,h.ai,h.run.more [d],h.rows,?_,λx hx=>?_,by have:=h.l1;lia,by have:=h.l2;lia,by have:=h.l3;lia,by have:=h.l4;simp;lia,by have:=h.l5;simp;lia,λx hx=>?_,λx hx=>(Ah.mp hx).elim (h.bd x) λq=>by rw[Aq.mp q];exact hd⟩
 ·refine List.nodup_append.mpr ⟨h.nd,by simp,λa j b l=>?_⟩;obtain⟨n,rfl,f,_⟩:=h.wait a j;rw[Aq.mp l];lia
 ·rcases Ah.mp hx with hx|hx
  ·obtain⟨n,e,f,c⟩:=h.wait x hx;exact⟨n,e,by simp;lia,c⟩
  ·rw[Aq.mp hx];refine⟨dd.length,rfl,by simp,λc=>?_⟩;obtain⟨n,e,f⟩:=h.cls _ c;lia
 ·obtain⟨n,e,f⟩:=h.cls x hx;exact⟨n,e,by simp;lia⟩
theorem LI.other{z0:Zs}{kvs:List (Key×DV)}{dd:List De}{rr:List DV}{ak:List (Key×DV)}{b:List Int}{z:Zs}{cl:List Int}{m:Nat}(h:LI z0 kvs dd rr ak b z cl m){bs:List DV}(a:∀d∈bs,aJ d/\aN d=false):Run dd ((rr++bs).filter aN) z0 [] [] z ak cl/\∀d∈rr++bs,aJ d:=by refine⟨?_,λd hd=>(Ah.mp hd).elim (h.rows d) λq=>(a d q).1⟩;rw[List.filter_append,List.filter_eq_nil_iff (l:=bs) |>.mpr (λd hd=>by rw[(a d hd).2];simp),Bg];exact h.run
def dB{wd:Str}(h:wd∈xW):PyData.strOk wd=true:=zJ wd h
theorem gd{n:Int}{d:De}{row:DV}{z q:Zs}{ak j:List (Key×DV)}{c:Bool}(hf:aL n d row z ak q j c){f:au}{env:En}{U:Hs}(h:f env U=some (row,U)):cB (eB (Qf bU (Qf aq f (eC (.int 0))) (eC (.str "read")))) (eB (Qf isD (Qf aq f (eC (.int 6))) (eC .non))) env U=some (c,U):=by
  have ok:PyData.strOk "found" = true/\PyData.strOk "cut" = true/\PyData.strOk "put" = true/\PyData.strOk "read" = true:=by decide +kernel
  have ne:∀(wd:Str) (rest:List DV) (b:Bool),row=.tup (.str wd::rest)->PyData.strOk wd=true->(wd != "read")=b->eB (Qf bU (Qf aq f (eC (.int 0))) (eC (.str "read"))) env U=some (b,U):=λwd rest b e l o =>
    QJ (Qp (x:=.str wd) (y:=.str "read") (QN (i:=0) (by rw[h,e]) rfl rfl) rfl (lZ U l ok.2.2.2 o))
  cases d with
  |find k=>obtain⟨_,_,e,_,_,rfl⟩:=hf;exact Us (ne _ _ _ e ok.1 (by decide +kernel))
  |cut k=>obtain⟨_,_,e,_,_,rfl⟩:=hf;exact Us (ne _ _ _ e ok.2.1 (by decide +kernel))
  |put k v=>obtain⟨_,_,_,e,_,_,rfl⟩:=hf;exact Us (ne _ _ _ e ok.2.2.1 (by decide +kernel))
  |str a b =>
    obtain⟨r,p,_,⟨e,_,rfl⟩|⟨m,x,_,_,e,_,rfl⟩⟩:=hf
    . exact(qx (ne _ _ _ e ok.2.2.2 (by decide +kernel))).trans (QJ (Qp (x:=.non) (y:=.non) (QN (i:=6) (by rw[h,e]) rfl rfl) rfl rfl))
    . exact(qx (ne _ _ _ e ok.2.2.2 (by decide +kernel))).trans (QJ (Qp (x:=.int m) (y:=.non) (QN (i:=6) (by rw[h,e]) rfl rfl) rfl rfl))
theorem Rw{z0:Zs}{kvs:List (Key×DV)}{dd:List De}{rr:List DV}{ak:List (Key×DV)}{F:List Int}{z:Zs}{cl:List Int}{m:Nat}(I:LI z0 kvs dd rr ak F z cl m)(hm:m<=300){ps:List Int}(h2:2<=ps.length)(aa:ps.length<=10)(ag:∀x∈ps,x<=1000000000000000000000000000000)(C:DV)(c:Int)(J x9:Sl)(gs:Hs) :
    ∃u Y ae O rR z' bC cT af,LI z0 u Y ae O rR z' bC (m+1)/\JT [.val C,.val (.lst (ps.map .int)),.val (.ref 0),.val (.ref 1),.val (.ref 2),.val (.ref 3),.val (.ref 4),.val (.int c),J,x9] (GH kvs dd rr ak F gs)=some ((.nx,[.val C,.val (.lst (ps.map .int)),.val (.ref 0),.val (.ref 1),.val (.ref 2),.val (.ref 3),.val (.ref 4),.val (.int c),cT,x9]),GH u Y ae O rR af):=by
  let E:Sl->En:=λJ=>[.val C,.val (.lst (ps.map .int)),.val (.ref 0),.val (.ref 1),.val (.ref 2),.val (.ref 3),.val (.ref 4),.val (.int c),J,x9]
  have dg:∀(j m:Int)(J:Sl)(g:au)(w:Hs),0<=j->j<=1000->0<m->g (E J) w=some (.int m,w)->Qf QO (Qu 2 Qo (Qa (Qb 7) (Qa (eC (.int j)) Qj))) g (E J) w=some (.int (Qy c j % m),w):=λj m J g w h0 h1 hm hg =>
    Qp (x:=.int (Qy c j)) (y:=.int m) (QU (Za (Qe rfl) rfl) rfl (Zq (ZZ c j h0 h1) w)) hg (Zq (Zj _ _ hm) w)
  obtain⟨l,b,v,w1,e1⟩:∃l b,LI z0 kvs l rr ak b z cl (m+1)/\b≠[]/\aP (cB (eB (Qf aK (Qb 6) (Zm (Qj)))) (eB (Qf eG (Qf QO (Qu 2 Qo (Qa (Qb 7) (Qa (eC (.int 20)) (Qj)))) (eC (.int 3))) (eC (.int 0))))) (Qx (Xa (ZI "list" Jw (Qb 6) (Qa (QR Zo (Qa (Qb 3) (Qj))) (Qj)))) (Xa (ZI "list" Jw (Qb 3) (Qa (Qu 2 JW (Qa (Qb 7) (Qa (Qb 1) (Qj)))) (Qj))))) (Zf) (E J) (GH kvs dd rr ak F gs)=some ((.nx,E J),GH kvs l rr ak b gs):=by
    have t:=A_ (QJ (Qp (g:=aK) (f:=Qb 6) (f':=Zm Qj) (env:=E J) (x:=.ref 4) (y:=.lst []) (Qe rfl) rfl (vz (U:=GH kvs dd rr ak F gs) F rfl))) (QJ (jZ (dg 20 3 J (eC (.int 3)) (GH kvs dd rr ak F gs) (by decide) (by decide) (by decide) rfl) (g:=eC (.int 0)) (j:=0) rfl));by_cases q:(F.isEmpty||decide ((0:Int)<Qy c 20 % 3))=true
    . rw[q]at t
      obtain⟨d,dk,ed⟩:=Sv c h2 aa ag (GH kvs dd rr ak (F++[(dd.length:Int)]) gs);refine⟨dd++[d],F++[(dd.length:Int)],I.O2 d dk,by simp,(QY t).trans ?_⟩;have l1:=I.l4;have l2:=I.l5;have a1:=Yu (o:=Qb 6) (e:=QR Zo (Qa (Qb 3) (Qj))) (env:=E J) (U:=GH kvs dd rr ak F gs) (a:=4) (ds:=F.map .int) (d:=.int dd.length) (Qe rfl) rfl (by have:=qE (f:=Qb 3) (env:=E J) (U:=GH kvs dd rr ak F gs) (n:=1) (ds:=dd.map De.dv) (Qe rfl) rfl;rwa [Bf]at this) (by rw[Bf];lia);have e4:(GH kvs dd rr ak F gs).set 4 (.lst (F.map .int++[.int dd.length]))=GH kvs dd rr ak (F++[(dd.length:Int)]) gs:=by show _=OV.aB kvs::_::_::_::OV.lst ((F++[(dd.length:Int)]).map .int)::gs;rw[List.map_append];rfl
      rw[e4]at a1;have a2:=Yu (o:=Qb 3) (e:=Qu 2 JW (Qa (Qb 7) (Qa (Qb 1) (Qj)))) (env:=E J) (U:=GH kvs dd rr ak (F++[(dd.length:Int)]) gs) (a:=1) (ds:=dd.map De.dv) (d:=d.dv) (Qe rfl) rfl (QU (Za (Qe rfl) (Qe rfl)) rfl ed) (by rw[Bf];lia);have e5:(GH kvs dd rr ak (F++[(dd.length:Int)]) gs).set 1 (.lst (dd.map De.dv++[d.dv]))=GH kvs (dd++[d]) rr ak (F++[(dd.length:Int)]) gs:=by show _=OV.aB kvs::OV.lst ((dd++[d]).map De.dv)::_;rw[List.map_append];rfl
      rw[e5]at a2;exact(Qi (JB a1)).trans (JB a2)
    . rw[Bool.eq_false_iff.mpr q]at t
      exact⟨dd,F,I.up (Nat.le_succ _),λz=>q (by rw[z];rfl),(Qv t).trans rfl⟩
  have wl:(0:Int)<b.length:=by have:=List.length_pos_iff.mpr w1;lia
  have rk:=Zv (Qy c 21) b.length wl;have lt:(Qy c 21 % (b.length:Int)).toNat<b.length:=⋯
  have mn:b[(Qy c 21 % (b.length:Int)).toNat]∈b:=Bq lt;obtain⟨n,en,hn,hc⟩:=v.wait _ mn;obtain⟨de,ad⟩:∃de,l[n]?=some de:=⟨l[n],Ab hn⟩;rw[en]at mn hc;have ei:(b.map DV.int)[(Qy c 21 % (b.length:Int)).toNat]?=some (.int n):=by rw[Bh,Ab lt,en];rfl
  have s2:QG 8 (Qf aq (Qb 6) (Qf QO (Qu 2 Qo (Qa (Qb 7) (Qa (eC (.int 21)) (Qj)))) (QR Zo (Qa (Qb 6) (Qj))))) (E J) (GH kvs l rr ak b gs)=some ((.nx,E (.val (.int n))),GH kvs l rr ak b gs):=by refine Qw (Yd (i:=(Qy c 21 % (b.length:Int)).toNat) (n:=4) (ds:=b.map .int) (Qe rfl) rfl ?_ ei);have:=dg 21 b.length J (QR Zo (Qa (Qb 6) (Qj))) (GH kvs l rr ak b gs) (by decide) (by decide) wl (by have:=qE (f:=Qb 6) (env:=E J) (U:=GH kvs l rr ak b gs) (n:=4) (ds:=b.map .int) (Qe rfl) rfl;rwa [Bf]at this);rw[Int.toNat_of_nonneg rk.1];exact this
  obtain⟨h,p,eb⟩:=vg c n (GH kvs l rr ak b gs)
  let k:=(Qy c 22 % 7).toNat
  have Ec:=Zv (Qy c 22) 7 (by decide)
  let bs:=(nU h n p).take k
  let P:=gs++[OV.lst bs]
  have sl:gc (Qu 2 Jb (Qa (Qb 7) (Qa (Qb 8) (Qj)))) (Q7) (QH (Qf QO (Qu 2 Qo (Qa (Qb 7) (Qa (eC (.int 22)) (Qj)))) (eC (.int 7)))) (E (.val (.int n))) (GH kvs l rr ak b gs)=some (.ref (GH kvs l rr ak b gs).length,GH kvs l rr ak b P):=by
    have:=M8 (f:=Qu 2 Jb (Qa (Qb 7) (Qa (Qb 8) (Qj)))) (ol:=Q7) (oh:=QH (Qf QO (Qu 2 Qo (Qa (Qb 7) (Qa (eC (.int 22)) (Qj)))) (eC (.int 7)))) (env:=E (.val (.int n))) (U:=GH kvs l rr ak b gs) (lo:=none) (hi:=some (k:Int)) (QU (Za (Qe rfl) (Qe rfl)) rfl eb) rfl (by have e:=dg 22 7 (.val (.int n)) (eC (.int 7)) (GH kvs l rr ak b gs) (by decide) (by decide) (by decide) rfl;unfold QH;rw[Qg e];show some (some (Qy c 22 % 7),_)=some (some (k:Int),_);rw[show(k:Int)=Qy c 22 % 7 from Int.toNat_of_nonneg Ec.1])
    rw[jM]at this;exact this
  have rl:=v.l1;have bl:bs.length<=6:=A9 (List.length_take_le' _ _) (Ae 6);have s3:=Sd (o:=Qb 4) (env:=E (.val (.int n))) (U:=GH kvs l rr ak b gs) (a:=2) (nA:=rr) (ds:=rr) (es:=bs) (Qe rfl) rfl (Zd sl) rfl (by show(OV.aB kvs::_::_::_::_::(gs++[OV.lst bs]))[gs.length+5]?=_;simp) ⋯;obtain⟨R2,R3⟩:=v.other (bs:=bs) λd hd=>Od h n p d (Bj hd);have z2:=v.l2;have z3:=v.l3;obtain⟨row,u,O,z',Z,hf,iW,em⟩:=vN (n:=n) (c:=c) de (ps:=ps) (w:=GH kvs l (rr++bs) ak b P) (T:=0) (A:=3) rfl rfl (by decide) v.dz v.rise ⋯ v.ai ⋯ aa;have ed:(l.map De.dv)[n]?=some de.dv:=by rw[Bh,ad];rfl
  have s4:=Rx (o:=Qb 4) (e:=Qu 6 JQ (Qa (Qb 2) (Qa (Qb 5) (Qa (Qb 1) (Qa (Qb 8) (Qa (Qf aq (Qb 3) (Qb 8)) (Qa (Qb 7) (Qj)))))))) (env:=E (.val (.int n))) (U:=GH kvs l (rr++bs) ak b P) (hp1:=GH u l (rr++bs) O b P) (a:=2) (nA:=rr++bs) (ds:=rr++bs) (d:=row) (Qe rfl) rfl (QU (K2 (Qe rfl) (Qe rfl) (Qe rfl) (Qe rfl) (Yd (i:=n) (n:=1) (ds:=l.map De.dv) (Qe rfl) rfl (Qe rfl) ed) (Qe rfl)) rfl em) rfl (by simp;lia)
  let X:=rr++bs++[row]
  obtain⟨ro,rm⟩:=hf.row;obtain⟨u_,iM,Tp,Wc⟩:=hf.ai v.rise v.ai;have R:Run l (X.filter aN) z0 [] [] z' O (if Z=true then cl++[(n:Int)]else cl):=by show Run l ((rr++bs++[row]).filter aN) _ _ _ _ _ _;rw[List.filter_append,Cd rm,List.filter_nil];exact R2.snoc ad hc hf
  have L:∀d∈X,aJ d:=λd hd=>(Ah.mp hd).elim (R3 d) λq=>by rw[Aq.mp q];exact ro
  have Q:X.length<=8 * (m+1):=by have:=I.l1;show(rr++bs++[row]).length<=_;simp only[Am,List.length_singleton];lia
  have t:=gd hf (f:=Qf aq (Qb 4) (JS (eC (.int 1)))) (env:=E (.val (.int n))) (U:=GH u l X O b P) (Qp (x:=.ref 2) (y:=.int (-1)) (Qe rfl) rfl (NK (ds:=rr++bs) rfl));have pre:∀{r:Option ((Fl×En)×Hs)},aP (cB (eB (Qf bU (Qf aq (Qf aq (Qb 4) (JS (eC (.int 1)))) (eC (.int 0))) (eC (.str "read")))) (eB (Qf isD (Qf aq (Qf aq (Qb 4) (JS (eC (.int 1)))) (eC (.int 6))) (eC .non)))) (Xa (ZI "list" qH (Qb 6) (Qa (Qb 8) (Qj)))) (Zf) (E (.val (.int n))) (GH u l X O b P)=r->JT (E J) (GH kvs dd rr ak F gs)=r:=λk =>
    (Qi e1).trans ((Qi s2).trans ((Qi (JB s3)).trans ((Qi (JB s4)).trans k)))
  have l2:=I.l2;have l3:=I.l3;have l4:=v.l4;have l5:=v.l5;cases Z with
  |true =>
    refine⟨u,l,X,O,b.erase n,z',cl++[(n:Int)],.val (.int n),P,⟨iM,iW,u_,R,L,v.nd.erase _,λx hx=>?_,Q,⋯,⋯,⋯,?_,λx hx=>?_,v.bd⟩,pre ((QY t).trans (JB (Lw (a:=4) (Qe rfl) rfl (Qe rfl) mn)))⟩
    . obtain⟨xn,xm⟩:=(v.nd.mem_erase_iff).mp hx
      obtain⟨k,e,hk,ah⟩:=v.wait x xm;exact⟨k,e,hk,λhq=>(Ah.mp hq).elim ah λq=>xn (Aq.mp q)⟩
    . exact A9 (List.length_erase_le) l5
    . rcases Ah.mp hx with q|q
      . exact v.cls x q
      . exact⟨n,Aq.mp q,hn⟩
  |false=>exact⟨u,l,X,O,b,z',cl,.val (.int n),P,⟨iM,iW,u_,R,L,v.nd,v.wait,Q,⋯,⋯,⋯,l5,v.cls,v.bd⟩,pre ((Qv t).trans rfl)⟩
theorem Rt{f:au}{env:En}{U:Hs}{n:Nat}{ds:List DV}(h:f env U=some (.ref n,U))(a:U[n]?=some (.lst ds)):dj f env U=some (eU n,U):=by unfold dj;rw[Qg h];show(Zi n >>= _) U=_;rw[Qg (Q6 a)];rfl
theorem ug{f:iw}{g:h_}{a:aG}{env:En}{U hp1:Hs}{n:Nat}{r:(Fl×En)×Hs}(h:f env U=some (eU n,hp1))(h':XG (eU n) (λd env=>do let env' <- g d env;a env') 100000 0 env hp1=some r):Ym f g a env U=some r:=by unfold Ym;rw[Qg h];exact h'
def De.key:De->Int
 |.find k=>k
 |.put k _=>k
 |.cut k=>k
 |.str a _=>a
def De.wd:De->Str
 |.find _ => "find"
 |.put _ _ => "put"
 |.cut _ => "cut"
 |.str _ _ => "stretch"
theorem De.shape(d:De):∃rest,d.dv=.tup (.str d.wd::.int d.key::rest):=by cases d<;>exact⟨_,rfl⟩
theorem De.dB(d:De):PyData.strOk d.wd=true:=by
 have ok:PyData.strOk "find" = true/\PyData.strOk "put" = true/\PyData.strOk "cut" = true/\PyData.strOk "stretch" = true:=by decide +kernel
 cases d
 ·exact ok.1
 ·exact ok.2.1
 ·exact ok.2.2.1
 ·exact ok.2.2.2
structure RD(z0:Zs)(kvs:List (Key×DV))(dd:List De)(rr:List DV)(z:Zs):Prop where
 rise:aF z
 dz:Dz kvs z
 zl:z.length<=400
 run:∃ak cl,Run dd (rr.filter aN) z0 [] [] z ak cl
 rows:∀d∈rr,aJ d
 rl:rr.length<=5000
 dl:dd.length<=400
 bd:∀d∈dd,d.ok
theorem Rk{z0:Zs}{kvs:List (Key×DV)}{dd:List De}{rr:List DV}{ak:List (Key×DV)}{l:List Int}{z:Zs}{cl:List Int}{m:Nat}(I:LI z0 kvs dd rr ak l z cl m)(hm:m<=300)(C P:DV)(x7 X L:Sl)(gs:Hs) :
    ∃c u j,RD z0 kvs dd c z/\qe [.val C,.val P,.val (.ref 0),.val (.ref 1),.val (.ref 2),.val (.ref 3),.val (.ref 4),x7,X,L] (GH kvs dd rr ak l gs)=some ((.nx,[.val C,.val P,.val (.ref 0),.val (.ref 1),.val (.ref 2),.val (.ref 3),.val (.ref 4),x7,u,j]),GH kvs dd c ak l gs):=by
  let E:Sl->Sl->En:=λX L=>[.val C,.val P,.val (.ref 0),.val (.ref 1),.val (.ref 2),.val (.ref 3),.val (.ref 4),x7,X,L]
  have l1:=I.l1;have l2:=I.l2;have l4:=I.l4;have l5:=I.l5;obtain⟨q,h,e,c,f,u,j,Q,O,rl,rfl,rfl⟩:WP (XG (eU 4) (λd env=>do let env' <- gN 8 d env;Jg env') 100000 0 (E X L)) (GH kvs dd rr ak l gs) λq h=>∃(c:List DV)(f:List Int)(u j:Sl),Run dd (c.filter aN) z0 [] [] z ak f/\(∀d∈c,aJ d)/\c.length<=8 * m+l.length/\q=(.nx,E u j)/\h=GH kvs dd c ak l gs:=by
    refine KY (l.map .int) (λi env h=>∃(c:List DV)(f:List Int)(u j:Sl),Run dd (c.filter aN) z0 [] [] z ak f/\(∀d∈c,aJ d)/\c.length<=8 * m+i/\(∀x∈l.drop i,x∉f)/\env=E u j/\h=GH kvs dd c ak l gs) (by rw[Bf];lia) (λi env h _ Y=>?_) ⟨rr,cl,X,L,I.run,I.rows,l1,λx hx=>?_,rfl,rfl⟩ (λi d hd env h Y=>?_) (λenv h Y=>?_)
    . obtain⟨_,_,_,_,_,_,_,_,_,rfl⟩:=Y
      exact Kv rfl i
    . obtain⟨_,_,_,hc⟩:=I.wait x (by simpa using hx)
      exact hc
    . obtain⟨c,f,u,j,Q,O,rl,nc,rfl,rfl⟩:=Y
      rw[Bh]at hd;obtain⟨x,hx,rfl⟩:=Bv.mp hd;obtain⟨hi,ex⟩:=Ac.mp hx;obtain⟨n,rfl,hn,_⟩:=I.wait x (At hx);have dr:l.drop i=(n:Int)::l.drop (i+1):=by rw[A8 hi,ex]
      have nd:=(Ce.mp (dr▸(List.Sublist.nodup (List.drop_sublist i l) I.nd))).1;have hc:(n:Int)∉f:=nc n (by rw[dr];exact Cp);obtain⟨F,R⟩:∃F,dd[n]?=some F:=⟨dd[n],Ab hn⟩;obtain⟨rest,ed⟩:=F.shape
      let W:=GH kvs dd c ak l gs
      have ix:∀L:Sl,Qf aq (Qb 3) (Qb 8) (E (.val (.int n)) L) W=some (.tup (.str F.wd::.int F.key::rest),W):=λL=>Yd (i:=n) (n:=1) (ds:=dd.map De.dv) (Qe rfl) rfl (Qe rfl) (by rw[Bh,R,<- ed];rfl);have s1:=jp (o:=Qb 5) (k:=Qb 8) (e:=Qf aq (Qf aq (Qb 3) (Qb 8)) (eC (.int 1))) (env:=E (.val (.int n)) j) (U:=W) (a:=3) (i:=n) (d:=.int F.key) rfl (Qe rfl) (Qe rfl) (QN (i:=1) (ix _) rfl rfl);rw[I.ai.bN n F.key]at s1
      let g:=bN ak n F.key
      have s2:=Qw (i:=9) s1;have J:(do let env' <- gN 8 (.int (n:Int)) (E u j);Jg env') W=Jg (E (.val (.int n)) j) W:=rfl;have t:∀b,(F.wd == "stretch")=b->eB (Qf aK (Qf aq (Qf aq (Qb 3) (Qb 8)) (eC (.int 0))) (eC (.str "stretch"))) (E (.val (.int n)) (.val (.int g))) W=some (b,W):=λb Z =>
        QJ (Qp (x:=.str F.wd) (y:=.str "stretch") (QN (i:=0) (ix _) rfl rfl) rfl (mC W F.dB (by decide +kernel) Z))
      have no:(F.wd == "stretch")=false->WP (do let env' <- gN 8 (.int (n:Int)) (E u j);Jg env') W λr h=>match r.1 with
          |.nx=>∃(c:List DV)(f:List Int)(u j:Sl),Run dd (c.filter aN) z0 [] [] z ak f/\(∀d∈c,aJ d)/\c.length<=8 * m+(i+1)/\(∀x∈l.drop (i+1),x∉f)/\r.2=E u j/\h=GH kvs dd c ak l gs
          |.ct=>∃(c:List DV)(f:List Int)(u j:Sl),Run dd (c.filter aN) z0 [] [] z ak f/\(∀d∈c,aJ d)/\c.length<=8 * m+(i+1)/\(∀x∈l.drop (i+1),x∉f)/\r.2=E u j/\h=GH kvs dd c ak l gs
          |.bk=>∃(c:List DV)(f:List Int)(u j:Sl),Run dd (c.filter aN) z0 [] [] z ak f/\(∀d∈c,aJ d)/\c.length<=8 * m+l.length/\(.nx,r.2)=(Fl.nx,E u j)/\h=GH kvs dd c ak l gs
          |.rt x=>∃(c:List DV)(f:List Int)(u j:Sl),Run dd (c.filter aN) z0 [] [] z ak f/\(∀d∈c,aJ d)/\c.length<=8 * m+l.length/\(.rt x,r.2)=(Fl.nx,E u j)/\h=GH kvs dd c ak l gs:=λZ =>
        ⟨_,_,J.trans ((Qi s2).trans ((Qv (t _ Z)).trans rfl)),c,f,.val (.int n),.val (.int g),Q,O,⋯,λx hx=>nc x (by rw[dr];exact Au _ hx),rfl,rfl⟩
      cases F with
      |find k=>exact no (show(("find" : Str) == "stretch")=false by decide +kernel)
      |put k v=>exact no (show(("put" : Str) == "stretch")=false by decide +kernel)
      |cut k=>exact no (show(("cut" : Str) == "stretch")=false by decide +kernel)
      |str a b =>
        cases ed
        let row:DV:=.tup [.str "read", .int 0,.int n,.int 0,.tup (aD (JR z g b)),.non,.non]
        have hf:aL n (.str a b) row z ak z ak true:=⟨0,0,rfl,.inl ⟨rfl,rfl,rfl⟩⟩;obtain⟨o7,rm⟩:=hf.row;have pa:=xw (T:=0) (b:=g) (e:=b) (w:=W) rfl I.dz I.rise ⋯;have ap:=Yu (o:=Qb 4) (e:=Q2 (Qa (eC (.str "read")) (Qa (eC (.int 0)) (Qa (Qb 8) (Qa (eC (.int 0)) (Qa (Qu 3 Ja (Qa (Qb 2) (Qa (Qb 9) (Qa (Qf aq (Qf aq (Qb 3) (Qb 8)) (eC (.int 2))) (Qj))))) (Qa (eC .non) (Qa (eC .non) (Qj))))))))) (env:=E (.val (.int n)) (.val (.int g))) (U:=W) (a:=2) (ds:=c) (d:=row) (Qe rfl) rfl (Ze (uG rfl rfl (Qe rfl) rfl (QU (Xo (Qe rfl) (Qe rfl) (QN (i:=2) (ix _) rfl rfl)) rfl pa) rfl rfl) (by simp)) ⋯;refine⟨_,_,J.trans ((Qi s2).trans ((QY (t true (show(("stretch" : Str) == "stretch")=true by decide +kernel))).trans (JB ap))),c++[row],f++[(n:Int)],.val (.int n),.val (.int g),?_,λd hd=>(Ah.mp hd).elim (O d) λq=>by rw[Aq.mp q];exact o7,by simp;lia,λx hx hq=>?_,rfl,rfl⟩
        . rw[List.filter_append,Cd rm,List.filter_nil]
          exact Q.snoc R hc hf
        . rcases Ah.mp hq with q|q
          . exact nc x (by rw[dr];exact Au _ hx) q
          . rw[Aq.mp q]at hx
            exact nd hx
    . obtain⟨c,f,u,j,Q,O,rl,_,rfl,rfl⟩:=Y
      rw[Bf]at rl;exact⟨c,f,u,j,Q,O,rl,rfl,rfl⟩
  exact⟨c,u,j,⟨I.rise,I.dz,⋯,⟨ak,f,Q⟩,O,⋯,⋯,I.bd⟩,ug (Rt (Qe rfl) rfl) e⟩
theorem Ri{kvs:List (Key×DV)}{z0:Zs}(U:aF z0)(dz:Dz kvs z0)(zl:z0.length<=10){ps:List Int}(T:2<=ps.length)(o:ps.length<=10)(r:∀x∈ps,x<=1000000000000000000000000000000){l:List Int}(hc:l.length<=250) :
  ∃a dd rr ak b gs z,RD z0 a dd rr z/\YU [.lst (l.map .int),.lst (ps.map .int),.ref 0,.ref 1] [.aB kvs,.lst []]=some (.ref 2,GH a dd rr ak b gs):=by
 let E:Sl->Sl->Sl->En:=λf j Z=>[.val (.lst (l.map .int)),.val (.lst (ps.map .int)),.val (.ref 0),.val (.ref 1),.val (.ref 2),.val (.ref 3),.val (.ref 4),f,j,Z]
 have y:LI z0 kvs [] [] [] [] z0 [] 0:=⟨U,dz,(λn v e=>by cases e),⟨rfl,rfl,rfl⟩,(λd hd=>nomatch hd),.nil,(λx hx=>nomatch hx),Ae _,zl,Ae _,Ae _,Ae _,(λx hx=>nomatch hx),(λx hx=>nomatch hx)⟩;obtain⟨q,h,e,a,dd,rr,ak,b,z,cl,f,j,gs,I,rfl,rfl⟩:WP (XG (cU (l.map .int)) (λd env=>do let env' <- gN 7 d env;JT env') 100000 0 (E .un .un .un)) (GH kvs [] [] [] [] []) λq h=>∃a dd rr ak b z cl f j gs,LI z0 a dd rr ak b z cl l.length/\q=(.nx,E f j .un)/\h=GH a dd rr ak b gs:=by
  refine Xn _ (λi env h=>∃a dd rr ak b z cl f j gs,LI z0 a dd rr ak b z cl i/\env=E f j .un/\h=GH a dd rr ak b gs) (by rw[Bf];lia) ⟨kvs,[],[],[],[],z0,[],.un,.un,[],y,rfl,rfl⟩ (λi d hd env h u=>?_) (λenv h u=>?_)
  ·obtain⟨a,dd,rr,ak,b,z,cl,f,j,gs,I,rfl,rfl⟩:=u;have hi:=Gk hd;rw[Bf]at hi;rw[Bh]at hd;obtain⟨c,_,rfl⟩:=Bv.mp hd;obtain⟨k2,P,X,F,Y,z2,J,x2,Q,C,m⟩:=Rw I ⋯ T o r (.lst (l.map .int)) c j .un gs;exact⟨_,_,m,k2,P,X,F,Y,z2,J,.val (.int c),x2,Q,C,rfl,rfl⟩
  ·obtain⟨a,dd,rr,ak,b,z,cl,f,j,gs,I,rfl,rfl⟩:=u;rw[Bf]at I;exact⟨a,dd,rr,ak,b,z,cl,f,j,gs,I,rfl,rfl⟩
 obtain⟨t,O,L,R,m⟩:=Rk I ⋯ (.lst (l.map .int)) (.lst (ps.map .int)) f j .un gs;refine⟨a,dd,t,ak,b,gs,z,R,QC (env:=E f O L) ((Qi (Qw (GK _ _))).trans ((Qi (Qw (jt _ _))).trans ((Qi (Qw (GK _ _))).trans ((Qi (Jq (JD (Qe rfl)) e)).trans ((Qi m).trans (Qz (Qe rfl)))))))⟩
def cD(cl:List Int):List (Key×DV):=cl.map λn=>((.inl n:Key),DV.bl true)
theorem K5{cl:List Int}{n:Int}(h:n∉cl):ZA (cD cl) (.inl n)=none:=by unfold ZA;rw[Option.map_eq_none_iff,List.find?_eq_none];intro x hx;obtain⟨m,a,rfl⟩:=Co.mp hx;simp only[decide_eq_true_eq];exact λq=>h (Sum.inl.inj q▸a)
theorem Vb{cl:List Int}{n:Int}(h:n∉cl):Z9 (cD cl) (.inl n) (.bl true)=cD (cl++[n]):=by unfold Z9;rw[xT,K5 h];simp[cD]
def JO(a:Nat)(aA:List DV):OV:=.ins "Judge" [("deeds", .lst aA),("worths", .ref (a+1)),("begins", .ref (a+2)),("closed", .ref (a+3))]
def JH(w:Hs)(aA:List DV)(jk ak:List (Key×DV))(cl:List Int)(gs:Hs):Hs:=w++(JO w.length aA::.aB jk::.aB ak::.aB (cD cl)::gs)
section
variable{w:Hs}{aA:List DV}{jk ak:List (Key×DV)}{cl:List Int}{gs:Hs}
theorem j0:(JH w aA jk ak cl gs)[w.length]?=some (JO w.length aA):=by simp[JH]
theorem j1:(JH w aA jk ak cl gs)[w.length+1]?=some (.aB jk):=by simp[JH]
theorem j2:(JH w aA jk ak cl gs)[w.length+2]?=some (.aB ak):=by simp[JH]
theorem j3:(JH w aA jk ak cl gs)[w.length+3]?=some (.aB (cD cl)):=by simp[JH]
theorem k1(x:List (Key×DV)):(JH w aA jk ak cl gs).set (w.length+1) (.aB x)=JH w aA x ak cl gs:=by simp[JH,List.set_append]
theorem k2(x:List (Key×DV)):(JH w aA jk ak cl gs).set (w.length+2) (.aB x)=JH w aA jk x cl gs:=by simp[JH,List.set_append]
theorem k3(x:List Int):(JH w aA jk ak cl gs).set (w.length+3) (.aB (cD x))=JH w aA jk ak x gs:=by simp[JH,List.set_append]
def jf{f:Str}{d:DV}{env:En}{o:au}(a:o env (JH w aA jk ak cl gs)=some (.ref w.length,JH w aA jk ak cl gs))(h:List.lookup f [(("deeds" : Str),DV.lst aA),("worths", .ref (w.length+1)),("begins", .ref (w.length+2)),("closed", .ref (w.length+3))]=some d):ZC "Judge" f o env (JH w aA jk ak cl gs)=some (d,JH w aA jk ak cl gs):=NQ a j0 h
def vI:DV->Int
 |.int i=>i
 |_=>0
theorem Dz.back{jk:List (Key×DV)}{z:Zs}(d:Dz jk z):∃z1:Zs,jk=zE z1/\z1.Perm z:=by
 refine⟨jk.map λp=>(kI p.1,vI p.2),?_,?_⟩
 ·unfold zE;rw[List.map_map]
  conv=>lhs;rw[<- List.map_id jk]
  refine List.map_congr_left λp U=>?_;obtain⟨q,_,rfl⟩:=Co.mp (d.mem_iff.mp U);rfl
 ·refine(d.map _).trans (List.Perm.of_eq ?_);unfold zE;rw[List.map_map]
  conv=>rhs;rw[<- List.map_id z]
  rfl
theorem xS{z:Zs}(d:Dz jk z)(a:aF z):Zk [.ref w.length] (JH w aA jk ak cl gs)=some (.ref (JH w aA jk ak cl gs).length,JH w aA jk ak cl (gs++[.lst (aD z)])):=by obtain⟨z1,e,b⟩:=d.back;have nd:(z1.map (·.1)).Nodup:=(b.map (λp:Int×Int=>p.1)).nodup_iff.mpr (show(zK z).Nodup from a.keys.imp λq=>Int.ne_of_lt q);have es:KN z1=z:=(zZ nd b.symm (a.imp λq=>By q)).symm;have:=RN (f:=ZC "Judge" "worths" (Qb 0)) (env:=[.val (.ref w.length)]) (U:=JH w aA jk ak cl gs) (z:=z1) (jf (Qe rfl) rfl) (by rw[j1,e];rfl) nd;rw[es]at this;refine QC (env:=[.val (.ref w.length)]) (Qz (this.trans ?_));congr 2;show(w++_)++[_]=w++_;rw[Ay];rfl
theorem Mz(o:Option Int)(U:Hs):bU (opt o) (opt o) U=some (.bl false,U):=xp (KC 0 o) (by decide) U
theorem Ny{z I:Zs}{u:List (Key×DV)}{n:Int}{c:De}{row:DV}{r:Bool}(hf:aL n c row z ak I u r)(ns:∀a b,c≠.str a b)(dz:Dz jk z)(t:aF z)(L:z.length<50000) :
    ∃C,Dz C I/\u=ak/\Z1 [.ref w.length,c.dv,opt (Jh z c.key)] (JH w aA jk ak cl gs)=some (.bl true,JH w aA C ak cl gs):=by
  let W:=JH w aA jk ak cl gs
  have ok:PyData.strOk "find" = true/\PyData.strOk "cut" = true/\PyData.strOk "put" = true:=by decide +kernel
  let E:DV->Int->Sl->En:=λdv k x=>[.val (.ref w.length),.val dv,.val (opt (Jh z k)),x]
  have h:∀(wd:Str)(k:Int)(rest:List DV),QG 3 (Qf aq (Qb 1) (eC (.int 1))) (E (.tup (.str wd::.int k::rest)) k .un) W=some ((.nx,E (.tup (.str wd::.int k::rest)) k (.val (.int k))),W):=λwd k rest=>Qw (QN (i:=1) (Qe rfl) rfl rfl);have l:∀(dv:DV) (k:Int),eB (Qf bU (Qb 2) (ZI "dict" J0 (ZC "Judge" "worths" (Qb 0)) (Qa (Qb 3) (Qj)))) (E dv k (.val (.int k))) W=some (false,W):=λdv k=>by have g:=Vt (o:=ZC "Judge" "worths" (Qb 0)) (k:=Qb 3) (env:=E dv k (.val (.int k))) (U:=W) (a:=w.length+1) (i:=k) j1 (jf (Qe rfl) rfl) (Qe rfl);rw[dz.getD t k]at g;exact QJ (Qp (x:=opt (Jh z k)) (y:=opt (Jh z k)) (Qe rfl) g (Mz _ _))
  cases c with
  |str a b=>exact absurd rfl (ns a b)
  |find k=>obtain⟨_,_,_,rfl,rfl,_⟩:=hf;exact⟨jk,dz,rfl,QC (env:=E (De.find k).dv k (.val (.int k))) ((Qi (h _ _ _)).trans ((Qi ((Qv (l _ _)).trans rfl)).trans ((Qi ((Qv (JP rfl ok.1 ok.2.2 (by decide +kernel))).trans rfl)).trans ((Qi ((Qv (jT (JP rfl ok.1 ok.2.1 (by decide +kernel)))).trans rfl)).trans (Qz rfl)))))⟩
  |put k v =>obtain⟨_,_,_,_,rfl,rfl,_⟩:=hf;have F:=Jy (e:=Qf aq (Qb 1) (eC (.int 2))) (o:=ZC "Judge" "worths" (Qb 0)) (j:=Qb 3) (env:=E (De.put k v).dv k (.val (.int k))) (U:=W) (a:=w.length+1) (n:=k) (d:=.int v) (QN (i:=2) (ds:=[.str "put", .int k,.int v]) (Qe rfl) rfl rfl) (jf (Qe rfl) rfl) (Qe rfl) j1 (by rw[dz.len];lia);rw[k1]at F;exact⟨_,dz.put t k v,rfl,QC (env:=E (De.put k v).dv k (.val (.int k))) ((Qi (h _ _ _)).trans ((Qi ((Qv (l _ _)).trans rfl)).trans ((Qi ((QY (JP rfl ok.2.2 ok.2.2 (by decide +kernel))).trans F)).trans ((Qi ((Qv (jT (JP rfl ok.2.2 ok.2.1 (by decide +kernel)))).trans rfl)).trans (Qz rfl)))))⟩
  |cut k =>
    obtain⟨_,_,_,rfl,rfl,_⟩:=hf;have m:JG (eB (Qf aK (Qf aq (Qb 1) (eC (.int 0))) (eC (.str "cut")))) (eB (Qf gL (Qb 2) (eC .non))) (E (De.cut k).dv k (.val (.int k))) W=some ((Jh z k).isSome,W) :=
      (Vl (JP rfl ok.2.1 ok.2.1 (by decide +kernel))).trans (QJ (Qp (x:=opt (Jh z k)) (y:=.non) (Qe rfl) rfl (Zq (Kx _) W)))
    have g:=dz.get t k;cases q:Jh z k with
    |none =>
      rw[q]at g m;have J:=yw g;refine⟨jk,?_,rfl,QC (env:=E (De.cut k).dv k (.val (.int k))) ((Qi (h _ _ _)).trans ((Qi ((Qv (l _ _)).trans rfl)).trans ((Qi ((Qv (JP rfl ok.2.1 ok.2.2 (by decide +kernel))).trans rfl)).trans ((Qi ((Qv m).trans rfl)).trans (Qz rfl)))))⟩;have:=dz.drop k
      rwa [J]at this
    |some v =>rw[q]at g m;have po:=Ma (f:=ZC "Judge" "worths" (Qb 0)) (g:=Qb 3) (env:=E (De.cut k).dv k (.val (.int k))) (U:=W) (n:=w.length+1) (k:=k) j1 (jf (Qe rfl) rfl) (Qe rfl) g;rw[k1]at po;exact⟨_,dz.drop k,rfl,QC (env:=E (De.cut k).dv k (.val (.int k))) ((Qi (h _ _ _)).trans ((Qi ((Qv (l _ _)).trans rfl)).trans ((Qi ((Qv (JP rfl ok.2.1 ok.2.2 (by decide +kernel))).trans rfl)).trans ((Qi ((QY m).trans (JB po))).trans (Qz rfl)))))⟩
end
theorem U6{f:au}{env:En}{U hp1:Hs}{n:Nat}{ds:List DV}(h:f env U=some (.ref n,hp1))(a:hp1[n]?=some (.lst ds)):dj f env U=some (eU n,hp1):=by unfold dj;rw[Qg h];show(Zi n >>= _) hp1=_;rw[Qg (Q6 a)];rfl
theorem js{f g h:au}{env:En}{U:Hs}{i j k:Int}(a:f env U=some (.int i,U))(b:g env U=some (.int j,U))(c:h env U=some (.int k,U)):ZV d9 cj f g h env U=some (.bl (decide (i<=j)&&decide (j<k)),U):=by
 unfold ZV;rw[Qg a,Qg b,Qg (show d9 (.int i) (.int j) U=some (.bl (decide (i<=j)),U)from rfl)];cases decide (i<=j)
 ·rfl
 ·exact(Qg (show g_ (.bl true) U=some (true,U)from rfl)).trans ((Qg c).trans rfl)
theorem VG{f g h:au}{env:En}{U:Hs}{i j k:Int}(a:f env U=some (.int i,U))(b:g env U=some (.int j,U))(c:h env U=some (.int k,U)):ZV cj cj f g h env U=some (.bl (decide (i<j)&&decide (j<k)),U):=by
 unfold ZV;rw[Qg a,Qg b,Qg (show cj (.int i) (.int j) U=some (.bl (decide (i<j)),U)from rfl)];cases decide (i<j)
 ·rfl
 ·exact(Qg (show g_ (.bl true) U=some (true,U)from rfl)).trans ((Qg c).trans rfl)
section
variable{w:Hs}{aA:List DV}{jk ak:List (Key×DV)}{cl:List Int}{gs:Hs}{z:Zs}
theorem jq(x:OV):(JH w aA jk ak cl (gs++[x]))[(JH w aA jk ak cl gs).length]?=some x:=by
 have e:JH w aA jk ak cl (gs++[x])=JH w aA jk ak cl gs++[x]:=by show w++_=(w++_)++[x];rw[Ay];rfl
 rw[e];exact Gj _ _
theorem G4{g e:Int}(dz:Dz jk z)(j:aF z)(l:z.length<50000){x1 x2 x4:Sl}:Qf aK (QR JZ (Qa (Qb 3) (Qj))) (Q0) [.val (.ref w.length),x1,x2,.val (.tup (aD (JR z g e))),x4,.val (.int g),.val (.int e)] (JH w aA jk ak cl gs)=some (.bl true,JH w aA jk ak cl (gs++[.lst (aD z)])):=by
 let E:En:=[.val (.ref w.length),x1,x2,.val (.tup (aD (JR z g e))),x4,.val (.int g),.val (.int e)]
 let W:=JH w aA jk ak cl gs
 let a:=JH w aA jk ak cl (gs++[.lst (aD z)])
 have b:dj (XW "Judge" "plain_table" 1 Zk (Qb 0) Qj) E W=some (eU W.length,a):=U6 (Jx (Qe rfl) j0 rfl uF rfl (xS dz j)) (jq _);have c:=jL (nxt:=eU W.length) (t:=λd=>eB (ZV d9 cj (Qb 1) (Qf aq (Qb 0) (eC (.int 0))) (Qb 2)) (cE [5,6] E d)) (f:=λd=>Qb 0 (cE [5,6] E d)) (p:=pZ g e) (U:=a) (aD z) (λi _=>Kv (jq _) i) (λd hd=>by obtain⟨q,_,rfl⟩:=Co.mp hd;exact QJ (js (Qe rfl) (QN (i:=0) (ds:=[.int q.1,.int q.2]) (Qe rfl) rfl rfl) (Qe rfl))) (λd _=>rfl) (by unfold aD;rw[Bf];lia)
 rw[xB]at c;have h:Q0 E W=some (.lst (aD (JR z g e)),a):=by unfold Q0 ZB;rw[Qg b];exact(Qg c).trans rfl
 exact Qp (x:=.lst (aD (JR z g e))) (y:=.lst (aD (JR z g e))) (hp1:=W) (Jd (Zd (Qe rfl)) rfl) h (ge (KB (XQ _)) (by decide) _)
theorem M6{n:Nat}{a b:Int}{row:DV}{l:Zs}{I:List (Key×DV)}{q:Bool}(hf:aL n (.str a b) row z ak l I q)(R:(n:Int)∉cl)(T:cl.length<50000)(dz:Dz jk z)(O:aF z)(L:z.length<50000)(ai:AI ak)(al:ak.length<50000) :
  ∃h p:Int,∃ps x c:DV,l=z/\row=.tup [.str "read", .int h,.int n,.int p,ps,x,c]/\ZE [.ref w.length,.int n,(De.str a b).dv,ps,c] (JH w aA jk ak cl gs)=some (.bl true,JH w aA jk I (if q=true then cl++[(n:Int)]else cl) (gs++[.lst (aD z)])):=by
 let W:=JH w aA jk ak cl gs
 let g:=bN ak n a
 let E:DV->DV->Sl->Sl->En:=λps c Z x6=>[.val (.ref w.length),.val (.int n),.val (De.str a b).dv,.val ps,.val c,Z,x6]
 have P:∀ps c,QG 5 (ZI "dict" J0 (ZC "Judge" "begins" (Qb 0)) (Qa (Qb 1) (Qa (Qf aq (Qb 2) (eC (.int 1))) (Qj)))) (E ps c .un .un) W=some ((.nx,E ps c (.val (.int g)) .un),W):=λps c=>by have:=jp (o:=ZC "Judge" "begins" (Qb 0)) (k:=Qb 1) (e:=Qf aq (Qb 2) (eC (.int 1))) (env:=E ps c .un .un) (U:=W) (a:=w.length+2) (i:=n) (d:=.int a) j2 (jf (Qe rfl) rfl) (Qe rfl) (QN (i:=1) (ds:=[.str "stretch", .int a,.int b]) (Qe rfl) rfl rfl);rw[ai.bN n a]at this;exact Qw this
 have Q:∀ps c,QG 6 (Qf aq (Qb 2) (eC (.int 2))) (E ps c (.val (.int g)) .un) W=some ((.nx,E ps c (.val (.int g)) (.val (.int b))),W):=λps c=>Qw (QN (i:=2) (ds:=[.str "stretch", .int a,.int b]) (Qe rfl) rfl rfl);obtain⟨h,p,J,⟨v,C,F⟩|⟨m,x,X,Y,v,C,F⟩⟩:=hf
 ·subst J C F;refine⟨h,p,_,_,_,rfl,v,?_⟩;have r:=Jy (e:=eC (.bl true)) (o:=ZC "Judge" "closed" (Qb 0)) (j:=Qb 1) (env:=E (.tup (aD (JR l g b))) .non (.val (.int g)) (.val (.int b))) (U:=W) (a:=w.length+3) (n:=n) (d:=.bl true) rfl (jf (Qe rfl) rfl) (Qe rfl) j3 (by unfold cD;rw[Bf];lia);rw[Vb R,k3]at r;exact QC (env:=E (.tup (aD (JR l g b))) .non (.val (.int g)) (.val (.int b))) ((Qi (P _ _)).trans ((Qi (Q _ _)).trans ((Qi ((QY (QJ (Qp (x:=.non) (y:=.non) (Qe rfl) rfl rfl))).trans r)).trans (Qz (G4 dz O L)))))
 ·subst J C F;refine⟨h,p,_,_,_,rfl,v,?_⟩
  let u:=E (.tup (aD (JR l g m))) (.int m) (.val (.int g)) (.val (.int b))
  have r:=Jy (e:=Qb 4) (o:=ZC "Judge" "begins" (Qb 0)) (j:=Qb 1) (env:=u) (U:=W) (a:=w.length+2) (n:=n) (d:=.int m) (Qe rfl) (jf (Qe rfl) rfl) (Qe rfl) j2 ⋯;rw[k2]at r;have t:XE (eB (ZV cj cj (Qb 5) (Qb 4) (Qb 6))) u W=some (false,W):=by have:=Jf (QJ (VG (f:=Qb 5) (g:=Qb 4) (h:=Qb 6) (env:=u) (U:=W) (i:=g) (j:=m) (k:=b) (Qe rfl) (Qe rfl) (Qe rfl)));rw[Cy X,Cy Y]at this;exact this
  exact QC (env:=E (.tup (aD (JR l g m))) (.int m) (.val (.int g)) (.val (.int m))) ((Qi (P _ _)).trans ((Qi (Q _ _)).trans ((Qi ((Qv (QJ (Qp (x:=.int m) (y:=.non) (Qe rfl) rfl rfl))).trans ((Qi ((Qv t).trans rfl)).trans ((Qi r).trans (Qw (Qe rfl)))))).trans (Qz (G4 dz O L)))))
end
def wT:List (Str×Str):=[("find", "found"),("put", "put"),("cut", "cut"),("stretch", "read")]
def De.mw:De->Str
 |.find _ => "found"
 |.put _ _ => "put"
 |.cut _ => "cut"
 |.str _ _ => "read"
theorem K_(d:De):wT.lookup d.wd=some d.mw:=by
 have q:wT.lookup ("find" : Str)=some "found" /\ wT.lookup ("put" : Str)=some "put" /\ wT.lookup ("cut" : Str)=some "cut" /\ wT.lookup ("stretch" : Str)=some "read" := by decide +kernel
 cases d
 ·exact q.1
 ·exact q.2.1
 ·exact q.2.2.1
 ·exact q.2.2.2
theorem Gb{f:au}{env:En}{U:Hs}{d:De}(h:f env U=some (.str d.wd,U)):vt wT f env U=some (.str d.mw,U):=by unfold vt;rw[Qg h];show(match wT.lookup d.wd with|some y=>pure (DV.str y)|none=>failure:M DV) U=_;rw[K_ d];rfl
theorem De.bQ(d:De):PyData.strOk d.mw=true:=by
 have ok:PyData.strOk "found" = true/\PyData.strOk "put" = true/\PyData.strOk "cut" = true/\PyData.strOk "read" = true:=by decide +kernel
 cases d
 ·exact ok.1
 ·exact ok.2.1
 ·exact ok.2.2.1
 ·exact ok.2.2.2
theorem VI{x:Str}:(x != x)=false:=by simp
theorem gF{U:Hs}{a:Nat}{cl:List Int}{n:Int}(h:U[a]?=some (.aB (cD cl)))(b:n∉cl):eF (.int n) (.ref a) U=some (.bl false,U):=by
 unfold eF;have:oK (.int n) (.ref a) U=some (false,U):=by show(Zi a >>= _) U=_;rw[Qg (Q6 h)];show some ((ZA (cD cl) (.inl n)).isSome,U)=_;rw[K5 b];rfl
 rw[Qg this];rfl
section
variable{w:Hs}{aA:List DV}{jk ak:List (Key×DV)}{cl:List Int}{gs:Hs}{z:Zs}
theorem aL.word{n:Int}{c:De}{row:DV}{i:Zs}{f:List (Key×DV)}{d:Bool}(h:aL n c row z ak i f d):∃(h p v:DV)(rest:List DV),row=.tup (.str c.mw::h::.int n::p::v::rest)/\((∀a b,c≠.str a b)->v=opt (Jh z c.key)/\d=true):=by
  cases c with
  |find k=>obtain⟨h,p,rfl,_,_,e⟩:=h;exact⟨_,_,_,_,rfl,λ_=>⟨rfl,e⟩⟩
  |cut k=>obtain⟨h,p,rfl,_,_,e⟩:=h;exact⟨_,_,_,_,rfl,λ_=>⟨rfl,e⟩⟩
  |put k v=>obtain⟨h,p,x,rfl,_,_,e⟩:=h;exact⟨_,_,_,_,rfl,λ_=>⟨rfl,e⟩⟩
  |str a b =>
    obtain⟨h,p,_,⟨rfl,_⟩|⟨m,x,_,_,rfl,_⟩⟩:=h
    . exact⟨_,_,_,_,rfl,λq=>absurd rfl (q a b)⟩
    . exact⟨_,_,_,_,rfl,λq=>absurd rfl (q a b)⟩
theorem Ge{n:Nat}{l:De}{row:DV}{O:Zs}{C:List (Key×DV)}{r:Bool}(hf:aL n l row z ak O C r)(hd:aA[n]?=some l.dv)(J:(n:Int)∉cl)(L:cl.length<50000)(dz:Dz jk z)(Q:aF z)(P:z.length<50000)(ai:AI ak)(al:ak.length<50000) :
    ∃q t,Dz q O/\Zr [.ref w.length,row] (JH w aA jk ak cl gs)=some (.bl true,JH w aA q C (if r=true then cl++[(n:Int)]else cl) t):=by
  let W:=JH w aA jk ak cl gs
  obtain⟨h,p,v,rest,F,hv⟩:=hf.word;obtain⟨dr,ed⟩:=l.shape
  let E:Sl->Sl->En:=λx2 x3=>[.val (.ref w.length),.val row,x2,x3]
  let m:=E (.val (.int n)) (.val l.dv)
  have s1:QG 2 (Qf aq (Qb 1) (eC (.int 2))) (E .un .un) W=some ((.nx,E (.val (.int n)) .un),W):=Qw (QN (i:=2) (ds:=.str l.mw::h::.int n::p::v::rest) (Qe (by rw[<- F];rfl)) rfl rfl);have t1:cB (XE (eB (ZV d9 cj (eC (.int 0)) (Qb 2) (QR Zo (Qa (ZC "Judge" "deeds" (Qb 0)) (Qj)))))) (eB (Qf eF (Qb 2) (ZC "Judge" "closed" (Qb 0)))) (E (.val (.int n)) .un) W=some (false,W):=by have c:=js (f:=eC (.int 0)) (g:=Qb 2) (h:=QR Zo (Qa (ZC "Judge" "deeds" (Qb 0)) (Qj))) (env:=E (.val (.int n)) .un) (U:=W) (i:=0) (j:=n) (k:=aA.length) rfl (Qe rfl) (Xl (jf (Qe rfl) rfl));have hn:=Gk hd;rw[Cy (show(0:Int)<=n by lia),Cy (show(n:Int)<aA.length by lia)]at c;exact(qx (Jf (QJ c))).trans (QJ (Qp (x:=.int n) (y:=.ref (w.length+3)) (Qe rfl) (jf (Qe rfl) rfl) (gF j3 J)))
  have s2:QG 3 (Qf aq (ZC "Judge" "deeds" (Qb 0)) (Qb 2)) (E (.val (.int n)) .un) W=some ((.nx,m),W):=Qw (Zp (i:=n) (jf (Qe rfl) rfl) (Qe rfl) hd);have Z:Qf aq (Qb 1) (eC (.int 0)) m W=some (.str l.mw,W):=QN (i:=0) (ds:=.str l.mw::h::.int n::p::v::rest) (Qe (by rw[<- F];rfl)) rfl rfl;have d0:Qf aq (Qb 3) (eC (.int 0)) m W=some (.str l.wd,W):=QN (i:=0) (ds:=.str l.wd::.int l.key::dr) (Qe (by rw[<- ed];rfl)) rfl rfl;have t2:eB (Qf bU (Qf aq (Qb 1) (eC (.int 0))) (vt [("find", "found"),("put", "put"),("cut", "cut"),("stretch", "read")] (Qf aq (Qb 3) (eC (.int 0))))) m W=some (false,W):=QJ (Qp (x:=.str l.mw) (y:=.str l.mw) Z (Gb d0) (lZ W l.bQ l.bQ VI));have t3:∀b,(l.mw == "read")=b->eB (Qf aK (Qf aq (Qb 1) (eC (.int 0))) (eC (.str "read"))) m W=some (b,W):=λb I=>QJ (Qp (x:=.str l.mw) (y:=.str "read") Z rfl (mC W l.bQ (by decide +kernel) I));have key:(∀a b,l≠.str a b)->(l.mw == "read")=false->∃q t,Dz q O/\Zr [.ref w.length,row] W=some (.bl true,JH w aA q C (if r=true then cl++[(n:Int)]else cl) t):=λR I=>by obtain⟨ev,ef⟩:=hv R;have Y:=Jy (e:=eC (.bl true)) (o:=ZC "Judge" "closed" (Qb 0)) (j:=Qb 2) (env:=m) (U:=W) (a:=w.length+3) (n:=n) (d:=.bl true) rfl (jf (Qe rfl) rfl) (Qe rfl) j3 (by unfold cD;rw[Bf];lia);rw[Vb J,k3]at Y;obtain⟨q,iW,ea,ek⟩:=Ny (w:=w) (aA:=aA) (cl:=cl++[(n:Int)]) (gs:=gs) hf R dz Q P;subst ea ef;refine⟨q,gs,iW,?_⟩;rw[Ct rfl];exact QC (env:=m) ((Qi s1).trans ((Qi ((Qv t1).trans rfl)).trans ((Qi s2).trans ((Qi ((Qv t2).trans rfl)).trans ((Qi ((Qv (t3 _ I)).trans rfl)).trans ((Qi Y).trans (Qz (Jx (Qe rfl) j0 rfl (Za (Qe rfl) (QN (i:=4) (ds:=.str l.mw::h::.int n::p::v::rest) (Qe (by rw[<- F];rfl)) rfl rfl)) rfl (by rw[ev];exact ek)))))))))
  cases l with
  |find k=>exact key (by simp) (show(("found" : Str) == "read")=false by decide +kernel)
  |put k v=>exact key (by simp) (show(("put" : Str) == "read")=false by decide +kernel)
  |cut k=>exact key (by simp) (show(("cut" : Str) == "read")=false by decide +kernel)
  |str a b =>obtain⟨h',X,ps,x,u,rfl,T,es⟩:=M6 (w:=w) (aA:=aA) (gs:=gs) hf J L dz Q P ai al;refine⟨jk,_,dz,QC (env:=m) ((Qi s1).trans ((Qi ((Qv t1).trans rfl)).trans ((Qi s2).trans ((Qi ((Qv t2).trans rfl)).trans (QT ((QY (t3 true (show(("read" : Str) == "read")=true by decide +kernel))).trans (Qz (Jx (Qe rfl) j0 rfl (K0 (Qe rfl) (Qe rfl) (QN (i:=4) (ds:=[.str "read", .int h',.int n,.int X,ps,x,u]) (Qe (by rw[<- T];rfl)) rfl rfl) (QN (i:=6) (ds:=[.str "read", .int h',.int n,.int X,ps,x,u]) (Qe (by rw[<- T];rfl)) rfl rfl)) rfl es))))))))⟩
end
theorem yG:∀(z:Zs)(acc:List (Key×DV)),((acc++zE z).map (·.1)).Nodup->Y4 acc (zE z)=acc++zE z
  | [],acc,_=>by simp[Y4,zE]
  |p::z,acc,h=>by
    have a:Z9 acc (.inl p.1) (.int p.2)=acc++[(.inl p.1,.int p.2)]:=by unfold Z9;rw[Cs];intro q;obtain⟨x,hx,ex⟩:=List.any_eq_true.mp q;rw[List.map_append]at h;exact(List.nodup_append.mp h).2.2 x.1 (List.mem_map_of_mem hx) (.inl p.1) (by simp[zE]) (by simpa using ex)
    show Y4 (Z9 acc (.inl p.1) (.int p.2)) (zE z)=_;rw[a,yG z _ (by simpa [zE,Ay]using h)];simp[zE]
theorem GO:∀z:Zs,iQ (aD z)=some (zE z)
  | []=>rfl
  |p::z=>by
    show(match ya (.int p.1),iQ (aD z)with
      |some k,some ps=>some ((k,DV.int p.2)::ps)
      |_,_=>none)=_
    rw[GO z];rfl
def Rz{z:Zs}(a:aF z):((zE z).map (·.1)).Nodup:=Dz.nodup (List.Perm.refl _) a
theorem N7{z:Zs}(a:aF z){f:au}{env:En}{U:Hs}(h:f env U=some (.lst (aD z),U)):QR oJ (Qa f Qj) env U=some (.ref U.length,U++[.aB (zE z)]):=by refine Jd (Zd h) ?_;show(nO (.lst (aD z)) >>= λds=>nJ (iQ ds) >>= λps=>Xg (.aB (Y4 [] ps))) U=_;rw[Qg (show nO (.lst (aD z)) U=some (aD z,U)from rfl),GO];rw[Qg (show nJ (some (zE z)) U=some (zE z,U)from rfl),yG z [] (by simpa using Rz a)];rfl
theorem Gi(w:Hs)(x:OV)(l:Hs):(w++x::l)[w.length]?=some x:=by simp
theorem GY(w:Hs)(x y:OV)(l:Hs):(w++x::l).set w.length y=w++y::l:=by simp
theorem R4{z:Zs}(h:aF z)(aA:List DV)(w:Hs):Z0 [.ref w.length,.lst aA,.lst (aD z)] (w++[.ins "Judge" []])=some (.non,JH w aA (zE z) [] [] []):=by
 let E:En:=[.val (.ref w.length),.val (.lst aA),.val (.lst (aD z))]
 let a:List (Str×DV):=[("deeds", .lst aA)]
 let b:List (Str×DV):=[("deeds", .lst aA),("worths", .ref (w.length+1))]
 let c:List (Str×DV):=[("deeds", .lst aA),("worths", .ref (w.length+1)),("begins", .ref (w.length+2))]
 have l1:(w++[OV.ins "Judge" a]).length=w.length+1:=by simp
 have l2:(w++[OV.ins "Judge" b,.aB (zE z)]).length=w.length+2:=by simp
 have l3:(w++[OV.ins "Judge" c,.aB (zE z),.aB []]).length=w.length+3:=by simp
 have i:Yl "Judge" "deeds" (Qb 0) (Qb 1) E (w++[.ins "Judge" []])=some ((.nx,E),w++[.ins "Judge" a]):=by have:=jo (f := "deeds") (e:=Qb 1) (o:=Qb 0) (env:=E) (U:=w++[.ins "Judge" []]) (Qe rfl) (Qe rfl) (Gi w (.ins "Judge" []) []) (by simp);rw[GY]at this;exact this
 have j:Yl "Judge" "worths" (Qb 0) (QR oJ (Qa (Qb 2) (Qj))) E (w++[.ins "Judge" a])=some ((.nx,E),w++[.ins "Judge" b,.aB (zE z)]):=by have d:=N7 h (f:=Qb 2) (env:=E) (U:=w++[.ins "Judge" a]) (Qe rfl);rw[l1,Ay]at d;simp only[List.cons_append,List.nil_append]at d;have:=jo (f := "worths") (o:=Qb 0) d (Qe rfl) (Gi w (.ins "Judge" a) [.aB (zE z)]) (by simp[a]);rw[GY]at this;exact this
 have l:Yl "Judge" "begins" (Qb 0) X9 E (w++[.ins "Judge" b,.aB (zE z)])=some ((.nx,E),w++[.ins "Judge" c,.aB (zE z),.aB []]):=by have d:=jt (w++[.ins "Judge" b,.aB (zE z)]) E;rw[l2,Ay]at d;simp only[List.cons_append,List.nil_append]at d;have:=jo (f := "begins") (o:=Qb 0) d (Qe rfl) (Gi w (.ins "Judge" b) [.aB (zE z),.aB []]) (by simp[b]);rw[GY]at this;exact this
 have m:Yl "Judge" "closed" (Qb 0) X9 E (w++[.ins "Judge" c,.aB (zE z),.aB []])=some ((.nx,E),JH w aA (zE z) [] [] []):=by have d:=jt (w++[.ins "Judge" c,.aB (zE z),.aB []]) E;rw[l3,Ay]at d;simp only[List.cons_append,List.nil_append]at d;have:=jo (f := "closed") (o:=Qb 0) d (Qe rfl) (Gi w (.ins "Judge" c) [.aB (zE z),.aB [],.aB []]) (by simp[c]);rw[GY]at this;exact this
 exact Rh (env:=E) ((Qi i).trans ((Qi j).trans ((Qi l).trans m)))
theorem GE{z:Zs}(a:aF z)(aA:List DV)(w:Hs){fa:bR}{env:En}(h:fa env w=some ([.lst aA,.lst (aD z)],w)):Ga "Judge" 3 Z0 fa env w=some (.ref w.length,JH w aA (zE z) [] [] []):=by unfold Ga;rw[Qg h];refine(Qg (show QM (decide (2+1=3)) w=some ((),w)from rfl)).trans ?_;refine(Qg (show Xg (.ins "Judge" []) w=some (.ref w.length,w++[.ins "Judge" []])from rfl)).trans ?_;rw[Qg (R4 a aA w)];rfl
theorem Pz{d:DV}(h:aJ d){f g:au}{env:En}{w:Hs}(hf:f env w=some (d,w))(a:g env w=some (.tup jY,w)):eB (Qf eF (Qf aq f (eC (.int 0))) g) env w=some (aN d,w):=by obtain⟨x,rest,rfl,c,b⟩:=h;exact QJ (Qp (Qp hf rfl (CV (i:=0) rfl w)) a (gG rfl (by decide) w))
theorem kn{R:List DV}(b:∀d∈R,aJ d)(c:R.length<100000)(w:Hs):q8 [.lst R] w=some (.lst (R.filter aN),w):=by refine QC (env:=[.val (.lst R)]) (Qz ?_);have a:=Yv (U:=w) (t:=λd=>eB (Qf eF (Qf aq (Qb 0) (eC (.int 0))) (eC (.tup [.str "found", .str "put", .str "cut", .str "read"]))) (cE [] [.val (.lst R)] d)) (f:=λd=>Qb 0 (cE [] [.val (.lst R)] d)) (p:=aN) R (λd hd=>Pz (b d hd) rfl rfl) (λd _=>rfl) c;unfold zM ZB;show((dj (Qb 0) [.val (.lst R)]) >>= _) w=_;rw[Qg (JD (f:=Qb 0) (env:=[.val (.lst R)]) (ds:=R) (U:=w) (hp1:=w) rfl)];exact(Qg a).trans rfl
theorem vF{z0 z:Zs}{dd:List De}{rr:List DV}{ak:List (Key×DV)}{cl:List Int}(R:aF z0)(zl:z0.length<=400)(ru:Run dd (rr.filter aN) z0 [] [] z ak cl)(ro:∀d∈rr,aJ d)(rl:rr.length<=5000)(w:Hs) :
  aF z/\∃l a,Z6 [.lst rr,.lst (dd.map De.dv),.lst (aD z0)] w=some (.tup [.str "fits", .ref (w.length+a)],w++l)/\l[a]?=some (.lst (aD z)):=by
 let aA:=dd.map De.dv
 let u:=rr.filter aN
 have Dy:u.length<=5000:=A9 (Br _ _) rl
 let E:Sl->Sl->Sl->En:=λx3 x4 j=>[.val (.lst rr),.val (.lst aA),.val (.lst (aD z0)),x3,x4,j]
 let r:Sl->En:=λj=>E (.val (.ref w.length)) (.val (.lst u)) j
 obtain⟨q,h,e,jk,gs,c,b,j,f,y,rfl,rfl⟩:WP (XG (cU (Zy 0 u.length)) (λd env=>do let env' <- gN 5 d env;ZO env') 100000 0 (r .un)) (JH w aA (zE z0) [] [] []) λq h=>∃jk gs c b j,aF z/\Dz jk z/\q=(.nx,r j)/\h=JH w aA jk c b gs:=by
  refine Xn _ (λi env h=>∃jk gs z1 c b j,aF z1/\Dz jk z1/\AI c/\z1.length<=400+i/\c.length<=i/\b.length<=i/\Run dd (u.drop i) z1 c b z ak cl/\env=r j/\h=JH w aA jk c b gs) (by rw[ZR];lia) ⟨zE z0,[],z0,[],[],.un,R,List.Perm.refl _,(λn v e=>by cases e),zl,Ae _,Ae _,ru,rfl,rfl⟩ (λi d hd env h Q=>?_) (λenv h Q=>?_)
  ·obtain⟨jk,gs,z1,c,b,j,f,y,P,U,X,Y,C,rfl,rfl⟩:=Q;obtain⟨hi,rfl⟩:=YI hd;rw[A8 hi]at C;obtain⟨n,de,z2,Z,aa,J,hc,hf,k_⟩:=C;obtain⟨eY,I,iW,ef⟩:=Ge (w:=w) (aA:=aA) (gs:=gs) hf (by show(dd.map De.dv)[n]?=_;rw[Bh,J];rfl) hc ⋯ y f ⋯ P ⋯;obtain⟨pY,O,c1,c2⟩:=hf.ai f P;have x:(do let env' <- gN 5 (.int (i:Int)) (r j);ZO env') (JH w aA jk c b gs)=ZO (r (.val (.int i))) (JH w aA jk c b gs):=rfl;have t:=Jf (QJ (Jx (o:=Qb 3) (m := "fits") (n:=2) (F:=Zr) (fa:=Qa (Qf aq (Qb 4) (Qb 5)) Qj) (env:=r (.val (.int i))) (Qe rfl) (j0 (jk:=jk) (ak:=c) (cl:=b) (gs:=gs)) rfl (Zd (Zp (i:=i) (ds:=u) (Qe rfl) (Qe rfl) (Ab hi))) rfl ef));refine⟨_,_,x.trans ((Qv t).trans rfl),eY,I,z2,Z,_,.val (.int i),O,iW,pY,⋯,⋯,?_,k_,rfl,rfl⟩;split
   ·simp;lia
   ·lia
  ·obtain⟨jk,gs,z1,c,b,j,f,y,P,U,X,Y,C,rfl,rfl⟩:=Q;rw[ZR,Ck]at C;obtain⟨rfl,rfl,rfl⟩:=C;exact⟨jk,gs,ak,cl,j,f,y,rfl,rfl⟩
 refine⟨f,JO w.length aA::.aB jk::.aB c::.aB (cD b)::(gs++[.lst (aD z)]),gs.length+4,?_,by simp⟩;have L:YV (r .un) (JH w aA (zE z0) [] [] [])=some ((.nx,r j),JH w aA jk c b gs):=Jq (zL (YD (m:=u.length) (Zd (Xl (Qe rfl))) ⋯)) e;have ea:(JH w aA jk c b gs).length=w.length+(gs.length+4):=by simp[JH]
 have T:=xS (w:=w) (aA:=aA) (ak:=c) (cl:=b) (gs:=gs) y f;rw[ea]at T;exact QC (env:=r j) ((Qi (Qw (GE R aA w (Za (Qe rfl) (Qe rfl))))).trans ((Qi (Qw (QU (Zd (Qe rfl)) rfl (kn ro ⋯ _)))).trans ((Qi L).trans (Qz (Ze (Za rfl (Jx (Qe rfl) j0 rfl uF rfl T)) (by simp))))))
theorem Vd(ns:List Int)(k:Nat)(b:ns.length<=63):∃x,Zt [.lst (ns.map .int),.int k]=pure (.int x):=by
 by_cases h:k<ns.length
 ·have a:=yZ (xs:=ns.map DV.int) (j:=k) (v:=.int ns[k]) (by simp[h]);refine⟨ns[k],?_⟩;have h':(k:Int)<(ns.length:Int):=⋯
  simp[Zt,Xh,ZH,Qx,QG,Q3,wQ,aP,Zf,Xu,Ul,n_,UO,Qf,Qb,eC,eB,g_,JG,cB,XE,BZ,wG,BX,tW,JS,Qj,Qa,Q2,Zm,Qu,QR,QM,gN,V4,qX,Gm,GD,GB,Gh,UD,GN,wX,wg,Vp,GJ,vK,eZ,f9,a,h']
 ·have h':¬ (k:Int)<(ns.length:Int):=⋯
  exact⟨0,by simp[Zt,Xh,ZH,Qx,QG,Q3,wQ,aP,Zf,Xu,Ul,n_,UO,Qf,Qb,eC,eB,g_,JG,cB,XE,BZ,wG,BX,tW,JS,Qj,Qa,Q2,Zm,Qu,QR,QM,gN,V4,qX,Gm,GD,GB,Gh,UD,GN,wX,wg,Vp,GJ,vK,h']⟩
theorem Ir(p q:Int×Int):PyData.eqv (toP (.tup [.int p.1,.int p.2])) (toP (.tup [.int q.1,.int q.2]))=decide (p=q):=by obtain⟨a,b⟩:=p;obtain⟨c,d⟩:=q;simp only[toP,aV,PyData.eqv,PyData.eqvAll,Bool.and_true,Prod.mk.injEq];by_cases e:a=c<;>by_cases f:b=d<;>simp[e,f]
theorem YY:∀a b:Zs,PyData.eqvAll (aV (aD a)) (aV (aD b))=decide (a=b)
  | [],[]=>rfl
  | [],_::_=>by simp[aD,aV,PyData.eqvAll]
  |_::_,[]=>by simp[aD,aV,PyData.eqvAll]
  |p::a,q::b=>by have f:=YY a b;have e:=Ir p q;show(PyData.eqv (toP (.tup [.int p.1,.int p.2])) (toP (.tup [.int q.1,.int q.2]))&&PyData.eqvAll (aV (aD a)) (aV (aD b)))=_;rw[e,f];by_cases c:p=q<;>by_cases d:a=b<;>simp[c,d]
theorem Sh(a b:Zs)(U:Hs):aK (.lst (aD a)) (.lst (aD b)) U=some (.bl (decide (a=b)),U):=by unfold aK;rw[Qg (YB (KB (XQ a)) (KB (XQ b)) (by decide) (by decide) U)];show some (DV.bl (PyData.eqvAll (aV (aD a)) (aV (aD b))),U)=_;rw[YY]
theorem M_(a b:Option Int)(U:Hs):bU (opt a) (opt b) U=some (.bl (!decide (a=b)),U):=by unfold bU;rw[Qg (gi a b U)];rfl
theorem Ni{U:Hs}{a:Nat}{cl:List Int}{n:Int}(h:U[a]?=some (.aB (cD cl)))(b:n∈cl):eF (.int n) (.ref a) U=some (.bl true,U):=by
 have e:(ZA (cD cl) (.inl n)).isSome=true:=by rw[<- xT,List.any_eq_true];exact⟨_,List.mem_map_of_mem (f:=λn=>((.inl n:Key),DV.bl true)) b,by simp⟩
 unfold eF;have:oK (.int n) (.ref a) U=some (true,U):=by show(Zi a >>= _) U=_;rw[Qg (Q6 h)];show some ((ZA (cD cl) (.inl n)).isSome,U)=_;rw[e]
 rw[Qg this];rfl
def KZ(z:Zs)(ak:List (Key×DV))(n:Int)(d:De)(v:DV)(rest:List DV):Prop:=match d with
 |.str a b=>∃(ps:Zs)(x c:DV),v=.tup (aD ps)/\rest=[x,c]/\((∃m,c=.int m/\¬ (bN ak n a<m/\m<b))∨(c=.non/\ps≠JR z (bN ak n a) b)∨∃m,c=.int m/\bN ak n a<m/\m<b/\ps≠JR z (bN ak n a) m)
 |d=>∃o:Option Int,v=opt o/\o≠Jh z d.key
def ym(dd:List De)(z:Zs)(ak:List (Key×DV))(cl:List Int)(row:DV):Prop:=∃(wd:Str)(h:DV)(m:Int)(p v:DV)(rest:List DV),row=.tup (.str wd::h::.int m::p::v::rest)/\PyData.strOk wd=true /\
 (¬ (0<=m/\m<dd.length)∨∃n:Nat,m=n/\n<dd.length/\(m∈cl∨(m∉cl/\∃a,dd[n]?=some a/\((wd != a.mw)=true∨(wd=a.mw/\KZ z ak n a v rest)))))
section
variable{w:Hs}{aA:List DV}{jk ak:List (Key×DV)}{cl:List Int}{gs:Hs}{z:Zs}
theorem U1{g e:Int}{ps:Zs}(dz:Dz jk z)(j:aF z)(l:z.length<50000){x1 x2 x4:Sl}:Qf aK (QR JZ (Qa (Qb 3) (Qj))) (Q0) [.val (.ref w.length),x1,x2,.val (.tup (aD ps)),x4,.val (.int g),.val (.int e)] (JH w aA jk ak cl gs)=some (.bl (decide (ps=JR z g e)),JH w aA jk ak cl (gs++[.lst (aD z)])):=by
 let E:En:=[.val (.ref w.length),x1,x2,.val (.tup (aD ps)),x4,.val (.int g),.val (.int e)]
 let W:=JH w aA jk ak cl gs
 let a:=JH w aA jk ak cl (gs++[.lst (aD z)])
 have b:dj (XW "Judge" "plain_table" 1 Zk (Qb 0) Qj) E W=some (eU W.length,a):=U6 (Jx (Qe rfl) j0 rfl uF rfl (xS dz j)) (jq _);have c:=jL (nxt:=eU W.length) (t:=λd=>eB (ZV d9 cj (Qb 1) (Qf aq (Qb 0) (eC (.int 0))) (Qb 2)) (cE [5,6] E d)) (f:=λd=>Qb 0 (cE [5,6] E d)) (p:=pZ g e) (U:=a) (aD z) (λi _=>Kv (jq _) i) (λd hd=>by obtain⟨q,_,rfl⟩:=Co.mp hd;exact QJ (js (Qe rfl) (QN (i:=0) (ds:=[.int q.1,.int q.2]) (Qe rfl) rfl rfl) (Qe rfl))) (λd _=>rfl) (by unfold aD;rw[Bf];lia)
 rw[xB]at c;have h:Q0 E W=some (.lst (aD (JR z g e)),a):=by unfold Q0 ZB;rw[Qg b];exact(Qg c).trans rfl
 exact Qp (x:=.lst (aD ps)) (y:=.lst (aD (JR z g e))) (hp1:=W) (Jd (Zd (Qe rfl)) rfl) h (Sh _ _ _)
def uC:∃l,JH w aA jk ak cl gs=w++l:=⟨_,rfl⟩
theorem PN{n:Nat}{a b:Int}{v:DV}{rest:List DV}(Y:KZ z ak n (.str a b) v rest)(Q:(n:Int)∉cl)(R:cl.length<50000)(dz:Dz jk z)(P:aF z)(O:z.length<50000)(ai:AI ak)(al:ak.length<50000) :
  ∃(x c:DV)(l:Hs),rest=[x,c]/\ZE [.ref w.length,.int n,(De.str a b).dv,v,c] (JH w aA jk ak cl gs)=some (.bl false,w++l):=by
 let W:=JH w aA jk ak cl gs
 let g:=bN ak n a
 let E:DV->DV->Sl->Sl->En:=λps c x5 x6=>[.val (.ref w.length),.val (.int n),.val (De.str a b).dv,.val ps,.val c,x5,x6]
 have J:∀ps c,QG 5 (ZI "dict" J0 (ZC "Judge" "begins" (Qb 0)) (Qa (Qb 1) (Qa (Qf aq (Qb 2) (eC (.int 1))) (Qj)))) (E ps c .un .un) W=some ((.nx,E ps c (.val (.int g)) .un),W):=λps c=>by have:=jp (o:=ZC "Judge" "begins" (Qb 0)) (k:=Qb 1) (e:=Qf aq (Qb 2) (eC (.int 1))) (env:=E ps c .un .un) (U:=W) (a:=w.length+2) (i:=n) (d:=.int a) j2 (jf (Qe rfl) rfl) (Qe rfl) (QN (i:=1) (ds:=[.str "stretch", .int a,.int b]) (Qe rfl) rfl rfl);rw[ai.bN n a]at this;exact Qw this
 have L:∀ps c,QG 6 (Qf aq (Qb 2) (eC (.int 2))) (E ps c (.val (.int g)) .un) W=some ((.nx,E ps c (.val (.int g)) (.val (.int b))),W):=λps c=>Qw (QN (i:=2) (ds:=[.str "stretch", .int a,.int b]) (Qe rfl) rfl rfl);obtain⟨ps,x,c,rfl,I,⟨m,rfl,T⟩|⟨rfl,U⟩|⟨m,rfl,Z,m2,U⟩⟩:=Y
 ·let u:=E (.tup (aD ps)) (.int m) (.val (.int g)) (.val (.int b))
  have t:XE (eB (ZV cj cj (Qb 5) (Qb 4) (Qb 6))) u W=some (true,W):=by
   have:=Jf (QJ (VG (f:=Qb 5) (g:=Qb 4) (h:=Qb 6) (env:=u) (U:=W) (i:=g) (j:=m) (k:=b) (Qe rfl) (Qe rfl) (Qe rfl)));have X:(decide (g<m)&&decide (m<b))=false:=by
    rw[Bool.and_eq_false_iff,decide_eq_false_iff_not,decide_eq_false_iff_not];by_cases q:g<m
    ·exact .inr λz=>T ⟨q,z⟩
    ·exact .inl q
   rw[X]at this;exact this
  obtain⟨l,r⟩:=uC (w:=w) (aA:=aA) (jk:=jk) (ak:=ak) (cl:=cl) (gs:=gs);refine⟨x,.int m,l,I,?_⟩;rw[<- r];exact QC (env:=u) ((Qi (J _ _)).trans ((Qi (L _ _)).trans (QT ((Qv (QJ (Qp (x:=.int m) (y:=.non) (Qe rfl) rfl rfl))).trans (QT ((QY t).trans (Qz rfl)))))))
 ·have C:=Jy (e:=eC (.bl true)) (o:=ZC "Judge" "closed" (Qb 0)) (j:=Qb 1) (env:=E (.tup (aD ps)) .non (.val (.int g)) (.val (.int b))) (U:=W) (a:=w.length+3) (n:=n) (d:=.bl true) rfl (jf (Qe rfl) rfl) (Qe rfl) j3 (by unfold cD;rw[Bf];lia);rw[Vb Q,k3]at C;obtain⟨l,r⟩:=uC (w:=w) (aA:=aA) (jk:=jk) (ak:=ak) (cl:=cl++[(n:Int)]) (gs:=gs++[.lst (aD z)]);refine⟨x,.non,l,I,?_⟩;rw[<- r];have F:=U1 (w:=w) (aA:=aA) (ak:=ak) (cl:=cl++[(n:Int)]) (gs:=gs) (g:=g) (e:=b) (ps:=ps) (x1:=.val (.int n)) (x2:=.val (De.str a b).dv) (x4:=.val .non) dz P O;rw[C0 U]at F;exact QC (env:=E (.tup (aD ps)) .non (.val (.int g)) (.val (.int b))) ((Qi (J _ _)).trans ((Qi (L _ _)).trans ((Qi ((QY (QJ (Qp (x:=.non) (y:=.non) (Qe rfl) rfl rfl))).trans C)).trans (Qz F))))
 ·let u:=E (.tup (aD ps)) (.int m) (.val (.int g)) (.val (.int b))
  have C:=Jy (e:=Qb 4) (o:=ZC "Judge" "begins" (Qb 0)) (j:=Qb 1) (env:=u) (U:=W) (a:=w.length+2) (n:=n) (d:=.int m) (Qe rfl) (jf (Qe rfl) rfl) (Qe rfl) j2 ⋯;rw[k2]at C;have t:XE (eB (ZV cj cj (Qb 5) (Qb 4) (Qb 6))) u W=some (false,W):=by have:=Jf (QJ (VG (f:=Qb 5) (g:=Qb 4) (h:=Qb 6) (env:=u) (U:=W) (i:=g) (j:=m) (k:=b) (Qe rfl) (Qe rfl) (Qe rfl)));rw[Cy Z,Cy m2]at this;exact this
  obtain⟨l,r⟩:=uC (w:=w) (aA:=aA) (jk:=jk) (ak:=Z9 ak (.inl n) (.int m)) (cl:=cl) (gs:=gs++[.lst (aD z)]);refine⟨x,.int m,l,I,?_⟩;rw[<- r];have F:=U1 (w:=w) (aA:=aA) (ak:=Z9 ak (.inl n) (.int m)) (cl:=cl) (gs:=gs) (g:=g) (e:=m) (ps:=ps) (x1:=.val (.int n)) (x2:=.val (De.str a b).dv) (x4:=.val (.int m)) dz P O;rw[C0 U]at F;exact QC (env:=E (.tup (aD ps)) (.int m) (.val (.int g)) (.val (.int m))) ((Qi (J _ _)).trans ((Qi (L _ _)).trans ((Qi ((Qv (QJ (Qp (x:=.int m) (y:=.non) (Qe rfl) rfl rfl))).trans ((Qi ((Qv t).trans rfl)).trans ((Qi C).trans (Qw (Qe rfl)))))).trans (Qz F))))
theorem Te{b:De}{o:Option Int}(d:o≠Jh z b.key)(dz:Dz jk z)(e:aF z):Z1 [.ref w.length,b.dv,opt o] (JH w aA jk ak cl gs)=some (.bl false,JH w aA jk ak cl gs):=by
 let W:=JH w aA jk ak cl gs
 obtain⟨rest,c⟩:=b.shape
 let E:Sl->En:=λx=>[.val (.ref w.length),.val b.dv,.val (opt o),x]
 have f:QG 3 (Qf aq (Qb 1) (eC (.int 1))) (E .un) W=some ((.nx,E (.val (.int b.key))),W):=Qw (QN (i:=1) (ds:=.str b.wd::.int b.key::rest) (Qe (by rw[<- c];rfl)) rfl rfl);have h:eB (Qf bU (Qb 2) (ZI "dict" J0 (ZC "Judge" "worths" (Qb 0)) (Qa (Qb 3) (Qj)))) (E (.val (.int b.key))) W=some (true,W):=by have g:=Vt (o:=ZC "Judge" "worths" (Qb 0)) (k:=Qb 3) (env:=E (.val (.int b.key))) (U:=W) (a:=w.length+1) (i:=b.key) j1 (jf (Qe rfl) rfl) (Qe rfl);rw[dz.getD e b.key]at g;have q:=M_ o (Jh z b.key) W;rw[C0 d]at q;exact QJ (Qp (x:=opt o) (y:=opt (Jh z b.key)) (Qe rfl) g q)
 exact QC (env:=E (.val (.int b.key))) ((Qi f).trans (QT ((QY h).trans (Qz rfl))))
end
section
variable{w:Hs}{jk ak:List (Key×DV)}{cl:List Int}{gs:Hs}{z:Zs}
theorem gx{dd:List De}{row:DV}(P:ym dd z ak cl row)(Y:cl.length<50000)(dz:Dz jk z)(hr:aF z)(hl:z.length<50000)(ai:AI ak)(al:ak.length<50000) :
    ∃l,Zr [.ref w.length,row] (JH w (dd.map De.dv) jk ak cl gs)=some (.bl false,w++l):=by
  let aA:=dd.map De.dv
  let W:=JH w aA jk ak cl gs
  obtain⟨wd,h,m,p,v,rest,R,hok,P⟩:=P;have dl:aA.length=dd.length:=Bf _
  let E:Sl->Sl->En:=λx2 x3=>[.val (.ref w.length),.val row,x2,x3]
  have s1:QG 2 (Qf aq (Qb 1) (eC (.int 2))) (E .un .un) W=some ((.nx,E (.val (.int m)) .un),W):=Qw (QN (i:=2) (ds:=.str wd::h::.int m::p::v::rest) (Qe (by rw[<- R];rfl)) rfl rfl);have c:=js (f:=eC (.int 0)) (g:=Qb 2) (h:=QR Zo (Qa (ZC "Judge" "deeds" (Qb 0)) (Qj))) (env:=E (.val (.int m)) .un) (U:=W) (i:=0) (j:=m) (k:=aA.length) rfl (Qe rfl) (Xl (jf (Qe rfl) rfl));obtain⟨lw,hw⟩:=uC (w:=w) (aA:=aA) (jk:=jk) (ak:=ak) (cl:=cl) (gs:=gs);have X:cB (XE (eB (ZV d9 cj (eC (.int 0)) (Qb 2) (QR Zo (Qa (ZC "Judge" "deeds" (Qb 0)) (Qj)))))) (eB (Qf eF (Qb 2) (ZC "Judge" "closed" (Qb 0)))) (E (.val (.int m)) .un) W=some (true,W)->∃l,Zr [.ref w.length,row] W=some (.bl false,w++l):=λt=>by refine⟨lw,?_⟩;rw[<- hw];exact QC (env:=E (.val (.int m)) .un) ((Qi s1).trans (QT ((QY t).trans (Qz rfl))))
  rcases P with hm|⟨n,rfl,hn,P⟩
  . have hq:(decide (0<=m)&&decide (m<aA.length))=false:=by
      rw[Bool.and_eq_false_iff,decide_eq_false_iff_not,decide_eq_false_iff_not,dl];by_cases q:0<=m
      . exact .inr λz=>hm ⟨q,z⟩
      . exact .inl q
    rw[hq]at c;exact X (Us (Jf (QJ c)))
  . rw[Cy (show(0:Int)<=n by lia),Cy (show(n:Int)<aA.length by lia)]at c
    rcases P with T|⟨T,C,hd,P⟩
    . exact X ((qx (Jf (QJ c))).trans (QJ (Qp (x:=.int n) (y:=.ref (w.length+3)) (Qe rfl) (jf (Qe rfl) rfl) (Ni j3 T))))
    . have Z:aA[n]?=some C.dv:=by show(dd.map De.dv)[n]?=_;rw[Bh,hd];rfl
      obtain⟨dr,ed⟩:=C.shape
      let F:=E (.val (.int n)) (.val C.dv)
      have t1:cB (XE (eB (ZV d9 cj (eC (.int 0)) (Qb 2) (QR Zo (Qa (ZC "Judge" "deeds" (Qb 0)) (Qj)))))) (eB (Qf eF (Qb 2) (ZC "Judge" "closed" (Qb 0)))) (E (.val (.int n)) .un) W=some (false,W):=(qx (Jf (QJ c))).trans (QJ (Qp (x:=.int n) (y:=.ref (w.length+3)) (Qe rfl) (jf (Qe rfl) rfl) (gF j3 T)));have s2:QG 3 (Qf aq (ZC "Judge" "deeds" (Qb 0)) (Qb 2)) (E (.val (.int n)) .un) W=some ((.nx,F),W):=Qw (Zp (i:=n) (jf (Qe rfl) rfl) (Qe rfl) Z);have r0:Qf aq (Qb 1) (eC (.int 0)) F W=some (.str wd,W):=QN (i:=0) (ds:=.str wd::h::.int n::p::v::rest) (Qe (by rw[<- R];rfl)) rfl rfl;have d0:Qf aq (Qb 3) (eC (.int 0)) F W=some (.str C.wd,W):=QN (i:=0) (ds:=.str C.wd::.int C.key::dr) (Qe (by rw[<- ed];rfl)) rfl rfl;have t2:∀b,(wd != C.mw)=b->eB (Qf bU (Qf aq (Qb 1) (eC (.int 0))) (vt [("find", "found"),("put", "put"),("cut", "cut"),("stretch", "read")] (Qf aq (Qb 3) (eC (.int 0))))) F W=some (b,W):=λb L=>QJ (Qp (x:=.str wd) (y:=.str C.mw) r0 (Gb d0) (lZ W hok C.bQ L));have pre:∀{f:aG} {r:(Fl×En)×Hs},f F W=some r->(Qx (QG 2 (Qf aq (Qb 1) (eC (.int 2)))) (Qx (aP (cB (XE (eB (ZV d9 cj (eC (.int 0)) (Qb 2) (QR Zo (Qa (ZC "Judge" "deeds" (Qb 0)) (Qj)))))) (eB (Qf eF (Qb 2) (ZC "Judge" "closed" (Qb 0))))) (Q3 (eC (.bl false))) (Zf)) (Qx (QG 3 (Qf aq (ZC "Judge" "deeds" (Qb 0)) (Qb 2))) f))) (E .un .un) W=some r:=λk=>(Qi s1).trans ((Qi ((Qv t1).trans rfl)).trans ((Qi s2).trans k));rcases P with L|⟨rfl,I⟩
      . refine⟨lw,?_⟩
        rw[<- hw];exact QC (env:=F) (pre (QT ((QY (t2 _ L)).trans (Qz rfl))))
      . have t3:∀b,(C.mw == "read")=b->eB (Qf aK (Qf aq (Qb 1) (eC (.int 0))) (eC (.str "read"))) F W=some (b,W):=λb L=>QJ (Qp (x:=.str C.mw) (y:=.str "read") r0 rfl (mC W C.bQ (by decide +kernel) L))
        have key:∀o,v=opt o->o≠Jh z C.key->(C.mw == "read")=false->∃l,Zr [.ref w.length,row] W=some (.bl false,w++l):=λo J O L=>by have pu:=Jy (e:=eC (.bl true)) (o:=ZC "Judge" "closed" (Qb 0)) (j:=Qb 2) (env:=F) (U:=W) (a:=w.length+3) (n:=n) (d:=.bl true) rfl (jf (Qe rfl) rfl) (Qe rfl) j3 (by unfold cD;rw[Bf];lia);rw[Vb T,k3]at pu;have ek:=Te (w:=w) (aA:=aA) (ak:=ak) (cl:=cl++[(n:Int)]) (gs:=gs) O dz hr;obtain⟨l,aa⟩:=uC (w:=w) (aA:=aA) (jk:=jk) (ak:=ak) (cl:=cl++[(n:Int)]) (gs:=gs);refine⟨l,?_⟩;rw[<- aa];exact QC (env:=F) (pre ((Qi ((Qv (t2 _ VI)).trans rfl)).trans ((Qi ((Qv (t3 _ L)).trans rfl)).trans ((Qi pu).trans (Qz (Jx (Qe rfl) j0 rfl (Za (Qe rfl) (QN (i:=4) (ds:=.str C.mw::h::.int n::p::v::rest) (Qe (by rw[<- R];rfl)) rfl rfl)) rfl (by rw[J];exact ek)))))))
        cases C with
        |find k=>obtain⟨o,J,O⟩:=I;exact key o J O (show(("found" : Str) == "read")=false by decide +kernel)
        |put k u=>obtain⟨o,J,O⟩:=I;exact key o J O (show(("put" : Str) == "read")=false by decide +kernel)
        |cut k=>obtain⟨o,J,O⟩:=I;exact key o J O (show(("cut" : Str) == "read")=false by decide +kernel)
        |str a b =>obtain⟨x,Q,l,e2,es⟩:=PN (w:=w) (aA:=aA) (gs:=gs) I T Y dz hr hl ai al;subst e2;exact⟨l,QC (env:=F) (pre ((Qi ((Qv (t2 _ VI)).trans rfl)).trans (QT ((QY (t3 true (show(("read" : Str) == "read")=true by decide +kernel))).trans (Qz (Jx (Qe rfl) j0 rfl (K0 (Qe rfl) (Qe rfl) (QN (i:=4) (ds:=[.str (De.str a b).mw,h,.int n,p,v,x,Q]) (Qe (by rw[<- R];rfl)) rfl rfl) (QN (i:=6) (ds:=[.str (De.str a b).mw,h,.int n,p,v,x,Q]) (Qe (by rw[<- R];rfl)) rfl rfl)) rfl es))))))⟩
end
theorem Run.split{dd:List De}:∀{xs ys:List DV}{z:Zs}{ak:List (Key×DV)}{cl:List Int}{l:Zs}{i:List (Key×DV)}{j:List Int},Run dd (xs++ys) z ak cl l i j->∃z1 d c,Run dd xs z ak cl z1 d c/\Run dd ys z1 d c l i j
  | [],_,z,ak,cl,_,_,_,h=>⟨z,ak,cl,⟨rfl,rfl,rfl⟩,h⟩
  |_::_,_,_,_,_,_,_,_,⟨n,o,z1,d,f,q,r,t,u⟩=>by obtain⟨z2,m,e,a,b⟩:=Run.split u;exact⟨z2,m,e,⟨n,o,z1,d,f,q,r,t,a⟩,b⟩
theorem xf{z0 z:Zs}{dd:List De}{rr rs Y:List DV}{row:DV}{ak:List (Key×DV)}{cl:List Int}(U:aF z0)(zl:z0.length<=400)(I:rr.filter aN=rs++row::Y)(ru:Run dd rs z0 [] [] z ak cl)(hu:ym dd z ak cl row)(ro:∀d∈rr,aJ d)(rl:rr.length<=6000)(w:Hs) :
  ∃l,Z6 [.lst rr,.lst (dd.map De.dv),.lst (aD z0)] w=some (.tup [.str "unfit", .int rs.length],w++l):=by
 let aA:=dd.map De.dv
 let j:=rr.filter aN
 have Dy:j.length<=6000:=A9 (Br _ _) rl;have Tq:j.length=rs.length+(Y.length+1):=by show(rr.filter aN).length=_;rw[I];simp
 let E:Sl->Sl->Sl->En:=λx3 x4 b=>[.val (.lst rr),.val (.lst aA),.val (.lst (aD z0)),x3,x4,b]
 let c:Sl->En:=λb=>E (.val (.ref w.length)) (.val (.lst j)) b
 have x:j[rs.length]?=some row:=by show(rr.filter aN)[rs.length]?=_;rw[I];simp
 have hd:∀i,i<rs.length->j[i]?=rs[i]?:=λi hi=>by show(rr.filter aN)[i]?=_;rw[I,Ag hi]
 obtain⟨q,h,e,b,l,rfl,rfl⟩:WP (XG (cU (Zy 0 j.length)) (λd env=>do let env' <- gN 5 d env;ZO env') 100000 0 (c .un)) (JH w aA (zE z0) [] [] []) λq h=>∃b l,q=(.rt (.tup [.str "unfit", .int rs.length]),c b)/\h=w++l:=by
  refine Xn (Zy 0 j.length) (λi env h=>i<=rs.length/\∃jk gs z1 r a b,aF z1/\Dz jk z1/\AI r/\z1.length<=400+i/\r.length<=i/\a.length<=i/\Run dd (rs.drop i) z1 r a z ak cl/\env=c b/\h=JH w aA jk r a gs) (by rw[ZR];lia) ⟨A5 _,zE z0,[],z0,[],[],.un,U,List.Perm.refl _,(λn v e=>by cases e),zl,Ae _,Ae _,ru,rfl,rfl⟩ (λi d O env h T=>?_) (λenv h T=>by obtain⟨z1,_⟩:=T;rw[ZR]at z1;lia);obtain⟨hi,jk,gs,z1,r,a,b,u,X,R,b1,b2,b3,y,rfl,rfl⟩:=T;obtain⟨_,rfl⟩:=YI O;rcases Nat.lt_or_eq_of_le hi with hi|rfl
  ·rw[A8 hi]at y;obtain⟨n,de,z2,Z,aa,P,hc,hf,k_⟩:=y;obtain⟨eY,J,iW,C⟩:=Ge (w:=w) (aA:=aA) (gs:=gs) hf (by show(dd.map De.dv)[n]?=_;rw[Bh,P];rfl) hc ⋯ X u ⋯ R ⋯;obtain⟨pY,Q,c1,c2⟩:=hf.ai u R;have f:(do let env' <- gN 5 (.int (i:Int)) (c b);ZO env') (JH w aA jk r a gs)=ZO (c (.val (.int i))) (JH w aA jk r a gs):=rfl;have t:=Jf (QJ (Jx (o:=Qb 3) (m := "fits") (n:=2) (F:=Zr) (fa:=Qa (Qf aq (Qb 4) (Qb 5)) Qj) (env:=c (.val (.int i))) (Qe rfl) (j0 (jk:=jk) (ak:=r) (cl:=a) (gs:=gs)) rfl (Zd (Zp (i:=i) (ds:=j) (Qe rfl) (Qe rfl) ((hd i hi).trans (Ab hi)))) rfl C));refine⟨_,_,f.trans ((Qv t).trans rfl),hi,eY,J,z2,Z,_,.val (.int i),Q,iW,pY,⋯,⋯,?_,k_,rfl,rfl⟩;split
   ·simp;lia
   ·lia
  ·rw[Ck]at y;obtain⟨rfl,rfl,rfl⟩:=y;obtain⟨l,C⟩:=gx (w:=w) (gs:=gs) hu ⋯ X u ⋯ R ⋯;have f:(do let env' <- gN 5 (.int (rs.length:Int)) (c b);ZO env') (JH w aA jk ak cl gs)=ZO (c (.val (.int rs.length))) (JH w aA jk ak cl gs):=rfl;have t:=Jf (QJ (Jx (o:=Qb 3) (m := "fits") (n:=2) (F:=Zr) (fa:=Qa (Qf aq (Qb 4) (Qb 5)) Qj) (env:=c (.val (.int rs.length))) (Qe rfl) (j0 (jk:=jk) (ak:=ak) (cl:=cl) (gs:=gs)) rfl (Zd (Zp (i:=rs.length) (ds:=j) (Qe rfl) (Qe rfl) x)) rfl C));exact⟨_,_,f.trans ((QY t).trans (Qz (Ze (Za rfl (Qe rfl)) (by simp)))),.val (.int rs.length),l,rfl,rfl⟩
 refine⟨l,?_⟩;have L:YV (c .un) (JH w aA (zE z0) [] [] [])=some ((.rt (.tup [.str "unfit", .int rs.length]),c b),w++l):=Jq (zL (YD (m:=j.length) (Zd (Xl (Qe rfl))) ⋯)) e;exact QC (env:=c b) ((Qi (Qw (GE U aA w (Za (Qe rfl) (Qe rfl))))).trans ((Qi (Qw (QU (Zd (Qe rfl)) rfl (kn ro ⋯ _)))).trans (QT L)))
theorem Run.cl{dd:List De}:∀{rs:List DV}{z:Zs}{ak:List (Key×DV)}{cl:List Int}{f:Zs}{b:List (Key×DV)}{a:List Int},Run dd rs z ak cl f b a->∀x∈cl,x∈a
 | [],_,_,_,_,_,_,⟨_,_,e⟩,x,hx=>by rw[e];exact hx
 |_::_,_,_,_,_,_,_,⟨n,i,z1,h,c,j,l,m,d⟩,x,hx=>d.cl x (by split;exact Ax _ hx;exact hx)
theorem K4(ak:List (Key×DV))(n m:Int)(a:Int):bN (Z9 ak (.inl n) (.int m)) n a=m:=by unfold bN;rw[qY,Ct rfl]
theorem uN(ak:List (Key×DV)){n k:Int}(m:Int)(a:Int)(h:n≠k):bN (Z9 ak (.inl n) (.int m)) k a=bN ak k a:=by unfold bN;rw[qY,Cs (λe=>h (Sum.inl.inj e).symm)]
def Low(dd:List De)(ak:List (Key×DV)):Prop:=∀(n:Nat)(a b:Int),dd[n]?=some (.str a b)->a<=bN ak n a
theorem aL.low{dd:List De}{n:Nat}{c:De}{row:DV}{z r:Zs}{ak j:List (Key×DV)}{d:Bool}(h:aL n c row z ak r j d)(hd:dd[n]?=some c)(L:Low dd ak):Low dd j:=by
  cases c with
  |find k=>obtain⟨_,_,_,_,e,_⟩:=h;rw[e];exact L
  |cut k=>obtain⟨_,_,_,_,e,_⟩:=h;rw[e];exact L
  |put k v=>obtain⟨_,_,_,_,_,e,_⟩:=h;rw[e];exact L
  |str a b =>
    obtain⟨_,_,_,⟨_,e,_⟩|⟨m,x,o,t,_,e,_⟩⟩:=h
    . rw[e];exact L
    . intro k i l f
      rw[e];by_cases q:(n:Int)=k
      . obtain rfl:n=k:=⋯
        rw[hd]at f;cases f;rw[K4];exact Ch (L n a b hd) (By o)
      . rw[uN ak m i q];exact L k i l f
theorem Run.low{dd:List De}:∀{rs:List DV}{z:Zs}{ak:List (Key×DV)}{cl:List Int}{i:Zs}{a:List (Key×DV)}{b:List Int},Run dd rs z ak cl i a b->Low dd ak->Low dd a
 | [],_,_,_,_,_,_,⟨_,e,_⟩,L=>by rw[e];exact L
 |_::_,_,_,_,_,_,_,⟨n,l,z1,j,c,d,m,f,h⟩,L=>h.low (f.low d L)
theorem Run.good{dd:List De}:∀{rs:List DV}{z:Zs}{ak:List (Key×DV)}{cl:List Int}{d:Zs}{f:List (Key×DV)}{j:List Int},Run dd rs z ak cl d f j->aF z->AI ak->aF d/\AI f/\d.length<=z.length+rs.length
  | [],_,_,_,_,_,_,⟨l,e,_⟩,R,A=>by rw[e,l];exact⟨R,A,Ae _⟩
  |_::_,_,_,_,_,_,_,⟨n,t,z1,r,m,u,v,o,q⟩,R,A=>by obtain⟨h,i,l1,_⟩:=o.ai R A;obtain⟨a,b,c⟩:=q.good i h;exact⟨a,b,by rw[A0];lia⟩
def Lp(dd:List De):Low dd []:=λn a b _=>Bc _
theorem GV{P:List DV->Prop}(a:P [])(b:∀l d,P l->P (l++[d])):∀l,P l:=λl=>by
 rw[<- List.reverse_reverse l];induction l.reverse with
 |nil=>exact a
 |cons d l c=>rw[List.reverse_cons];exact b _ _ c
def cP(rr:List DV):List Nat:=(List.range rr.length).filter λi=>aN (rr.getD i .non)
theorem GM(rr:List DV)(d:DV):cP (rr++[d])=cP rr++(if aN d=true then [rr.length]else []):=by
 unfold cP;rw[Am,List.length_singleton,List.range_succ,List.filter_append];congr 1
 ·refine List.filter_congr λi hi=>?_;have:=List.mem_range.mp hi;rw[B8,B8,Ag this]
 ·have e:(rr++[d]).getD rr.length .non=d:=by rw[B8];simp
  by_cases q:aN d=true
  ·rw[Cd (by rw[e];exact q),Ct q];rfl
  ·rw[Cq (by rw[e];exact q),Cs q];rfl
theorem O7(rr:List DV):(cP rr).length=(rr.filter aN).length:=by
 refine GV (P:=λrr=>(cP rr).length=(rr.filter aN).length) rfl (λrr e a=>?_) rr;show(cP (rr++[e])).length=((rr++[e]).filter aN).length;rw[GM,Am,a,List.filter_append,Am];congr 1;by_cases q:aN e=true
 ·rw[Ct q,Cd q];rfl
 ·rw[Cs q,Cq q];rfl
theorem O_(rr:List DV):∀(k i:Nat),(cP rr)[k]?=some i->∃row,rr[i]?=some row/\aN row=true/\((rr.take i).filter aN).length=k:=by
 refine GV (P:=λrr=>∀(k i:Nat),(cP rr)[k]?=some i->∃row,rr[i]?=some row/\aN row=true/\((rr.take i).filter aN).length=k) (λk i h=>by cases h) (λrr d l k i h=>?_) rr;have m:=O7 rr;rw[GM]at h;by_cases q:k<(cP rr).length
 ·rw[Ag q]at h;obtain⟨row,b,f,j⟩:=l k i h;have c:i<rr.length:=(Ac.mp b).1;exact⟨row,by rw[Ag c];exact b,f,by rw[List.take_append_of_le_length (Nat.le_of_lt c)];exact j⟩
 ·rw[Ap ⋯]at h;by_cases a:aN d=true
  ·rw[Ct a]at h;have e:k-(cP rr).length=0:=by have:=(Ac.mp h).1;simp at this;lia
   rw[e]at h;cases h;refine⟨d,by simp,a,?_⟩;rw[List.take_append_of_le_length (Ae _),List.take_length];lia
  ·rw[Cs a]at h;cases h
theorem Vq{rr:List DV}{i:Nat}{row:DV}(h:rr[i]?=some row)(a:aN row=true):rr.filter aN=(rr.take i).filter aN++row::(rr.drop (i+1)).filter aN:=by
 obtain⟨hi,e⟩:=Ac.mp h
 conv=>lhs;rw[<- Bm i rr,A8 hi,e,List.filter_append,Cd a]
theorem R_{rr:List DV}{i:Nat}{row a:DV}(h:rr[i]?=some row)(b:aN a=true):(rr.set i a).filter aN=(rr.take i).filter aN++a::(rr.drop (i+1)).filter aN:=by have hi:=(Ac.mp h).1;rw[Vq (rr:=rr.set i a) (i:=i) (row:=a) (by rw[Ar hi]) b,List.take_set_of_le (Ae _),List.drop_set_of_lt ⋯]
theorem xM{f g:au}{env:En}{U:Hs}{a m:Nat}{ds:List DV}(hf:f env U=some (.ref a,U))(b:U[a]?=some (.lst ds))(c:g env U=some (.int m,U)):Vn f Q7 (QH g) env U=some (.lst (ds.take m),U):=by unfold Vn;rw[Qg hf,Qg (show Q7 env U=some (none,U)from rfl),Qg (show QH g env U=some (some (m:Int),U)by unfold QH;rw[Qg c];rfl)];show(Zi a >>= _) U=_;rw[Qg (Q6 b)];show some (DV.lst (D.JE ds none (some (m:Int))),U)=_;rw[jM]
theorem KK{f g:au}{env:En}{U:Hs}{a m:Nat}{ds:List DV}(hf:f env U=some (.ref a,U))(b:U[a]?=some (.lst ds))(c:g env U=some (.int m,U)):Vn f (QH g) Q7 env U=some (.lst (ds.drop m),U):=by unfold Vn;rw[Qg hf,Qg (show QH g env U=some (some (m:Int),U)by unfold QH;rw[Qg c];rfl),Qg (show Q7 env U=some (none,U)from rfl)];show(Zi a >>= _) U=_;rw[Qg (Q6 b)];show some (DV.lst (D.JE ds (some (m:Int)) none),U)=_;rw[Ug]
theorem yo{ak d:List (Key×DV)}{m:Nat}{n:Nat}{f:De}{row:DV}{z i:Zs}{c:Bool}(h:aL m f row z ak i d c)(j:m≠n)(a:Int):bN d n a=bN ak n a:=by
  cases f with
  |find k=>obtain⟨_,_,_,_,e,_⟩:=h;rw[e]
  |cut k=>obtain⟨_,_,_,_,e,_⟩:=h;rw[e]
  |put k v=>obtain⟨_,_,_,_,_,e,_⟩:=h;rw[e]
  |str a b =>
    obtain⟨_,_,_,⟨_,e,_⟩|⟨m,x,l,o,_,e,_⟩⟩:=h
    . rw[e]
    . rw[e,uN ak m _ ⋯]
theorem uM{z0 z:Zs}{dd:List De}{rr:List DV}{ak:List (Key×DV)}{cl:List Int}{n i:Nat}{l:De}{row:DV}{x0 h:DV}{rest:List DV}{W:Hs}(hW:W[2]?=some (.lst rr))(hi:rr[i]?=some row)(er:row=.tup (x0::h::.int n::rest))(hd:dd[n]?=some l)(ru:Run dd ((rr.take i).filter aN) z0 [] [] z ak cl)(hc:(n:Int)∉cl)(ro:∀d∈rr,aJ d)(rl:rr.length<=5000) :
    ∃v,(∀a b,l=.str a b->v=.int (bN ak n a))/\J4 [.ref 2,.int i,l.dv] W=some (v,W):=by
  have li:i<rr.length:=(Ac.mp hi).1;obtain⟨dr,ed⟩:=l.shape
  let E:DV->Sl->En:=λb r=>[.val (.ref 2),.val (.int i),.val l.dv,.val b,r]
  have s1:QG 3 (Qf aq (Qb 2) (eC (.int 1))) [.val (.ref 2),.val (.int i),.val l.dv,.un,.un] W=some ((.nx,E (.int l.key) .un),W):=Qw (QN (i:=1) (ds:=.str l.wd::.int l.key::dr) (Qe (by rw[<- ed];rfl)) rfl rfl);have aa:∀b r,Qf aq (Qf aq (Qb 0) (Qb 1)) (eC (.int 2)) (E b r) W=some (.int n,W):=λb r=>QN (i:=2) (ds:=x0::h::.int n::rest) (Yd (i:=i) (Qe rfl) hW (Qe rfl) (by rw[hi,er])) rfl rfl;have tk:∀j,j<i->(rr.take i)[j]?=rr[j]?:=λj hj=>List.getElem?_take_of_lt hj;obtain⟨q,h',e,v,r,L,rfl,rfl⟩:WP (XG (cU (rr.take i)) (λd env=>do let env' <- gN 4 d env;YN env') 100000 0 (E (.int l.key) .un)) W λq h'=>∃v r,(∀a b,l=.str a b->v=.int (bN ak n a))/\q=(.nx,E v r)/\h'=W:=by
    refine Xn _ (λj env h'=>∃v r z1 J t,Run dd ((rr.take j).filter aN) z0 [] [] z1 J t/\Run dd (((rr.take i).drop j).filter aN) z1 J t z ak cl/\(∀a b,l=.str a b->v=.int (bN J n a))/\env=E v r/\h'=W) (by rw[Az];lia) ⟨.int l.key,.un,z0,[],[],⟨rfl,rfl,rfl⟩,ru,(λa b e=>by rw[e];rfl),rfl,rfl⟩ (λj d hj env h' zz=>?_) (λenv h' zz=>?_)
    . obtain⟨v,r,z1,J,t,r1,O,L,rfl,rfl⟩:=zz
      obtain⟨lj,ej⟩:=Ac.mp hj;have Em:j<i:=by rw[Az]at lj;lia
      have tH:rr[j]?=some d:=by rw[<- tk j Em];exact hj
      have ad:=ro d (At tH);obtain⟨wd,rs,rfl,mZ,_⟩:=ad;have t0:∀b,(wd == "read")=b->eB (Qf aK (Qf aq (Qb 4) (eC (.int 0))) (eC (.str "read"))) (E v (.val (.tup (.str wd::rs)))) h'=some (b,h'):=λb o=>QJ (Qp (x:=.str wd) (y:=.str "read") (QN (i:=0) (ds:=.str wd::rs) (Qe rfl) rfl rfl) rfl (mC h' (zJ wd mZ) (by decide +kernel) o));have rW:rr.take (j+1)=rr.take j++[.tup (.str wd::rs)]:=by rw[List.take_succ,tH];rfl
      have tY:(rr.take i).drop j=.tup (.str wd::rs)::(rr.take i).drop (j+1):=by rw[A8 lj,ej]
      by_cases Q:aN (.tup (.str wd::rs))=true
      . rw[tY,Cd Q]at O
        obtain⟨m,pW,z2,dW,ae,C,Et,hf,r3⟩:=O;have I:=r1.snoc C Et hf;rw[show(rr.take j).filter aN++[DV.tup (.str wd::rs)]=(rr.take (j+1)).filter aN by rw[rW,List.filter_append,Cd Q];rfl]at I;have keep:(wd == "read")=false∨m≠n->(wd == "read")=true->m≠n:=λa b=>a.elim (λc=>by rw[c]at b;cases b) id;cases o:(wd == "read")with
        |false =>
          refine⟨(.nx,E v (.val (.tup (.str wd::rs)))),h',(Qv (jT (t0 _ o))).trans rfl,v,_,z2,dW,_,I,r3,λa b e=>?_,rfl,rfl⟩;subst e;have F:m≠n:=λe=>by
            subst e;rw[hd]at C;cases C;obtain⟨hh,pp,vv,af,f,_⟩:=hf.word;have P:wd = "read" := by cases f;rfl
            rw[P]at o;exact absurd o (by decide +kernel)
          rw[L a b rfl,yo hf F]
        |true =>
          have pP:wd = "read" := beq_iff_eq.mp o;subst pP;cases pW with
          |find k=>obtain⟨_,_,f,_⟩:=hf;cases f
          |cut k=>obtain⟨_,_,f,_⟩:=hf;cases f
          |put k u=>obtain⟨_,_,_,f,_⟩:=hf;cases f
          |str a1 b1 =>
            have t2:∀(X Y Z p6 T:DV),rs=[T,.int m,X,Y,Z,p6]->eB (Qf aK (Qf aq (Qb 4) (eC (.int 2))) (Qf aq (Qf aq (Qb 0) (Qb 1)) (eC (.int 2)))) (E v (.val (.tup (.str "read" :: rs)))) h'=some ((m:Int)==n,h'):=λX Y Z p6 T e=>QJ (JI (QN (i:=2) (ds:=.str "read" :: rs) (Qe rfl) rfl (by rw[e];rfl)) (aa _ _));by_cases F:m=n
            . subst F
              rw[hd]at C;cases C;obtain⟨hh,pp,ez,⟨f,P,e3⟩|⟨U,x,m1,m2,f,P,e3⟩⟩:=hf
              . subst e3
                rw[Ct rfl]at r3;exact absurd (r3.cl _ (Ai _ (Aq.mpr rfl))) hc
              . have R:rs=[.int hh,.int m,.int pp,.tup (aD (JR z1 (bN J m a1) U)),.int x,.int U]:=by cases f;rfl
                have tt:=t2 _ _ _ _ _ R;rw[show((m:Int)==m)=true by simp]at tt;refine⟨(.nx,E (.int U) (.val (.tup (.str "read" :: rs)))),h',(QY ((Vl (t0 _ o)).trans tt)).trans (Qw (QN (i:=6) (ds:=.str "read" :: rs) (Qe rfl) rfl (by rw[R];rfl))),.int U,_,z2,dW,_,I,r3,λa b e=>?_,rfl,rfl⟩;cases e;rw[P,K4]
            . have R:∃X Y Z p6 T:DV,rs=[T,.int m,X,Y,Z,p6]:=by
                obtain⟨hh,pp,ez,⟨f,P,e3⟩|⟨U,x,m1,m2,f,P,e3⟩⟩:=hf
                . cases f;exact⟨_,_,_,_,_,rfl⟩
                . cases f;exact⟨_,_,_,_,_,rfl⟩
              obtain⟨X,Y,Z,p6,T,R⟩:=R;have tt:=t2 _ _ _ _ _ R;rw[show((m:Int)==n)=false by simp;lia]at tt;refine⟨(.nx,E v (.val (.tup (.str "read" :: rs)))),h',(Qv ((Vl (t0 _ o)).trans tt)).trans rfl,v,_,z2,dW,_,I,r3,λa b e=>?_,rfl,rfl⟩;rw[L a b e,yo hf F]
      . rw[tY,Cq Q]at O
        have o:(wd == "read")=false:=by
          cases o:(wd == "read")with
          |false=>rfl
          |true=>rw[beq_iff_eq.mp o]at Q;exact absurd (zQ (by decide +kernel)) Q
        refine⟨(.nx,E v (.val (.tup (.str wd::rs)))),h',(Qv (jT (t0 _ o))).trans rfl,v,_,z1,J,t,?_,O,L,rfl,rfl⟩;rw[rW,List.filter_append,Cq Q,List.filter_nil,Bg];exact r1
    . obtain⟨v,r,z1,J,t,r1,O,L,rfl,rfl⟩:=zz
      rw[Ck]at O;obtain⟨rfl,rfl,rfl⟩:=O;exact⟨v,r,L,rfl,rfl⟩
  exact⟨v,L,QC (env:=E v r) ((Qi s1).trans ((Qi (Jq (JD (xM (Qe rfl) hW (Qe rfl))) e)).trans (Qz (Qe rfl))))⟩
theorem Xy{f g:au}{env:En}{U:Hs}{m:Nat}{ds:List DV}(hf:f env U=some (.tup ds,U))(a:g env U=some (.int m,U)):aZ f Q7 (QH g) env U=some (.tup (ds.take m),U):=by unfold aZ;rw[Qg hf,Qg (show Q7 env U=some (none,U)from rfl),Qg (show QH g env U=some (some (m:Int),U)by unfold QH;rw[Qg a];rfl)];show some (DV.tup (D.JE ds none (some (m:Int))),U)=_;rw[jM]
theorem J3{f g:au}{env:En}{U:Hs}{m:Nat}{ds:List DV}(hf:f env U=some (.tup ds,U))(a:g env U=some (.int m,U)):aZ f (QH g) Q7 env U=some (.tup (ds.drop m),U):=by unfold aZ;rw[Qg hf,Qg (show QH g env U=some (some (m:Int),U)by unfold QH;rw[Qg a];rfl),Qg (show Q7 env U=some (none,U)from rfl)];show some (DV.tup (D.JE ds (some (m:Int)) none),U)=_;rw[Ug]
theorem SJ(ds:List DV)(m:Nat)(h:m<ds.length):D.JE ds (some (m:Int)) (some ((m:Int)+1))=(ds.drop m).take 1:=by
 have e:((m:Int)+1)=((m+1:Nat):Int):=⋯
 unfold D.JE;rw[e,HT.sIx_nat,HT.sIx_nat,Nat.min_eq_left ⋯,Nat.min_eq_left ⋯,Nat.add_sub_cancel_left]
theorem uo{f g g':au}{env:En}{U:Hs}{m:Nat}{ds:List DV}(hf:f env U=some (.tup ds,U))(b:g env U=some (.int m,U))(a:g' env U=some (.int ((m:Int)+1),U))(h:m<ds.length):aZ f (QH g) (QH g') env U=some (.tup ((ds.drop m).take 1),U):=by unfold aZ;rw[Qg hf,Qg (show QH g env U=some (some (m:Int),U)by unfold QH;rw[Qg b];rfl),Qg (show QH g' env U=some (some ((m:Int)+1),U)by unfold QH;rw[Qg a];rfl)];show some (DV.tup (D.JE ds (some (m:Int)) (some ((m:Int)+1))),U)=_;rw[SJ ds m h]
theorem ZF{f g:au}{env:En}{U:Hs}{xs ys:List DV}(hf:f env U=some (.tup xs,U))(a:g env U=some (.tup ys,U))(b:xs.length+ys.length<=100000):Qf QP f g env U=some (.tup (xs++ys),U) :=
 Qp hf a (by show(QM (Yp (xs++ys)) >>= λ_=>pure (DV.tup (xs++ys))) U=_;rw[show Yp (xs++ys)=true from Cy (by rw[Am];exact b)];rfl)
def Xm{f:au}{env:En}{U:Hs}{x:Int}(m:Int)(a:0<m)(h:f env U=some (.int x,U)):Qf QO f (eC (.int m)) env U=some (.int (x % m),U):=Qp h rfl (Zq (Zj _ _ a) U)
theorem wY{f:au}{env:En}{w:Hs}{v:Int}(h:f env w=some (.int v,w)):∃y:Int,y≠0/\Qf aq (Zm (Qa (eC (.int 1)) (Qa (JS (eC (.int 1))) (Qj)))) (QR vD (Qa (Qf eG f (eC (.int 0))) (Qj))) env w=some (.int y,w):=by
 have g:=jZ (g:=eC (.int 0)) (j:=0) h rfl;by_cases q:0<v
 ·rw[Cy q]at g;exact⟨-1,by decide,Zp (i:=1) (ds:=[.int 1,.int (-1)]) rfl (Jd (Zd g) rfl) rfl⟩
 ·rw[C0 q]at g;exact⟨1,by decide,Zp (i:=0) (ds:=[.int 1,.int (-1)]) rfl (Jd (Zd g) rfl) rfl⟩
theorem z_(o:Option Int)(x:Int)(w:Hs):∃o':Option Int,o'≠o/\(∀v,o=some v->x % 3≠0->o'.isSome)/\Zg [opt o,.int x] w=some (opt o',w):=by
  let E:En:=[.val (opt o),.val (.int x)]
  have a:Qf QO (Qb 1) (eC (.int 3)) E w=some (.int (x % 3),w):=Xm 3 (by decide) (Qe rfl);have r:=Zv x 3 (by decide);cases o with
  |none =>
    have h:∃y:Int,Qf aq (Zm (Qa (eC (.int 0)) (Qa (eC (.int 7)) (Qa (JS (Qf Ji (eC (.int 10)) (eC (.int 30)))) (Qj))))) (Qf QO (Qb 1) (eC (.int 3))) E w=some (.int y,w):=by
      generalize x % 3=j at r a;obtain rfl|rfl|rfl:j=0∨j=1∨j=2:=⋯
      . exact⟨_,Zp (i:=0) (ds:=[.int 0,.int 7,.int (-1000000000000000000000000000000)]) rfl a rfl⟩
      . exact⟨_,Zp (i:=1) (ds:=[.int 0,.int 7,.int (-1000000000000000000000000000000)]) rfl a rfl⟩
      . exact⟨_,Zp (i:=2) (ds:=[.int 0,.int 7,.int (-1000000000000000000000000000000)]) rfl a rfl⟩
    obtain⟨y,c⟩:=h;exact⟨some y,by simp,(λv e=>by cases e),QC (env:=E) (QT ((QY (QJ (Qp (x:=.non) (y:=.non) rfl rfl rfl))).trans (Qz c)))⟩
  |some v =>
    have d:eB (Qf isD (Qb 0) (eC .non)) E w=some (false,w):=QJ (Qp (x:=.int v) (y:=.non) rfl rfl rfl);have b:=QJ (JI (g:=eC (.int 0)) (j:=0) a rfl);by_cases q:x % 3=0
    . rw[q]at b
      exact⟨none,by simp,(λ_ _ z=>absurd q z),QC (env:=E) ((Qi ((Qv d).trans rfl)).trans (QT ((QY b).trans (Qz rfl))))⟩
    . rw[show(x % 3==0)=false by simpa using q]at b
      obtain⟨y,l,c⟩:=wY (f:=Qb 0) (env:=E) (w:=w) (v:=v) (Qe rfl);exact⟨some (v+y),(λe=>l (by have:=Aj e;lia)),(λ_ _ _=>rfl),QC (env:=E) ((Qi ((Qv d).trans rfl)).trans ((Qi ((Qv b).trans rfl)).trans (Qz (Z3 (Qe rfl) c))))⟩
def ZQ(c:Zs):(aD c).length=c.length:=Bf _
def qM(a b:Zs):aD (a++b)=aD a++aD b:=List.map_append
def GC{f:au}{env:En}{U:Hs}{ds:List DV}(hf:f env U=some (.tup ds,U)):QR Zo (Qa f Qj) env U=some (.int ds.length,U):=Jd (Zd hf) rfl
theorem NT{f:au}{env:En}{U:Hs}{c:Zs}(h:f env U=some (.tup (aD c),U)):eB (Qf aK f (Q2 Qj)) env U=some (c.isEmpty,U):=by refine QJ (Qp (x:=.tup (aD c)) (y:=.tup []) h rfl ?_);unfold aK;rw[Qg (YB (xA (XQ c)) (y:=.tup []) (m:=1) (λd hd=>nomatch hd) (by decide) (by decide) U)];show some (DV.bl (PyData.eqvAll (aV (aD c)) (aV (aD []))),U)=_;rw[YY];cases c<;>simp
theorem Ij(c:Zs)(hr:aF c)(hl:c.length<50000)(k x:Int)(w:Hs):∃b:Zs,b≠c/\ZW [.tup (aD c),.int k,.int x] w=some (.tup (aD b),w):=by
 let P:DV:=.tup (aD c)
 let E:Int->Sl->Sl->En:=λk a v=>[.val P,.val (.int k),.val (.int x),a,v]
 have t0:eB (Qf aK (Qb 0) (Q2 Qj)) (E k .un .un) w=some (c.isEmpty,w):=NT (Qe rfl);by_cases J:c=[]
 ·subst J;exact⟨[(k,7)],by simp,QC (env:=E k .un .un) (QT ((QY t0).trans (Qz (Ze (ds:=[.tup [.int k,.int 7]]) (Zd (Ze (ds:=[.int k,.int 7]) (Za (Qe rfl) rfl) (by show 2<=100000;decide))) (by show 1<=100000;decide)))))⟩
 ·have ne:c.isEmpty=false:=by cases c;exact absurd rfl J;rfl
  rw[ne]at t0;have cl:0<c.length:=List.length_pos_iff.mpr J;have r5:=Zv x 5 (by decide);have ri:=Zv (x / 5) c.length ⋯;obtain⟨i,Z⟩:∃i:Nat,x / 5 % (c.length:Int)=i:=⟨_,(Int.toNat_of_nonneg ri.1).symm⟩;have hi:i<c.length:=⋯
  have s1:QG 3 (Qf QO (Qf jc (Qb 2) (eC (.int 5))) (QR Zo (Qa (Qb 0) (Qj)))) (E k .un .un) w=some ((.nx,E k (.val (.int i)) .un),w):=by
   refine Qw (Qp (x:=.int (x / 5)) (y:=.int c.length) (hp1:=w) (hp2:=w) (Qp (x:=.int x) (y:=.int 5) (Qe rfl) rfl (Zq (Um x 5 (by decide) (by decide)) w)) ?_ ?_)
   ·have:=GC (f:=Qb 0) (env:=E k .un .un) (U:=w) (ds:=aD c) (Qe rfl)
    rwa [ZQ]at this
   ·rw[<- Z];exact Zq (Zj _ _ ⋯) w
  let p:=c[i]
  have ep:(aD c)[i]?=some (.tup [.int p.1,.int p.2]):=by unfold aD;rw[Bh,Ab hi];rfl
  have s2:XT (Qf aq (Qb 0) (Qb 3)) (gT [1,4]) (E k (.val (.int i)) .un) w=some ((.nx,E p.1 (.val (.int i)) (.val (.int p.2))),w):=jA (QN (i:=i) (Qe rfl) (Qe rfl) ep) rfl
  let F:=E p.1 (.val (.int i)) (.val (.int p.2))
  have m5:Qf QO (Qb 2) (eC (.int 5)) F w=some (.int (x % 5),w):=Xm 5 (by decide) (Qe rfl);have t:∀j:Int,eB (Qf aK (Qf QO (Qb 2) (eC (.int 5))) (eC (.int j))) F w=some (x % 5==j,w):=λj=>QJ (JI m5 rfl);have pre:∀{f:aG}{r:(Fl×En)×Hs},f F w=some r->(Qx (aP (eB (Qf aK (Qb 0) (Q2 (Qj)))) (Q3 (Q2 (Qa (Q2 (Qa (Qb 1) (Qa (eC (.int 7)) (Qj)))) (Qj)))) (Zf)) (Qx (QG 3 (Qf QO (Qf jc (Qb 2) (eC (.int 5))) (QR Zo (Qa (Qb 0) (Qj))))) (Qx (XT (Qf aq (Qb 0) (Qb 3)) (gT [1,4])) f))) (E k .un .un) w=some r:=λe=>(Qi ((Qv t0).trans rfl)).trans ((Qi s1).trans ((Qi s2).trans e));have lo:aZ (Qb 0) (Q7) (QH (Qb 3)) F w=some (.tup (aD (c.take i)),w):=by
   have:=Xy (f:=Qb 0) (g:=Qb 3) (env:=F) (U:=w) (m:=i) (ds:=aD c) (Qe rfl) (Qe rfl)
   rwa [show(aD c).take i=aD (c.take i)from List.map_take.symm]at this
  have O:Qf QP (Qb 3) (eC (.int 1)) F w=some (.int ((i:Int)+1),w):=Z3 (Qe rfl) rfl;have up:aZ (Qb 0) (QH (Qf QP (Qb 3) (eC (.int 1)))) (Q7) F w=some (.tup (aD (c.drop (i+1))),w):=by
   have:=J3 (f:=Qb 0) (g:=Qf QP (Qb 3) (eC (.int 1))) (env:=F) (U:=w) (m:=i+1) (ds:=aD c) (Qe rfl) O
   rwa [show(aD c).drop (i+1)=aD (c.drop (i+1))from List.map_drop.symm]at this
  have ft:c.take i++p::c.drop (i+1)=c:=by rw[<- A8 hi];exact Bm i c
  have l1:(c.take i).length=i:=by rw[Az];lia
  have l2:(c.drop (i+1)).length=c.length-(i+1):=Be;have Q:∀(q:Int×Int),q≠p->∀{f:au},f F w=some (.tup [.tup [.int q.1,.int q.2]],w)->∃b:Zs,b≠c/\Qf QP (Qf QP (aZ (Qb 0) (Q7) (QH (Qb 3))) f) (aZ (Qb 0) (QH (Qf QP (Qb 3) (eC (.int 1)))) (Q7)) F w=some (.tup (aD b),w):=λq hq f Y=>by
   refine⟨c.take i++[q]++c.drop (i+1),λe=>?_,?_⟩
   ·have o:(c.take i++[q]++c.drop (i+1))[i]?=c[i]?:=by rw[e]
    rw[Ay,Ap ⋯,l1,Nat.sub_self,Ab hi]at o;exact hq (Aj o)
   ·rw[qM,qM];exact ZF (ys:=aD (c.drop (i+1))) (ZF (xs:=aD (c.take i)) (ys:=aD [q]) lo Y (by rw[ZQ,ZQ,l1];show i+1<=_;lia)) up (by rw[Am,ZQ,ZQ,ZQ,l1,l2];show i+1+_<=_;lia)
  by_cases R:x % 5=0
  ·have d:=t 0;rw[R]at d;refine⟨c.take i++c.drop (i+1),λe=>?_,QC (env:=F) (pre (QT ((QY d).trans (Qz ?_))))⟩
   ·have:=congrArg List.length e;rw[Am]at this;lia
   ·rw[qM];exact ZF lo up (by rw[ZQ,ZQ];lia)
  ·have d:=t 0;rw[show(x % 5==0)=false by simpa using R]at d;by_cases T:x % 5=1
   ·have l:=t 1;rw[T]at l;obtain⟨o',oo,os,eo⟩:=z_ (some p.2) 1 w;obtain⟨v,rfl⟩:=Option.isSome_iff_exists.mp (os p.2 rfl (by decide));obtain⟨b,h,I⟩:=Q (p.1,v) (λe=>oo (by rw[<- congrArg Prod.snd e])) (f:=Q2 (Qa (Q2 (Qa (Qb 1) (Qa (Qu 2 Zg (Qa (Qb 4) (Qa (eC (.int 1)) (Qj)))) (Qj)))) (Qj))) (Ze (Zd (Ze (Za (Qe rfl) (QU (Za (Qe rfl) rfl) rfl eo)) (by simp))) (by simp));exact⟨b,h,QC (env:=F) (pre ((Qi ((Qv d).trans rfl)).trans (QT ((QY l).trans (Qz I)))))⟩
   ·have l:=t 1;rw[show(x % 5==1)=false by simpa using T]at l;have C:JG (eB (Qf aK (Qf QO (Qb 2) (eC (.int 5))) (eC (.int 2)))) (eB (Qf eG (QR Zo (Qa (Qb 0) (Qj))) (eC (.int 1)))) F w=some ((x % 5==2)&&decide ((1:Int)<c.length),w):=YW (t 2) (by have:=GC (f:=Qb 0) (env:=F) (U:=w) (ds:=aD c) (Qe rfl);rw[ZQ]at this;exact QJ (jZ this rfl))
    by_cases L:((x % 5==2)&&decide ((1:Int)<c.length))=true
    ·rw[L]at C;have Tt:1<c.length:=by have:=Cz ((A4 _ _).mp L).2;lia
     refine⟨c.reverse,λe=>?_,QC (env:=F) (pre ((Qi ((Qv d).trans rfl)).trans ((Qi ((Qv l).trans rfl)).trans (QT ((QY C).trans (Qz ?_))))))⟩
     ·have o:c.reverse[0]?=c[0]?:=by rw[e]
      rw[List.getElem?_reverse ⋯,Ab ⋯,Ab ⋯]at o;have lt:=B9.mp hr 0 (c.length-1-0) ⋯ ⋯ ⋯;rw[Aj o]at lt;exact absurd lt (Int.lt_irrefl _)
     ·have:=uy (f:=Qb 0) (env:=F) (U:=w) (hp1:=w) (ds:=aD c) (Qe rfl)
      rwa [show(aD c).reverse=aD c.reverse from List.map_reverse.symm]at this
    ·rw[Bool.eq_false_iff.mpr L]at C;by_cases X:x % 5=3
     ·have z:=t 3;rw[X]at z;obtain⟨y,y0,ey⟩:=wY (f:=Qb 1) (env:=F) (w:=w) (v:=p.1) (Qe rfl);obtain⟨b,h,I⟩:=Q (p.1+y,p.2) (λe=>y0 (by have:=congrArg Prod.fst e;simp only at this;lia)) (f:=Q2 (Qa (Q2 (Qa (Qf QP (Qb 1) (Qf aq (Zm (Qa (eC (.int 1)) (Qa (JS (eC (.int 1))) (Qj)))) (QR vD (Qa (Qf eG (Qb 1) (eC (.int 0))) (Qj))))) (Qa (Qb 4) (Qj)))) (Qj))) (Ze (Zd (Ze (Za (Z3 (Qe rfl) ey) (Qe rfl)) (by simp))) (by simp));exact⟨b,h,QC (env:=F) (pre ((Qi ((Qv d).trans rfl)).trans ((Qi ((Qv l).trans rfl)).trans ((Qi ((Qv C).trans rfl)).trans (QT ((QY z).trans (Qz I)))))))⟩
     ·have z:=t 3;rw[show(x % 5==3)=false by simpa using X]at z;refine⟨c.take i++(c.drop i).take 1++c.drop i,λe=>?_,QC (env:=F) (pre ((Qi ((Qv d).trans rfl)).trans ((Qi ((Qv l).trans rfl)).trans ((Qi ((Qv C).trans rfl)).trans ((Qi ((Qv z).trans rfl)).trans (Qz ?_))))))⟩
      ·have:=congrArg List.length e;simp only[Am,Az,Be]at this;lia
      ·have n:=uo (f:=Qb 0) (g:=Qb 3) (g':=Qf QP (Qb 3) (eC (.int 1))) (env:=F) (U:=w) (m:=i) (ds:=aD c) (Qe rfl) (Qe rfl) O (by rw[ZQ];exact hi);have u:=J3 (f:=Qb 0) (g:=Qb 3) (env:=F) (U:=w) (m:=i) (ds:=aD c) (Qe rfl) (Qe rfl);rw[show(aD c).drop i=aD (c.drop i)from List.map_drop.symm]at n u;rw[show(aD (c.drop i)).take 1=aD ((c.drop i).take 1)from List.map_take.symm]at n;rw[qM,qM];have l3:((c.drop i).take 1).length<=1:=List.length_take_le _ _;have l4:(c.drop i).length=c.length-i:=Be;exact ZF (ZF lo n (by rw[ZQ,ZQ];lia)) u (by rw[Am,ZQ,ZQ,ZQ];lia)
def four:List Str:=["found", "put", "cut", "read"]
theorem qy:∀w∈four,PyData.strOk w=true/\w∈xW/\inB (.str w) jY=true:=by decide +kernel
theorem La(a:De):(four.filter λw=>w != a.mw).length=3:=by
 have q:(four.filter λ(w:Str)=>w != "found").length=3/\(four.filter λ(w:Str)=>w != "put").length=3/\(four.filter λ(w:Str)=>w != "cut").length=3/\(four.filter λ(w:Str)=>w != "read").length=3:=by decide +kernel
 cases a
 ·exact q.1
 ·exact q.2.1
 ·exact q.2.2.1
 ·exact q.2.2.2
theorem MK(a b c d e:DV)(rest:List DV):D.JE (a::b::c::d::e::rest) (some 1) (some 4)=[b,c,d]:=by unfold D.JE;rw[show(some (1:Int))=some ((1:Nat):Int)from rfl,show(some (4:Int))=some ((4:Nat):Int)from rfl,HT.sIx_nat,HT.sIx_nat,Nat.min_eq_left (by simp),Nat.min_eq_left (by simp)];rfl
theorem Rv{n:Nat}{e:De}{row h p v:DV}{rest:List DV}(I:row=.tup (.str e.mw::h::.int n::p::v::rest))(pv:Pl 2 v)(x:Int)(w:Hs) :
  ∃(wd:Str)(v':DV)(l:List DV),wd∈four/\(wd != e.mw)=true/\Z2 [row,.int x] w=some (.tup (.str wd::h::.int n::p::v'::l),w)/\Pl 2 v'/\∀y∈l,Pl 2 y:=by
 let z:=four.filter λw=>w != e.mw
 have wl:z.length=3:=La e
 let E:Sl->Sl->Sl->En:=λa b c=>[.val row,.val (.int x),a,b,c]
 let u:DV:=.lst (z.map .str)
 have i0:∀(O:En),O[0]?=some (.val row)->Qf aq (Qb 0) (eC (.int 0)) O w=some (.str e.mw,w):=λO he=>QN (i:=0) (ds:=.str e.mw::h::.int n::p::v::rest) (Qe (by rw[he,I])) rfl rfl;have hC:ZL (E .un .un .un) w=some (u,w):=by
  have Z:=Yv (U:=w) (t:=λd=>eB (Qf bU (Qb 0) (Qf aq (Qb 1) (eC (.int 0)))) (cE [0] (E .un .un .un) d)) (f:=λd=>Qb 0 (cE [0] (E .un .un .un) d)) (p:=λd=>match d with|.str x=>x != e.mw|_=>false) (four.map .str) (λd hd=>by obtain⟨y,m,rfl⟩:=Co.mp hd;exact QJ (Qp (x:=.str y) (y:=.str e.mw) (Qe rfl) (QN (i:=0) (ds:=.str e.mw::h::.int n::p::v::rest) (Qe (by rw[<- I];rfl)) rfl rfl) (lZ w (qy y m).1 e.bQ rfl))) (λd _=>rfl) (by decide)
  unfold ZL ZB;rw[Qg (JD (f:=Zm _) (ds:=four.map .str) (U:=w) (hp1:=w) rfl)];refine(Qg Z).trans ?_;show some (DV.lst ((four.map DV.str).filter _),w)=some (DV.lst (z.map DV.str),w);rw[List.filter_map];rfl
 have r3:=Zv x 3 (by decide);obtain⟨j,ej⟩:∃j:Nat,x % 3=j:=⟨_,(Int.toNat_of_nonneg r3.1).symm⟩;have T:j<z.length:=⋯
 let wd:=z[j]
 have mw:wd∈four/\(wd != e.mw)=true:=Bb.mp (Bq T);obtain⟨ok,_,_⟩:=qy wd mw.1;have Y:(z.map DV.str)[j]?=some (.str wd):=by rw[Bh,Ab T];rfl
 have s2:QG 3 (Qf aq (Qb 2) (Qf QO (Qb 1) (eC (.int 3)))) (E (.val u) .un .un) w=some ((.nx,E (.val u) (.val (.str wd)) .un),w):=Qw (Zp (i:=j) (Qe rfl) (by rw[<- ej];exact Xm 3 (by decide) (Qe rfl)) Y)
 let o:DV:=if (e.mw != "read")=true then v else .non
 have X:Pl 2 o:=by
  show Pl 2 (if (e.mw != "read")=true then v else .non);split
  ·exact pv
  ·exact zF 2
 let G:=E (.val u) (.val (.str wd)) (.val o)
 have s4:aP (eB (Qf bU (Qf aq (Qb 0) (eC (.int 0))) (eC (.str "read")))) (QG 4 (Qf aq (Qb 0) (eC (.int 4)))) (Zf) (E (.val u) (.val (.str wd)) (.val .non)) w=some ((.nx,G),w):=by
  have t:∀b,(e.mw != "read")=b->eB (Qf bU (Qf aq (Qb 0) (eC (.int 0))) (eC (.str "read"))) (E (.val u) (.val (.str wd)) (.val .non)) w=some (b,w):=λb P=>QJ (Qp (x:=.str e.mw) (y:=.str "read") (i0 _ rfl) rfl (lZ w e.bQ (by decide +kernel) P));by_cases q:(e.mw != "read")=true
  ·have L:o=v:=Ct q;show _=some ((Fl.nx,E (.val u) (.val (.str wd)) (.val o)),w);rw[L];exact(QY (t _ q)).trans (Qw (QN (i:=4) (ds:=.str e.mw::h::.int n::p::v::rest) (Qe (by rw[<- I];rfl)) rfl rfl))
  ·have L:o=.non:=Cs q;show _=some ((Fl.nx,E (.val u) (.val (.str wd)) (.val o)),w);rw[L];exact(Qv (t _ (Bool.eq_false_iff.mpr q))).trans rfl
 have Q:aZ (Qb 0) (QH (eC (.int 1))) (QH (eC (.int 4))) G w=some (.tup [h,.int n,p],w):=by unfold aZ;rw[Qg (show Qb 0 G w=some (row,w)from rfl),I];show some (DV.tup (D.JE (.str e.mw::h::.int n::p::v::rest) (some 1) (some 4)),w)=_;rw[MK]
 have R:Qf QP (Q2 (Qa (Qb 3) (Qj))) (aZ (Qb 0) (QH (eC (.int 1))) (QH (eC (.int 4)))) G w=some (.tup [.str wd,h,.int n,p],w):=ZF (xs:=[.str wd]) (ys:=[h,.int n,p]) (Ze (Zd (Qe rfl)) (by show 1<=100000;decide)) Q (by show 1+3<=100000;decide);have te:∀(y:Str)(b:Bool),PyData.strOk y=true->(wd==y)=b->eB (Qf aK (Qb 3) (eC (.str y))) G w=some (b,w):=λy b m P=>QJ (Qp (x:=.str wd) (y:=.str y) (Qe rfl) rfl (mC w ok m P));have C:PyData.strOk "read" = true/\PyData.strOk "put" = true:=by decide +kernel
 have pre:∀{f:aG} {r:(Fl×En)×Hs},f G w=some r->(Qx (QG 2 (ZL)) (Qx (QG 3 (Qf aq (Qb 2) (Qf QO (Qb 1) (eC (.int 3))))) (Qx (QG 4 (eC .non)) (Qx (aP (eB (Qf bU (Qf aq (Qb 0) (eC (.int 0))) (eC (.str "read")))) (QG 4 (Qf aq (Qb 0) (eC (.int 4)))) (Zf)) f)))) (E .un .un .un) w=some r:=λk=>(Qi (Qw hC)).trans ((Qi s2).trans ((Qi (Qw rfl)).trans ((Qi s4).trans k)));by_cases F:(wd == "read")=true
 ·exact⟨wd,.tup [],[.non,.non],mw.1,mw.2,QC (env:=G) (pre (QT ((QY (te _ _ C.1 F)).trans (Qz (ZF (ys:=[.tup [],.non,.non]) R rfl (by show 4+3<=100000;decide)))))),(λd hd=>nomatch hd),λy m=>by simp only[Ba,Bu,or_false]at m;rcases m with rfl|rfl<;>exact zF 2⟩
 ·have F:=Bool.eq_false_iff.mpr F;by_cases J:(wd == "put")=true
  ·exact⟨wd,o,[.non],mw.1,mw.2,QC (env:=G) (pre ((Qi ((Qv (te _ _ C.1 F)).trans rfl)).trans (QT ((QY (te _ _ C.2 J)).trans (Qz (ZF (ys:=[o,.non]) R (Ze (Za (Qe rfl) rfl) (by show 2<=100000;decide)) (by show 4+2<=100000;decide))))))),X,λy m=>by rw[Aq.mp m];exact zF 2⟩
  ·have J:=Bool.eq_false_iff.mpr J;exact⟨wd,o,[],mw.1,mw.2,QC (env:=G) (pre ((Qi ((Qv (te _ _ C.1 F)).trans rfl)).trans ((Qi ((Qv (te _ _ C.2 J)).trans rfl)).trans (Qz (ZF (ys:=[o]) R (Ze (Zd (Qe rfl)) (by show 1<=100000;decide)) (by show 4+1<=100000;decide)))))),X,λy m=>nomatch m⟩
theorem uH{f g h:au}{env:En}{w:Hs}{a b x:Int}(m:Int)(o:0<m)(d:m<1073741824)(l:f env w=some (.int a,w))(n:g env w=some (.int b,w))(hx:h env w=some (.int x,w)):∃c:Int,(c=a∨c=b)/\Qf aq (Zm (Qa f (Qa g (Qj)))) (Qf QO (Qf jc h (eC (.int m))) (eC (.int 2))) env w=some (.int c,w):=by
 have r:=Zv (x / m) 2 (by decide);have e:Qf QO (Qf jc h (eC (.int m))) (eC (.int 2)) env w=some (.int (x / m % 2),w):=Xm 2 (by decide) (Qp (x:=.int x) (y:=.int m) hx rfl (Zq (Um x m o d) w));generalize x / m % 2=j at r e;obtain rfl|rfl:j=0∨j=1:=⋯
 ·exact⟨a,.inl rfl,Zp (i:=0) (qF l n) e rfl⟩
 ·exact⟨b,.inr rfl,Zp (i:=1) (qF l n) e rfl⟩
def vk{z:Zs}(h:aF z)(a b:Int):aF (JR z a b):=List.Pairwise.filter _ h
theorem aL.rl{n:Int}{f:De}{row:DV}{z i:Zs}{ak h:List (Key×DV)}{d:Bool}(hf:aL n f row z ak i h d){ds:List DV}(e:row=.tup ds):ds.length<=7:=by
  cases f with
  |find k=>obtain⟨_,_,c,_⟩:=hf;rw[e]at c;cases c;simp
  |cut k=>obtain⟨_,_,c,_⟩:=hf;rw[e]at c;cases c;simp
  |put k v=>obtain⟨_,_,_,c,_⟩:=hf;rw[e]at c;cases c;simp
  |str a b =>
    obtain⟨_,_,_,⟨c,_⟩|⟨_,_,_,_,c,_⟩⟩:=hf
    . rw[e]at c;cases c;simp
    . rw[e]at c;cases c;simp
theorem uu{dd:List De}{z z':Zs}{ak aM:List (Key×DV)}{cl:List Int}{n:Nat}{l:De}{row:DV}{ae:Bool}(hf:aL n l row z ak z' aM ae)(hd:dd[n]?=some l)(dl:dd.length<=400)(hc:(n:Int)∉cl)(dk:l.ok){bg:DV}(hb:∀a b,l=.str a b->bg=.int (bN ak n a)/\a<=bN ak n a)(hr:aF z)(zl:z.length<50000)(x0 x1 x2 x3:Int)(w:Hs) :
    ∃I,ZN [row,l.dv,bg,.int dd.length,.lst [.int x0,.int x1,.int x2,.int x3]] w=some (I,w)/\ym dd z ak cl I/\aJ I/\aN I=true:=by
  obtain⟨h,p,v,rest,Z,hv⟩:=hf.word;obtain⟨⟨wd,rs,lK,mZ,T⟩,hM⟩:=hf.row;have pP:wd=l.mw/\rs=h::.int n::p::v::rest:=by rw[Z]at lK;cases lK;exact⟨rfl,rfl⟩
  obtain⟨rfl,rfl⟩:=pP;have ph:Pl 2 h:=T h (by simp);have pp:Pl 2 p:=T p (by simp);have pv:Pl 2 v:=T v (by simp);have pr:∀y∈rest,Pl 2 y:=λy U=>T y (by simp[U]);have pi:∀i:Int,Pl 2 (.int i):=λi=>JL 2 i;have ln:n<dd.length:=(Ac.mp hd).1
  let R:List DV:=.str l.mw::h::.int n::p::v::rest
  let X:DV:=.lst [.int x0,.int x1,.int x2,.int x3]
  let L:Int:=dd.length
  let k:=x0 % 5
  let E:Sl->En:=λy=>[.val row,.val l.dv,.val bg,.val (.int L),.val X,y]
  let F:=E (.val (.int k))
  have P:∀y,Qb 0 (E y) w=some (.tup R,w):=λy=>by show some (row,w)=_;rw[Z]
  have Y:Qf aq (Qb 4) (eC (.int 1)) F w=some (.int x1,w):=Zp (i:=1) (ds:=[.int x0,.int x1,.int x2,.int x3]) (Qe rfl) rfl rfl;have s1:QG 5 (Qf QO (Qf aq (Qb 4) (eC (.int 0))) (eC (.int 5))) (E .un) w=some ((.nx,F),w):=Qw (Xm 5 (by decide) (Zp (i:=0) (ds:=[.int x0,.int x1,.int x2,.int x3]) (Qe rfl) rfl rfl));have tk:∀j:Int,eB (Qf aK (Qb 5) (eC (.int j))) F w=some (k==j,w):=λj=>QJ (JI (Qe rfl) rfl);have O:∀(I:DV)(env:En)(f:aG),qk=f->f (E .un) w=some ((.rt I,env),w)->ZN [row,l.dv,bg,.int dd.length,X] w=some (I,w):=λI env f e k=>QC (env:=env) (by rw[e];exact k);have mem:∀(wd:Str)(h':DV)(m:Int)(p' v':DV)(t:List DV),wd∈xW->inB (.str wd) jY=true->Pl 2 h'->Pl 2 p'->Pl 2 v'->(∀y∈t,Pl 2 y)->aJ (.tup (.str wd::h'::.int m::p'::v'::t))/\aN (.tup (.str wd::h'::.int m::p'::v'::t))=true:=λwd h' m p' v' t hw hi h1 h2 h3 h4=>by
    refine⟨⟨wd,_,rfl,hw,λy U=>?_⟩,zQ hi⟩;simp only[Ba]at U;rcases U with rfl|rfl|rfl|rfl|U
    . exact h1
    . exact pi m
    . exact h2
    . exact h3
    . exact h4 y U
  have aa:inB (.str l.mw) jY=true:=by rw[Z]at hM;exact hM
  by_cases k0:k=0
  . have t0:=tk 0
    rw[k0]at t0;obtain⟨m,hm,em⟩:∃m:Int,¬ (0<=m/\m<dd.length)/\Qf aq (Zm (Qa (Qb 3) (Qa (JS (eC (.int 1))) (Qa (Qf Ji (eC (.int 10)) (eC (.int 20))) (Qa (Qf QP (Qb 3) (eC (.int 5))) (Qj)))))) (Qf QO (Qf aq (Qb 4) (eC (.int 1))) (eC (.int 4))) F w=some (.int m,w):=by
      have r:=Zv x1 4 (by decide);have md:=Xm 4 (by decide) Y;generalize x1 % 4=j at r md;have el:Zm (Qa (Qb 3) (Qa (JS (eC (.int 1))) (Qa (Qf Ji (eC (.int 10)) (eC (.int 20))) (Qa (Qf QP (Qb 3) (eC (.int 5))) (Qj))))) F w=some (.lst [.int L,.int (-1),.int 100000000000000000000,.int (L+5)],w):=rfl;obtain rfl|rfl|rfl|rfl:j=0∨j=1∨j=2∨j=3:=⋯
      . exact⟨L,by show ¬ (0<=(dd.length:Int)/\_);lia,Zp (i:=0) el md rfl⟩
      . exact⟨-1,⋯,Zp (i:=1) el md rfl⟩
      . exact⟨100000000000000000000,⋯,Zp (i:=2) el md rfl⟩
      . exact⟨L+5,by show ¬ (0<=(dd.length:Int)+5/\(dd.length:Int)+5<_);lia,Zp (i:=3) el md rfl⟩
    have J:Qf QP (Qf QP (aZ (Qb 0) (Q7) (QH (eC (.int 2)))) (Q2 (Qa (Qf aq (Zm (Qa (Qb 3) (Qa (JS (eC (.int 1))) (Qa (Qf Ji (eC (.int 10)) (eC (.int 20))) (Qa (Qf QP (Qb 3) (eC (.int 5))) (Qj)))))) (Qf QO (Qf aq (Qb 4) (eC (.int 1))) (eC (.int 4)))) (Qj)))) (aZ (Qb 0) (QH (eC (.int 3))) (Q7)) F w=some (.tup (.str l.mw::h::.int m::p::v::rest),w) :=
      ZF (xs:=[.str l.mw,h,.int m]) (ys:=p::v::rest) (ZF (xs:=[.str l.mw,h]) (ys:=[.int m]) (Xy (m:=2) (P _) rfl) (Ze (Zd em) (by show 1<=100000;decide)) (by show 2+1<=100000;decide)) (J3 (m:=3) (P _) rfl) (by have:=hf.rl Z;simp at this ⊢;lia)
    refine⟨_,O _ F _ rfl ((Qi s1).trans (QT ((QY t0).trans (Qz J)))),⟨l.mw,h,m,p,v,rest,rfl,l.bQ,.inl hm⟩,mem _ _ _ _ _ _ mZ aa ph pp pv pr⟩
  . have t0:=tk 0
    rw[show(k==0)=false by simpa using k0]at t0;by_cases k1:k=1
    . have t1:=tk 1
      rw[k1]at t1;obtain⟨wd,v',t,m1,m2,ew,Ef,Eh⟩:=Rv Z pv x1 w;refine⟨_,O _ F _ rfl ((Qi s1).trans ((Qi ((Qv t0).trans rfl)).trans (QT ((QY t1).trans (Qz (QU (Za (Qe rfl) Y) rfl ew)))))),⟨wd,h,n,p,v',t,rfl,(qy wd m1).1,.inr ⟨n,rfl,ln,.inr ⟨hc,l,hd,.inl m2⟩⟩⟩,mem _ _ _ _ _ _ (qy wd m1).2.1 (qy wd m1).2.2 ph pp Ef Eh⟩
    . have t1:=tk 1
      rw[show(k==1)=false by simpa using k1]at t1;have i0:Qf aq (Qb 0) (eC (.int 0)) F w=some (.str l.mw,w):=QN (i:=0) (P _) rfl rfl;have t2:∀b,(l.mw != "read")=b->eB (Qf bU (Qf aq (Qb 0) (eC (.int 0))) (eC (.str "read"))) F w=some (b,w):=λb hb=>QJ (Qp (x:=.str l.mw) (y:=.str "read") i0 rfl (lZ w l.bQ (by decide +kernel) hb));have key:(∀a b,l≠.str a b)->(l.mw != "read")=true->(∀o,o≠Jh z l.key->KZ z ak n l (opt o) rest)->∃I,ZN [row,l.dv,bg,.int dd.length,.lst [.int x0,.int x1,.int x2,.int x3]] w=some (I,w)/\ym dd z ak cl I/\aJ I/\aN I=true:=λns q hW=>by
        obtain⟨ev,_⟩:=hv ns;subst ev;obtain⟨o',oo,_,eo⟩:=z_ (Jh z l.key) x1 w;have J:Qf QP (Qf QP (aZ (Qb 0) (Q7) (QH (eC (.int 4)))) (Q2 (Qa (Qu 2 Zg (Qa (Qf aq (Qb 0) (eC (.int 4))) (Qa (Qf aq (Qb 4) (eC (.int 1))) (Qj)))) (Qj)))) (aZ (Qb 0) (QH (eC (.int 5))) (Q7)) F w=some (.tup (.str l.mw::h::.int n::p::opt o'::rest),w) :=
          ZF (xs:=[.str l.mw,h,.int n,p,opt o']) (ys:=rest) (ZF (xs:=[.str l.mw,h,.int n,p]) (ys:=[opt o']) (Xy (m:=4) (P _) rfl) (Ze (Zd (QU (Za (QN (i:=4) (P _) rfl rfl) Y) rfl eo)) (by show 1<=100000;decide)) (by show 4+1<=100000;decide)) (J3 (m:=5) (P _) rfl) (by have:=hf.rl Z;simp at this ⊢;lia)
        refine⟨_,O _ F _ rfl ((Qi s1).trans ((Qi ((Qv t0).trans rfl)).trans ((Qi ((Qv t1).trans rfl)).trans (QT ((QY (t2 _ q)).trans (Qz J)))))),⟨l.mw,h,n,p,opt o',rest,rfl,l.bQ,.inr ⟨n,rfl,ln,.inr ⟨hc,l,hd,.inr ⟨rfl,hW o' oo⟩⟩⟩⟩,mem _ _ _ _ _ _ mZ aa ph pp (KC 2 o') pr⟩
      cases l with
      |find k=>exact key (by simp) (show(("found" : Str) != "read")=true by decide +kernel) λo ho=>⟨o,rfl,ho⟩
      |put k u=>exact key (by simp) (show(("put" : Str) != "read")=true by decide +kernel) λo ho=>⟨o,rfl,ho⟩
      |cut k=>exact key (by simp) (show(("cut" : Str) != "read")=true by decide +kernel) λo ho=>⟨o,rfl,ho⟩
      |str a b =>
        obtain⟨eb,ab⟩:=hb a b rfl;have bb:b<=1000000000000000000000000000000:=dk;obtain⟨c,X5,d,ev,nq,C⟩:∃(c:Zs)(X5 d:DV),v=.tup (aD c)/\rest=[X5,d]/\((d=.non/\c=JR z (bN ak n a) b)∨∃m,d=.int m/\bN ak n a<m/\m<b/\c=JR z (bN ak n a) m):=by
          obtain⟨_,_,_,⟨Q,_⟩|⟨m,x,m1,m2,Q,_⟩⟩:=hf
          . rw[Z]at Q;cases Q;exact⟨_,_,_,rfl,rfl,.inl ⟨rfl,rfl⟩⟩
          . rw[Z]at Q;cases Q;exact⟨_,_,_,rfl,rfl,.inr ⟨m,rfl,m1,m2,rfl⟩⟩
        subst ev nq;have rc:aF c:=by rcases C with ⟨_,rfl⟩|⟨m,_,_,_,rfl⟩<;>exact vk hr _ _
        have lc:c.length<50000:=by
          have l1:∀g e,(JR z g e).length<=z.length:=λg e=>Br _ _;rcases C with ⟨_,rfl⟩|⟨m,_,_,_,rfl⟩
          . have:=l1 (bN ak n a) b;lia
          . have:=l1 (bN ak n a) m;lia
        have q2:=t2 false (show(("read" : Str) != "read")=false by decide +kernel);have pre:∀{f:aG} {r:(Fl×En)×Hs},f F w=some r->(Qx (QG 5 (Qf QO (Qf aq (Qb 4) (eC (.int 0))) (eC (.int 5)))) (Qx (aP (eB (Qf aK (Qb 5) (eC (.int 0)))) (Q3 (Qf QP (Qf QP (aZ (Qb 0) (Q7) (QH (eC (.int 2)))) (Q2 (Qa (Qf aq (Zm (Qa (Qb 3) (Qa (JS (eC (.int 1))) (Qa (Qf Ji (eC (.int 10)) (eC (.int 20))) (Qa (Qf QP (Qb 3) (eC (.int 5))) (Qj)))))) (Qf QO (Qf aq (Qb 4) (eC (.int 1))) (eC (.int 4)))) (Qj)))) (aZ (Qb 0) (QH (eC (.int 3))) (Q7)))) (Zf)) (Qx (aP (eB (Qf aK (Qb 5) (eC (.int 1)))) (Q3 (Qu 2 Z2 (Qa (Qb 0) (Qa (Qf aq (Qb 4) (eC (.int 1))) (Qj))))) (Zf)) (Qx (aP (eB (Qf bU (Qf aq (Qb 0) (eC (.int 0))) (eC (.str "read")))) (Q3 (Qf QP (Qf QP (aZ (Qb 0) (Q7) (QH (eC (.int 4)))) (Q2 (Qa (Qu 2 Zg (Qa (Qf aq (Qb 0) (eC (.int 4))) (Qa (Qf aq (Qb 4) (eC (.int 1))) (Qj)))) (Qj)))) (aZ (Qb 0) (QH (eC (.int 5))) (Q7)))) (Zf)) f)))) (E .un) w=some r:=λe=>(Qi s1).trans ((Qi ((Qv t0).trans rfl)).trans ((Qi ((Qv t1).trans rfl)).trans ((Qi ((Qv q2).trans rfl)).trans e)));have fit:∀(ps:Zs)(x d:DV),Pl 2 x->Pl 2 d->KZ z ak n (.str a b) (.tup (aD ps)) [x,d]->ym dd z ak cl (.tup [.str (De.str a b).mw,h,.int n,p,.tup (aD ps),x,d])/\aJ (.tup [.str (De.str a b).mw,h,.int n,p,.tup (aD ps),x,d])/\aN (.tup [.str (De.str a b).mw,h,.int n,p,.tup (aD ps),x,d])=true:=λps x d px pa hW =>
          ⟨⟨(De.str a b).mw,h,n,p,.tup (aD ps),[x,d],rfl,De.bQ _,.inr ⟨n,rfl,ln,.inr ⟨hc,_,hd,.inr ⟨rfl,hW⟩⟩⟩⟩,mem _ _ _ _ _ _ mZ aa ph pp (xA (XQ ps)) λy U=>by
            simp only[Ba,Bu,or_false]at U;rcases U with rfl|rfl
            . exact px
            . exact pa⟩
        have pX:Pl 2 X5:=pr X5 (by simp);have pA:Pl 2 d:=pr d (by simp);have a1:Qf aq (Qb 1) (eC (.int 1)) F w=some (.int a,w):=QN (i:=1) (ds:=[.str "stretch", .int a,.int b]) (Qe rfl) rfl rfl;have a2:Qf aq (Qb 1) (eC (.int 2)) F w=some (.int b,w):=QN (i:=2) (ds:=[.str "stretch", .int a,.int b]) (Qe rfl) rfl rfl;obtain⟨nb,n6⟩:∃nb,eB (Qf isD (Qf aq (Qb 0) (eC (.int 6))) (eC .non)) F w=some (nb,w):=by
          have e6:Qf aq (Qb 0) (eC (.int 6)) F w=some (d,w):=QN (i:=6) (P _) rfl rfl;rcases C with ⟨rfl,_⟩|⟨m,rfl,_⟩
          . exact⟨_,QJ (Qp (x:=.non) (y:=.non) e6 rfl rfl)⟩
          . exact⟨_,QJ (Qp (x:=.int m) (y:=.non) e6 rfl rfl)⟩
        have c1:JG (eB (Qf aK (Qb 5) (eC (.int 2)))) (JG (eB (Qf isD (Qf aq (Qb 0) (eC (.int 6))) (eC .non))) (eB (Qf aK (Qf QO (Qf aq (Qb 4) (eC (.int 1))) (eC (.int 2))) (eC (.int 0))))) F w=some ((k==2)&&(nb&&(x1 % 2==0)),w):=YW (tk 2) (YW n6 (QJ (JI (Xm 2 (by decide) Y) rfl)));have c2:JG (eB (Qf cj (Qb 5) (eC (.int 4)))) (eB (Qf eG (Qf QO (Qf aq (Qb 4) (eC (.int 1))) (eC (.int 3))) (eC (.int 0)))) F w=some (decide (k<4)&&decide (0<x1 % 3),w):=YW (QJ (xi (Qe rfl) rfl)) (QJ (jZ (Xm 3 (by decide) Y) rfl));by_cases g1:((k==2)&&(nb&&(x1 % 2==0)))=true
        . rw[g1]at c1
          have r9:=Zv x1 9 (by decide);have mn:QR Ku (Qa (Qf Ji (eC (.int 10)) (eC (.int 30))) (Qa (Qf QP (Qf QP (Qf aq (Qb 1) (eC (.int 2))) (eC (.int 1))) (Qf QO (Qf aq (Qb 4) (eC (.int 1))) (eC (.int 9)))) (Qj))) F w=some (.int (if b+1+x1 % 9<1000000000000000000000000000000 then b+1+x1 % 9 else 1000000000000000000000000000000),w):=Jd (Za (v:=.int 1000000000000000000000000000000) (v':=.int (b+1+x1 % 9)) rfl (Z3 (Z3 a2 rfl) (Xm 9 (by decide) Y))) rfl;obtain⟨m,hm,em⟩:=uH (x:=x1) 2 (by decide) (by decide) a2 mn Y;have mb:b<=m:=by
            rcases hm with rfl|rfl
            . exact Bc _
            . split<;>lia
          have J:Qf QP (aZ (Qb 0) (Q7) (QH (eC (.int 5)))) (Q2 (Qa (eC (.int 3)) (Qa (Qf aq (Zm (Qa (Qf aq (Qb 1) (eC (.int 2))) (Qa (QR Ku (Qa (Qf Ji (eC (.int 10)) (eC (.int 30))) (Qa (Qf QP (Qf QP (Qf aq (Qb 1) (eC (.int 2))) (eC (.int 1))) (Qf QO (Qf aq (Qb 4) (eC (.int 1))) (eC (.int 9)))) (Qj)))) (Qj)))) (Qf QO (Qf jc (Qf aq (Qb 4) (eC (.int 1))) (eC (.int 2))) (eC (.int 2)))) (Qj)))) F w=some (.tup [.str (De.str a b).mw,h,.int n,p,.tup (aD c),.int 3,.int m],w) :=
            ZF (xs:=[.str (De.str a b).mw,h,.int n,p,.tup (aD c)]) (ys:=[.int 3,.int m]) (Xy (m:=5) (P _) rfl) (Ze (Za rfl em) (by show 2<=100000;decide)) (by show 5+2<=100000;decide)
          exact⟨_,O _ F _ rfl (pre (QT ((QY c1).trans (Qz J)))),fit c _ _ (pi 3) (pi m) ⟨c,_,_,rfl,rfl,.inl ⟨m,rfl,λz=>⋯⟩⟩⟩
        . rw[Bool.eq_false_iff.mpr g1]at c1
          by_cases g2:(decide (k<4)&&decide (0<x1 % 3))=true
          . rw[g2]at c2
            obtain⟨m,hm,em⟩:=uH (f:=Qb 2) (a:=bN ak n a) (x:=x1) 6 (by decide) (by decide) (show Qb 2 F w=some (.int (bN ak n a),w)by rw[<- eb];rfl) a1 Y;have J:Qf QP (aZ (Qb 0) (Q7) (QH (eC (.int 4)))) (Q2 (Qa (Q2 (Qj)) (Qa (eC (.int 3)) (Qa (Qf aq (Zm (Qa (Qb 2) (Qa (Qf aq (Qb 1) (eC (.int 1))) (Qj)))) (Qf QO (Qf jc (Qf aq (Qb 4) (eC (.int 1))) (eC (.int 6))) (eC (.int 2)))) (Qj))))) F w=some (.tup [.str (De.str a b).mw,h,.int n,p,.tup (aD []),.int 3,.int m],w) :=
              ZF (xs:=[.str (De.str a b).mw,h,.int n,p]) (ys:=[.tup [],.int 3,.int m]) (Xy (m:=4) (P _) rfl) (Ze (Xo rfl rfl em) (by show 3<=100000;decide)) (by show 4+3<=100000;decide)
            exact⟨_,O _ F _ rfl (pre ((Qi ((Qv c1).trans rfl)).trans (QT ((QY c2).trans (Qz J))))),fit [] _ _ (pi 3) (pi m) ⟨[],_,_,rfl,rfl,.inl ⟨m,rfl,λz=>by rcases hm with rfl|rfl<;>lia⟩⟩⟩
          . rw[Bool.eq_false_iff.mpr g2]at c2
            obtain⟨c',ad,eo⟩:=Ij c rc lc a x1 w;have J:Qf QP (Qf QP (aZ (Qb 0) (Q7) (QH (eC (.int 4)))) (Q2 (Qa (Qu 3 ZW (Qa (Qf aq (Qb 0) (eC (.int 4))) (Qa (Qf aq (Qb 1) (eC (.int 1))) (Qa (Qf aq (Qb 4) (eC (.int 1))) (Qj))))) (Qj)))) (aZ (Qb 0) (QH (eC (.int 5))) (Q7)) F w=some (.tup [.str (De.str a b).mw,h,.int n,p,.tup (aD c'),X5,d],w) :=
              ZF (xs:=[.str (De.str a b).mw,h,.int n,p,.tup (aD c')]) (ys:=[X5,d]) (ZF (xs:=[.str (De.str a b).mw,h,.int n,p]) (ys:=[.tup (aD c')]) (Xy (m:=4) (P _) rfl) (Ze (Zd (QU (Xo (QN (i:=4) (P _) rfl rfl) a1 Y) rfl eo)) (by show 1<=100000;decide)) (by show 4+1<=100000;decide)) (J3 (m:=5) (P _) rfl) (by show 5+2<=100000;decide)
            refine⟨_,O _ F _ rfl (pre ((Qi ((Qv c1).trans rfl)).trans ((Qi ((Qv c2).trans rfl)).trans (Qz J)))),fit c' _ _ pX pA ⟨c',_,_,rfl,rfl,.inr ?_⟩⟩;rcases C with ⟨Q,J⟩|⟨m,Q,m1,m2,J⟩
            . exact .inl ⟨Q,by rw[<- J];exact ad⟩
            . exact .inr ⟨m,Q,m1,m2,by rw[<- J];exact ad⟩
theorem kP{U:Hs}{a i:Nat}{ds:List DV}{d:DV}(h:U[a]?=some (.lst ds))(hi:i<ds.length):nY (.ref a) (.int (i:Int)) d U=some ((),U.set a (.lst (ds.set i d))):=by show(Zi a >>= _) U=_;rw[Qg (Q6 h)];show(f9 (.int (i:Int)) >>= λk=>match ixN ds.length k with|some j=>qW a (.lst (ds.set j d))|none=>failure) U=_;simp only[f9,C1,RW hi];rfl
theorem Ot{e o j:au}{env:En}{U:Hs}{a n:Nat}{ds:List DV}{d:DV}(b:e env U=some (d,U))(i:o env U=some (.ref a,U))(c:j env U=some (.int (n:Int),U))(h:U[a]?=some (.lst ds))(f:n<ds.length):XT e (fu o j) env U=some ((.nx,env),U.set a (.lst (ds.set n d))):=by refine jA b ?_;unfold fu;rw[Qg i,Qg c,Qg (kP (d:=d) h f)];rfl
theorem Run.join{dd:List De}:∀{xs ys:List DV}{z:Zs}{ak:List (Key×DV)}{cl:List Int}{z1:Zs}{b:List (Key×DV)}{a:List Int}{f:Zs}{d:List (Key×DV)}{e:List Int},Run dd xs z ak cl z1 b a->Run dd ys z1 b a f d e->Run dd (xs++ys) z ak cl f d e
 | [],_,_,_,_,_,_,_,_,_,_,⟨j,l,m⟩,h=>by subst j l m;exact h
 |_::_,_,_,_,_,_,_,_,_,_,_,⟨n,i,z1,b,c,o,q,r,t⟩,h=>⟨n,i,z1,b,c,o,q,r,t.join h⟩
theorem gK{d:DV}(h:aJ d)(w:Hs):ZD [d] w=some (.bl (aN d),w):=by obtain⟨x,rest,rfl,b,a⟩:=h;exact QC (env:=[.val (.tup (.str x::rest))]) (Qz (Qp (x:=.str x) (y:=.tup jY) (QN (i:=0) (ds:=.str x::rest) (Qe rfl) rfl rfl) rfl (gG rfl (by decide) w)))
theorem Ls(n:Nat):Zy 0 n=(List.range n).map λ(i:Nat)=>DV.int (i:Int):=by unfold Zy;refine List.map_congr_left λi _=>?_;rw[Int.zero_add]
theorem v0{rr:List DV}{w:Hs}(a:w[2]?=some (.lst rr))(n:∀d∈rr,aJ d)(rl:rr.length<=5000){env:En}(b:env[5]?=some (.val (.ref 2))):yS env w=some (.lst ((cP rr).map λ(i:Nat)=>DV.int (i:Int)),w):=by
 have h:∀d,cE [5] env d=[.val d,.val (.ref 2)]:=λd=>by simp[cE,b];rfl
 have j:=Yv (U:=w) (t:=λd=>eB (Qu 1 ZD (Qa (Qf aq (Qb 1) (Qb 0)) (Qj))) (cE [5] env d)) (f:=λd=>Qb 0 (cE [5] env d)) (p:=λd=>match d with|.int i=>aN (rr.getD i.toNat .non)|_=>false) (Zy 0 rr.length) (λd hd=>by
  obtain⟨i,hi⟩:=List.mem_iff_getElem?.mp hd;obtain⟨c,rfl⟩:=YI hi;rw[h];have e:=Ab c;have l:aN (rr.getD ((i:Int)).toNat .non)=aN rr[i]:=by rw[Bo,B8,e];rfl
  show _=some (aN (rr.getD ((i:Int)).toNat .non),w);rw[l];exact QJ (QU (Zd (Yd (i:=i) (Qe rfl) a (Qe rfl) e)) rfl (gK (n _ (Bq c)) w))) (λd _=>by rw[h];rfl) (by rw[ZR];lia)
 unfold yS ZB;rw[Qg (zL (YD (m:=rr.length) (Zd (qE (Qe b) a)) ⋯))];refine(Qg j).trans ?_;show some (DV.lst ((Zy 0 rr.length).filter _),w)=_;rw[Ls,List.filter_map];unfold cP;rfl
theorem R9(c:Int){ns:List Int}(e:Zt [.lst (ns.map .int),.int (2:Nat)]=pure (.int c))(w:Hs){env:En}(h:env[0]?=some (.val (.lst (ns.map .int)))):Yt env w=some (.lst [.int (Qy c 0),.int (Qy c 1),.int (Qy c 2),.int (Qy c 3)],w):=by
 have a:∀d,cE [0] env d=[.val d,.val (.lst (ns.map .int))]:=λd=>by simp[cE,h];rfl
 have b:=vj (U:=w) (t:=λd=>nH (cE [0] env d)) (f:=λd=>Qu 2 Qo (Qa (Qu 2 Zt (Qa (Qb 1) (Qa (eC (.int 2)) (Qj)))) (Qa (Qb 0) (Qj))) (cE [0] env d)) (g:=λd=>match d with|.int i=>.int (Qy c i)|_=>.non) (Zy 0 4) (λd _=>rfl) (λd hd=>by obtain⟨i,hi⟩:=List.mem_iff_getElem?.mp hd;obtain⟨j,rfl⟩:=YI hi;rw[a];exact QU (Za (QU (Za (Qe rfl) rfl) rfl (Zq e w)) (Qe rfl)) rfl (Zq (ZZ c i ⋯ ⋯) w)) (by decide)
 unfold Yt ZB;rw[Qg (zL (YD (m:=4) (Zd rfl) (by decide)))];exact(Qg b).trans rfl
theorem PB{T:Nat}{w:Hs}{kvs:List (Key×DV)}{z:Zs}(b:w[T]?=some (.aB kvs))(dz:Dz kvs z)(e:aF z)(j:z.length<50000){env:En}(c:env[2]?=some (.val (.ref T))):yT env w=some (.lst (aD z),w):=by
 have h:∀d,cE [2] env d=[.val d,.val (.ref T)]:=λd=>by simp[cE,c];rfl
 have a:=Ud (t:=λd=>nH (cE [2] env d)) (f:=λd=>Q2 (Qa (Qb 0) (Qa (Qf aq (Qb 1) (Qb 0)) (Qj))) (cE [2] env d)) (U:=w) z (λ_=>true) (λq _=>rfl) (λq i=>by rw[h];exact Ze (Za (Qe rfl) (Qp (x:=.ref T) (y:=.int q.1) (Qe rfl) (Qe rfl) (VA b (dz.val e i)))) (by simp)) ⋯
 rw[List.filter_eq_self.mpr (λ_ _=>rfl)]at a;unfold yT ZB;rw[Qg (JD (GZ dz e (Qe c) b))];exact(Qg a).trans rfl
theorem UG{rr:List DV}{W:Hs}{i:Nat}{row:DV}(l:W[2]?=some (.lst rr))(hi:rr[i]?=some row)(v:∀d∈rr,aJ d)(rl:rr.length<=5000)(x:Int):∃pl,i<pl/\pl<=rr.length/\Jc [.ref 2,.int i,.int x] W=some (.tup [.lst (rr.take pl++[row]++rr.drop pl),.int ((rr.take pl).filter aN).length],W):=by
 have I:i<rr.length:=(Ac.mp hi).1;have r:=Zv x ((rr.length:Int)-i) ⋯;obtain⟨j,o⟩:∃j:Nat,x % ((rr.length:Int)-i)=j:=⟨_,(Int.toNat_of_nonneg r.1).symm⟩
 let pl:=i+1+j
 have U:pl<=rr.length:=by show i+1+j<=_;lia
 refine⟨pl,by show i<i+1+j;lia,U,?_⟩
 let E:Sl->Sl->En:=λa b=>[.val (.ref 2),.val (.int i),.val (.int x),a,b]
 have z:QG 3 (Qf QP (Qf QP (Qb 1) (eC (.int 1))) (Qf QO (Qb 2) (Qf qb (QR Zo (Qa (Qb 0) (Qj))) (Qb 1)))) (E .un .un) W=some ((.nx,E (.val (.int pl)) .un),W):=by
  have e:((i:Int)+1+x % ((rr.length:Int)-i))=(pl:Int):=by rw[o];show _=((i+1+j:Nat):Int);lia
  rw[<- e];exact Qw (Z3 (Z3 (Qe rfl) rfl) (Qp (x:=.int x) (y:=.int ((rr.length:Int)-i)) (Qe rfl) (jD (qE (Qe rfl) l) (Qe rfl)) (Zq (Zj _ _ ⋯) W)))
 have c:Jl (E (.val (.int pl)) .un) W=some (.lst ((rr.take pl).filter aN),W):=by have m:=Yv (U:=W) (t:=λd=>eB (Qu 1 ZD (Qa (Qb 0) (Qj))) (cE [] (E (.val (.int pl)) .un) d)) (f:=λd=>Qb 0 (cE [] (E (.val (.int pl)) .un) d)) (p:=aN) (rr.take pl) (λd hd=>QJ (QU (Zd (Qe rfl)) rfl (gK (v d (Bj hd)) W))) (λd _=>rfl) (by rw[Az];lia);unfold Jl ZB;rw[Qg (JD (xM (Qe rfl) l (Qe rfl)))];exact(Qg m).trans rfl
 have C:=Qw (i:=4) (env:=E (.val (.int pl)) .un) (Xl c)
 let F:=E (.val (.int pl)) (.val (.int ((rr.take pl).filter aN).length))
 have h:∀{f g:au}{xs ys:List DV},f F W=some (.lst xs,W)->g F W=some (.lst ys,W)->xs.length+ys.length<=100000->Qf QP f g F W=some (.lst (xs++ys),W):=λ{f g xs ys} hf q u=>Qp hf q (by show(QM (Yp (xs++ys)) >>= λ_=>pure (DV.lst (xs++ys))) W=_;rw[show Yp (xs++ys)=true from Cy (by rw[Am];exact u)];rfl)
 have n:Zm (Qa (Qf aq (Qb 0) (Qb 1)) (Qj)) F W=some (.lst [row],W):=by unfold Zm;rw[Qg (Zd (Yd (i:=i) (Qe rfl) l (Qe rfl) hi))];rfl
 have l1:(rr.take pl).length=pl:=by rw[Az];lia
 exact QC (env:=F) ((Qi z).trans ((Qi C).trans (Qz (Ze (Za (h (h (xM (Qe rfl) l (Qe rfl)) n (by rw[l1];simp;lia)) (KK (Qe rfl) l (Qe rfl)) (by rw[Am,l1,Be];simp;lia)) (Qe rfl)) (by simp)))))
theorem Gc{x y:DV}{n:Nat}{U:Hs}(hx:Pl n x)(b:n<40)(e:bH 40 U y=some x):Yb x y U=some (true,U)/\Yb y x U=some (true,U):=by have s:=zo hx b U;have a:=qv hx b U;unfold Yb at s ⊢;rw[Qg (J5 a),Qg (J5 a)]at s;rw[Qg (J5 a),Qg (J5 e),Qg (J5 e),Qg (J5 a)];exact⟨s,s⟩
theorem De.pl(d:De):Pl 1 d.dv:=by
 have a:∀i:Int,Pl 0 (.int i):=λi=>JL 0 i;obtain⟨rest,e⟩:=d.shape;cases d<;>(refine xA λx hx=>?_;simp only[Ba,Bu,or_false]at hx;rcases hx with rfl|hx)
 ·exact Y5 (De.dB (.find 0))
 ·rw[hx];exact a _
 ·exact Y5 (De.dB (.put 0 0))
 ·rcases hx with rfl|rfl<;>exact a _
 ·exact Y5 (De.dB (.cut 0))
 ·rw[hx];exact a _
 ·exact Y5 (De.dB (.str 0 0))
 ·rcases hx with rfl|rfl<;>exact a _
theorem Iu{U:Hs}{rr aA a:List DV}{r:DV}(n:r=.lst rr∨(r=.ref 2/\U[2]?=some (.lst rr)))(l:U[1]?=some (.lst aA))(b:∀d∈rr,Pl 3 d)(c:∀d∈aA,Pl 3 d)(e:∀d∈a,Pl 3 d):Yb (.lst [.lst rr,.lst aA,.lst a]) (.lst [r,.ref 1,.lst a]) U=some (true,U):=by
 have o:Pl 5 (.lst [.lst rr,.lst aA,.lst a]):=λd hd=>by
  simp only[Ba,Bu,or_false]at hd;rcases hd with rfl|rfl|rfl
  ·exact b
  ·exact c
  ·exact e
 have lst:∀ds:List DV,(∀d∈ds,Pl 3 d)->(ds.mapM (bH 38 U)).map DV.lst=some (.lst ds):=λds h=>by rw[JV λd hd=>zi 3 d 34 U (h d hd)];rfl
 have i:bH 39 U r=some (.lst rr):=by
  rcases n with rfl|⟨rfl,m⟩
  ·exact lst rr b
  ·show(match U[2]? with|some (.lst ds)=>(ds.mapM (bH 38 U)).map DV.lst|_=>none)=_;rw[m];exact lst rr b
 have f:bH 39 U (.ref 1)=some (.lst aA):=by show(match U[1]? with|some (.lst ds)=>(ds.mapM (bH 38 U)).map DV.lst|_=>none)=_;rw[l];exact lst aA c
 have j:bH 39 U (.lst a)=some (.lst a):=lst a e;refine(Gc o (by decide) ?_).1;show([r,.ref 1,.lst a].mapM (bH 39 U)).map DV.lst=_;simp only[List.mapM_cons,List.mapM_nil,f,i,j];rfl
theorem NZ{U:Hs}{A:Nat}{z:Zs}(h:U[A]?=some (.lst (aD z))):aK (.tup [.str "fits", .ref A]) (.tup [.str "fits", .lst (aD z)]) U=some (.bl true,U):=by
 have ok:PyData.strOk "fits" = true:=by decide +kernel
 have c:Pl 4 (.tup [.str "fits", .lst (aD z)]):=λd hd=>by
  simp only[Ba,Bu,or_false]at hd;rcases hd with rfl|rfl
  ·exact Y5 ok
  ·exact λd hd=>(XQ z d hd).mono (by decide)
 have b:bH 39 U (.ref A)=some (.lst (aD z)):=by show(match U[A]? with|some (.lst ds)=>(ds.mapM (bH 38 U)).map DV.lst|_=>none)=_;rw[h];show((aD z).mapM (bH 38 U)).map DV.lst=_;rw[JV λd hd=>zi 1 d 36 U (XQ z d hd)];rfl
 have a:bH 39 U (.str "fits")=some (.str "fits"):=rfl;unfold aK;rw[Qg (Gc c (by decide) (show bH 40 U (.tup [.str "fits", .ref A])=_ from by show([DV.str "fits", .ref A].mapM (bH 39 U)).map DV.tup=_;simp only[List.mapM_cons,List.mapM_nil,b,a];rfl)).2]
 rfl
theorem g8{n:Nat}{U:Hs}{ds:List DV}(h:U[n]?=some (.lst ds)):JZ [.ref n] U=some (.lst ds,U):=by
 have e:n8 (.ref n) U=some (ds,U):=by show(Zi n >>= _) U=_;rw[Qg (Q6 h)];rfl
 show(n8 (.ref n) >>= _) U=_;rw[Qg e];rfl
theorem G3{rr:List DV}{dd:List De}{z0:Zs}{k:Nat}{r:DV}{W l:Hs}{S P:DV}{e6 e7 e9 e10 lO:Sl}(j:Z6 [.lst rr,.lst (dd.map De.dv),.lst (aD z0)] W=some (.tup [.str "unfit", .int k],W++l))(n:QR JZ (Qa (Qb 5) (Qj)) [.val S,.val P,.val (.ref 0),.val (.lst (aD z0)),.val (.ref 1),.val r,e6,e7,.val (.int k),e9,e10,.un,.un,lO] W=some (.lst rr,W))(q:r=.lst rr∨(r=.ref 2/\W[2]?=some (.lst rr)))(h:W[1]?=some (.lst (dd.map De.dv)))(v:∀d∈rr,aJ d) :
  ∃U env,(Qx (QG 11 (Zm (Qa (QR JZ (Qa (Qb 5) (Qj))) (Qa (QR JZ (Qa (Qb 4) (Qj))) (Qa (QR JZ (Qa (Qb 3) (Qj))) (Qj)))))) (Qx (QG 12 (Qu 3 Z6 (Qa (Qf aq (Qb 11) (eC (.int 0))) (Qa (Qf aq (Qb 11) (eC (.int 1))) (Qa (Qf aq (Qb 11) (eC (.int 2))) (Qj)))))) (Qx (aP (cB (XE (eB (jd "tuple" (Qb 12)))) (cB (eB (Qf bU (QR Zo (Qa (Qb 12) (Qj))) (eC (.int 2)))) (cB (eB (jd "bool" (Qf aq (Qb 12) (eC (.int 1))))) (eB (Qf bU (Qb 12) (Q2 (Qa (eC (.str "unfit")) (Qa (Qb 8) (Qj))))))))) (Q3 (eC (.bl false))) (Zf)) (Q3 (Qf aK (Qb 11) (Zm (Qa (Qb 5) (Qa (Qb 4) (Qa (Qb 3) (Qj)))))))))) [.val S,.val P,.val (.ref 0),.val (.lst (aD z0)),.val (.ref 1),.val r,e6,e7,.val (.int k),e9,e10,.un,.un,lO] W=some ((.rt (.bl true),env),U):=by
 let aA:=dd.map De.dv
 let T:DV:=.lst (aD z0)
 let H:DV:=.lst [.lst rr,.lst aA,T]
 let f:DV:=.tup [.str "unfit", .int k]
 let E:Sl->Sl->En:=λa b=>[.val S,.val P,.val (.ref 0),.val T,.val (.ref 1),.val r,e6,e7,.val (.int k),e9,e10,a,b,lO]
 let c:=W++l
 have m:c[1]?=some (.lst aA):=gB h;have gr:r=.lst rr∨(r=.ref 2/\c[2]?=some (.lst rr)):=q.imp_right λz=>⟨z.1,gB z.2⟩;have ld:QR JZ (Qa (Qb 4) (Qj)) (E .un .un) W=some (.lst aA,W):=Jd (Zd (Qe rfl)) (g8 h);have o:Zm (Qa (QR JZ (Qa (Qb 5) (Qj))) (Qa (QR JZ (Qa (Qb 4) (Qj))) (Qa (QR JZ (Qa (Qb 3) (Qj))) (Qj)))) (E .un .un) W=some (H,W):=by unfold Zm;rw[Qg (Xo n ld (Jd (F:=JZ) (d:=T) (Zd (Qe rfl)) rfl))];rfl
 have e:∀(i:Nat)(x:DV),[DV.lst rr,.lst aA,T][i]?=some x->Qf aq (Qb 11) (eC (.int i)) (E (.val H) .un) W=some (x,W):=λi x hx=>Zp (i:=i) (ds:=[.lst rr,.lst aA,T]) (Qe rfl) rfl hx;have ok:PyData.strOk "unfit" = true:=by decide +kernel
 have u:Pl 1 f:=λd hd=>by
  simp only[Ba,Bu,or_false]at hd;rcases hd with rfl|rfl
  ·exact Y5 ok
  ·exact JL 0 _
 let F:=E (.val H) (.val f)
 have t:cB (XE (eB (jd "tuple" (Qb 12)))) (cB (eB (Qf bU (QR Zo (Qa (Qb 12) (Qj))) (eC (.int 2)))) (cB (eB (jd "bool" (Qf aq (Qb 12) (eC (.int 1))))) (eB (Qf bU (Qb 12) (Q2 (Qa (eC (.str "unfit")) (Qa (Qb 8) (Qj)))))))) F c=some (false,c):=by
  rw[qx (Jf (QJ (show jd "tuple" (Qb 12) F c=some (.bl true,c)from rfl)))];rw[qx (QJ (Qp (x:=.int 2) (y:=.int 2) (show QR Zo (Qa (Qb 12) Qj) F c=some (.int 2,c)from rfl) rfl (xp (JL 0 2) (by decide) c)))];rw[qx (QJ (show jd "bool" (Qf aq (Qb 12) (eC (.int 1))) F c=some (.bl false,c)by unfold jd;rw[Qg (QN (i:=1) (ds:=[.str "unfit", .int k]) (Qe rfl) rfl rfl)];rfl))]
  exact QJ (Qp (x:=f) (y:=f) (Qe rfl) (Ze (Za rfl (Qe rfl)) (by show 2<=100000;decide)) (xp u (by decide) c))
 refine⟨c,F,(Qi (Qw o)).trans ((Qi (Qw (QU (Xo (e 0 _ rfl) (e 1 _ rfl) (e 2 _ rfl)) rfl j))).trans ((Qi ((Qv t).trans rfl)).trans (Qz (Qp (x:=H) (y:=.lst [r,.ref 1,T]) (Qe rfl) rfl ?_))))⟩;unfold aK;rw[Qg (Iu gr m (λd hd=>(v d hd).pl) (λd hd=>by obtain⟨x,_,rfl⟩:=Co.mp hd;exact(De.pl x).mono (by decide)) (λd hd=>(XQ z0 d hd).mono (by decide)))];rfl
theorem kR{w l:Hs}{a:Nat}{o:OV}(h:l[a]?=some o):(w++l)[w.length+a]?=some o:=by rw[Ap (Nat.le_add_right _ _),Nat.add_sub_cancel_left];exact h
def Im(x y:DV)(a b c d e o f h q i j l m n:Sl)(U:Hs):gT [5,8] (.tup [x,y]) [a,b,c,d,e,o,f,h,q,i,j,l,m,n] U=some ([a,b,c,d,e,.val x,f,h,.val y,i,j,l,m,n],U):=rfl
theorem gX(ns:List Int)(hn:ns.length<=63):∃U,V1 [.lst (ns.map .int)] []=some (.bl true,U):=by
 let S:DV:=.lst (ns.map .int)
 obtain⟨c0,Fw⟩:=Vd ns 0 hn;obtain⟨c1,Fv⟩:=Vd ns 1 hn;obtain⟨c2,Ft⟩:=Vd ns 2 hn;obtain⟨ps,p2,o8,pb,ep⟩:=O3 c0 [];obtain⟨kvs,z0,o,tX,Dd,et⟩:=RL c1 o8 []
 let cs:=(ns.drop 3).take 200
 have cl:cs.length<=250:=A9 (List.length_take_le _ _) (by decide);obtain⟨O,dd,rr,ak,ww,gs,z,R,er⟩:=Ri o tX Dd p2 o8 pb cl;obtain⟨Wf,Wb,ru⟩:=R.run
 let W:=GH O dd rr ak ww gs
 let aA:=dd.map De.dv
 have rl:=R.rl
 let P:DV:=.lst (ps.map .int)
 let T:DV:=.lst (aD z0)
 let E:Sl->Sl->Sl->Sl->Sl->Sl->Sl->Sl->Sl->Sl->Sl->Sl->Sl->En:=λx1 x2 L x4 x5 x6 x7 x8 x9 y0 y1 y2 t=>[.val S,x1,x2,L,x4,x5,x6,x7,x8,x9,y0,y1,y2,t]
 let G:Sl->Sl->Sl->Sl->Sl->Sl->En:=λx6 x7 x8 x9 y0 t=>E (.val P) (.val (.ref 0)) (.val T) (.val (.ref 1)) (.val (.ref 2)) x6 x7 x8 x9 y0 .un .un t
 let Q:DV:=.lst ((cP rr).map λ(i:Nat)=>DV.int (i:Int))
 have F:W[2]?=some (.lst rr):=rfl;have pJ:W[1]?=some (.lst aA):=rfl;suffices J:∃U env,(Qx (aP (eB (Qf aK (Qb 6) (Zm (Qj)))) (Q3 (Qf aK (Qu 3 Z6 (Qa (Zm (Qa (Q2 (Qa (eC (.str "rest")) (Qa (eC (.int 0)) (Qj)))) (Qj))) (Qa (Zm (Qj)) (Qa (QR JZ (Qa (Qb 3) (Qj))) (Qj))))) (Q2 (Qa (eC (.str "fits")) (Qa (Qb 3) (Qj)))))) (Zf)) (Qx (QG 7 (Yt)) (Qx (QG 8 (Qf QO (Qf aq (Qb 7) (eC (.int 2))) (QR Zo (Qa (Qb 6) (Qj))))) (Qx (QG 9 (Qf aq (Qb 6) (Qb 8))) (Qx (QG 10 (Qf aq (Qb 5) (Qb 9))) (Qx (aP (JG (eB (Qf aK (Qf QO (Qf aq (Qb 7) (eC (.int 3))) (eC (.int 4))) (eC (.int 0)))) (cB (eB (Qf bU (Qf aq (Qb 10) (eC (.int 0))) (eC (.str "read")))) (eB (Qf isD (Qf aq (Qb 10) (eC (.int 6))) (eC .non))))) (XT (Qu 3 Jc (Qa (Qb 5) (Qa (Qb 9) (Qa (Qf aq (Qb 7) (eC (.int 1))) (Qj))))) (gT [5,8])) (Qx (QG 13 (Qu 3 J4 (Qa (Qb 5) (Qa (Qb 9) (Qa (Qf aq (Qb 4) (Qf aq (Qb 10) (eC (.int 2)))) (Qj)))))) (XT (Qu 5 ZN (Qa (Qb 10) (Qa (Qf aq (Qb 4) (Qf aq (Qb 10) (eC (.int 2)))) (Qa (Qb 13) (Qa (QR Zo (Qa (Qb 4) (Qj))) (Qa (Qb 7) (Qj))))))) (fu (Qb 5) (Qb 9))))) (Qx (QG 11 (Zm (Qa (QR JZ (Qa (Qb 5) (Qj))) (Qa (QR JZ (Qa (Qb 4) (Qj))) (Qa (QR JZ (Qa (Qb 3) (Qj))) (Qj)))))) (Qx (QG 12 (Qu 3 Z6 (Qa (Qf aq (Qb 11) (eC (.int 0))) (Qa (Qf aq (Qb 11) (eC (.int 1))) (Qa (Qf aq (Qb 11) (eC (.int 2))) (Qj)))))) (Qx (aP (cB (XE (eB (jd "tuple" (Qb 12)))) (cB (eB (Qf bU (QR Zo (Qa (Qb 12) (Qj))) (eC (.int 2)))) (cB (eB (jd "bool" (Qf aq (Qb 12) (eC (.int 1))))) (eB (Qf bU (Qb 12) (Q2 (Qa (eC (.str "unfit")) (Qa (Qb 8) (Qj))))))))) (Q3 (eC (.bl false))) (Zf)) (Q3 (Qf aK (Qb 11) (Zm (Qa (Qb 5) (Qa (Qb 4) (Qa (Qb 3) (Qj)))))))))))))))) (G (.val Q) .un .un .un .un .un) W=some ((.rt (.bl true),env),U)by
  obtain⟨U,env,k⟩:=J;refine⟨U,QC (env:=env) ?_⟩;refine(Qi (Qw (QU (Zd (QU (Za (Qe rfl) rfl) rfl (Zq Fw []))) rfl ep))).trans ?_;refine(Qi (Qw (QU (Za (QU (Za (Qe rfl) rfl) rfl (Zq Fv [])) (Qe rfl)) rfl et))).trans ?_;refine(Qi (Qw (d:=T) (hp1:=[.aB kvs]) (PB (T:=0) rfl tX o ⋯ rfl))).trans ?_;refine(Qi (Qw (d:=.ref 1) (hp1:=[.aB kvs,.lst []]) rfl)).trans ?_;have sl:aZ (Qb 0) (QH (eC (.int 3))) (QH (eC (.int 203))) (E (.val P) (.val (.ref 0)) (.val T) (.val (.ref 1)) .un .un .un .un .un .un .un .un .un) [.aB kvs,.lst []]=some (.lst (cs.map .int),[.aB kvs,.lst []]):=by have:=RT (f:=Qb 0) (g:=eC (.int 3)) (h:=eC (.int 203)) (a:=3) (b:=203) (ds:=ns.map .int) (env:=E (.val P) (.val (.ref 0)) (.val T) (.val (.ref 1)) .un .un .un .un .un .un .un .un .un) (U:=[.aB kvs,.lst []]) (Qe rfl) rfl rfl (by decide);rw[<- List.map_drop,<- List.map_take]at this;exact this
  refine(Qi (Qw (d:=.ref 2) (hp1:=W) (QU (K0 sl (Qe rfl) (Qe rfl) (Qe rfl)) rfl er))).trans ?_;exact(Qi (Qw (d:=Q) (hp1:=W) (v0 F R.rows rl rfl))).trans k
 have tq:eB (Qf aK (Qb 6) (Zm (Qj))) (G (.val Q) .un .un .un .un .un) W=some ((cP rr).isEmpty,W):=by have:=jX ((cP rr).map λ(i:Nat)=>(i:Int)) W;rw[List.map_map,List.isEmpty_map]at this;exact QJ (Qp (x:=Q) (y:=.lst []) (Qe rfl) rfl this)
 by_cases hq:cP rr=[]
 ·rw[hq]at tq;have Eb:Run [] ([DV.tup [.str "rest", .int 0]].filter aN) z0 [] [] z0 [] []:=⟨rfl,rfl,rfl⟩;obtain⟨_,l,a,Z,la⟩:=vF (dd:=[]) (rr:=[.tup [.str "rest", .int 0]]) o ⋯ Eb (λd hd=>by rw[Aq.mp hd];exact⟨"rest", [.int 0],rfl,by decide +kernel,λx hx=>by rw[Aq.mp hx];exact JL 2 0⟩) (by show 1<=5000;decide) W
  exact⟨W++l,G (.val Q) .un .un .un .un .un,QT ((QY tq).trans (Qz (Qp (x:=.tup [.str "fits", .ref (W.length+a)]) (y:=.tup [.str "fits", T]) (QU (Xo rfl rfl rfl) rfl Z) (Ze (Za rfl (Qe rfl)) (by show 2<=100000;decide)) (NZ (kR la)))))⟩
 ·rw[show(cP rr).isEmpty=false by cases h:cP rr;exact absurd h hq;rfl]at tq;have ql:0<(cP rr).length:=List.length_pos_iff.mpr hq
  let x0:=Qy c2 0
  let x1:=Qy c2 1
  let x2:=Qy c2 2
  let L:=Qy c2 3
  let C:DV:=.lst [.int x0,.int x1,.int x2,.int L]
  have rk:=Zv x2 (cP rr).length ⋯;obtain⟨k,ek⟩:∃k:Nat,x2 % ((cP rr).length:Int)=k:=⟨_,(Int.toNat_of_nonneg rk.1).symm⟩;have hk:k<(cP rr).length:=⋯
  obtain⟨i,hi⟩:∃i,(cP rr)[k]?=some i:=⟨_,Ab hk⟩;obtain⟨row,c,hM,ad⟩:=O_ rr k i hi;have li:i<rr.length:=(Ac.mp c).1;have s7:QG 7 (Yt) (G (.val Q) .un .un .un .un .un) W=some ((.nx,G (.val Q) (.val C) .un .un .un .un),W):=Qw (R9 c2 Ft W rfl);have ix:∀(j:Nat)(x:Int)(x8 x9 y0 t:Sl),[DV.int x0,.int x1,.int x2,.int L][j]?=some (.int x)->Qf aq (Qb 7) (eC (.int j)) (G (.val Q) (.val C) x8 x9 y0 t) W=some (.int x,W):=λj x x8 x9 y0 t h=>Zp (i:=j) (ds:=[.int x0,.int x1,.int x2,.int L]) (Qe rfl) rfl h;have s8:QG 8 (Qf QO (Qf aq (Qb 7) (eC (.int 2))) (QR Zo (Qa (Qb 6) (Qj)))) (G (.val Q) (.val C) .un .un .un .un) W=some ((.nx,G (.val Q) (.val C) (.val (.int k)) .un .un .un),W):=by have ln:=Xl (f:=Qb 6) (env:=G (.val Q) (.val C) .un .un .un .un) (U:=W) (ds:=(cP rr).map λ(i:Nat)=>DV.int (i:Int)) (Qe rfl);rw[Bf]at ln;refine Qw (Qp (x:=.int x2) (y:=.int (cP rr).length) (hp1:=W) (hp2:=W) (ix 2 x2 _ _ _ _ rfl) ln ?_);rw[<- ek];exact Zq (Zj _ _ ⋯) W
  have s9:QG 9 (Qf aq (Qb 6) (Qb 8)) (G (.val Q) (.val C) (.val (.int k)) .un .un .un) W=some ((.nx,G (.val Q) (.val C) (.val (.int k)) (.val (.int i)) .un .un),W):=Qw (Zp (i:=k) (Qe rfl) (Qe rfl) (by rw[Bh,hi];rfl))
  let I:Sl->En:=λt=>G (.val Q) (.val C) (.val (.int k)) (.val (.int i)) (.val row) t
  have oX:QG 10 (Qf aq (Qb 5) (Qb 9)) (G (.val Q) (.val C) (.val (.int k)) (.val (.int i)) .un .un) W=some ((.nx,I .un),W):=Qw (Yd (i:=i) (Qe rfl) F (Qe rfl) c);have pre:∀{f:aG} {r:(Fl×En)×Hs},f (I .un) W=some r->(Qx (aP (eB (Qf aK (Qb 6) (Zm (Qj)))) (Q3 (Qf aK (Qu 3 Z6 (Qa (Zm (Qa (Q2 (Qa (eC (.str "rest")) (Qa (eC (.int 0)) (Qj)))) (Qj))) (Qa (Zm (Qj)) (Qa (QR JZ (Qa (Qb 3) (Qj))) (Qj))))) (Q2 (Qa (eC (.str "fits")) (Qa (Qb 3) (Qj)))))) (Zf)) (Qx (QG 7 (Yt)) (Qx (QG 8 (Qf QO (Qf aq (Qb 7) (eC (.int 2))) (QR Zo (Qa (Qb 6) (Qj))))) (Qx (QG 9 (Qf aq (Qb 6) (Qb 8))) (Qx (QG 10 (Qf aq (Qb 5) (Qb 9))) f))))) (G (.val Q) .un .un .un .un .un) W=some r:=λe=>(Qi ((Qv tq).trans rfl)).trans ((Qi s7).trans ((Qi s8).trans ((Qi s9).trans ((Qi oX).trans e))));have fm:=Vq c hM;rw[fm]at ru;obtain⟨zm,Wd,Wa,ra,rb⟩:=ru.split;obtain⟨n,Y,z1,aU,J,hd,hc,hf,r2⟩:=rb;obtain⟨rm,ah,_⟩:=ra.good o (λn v e=>by cases e);have low:=ra.low (Lp dd);obtain⟨hh,pp,vv,rest,lJ,_⟩:=hf.word;have en:=gd hf (f:=Qb 10) (env:=I .un) (U:=W) (Qe rfl);have t3:eB (Qf aK (Qf QO (Qf aq (Qb 7) (eC (.int 3))) (eC (.int 4))) (eC (.int 0))) (I .un) W=some (L % 4==0,W):=QJ (JI (Xm 4 (by decide) (ix 3 L _ _ _ _ rfl)) rfl);have tc:=YW t3 en;have Dc:zm.length<50000:=by have h1:=(ra.good o (λn v e=>by cases e)).2.2;have h2:((rr.take i).filter aN).length<=(rr.take i).length:=Br _ _;rw[Az]at h2;lia
  by_cases m:((L % 4==0)&&J)=true
  ·rw[m]at tc;have aa:J=true:=((A4 _ _).mp m).2;obtain⟨pl,p1,p3,eo⟩:=UG F c R.rows rl x1;subst aa;rw[Ct rfl]at r2
   let B:=((rr.drop (i+1)).take (pl-(i+1))).filter aN
   have eB:(rr.drop (i+1)).filter aN=B++(rr.drop pl).filter aN:=by show _=((rr.drop (i+1)).take (pl-(i+1))).filter aN++_;rw[<- List.filter_append];refine congrArg (List.filter aN) ?_;have:=Bm (pl-(i+1)) (rr.drop (i+1));rw[Cc,show i+1+(pl-(i+1))=pl by lia]at this;exact this.symm
   rw[eB]at r2;obtain⟨z2,dW,X,ae,_⟩:=r2.split;have oZ:Run dd ((rr.take pl).filter aN) z0 [] [] z2 dW X:=by
    have e:(rr.take pl).filter aN=(rr.take i).filter aN++row::B:=by
     have h1:(rr.take pl)[i]?=some row:=by rw[List.getElem?_take_of_lt p1];exact c
     rw[Vq h1 hM,List.take_take,Nat.min_eq_left ⋯,List.drop_take]
    rw[e];exact ra.join ⟨n,Y,z1,aU,true,hd,hc,hf,by rw[Ct rfl];exact ae⟩
   have mem:(n:Int)∈X:=ae.cl _ (Ai _ (Aq.mpr rfl))
   let u:=rr.take pl++[row]++rr.drop pl
   have ln:n<dd.length:=(Ac.mp hd).1;have hu:ym dd z2 dW X row:=⟨Y.mw,hh,n,pp,vv,rest,lJ,Y.bQ,.inr ⟨n,rfl,ln,.inl mem⟩⟩;have mO:∀d∈u,aJ d:=λd hd=>by
    rcases Ah.mp hd with q|q
    ·rcases Ah.mp q with q|q
     ·exact R.rows d (Bj q)
     ·rw[Aq.mp q];exact R.rows row (At c)
    ·exact R.rows d (List.mem_of_mem_drop q)
   have lK:u.filter aN=(rr.take pl).filter aN++row::(rr.drop pl).filter aN:=by show(rr.take pl++[row]++rr.drop pl).filter aN=_;rw[List.filter_append,List.filter_append,Cd hM,Ay];rfl
   obtain⟨l,Z⟩:=xf o ⋯ lK oZ hu mO (by show(rr.take pl++[row]++rr.drop pl).length<=6000;simp only[Am,Az,Be,List.length_singleton];lia) W;obtain⟨U,env,k2⟩:=G3 (S:=S) (P:=P) (r:=.lst u) (e6:=.val Q) (e7:=.val C) (e9:=.val (.int i)) (e10:=.val row) (lO:=.un) Z rfl (.inl rfl) pJ mO;refine⟨U,env,pre ((Qi ((QY tc).trans (jA (QU (Xo (Qe rfl) (Qe rfl) (ix 1 x1 _ _ _ _ rfl)) rfl eo) (Im ..)))).trans k2)⟩
  ·rw[Bool.eq_false_iff.mpr m]at tc;have ag:∀t,Qf aq (Qb 10) (eC (.int 2)) (I t) W=some (.int n,W):=λt=>QN (i:=2) (ds:=.str Y.mw::hh::.int n::pp::vv::rest) (Qe (by show some (Sl.val row)=_;rw[lJ])) rfl rfl;have af:aA[n]?=some Y.dv:=by show(dd.map De.dv)[n]?=_;rw[Bh,hd];rfl
   have asked:∀t,Qf aq (Qb 4) (Qf aq (Qb 10) (eC (.int 2))) (I t) W=some (Y.dv,W):=λt=>Yd (i:=n) (Qe rfl) pJ (ag t) af;obtain⟨bg,Ey,eb⟩:=uM F c lJ hd ra hc R.rows rl;obtain⟨b_,es,hu,o7,rM⟩:=uu (bg:=bg) hf hd R.dl hc (R.bd Y (At hd)) (λa b e=>⟨Ey a b e,low n a b (by rw[hd,e])⟩) rm Dc x0 x1 x2 L W
   let u:=rr.set i b_
   let W':=GH O dd u ak ww gs
   have mO:∀d∈u,aJ d:=λd hd=>by
    rcases List.mem_or_eq_of_mem_set hd with q|rfl
    ·exact R.rows d q
    ·exact o7
   obtain⟨l,Z⟩:=xf o ⋯ (R_ c rM) ra hu mO (by show(rr.set i b_).length<=6000;rw[List.length_set];lia) W';rw[ad]at Z;obtain⟨U,env,k2⟩:=G3 (S:=S) (P:=P) (r:=.ref 2) (e6:=.val Q) (e7:=.val C) (e9:=.val (.int i)) (e10:=.val row) (lO:=.val bg) (W:=W') Z rfl (.inr ⟨rfl,rfl⟩) rfl mO;have Eo:QR Zo (Qa (Qb 4) (Qj)) (I (.val bg)) W=some (.int dd.length,W):=by
    have:=qE (f:=Qb 4) (env:=I (.val bg)) (U:=W) (n:=1) (ds:=aA) (Qe rfl) pJ
    rwa [show aA.length=dd.length from Bf _]at this
   have sp:Qu 5 ZN (Qa (Qb 10) (Qa (Qf aq (Qb 4) (Qf aq (Qb 10) (eC (.int 2)))) (Qa (Qb 13) (Qa (QR Zo (Qa (Qb 4) (Qj))) (Qa (Qb 7) (Qj)))))) (I (.val bg)) W=some (b_,W):=QU (K1 (Qe rfl) (asked _) (Qe rfl) Eo (Qe rfl)) rfl es;refine⟨U,env,pre ((Qi ((Qv tc).trans ((Qi (Qw (QU (Xo (Qe rfl) (Qe rfl) (asked _)) rfl eb))).trans (Ot (a:=2) (n:=i) sp (Qe rfl) (Qe rfl) F li)))).trans k2)⟩
def jh{K:Aa}{a:Addr}{d0:Option Addr}{n0:Nat}{c:Array (Option Value)}{d e f h:Tok}(b:K.lookup a=some ⟨.type "tuple", d0,.seq #[.str "found" d,.str "put" e,.str "cut" f,.str "read" h] n0,c⟩):bJ K (.tup [.str "found", .str "put", .str "cut", .str "read"]) (.ref a):=(Nr (xs:=[.str "found", .str "put", .str "cut", .str "read"]) b (Nat.le_of_ble_eq_true rfl) (.cons ⟨_,rfl⟩ (.cons ⟨_,rfl⟩ (.cons ⟨_,rfl⟩ (.cons ⟨_,rfl⟩ .nil)))) (qD VB (qD VB (qD VB (qD VB Td)))))
theorem Nq{P:Program}{w:World}{K:Aa}{h:Heap}{mg:C5}{fa f:Addr}{j kV e i a ct:Value}{m d:Option Addr}{o:Array (Option Value)}(X:K.In h)(G:h.Ns mainGlobals mg)(b:mg "law" = some (.ref fa))(Z:Al K mg)(n:PySem.W.nsIn K mainGlobals "law" = some (some (.ref f)))(l:K.lookup f=some ⟨j,m,.func (PySem.W.fnOf "law" "law" (Z4 zU) (Zw zU) (Qs zU) .none kV e i d a ct),o⟩)(c:PySem.W.codeIn K a "law" = true)(k:PySem.W.keepIn K (.ref f)=true):∃fd:FuncData,(∀(s:Shared) (v:Value),BindsTo s fd ⟨[v],[]⟩ [("script", v)])/\∀O8:Heap,K.In O8->O8.Ns mainGlobals mg->X2 P w K mg O8 CX0 5 fa fd ["script"] (fL K 1 V1):=by cases b.symm.trans (PySem.W.mg_of X G n);exact⟨PySem.W.fnOf "law" "law" (Z4 zU) (Zw zU) (Qs zU) .none kV e i d a ct,λs v=>.of_eq rfl,λO8 _ _=>law_fn Z (Vs l c k)⟩
theorem Qfm{l:PySem.W.OpenLaw}{q:Program}{b:List Str}{i:(C5)->Heap->Prop}{e:World->Heap->Prop}{d:DefRec}{K:Params->Aa}(o:l.most=some 63)(c:d.params.defaults=[])
  (hY:∀(w:World)(h:Heap),e w h->(K w.params).In h)
  (F:∀(w:World)(mg:C5)(fa:Addr)(h:Heap),(K w.params).In h->h.Ns mainGlobals mg->mg d.name=some (.ref fa) ->
   ∃fd:FuncData,(∀(s:Shared) (u:Value),BindsTo s fd ⟨[u],[]⟩ [("script", u)])/\∀O8:Heap,(K w.params).In O8->O8.Ns mainGlobals mg->X2 l.prog w (K w.params) mg O8 CX0 5 fa fd ["script"] (fL (K w.params) 1 V1)) :
  PySem.W.WalkO q b i e l.row.toRowW d [] (λf vs=>PySem.call f vs) :=
 L2.va (n:=63) (k:=5) (x := "script") (CX:=λ_=>CX0) (sp:=λw=>fL (K w.params) 1 V1) o (by decide) c ⟨rfl,by decide,by decide⟩ hY F (λw _ a ns m _ j=>Np (gX ns m) j) λ_ _ _ _ _ z=>z
end K43
namespace PySem.W.Fast
def tw11013842544745832487:=0
def tw12600845236901307313:=0
def tw12757172954337605506:=0
def tw6254276078891354005:=0
def tw7885250649098827687:=0
def tw643925315632044408:=0
def tw9002168578510700634:=0
def tw2265695096996101549:=0
def tw17293542827545486416:=0
def tw17817873795434061637:=0
def tw14414521066499336178:=0
def tw9454532719215766376:=0
def tw4075724775344702922:=0
def tw17279936707077525107:=0
def tw7976959496558194576:=0
def tw11124175834724074929:=0
def tw3784870136563931348:=0
def tw16074413720277305846:=0
def tw14956208306040676637:=0
def tw1446359483286692856:=0
def tw16240331994516386790:=0
def tw1946789048910348365:=0
def tw7421129740465725120:=0
def tw4914042489607410716:=0
def tw5686006488648235462:=0
def tw4187801922106037426:=0
def tw12159809754357927194:=0
def tw1469273957678681591:=0
def tw2783004601190409623:=0
def tw11633010139320197950:=0
def tw6832904764730865351:=0
def tw365198508163282840:=0
def tw10950999216290107838:=0
def tw7391266988084710102:=0
def tw9905667301868403531:=0
def tw15733096707494704746:=0
def tw11340291143423202409:=0
def tw3487140679674103372:=0
def tw16672149559589261366:=0
def tw10523255654170873269:=0
def tw5269337126419194008:=0
def tw8014930596217748580:=0
def tw748910517225114309:=0
def tw1926201690100027919:=0
def tw449032912805586793:=0
def tw4965852663635616859:=0
def tw10287977859369812606:=0
def tw4240550388380261874:=0
def tw919756953985968476:=0
def tw5543787590404058354:=0
def tw18007927453958775883:=0
def tw17372097817644603842:=0
def tw6611934581565080924:=0
def tw5388638375243751229:=0
def tw5189946860563172115:=0
def tw16801130585484669667:=0
def tw15274820887937269071:=0
def tw5930763804494277920:=0
def tw9818473407367706002:=0
def tw4757344272241720186:=0
def tw13148241476773219915:=0
def tw17581745037058191320:=0
def tw1058339569948146828:=0
def tw1429824649955560730:=0
def tw3483962828013015359:=0
def tw5647078281384094609:=0
def tw2143579191925926295:=0
def tw8223094737098613501:=0
def tw16225785036068889690:=0
def tw15647300994666653757:=0
def tw833946788324343315:=0
def tw14072070992968768937:=0
end PySem.W.Fast
open PySem PySem.W PyProof.Rows
open D in
set_option maxRecDepth 100000 in
set_option maxHeartbeats 0 in
theorem PySem.Challenge.cw_sidelink_k43_first_that_does_not_fit_holds : PySem.Challenge.rw_sidelink_k43_first_that_does_not_fit.Holds := by
 w_on;o_law;k_head;(case hw=>w_witness2)
 k_fill
 refine K43.Qfm (l:=PySem.Challenge.rw_sidelink_k43_first_that_does_not_fit) rfl rfl (fun w h Y=>PySem.W.kIn_of Y) ?F
 case F =>
  intro w mg fa h KX G hmg;have c0:UC _ "Judge" := uc KX (by k_is) (by k_is) (by k_is) (by k_is) (by k_is);exact K43.Nq KX G hmg (by constructor;all_goals first|exact PySem.W.mg_none_of KX G (by k_is)|exact uf KX G (by k_is) (by k_is) (by k_is) (by k_is)|exact G_ KX G (by k_is) (by k_is) (by first|rfl|with_unfolding_all rfl)|exact ut KX G (by k_is) (K43.jh (by k_is))|exact uk KX c0 (by k_is) (by k_is)|exact um KX c0 (by k_is) (by k_is) (by k_is) (by k_is) (by k_is) (by k_is)|exact ui KX G (by k_is) (by k_is) (by k_is) (by k_is) (by k_is) (by k_is) (by k_is) (by k_is)) (by k_is) (by k_is) (by k_is) (by k_is)

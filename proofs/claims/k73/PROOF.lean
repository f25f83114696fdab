import PyProof.Rows.All
import Wide.All
import OpenK.AllK
import Wide.FinOn
import Lean
import PyProof.EqAt
import PyProof.EqKinds
import PyProof.TupleCall
import PySem.Challenge.RW_sidelink_k73_whole_from_text_to_answer
set_option bootstrap.genMatcherCode false
set_option genSizeOf false
set_option genSizeOfSpec false
set_option compiler.extract_closed false
set_option maxHeartbeats 4000000
theorem an2{A B G:Prop}(h:A/\B)(k:A->B->G):G:=k h.1 h.2
theorem an3{A B C G:Prop}(h:A/\B/\C)(k:A->B->C->G):G:=an2 h λa h=>an2 h (k a)
theorem an4{A B C D G:Prop}(h:A/\B/\C/\D)(k:A->B->C->D->G):G:=an2 h λa h=>an3 h (k a)
theorem an5{A B C D E G:Prop}(h:A/\B/\C/\D/\E)(k:A->B->C->D->E->G):G:=an2 h λa h=>an4 h (k a)
theorem an6{A B C D E F G:Prop}(h:A/\B/\C/\D/\E/\F)(k:A->B->C->D->E->F->G):G:=an2 h λa h=>an5 h (k a)
theorem an7{A B C D E F H G:Prop}(h:A/\B/\C/\D/\E/\F/\H)(k:A->B->C->D->E->F->H->G):G:=an2 h λa h=>an6 h (k a)
theorem an8{A B C D E F H I G:Prop}(h:A/\B/\C/\D/\E/\F/\H/\I)(k:A->B->C->D->E->F->H->I->G):G:=an2 h λa h=>an7 h (k a)
theorem an9{A B C D E F H I J G:Prop}(h:A/\B/\C/\D/\E/\F/\H/\I/\J)(k:A->B->C->D->E->F->H->I->J->G):G:=an2 h λa h=>an8 h (k a)
theorem ex1{A:Sort _}{P:A->Prop}{G:Prop}(h:∃a,P a)(k:∀a,P a->G):G:=h.elim k
theorem ex2{A B:Sort _}{P:A->B->Prop}{G:Prop}(h:∃a b,P a b)(k:∀a b,P a b->G):G:=h.elim λa h=>ex1 h (k a)
theorem ex3{A B C:Sort _}{P:A->B->C->Prop}{G:Prop}(h:∃a b c,P a b c)(k:∀a b c,P a b c->G):G:=h.elim λa h=>ex2 h (k a)
theorem ex4{A B C D:Sort _}{P:A->B->C->D->Prop}{G:Prop}(h:∃a b c d,P a b c d)(k:∀a b c d,P a b c d->G):G:=h.elim λa h=>ex3 h (k a)
theorem ex5{A B C D E:Sort _}{P:A->B->C->D->E->Prop}{G:Prop}(h:∃a b c d e,P a b c d e)(k:∀a b c d e,P a b c d e->G):G:=h.elim λa h=>ex4 h (k a)
theorem ex6{A B C D E F:Sort _}{P:A->B->C->D->E->F->Prop}{G:Prop}(h:∃a b c d e f,P a b c d e f)(k:∀a b c d e f,P a b c d e f->G):G:=h.elim λa h=>ex5 h (k a)
theorem ex7{A B C D E F H:Sort _}{P:A->B->C->D->E->F->H->Prop}{G:Prop}(h:∃a b c d e f i,P a b c d e f i)(k:∀a b c d e f i,P a b c d e f i->G):G:=h.elim λa h=>ex6 h (k a)
namespace Lean
def Zt(x:Name):=`Lean.Parser.Tactic++x
def Zp(x:Name):=`Lean.Parser.Term++x
def Zc(x:Name):=`Lean.Parser.Command++x
def Zn(a:Array Syntax):Syntax:=.node .none `null a
def Zd(k:Name)(a:Array Syntax):Syntax:=.node .none (Zt k) a
def Za(s:String):Syntax:=.atom .none s
def Zi(s:String):Syntax:=.ident .none s.toRawSubstring (.mkSimple s) []
def Zs(p:Array Name)(a:Array Syntax):Nat→Syntax→Syntax
 |n+1,s=>match s with
  |.node i k b=>.node i k (b.map (Zs p a n))
  |.ident _ _ x _=>(p.idxOf? x).elim s λi=>a[i]!
  |s=>s
 |_,s=>s
def Zf(k:Name)(x:Syntax):Syntax:=(x.find? (·.isOfKind k)).get!
def Zq(s t:Syntax):Syntax:=s.setArg 1 (s[1].setArg 0 (s[1][0].setArg 0 t))
def Ze(A f:Syntax)(xs:Array Syntax):Syntax:=(A.setArg 0 f).setArg 1 (Zn xs)
def Zl(F:Syntax)(xs:Array Syntax)(b:Syntax):Syntax:=F.setArg 1 ((F[1].setArg 0 (Zn xs)).setArg 3 b)
def Zk(A:Syntax)(r:Array Syntax)(z:Syntax)(xs:Array Syntax)(b:Syntax):Syntax:=Ze A (Zi s!"an{r.size}") #[z,Zl A[1][1] xs b]
def Zo(R s:Syntax):Syntax:=
 let G:=R[1][0]
 let P:=G[1][0][0][0]
 let Z:=P[1][0][0].getArgs
 let A:=Z[0]![1]
 let F:=A[1][1]
 let t:=s[3][1][0]
 if t.isIdent&&(s[1].find? (·.getId==t.getId)).isSome then s else
 let u:=s[1][0][0][0]
 let p:=u[1].getSepArgs
 let y:=λx:Syntax=>x[0][0][0]
 let h:=λx:Syntax=>(y x).isOfKind (Zt `rcasesPat.one)&&(y x)[0].getId != `rfl
 let g:=λx:Syntax=>(y x).isOfKind (Zt `rcasesPat.ignore)
 let j:=p.findIdx (λx=>!(h x||g x))+1
 let j:=if j+1=p.size then j+1 else j
 let ob:=λ(a i:Syntax)=>s.setArgs #[s[0],a,s[2],s[3].setArg 1 (Zn #[i])]
 let (q,f):=(p.extract 0 j).foldl (λ(q,f) x=>if h x then (q.push (y x)[0],f) else if g x then (q.push ((y x).setKind (Zp `hole)),f) else let i:=Zi s!"z{q.size}";(q.push i,f.push (ob (Zn #[x[0]]) i))) (#[],if t.isIdent then #[Zs #[`z_9] #[t] 99 Z[2]!] else #[])
 let (q,f):=if j<p.size then (q.push (Zi "zR"),f.push (ob (s[1].setArg 0 (s[1][0].setArg 0 (s[1][0][0].setArg 0 (u.setArg 1 (Zn (u[1].getArgs.extract (2*j) u[1].getNumArgs)))))) (Zi "zR"))) else (q,f)
 let n:=q.size
 let B:=λ(r:Array Syntax)(z:Syntax)=>if r.size<2 then F[1][3] else if r.size<10 then Zk A r z r F[1][3] else let r2:=r.extract 8 n;Zk A (r.extract 0 9) z ((r.extract 0 8).push (Zi "y_9")) (Zk A r2 (Zi "y_9") r2 F[1][3])
 R.setArg 1 (Zn (((Array.range (min 8 n)).map λe=>
  let r:=q.extract e n
  Zq G (Zn #[Zq P (Zn (f.foldl (λx y=>(x.push Z[1]!).push y) (Z.set! 0 (Z[0]!.setArg 1 (if e=0 then B r t else Ze A (Zi s!"ex{e}") #[t,if r.size<2 then Zl F q F[1][3] else Zl F ((q.extract 0 e).push (Zi "z_9")) (B r (Zi "z_9"))])))))])).push (Zq G (Zn #[s]))))
def Zm:Nat→Syntax→Syntax
 |n+1,x=>Zd `rcasesPatMed #[Zn #[if x.isIdent then Zd `rcasesPat.one #[x] else if x.isOfKind (Zp `hole) then Zd `rcasesPat.ignore #[x[0]] else Zd `rcasesPat.tuple #[Za "⟨",Zn ((if x.isOfKind (Zp `tuple) then #[x[1][0],x[1][1]]++x[1][2].getArgs else x[1].getArgs).mapIdx λi y=>if i%2=0 then Zd `rcasesPatLo #[Zm n y,Zn #[]] else y),Za "⟩"]]]
 |_,x=>x
def Zb(R s:Syntax):Syntax:=if s[2].getNumArgs=0&&s[1][0][0].getNumArgs=1&&s[1][0][0][0].isOfKind (Zt `rcasesPat.tuple)&&s[1][0][0][0][1].getNumArgs>2&&s[3][1].getNumArgs=1 then Zo R s else s
def Zg(M k R li:Syntax)(D:List String)(T:NameMap (Array Name×Syntax))(U:Array Syntax):Nat→Syntax→Syntax
 |n+1,s=>
  let A:=R[1][0][1][0][0][0][1][0][0][0][1]
  let s:Syntax:=match s with
   |.node _ j b=>Syntax.node .none j (b.map (Zg M k R li D T U n))
   |s=>s.setInfo .none
  let s:=if s.isOfKind `«term_<|_»||s.isOfKind `«term_^_» then if s[0].isOfKind (Zp `app) then s[0].setArg 1 (Zn (s[0][1].getArgs.push s[2])) else Ze A s[0] #[s[2]] else s
  let (n,a):=if s.isIdent then (s.getId,#[]) else if s[0].isIdent&&s.isOfKind (Zp `app) then (s[0].getId,s[1].getArgs) else (s.getKind,s.getArgs)
  match T.find? n with
  |some (p,b)=>if a.size=p.size then Zs p a 999 b else s
  |_=>if n=(Zc `where)||n=(Zc `print) then s.setKind (Zc `end)|>.setArgs #[s[0],Zn (if a.size<2 then #[] else #[s[1],Zn #[]])] else
  if n=(Zt `cases) then if s[1].getNumArgs=1&&s[1][0][0].getNumArgs=0&&s[1][0][1].isIdent&&s[2].getNumArgs+s[3].getNumArgs=0 then Zs #[`x] #[s[1][0][1]] 99 k else s else
  if n=(Zt `obtain) then Zb R s else
  if n=(Zt `lia)&&s[1][0].getNumArgs=0 then li else
  if n=(Zt `exact) then Zd `show #[Za "show",s[1]] else
  if n=(Zt `show) then Zd `exact #[Za "exact",s[1]] else
  if n=`«term_^^^_» then .node .none `«term_^_» #[s[0],Za "^",s[2]] else
  if n=`«term#[_,]» then .node .none (Zp `anonymousCtor) #[Za "⟨",s[1],Za "⟩"] else
  if n=(Zp `anonymousCtor) then .node .none `«term#[_,]» #[Za "#[",s[1],Za "]"] else
  if n=(Zt `tacticLet__) then let d:=s[2][0];if d.isOfKind (Zp `letPatDecl) then Zb R (Zd `obtain #[Za "obtain",Zn #[Zm 99 d[0]],Zn #[],Zn #[Za ":=",Zn #[d[4]]]]) else Zd `tacticHave__ #[Za "have",s[1],s[2]] else
  if n=`Lean.Elab.Tactic.Ext.ext then Zd `unfold #[Za "unfold",Zn (s[1].getArgs.map (·[0][0])),Zn #[]] else
  if n=(Zt `apply) then Zd `refine #[Za "refine",s[1]] else
  if n=(Zt `refine) then Zd `apply #[Za "apply",s[1]] else
  if n=(Zt `tacticHave__) then if s[2][0][0][0].isIdent then Zd `tacticLet__ #[Za "let",s[1],s[2]] else s else
  if n=(Zp `explicitBinder) then (U.findIdx? (· == s[3][0][2])).elim s λi=>s.setArgs #[s[0],s[1],Zn #[s[2][0],Ze A (Zi "autoParam") #[s[2][1],Syntax.ident .none "".toRawSubstring (.mkStr `At s!"_auto_{i+1}") []]],Zn #[],s[4]] else
  if n=(Zc `declaration)&&s[1][1][0].getId=`tw then Zn ((((List.range 952).map λi=>s!"o_{i+43}")++D).map λx=>s.setArg 1 (s[1].setArg 1 (s[1][1].setArg 0 (Zi s!"tw{(Name.str `PySem.Challenge.cw_sidelink_k73_whole_from_text_to_answer_holds x).hash}")))).toArray else
  if n=(Zc `declaration)&&(s[0].find? (·.isAtom)).isNone&&(s[1].isOfKind (Zc `definition)||s[1].isOfKind (Zc `abbrev)) then s.setArg 0 M else s
 |_,s=>s
end Lean
open Lean in
local macro_rules(kind:=Lean.Parser.Command.mutual)|s=>do
 let c:=s[1].getArgs
 let e:=c[0]!
 if e[1].getKind != Zc `example then Macro.throwUnsupported
 let m:=(Zf (Zp `matchAlts) e)[0].getArgs
 let fs:=λi=>Zf (Zt `first) m[i]!
 let go:=Zg (e[0].rewriteBottomUp (·.setInfo .none)) (fs 0) (fs 1) (fs 2) ("env_41 heap_39 heap_46 heap_995 sts_49 sts_71 sts_86 sts_101 sts_116 sts_131 sts_174 sts_256 sts_301 sts_496 sts_545 sts_604 sts_795 sts_797 sts_872 sts_928 tree_47 tree_70 tree_85 tree_100 tree_115 tree_130 tree_173 tree_255 tree_300 tree_407 tree_492 tree_542 tree_603 tree_708 tree_791 tree_795 tree_871 tree_927 tree_994 view_39".splitOn)
 let V:=(Zf (Zc `declSig) c[1]!)[0].getArgs.map (·[3][0][2])
 let T:=(m.extract 3 m.size).foldl (λT x=>let h:=x[1][0][0];let (n,a):=if h.isIdent then (h.getId,#[]) else if h[0].isIdent&&h.isOfKind (Zp `app) then (h[0].getId,h[1].getArgs) else (h.getKind,h.getArgs);T.insert n (a.map (·.getId),go T #[] 999 x[3])) {}
 let U:=(go T #[] 99 (Zn V)).getArgs
 let E:=Syntax.node .none (Zc `end) #[Za "end",Zn #[]]
 let S:=go T U 99 c[2]!
 let (a,_):=(c.extract 3 c.size).foldl (λ(a,b) x=>
  let y:=go T U 9999 x
  let k:=x.getKind
  let f:=if b then #[E] else #[]
  if k=(Zc `variable) then if x[1][0][1][0].isOfKind (Zp `hole) then (a.push (y.setArg 1 (Zn (y[1].getArgs.extract 1 99))),b) else (a++f++#[S,y],true) else
  if k=(Zc `where) then (a.push y,false) else
  if k=(Zc `print)||k=(Zc `namespace) then (a++f++#[y],false) else (a.push y,b)) (#[],false)
 return Zn (#[go T #[] 99 c[1]!]++a)
set_option Elab.async false
set_option linter.all false
set_option maxRecDepth 100000
noncomputable section
mutual
noncomputable example:=λ
|Zq9=>(by first|(replace x:=Option.some.inj x;subst x)|(exfalso;injection x;done)|cases x)
|Zq8=>(by first|(refine f t λa=>?_;(try clear z_9);(try clear y_9)))
|Zq7=>(by first|with_reducible assumption|with_reducible exact Nat.le_refl _|with_reducible exact Nat.zero_le _|with_reducible exact Nat.le_of_lt (by assumption)|lia)
|Y=>rfl
|V=>Nat
|a>=b=>a>b
|a>b=>a=some b
|↥x=>.int x
|↑x=>.ref x
|⇑x=>(x).length
|!x=>.val x
|À=>by lia
|Á=>by decide
|Â a=>List a
|Ã=>ak Y
|Ä a b c=>Qg a b^eC c
|Å=>Qb 0
|Æ a b=>by rw[a];show b
|Ç a=>Qc a Qk
|È=>by decide +kernel
|É a b c=>if a then b else c
|Ê=>by simp
|Ë a=>by simpa using a
|Ì=>Qa 0
|Í a=>.int a
|Î a=>starEach a X.env
|Ï a=>Option a
|Ð=>by with_unfolding_all rfl
|Ñ a=>(a:Int)
|Ò a b c=>Ä a b ↥c
|Ó a b=>Qd (Qa a) b
|Ô=>⇑S.pg
|Õ a=>.str a
|Ö a=>decide a
|Ø a b=>λ s _ _ _ _ _ _ _ a=>b
|Ù a=>.lst a
|Ú a b c d e f g=>wpAny (model a b) c d e f g
|Û=>Qb 1
|Ü a=>.val a
|Ý a=>Ü ↥a
|Þ=>Â DV
|ß=>Qb 2
|à a b=>(a).trans b
|á a b=>Qc a^Ç b
|â a b=>show a from b
|ã a=>.ref a
|ä=>Prop
|å=>Nat.le_of_ble_eq_true Y
|æ a=>eval a X.env
|ç a b=>Â<|a × b
|è=>"Shelf"
|é=>"Walk"
|ê=>⇑ds
|ë a=>.inl a
|ì a b=>by rw[<- a];show b
|í a=>some a
|î a b c d=>Inv a b σ c d
|ï a=>pure a
|ð a b=>QN a^Ç b
|ó=>w.place.getD S.top
|ô a=>Qn^Qs a
|õ a=>.tup a
|ö a=>by rw[a];rfl
|ø a b c=>({ a with b:=c })
|ù a b=>Ò aB a b
|ú a=>S.pg[a]?
|û=>"Weaver"
|ü a=>Qd a Qi
|þ a b c=>Qq a^Qq b c
|ÿ a=>a=false
|Ā a=>TP.qn rows.length a
|ā a b=>Qu (env:=a) b
|Ă=>Qb 3
|ă a b=>List.replicate a b
|Ą a b=>by ext a;rw[b];rfl
|ą=>1000000000000000000000000000000
|Ć=>Ï Int
|ć a b c=>Qf a^Qf b c
|Ĉ a=>a<=sizeLine
|ĉ a=>List.range a
|Ċ a=>eC^Õ a
|ċ a=>.inr a
|Č a=>s.heap.get? a
|č=>Â Str
|Ď=>Â Value
|ď a=>(by cases a)
|Đ=>"list"
|đ a=>(a : Str)
|Ē a b=>QP a b Å
|ē=>ks.map .int
|Ĕ=>Ae _
|ĕ a=>Í^Ñ a
|Ė a b=>absurd a b
|ė a b c=>î a O9 b c
|Ę=>"Desk"
|ę a=>s.heap.objs.size+a
|Ě=>.non
|ě=>Qb 4
|Ĝ=>QB _
|ĝ a b c d e=>({ a with b:=c,d:=e })
|Ğ a=>by simp[a]
|ğ a b c d e=>ZJ a PySem.F.plainAttrs_list b c d e
|Ġ=>by show trivial
|ġ a=>eC ↥a
|Ģ=>M DV
|Ĥ=>Â Int
|ĥ a=>.type a
|Ħ a b c=>Qc a^á b c
|ħ=>Jf a.units
|Ĩ a=>aM p.ks a
|ĩ a=>by rw[a];lia
|Ī=>p.ps.map .int
|ī a=>show a by lia
|Ĭ a=>a=true
|ĭ a=>Ĭ^PyData.strOk a
|į a b c=>(by rw[a]at b;cases c)
|İ a=>by have:=a;lia
|ı=>"shelf"
|Ĳ a b c=>aL (eB a) b c
|ĳ=>⇑w
|Ĵ=>↑w.length
|ĵ a b=>à a^by rw[b]
|Ķ a b c=>Ä a b^Õ c
|ķ a b=>.Name a b
|ĸ a b=>by exact a;rw[b];rfl
|Ĺ=>100000
|Ļ a b c=>Qo a^Qo b c
|ļ=>Array Value
|Ľ a=>Ó a Qi
|ľ a b c=>λ a b c=>?_
|Ŀ=>Qa 1
|ŀ a=>ç Str a
|Ł=>p.ks.map .int
|ł a=>Tree a bg
|Ń=>Qb 5
|ń=>.un
|Ņ a=>Ne.symm a
|ņ a=>Ý^Ñ a
|Ň=>đ "__debug__"
|ň a b c d e f=>k a b c d Gr.refl e f
|ŉ=>"tuple"
|Ŋ a=>ç Key a
|ŋ=>↑s.heap.objs.size
|Ō a b c d e=>Qo (a:=b) (hp1:=c) d e
|ō a=>(.nx,a)
|Ŏ a=>X.env.cells.lookup a
|ŏ a=>.bl a
|Ő=>ŏ true
|ő=>ŏ false
|Œ a b c d=>þ (QR a b) c d
|œ a b c d=>envOfC a b s.heap.objs.size c d
|ŕ=>Qa 2
|Ŗ a=>s.heap.push a
|ŗ a b=>ė X a b
|Ř a b c=>É (Ĭ a) b c
|ř=>by rfl
|Ś a=>QF a Ì
|ś=>Â Y1
|Ş a=>ù Å a
|ş a b=>backTo a^Î b
|Š=>"stretch"
|š a b=>PySem.W.nsIn a mainGlobals b
|Ţ b c=>Qr (Qw a) b c
|ţ=>(·.1)
|Ŧ=>Qh e
|ŧ=>⇑xs
|Ũ a b=>by rw[a,b];rfl
|ũ=>aK p
|Ū a b c d e=>ć (Qx a b c) d e
|ū=>Ù ds
|Ŭ a=>X.env.scope.names.lookup a
|ŭ a b=>.ins a b
|Ů a=>a[i]?
|ů a=>Qe^Q1 a
|Ű=>↑a
|ű a b c d e=>wpAny _ a b c d e
|Ų=>bg n
|ų a=>a=none
|Ŵ a=>ų^H a
|ŵ a=>Ē é a
|Ŷ=>ų w.place
|Ÿ a=>(Ac.mp a).1
|Ź a b c d e=>(Bx (a:=b) (by repeat (first|show c|apply d)) e)
|ź=>Â V
|Ż a b=>λ a b=>?_
|ż a=>Nat.mul_le_mul_left _ a
|ž=>.head _
|ſ a=>.tail _ a
|Α a b=>upd H a b
|Β=>by simp;lia
|Ε a=>ŗ H a
|Ζ a b c d=>Zo a b c^Ç d
|Η a b c=>.Attribute a b c
|Θ=>Qa 3
|Κ a=>f env a
|Λ a=>2 ^^^ a
|Μ a b=>sIx items.size a b
|Ν a=>(false,a)
|Ξ a=>Ν^æ a
|Ο=>Ù []
|Ρ a=>.builtin a
|Τ a=>Builtin.SmallTypes.nextOf ↑a
|Υ a b=>ø a heap b
|Φ a b=>.cons a b
|Χ=>ã a
|Ψ a=>K.lookup a
|Ω a b c=>QK^Qj a b c
|δ=>S.pg.map aK
|ε a b c=>QS a b c Ĝ
|ζ a=>h'.get? a
|θ a b=>QT Ã a b
|ι a=>a->ä
|μ=>⇑p.ks
|ν a b c d e=>Ú X.prog X.w a b c d e
|ς b=>Ţ b Qp
|τ a b c=>.Constant a b c
|υ a b c d e f=>QO a b c d e^Ç f
|χ a b=>Zj (top a) b
|ψ a=>by rw[a];simp
|ω=>I.tok _
|ϊ=>ë Y
|ϋ a b c d e=>ZJ a PySem.F.plainAttrs_str b c d e
|ό a b c d e f=>C6^wpAny_field a b (c:=d) e f
|ύ=>QL Ã
|ώ=>wL xs
|Ϗ a b=>by rw[a,b]
|ϐ a=>compareOp a
|ϑ a b=>List.lookup (a : Str) b
|ϒ=>ã s.heap.objs.size
|ϓ a b=>DE X a b
|ϔ a=>à a ?_
|ϕ=>⇑P.ks
|ϖ a b=>Qg aB a b
|ϗ a b=>Qq a^QG b
|Ϙ=>"ended"
|ϙ a b=>Q9 a Z.z0 PySem.boot_len b
|Ϛ a=>Value.ref a
|Ϝ a b=>.stretch a b
|ϝ a=>h.get? a
|Ϟ=>Õ row
|ϟ=>ι Shared
|Ϡ=>Â Expr
|ϡ=>ſ ž
|Ϣ=>Ε s
|ϣ=>⇑ps
|Ϥ a b c d=>wpAny_mono a b λ_ _ c=>d
|Ϧ a=>Str.ofString a
|ϧ a b=>by ext a;show b
|ϩ a=>Qo a ?_
|Ϫ=>ς Ì
|ϫ=>ps.map .int
|Ϭ=>Õ x
|Ϯ a=>by have:=a;simpa using this
|ϯ=>⇑L.rows
|ϰ=>f env
|ϱ a=>g1.trans a
|ϲ a b=>List.set_append_right _ a b
|ϳ a=>RelV a u
|ϴ a b c=>{ a:=b, data:=c }
|Ϸ a b=>ϴ cls (ĥ a) b
|ϸ a b c d=>aA.grow S1.wo.rb a b c d
|Ϲ a b=>tD.run a e1 b
|Ϻ a=>by rw[a]
|ϻ=>Â TR.aG
|ad a=>beq_eq_false_iff_ne.mpr a
|ag a=>QE^Ö a
|aC=>txt i
|aE=>opt p.hi
|aS a b=>Qd a^ü b
|a7 a b=>PE X a b
|bb a=>Nat.mul_le_mul_right _ a
|bd=>txt n
|bn=>ġ 1
|bp=>"range"
|bG=>ġ 0
|bI a=>a->Ģ
|bP=>bI Þ
|bS=>bI DV
|bT a b c d=>∀(a:V)(b:c),d
|bX a b=>s.heap.IsTuple a b
|cj a=>ų^X.mg a
|ck=>Qb 7
|cm=>bZ S
|cr a=>ð ZG a
|cK a b c=>ĝ a heap b toks c
|cS a b c=>PySem.W.findIn a ↑b c
|da=>"number"
|dc=>Ĭ X.calm
|dm a b c d=>ν X.A a b c d
|du a b c=>congrArg a^StrLaws.glued_eq_join b c
|dw=>Qa 4
|dz=>frs X.stack
|dA=>ns.map .int
|dC=>ι Hp
|dE a=>Nat.le_of_lt a
|dL a=>p.ks.drop^Ĩ a
|dO=>"self"
|dP a b c=>PyProof.Rows.callWith_type1 a b c
|dQ=>"put"
|dS a b=>Ĭ^PySem.W.keepIn a b
|d5 a b c d=>Qc a^Ħ b c d
|d6=>"found"
|d9=>ÿ w.O7
|ec=>C7 À
|ed=>"cut"
|ee=>õ ē
|eg a b c d e=>Œ a b (QR c d) e
|eh a b=>Q2 a (ô b) QA
|ej=>1000
|en a=>by show a
|ew a b c d=>eh (ε a b c) d
|ey a=>X.s₀.heap.objs.size<=a
|ez a b=>a>(Ù b)
|eA=>(· < ·)
|eD a=>DV.int a
|eI=>Ľ 1
|eJ=>↑J.length
|eM a b c=>.Call a b [] c
|eS a b c d=>eM (ķ a b) c d
|eW a b c=>swapsWith a b c X.env
|ff a b=>Qf a^ô b
|fg a=>a≠X.env.locals
|fh a b c=>by exact a;rw[b];show c
|fm a b=>QC a b Qp
|ft=>Í i
|fw=>Ñ k
|fx a=>Vals a us
|fy a=>cR rows a
|fz a=>ï^ŏ a
|fA=>⇑p.ps
|fE=>.none
|fF=>"table"
|fI=>ú n
|fN a b=>Ą a^Qe b
|fP a=>show a by decide
|fR a=>env.set i a
|fS a b=>J.set a b
|fT a b c=>by ext a;rw[b,c];rfl
|fY=>eC Ě
|f3 a b=>Q5^ZN a b
|f6 a=>λ_ _=>a
|f7 b c=>QD b a Á Qz c
|f8=>Ŋ DV
|gg a b=>ų^ϑ a b
|gi=>⇑kvs
|gm=>X.s₀.heap.get? b
|gp a=>JM^eB a
|gu a=>(a).ks.length
|gw=>"answer"
|gL a b c=>dm a b X.xe c
|gQ a=>fs.lookup a
|gV=>ZD O4 L
|g8 a b c d e=>hM a b c^Ø d e
|hp a b=>by ext a;rw[b]
|hF a=>(a).length
|hH a=>OV.lst a
|hJ a b c=>by ext a;rw[b];show c
|hL b c=>Ţ b^ZK c
|hU=>⇑ks
|hV a=>not a
|hW a b=>Ĳ a (QG b) Q3
|hZ=>⟨⟩
|ia a=>binaryOp a
|ic=>by omega
|ie=>"dict"
|ig=>by ext aA;rfl
|ik a=>SeqAt.shaped^toP a
|im a b c=>by have:=a;rw[b]at this;show c
|io a b=>Qj a Y b
|iq=>Ñ n
|ir=>ſ ϡ
|ix=>p.1
|iA a b c=>C6^wpAny_seqItems a b c
|iE a=>wpAny_holding a
|iH b c d=>f7 b^Ó c d
|iL a b c=>by unfold a at b;show c
|iM=>Ï Value
|iN a b=>ÿ<|a==b
|iO a=>Ak^Ņ a
|iP a=>I.tuple a
|iS a b c d=>Zd false a b c d
|iW=>"find"
|iX=>"read"
|i0=>Κ J
|i3 a b c=>by rw[a,b];show c
|i4 a b c=>eB^Qg a b c
|i6 a b c d e=>ŭ è^aY a b c d e
|i7 a=>nomatch a
|i8=>Õ "pack"
|i9=>.nil
|jc a b c d=>thn a^ľ b c d
|je a b c=>TP.Za rows a b c
|j2 a=>s.ns.getD a 0
|kb a b c d e f=>UM a b c d^χ e f
|kd a=>TR.still ds a
|kw a b c d e f g=>Ū a b c (Qx d e f) g
|kx=>g1.gs S.wo.rb
|li a=>by rw[hd];exact a;decide
|lp=>1000000021000000147000000343
|lr a b=>Æ (Zb a) b
|ly a b=>Ķ aV a b
|lI=>ų A.handled
|lP a b c=>au a ρ B H b c
|lS=>p.ks.map DV.int
|lT a b=>.int a b
|l3 a=>(by cases a<;>rfl)
|l4 a=>ZT kvs a
|l6 a=>#[⟨a⟩]
|l7 a b=>Qo a^Qt b
|l8 a b=>TR.Q7 a w.aim b
|l9 a=>Loc X.env.scope a
|ma=>oN p.sd
|md=>"weaver"
|me a b=>lP K a b
|mh=>aM ks k
|mi a=>#[a,Y]
|mm a b=>by have:=a;simpa [b]using this
|mn a b c=>T.page a b c
|mo a b c d=>λ a b c d=>?_
|mr a b=>(a).map b
|mw a=>mr a .int
|mx a b=>mr (ĉ a) b
|my a b=>by simp[a,b]
|mz=>⇑r
|mB a=>by exact a;lia
|mG=>Ñ m
|mH=>Ñ S.top
|mM=>Ş 0
|m5=>ks.Pairwise eA
|m9=>"place"
|ng=>QY d
|nh a b c d=>Qj (x:=a) b c d
|ni a b c d e=>ZJ a PySem.F.plainAttrs_dict b c d e
|nj=>ł S
|nv=>Ŗ PySem.W.emptyDict
|ny a=>Bj.mp a
|nz=>ns.map Y1.int
|nB a b=>Qg Zm a b
|nC=>Qa 5
|nE a b=>Zp a Ì b
|nG a b c d e f=>ZZ (a:=b) (ds:=c) d e f
|nI=>Ĩ aim
|nK=>Ľ 2
|nN=>eC ő
|nS a b=>wpAny_setField_rec a Ê b
|nV a b=>TR.Zg p a b
|nX a=>Sum.inl a
|nY a=>PySem.W.instObj a s.heap.objs.size
|n4 a b c=>SqT a b c xs
|n5 a=>Ad _ a
|n9 a=>by rw[<- a];simp
|oa a=>Around.under_plainId a _
|og a b=>QU a Y b
|oh a=>ü^Ś a
|om a b=>Qy 1 a^Ç b
|oq a=>me ds a
|ot a=>PySem.mem_of_lookup a
|oB a b c=>Zq a b Å c
|oC a b=>ZI (QL a) b
|oP=>L.Ok O4
|oQ=>pT ps
|oS a b c d e=>λ a b=>do let c <- d;e
|oT a=>ds.drop a
|o6=>Qb 6
|pc a=>ds.map a
|pe a b c=>aA a ρ B H b c
|ph=>SqL.of h1
|pk a b=>Ù^mr a b
|pv=>C8 Y
|pw=>a.names.lookup x
|py=>.local
|pA=>λ_=>none
|pB a=>Room k a
|pE=>eC Ő
|pH a b c d=>É (a=b) c d
|pK a=>.fields a
|pM a=>I.hok.fresh a
|pS=>"str"
|pZ=>Type
|p9 a=>(a).isSome
|q7=>ë k
|rc=>õ ds
|re a b=>Ŗ^Ϸ a b
|rg=>mi Y
|rh a=>JH^Ç a
|rj a b c d e f=>Ú prog a b c d e f
|rk=>⇑x
|rn a=>scope.names.lookup a
|rp a b c=>HT.sIx a b c
|rq a=>!↑a
|rr=>ō env
|rL a b=>f3 a^Qt b
|rS a b=>pe K a b
|rV a b c d=>à (Heap.get?_update_other a b c) d
|r6 a b=>Α a^Ù b
|r8 a b=>(a).getD b
|se a=>p.ks.take a
|sf a b c d=>by exact a;rw[ů b];exact c;rw[d];rfl
|sg a=>Nat.succ_le_succ a
|si=>ŵ "aim"
|sj=>⇑ns
|sk=>Nat.le_succ _
|sA a b=>Zh^Qd a b
|sB a=>!(õ a)
|sD a b c=>ğ a PySem.F.slot_list_extend PySem.F.type_list_extend b c
|sF a=>xs.map a
|sK=>(·.2)
|sL a=>(a).objs.size
|sM a=>S.rd+a
|sP=>Q0 stm
|sQ a b c=>do let a <- b;ï c
|sR a=>aZ a k
|sT=>sR ks
|sU=>sR p.ks
|sW a b=>S.pg.set a b
|sX a=>t.ns.getD a 0
|tf=>TR.fresh d
|tj=>cT x
|tm a b=>Æ (Aq.mp a) b
|tq=>Ý i
|tz a b c d e=>QO a b c d e Qk
|tF a=>.aJ a
|tI a=>a ≠ "__name__"
|tJ a b c=>SqL a H b c
|tN=>Q0 st
|tP a b c d=>Zy^Ζ a b c d
|tT a b=>aA.bB W a b
|t5 a=>qn a m
|t6=>K w.params
|t7=>yw a.units
|t9 a b=>Int.emod_lt_of_pos a b
|vr=>TR.Ze p w.aim
|wa a=>ϙ ZF a
|wb a=>wpAny_truthy_bool a
|wc a=>X.A.units+a
|we a=>(L.first+a)
|wf a=>XE w.O5 a
|wh a=>í^Ñ a
|wm a=>ù ß a
|wn a=>io Ã a
|wp=>⇑J
|wq a=>I.list a
|wt=>λ_ _ _=>False
|wv a b c d e f g h i=>wpAny_getItem_str_slice (a:=b) (c:=d) (e:=f) g h^post_val_or_str i
|ww=>"move"
|wx a b c=>Ji^Js (a:=b) c
|wy a b c d=>by ext a;rw[b];exact c;rw[ů d];rfl
|wB a=>TR.Tree a bg
|wC a b=>Ò a Å b
|wD=>ſ ir
|wM=>t5 n
|wP a=>a->Bool
|wS=>"zip"
|wT a=>show a by simp
|wV a b c d=>QN a (Ç b) c d
|wX a=>ï ↥a
|wZ a=>ċ^ċ a
|xk a=>.bool a
|xt=>Ao e
|xz a b c=>.Subscript a b c
|x3 a b=>congrArg a b
|x4=>cJ ds
|x5=>p.ks.Pairwise eA
|zg a=>ws.set i a
|zu a=>List.getElem?_range a
|zw=>fresh d
|Af a b=>Ö<|a<b
|AA=>tF kvs
|AB a b=>(JW a b).elim
|AC a b c d e f=>Gr a ρ b c d e f
|AD=>QG nN
|AE a b=>by exact a;rw[b]
|AF a b=>(a).filter b
|AG=>⇑rs
|AH a=>w.place>a
|AI=>bootBuiltins x
|AJ a b c d e f g=>bR a b env c d e f g
|AK a b c d=>Qg aB a b c d
|AL=>cl x
|AM a b c d e f=>ű a (b >>= c) d e f
|AN=>l6 c
|AO=>oq xs
|AQ=>⇑s.ws
|AR a=>S.pg++a
|AS a=>g env a
|AT a b c d=>aR a ρ b c d
|AV=>Í p.lv
|AX a=>Ē Ę a
|AY a=>ϱ^g2.trans a
|AZ a b=>AF (ĉ a) b
|A3 a b=>by have:a:=b;lia
|A4=>Ñ i
|A6 a b=>Ö<|a<=b
|Bl a b c=>Builtin.Range.rangeSize a b c
|B6=>ι VK
|Cl a=>pB^A.deeper a
|CA a b=>λ_ _ _ a=>b
|CB a=>Ah.mp a
|CC a=>False.elim a
|CD a b c d e=>PySem.W.kia_one a I.kIn b c d e
|CF a b c d e=>by rw[a];intro b c;have:=h1 d e;simp;lia
|CH=>"told"
|CI a=>codeAny_builtin a ?_
|CL a b=>Txt.join a b
|CM=>gj a.units
|CO a=>Ü ↑a
|CS=>ü Ì
|CY a b c=>ϋ a PySem.F.slot_str_join PySem.F.type_str_join b c
|Da=>f6 False
|Dt a b c d=>pH a b (í c) d
|Ex a b c=>by rw[a]at b;show c
|EC a b c=>hW (ly a b) c
|ED=>by simp at h
|EF=>C7 e
|EG=>ps.zip us
|EH=>by simp only[An]<;>lia
|EI=>"isinstance"
|EJ a b=>by ext a PyData.depth;show b
|EK=>"0123456789"
|EL a b=>eF a^Ü b
|EM=>Â Stmt
|EN=>ï false
|EO a b c d=>ā a^Ļ b c d
|EQ a b c=>Ĭ^PySem.W.codeIn a b c
|ER=>ŀ DV
|ES a b c d e=>eM (Η a b c) d e
|EU a b c=>ni a PySem.F.slot_dict_get PySem.F.type_dict_get b c
|EV a b=>λ_ _ _ _ _ _ _ a=>b
|EW a b c d e=>Qc a^d5 b c d e
|EZ=>Q6 P
|E1 a b=>Zt a w.aim b
|E2=>"deed"
|E4=>"new_page"
|E6 a b=>UF K mg a^top b
|E7=>C9 ?_
|E8=>Nat.not_lt_zero _
|E9 a b c d e f=>Bk a ds b c d e f
|Fa=>Â α
|Fc a=>ð Xq a
|Ff=>fy O4
|Fh a b c d=>holding a^getMethod b c d
|Fm=>Bc _
|Fn=>Qm e
|Fs=>Qb 9
|Fu a=>k.after a
|FA=>Qw a
|FB a=>X9 a Ê
|FC a b=>Ö<|a=b
|FD a=>ç a Y1
|FE=>ë h
|FF a=>λ_ h=>a
|FG a b c=>ù (ϖ a b) c
|FH=>ŏ b
|FI a=>C6^wpAny_rule a
|FK=>ÿ u.O7
|FL=>Ů ds
|FM=>AX ı
|FO=>q.1
|FR a=>wpAny_passesOwn J a
|FS a b=>OpR X a b
|FT a=>Builtin.Tuple.tupleExact a
|FU a=>kvs.map a
|FV a b c d=>(by subst a;rw[b]at c;cases d)
|FX=>nD r
|FY a=>List.forall_mem_cons.mpr a
|F0=>C1.mp hx
|F3 a b c=>rows.Pairwise^λ a b=>c
|F6 a b c d e f=>PySem.W.kia_tup a I.kIn b c d e f
|F7=>"rest"
|F8 a=>t.ws.set i a
|F9 a=>List.eq_of_mem_replicate a
|G2=>ÿ w'.O7
|G6 a=>ş pos a
|Id=>ø S rd^sM 1
|Iq a=>a[j]?
|Iw a=>ZP Ã a
|Ix a b=>PySem.W.mg_of X a b
|Iy=>ŵ "goal"
|Iz a b c d e f g=>Ϲ a^λ b ρ1 c d g1 e f=>g
|IA a b c d e f=>Iz a b c H1 d e f
|IB a b c d e=>IA a b c S1 d e
|IC a=>⇑(l.filter a)
|ID a=>a[n]?
|IE a=>X.K.lookup a
|IF a b=>QY^Ϝ a b
|IG a b c=>ZB (a:=b)^QK c
|IH a b=>Jb rows a b
|II a b=>QK (a:=false) b
|IJ=>Ş 2
|IK=>mi _
|IL a b c=>JB a (Ρ b) c
|IM a b=>Int.emod_nonneg a b
|IN=>Ï č
|IO a=>p.lv=a
|IP a=>λ env=>a
|IQ a b c=>(∀a∈b,c)
|IR=>1073741824
|IS=>"__init__"
|IT a b=>wpAny_newObj_type a b
|IU=>Qe this
|IV a=>List.filter_cons_of_pos a
|IX a b c d=>(by rw[a]at b;cases c;show d)
|IY=>mid P
|IZ=>"worth"
|I0=>prs p
|K1=>"deeds"
|K2=>"deed_count"
|K3=>"sound"
|Lb=>"pack_table"
|Lc=>Int.negSucc n
|Lj=>Â Key
|Ll=>Í k
|Lm=>ę 1
|Lq a=>Ĭ^X.fn a
|Lu a=>ķ x a
|LA=>opt b
|LB a=>ks.take a
|LC=>⇑S'.pg
|LD a=>Obj.mapSeq a
|LE a b=>Yu (eB a) b
|LF a b c d=>Zf a^þ b c d
|LG=>Zv n
|LH a b=>â (Ĭ a) b
|LI b c d e=>hf b c d^Ø a e
|LJ a b c=>τ (Õ a) b c
|LK a b c=>ϔ^wx a b c
|LL a b c=>mr a^λ b=>c
|LN a b c=>ň a ρ B H b c
|LO a b=>LN _ a b
|LP a=>LO W a
|LS=>Sem Value
|LT a b=>aL a b Q3
|LU=>"write_count"
|LW a=>sl3 a i
|LX a=>ù Û a
|LY=>ġ 10
|LZ=>ŵ ı
|L4 a b=>(no a b).elim
|L6 a=>Gl X a
|L7 a=>tupleKind_room_in1 a
|L8 a b=>by unfold a at h ⊢;show b
|L9=>Qe e1
|Ma a=>List.Pairwise.filter _ a
|Mj a b=>Nat.mul_le_mul a b
|Ms a b=>Txt.startswith a b
|Mx=>"page"
|My=>Â Env
|MF a=>ō^Y2 a
|MJ a b c=>bT a b Pg c
|Nd a b c d=>Has P w K mg O8 a b c d
|Nf a b c=>pH a b none c
|Nl=>ç Addr Obj
|No a b=>Zf a^QG b
|Nw=>Ï Addr
|NA=>Ŋ Y1
|NB=>Ů t.ws
|NC a=>a<=100
|ND a b c=>(by have:=a;rw[b]at this;cases c)
|NF a=>Calls.spliced_cons a
|NG a=>wpAny_Call_Name_kw a
|NH a=>Zk a Ô
|NI=>NH P
|NL a=>List.getElem?_zip_eq_some.mp a
|NM a=>List.length_pos_of_mem a
|NN a b=>Ä a b Ě
|NO=>ã n
|NR=>Ċ "pack"
|NS=>fy t.S.O4
|NU b c d=>Q8 b a Á Qz c d
|NV a=>tF^cZ a
|NW=>t5 rows.length
|NY=>relabel scope X.env
|N0 a b=>.BoolOp a b pos
|N1 a=>λ a=>?_
|N2 a b c=>bO a (Zi b) c
|N3 a b c=>Yg a^cL b c
|Of a=>Μ items.size a
|On a b c d=>ϩ^skip a b c d
|Op a=>iN a sysModules
|Os a b=>⇑(AZ a b)
|Oy=>frs X.outer
|OA a=>(a).toNat
|OB=>M Bool
|OC a b=>ds.mapM^dh a b
|OE a b c=>by unfold a at h;ext b;show c
|OF=>"check_number"
|OG=>90000
|OH=>dH Q
|OI a=>Nat.toDigits 10 a
|OK a b=>wL^XF a b
|OL=>õ xs
|OM a b c=>ez a[b]? c
|ON=>AX md
|OO a=>I.ok.hd a
|OP a b c=>attributeBase a b X.env c
|OQ=>c.val k
|OS=>Xv rows O4
|OT a=>Ù^aU a
|OU a=>ų^Ψ a
|OW a=>iN a Ň
|OX a b c d e=>(λ a=>by rw[b,c]at d;cases e)
|OY a b=>aR a bg b
|OZ a b=>W.kept a f b
|O0=>"pages"
|Pc=>dW d
|Pd a b=>Ò a b 1
|Pe=>Ā m
|Pf=>Λ 64
|Pi a b=>og (Iw a) b
|Pm a=>(List.append_eq_nil_iff.mp a).1
|Pp a b c d e f g h=>Xb a b c mg O8 d e f g h
|Ps a=>Jw^JD a
|Pw a b=>rp items.size a b
|PC a=>Value->a
|PD=>.str
|PF a=>Value.type a
|PH a=>w.pairs++a
|PK=>H a
|PM=>C8 e
|PP a=>a<w.O6
|PQ a b c=>Heap.SameBut a b c
|PR=>standAt apos.atName
|PU a b c=>P2 a (ϐ b) c
|PV a b c=>ZL^Ħ a b c
|PY a b=>L2.PE.imp a b
|PZ a=>List.prefix_append _ a
|P1 a=>Builtin.SmallTypes.ownedTupleIsFree ↑a
|P3 a=>ii.extBut a D.iz
|P4=>XJ P
|P5 a=>Bool.eq_false_iff.mpr a
|P6 a=>T.lookup a
|P7 a b c d e=>QZ a b c d Y e
|P8 a b c d=>Qo (a:=b) (Qv c) d
|P9 a=>â a Y
|Ql=>Ċ " "
|Rz a=>Ż a hx
|RM a=>Υ s a
|RZ a=>Ϗ a Nat.one_mul
|R5 a b=>Zx (i:=a) Y b
|Sc=>tF []
|Sd b c=>NU b Ì c
|Sv a b=>C6^wpAny_typeOf a b
|SN a b c d e f g=>k3.extBut a b c^k2.extBut d e f g
|S0 a b c d=>by have:=a;unfold b at this ⊢;rw[c,d];rfl
|S9=>Ï Expr
|Ta a b=>oB é a b
|Ti a b c d=>∃(a:b)(c:Pg),d
|Tj a=>a<s.heap.objs.size
|Tk a=>(a,hp')
|Tm=>Tk d
|To a=>X.env.kindOf a
|Tp=>N.take n
|Tq a=>without p a
|Ts=>Qb 8
|Tu=>Qe h
|Ty a=>DV.ref a
|TB=>"raised"
|TC a b c=>aX ds a b c
|TD=>"finish"
|TH=>Qa 7
|TK=>dN d
|TL=>Ý h
|TM=>ú m
|TN=>Ĩ k
|TU=>Ľ 3
|TW=>Ś Z.k10
|TZ=>Ş 4
|T0=>Ů env
|W0 a b c=>Qy 2 a^á b c
|XP a b c d e f=>AJ a b σ c d e f
|YP=>ID J
|aa0=>AllBare s'.gens
|aa1 a b c=>Heap.get?_update_self a b c
|aa2=>p.ks.zip p.ps
|aa3 a b c=>Ĭ^PySem.W.plainGet a b c
|aa4 a b c=>IP<|do if <- a then b else c
|aa5 a b=>(by ext a;rw[Tu];cases b<;>rfl)
|aa6=>Nat.succ_pos _
|aa7 a=>wpAny_execs_nil a
|aa8=>"raise_root_over"
|aa9 a=>plainId_quiet a _
|ab0 a=>by ext zf;rw[a];simp
|ab1=>"page_room"
|ab2 a b=>TR.Zt a w.aim b
|ab4=>Calls.spliced_nil ?_
|ab5=>P.ks.take IY
|ab6=>RZ Nat.add_mul
|ab7=>I1.hok.fresh Ĕ
|ab8=>h1.symm.trans e
|ab9 a=>p.ps.take a
|ac0 a=>Nat.eq_zero_or_pos a
|ac1 a=>Nat.sub_add_cancel a
|ac2=>strIterType x
|ac3=>"read_count"
|ac4 a=>List.take_succ_eq_append_getElem a
|ac5=>Cq _
|ac6 a=>List.mem_filterMap.mpr a
|ac7 a=>List.drop_of_length_le a
|ac8=>by rw[Am];simp;lia
|ac9 a b=>by rw[a];exact b;decide +kernel
|ad0 a=>O8.Ns mainGlobals a
|ad1 a b c d e=>wpAny_call_entry a b c d e
|ad2 a=>ks.drop a
|ad3=>"pairs"
|ad4 a b=>(by cases w;simp only at a;subst b;rfl)
|ad5 a b=>ÿ^behindInMarks a b
|ad6=>Ċ "-"
|ad7=>Ĩ w.aim
|ae0=>Lu pos
|ae1 a=>opt^bg a
|ae3 a=>ç a Value
|ae4 a b c=>Ĭ^Builtin.Range.small a b c
|ae5 a=>a<=rows.length
|ae8 a b=>call (Ρ a) b
|ae9=>eqU x
|af0=>ns.map DV.int
|af2 a=>ï^DV.lst a
|af3 a=>ï^õ a
|af4=>ÿ v.O7
|af5=>Ś Z.nu
|af6=>ſ wD
|af7 a b=>iN a^đ b
|af9=>xk true
|ag0=>IH m fork
|ag1=>r.take i
|ag2=>Â Keyword
|ag3 a b=>Ĭ^PySem.W.hasDictIn a b
|ag4=>⇑s.S.pg
|ag5=>⇑t.ws
|ag6=>Paired.length r
|ag7 a=>rows.length<=a
|ag8=>fs.map ţ
|ag9 a b=>σ.set a^í b
|ah0=>λ_=>true
|ah1=>"type.__call__"
|ah2 a b=>by rw[a,b];lia
|ah4=>ns.map PySem.W.WData.int
|ah5 a b=>au.cons a b
|ah6 a=>QE^XS a
|ah7 a=>Nat.min_eq_right a
|ah8 a b=>(by cases a;show b)
|ah9 a=>p.ps.drop a
|ai0 a=>Option.map _ a
|ai1=>Y2 0
|ai2=>"answer_of"
|ai3 a=>TR.Jv a 0
|ai4 a b c d e f g h=>Ev a b c d e f (λ_=>g) h
|ai5 a b c=>eP a (Ü b) c
|ai6 a b=>Ó a^ü b
|ai7=>ë fw
|ai8 a b=>Ĭ^PySem.W.isFn a b
|ai9=>Ů X.N
|aj0 a=>ų^mg a
|aj1 a b c=>Φ a^Φ b c
|aj2=>G6 es
|aj4=>λ_=>Ő
|aj5 a=>YK kvs a
|aj6=>aj5 k
|aj7 a=>fX X.K a
|aj8=>wpAny_onRaise ?_
|aj9 a b=>ks.filter λ a=>b
|ak0 a=>List.getElem?_of_mem a
|ak1 a b=>Txt.replace a d6 b
|ak2 a b=>af7 (đ a) b
|ak3 a=>a=s.heap.objs.size
|ak4 a b=>(a).names.lookup b
|ak5 a c d e=>I.O8.free b a c d e
|ak6 a b c d=>(callWith a b first c d)
|ak7=>Jh st
|ak8 a b=>by simp[a,B0,b]
|ak9 a b=>ZL^á a b
|al0 a b=>m8 s.heap a b
|al1=>Yw Qk
|al2 a=>List.getElem?_eq_none_iff.mp a
|al3 a=>List.filter_cons_of_neg^Ğ a
|al4=>QM hn
|al5=>XB Qi
|al7 a b=>(by injection a with b;lia)
|al8=>Ï Y1
|al9 a=>ï^Ù a
|am0=>Ρ "object.__setattr__"
|am1=>ϱ g2
|am3=>Ē û "held"
|am4=>ZW X.prog X.w
|am5 a b c d e f g=>I.turned (a:=s.toks) b c d e f g
|am6 a=>Calls.evalArgs_plain a
|am7 a=>IntsAre a ns
|am8 a b c d e f g=>Xu a scope b c d e f g
|am9 a=>s.ws.set i a
|an0=>"room"
|an1=>(Ý first)
|an2=>ú S.top
|an3=>ŀ Int
|an5=>f6 Y
|an6 a=>YZ L.rows L.m L.fork a
|an7 a=>Value.int i a
|an8=>Ec À
|an9 a=>(Aj a).symm
|ao0 a=>(Bm.mp a).2
|ao1 a=>Vis X.env.scope a
|ao2 a b=>isTrue a X.env b
|ao3=>g env
|ao5 a b=>by simp only[a,b,Ed]
|ao6 a=>cX rows a
|ao7=>ao6 O4
|ao8=>(gV).rows.length
|ap0 a b=>Txt.split a b
|ap1=>"taken"
|ap2 a b=>DW.pt^zR a b
|ap3 a=>DV.str a
|ap4=>Õ wd
|ap5 a b=>Ö<|a≠b
|ap8 a b c d e f g=>ZS (caps:=a) (idx:=b) c d e (λ_ _ _ _=>f)^λ_ _ _ _=>g
|ap9 a b c d e f g=>ü^ap8 a b c d e f g
|aq0=>ia .Add
|aq1=>ia .Mult
|aq2=>wm 0
|aq3=>FB _
|aq6 a b c=>by subst a;rw[b]at mu;show c
|aq8 a b c d=>call_meetsIn PySem.F.slot_dict_get a PySem.F.entry_dict_get b c d
|aq9=>C8 À
|ar0=>I.mod.glob.keeps I.bk
|ar1=>c.toArray.any ae9
|ar3=>Ea À
|ar5 a b c d e f=>Zf a^eg b c d e f
|ar6=>yb bn
|ar7=>ds.all Yd
|ar9 a b=>T.link a p b
|as0 a b=>dZ a^bg b
|as1=>aU ps
|as2=>W i
|as3=>by kernel_rfl
|as4 a=>PySem.F.args_str_split_2 _ a
|as5=>cI.map pT
|as6=>x6 ..
|as7 a b=>à a^ö b
|as8=>õ Ī
|as9=>õ Ł
|at0 a b c d e f=>Qj (x:=a) (b:=c) d e f
|at1=>ü QJ
|at2=>ŵ m9
|at3 a=>Α s.heap.objs.size a
|at5=>cr Å
|at6 a b=>l7 (QX a) b
|at7 a b=>og (QL a) b
|at8 a b=>FS (ϐ a) b
|at9=>model X.prog X.w
|au0 a=>NN isD a
|au1=>Ē è "kept"
|au2 a=>a≠s.heap.objs.size
|au3 a b c=>by exact a;rw[b,c];rfl
|au4 a=>by ext a;split<;>rfl
|au5=>PySem.intText? x
|au6=>Qa 6
|au7=>Ü d
|au9=>Ş 1
|av1=>Za L.rows L.m L.fork k
|av2 a b c d=>ES a b c d pos
|av3 a b c=>av2 a b apos c
|av4=>e x.symm
|av5=>Array iM
|av6=>⇑vs
|av7=>C7 Ê
|av8=>K.In s.heap
|av9 a=>Bi a Á
|aw0 a c d=>I.O8.there b a c d
|aw1=>Sem Bool
|aw3 a=>beq_iff_eq.mpr a
|aw4 a b c d e f=>Gr.laid (a:=b) (ρ:=c) (d:=e) f
|aw5 a=>λ_ _ _ _=>a
|aw6 a=>ZL^Ç a
|aw7 a=>jj.extBut a D.jz
|aw8 a=>W.at_ n a
|ax0 a=>by ext a PyData.canLay0;rfl
|ax1=>L.s k
|ax2 a=>KTD.Dat.flat a.2
|ax3 a=>updateSeq s.heap.objs.size a
|ax4=>"script"
|ax5 a b=>QC Z3 a b
|ax6 a=>!(Ù a)
|ax7 a=>Z7 a Ê
|ax9=>xI rows O4
|ay0=>TR.prs p
|ay1 a=>(TQ.of a).l
|ay2=>í Ű
|ay3 a b c=>ć a b^ô c
|ay4=>ŀ Value
|ay5 a=>ų^xs.lookup a
|ay6=>hV xs.isEmpty
|ay7=>n5 e
|ay8 a b=>tJ a b xs
|ay9 a=>x3 List.length a
|az0=>Tq w.aim
|az1 a=>w'.pairs=a
|az2=>az1 w.pairs
|az3 a=>Nat.le_of_eq a
|az4 a=>Qt^ax7 a
|az5 a=>JJ qj Z.z6 boot_str a
|az6 a=>az5^ü a
|az7 a b c=>λ a b=>ď c
|az8 a=>C7^ne_true_of_eq_false a
|az9 a=>s.heap.objs.size<=a
|aA0 a=>KV kvs a
|aA1=>aA0 vs
|aA3 a b c d=>codeAny_mono a^ľ b c d
|aA4 a=>(a).toArray
|aA5 a b=>Builtin.Slice.slicePlaces a b 1
|aA6=>h1.trans z
|aA7 a b c=>cU (eB a) b c
|aA8 a b c=>Xo a (gN b) c
|aA9 a b c=>bJ a bg b c
|aB0 a b=>aA9 a b aP
|aB3 a=>Nat.le_add_of_sub_le^Ae a
|aB4=>aO FO
|aB5 a b=>z.filter λ a=>b
|aB6=>Â ź
|aB7=>ã ĳ
|aB8=>í P4
|aB9 a=>ā a ?_
|aC0=>ĥ ŉ
|aC1=>ĩ ZC
|aC2=>Ĭ L.fork
|aC3=>ŵ "forks"
|aC4=>Λ 62
|aC5 a=>θ a^zJ ..
|aC6 a b=>cK a h' b
|aC7 a=>aC6 s a
|aC8=>aC7 tk
|aC9=>aC7 t'
|aD0 a b=>eW a b pos.line
|aD1=>f6 true
|aD2 a b c d e=>nh a b c^R5 d e
|aD3 a=>wC bH a
|aD4=>zg w'
|aD7 a b c=>k a ρ1 b H1 g1 S1.wo c
|aD8 a b c=>OM a b^aU c
|aD9 a=>Pd Zm a
|aE0=>PC LS
|aE1 a b c d=>P7 Ã a b c d
|aE2=>au0 at2
|aE3 a b=>.builtin a b
|aE4 a b c=>by rw[<- a,<- ⇑b];show c
|aE5=>Jh stm
|aE6 a b=>au.append a^au.one b
|aE7 a b=>XL kvs a b
|aE8 a b c=>TP.Za a b true c
|aE9=>Ν hp1
|aF0=>Ϻ e
|aF1 a b c d=>oS a env b c d
|aF2 a b c=>aF1 a env' b c
|aF3=>Ze p w.aim
|aF4 a=>Value.str x a
|aF7 a=>Vals xs a
|aF8 a b=>tupleKind^ZW a b
|aF9 a b c d e=>ObjOk P a b c d e
|aG0 a=>Ay a I.ok.above
|aG1 a b=>(a, ã b)
|aG2 a b c d e f g=>by intro a b σ c d e f;show g
|aG3 a=>max 1 a
|aG4 a b c=>s.heap.IsSliceOf a b c fE
|aG5 a=>Builtin.List.listTooLong a
|aG7 a=>Gr.laid a
|aG8=>JH Qk
|aG9 a b c d e=>by have:=a;rw[b]at this;rw[<- c,<- d];show e
|aH0=>"StopIteration"
|aH1=>Qe hf
|aH2 a=>by rw[<- a];rfl
|aH3 a b=>ps.map λ a=>b
|aH4=>Nat.succ_ne_zero _
|aH5 a=>bs.getD a false
|aH6=>Builtin.Int.intBits x
|aH7=>last i
|aH9 a b c=>List.all_eq_true.mp a b c
|aI1=>ĥ Đ
|aI2=>Ů ws
|aI3=>Ů s.ws
|aI4 a=>ų^X.H₀ a
|aI5=>Ϛ s.heap.objs.size
|aI6=>hV ds.isEmpty
|aI7 a b=>.ListComp a b scope pos
|aI8=>aB0 S S'
|aJ0 a=>a s.heap.objs.size
|aJ1=>⇑w.pairs
|aJ3=>Zi g
|aJ4 a=>fa env a
|aJ5 a=>TR.without a w.aim
|aJ6 a b c d e=>(by simp only[a,b,c,or_false]at d;obtain Y|Y|Y|Y|Y|Y|Y|Y|Y|Y:=e<;>rfl)
|aJ7=>Ñ ts.length
|aJ8=>Ý l
|aJ9=>fR au7
|aK0=>wm 1
|aK1=>LX 0
|aK2 a=>a=S.top
|aK3 a=>PySem.W.hideAll s.heap a
|aK4=>.cell
|aK5 a=>a::rest
|aK6=>aK5 b
|aK7 a b=>C6^wpAny_updateSeq_pair a b
|aK8 a=>A.units+a
|aK9 a b c=>bindArgs a #[b,c]
|aL0 a b c=>PySem.W.methodCall_KW (pl:=a) b c
|aL1=>Ap À
|aL2=>Xi st
|aL3=>QI e1
|aL4 a b=>by simpa [a,q]using b
|aL5 a=>by have:=a;simp;lia
|aL6 a=>Aq.mp a
|aL7 a=>by have:=a;simp at this;lia
|aL8 a b c=>List.Pairwise.imp_of_mem (R:=a) b c
|aL9 a=>Nat.add_le_add_right a _
|aM0=>"ValueError.__new__"
|aM2 a b c=>Jj a b c Ĝ
|aM3 a b=>zF (env:=a) b
|aM4 a b=>gN a b env
|aM5 a b c d=>aF2 a (aM4 b c) d
|aM7 a b c=>Z4 a b c hi sd
|aM8 a b=>aM7 a ks b
|aN0=>aM8 l ps
|aN1 a=>DV.bl a
|aN2 a b c=>by apply a;exact b;rw[c];rfl
|aN3 a=>List.length_pos_iff.mpr a
|aN4 a b=>ø a toks b
|aN5 a b=>ā a^Qt b
|aN6=>ċ bd
|aN7 a=>Ĭ^p9 a
|aN9 a b c d e=>Ω (J3 a b c) d e
|aO0=>ς ŕ
|aO1=>cr ě
|aO2 a b c d e f=>fS a^i6 b c d e f
|aO3 a b c d=>Ō aF a b (Qv c) d
|aO4 a b c=>aO3 a b c ?_
|aO5=>FD κ
|aO6=>LP Jd
|aO7 a=>ay8 K a
|aO8=>K.In h
|aO9 a=>wpAny_execs_cons a
|aP0 a=>C6^wpAny_letGo a
|aP1 a b c=>by simpa [pL,a,b]using c
|aP2=>Qe c
|aP3 a b c d e f=>by exact a;have:=ok.parts;rw[b,c];ext d e;split at f<;>split<;>simp_all<;>lia
|aP4=>"keys"
|aP5=>"root"
|aP6=>"change_shelf"
|aP7=>Ë e
|aP8=>Ý H
|aP9=>ů h
|aQ0=>ι Int
|aQ1=>pB X.A
|aQ2=>model prog w
|aQ3 a b c=>IL a b^aj7 c
|aQ4=>IO 0
|aQ5=>Rz x
|aQ6=>⇑fs
|aQ8=>X.env.frame>X.env.locals
|aQ9 a=>RelV a v
|aR1 a=>List.mem_filterMap.mp a
|aR2=>X.O8.get? b
|aR3 a=>s.heap.FunFrames X.O8 a
|aR4=>λ_ _ _=>Y
|aR5 a=>C6^C6 a
|aR6=>λ_=>0
|aR7 a b=>A.under^aE3 a b
|aR8 a b c d=>wpAny_callSpecial?_slot (name:=a) b c d
|aS0=>c env J
|aS1 a=>valueAt a k
|aS2 a=>ds.take a
|aS3 a=>ForInStep.yield a
|aS4 a b=>field ↑a b
|aS5 a=>Nat.min_eq_left a
|aS6 a=>List.nodup_append.mpr a
|aS7 a b=>aA.bB S1.wo a b
|aS8 a=>e env a
|aS9 a=>Uq ok.sorted a
|aT0 a b c=>sx rows.length a b c
|aT1=>more.take i
|aT2=>bs.all id
|aT3=>"note_deed"
|aT4 a b=>Qf a^Qn b
|aT5 a b c=>Ym a (Z5 b) c
|aT6 a b=>qC (env:=a) b
|aT7 a b c d=>ZQ (JP a b c) d
|aT8=>cZ seen
|aT9 a=>fH bg a
|aU0 a=>tF^aT9 a
|aU1=>zK z
|aU2=>t.trans aF0
|aU3=>Â Wk
|aU4=>Ñ c
|aU5 a b=>Ù<|a++b
|aU6=>ã a.heap.objs.size
|aU7=>ï none
|aU8 a b=>ø a slots b
|aU9 a=>ċ^ë a
|aV0=>Č b
|aV1=>ŀ Addr
|aV2 a=>ŭ a fs
|aV3=>aV2 c
|aV4=>ζ s.heap.objs.size
|aV5=>Ϧ T
|aV6 a b c=>lr (Z0 a b) c
|aV7=>mw aU1
|aV8=>oh Z.k9
|aV9=>oh Z.lJ
|aW0=>pc QY
|aW1 a b=>Q2 a (Qn b) QA
|aW2=>Lu px
|aW3 a=>N0 .And a
|aW6 a=>TC s bg a
|aW7=>aW6 b
|aW8 a b=>as0 (bg a) b
|aW9 a b c d=>aE1 a b (QL c) d
|aX0=>aG3 n
|aX1 a=>aI7 elt a
|aX2 a b=>holding a^truthy b
|aX3=>by rw[rangeSize_one];split<;>lia
|aX4 a b=>cE a env b
|aX5 a=>aX4 idx a
|aX6=>aX5 d
|aX7=>F.args_tuple_iterator_next_1 _
|aX8 a=>by ext a;lia
|aX9 a=>ă n.toNat a
|aY0=>ζ b
|aY1 a=>θ a^jE ..
|aY2 a=>θ a^Va ..
|aY3 a=>θ a^qH ..
|aY4=>l4 k
|aY9 a b c d=>by let(a,b):=c;show d
|aZ0 a=>x0 == a
|aZ1=>⇑N
|aZ2 a=>TP.qn aZ1 a
|aZ3=>C7 ne
|aZ4=>↑f
|aZ5=>í aZ4
|aZ6 a=>PySem.W.methodObj aZ4 a
|aZ8 a b c=>#[a,b,c,none,none]
|ba0 a=>(Fl.nx,a)
|ba1=>.function
|ba2 a b c d e f=>λ a b c d e f=>?_
|ba3=>As hl
|ba4=>X.wish E
|ba5 a=>wpAny_pyIter_list a ?_
|ba6=>"int"
|ba7 a b=>items.toList.drop^Μ a b
|ba8=>xs.all zq
|ba9 a=>Cd.mp a
|bb0 a b c d=>au.grow a b _ c d
|bb1 a b=>tD.run S1 a b
|bb2=>zs.map some
|bb3=>G n
|bb4 a b=>L2.PS.imp a b
|bb5 a b c d e f g=>do let a <- b;let c <- d;let e <- f;g
|bb6=>nW ns
|bb7=>.ellipsis
|bb8 a=>Int.le_of_lt a
|bb9 a b=>Chain S a b
|bc1=>E.same Y
|bc2 a=>List.any_eq_true.mpr a
|bc3=>am_miss_of_fast È
|bc4=>"dict.update.loop"
|bc5=>Zw hd
|bc6=>"answers"
|bc7 a b=>DW.pt^KB a b
|bc8=>ak h
|bc9=>Y5 ..
|bd0 a=>gs Á a
|bd1=>GY w.O2
|bd2 a=>Wk a rs
|bd3=>bd2 w
|bd4 a=>decide_eq_decide.mpr a
|bd5=>ts.map PD
|bd6 a b=>List.mem_map_of_mem (f:=a) b
|bd7=>Â aG
|bd8=>Ï TR.Wk
|bd9=>Õ y
|be0=>ï true
|be1=>ö hd
|be2 a=>ù Ń a
|be3=>be2 1
|be4=>Ċ "yes"
|be5=>ĥ "BaseException"
|be6 a b=>Ĭ^PySem.W.plainOver a b
|be7 a b=>Ĭ^JoinOk a b
|be8=>ŀ Y1
|be9 a=>ŏ^hV a
|bf2=>Ÿ h
|bf3=>ς nC
|bf4=>Ϧ "__next__"
|bf5=>fx xs
|bf6 b c d=>f7 b^Qd c d
|bf7 a b c=>gp^Qy a b c
|bf8 a=>hH^aU a
|bf9=>iE ?_
|bg0 a b c=>tP Đ a b c
|bg1 a b=>bg0 Jr a b
|bg2 a b=>IG a true b
|bg3 a=>JS Ì^ZK a
|bg4=>bg3 Z.g3
|bg5=>RM h'
|bg6=>Tk ds
|bg7 a=>cσs idx σ a
|bg8 a b=>eS a p b pos
|bg9 a=>Tb kvs a F
|bh0=>bg9 z
|bh1=>#[Y,trivial]
|bh2 a b c d=>aW1 (ε a b c) d
|bh3=>aY3 D.dk
|bh4=>bg3 Z.g0
|bh5 a=>Ce.mpr a
|bh6=>P.zip vs
|bh7=>Ap Ĕ
|bh8 a b c=>Uc a PassesOwn.never b c
|bh9=>XR ?_
|bi0=>xK o
|bi1=>í v
|bi2=>Ċ "move "
|bi3=>đ "-"
|bi4=>gQ m
|bi5=>kd t
|bi6 a b=>aD7 a B1 b
|bi7 a b=>.did a b
|bi8 a=>bi7 n a
|bi9=>bi8 r
|bj0 a=>bi0 == a
|bj1=>bj0 F7
|bj2=>⇑tj
|bj3 a b=>IsTup s.heap a b
|bj4 a b c=>.Assign a b c
|bj5=>Be xt
|bj7 a=>(â False a).elim
|bj8=>frs outer
|bj9=>.free
|bk0 a=>I.pin p a
|bk2 a b=>wpAny_Expr_any a I.quiet b
|bk3=>IsRange.new ..
|bk4 a=>PySem.W.lookIn name a
|bk5 a=>PySem.W.plainGet_of a
|bk6 a b c=>by rw[a,<- b];show c
|bk7 a b=>typeIs_str _ a b
|bk8 a b=>Calls.callWith_builtin a b
|bk9=>kV k
|bl0=>"dict.pop"
|bl2 a=>cM^Gb^Ç a
|bl3 a b c=>aA8 (bl2 a) b c
|bl4 a b=>by simpa [a]using b
|bl5=>iT d
|bl6=>ZO e1
|bl7 a=>by ext a;split<;>simp
|bl8=>(bi4).isNone
|bm0 a=>QW^QW a
|bm1 a=>YF p.ks a
|bm2 a b c=>TR.J0 S a b c
|bm3 a b=>Jc (n:=a) b
|bm4 a=>Ce.mp a
|bm5 a=>L0.rows.take^L0.s a
|bm6 a b=>seqObj Đ a b
|bm7 a b c d=>Builtin.Str.occurrences a b c rk d
|bm8 a b c=>KTD.tabLook KTD.flatLooks a b c
|bm9=>"level"
|bn0 a=>!(Õ a)
|bn1 a b c d=>ZZ (i:=a) b c d
|bn2=>j.trans c.symm
|bn3 a=>OV.aJ^aT9 a
|bn4 a b=>SeqAt J a b
|bn5 a=>by exact a;decide +kernel
|bn6 a b=>É L.fork a b
|bn7 a b=>Ò a Û b
|bn8 a b c=>Ó a^Ó b c
|bn9 a b=>à (yc a) b
|bo0=>ã wp
|bo1=>æ o
|bo2 a=>ï^ō a
|bo3 a b c=>ā a^Qo b c
|bo4 a b=>Ĳ a b Q3
|bo5=>Ů σ
|bo6 a b c d e=>Xk PassesOwn.never a b (Xj c d) e
|bo7 a=>a7 a ta
|bo8 b c=>f7 b^ü c
|bo9=>bw S S.top
|bp0 a b c d=>iS (cM a) b c d
|bp1 a=>lT a t
|bp2=>bp1 i
|bp3=>pM Ĕ
|bp5 a=>rS d a
|bp6=>bp5 v
|bp7 a=>sA QJ a
|bp8 a=>wT^ų a
|bp9 a=>EL ώ a
|bq0 a=>bp9^QY a
|bq1=>FF FE
|bq2 a b c=>ŭ û^cD a b c
|bq3 a b=>bq2 s a b
|bq4 a=>bq3 v a
|bq5=>bq4 t
|bq7 a=>LW^λ i=>a
|bq8 a b c=>Nf a b^í c
|bq9 a b=>Binds a fd ps b
|br0 a b=>ai5 false a b
|br1=>aK2 S'.top
|br2 b c=>aM2 ħ b c
|br3=>aS8 J
|br4 a=>.acc a
|br5=>br4 es
|br6 a=>fR^br4 a
|br7 b c d=>#[b,c,a.pairs,d]
|br9 a b c d e=>by let(a,b,c):=d;show e
|bs0=>↑C
|bs1=>í bs0
|bs2 a=>a<p.lv
|bs3=>bs2 0
|bs4=>bs2 w.O6
|bs5=>↥i
|bs6 a b=>s.TypeIs a b
|bs7=>(OQ).isSome_eq
|bs8=>Ab a
|bs9=>"side"
|bt0=>"down"
|bt1=>"find_worth"
|bt2=>"read_pairs"
|bt3=>unsupported "internal:collect"
|bt4 a b=>TR.mv ds a b
|bt5=>"Busy"
|bt6=>"raise_root"
|bt7 a b=>TR.Chain S a b
|bt8=>Yq S
|bt9=>Ñ j
|bu0=>í i
|bu1 a=>Ė a ac5
|bu2 a=>ō^E a
|bu3=>ſ af6
|bu5 a b=>tF^aE7 a b
|bu6=>AS hp1
|bu7 a b=>PyData.eqv (toP a)^toP b
|bu8=>aF7 c.toList
|bu9=>br4 ds
|bv0 a b=>λ a=>ď b
|bv1 a b=>j_.still T a b
|bv2 a b=>λ a=>i7 b
|bv3 a=>a × Value
|bv4=>bv3 Addr
|bv5 a=>s.heap.objs.size≠a
|bv6 a=>a<=1000000
|bv7 a=>a<sizeLine
|bv9 a b=>HOk P w a b
|bw0 a b c=>.read a b c
|bw2 a b=>by rw[a,b];simp
|bw4=>X.env::X.outer
|bw5 a b c d=>Bi (Txt.slice_le a b c) d
|bw6 a=>I.ok.funs.mem a
|bw7 a=>by rw[a];decide
|bw8 a=>eval a env
|bw9 a b c d=>do let a <- b;standAt c;d
|bx0 a=>s.toks+a
|bx1=>bx0 1
|bx2 a=>pyNext ↑a
|bx3 a b=>λ_ _ _ _ _ a h=>b
|bx4=>PyProof.noPylong_small À
|bx5 a=>beq_iff_eq.mp a
|bx6 a=>Cls a C
|bx7 a=>Ap^by rw[<- a];lia
|bx8 a=>Kz I.hok a
|by1 a b c d=>Gs a ρ B H b c d
|by2 a b c=>by1 K a b c
|by5=>by2 ρ' B' H'
|by6=>Qb 10
|by7=>Eb hl
|by8 a=>cl.lookup a
|by9=>lookup_relabel_local S.hx
|bz0=>"tuple_iterator"
|bz1 a=>Yc kvs a
|bz2=>Ur kvs
|bz3=>ZR P
|bz4 a b=>xs.filter^λ a=>b
|bz5=>B7 a
|bz6=>QY w.O2
|bz7=>fO fs
|bz8=>W 0
|bz9 a=>TP.qn a L.m
|bA0=>r.flatMap bt8
|bA1=>"top"
|bA2=>"key"
|bA3=>Jy Z
|bA4 a b=>TP.Jc (a:=rows.length) b
|bA5=>ps.take C
|bA7 a=>Æ List.length_set a
|bA8=>Ë hi
|bA9=>Î es
|bB0 a b=>Ï<|a × b
|bB2=>bB0 Str Hs
|bB3=>Ù ag0
|bB4=>í e
|bB5 a b c=>Ė (â a b) c
|bB6=>ġ 2
|bB7=>ĥ T
|bB8 a b=>Ĭ^PySem.W.makesIn a b
|bB9=>Ľ 5
|bC0 a b=>Zr^ğ J2 PySem.F.slot_list_append PySem.F.type_list_append a b
|bC1=>ō E
|bC2=>Ś Z.k8
|bC3=>Ů xs
|bC4 b=>Α a b
|bC5 a b c=>Ζ pS a b c
|bC6 a=>θ A.h3 a
|bC8 a b c=>ϋ a PySem.F.slot_str_split PySem.F.type_str_split b c
|bC9 a=>ϩ^QX a
|bD0=>fy S.O4
|bD1=>l4 q7
|bD2=>oT i
|bD4=>r8 bb3 []
|bD5=>ID pg
|bD6=>NV seen
|bE1 a=>XP a Z ρ B J H
|bE2=>bE1 K
|bE3 a=>backToKw a^keywordEach [] X.env
|bE4=>bE3 pos
|bE5 a=>aU5 ds a
|bE7 a=>AC a B H ρ' B' H'
|bE8=>bE7 K
|bE9=>be2 0
|bF0 b=>br7 a.aim b a.O2
|bF1 a=>bv0 h a
|bF2=>bF1 h
|bF3 a=>bv9 H a
|bF4 a=>λ_ _ q=>a
|bF5 a b c d=>RelO.some_of (v:=a) (b:=c) d
|bF6 a b=>by have:=a;exact b;lia
|bF7 a b=>xL kvs a b
|bF8=>Or.inl Y
|bF9 a b c d e=>aW a b c d kvs e
|bG0 a b c d=>bF9 a b c d xs
|bG1=>B.get? b
|bG2 a=>by exact a;simp
|bG3=>txt Lc
|bG4=>List.mem_of_find?_eq_some h1
|bG5 a b=>(by rw[a];cases b<;>rfl)
|bG6=>Â TR.Pg
|bG7=>Í n
|bG8=>Ĭ w'.O7
|bG9=>ņ i
|bH0=>AS J
|bH1=>bz1 q7
|bH2 a b=>bC0 a^ü b
|bH3 a b c d=>∀{a:V}{b:c},d
|bH5 a b=>#[a,iter,ifs,b]
|bH6 a=>Value.bool a
|bH7=>⇑env
|bH8 a=>ts.length<=a
|bH9 a=>PySem.W.instObj C a
|bI0 a=>#[a,?_]
|bI1=>"__classdict__"
|bI2 a=>Calls.Constant_str a
|bI3=>c env
|bI4 a b c=>SqT X.K a b c
|bI5=>C6 ?_
|bI6 a=>C6^wpAny_standAt a
|bI7=>λ_=>À
|bI8 a b c=>PassesOwn a b X.env c
|bI9 a b c=>letOwnedTupleGo a b c
|bJ1 a b=>by subst a;show b
|bJ2=>a env
|bJ3 a=>atI a i
|bJ4=>bJ3 ds
|bJ5 a=>by ext a;rfl
|bJ6 a b c d=>aL a b Q3 c d
|bJ7 a b c d e f g=>QO a b c d e^á f g
|bJ8 a b c d=>by let(a,b,_):=c;show d
|bJ9 a b=>JL a Ų b
|bK0 a=>Nat.le_succ_of_le a
|bK1=>List.nodup_range.filter _
|bK2=>aU rows
|bK3=>"go_on"
|bK4=>"tell_fork"
|bK5 a b=>by have:=a;rwa [b]at this
|bK6=>"tuple.__new__"
|bK7 a=>Nat.div_add_mod a m
|bK8 a=>C1.mp a
|bK9 a=>Nat.le_add_left a _
|bL0=>List.mem_erase_of_ne ne
|bL1=>List.length_erase_of_mem hx
|bL2 a=>s'.heap.UpToSlots a
|bL3=>"write"
|bL4=>"make_root"
|bL5=>"done"
|bL6=>"take"
|bL7=>"step_walk"
|bL8=>"take_deed"
|bL9=>"hand_in"
|bM0=>"numbers"
|bM2 a b c d=>qA (a:=b) (QL c) d
|bM3 a=>List.map_congr_left a
|bM4=>uh ..
|bM5 a b=>p.sd.map λ a=>b
|bM6 a=>TR.aZ p.ks a
|bM7 a=>U.trans a
|bM9=>o9 ts
|bN0 a=>by exact a;decide
|bN1=>Â Pg
|bN2 a b c d=>Æ (bo a b c) d
|bN3=>Í j
|bN4=>Ï NameKind
|bN5=>Ù xs
|bN6 a b=>Ù^ă a b
|bN7 a b=>Ü^OK a b
|bN8 a b c d=>ć (nE a b) c d
|bN9 a=>Ĉ ⇑a
|bO0=>ĥ "ValueError"
|bO1 a=>Ĭ^zq a
|bO2=>Ĭ fork
|bO3=>Ĭ u.O7
|bO4 a b c d=>Œ a b c^QG d
|bO5 a=>ŭ a []
|bO6=>ų p.hi
|bO7=>ų p.sd
|bO8 a=>θ a^qL ..
|bO9 a=>θ a^x8 ..
|bP0=>ι Heap
|bP1 a=>Ϸ Đ a
|bP2 a b=>Ϸ a^pK b
|bP3 a=>eD^Ñ a
|bP4 b=>hL b Z.g2
|bP5 a=>foldedSetIterable iter X.env a
|bP6 a=>mr a DV.int
|bP7 a=>mr a Char.toNat
|bP8 a=>mr a sK
|bP9 a b c d=>mx a^XQ b c d
|bQ0 a b=>nB a^rh b
|bQ1=>pc .val
|bQ2=>sF PD
|bQ5 a b=>υ Ę "say" 2 QV a b
|bQ6 a=>bQ5 Å a
|bQ7 a b c d=>tz a b 1 c d
|bQ8 a b c=>bQ7 è a b c
|bQ9 a b c d e=>W0 a b^bQ8 c d e
|bR0 a=>wa^oh a
|bR1 a b c=>AT K a b c
|bR2 a b=>bR1 B a b
|bR3 a=>bR2 J a
|bR4=>bR3 H
|bR5 a b=>EC Ă a b
|bR6 a b=>N2 a b ZE
|bR7 a=>OA^Ñ a
|bR8=>PC aE0
|bR9 a b c=>PV (Ċ a) b c
|bS0=>P3 k1.extBut
|bS1=>t.ns.set i t.tk
|bS4=>rt.lv+1
|bS5 a b c d=>aD2 a Ã b c d
|bS6 a b c d=>call_meets PySem.F.slot_str_split a PySem.F.entry_str_split b c d
|bS8=>bv2 z z
|bS9 b c=>bC4^b c
|bT0 b=>bS9 .dK b
|bT2=>bS9 .own x
|bT3=>bF3 h
|bT5 a=>bQ5 Ă a
|bT6=>⇑c
|bT7=>C8 hi
|bT8 a b c d e=>ObjOk X.prog a b c d e
|bT9 a b=>#[a,ϧ toP b]
|bU0 a=>Ax _ a
|bU1 a b=>h a^bU0 b
|bU2 a=>assign a X.env
|bU3=>"dict_reverseitemiterator"
|bU4 a b c=>JB a b^aj7 c
|bU5 a b c=>BindsTo a fd b c
|bU6=>Cp.mp nd
|bU7=>Heap.SameBut.update ..
|bU8 a=>leB Ų a
|bU9 a b=>(by cases a<;>show b)
|bV0=>E ń
|bV1=>Nat.div_lt_iff_lt_mul À
|bV2=>Q.map nF
|bV3=>ĥ "method_descriptor"
|bV4 a b c=>œ a scope b c
|bV5=>Ş 6
|bV6=>Ŵ b
|bV7=>ϝ b
|bV8=>rq n
|bV9=>CO 0
|bW0=>RM g
|bW1=>ae3 κ
|bW2 a b=>ap2 a^qw b
|bW3=>bw S' S'.top
|bW4 a b c=>aH3 a^pt b c
|bW5 a b c=>kvs.any λ a=>FC b c
|bW6 a=>re bp^pK a
|bW7 a b=>(a).flatMap b
|bW9=>⇑us
|bX0=>⇑z
|bX1 a=>(List.of_mem_zip a).1
|bX2 a b=>Ak^λ a=>b
|bX4=>bX2 x av4
|bX5 a b c d e f=>({ a with b:=c,d:=x,e:=f })
|bX6 a=>Int.fdiv_eq_ediv_of_nonneg a À
|bX7=>j b
|bX8 a b=>NoAttr a C b
|bX9 a b c d=>∀(a:Shared) (b:c),d
|bY0 a=>Builtin.Tuple.tupleItemsOf ↑a
|bY1 a b=>s.heap.update a b
|bY2 a=>(a).isEmpty
|bY3=>Qm i
|bY4=>g2.trans g3
|bY5 a b=>iG.run a e1 b
|bY6=>Ab hi
|bY7=>Ab hn
|bY8 a b=>Heap.ExtBut a s.heap b
|bZ0 a=>I a env J
|bZ1=>Qe ha
|bZ2=>nD done
|bZ3=>bg c
|bZ4 a b=>j9 (a:=b) À
|bZ5=>P.ps.take bz3
|bZ6 a b=>J4 a Ã b
|bZ7=>Y2 i
|bZ8=>Y2 pr.length
|bZ9 a=>ZX a k
|ca0=>bZ9 L
|ca1 a b c=>by let(a,_,Y):=b;show c
|ca2 a b=>PySem.W.exmOne a bs0 b
|ca4 a b=>XO^XC a Z.z3 b
|ca5 a b=>ca4 a^ü b
|ca6=>Ke FA
|ca7=>TR.Q6 P
|ca8=>TR.XJ P
|cb0 a=>E3 row wd a
|cb1=>cb0 ts
|cb2=>Ë h1
|cb3 a=>Í a.1
|cb4=>cb3 r
|cb5 a b=>Ò jy a b
|cb7=>cb5 LY 30
|cb8=>yb cb7
|cb9 a=>Ü^Õ a
|cc0=>ã p
|cc1=>õ []
|cc3 a=>ø w O3 a
|cc4=>cc3 vr
|cc5=>ü Ϫ
|cc6 a b c=>þ a b^QG c
|cc7=>Ĉ more.length
|cc8=>Ċ ","
|cc9=>ċ Ϙ
|cd0 a=>Ē û a
|cd1=>cd0 K1
|cd2=>ĥ "Exception"
|cd3=>ĩ Br
|cd4=>ů hn
|cd5=>ŵ Ϙ
|cd6=>ŵ IZ
|cd7=>ι ś
|cd8=>ς^Ś Z.k12
|cd9=>ϝ a
|ce0=>cr ß
|ce1=>en hh
|ce2 b c d=>ew ħ b c d
|ce3 b c=>ce2 b QJ c
|ce4 b=>ce3 Θ b
|ce5 a b c d e f=>gL a (EP b c d e) f
|ce6=>hH []
|ce7=>hV kvs.isEmpty
|ce8 a=>mr a ţ
|ce9 a=>n5^n5 a
|cf0 a=>og ύ a
|cf1=>wa CS
|cf2=>wq hq
|cf3 a=>x3 some a
|cf4=>AY g3
|cf5=>Fc au9
|cf6=>Fu g1
|cf7=>Iw Ã
|cf8 b c d e=>LI b c d^ô e
|cf9=>NC μ
|cg0=>PP 0
|cg1 b c d=>aj1 (a b) c d
|cg2 a b=>ak9 (Ċ a) b
|cg3=>aw5 ig
|cg4=>aw6 ß
|cg5=>aD3 1
|cg6=>aD3 0
|cg7=>aD9 ß
|ch0=>aQ9 x
|ch1 a b=>aT5 a b Jp
|ch2=>aY1 h2
|ch3 a=>r8 (M a) l
|ch4=>ch3 n
|ch5=>Ý ch4
|ch6 a b=>Za L0.rows L0.m a b
|ch7=>bo7 a
|ch8=>bC6^yE ..
|ch9=>bE5 es
|ci0 a b c d=>bJ6 (eB a) b c d
|ci1=>bQ6 NR
|ci2=>(TP.xG rows m fork first)
|ci3 a=>.seq a
|ci4 a b=>re a^ci3 b
|ci7=>⇑P
|ci8 a b c d=>#[a, b,PyProof.Rows.slot_tuple_getitem.lookup,c,d]
|ci9=>[Ο]
|cj0 a b c=>λ_ _ _ H _ a b=>c
|cj1 a=>Au a Y
|cj2=>cj1 _
|cj3=>by simp only[An];lia
|cj4 a=>VH I.hok a
|cj5 a=>G3 I.hok a
|cj6=>"dict.get"
|cj7 a b c=>QH a w b c
|cj8 a b=>cj7 a n b
|cj9 a=>cj8 S a
|ck0=>cj9 P
|ck1=>ck0.2
|ck2=>ck1.2
|ck4=>h.filter _
|ck5 a b=>by ext a;apply b;rw[List.length_zip];lia
|ck6=>"put_pair"
|ck7 b=>X.hand a b
|ck8=>"idle"
|ck9=>"high"
|cl0=>fU n
|cl3 a b c d e=>eL ns e1 a b c e10 d e
|cl4 a=>Ë^ao0 a
|cl5=>ï d
|cl6=>ŏ aH7
|cl7 a b c=>ϓ (bg8 a b) c
|cl8 a=>ϓ a f
|cl9=>cl8 e
|cm0 a b c=>Ϥ a b c h'.elim
|cm1 a b c=>bT a b TR.Wk c
|cm3=>nE Z.k14 Xc
|cm4 a=>sL^bW6 a
|cm5=>wP Int
|cm7 a=>N0 .Or a
|cm8=>s.ns.set i s.tk
|cm9 a=>aG1 ı a
|cn0 a b c=>aT7 a b Á c
|cn1 a b c d e=>bN8 a b (nE c d) e
|cn2 a=>.seq c.toArray a
|cn3 a b c d=>cl3 a b c bW d
|cn4 a=>a=more.length
|cn6=>Ŷ/\PP p.lv
|cn7 a=>Sum.inr a
|cn8 a=>Sum.inl.inj a
|cn9=>⇑s'.ws
|co0=>⇑seen
|co1=>⇑rs.flatten
|co2 a=>env[a]?
|co3 a=>rs.flatten++a
|co4=>H' b
|co5 a=>a∉X.fs
|co6 a=>(true,a)
|co7=>co6 J
|co8=>co6 hp1
|co9=>co6 w
|cp0 a b c d=>by ext a;rw[b,c];show d
|cp2=>AR [EZ]
|cp3=>"itertools.zip_longest"
|cp4 a=>a * s.tk
|cp5=>Ae s.heap.objs.size
|cp6 a=>(by cases a<;>simp)
|cp7=>"__setattr__"
|cp8 a=>Option.isSome_iff_exists.mp a
|cp9=>"__getitem__"
|cq0 b c=>a.heap.push^bP2 b c
|cq1 a=>seqIndex_neg À a
|cq2=>"list.append"
|cq3=>Ea hl
|cq4 a=>atKey a k
|cq5 a=>merged [] a
|cq6=>M α
|cq7 a b c d=>aA.grow a b _ c d
|cq8 a b=>Xn a pa_nil b
|cq9=>newList []
|cr0=>Or.inr Y
|cr1 a=>Zl 0 a
|cr2=>cr1 n
|cr3 a=>by ext a;simp;lia
|cr4 a b c=>Zf a^ϗ b c
|cr5=>toP d
|cr6 a=>Nat.le_total a ê
|cr7=>g0.trans g1
|cr8 a b c=>k1.extBut _ a b c
|cr9=>F.args_zip_next_1 _
|cs0 a b=>wpAny_pyIter_slot a F.slot_zip_iter b
|cs1=>F.args_zip_iter_1 _
|cs3 a b=>g.old a p b
|cs4=>"settle"
|cs5 a=>o env a
|cs6 a=>Nat.lt_of_not_le a
|cs7 a=>Lf.split hn a
|cs8 a=>(a).pg.length
|cs9 a b c d=>Heap.get?_update_ne _ a b c d
|ct0=>"sorted"
|ct1=>strValues l
|ct2=>oK T
|ct3=>"words"
|ct4 a b c=>JJ a b boot_int c
|ct5 a b=>Zh^aS a b
|ct6 a b c d e f g=>XD (a:=b) (c:=Í d) e f g
|ct7 a b=>Nt (a:=rows.length) b
|ct8=>TR.Q4 a
|ct9=>cl aC
|cu0=>uR OH
|cu1=>Õ AN
|cu2=>Õ Pc
|cu3 a=>ë^Ñ a
|cu4=>í s
|cu5=>ï ds
|cu6 a=>ù (ŵ E2) a
|cu7=>Ċ "no"
|cu8 a=>Ė Y a
|cu9 a b=>Ĭ^still a b
|cv0=>Ŋ Value
|cv1 a b=>Ř ps.isEmpty a b
|cv2=>Ś Z.k0
|cv3=>Ś Z.k3
|cv4=>Ś Z.lJ
|cv5=>Ś Z.pF
|cv6=>Ů t'.ws
|cv7=>ŵ ad3
|cv8=>Ξ e
|cv9 a=>ϓ a fa
|cw0 a=>ϖ Å a
|cw1=>cw0 Fs
|cw2 a=>ϩ^Qv a
|cw3=>ϱ G
|cw4 a=>fm Z3 a
|cw5 a b=>gu^l8 a b
|cw6=>gQ f
|cw9=>mn n p hn
|cx0 a b=>n4 a H b
|cx1 a=>cx0 K a
|cx2=>cx1 a
|cx3 a b=>rp ŧ a b
|cx4 a b=>sB<|a :: b
|cx5 a=>cx4 a xs
|cx6 a=>cx5^Õ a
|cx7 a b=>xz a b pos
|cx8=>CB hx
|cx9 a=>CL " " a
|cy0=>cx9 xs
|cy1=>CO 7
|cy2=>Fc by6
|cy3=>Iq p.ps
|cy4 a b c=>LT (LE a b) c
|cy5 a=>OY S a
|cy6=>cy5 w
|cy7 a b c=>ĝ a b c O7 true
|cy8 a b=>cy7 a pairs b
|cz0=>Tk r
|cz1=>aa9 F.plain_extend_loop
|cz3=>je m false i
|cz4=>OT cz3
|cz5 a b=>JJ a Z.z4 boot_tuple b
|cz6 a=>ao2 a whole
|cz7 a b=>au.gs a _ _ b
|cz8 a=>ap0 a blank
|cz9 a=>ap5 ix a
|cA0=>cz9 k
|cA1 a b=>az4^bZ6 a b
|cA2=>aG7 hp'
|cA4=>aO7 a
|cA5=>aW3 aK6
|cA6=>bd0 K.h7
|cA7 a=>bm3 a O.m_pos
|cA8 a b=>bp7^Ó a b
|cA9=>bp9 ng
|cB0 a=>bq9 X.K a
|cB1 a b=>bu1^Ay a b
|cB2=>bx6 X.K
|cB3=>bF4 q
|cB4 a=>bH5 aW2 a
|cB5=>(n-L.first)
|cB6 a=>cC a bg rows
|cB8 a=>bR6 a bn
|cB9 a=>ch6 L0.fork a
|cC0 a=>ci4 Đ a
|cC1=>JU p w.aim
|cC2=>cl8 iter
|cC3=>cm7 aK6
|cC4=>co2 k
|cC5=>cs5 J
|cC6=>cv9 a
|cC7=>aN4 s bx1
|cC8 a b=>(a).take b
|cC9=>C8 h
|cD1 a b=>.ins C a b
|cD2 a b c d=>upd a b^cD1 c d
|cD3 b c=>bC4^cD1 b c
|cD4 a=>cD1 a fs
|cD5=>cD4 dx
|cD6 a=>X.s₀.heap.FunFrames X.O8 a
|cD8 a b=>Q ↑a b
|cD9 a b c=>Calls.Name_function_global I.ok.kind a b c
|cE0=>rawInt C.objs.size
|cE1 a b c d e=>let #[a,_,_,b,_]:=c;#[d,e]
|cE2=>H1 a.heap.objs.size
|cE3 a=>PySem.F.args_tuple_add_2 _ a
|cE4 a b=>IsPart a b
|cE6 a b c=>bU.gs a (Zb b) c
|cE7=>aK P
|cE8 a b=>Builtin.List.listExtendWith ŋ a b
|cE9 a=>bw S a
|cF0=>cE9 m
|cF1=>yD T
|cF2 a=>List.exists_cons_of_ne_nil a
|cF3=>Í 0
|cF4 a b c d e=>ZV (a:=b) c Ã d e
|cF5=>í c
|cF6 a b c=>î X a b c
|cF7 a b=>cF6 a H b
|cF8 a=>cF7 a s
|cF9=>cF8 a
|cG0=>ï x
|cG1=>ċ Y
|cG2 a b=>ez (H a) b
|cG3 a b=>eW a b epos.line
|cG4=>oa F.plain_extend_loop
|cG5=>xk false
|cG6=>CI F.entry_extend_loop
|cG7 a b c=>IB S a B1 b c
|cG8 a b=>cG7 v a b
|cG9 a=>cG8 a ?_
|cH2 a b=>bi8^bw0 a ps b
|cH3 a=>Bool->a
|cH4=>cH3 dC
|cH6 a=>Ŷ/\aK2 a
|cH7 a b=>a s.heap.objs.size b
|cH8 a b c d e=>((match a with|.lst b=>c|_=>d:e))
|cH9 a=>a==items.size
|cI0=>¬ cn6
|cI1 a b c d e=>λ a=>pH b c d e
|cI2=>⇑j
|cI3=>⇑es
|cI4 a=>⇑(ws.filter a)
|cI5 a=>xs[a]?
|cI6=>Aj h1
|cI7 a=>w.O6<=a
|cI8=>cI7 p.lv
|cI9=>F k
|cJ0=>jv cI9
|cJ1=>env.kindOf x
|cJ2 a b c d e=>I.O8.slot a o b c d e
|cJ3=>[Χ]
|cJ4 a b c d e f g h i=>JI a λ b c d e f g h=>i
|cJ5 a b c d e f g h=>cJ4 a b c d e f g q1 h
|cJ6 a b c d e f g=>cJ5 a b c d e f g ?_
|cJ7=>λ_=>Y
|cJ8 a=>wpAny_pyIter_rangeiter st a
|cJ9 a=>10 ^^^ a
|cK0 a b=>(by cases a<;>first|rfl|show cu8 b)
|cK1=>e.trans ?_
|cK2 a=>seqIndex_of h0 a
|cK3=>c.any ae9
|cK4 a=>s₁.heap.get? a
|cK5=>ks.map kV
|cK6 a=>PySem.F.args_dict_get_2 _ a
|cK7=>M Unit
|cK8=>M Þ
|cK9=>Qm h
|cL0 a b=>idx.map λ a=>b
|cL1 a=>List.length_eq_one_iff.mp a
|cL2=>"bool"
|cL3=>Zi o6
|cL4=>Zv a
|cL6 a=>dh 40 J a
|cL7 a b c d e f g h=>I.laid (a:=s.heap.objs.size) (b:=c) (d:=e) f g h
|cL8 a b c=>Qc a b env c
|cL9=>Data.noConfusion q
|cM0=>Bo _
|cM1=>"goal"
|cM2=>"do_deed"
|cM3=>"cut_key"
|cM4=>"step"
|cM5 a b c=>aB a ↥b c
|cM6 a=>List.pairwise_singleton _ a
|cM8 a=>L.s<|a+1
|cM9=>cM8 k
|cN0 a=>List.mem_or_eq_of_mem_set a
|cN1=>"picture"
|cN2=>"pack"
|cN3=>"answer "
|cN6 b c=>Ja b a Á Qz c
|cN7 b c=>ü^cN6 b c
|cN8=>Qt Y
|cN9 a b c d=>dM a O4 b c d
|cO0 a b c=>cN9 w a b c
|cO1 a b=>cO0 a b ps
|cO2 a b c=>Jq (a:=b) Ã c
|cO3 a b=>QK (a:=true) b
|cO4=>jD ..
|cO5 a b=>w.set a b
|cO6=>80000
|cO7=>yF ..
|cO8 a=>Kp a w'
|cO9=>cO8 w
|cP0=>· == bi3
|cP1 a=>Æ hd a
|cP2 a b=>É a b failure
|cP5=>Î<|e::es
|cP6=>Ï V
|cP7=>Ü Hd
|cP8=>Ü Ϭ
|cP9=>Ý m
|cQ0=>ë e
|cQ1 a=>ë^wZ a
|cQ2=>Ĉ c.size
|cQ3=>Ċ iX
|cQ4 a b=>ċ #[a,b]
|cQ5=>ų o.dict
|cQ6=>Ŵ p
|cQ7=>Ÿ e
|cQ8=>Ε s'
|cQ9=>Ρ id
|cR0=>ι Hs
|cR1=>Ϻ e1
|cR2=>cr Û
|cR3=>cr Ă
|cR4=>en bh1
|cR5 a=>fm qm a
|cR6 a b c d=>hW (Qg a b c) d
|cR7 a b=>im a b this
|cR8=>j2 i
|cR9=>h.Ns mainGlobals mg
|cS0 a=>om a Å
|cS1=>rq k
|cS2 a=>tF^fO a
|cS3=>CB z
|cS4=>Fc mM
|cS5=>FB dQ
|cS6=>FB ed
|cS7=>Iq xs
|cS8=>IE s.heap.objs.size
|cS9=>IE O.heap.objs.size
|cT0 a b=>LJ a b p2
|cT2=>cT0 msg j
|cT3 a b=>LT (gp a) b
|cT4 a=>NN VG a
|cT5 a=>Os Ô a
|cT6=>OW x
|cT7 a b=>W0 a ß b
|cT8 a=>cT7 a si
|cT9=>ad2 mh
|cU0=>P.ks.drop^ZR P
|cU1=>Txt.contains EK AN
|cU2=>ç V TR.Wk
|cU3=>aw8 J
|cU4 a b=>TR.QH S a i b
|cU5=>aD3 2
|cU6=>Æ e True.intro
|cU8=>λ h=>NameKind.noConfusion^Aj^â (í NameKind.cell>NameKind.local) h
|cV0 a b c=>#[a,b,c,cU8,trivial]
|cV1 a b c=>en^cV0 a b c
|cV2=>aJ4 J
|cV3=>oU s₁.heap H
|cV4=>aU0 r
|cV5=>aV2 é
|cV6 a b c=>aW9 a as6 b c
|cV7 a b=>aZ8 a [w.aim] b
|cV8=>Ũ bh7 Nat.sub_self
|cV9 a=>bi6 _ a
|cW0=>bx6 K
|cW1=>bC4 o
|cW2 b c d=>qU b^qT FA c d
|cW3=>bP1^ci3 vs.toArray
|cW4 a b c=>bP9 a rows b c
|cW5 a b=>cW4 a b false
|cW6 a b c=>bQ7 û a b c
|cW7 a b=>cW6 a b ON
|cW9 a=>am8 X cl C a s₀ H₀ ex
|cX0=>bU8 w.aim
|cX1=>bP1^cn2 n
|cX2 a=>cD8 p a
|cX3=>az7 x hx hx
|cX5 a b=>cU4 cc4^l8 a b
|cX6 a=>a∈P.ps
|cX7 a=>g.get? a
|cX8 a b=>I.cell a c b
|cX9 a b=>aZ0 a || b
|cY0=>↥x
|cY1 a b=>λ_ _ _ _ _ _ a=>b
|cY2 a b=>assign a X.env b
|cY3=>"itertools.pairwise"
|cY4=>Aw e
|cY5 a=>ns.map a
|cY6 a=>Zf aZ1 a
|cY7 a=>eG (<- a)
|cY8=>cY7 ao3
|cY9=>Zi ar6
|cZ0 a=>Builtin.«zip.__next__» a
|cZ1=>"str_ascii_iterator"
|cZ2 a=>h0.update s.heap.objs.size a
|cZ3=>Z5 au6
|cZ4=>qJ Z
|cZ5 a=>Sl.val a
|cZ6 a=>pr.getD a Ě
|cZ7 a=>TR.aM p.ks a
|cZ8=>tK d
|cZ9 a=>List.pairwise_append.mpr a
|da0 a=>Dz kvs a
|da1=>Ë a
|da2=>Ë j
|da3=>Ñ 0
|da4=>Ñ bj2
|da5=>ã b
|da7=>ç Int Int
|da8=>ü aO0
|da9 a b=>Ė (LH false a) b
|db0=>Ľ 4
|db1=>wa db0
|db2=>ŏ _
|db3=>ψ h
|db4=>ϳ y
|db5=>cr am3
|db6 a=>dS a aZ4
|db7 a b=>li^ak2 a b
|db9=>mr TK txt
|dc0=>mw bb6
|dc1=>oT a
|dc2=>pc aj4
|dc3=>sM 1
|dc4=>sX i
|dc5=>CO 8
|dc6=>LX 2
|dc7=>N1 z
|dc8 a b=>ai5 true a b
|dc9=>aw6 Û
|dd0=>az6 Ϫ
|dd1=>aD9 ě
|dd2=>aD9 ck
|dd3=>aG0 xt
|dd4=>aK5 st
|dd5 b c=>bf6 b Ì c
|dd6 a b=>bf8^nV a b
|dd7 a b c d=>bo4 (Qg a b c) d
|dd8=>t0.trans^Ϻ h0
|dd9 a=>bN6 a Ě
|de0=>bP4 ŕ
|de1 a=>Ϸ ŉ^ci3 a
|de2=>cq4 xs
|de3 a=>JA Ų p.ks a
|de5=>cx3 0 lo
|de6=>cR5 Ì
|de7=>cT8 X6
|de8 a=>X.stack=a
|de9 a=>¬ Ĭ a
|df0=>⇑i
|df1=>⇑a.pg
|df2=>(F.slot_zip_next).1
|df3=>C7 h
|df4=>(·.isSome)
|df5 a=>a<pg.length
|df6 a b c d=>Inv a b σ' c d
|df7 a c d e f=>I.O8.keep b a c d e f
|df8=>[emp]
|df9=>[ce6]
|dg0 a b c d e=>wpAny M a b c d e
|dg1 a b=>storeName X.env a b
|dg2=>As hi
|dg3 a=>D.nx σ a
|dg4 a b=>PSs X a b
|dg5=>I.wish _
|dg6 a b=>C6^wpAny_load a b
|dg7=>λ_=>?_
|dg8 a=>(N.first+a)
|dg9=>"dict_itemiterator"
|dh0 a=>C9^C9 a
|dh1 a b c=>opI λ_ _ _ _ _ _ _ a b=>c
|dh3=>hU / 2
|dh4=>LB dh3
|dh5=>L i
|dh7=>start N vs
|dh8=>"slice"
|dh9=>by rw[An]<;>lia
|di0 a=>h'.push^de1 a
|di1=>pre_splitW hpre
|di2=>k.map kV
|di3 a b c=>by rw[a,b,c]
|di4 a=>gX I.hok a
|di5=>g.gs W.rb
|di6 a=>r.trans a
|di7 a b=>S.grow a b
|di8=>SqT.of Zc
|di9 a=>by simp[eV]at a
|dj0 a b=>by rw[<- a,b]
|dj1 a b=>Gr.banned a b
|dj2 a b=>cE [] a b
|dj3 a=>Qe^QL a
|dj4 a=>ds.set a d
|dj5 a b c d=>by ext a;rw[b,c,d]
|dj6=>gT ds
|dj7=>body env'
|dj8 a b c d e f=>T.kid a b hn c d e f
|dj9 a=>hh.trans a
|dk0 a b c=>W.none_ a b c hf
|dk1=>"forks"
|dk2 a=>Classical.byContradiction a
|dk5 a=>aO s.S bg s.ws a
|dk6=>(gV).rows
|dk7=>N.s k
|dk8=>l.map PD
|dk9 a b c=>Q9 a b boot_all c
|dl0 b c d=>Zr^NU b c d
|dl1=>"begin"
|dl2=>"law"
|dl3 a b c d e=>Zn a b c d^Ņ e
|dl4 a b c d e=>ZQ (Xd a b c d) e
|dl5 a b c=>gs a^Æ b c
|dl6=>v7 r
|dl7 a=>t2.trans^Ϻ a
|dl8 a=>l.set d a
|dl9 a b c d e=>zZ (a:=b) Ã c d e
|dm0 a b=>hs.set a^õ b
|dm1=>TR.lc t.ws
|dm2 a=>A.od a hx
|dm3=>txt x
|dm4=>Â Addr
|dm5=>Ç Û
|dm6=>Í v
|dm7=>Í ê
|dm8 a=>Ñ ⇑a
|dm9=>Ñ 1
|dn0=>Õ Ϙ
|dn1 a b=>à (zT a) b
|dn2 a b=>à (zr a) b
|dn3 a b c=>â (bX a b) c
|dn4=>ë rg
|dn5=>õ ϫ
|dn6=>ö d1
|dn7 a b=>ø a b true
|dn8=>Ĉ ŧ
|dn9=>ĥ "object"
|do0=>ĥ wS
|do1 a=>Ĭ^XS a
|do2 a=>Ĭ^iI a
|do3=>Ĭ w.O7
|do4 a b=>ľ a b h
|do5 a b=>ŏ^Af a b
|do6 a=>ŗ H' a
|do7=>Ś Z.k14
|do8=>Ś Z.k11
|do9 a=>ş cpos a
|dp0 b c=>Ţ b^Qa c
|dp1 a b c d=>ŭ a^fB b c d
|dp2=>Ŵ s.heap.objs.size
|dp3 a=>Φ a i9
|dp4 a=>Ϧ^toString a
|dp5=>ϳ v
|dp6 a b=>a7 a^tC b
|dp7=>dE ln
|dp8 a=>fm xH a
|dp9=>dp8 Ì
|dq0 b=>hL b Z.g0
|dq1 b=>hL b Z.g3
|dq2 b=>hL b Z.g4
|dq4=>lT hi u
|dq6=>AB hv a
|dq7=>FD Lj
|dq8=>FU ţ
|dq9=>Lu p
|dr0=>LP Z6
|dr1=>L6 x
|dr2=>MF ê
|dr3 a=>Pd zi a
|dr4 a=>Pw items.size a
|dr5 a b=>PQ a s.heap b
|dr6 a=>Tk^õ a
|dr7 a b=>ai0^List.find? a b
|dr8=>ai3 t.S
|dr9 a b c d e f=>ap9 a b c d e Jx f
|ds1=>Q7 p w.aim x
|ds2=>av9 M.rm
|ds3=>ax6 bM9
|ds4=>aO7 p
|ds5 a b=>aV6 a hn b
|ds7=>PH^nV l h
|ds8 a b=>HOk X.prog X.w a b
|ds9=>bg3 Z.g4
|dt0 a b=>bj4 a b pos
|dt1=>nZ k p.hi
|dt2=>bp5 x
|dt3=>bq4 t.tk
|dt4 a=>bq7^Í a
|dt5 a b=>bq8 a L.q b
|dt6=>bw8 e
|dt7=>bO8 e.h3
|dt8=>bR0 Z.k0
|dt9=>bR0 Z.k7
|du2=>bG0 K ρ B H
|du3 a=>bW7 a bt8
|du4=>du3 ag1
|du5 a=>cx0 X.K a
|du6 a=>cy7 w O3 a
|du7=>du6 vr
|du8 a=>cz7 g a
|du9 a b c=>.Compare a b c pos
|dv0 a b c=>MtR a b^o_ X.K c
|dv1 a b c d e f=>cJ6 a b c d e I1 f
|dv2 a b=>cM5 a b J
|dv3=>cY6 body
|dv4=>de8 bw4
|dv5 a=>dj2 a d
|dv6=>dv5 E
|dv7 a=>do4 m a
theorem At(a:1=1:=by rfl)(b:1=1:=by decide)(c:1=1:=by intro _;rfl)(d:1=1:=by first|show .inl rfl|show .inr rfl|assumption)(e:1=1:=by first|show Or.inl rfl|show Or.inr rfl)(f:1=1:=by with_unfolding_all rfl)(g:1=1:=by intro s _ _ _ _ _ _ _ l;trivial)(h:1=1:=by (repeat intro _);rfl)(i:1=1:=by intro _ _;rfl)(j:1=1:=by show(Y:true=true)):True:=trivial
section
section
open PySem PySem.Spec PyProof.Rows
abbrev Aa:=PySem.W.Frag
def Ab:=@List.getElem?_eq_getElem
def Ac:=@List.getElem?_eq_some_iff
def Ad:=@Heap.get?_push_of_some
def Ae:=@Nat.le_refl
def Ag:=@List.getElem?_append_left
def Ah:=@List.mem_append
def Ai:=@List.mem_append_right
def Aj:=@Option.some.inj
def Ak:=@List.getElem?_set_ne
def Am:=@List.length_append
def An:=@List.size_toArray
def Ao:=@Heap.lt_size
def Ap:=@List.getElem?_append_right
def Aq:=@List.mem_singleton
def Ar:=@List.filter_cons
def As:=@List.getElem?_set_self
def Au:=@Heap.get?_push_size
def Aw:=@List.mem_of_getElem?
def Ax:=@List.mem_cons_of_mem
def Ay:=@Nat.lt_of_lt_of_le
def Az:=@Bool.false_eq_true
def A0:=@List.mem_append_left
def A7:=@List.append_assoc
def A8:=@List.length_take
def A9:=@List.length_cons
def Ba:=@List.map_cons
def Bb:=@Bool.and_eq_true
def Bc:=@Nat.zero_le
def Be:=@Nat.ne_of_lt
def Bf:=@Nat.lt_or_ge
def Bh:=@List.drop_eq_getElem_cons
def Bi:=@Nat.le_trans
def Bj:=@List.mem_cons
def Bm:=@List.mem_filter
def Bo:=@Int.le_refl
def Bq:=@List.length_drop
def Br:=@List.length_map
def Bs:=@List.append_nil
def Bt:=@List.getElem?_map
def Bu:=@List.mem_iff_getElem?
def Bv:=@List.mem_of_mem_take
def Bx:=@Nat.lt_of_le_of_lt
def By:=@Bool.false_ne_true
def Bz:=@Int.toNat_natCast
def B0:=@List.find?_cons
def B7:=@List.getElem_mem
def B8:=@List.getElem?_take_of_lt
def B9:=@List.length_filter_le
def Ca:=@List.getElem?_drop
def Cb:=@List.mem_of_mem_drop
def Cc:=@List.not_mem_nil
def Cd:=@Option.map_eq_some_iff
def Ce:=@List.mem_range
def Cf:=@List.take_of_length_le
def Cg:=@Array.length_toList
def Ch:=@List.prefix_rfl
def Ci:=@Heap.size_push
def Cj:=@List.pairwise_cons
def Ck:=@List.getD_eq_getElem?_getD
def Cm:=@List.mem_iff_getElem
def Cn:=@List.any_cons
def Co:=@List.filter_eq_self
def Cp:=@List.nodup_cons
def Cq:=@Nat.lt_irrefl
def Cr:=@List.getElem?_eq_none
def Cs:=@Nat.le_of_not_lt
def Cu:=@List.filter_eq_nil_iff
def Cv:=@Nat.lt_succ_self
def Cw:=@List.drop_length
def Cy:=@List.all_cons
def Cz:=@Nat.zero_add
def C0:=@Nat.ne_of_gt
def C1:=@List.mem_map
def C4:=@List.getElem?_take
def C5:=@Nat.le_add_right
def C6:=@wpAny_bind
def C7:=@if_neg
def C8:=@if_pos
def C9:=@wpAny_pure
def Ea:=@decide_eq_true
def Eb:=@of_decide_eq_true
def Ec:=@decide_eq_false
def Ed:=@pure_bind
abbrev Ee:=Value->Shared->Prop
abbrev Ef:=List (Addr×Obj)
abbrev Eg:=Str->Option Value
abbrev Ei:=List (Int×Int)
abbrev Ej:=Addr->Prop
abbrev Ek:=List Addr
abbrev Eo:=Int->Option Int
#where
namespace L2
open PySem PySem.Spec PyProof.Rows
abbrev Key:=Sum Int Str
def vE:Key->wP Value
 |.inl k,v=>Value.isInt k v
 |.inr x,v=>Value.isStrOf x v
def Qs6(w:World):Key->Int
 |.inl k=>hashInt k
 |.inr x=>hashStr w x
def JE:∀{k:Key}{v:Value},Ĭ^vE k v->(∃i t,k=nX i/\v=an7 t)∨(∃x t,k=cn7 x/\v=aF4 t)
 |.inl i,v,h=>aY9 t e (Value.isInt_shape (k:=i) (v:=v) h)^ë #[i,t,Y,e]
 |.inr x,v,h=>aY9 t e (Value.isStrOf_shape (x:=x) (v:=v) h)^ċ #[x,t,Y,e]
def QgF(i:Int)(t:Tok):Ĭ^vE (ë i) bp2:=my vE Value.isInt
def QgG(x:Str)(t:Tok):Ĭ^vE (ċ x)^.str x t:=my vE Value.isStrOf
def QpH(a b:Int):FC (nX a:Key)^nX b=(a==b):=by
 by_cases e:a=b
 .subst e;simp
 .let h:¬ (nX a:Key)=nX b:=λ q=>e^cn8 q;rw[Ec h];show(ad e).symm
def QpK(a b:Str):FC (cn7 a:Key)^cn7 b=FC a b:=by
 by_cases e:a=b
 .subst e;simp
 .let h:¬ (cn7 a:Key)=cn7 b:=λ q=>e^Sum.inr.inj q;rw[Ec h,Ec e]
def QpI(a:Int)(b:Str):ÿ^FC (nX a:Key)^cn7 b:=Ec^bv2 q q
def QpJ(a:Str)(b:Int):ÿ^FC (cn7 a:Key)^nX b:=Ec^bv2 q q
def ZW(prog:Program)(w:World):PySem.KeyKind prog w Key where
 is:=vE
 hash:=Qs6 w
 inj:=λ v a b ha c=>by
  obtain⟨i,t,Y,Y⟩|⟨x,t,Y,Y⟩:=JE ha
  .obtain⟨j,u,Y,e⟩|⟨y,u,Y,e⟩:=JE c
   .injection e with e1 _;rw[e1]
   .show i7 e
  .obtain⟨j,u,Y,e⟩|⟨y,u,Y,e⟩:=JE c
   .show i7 e
   .injection e with e1 _;rw[e1]
 byValue:=λ k v h=>by obtain⟨i,t,Y,Y⟩|⟨x,t,Y,Y⟩:=JE h<;>rfl
 pyHash:=λ hv h=>by
  obtain⟨i,t,Y,Y⟩|⟨x,t,Y,Y⟩:=JE hv
  .show wpAny_pyHash_int h
  .show wpAny_pyHash_str h
 eqBool:=λ o hv h=>by
  obtain⟨i,t,Y,Y⟩|⟨x,t,Y,Y⟩:=JE o
  .obtain⟨j,u,Y,Y⟩|⟨y,u,Y,Y⟩:=JE hv
   .rw[QpH]at h;show wpAny_eqBool_int h
   .rw[QpI]at h;show SeqAt.EqAt.int_str i t y u _ _ _ _ h
  .obtain⟨j,u,Y,Y⟩|⟨y,u,Y,Y⟩:=JE hv
   .rw[QpJ]at h;show SeqAt.EqAt.str_int x t j u _ _ _ _ h
   .rw[QpK]at h;show wpAny_eqBool_str h
 «strs»:=λ k x t v h=>by
  obtain⟨i,u,Y,e⟩|⟨y,u,Y,e⟩:=JE h
  .show i7 e
  .injection e with e1 _;subst e1;cases v<;>rfl
def Qb7(prog:Program)(w:World)(i:Int)(t:Tok):Ĭ^(ZW prog w).is (ë i) bp2:=QgF i t
def Qb8(prog:Program)(w:World)(x:Str)(t:Tok):Ĭ^(ZW prog w).is (ċ x)^.str x t:=QgG x t
inductive Y1 where
 |non|bl (b:Bool)|int (i:Int)|str (x:Str)|byt (b:Array UInt8)|flt (b:UInt64)|ref (a:Addr)|ty (n:String)
 deriving DecidableEq
def RelV:Y1->ι Value
 |.non,u=>u=Value.none
 |.bl b,u=>u=bH6 b
 |.int i,u=>∃t,u=an7 t
 |.str x,u=>∃t,u=aF4 t
 |.byt b,u=>∃t,u=Value.bytes b t
 |.flt b,u=>∃t,u=Value.float b t
 |.ref a,u=>u=Ϛ a
 |.ty n,u=>u=PF n
abbrev Vals:ś->ι Ď:=Paired RelV
def Vals.length{xs:ś}{us:Ď}(r:bf5):ŧ=bW9:=ag6
def Vals.get:∀{xs:ś}{us:Ď}{i:V}{x:Y1},bf5->bC3>x->∃u,Ů us>u/\ϳ x
 |_,_,_,_,.nil,e=>by simp at e
 |_,_,0,_,.cons r _,e=>by simp at e;subst e;show#[_,Y,r]
 |_,_,i+1,x,.cons _ t,e=>br9 u h1 h2 (Vals.get (i:=i) (x:=x) t aP7) #[u,cb2,h2]
def Vals.set(r:ϳ x):∀{xs:ś}{us:Ď}(i:V),bf5->Vals (xs.set i x)^us.set i u
 |_,_,_,.nil=>i9
 |_,_,0,.cons _ t=>Φ r t
 |_,_,i+1,.cons q t=>Φ q^Vals.set r i t
def Vals.append:∀{xs a:ś}{us ws:Ď},bf5->Vals a ws->Vals (xs++a) (us++ws):=by
 intro xs a us ws h s;induction h with
 |nil=>show s
 |cons r t c=>show Φ r c
def Vals.take:∀{xs:ś}{us:Ď}(n:V),bf5->Vals (xs.take n)^us.take n
 |_,_,0,_=>i9
 |_,_,_+1,.nil=>i9
 |_,_,n+1,.cons r t=>Φ r^Vals.take n t
def Vals.drop:∀{xs:ś}{us:Ď}(n:V),bf5->Vals (xs.drop n)^us.drop n
 |_,_,0,r=>r
 |_,_,_+1,.nil=>i9
 |_,_,n+1,.cons _ t=>Vals.drop n t
def RelO:al8->ι iM
 |some v,some u=>dp5
 |none,none=>True
 |_,_=>False
def KV{κ:pZ}:aO5->ι bW1:=Paired λ(p:κ × Y1)(q:κ × Value)=>ix=FO/\RelV p.2 q.2
def kV:Key->Y1
 |.inl i=>ft
 |.inr x=>Ϭ
inductive HO where
 |lst (xs:ś)
 |tup (xs:ś)
 |dK (kvs:NA)|dT (kvs:dq7)
 |set (S:cm5) (n:V)
 |ins (C dx:Addr) (fs:be8)
 |own (x:Addr)
 |xd (fs:be8)
 |met (f x:Addr)
 |rng (lo hi:Int)
 |frz (o:Obj) (u:HO)
 |tbl (ps:ļ)
 |ext (φ:bP0)
abbrev Hp:=Addr->Ï HO
def upd(H:Hp)(a:Addr)(o:HO):Hp:=λ b=>Dt b a o^H b
def Zc{a:Addr}:upd H a o a>o:=hp upd pv
def Zb{H:Hp}{a b:Addr}(h:b≠a):upd H a o b=H b:=hp upd df3
def QrZ{H:Hp}{a b:Addr}{o u:HO}(h:PK>o)(h':H b>u)(d:o≠u):a≠b:=by intro e;subst e;rw[h]at h';show d (Aj h')
def Z0{H:Hp}{a b:Addr}(h:PK>o)(h':bV6):a≠b:=by intro e;subst e;rw[h]at h';cases h'
variable(P:Program)(w:World)
def ObjOk(H:Hp)(h:Heap)(a:Addr):ι HO
 |.lst xs=>dn8/\∃(c:Ď) (n:V),aF7 c/\cd9>cX1
 |.tup xs=>dn8/\∃c:Ď,aF7 c/\IsTup h a c.toArray
 |.dK kvs=>Ĉ gi/\Op a/\∃vs,aA1/\h.DictOf (ZW P w) a vs
 |.dT kvs=>Ĉ gi/\Op a/\∃xs:ç Lj bv4,
  Paired (λ(p:List Key × Y1)(q:List Key × Addr × Value)=>ix=FO/\H q.2.1>(õ^mr ix kV)/\RelV p.2 q.2.2) kvs xs /\
  ∃o es ep,cd9>o/\o.ExactDict/\o.data=.dict es ep/\es.toList=sF^entryOfKey^aF8 P w/\(sF ţ).Nodup
 |.set S n=>h.SetOf (intKind P w) a S n
 |.ins C i fs=>H i>(.own a)/\aQ6<=ej/\i≠a/\cd9>(bH9 i) /\
  ∃e,h.Ns1 i e/\(∀f,RelO cw6 (e f))/\PySem.Within e (ag8)
 |.own _=>∃o,cd9>o
 |.xd fs=>∃e,h.Ns1 a e/\∀f,RelO cw6 (e f)
 |.rng j hi=>∃t u v,cd9>(bP2 bp ⟨bp1 j,dq4,lT 1 v⟩)
 |.frz o u=>cd9>o/\ObjOk H h a u
 |.tbl ps=>cd9>(ϴ cls fE^pK ps)
 |.met f x=>cd9>(aZ6 ↑x)
 |.ext φ=>φ h/\(∃o,cd9>o)/\∀h1 h2:Heap,φ h1->(∀o,h1.get? a>o->h2.get? a>o)->φ h2
def HOk(H:Hp)(h:Heap):ä:=∀a o,PK>o->aF9 w H h a o
variable{P:Program}{w:World}{H H':Hp}{h h':Heap}{a:Addr}{o:HO}
def ObjOk.lt(x:aF9 w H h a o):a<h.objs.size:=by
 cases o with
 |lst xs=>let(_,_,_,_,e):=x;show xt
 |tup xs=>let(_,_,_,p):=x;show p.lt
 |dK kvs=>let(_,_,_,_,o,_,_,e,_):=x;show xt
 |dT kvs=>let(_,_,_,_,o,_,_,e,_):=x;show xt
 |set S n=>let(o,_,_,_,e,_):=x;show xt
 |ins C c fs=>let(_,_,_,e,_):=x;show xt
 |own y=>let(_,e):=x;show xt
 |xd fs=>let(_,(_,_,_,e,_),_):=x;show xt
 |rng i hi=>let(_,_,_,e):=x;show xt
 |frz ob u=>let(e,_):=x;show xt
 |tbl ps=>show Ao (â (cd9>_) x)
 |met f y=>show Ao (â (cd9>_) x)
 |ext φ=>let(_,(_,e),_):=x;show xt
def Paired.mapP{α β:pZ}{F G:α->ι β}:∀{l₁:Fa}{l₂:Â β},Paired F l₁ l₂->(∀a b,F a b->G a b)->Paired G l₁ l₂:=by
 intro l₁ l₂ h f;induction h with
 |nil=>show i9
 |cons r t c=>show Φ (f _ _ r) c
def ObjOk.stay(x:aF9 w H h a o)(k:∀b u,(b=a∨H b>(.own a))->bV7>u->aY0>u)
  (ho:∀b,H b>(.own a)->co4>(.own a)) (ht:∀b xs,H b>OL->co4>OL):aF9 w H' h' a o:=by
 induction o with
 |lst xs=>let(z,i,n,r,e):=x;show#[z,i,n,r,k _ _ ϊ e]
 |tup xs=>let(z,i,r,ob,e,c):=x;show#[z,i,r,ob,k _ _ ϊ e,c]
 |dK kvs=>let(z,y,vs,r,ob,es,ep,e,c):=x;show#[z,y,vs,r,ob,es,ep,k _ _ ϊ e,c]
 |dT kvs=>let(z,y,xs,r,ob,es,ep,e,c):=x;show#[z,y,xs,Paired.mapP r λ p q z=>#[z.1,ht _ _ z.2.1,z.2.2],ob,es,ep,k _ _ ϊ e,c]
 |set S n=>let(ob,es,ep,t,e,c):=x;show#[ob,es,ep,t,k _ _ ϊ e,c]
 |ins C G fs=>let(d,z,ne,e,j,(od,es,ep,E,c),r):=x;show#[ho _ d,z,ne,k _ _ ϊ e,j,#[od,es,ep,k _ _ (ċ d) E,c],r]
 |own y=>let(ob,e):=x;show#[ob,k _ _ ϊ e]
 |xd fs=>let(j,(od,es,ep,e,c),r):=x;show#[j,#[od,es,ep,k _ _ ϊ e,c],r]
 |rng I hi=>let(t,u,v,e):=x;show#[t,u,v,k _ _ ϊ e]
 |frz ob u F=>let(e,q):=x;show#[k _ _ ϊ e,F q]
 |tbl ps=>let e:cd9>(ϴ cls fE^pK ps):=x;exact ζ a>(ϴ cls fE^pK ps);show k a _ ϊ e
 |met f y=>let e:cd9>(aZ6 ↑y):=x;exact ζ a>(aZ6 ↑y);show k a _ ϊ e
 |ext φ=>let(p,(o,e),st):=x;show#[st _ _ p λ o q=>k _ _ ϊ q,#[o,k _ _ ϊ e],st]
def HOk.lt(x:bT3)(e:PK>o):a<h.objs.size:=(x a o e).lt
def HOk.fresh(x:bT3)(e:h.objs.size<=a):Ŵ a:=by
 cases q:PK with
 |none=>rfl
 |some u=>show cB1 (x.lt q) e
def HOk.kept(x:bT3)(k:∀b u,bV7>u->aY0>u):bF3 h':=λ a o e =>
 (x a o e).stay (λ b u _ q=>k b u q) (λ_ q=>q) cB3
def HOk.laid(x:bT3)(k:∀b u,bV7>u->aY0>u)(J:h.objs.size<=a)(new:aF9 w cW1 h' a o):bv9 cW1 h':=λ b u e=>by
 let hn:=x.fresh J;by_cases i:b=a
 .subst i;rw[Zc]at e;cases e;show new
 .rw[Zb i]at e;show(x b u e).stay (λ c v _ q=>k c v q) (λ c q=>ds5 q q) λ c xs q=>ds5 q q
#where
def Rd(H:Hp)(a:Addr)(u:HO):ä:=PK>u∨∃o,PK>(.frz o u)
def Rd.ok{w:World}{a:Addr}(r:Rd H a u)(x:bT3):aF9 w H h a u:=by
 obtain r|⟨o,r⟩:=r
 .show x a u r
 .let(_,q):=x a _ r;show q
def Mut:ι^Ï HO
 |some (.lst _)=>True
 |some (.dK _)=>True
 |some (.dT _)=>True
 |some (.set _ _)=>True
 |some (.ins _ _ _)=>True
 |some (.ext _)=>True
 |_=>False
variable{P:Program}{w:World}{H:Hp}{h h':Heap}{x e:Addr}{o':HO}
def HOk.write(ok:bT3)(mu:Mut^H x)(F:e=x∨H e>(.own x))(k:∀b u,b≠e->bV7>u->aY0>u)(E:∃u,ζ e>u)
  (new:aF9 w (Α x o') h' x o'):bv9 (Α x o') h':=λ b u q=>by
 let i:∀c y,H c>(.own y)->c≠x:=λ c y r z=>aq6 z r mu
 let j:∀c xs,H c>OL->c≠x:=λ c xs r z=>aq6 z r mu
 by_cases o:b=x
 .subst o;rw[Zc]at q;cases q;show new
 .rw[Zb o]at q;by_cases a:b=e
  .let G:H b>(.own x):=by
    obtain z|z:=F
    .show Ė (a.trans z) o
    .rw[a];show z
   rw[q]at G;cases G;let(v,hv):=E;show#[v,Æ a hv]
  .apply(ok b u q).stay (λ c v C r=>k c v ?_ r) (λ c r=>lr (i c b r) r) λ c xs r=>lr (j c xs r) r
   obtain Y|C:=C
   .show a
   .rintro Y;obtain z|z:=F
    .show i c b C z
    .rw[C]at z;cases z;show o Y
#where
structure Un(fs ex:Ek)(H H':Hp)(h h':Heap):ä where
 keep:∀b o,bV7>o->bV6->b∉fs->b∉ex->aY0>o
 slot:∀b o,bV7>o->bV6->b∈fs->b∉ex->∃sl,aY0>(aU8 o sl)
 free:∀b o,bV7>o->bV6->b∉ex->ų co4
 there:∀b o,bV7>o->b∉ex->∃o',aY0>o'
 tups:∀b xs,H b>OL->co4>OL
 frzs:∀b o u,H b>(.frz o u)->co4>(.frz o u)
 tbls:∀b ps,H b>(.tbl ps)->∃more,co4>(.tbl<|ps++more)
variable{fs ex:Ek}{H H1:Hp}{h h1 h':Heap}{a x e:Addr}{o:HO}
def Un.any(u:Un fs ex H H1 h h1){b:Addr}{ob:Obj}(q:bV7>ob)(n:bV6)(hx:b∉ex):∃i,h1.get? b>(aU8 ob i):=by
 by_cases c:b∈fs
 .show u.slot b ob q n c hx
 .show#[ob.slots,u.keep b ob q n c hx]
def Un.kept(k:∀b u,bV7>u->aY0>u):Un fs ex H H h h' :=
 #[λ b ob q _ _ _=>k b ob q,λ b ob q _ _ _=>#[ob.slots,k b ob q],λ_ _ _ n _=>n,λ b ob q _=>#[ob,k b ob q],cB3,CA q q,λ_ ps q=>#[hZ,ψ q]]
def Un.refl:Un fs ex H H h h:=Un.kept cB3
def Un.laid(k:∀b u,bV7>u->aY0>u)(J:h.objs.size<=a)(hn:Ŵ a):Un fs ex H cW1 h h' where
 keep:=λ b u q _ _ _=>k b u q
 slot:=λ b u q _ _ _=>#[u.slots,k b u q]
 free:=λ b u q n _=>lr (Be^Ay (Ao q) J) n
 there:=λ b u q _=>#[u,k b u q]
 tups:=λ b xs q=>ds5 q q
 frzs:=λ b u xs q=>ds5 q q
 tbls:=λ b ps q=>#[hZ,bw2 (Zb^Z0 q hn) q]
def Un.write(mu:Mut^H x)(y:e=x∨H e>(.own x))(k:∀b u,b≠e->bV7>u->aY0>u)(i:∃u,ζ e>u):Un fs ex H (Α x o) h h':=by
 let hx:∀b,bV6->b≠x:=λ b n z=>aq6 z n mu
 let v:∀b,bV6->b≠e:=λ b n z=>by
  subst z;obtain r|r:=y
  .show hx b n r
  .rw[n]at r;cases r
 let j:∀b u,H b>u->¬ Mut (í u)->b≠x:=λ b u q nm z=>aq6 z q^nm mu
 apply#[λ b u q n _ _=>k b u (v b n) q,λ b u q n _ _=>#[u.slots,k b u (v b n) q],λ b u q n _=>lr (hx b n) n,λ b u q _=>?_,
  λ b xs q=>lr (j b _ q λ z=>z) q,λ b u xs q=>lr (j b _ q λ z=>z) q,λ b ps q=>#[hZ,bw2 (Zb^j b _ q λ z=>z) q]]
 by_cases c:b=e
 .subst c;show i
 .show#[u,k b u c q]
#where
def trk(h:Heap)(H:Hp):dm4:=AZ h.objs.size^λ a=>p9 PK
def oU(h:Heap)(H:Hp):Heap:=PySem.W.hideAll h^trk h H
def Qgy(h:Heap)(H:Hp):sL^oU h H=h.objs.size:=PySem.W.hideAll_size _ _
def QiW{h:Heap}{H:Hp}{b:Addr}(e:bV7>o)(n:bV6):(oU h H).get? b>o :=
 PySem.W.hideAll_get _ e λ a=>by let q:aN7^H b:=ao0 a;rw[n]at q;simp at q
def QmJ{h:Heap}{H:Hp}{b:Addr}(e:(oU h H).get? b>o):bV7>o/\bV6:=by
 let a:bV7>o:=PySem.W.of_hideAll (trk h H) e;apply bI0 a;cases q:H b with
 |none=>rfl
 |some x=>let c:b∈trk h H:=Bm.mpr #[bh5 (Ao a),Ğ q];let z:ų^(oU h H).get? b:=PySem.W.hideAll_none (trk h H) c;rw[z]at e;cases e
def Rb(g h:Heap)(L:Addr):Nl:=(ĉ h.objs.size).filterMap λ a=>É (a=L∨aN7^cX7 a) none^LL cd9 o (a,o)
def vQ{g h:Heap}{L:Addr}{p:Addr × Obj}(J:p∈Rb g h L):ix≠L/\ų^cX7 ix/\ϝ ix>p.2:=by
 let(b,_,e):=aR1 J;split at e
 .cases e
 .rename_i hn
  cases q:bV7 with
  |none=>rw[q]at e;simp at e
  |some u =>
   rw[q]at e;simp only[Option.map_some,Option.some.injEq]at e;subst e;apply#[λ z=>hn^ë z,?_,q];exact ų^cX7 b;cases r:cX7 b with
   |none=>rfl
   |some v=>show(hn^ċ^Ğ r).elim
def rest(g h:Heap)(L d:Addr):Nl:=AF (Rb g h L)^λ p=>cz9 d
def Qjx{L:Addr}:News g L h^Rb g h L:=λ p J=>let #[a,b,c]:=vQ J;#[c,a,b]
structure Mod(K:Aa)(mg:Eg)(O8:Heap):ä where
 kin:K.In O8
 glob:ad0 mg
 blt:∃mb,O8.Ns builtinsNs mb/\∀x:Str,tI x -> mb x=AI
 nolimit:O8.NoLimit
structure Cx where
 prog:Program
 w:World
 K:Aa
 mg:Str->iM
 O8:Heap
 A:Around
 N:č
 s₀:Shared
 H₀:Hp
 env:Env
 outer:My
 stack:My
 ex:dm4
 fn:wP Str
 calm:Bool
 pn:Nl
 xe:PC ϟ
def frs(l:My):dm4:=l.filterMap (·.frame)
abbrev Cx.fs(X:Cx):dm4:=Oy
def Vis(a:Scope)(x:Str):ä:=pw>py∨pw>aK4∨pw>bj9
def Loc(a:Scope)(x:Str):ä:=pw>py∨pw>aK4
def QsS(env:Env)(h:Heap)(m:Eg)(x:Str)(u:Value):ä :=
 (cJ1>py/\m x>u)∨((cJ1>aK4∨cJ1>bj9)/\∃c,env.cells.lookup x>c/\h.IsCell c^í u)
structure Cx.Ok(X:Cx):ä where
 mod:Mod X.K X.mg X.O8
 kind:X.env.scope.kind=ba1
 glob:X.env.globals=mainGlobals
 blt:X.env.builtins=builtinsNs
 above:ey X.env.locals
 inj:∀x y c,Ŏ x>c->Ŏ y>c->x=y
 has:∀x,(To x>aK4∨To x>bj9)->∃c,Ŏ x>c
 cab:∀x c,Lq x->Ŏ x>c->ey c
 hd:dc->ų X.A.handled
 frames:X.A.frames>X.stack
 stk:de8 X.outer∨(dv4/\aQ8)
 exf:∀b∈X.ex,fg b/\∀x c,Ŏ x>c->c≠b
 bs:∀b o,aR2>o->gm>o/\aI4 b
 bsz:X.O8.objs.size<=X.s₀.heap.objs.size
 noex:∀b o,aR2>o->b∉X.ex
 exfs:∀b∈X.ex,co5 b
 funs:cD6 X.outer
 frf:∀b∈X.fs,aI4 b
structure Inv(X:Cx)(O9:Ef)(σ:Â al8)(H:Hp)(s:Shared):ä where
 ok:X.Ok
 os:s.os=X.s₀.os
 bare:AllBare s.gens
 O8:Un X.fs X.ex X.H₀ H X.s₀.heap s.heap
 loc:∃m,s.heap.Ns X.env.locals m/\∀(i:V)(x:Str)(v:Y1),ai9>x->bo5>bi1->ao1 x->∃u,dp5/\QsS X.env s.heap m x u
 cell:∀x c,Ŏ x>c->∃v,s.heap.IsCell c v
 free:Ŵ X.env.locals
 freeC:∀x c,Ŏ x>c->Ŵ c
 pin:∀p∈X.pn++O9,Č ix>p.2/\Ŵ ix/\fg ix/\co5 ix/\∀v,p.2.data≠.cell v
 hok:ds8 H s.heap
 len:⇑σ=⇑X.N
variable{X:Cx}{O9:Ef}{σ:Â al8}{H H':Hp}{s:Shared}{h':Heap}
def Cx.Ok.nofr(ok:X.Ok){b:Addr}(e:aR2>o):co5 b:=λ a=>ND (ok.funs.mem a).1 e this
def Inv.bs(I:Ϣ):∀b o,aR2>o->aV0>o/\bV6:=λ b o e =>
 #[df7 o (I.ok.bs b o e).1 (I.ok.bs b o e).2 (I.ok.nofr e) (I.ok.noex b o e),ak5 o (I.ok.bs b o e).1 (I.ok.bs b o e).2 (I.ok.noex b o e)]
def Inv.bk(I:Ϣ):∀b o,aR2>o->aV0>o:=λ b o e=>(I.bs b o e).1
def Inv.mod(I:Ϣ):Mod X.K X.mg X.O8:=I.ok.mod
def Inv.kIn(I:Ϣ):X.K.In s.heap:=I.ok.mod.kin.keeps I.bk
def Inv.fr(I:Ϣ):∃m,Fr X.O8 X.env.locals s.heap m :=
 let #[m,hn,_]:=I.loc
 #[m,hn,I.bk,Bi I.ok.bsz I.ok.above]
def Inv.lt(I:Ϣ):Tj X.env.locals:=let #[_,hn,_]:=I.loc;hn.lt
def Inv.sz(I:Ϣ):ey s.heap.objs.size:=Bi I.ok.above^dE I.lt
def Inv.nofs(I:Ϣ){a:Addr}(h:az9 a):co5 a:=λ c=>by let(_,o,e,_):=bw6 c;show cB1 xt (Bi I.sz h)
def Inv.cne(I:Ϣ):∀x c,Ŏ x>c->fg c:=λ x c e z=>by let(v,o,j,hd):=cX8 x e;let(m,(o',es,ep,i,a,_),_):=I.loc;rw[z,i]at j;cases j;rw[a]at hd;cases hd
def Inv.funs(I:Ϣ):aR3 X.outer:=by
 let all:∀(l:My),IQ b (frs l) (b∈X.fs)->cD6 l->aR3 l:=by
  intro l;induction l with
  |nil=>intro _ _;trivial
  |cons env r x=>intro i hl;let(j,(L,o,hf,hn,u,hd),v):=hl;let a:L∈X.fs:=i L^cp0 frs List.filterMap_cons hf List.mem_cons_self;let(y,e):=cJ2 L u (I.ok.frf L a) a (λ z=>I.ok.exfs L z a);show#[j,#[L,_,hf,hn,e,hd],x (λ b c=>i b^cp0 frs List.filterMap_cons hf^bU0 c) v]
 show all X.outer (λ_ c=>c) I.ok.funs
def Inv.stack(I:Ϣ):aR3 X.stack:=by
 obtain e|⟨e,hf⟩:=I.ok.stk
 .rw[e];show I.funs
 .rw[e];let(m,hn,_):=I.loc;apply .cons (bw7 I.ok.kind) hf hn ?_ I.funs;show Heap.get?_none_of_le (Bi I.ok.bsz I.ok.above)
def Inv.stkSub(I:Ϣ):∀b∈dz,b∈X.env.locals::X.fs:=λ b a=>by
 obtain e|⟨e,hf⟩:=I.ok.stk
 .rw[e]at a;show bU0 a
 .rw[e]at a;unfold frs at a;rw[List.filterMap_cons,hf]at a;show a
def Inv.stkFree(I:Ϣ):∀b∈dz,bV6:=λ b a=>by
 obtain e|a:=ny (I.stkSub b a)
 .rw[e];show I.free
 .let(_,o,c,_):=bw6 a;show ak5 o c (I.ok.frf b a) (λ z=>I.ok.exfs b z a)
def Inv.step{g':Array GenState}{t':V}{d':Drawn}{ch:Ek}(I:Ϣ)
  (hch:∀b∈ch,(b∈X.ex∨ey b)/\fg b/\(∀x c,Ŏ x>c->c≠b)/\∀p∈X.pn++O9,ix≠b)
  (keep:∀b o,fg b->co5 b->b∉ch->aV0>o->bV6->aY0>o)
  (slot:∀b o,fg b->b∈X.fs->b∉ch->aV0>o->bV6->∃G,aY0>(aU8 o G)) (free:∀b o,b∉ch->aV0>o->bV6->ų co4)
  (there:∀b o,b∉ch->aV0>o->∃o',aY0>o')
  (tups:∀b xs,H b>OL->co4>OL) (frzs:∀b o u,H b>(.frz o u)->co4>(.frz o u)) (tbls:∀b ps,H b>(.tbl ps)->∃more,co4>(.tbl<|ps++more))
  (ns:∀m,s.heap.Ns X.env.locals m->h'.Ns X.env.locals m) (hok:ds8 H' h') (hg:AllBare g') :
  do6 { s with heap:=h',gens:=g',drawn:=d',toks:=t' }:=by
 let F:∀b o,gm>o->fg b:=λ b o e=>Be dd3;let j:∀b o,gm>o->b∉X.ex->b∉ch:=λ b o e hx y=>by
  obtain z|z:=(hch b y).1
  .show hx z
  .show cB1 xt z
 let cellK:∀x c,Ŏ x>c->∀v,s.heap.IsCell c v->h'.IsCell c v:=λ x c e v #[o,C,hd]=>by
  let a:c∉ch:=λ z=>(hch c z).2.2.1 x c e Y;by_cases L:c∈X.fs
  .let(G,q):=slot c o (I.cne x c e) L a C (I.freeC x c e);show#[_,q,hd]
  .show#[o,keep c o (I.cne x c e) L a C (I.freeC x c e),hd]
 apply#[I.ok,I.os,hg,#[ba2 b o e n y hx,ba2 b o e n y hx,λ b o e n hx=>?_,mo b o e hx,λ b xs e=>tups b xs^I.O8.tups b xs e,λ b o xs e=>frzs b o xs^I.O8.frzs b o xs e,ľ b ps e],?_,ľ x c e,?_,ľ x c e,Ż p J,hok,I.len]
 .show keep b o (F b o e) y (j b o e hx) (df7 o e n y hx) (ak5 o e n hx)
 .let(G,e1):=cJ2 b e n y hx;let(Y2,E):=slot b _ (F b o e) y (j b o e hx) e1 (ak5 o e n hx);show#[Y2,E]
 .let(o',e1):=aw0 o e hx;show free b o' (j b o e hx) e1 (ak5 o e n hx)
 .let(o',e1):=aw0 o e hx;show there b o' (j b o e hx) e1
 .let(m1,e1):=I.O8.tbls b ps e;let(P,E):=tbls b _ e1;show#[m1++P,Ϗ E Array.append_assoc]
 .let(m,hn,hl):=I.loc;apply#[m,ns m hn,ba2 i x v e1 E O];let(u,r,l):=hl i x v e1 E O;apply#[u,r,?_];obtain l|⟨k,c,e,z⟩:=l
  .show ë l
  .show ċ #[k,c,e,cellK x c e _ z]
 .let(v,z):=cX8 x e;show#[v,cellK x c e v z]
 .let(m,(o,_,_,C,_),_):=I.loc;show free _ o (λ z=>(hch _ z).2.1 Y) C I.free
 .let(v,o,C,hd):=cX8 x e;show free c o (λ z=>(hch c z).2.2.1 x c e Y) C (I.freeC x c e)
 .let(e,n,ne,nf,d):=bk0 J;let a:ix∉ch:=λ z=>(hch ix z).2.2.2 p J Y;show#[keep ix p.2 ne nf a e n,free ix p.2 a e n,ne,nf,d]
def Inv.un{t':V}(I:Ϣ)(u:Un X.fs [] H H' s.heap h')(hok:ds8 H' h'):do6 aC9:=by
 let(m,(o,es,ep,v,r),_):=id I.loc;let(F,x):=u.any v I.free Ê;show I.step (g':=s.gens) (d':=s.drawn) (ch:=[]) (λ_ z=>i7 z) (λ b o _ j _ e n=>u.keep b o e n j Ê) (λ b o _ j _ e n=>u.slot b o e n j Ê) (λ b o _ e n=>u.free b o e n Ê) (λ b o _ e=>u.there b o e Ê) u.tups u.frzs u.tbls (λ E y=>by let(o',i,c,a,C):=y;rw[v]at a;cases a;show#[_,i,c,x,C]) hok I.bare
def Inv.call{g':Array GenState}{t':V}{d':Drawn}(I:Ϣ)(u:Un dz ch H H' s.heap h')(hok:ds8 H' h')(F:AllBare g')
  (hch:∀b∈ch,(b∈X.ex∨ey b)/\fg b/\(∀x c,Ŏ x>c->c≠b)/\∀p∈X.pn++O9,ix≠b) :
  do6 { s with heap:=h',gens:=g',drawn:=d',toks:=t' }:=by
 let(m,(o,es,ep,C,r),_):=id I.loc;let(O,y):=u.any C I.free λ z=>(hch _ z).2.1 Y;show I.step (ch:=ch) hch (λ b o y E a e n=>u.keep b o e n (λ z=>(ny^I.stkSub b z).elim y E) a) (λ b o _ _ a e n=>u.any e n a) (λ b o a e n=>u.free b o e n a) (λ b o a e=>u.there b o e a) u.tups u.frzs u.tbls (λ L G=>by let(o',v,j,i,Y2):=G;rw[C]at i;cases i;show#[_,v,j,y,Y2]) hok F
def Inv.turned{t':V}{a:Addr}(I:Ϣ)(k:∀b o,b≠a->aV0>o->aY0>o)(hn:Ŵ a)(y:fg a)
  (h1:a∈X.ex∨ey a) (h2:∀x c,Ŏ x>c->c≠a) (h3:∀p∈X.pn++O9,ix≠a):Ε aC9:=by
 let j:∀b u,H b>u->b≠a:=λ b u e z=>by rw[z,hn]at e;cases e
 apply I.step (g':=s.gens) (d':=s.drawn) (ch:=[a]) (Ż b C) (λ b o _ _ i e _=>k b o (λ z=>i^Ğ z) e) (λ b o _ _ i e _=>#[o.slots,k b o (λ z=>i^Ğ z) e]) (λ_ _ _ _ n=>n)
  (λ b o i e=>#[o,k b o (λ z=>i^Ğ z) e]) (λ_ _ e=>e) (CA e e) (λ b ps e=>#[hZ,ψ e]) (Ż m E) (ľ b u e) I.bare
 .let e:b=a:=Ë C
  subst e;show#[h1,y,h2,h3]
 .let(o,es,ep,F,r):=E;show#[o,es,ep,k _ o (Ņ y) F,r]
 .apply(I.hok b u e).stay (λ c v i q=>k c v ?_ q) (λ_ q=>q) cB3;obtain z|z:=i
  .rw[z];show j b u e
  .show j c _ z
def Inv.tok(I:Ϣ)(t:V):Ε^aN4 s t:=I.un (h':=s.heap) (t':=t) Un.refl I.hok
def Inv.kept{t':V}(I:Ϣ)(k:∀b u,aV0>u->aY0>u):Ε aC9:=I.un (Un.kept k)^I.hok.kept k
def Inv.laid{a:Addr}{t':V}(I:Ϣ)(k:∀b u,aV0>u->aY0>u)(J:az9 a)(new:bT8 X.w cW1 h' a o):
 ŗ cW1 aC9:=I.un (Un.laid k J^pM J)^I.hok.laid k J new
def Inv.write{x e:Addr}{o:HO}{t':V}(I:Ϣ)(mu:Mut^H x)(c:e=x∨H e>(.own x))(k:∀b u,b≠e->aV0>u->aY0>u)(a:∃u,ζ e>u)
 (new:bT8 X.w (Α x o) h' x o):ŗ (Α x o) aC9:=I.un (Un.write mu c k a)^I.hok.write mu c k a new
def Inv.pins_of(I:Ϣ)(h:∀p∈pins',Č ix>p.2/\Ŵ ix/\fg ix/\co5 ix/\∀v,p.2.data≠.cell v):cF8 pins' :=
 #[I.ok,I.os,I.bare,I.O8,I.loc,I.cell,I.free,I.freeC,λ p J=>(CB J).elim (λ z=>bk0^A0 _ z)^h p,I.hok,I.len]
def Qb9{N:č}(e:N.Nodup){i j:V}{x:Str}(a:Ů N>x)(b:Iq N>x):i=j:=by let(h1,e1):=Ac.mp a;let(h2,c):=Ac.mp b;show(List.getElem_inj e).mp (e1.trans c.symm)
def kN{M:Model}{A:Around}{E:Ee}{i:V}{x:Str}{Q:Unit->ϟ}(I:Ϣ)(hN:X.N.Nodup)(hi:ai9>x)(hx:l9 x)(r:dp5)
  (h:∀s',Inv X O9 (ag9 i v) H s'->(∃a,dr5 a s'.heap/\(a=X.env.locals∨Ŏ x>a))->Q () s') (hf:Lq x∨Ŭ x>py:=by first|show ϊ|show cG1|assumption):dg0 A (dg1 x u) Q E s:=by
 let(m,hn,hl):=id I.loc;let aa:ÿ<|X.env.scope.kind==.class||(X.env.scope.kind==.module&&X.env.locals != X.env.globals):=ö I.ok.kind
 let hiσ:i<⇑σ:=Æ I.len^Ÿ hi
 let cne:=I.cne;let tracked:∀{a:Addr}{h':Heap},(∃o,Č a>o/\Ŵ a)->dr5 a h'->ds8 H h':=λ{a h'} ha C b ob e=>by
  let(_,_,G):=ha;apply(I.hok b ob e).stay (λ c w' F q=>à (C.2 c ?_) q) (λ_ q=>q) cB3;rintro Y;obtain Y|F:=F
  .rw[G]at e;cases e
  .rw[G]at F;cases F
 obtain L|L:=hx
 .apply wpAny_storeName_local L hn (ľ h' aw C) aa;let(oL,_,_,ay,_):=id hn;apply h _ #[I.ok,I.os,I.bare,#[ba2 b o e n O hx,ba2 b o e n O hx,I.O8.free,mo b o e hx,I.O8.tups,I.O8.frzs,I.O8.tbls],#[_,aw,ba2 j y v' e1 Y2 e3],ľ y c e,I.free,I.freeC,Ż p J,tracked #[oL,ay,I.free] C,Ë I.len] #[_,C,ϊ]
  .show à (C.2 b^Be dd3) (df7 o e n O hx)
  .let(sl,e1):=cJ2 b e n O hx;show#[sl,à (C.2 b^Be dd3) e1]
  .let(o',e1):=aw0 o e hx;show#[o',à (C.2 b^Be dd3) e1]
  .by_cases R:j=i
   .subst R;rw[hi]at e1;cases e1;rw[As hiσ]at Y2;cases Y2;show#[u,r,ë #[L,Ê]]
   .rw[iO R]at Y2;let(u',r',q):=hl j y v' e1 Y2 e3;apply#[u',r',?_];obtain⟨k,e⟩|⟨k,c,e,z⟩:=q
    .apply ë^bI0 k;have:y≠x:=λ e=>R<|Qb9 hN e1<|e▸hi;simp[this,e]
    .show ċ #[k,c,e,z.sameBut C (cne y c e)]
  .let(w',z):=cX8 y e;show#[w',z.sameBut C (cne y c e)]
  .let(e,n,ne,nf,d):=bk0 J;show#[à (C.2 ix ne) e,n,ne,nf,d]
 .let P:Lq x:=by
   obtain z|z:=hf
   .show z
   .rw[z]at L;cases L
  let(c,F):=I.ok.has x (ë L);let(w',z):=cX8 x F;apply wpAny_storeName_cell I.ok.kind L F z^ľ h' U C;let(oc,ae,ar):=id z;apply h bg5 #[I.ok,I.os,I.bare,#[ba2 b o e n O hx,ba2 b o e n O hx,I.O8.free,mo b o e hx,I.O8.tups,I.O8.frzs,I.O8.tbls],#[m,hn.sameBut C (Ņ^cne x c F),ba2 j y v' e1 Y2 e3],ľ y c' e,I.free,I.freeC,Ż p J,tracked #[oc,ae,I.freeC x c F] C,Ë I.len] #[c,C,ċ F]
  .show à (C.2 b^Be^Ay xt^I.ok.cab x c P F) (df7 o e n O hx)
  .let(sl,e1):=cJ2 b e n O hx;show#[sl,à (C.2 b^Be^Ay xt^I.ok.cab x c P F) e1]
  .let(o',e1):=aw0 o e hx;show#[o',à (C.2 b^Be^Ay xt^I.ok.cab x c P F) e1]
  .by_cases R:j=i
   .subst R;rw[hi]at e1;cases e1;rw[As hiσ]at Y2;cases Y2;show#[u,r,ċ #[ë L,c,F,U]]
   .rw[iO R]at Y2;let(u',r',q):=hl j y v' e1 Y2 e3;apply#[u',r',?_];obtain q|⟨k,c',e,z'⟩:=q
    .show ë q
    .apply ċ #[k,c',e,z'.sameBut C ?_];rintro Y;show R (Qb9 hN e1<|I.ok.inj _ _ _ e F▸hi)
  .by_cases a9:c'=c
   .subst a9;show#[_,U]
   .let(w2,z2):=I.cell y c' e;show#[w2,z2.sameBut C a9]
  .let(e,n,ne,nf,d):=bk0 J;apply#[à (C.2 ix ?_) e,n,ne,nf,d];intro q;rw[q,ae]at e;let q':oc=p.2:=Aj e;show d w' (ì q' ar)
def uy{M:Model}{A:Around}{E:Ee}{i:V}{x:Str}{Q:Unit->ϟ}(I:Ϣ)(a:X.N.Nodup)(hi:ai9>x)(hx:l9 x)(r:dp5)
  (h:∀s',Inv X O9 (ag9 i v) H s'->Q () s') (hf:Lq x∨Ŭ x>py:=by first|show ϊ|show cG1|assumption):dg0 A (dg1 x u) Q E s :=
 kN I a hi hx r (λ s' I' _=>h s' I') hf
def Inv.call'{s':Shared}(I:Ϣ)(i:s'.os=s.os)(u:Un dz ch H H' s.heap s'.heap)(hok:ds8 H' s'.heap)(a:aa0)
  (hch:∀b∈ch,(b∈X.ex∨ey b)/\fg b/\(∀x c,Ŏ x>c->c≠b)/\∀p∈X.pn++O9,ix≠b):do6 s':=by
 let(h',g',d',t',o'):=s';let e:o'=s.os:=i;subst e;show I.call (g':=g') (t':=t') (d':=d') u hok a hch
#where
abbrev XK:=PC<|Nw->dC
abbrev St:=Â al8
abbrev VK:=Y1->dC
abbrev TE:=St->Hp->B6
abbrev TT:=St->Hp->ι cH4
abbrev TA:=St->Hp->ι (ś->dC)
structure GI where
 nx:St->dC
 rt:VK
 bk:St->dC:=Da
 ct:St->dC:=Da
abbrev TS:=GI->St->dC
def EP(X:Cx)(a:Ef)(σ:St)(Q:VK)(u:Value)(s':Shared):ä:=∃v H',cF6 a H' s'/\dp5/\Q v H'
def TP(X:Cx)(c:Ef)(σ:St)(Q:cH4)(b:Bool)(s':Shared):ä:=∃a,cF6 c a s'/\Q b a
def AP(X:Cx)(a:Ef)(σ:St)(Q:ś->dC)(us:Ď)(s':Shared):ä:=∃vs H',cF6 a H' s'/\fx vs/\Q vs H'
def SP(X:Cx)(a:Ef)(D:GI)(f:Flow)(s':Shared):ä :=
 match f with
 |.next=>∃σ' H',df6 X a H' s'/\D.nx σ' H'
 |.brk=>∃σ' H',df6 X a H' s'/\D.bk σ' H'
 |.cont=>∃σ' H',df6 X a H' s'/\D.ct σ' H'
 |.ret u=>∃v σ' H',df6 X a H' s'/\dp5/\D.rt v H'
def PE(X:Cx)(e:Expr)(t:TE):ä :=
 ∀(a:Ef)(s:Shared)(σ:St)(H:Hp)(Q:VK),cF9->t σ H Q->ce5 (æ e) X a σ Q s
def PT(X:Cx)(e:Expr)(t:TT):ä :=
 ∀(O9:Ef)(s:Shared)(σ:St)(H:Hp)(Q:cH4),Ϣ->t σ H Q->gL (ao2 e^æ e) (TP X O9 σ Q) s
def PW(X:Cx)(e:Expr)(t:TT):ä :=
 ∀(whole:LS)(O9:Ef)(s:Shared)(σ:St)(H:Hp)(Q:cH4),Ϣ->t σ H Q->gL (cz6 e) (TP X O9 σ Q) s
def PA(X:Cx)(es:Ϡ)(t:TA):ä :=
 ∀(pos:Pos)(O9:Ef)(s:Shared)(σ:St)(H:Hp)(Q:ś->dC),Ϣ->t σ H Q->gL (spliced aj2) (AP X O9 σ Q) s
def PS(X:Cx)(st:Stmt)(t:TS):ä :=
 ∀(a:Ef)(s:Shared)(σ:St)(H:Hp)(D:GI),cF9->t D σ H->gL (exec st X.env) (SP X a D) s
def PSs(X:Cx)(st:EM)(t:TS):ä :=
 ∀(a:Ef)(s:Shared)(σ:St)(H:Hp)(D:GI),cF9->t D σ H->gL (execs st X.env) (SP X a D) s
def thn{α:pZ}{t:Sem α}{Q Q':α->ϟ}(h:dg0 A t Q E s)(c:∀a s,Q a s->Q' a s):dg0 A t Q' E s:=Ϥ h c x x
def JI{α β γ:pZ}{t:Sem α}{Q':α->ϟ}{c R2 R3:α->Shared->β->ι γ}(h:dg0 A t (λ a s=>∃x y,c a s x y/\R2 a s x y/\R3 a s x y) E s)(k:∀a s x y,c a s x y->R2 a s x y->R3 a s x y->Q' a s):dg0 A t Q' E s:=thn h λ a s z=>by let(x,y,p,q,r):=z;show k a s x y p q r
variable{X:Cx}
def QtE(i:V):TE:=λ σ H Q=>∃v,bo5>bi1/\Q v H
def tC(v:Y1):TE:=λ_ H Q=>Q v H
def MD{i:V}{x:Str}{pos:Pos}(E:ai9>x)(hv:ao1 x)(hd:cT6:=by decide)(y:af7 x bI1:=by decide):a7 ae0^QtE i:=by
 intro C s σ H Q I h;let(v,e,h):=h;let(m,hn,hl):=I.loc;let(u,r,l):=hl i x v E e hv;let j:EP X C σ Q u s:=#[v,H,I,r,h];obtain⟨o,F⟩|⟨o,c,z,a⟩:=l
 .show wpAny_Name (wpAny_loadName_local I.ok.kind o hn F j) hd
 .obtain o|o:=o
  .show wpAny_Name (wpAny_loadName_cell I.ok.kind o z a j) hd
  .show wpAny_Name (wpAny_loadName_free I.ok.kind o z a j y) hd
def Qqi{i j pos}:dp6 (τ bs5 j pos) bs5:=cj0 I h^wpAny_Constant_int #[ft,H,ω,IK,h]
def Wl{b j pos}:dp6 (τ (xk b) j pos) FH:=cj0 I h^Constant_bool #[FH,H,I,Y,h]
def Qqj{j pos}:dp6 (τ fE j pos) Ě:=cj0 I h^Constant_none #[Ě,H,I,Y,h]
def MG{x j pos}:dp6 (τ Ϭ j pos) Ϭ:=cj0 I h^bI2 #[Ϭ,H,ω,IK,h]
def Gl(X:Cx)(x:Str):ä:=To x>.globalImplicit
def xf{E:Ee}{x:Str}{pos:Pos}{Q:Ee}(I:Ϣ)(a:dr1)(c:X.mg x>u)(h:Q u s)
  (hd:cT6:=by decide):dm (æ ae0) Q E s :=
 cD9 a (Calls.loadGlobal_global (Æ I.ok.glob ar0) c h) hd
def ja{E:Ee}{x:Str}{pos:Pos}{Q:Ee}(I:Ϣ)(a:dr1)(c:cj x)(hv:AI>u)(h:Q u s)
  (hn:tI x := by decide) (hd:cT6:=by decide):dm (æ ae0) Q E s:=by
 let(e,h1,h2):=I.mod.blt;show cD9 a (Calls.loadGlobal_builtin (Æ I.ok.glob ar0) c (Æ I.ok.blt^h1.keeps I.bk) (à (h2 x hn) hv) h) hd
def BV{x:Str}{pos:Pos}(a:dr1)(c:X.mg x>u)(r:dp5)(hd:cT6:=by decide):dp6 ae0 v :=
 cj0 I h^xf I a c #[v,H,I,r,h] hd
def Rx{x:Str}{pos:Pos}(a:dr1)(c:cj x)(hv:AI>u)(r:dp5)(hn:tI x := by decide)(hd:cT6:=by decide):dp6 ae0 v :=
 cj0 I h^ja I a c hv #[v,H,I,r,h] hn hd
variable(_){a b:Expr}{ta tb:TE}{pos:Pos}
def tB(t:TE):TT:=λ σ H Q=>t σ H λ x H1=>∃c,x=ŏ c/\Q c H1
def QqA{e:Expr}(h:a7 e t)(o:∀whole,cz6 e=bw9 v whole e.pos^aX2 [v] v:=by intro _;rfl):PT X e^tB t:=by intro j s σ H Q I hw;apply isTrue_plain (cJ6 (h j s σ H _ I hw) v u x c i r)^o _;let(d,Y,q):=q1;cases r;show wb #[c,i,q]
variable(_){tA tB':TT}{rest:Ϡ}
def Qtt(t u:TT):TT:=λ σ H Q=>t σ H λ c H1=>Ř c (u σ H1 Q)^Q false H1
def tOr(t u:TT):TT:=λ σ H Q=>t σ H λ c H1=>Ř c (Q true H1)^u σ H1 Q
def Qty(t:TT):TT:=λ σ H Q=>t σ H λ c H1=>Q (hV c) H1
def Qnm(ha:PT X a tA):PW X (aW3 [a]) tA:=by
 intro j O9 s σ H Q I h;apply isTrue_and^jc (ha O9 s σ H Q I h) c i e;cases c with
 |true=>show isTrue_and_nil e
 |false=>show e
def QqD(ha:PT X a tA):PW X (cm7 [a]) tA:=by
 intro j O9 s σ H Q I h;apply isTrue_or^jc (ha O9 s σ H Q I h) c i e;cases c with
 |false=>show isTrue_or_nil e
 |true=>show e
def QqC(ha:PT X a tA)(o:PW X cA5 tB'):PW X (aW3<|a::aK6)^Qtt tA tB':=by
 intro u O9 s σ H Q I h;apply isTrue_and^jc (ha O9 s σ H _ I h) c r j;let(e,i,q1):=j;cases c with
 |true=>show o u O9 r σ e Q i q1
 |false=>show#[e,i,q1]
def Qsi(ha:PT X a tA)(o:PW X cC3 tB'):PW X (cm7<|a::aK6)^tOr tA tB':=by
 intro u O9 s σ H Q I h;apply isTrue_or^jc (ha O9 s σ H _ I h) c r j;let(e,i,q1):=j;cases c with
 |true=>show#[e,i,q1]
 |false=>show o u O9 r σ e Q i q1
def Qqz(ha:PT X a tA):PT X (.UnaryOp .Not a pos)^Qty tA:=aG2 e s H Q I h^isTrue_not^ha e s σ H (λ c H1=>Q (hV c) H1) I h
def Qsy(ta tb:TE):TE:=λ σ H Q=>ta σ H λ x H1=>∃c,x=ŏ c/\Ř c (tb σ H1 Q)^Q ő H1
def Qtz(ta tb:TE):TE:=λ σ H Q=>ta σ H λ x H1=>∃c,x=ŏ c/\Ř c (Q Ő H1)^tb σ H1 Q
def QsE(ta:TE):TE:=λ σ H Q=>ta σ H λ x H1=>∃c,x=ŏ c/\Q (be9 c) H1
def Qql{op}(h:a7 a t):a7 (N0 op [a]) t:=λ c s σ H Q I e=>BoolOp_one^h c s σ H Q I e
def Qqf(ha:ch7)(o:a7 cA5 tb):a7 (aW3<|a::aK6)^Qsy ta tb:=by
 intro j s σ H Q I h;apply BoolOp_and^cJ6 (ha j s σ H _ I h) v u x e i r;let(c,Y,q1):=q1;cases r;apply wb ?_;cases c with
 |true=>show o j u σ e Q i q1
 |false=>show#[ő,e,i,Y,q1]
def x_(ha:ch7)(o:a7 cC3 tb):a7 (cm7<|a::aK6)^Qtz ta tb:=by
 intro j s σ H Q I h;apply BoolOp_or^cJ6 (ha j s σ H _ I h) v u x e i r;let(c,Y,q1):=q1;cases r;apply wb ?_;cases c with
 |false=>show o j u σ e Q i q1
 |true=>show#[Ő,e,i,Y,q1]
def Qqk(ha:ch7):a7 (.UnaryOp .Not a pos)^QsE ta:=by intro j s σ H Q I h;apply UnaryOp_^cJ6 (ha j s σ H _ I h) v r x e i o;let(c,Y,q1):=q1;cases o;show not_of (wb #[be9 c,e,i,Y,q1])
def tIf(t:TT)(ta tb:TE):TE:=λ σ H Q=>t σ H λ c H1=>Ř c (ta σ H1 Q)^tb σ H1 Q
def QjR(v:PT X c tA)(ha:ch7)(u:a7 b tb):a7 (.IfExp c a b pos)^tIf tA ta tb:=by
 intro e s σ H Q I h;apply wpAny_IfExp^jc (v e s σ H _ I h) d o r;let(i,j,q1):=r;cases d with
 |true=>show ha e o σ i Q j q1
 |false=>show u e o σ i Q j q1
#where
def SqL(K:Aa)(H:Hp)(a:Addr)(xs:ś):ä :=
 Rd H a bN5 ∨
  ∃(o:Obj) (c:ļ) (n:V),Ψ a>o/\o.cls=aI1 /\ cQ5/\o.data=.seq c n/\cQ2/\bu8
def SqT(K:Aa)(H:Hp)(a:Addr)(xs:ś):ä :=
 Rd H a OL ∨
  ∃(o:Obj) (c:ļ) (n:V),Ψ a>o/\o.cls=aC0 /\ o.data=.seq c n/\cQ2/\bu8
def QsV:PC al8
 |.none=>í Ě
 |.bool b=>í FH
 |.int i _=>í bs5
 |.str x _=>í Ϭ
 |.bytes b _=>í^.byt b
 |.float b _=>í^.flt b
 |.ref a=>ay2
 |.type n=>í^.ty n
 |_=>none
def RelV.abs(r:ϳ x):QsV u>x:=by
 cases x with
 |non=>cases r;rfl
 |bl _=>cases r;rfl
 |int _=>let(t,Y):=r;rfl
 |str _=>let(t,Y):=r;rfl
 |byt _=>let(t,Y):=r;rfl
 |flt _=>let(t,Y):=r;rfl
 |ref _=>cases r;rfl
 |ty _=>cases r;rfl
def RelV.inj{x y:Y1}(r:ϳ x)(q:db4):x=y:=Aj^r.abs.symm.trans q.abs
def Vals.inj:∀{xs a:ś}{us:Ď},bf5->fx a->xs=a:=by
 intro xs a us h;induction h generalizing a with
 |nil=>intro k;cases k;rfl
 |cons r t c=>intro k;cases k with|cons e t'=>rw[r.inj e,c t']
variable{X:Cx}{O9:Ef}{σ:St}{H:Hp}{s:Shared}{a:Addr}{xs ys:ś}
def SqL.of{K:Aa}(h:ez PK xs):cA4:=ë FE
def SqT.of{K:Aa}(h:PK>OL):cx2:=ë FE
def Inv.list(I:Ϣ)(h:ay8 X.K a):∃c:Ď,aF7 c/\PlainL s.heap a c.toArray/\dn8:=by
 obtain h|⟨o,c,n,j,i,hd,u,hz,r⟩:=h
 .let(z,c,n,r,e):=h.ok I.hok;show#[c,r,#[_,n,e,Y,Y,Y],z]
 .apply#[c.toList,r,#[o,n,I.kIn a o j,i,hd,Ë u],?_];let e:=mz;simp only[Cg]at e;lia
def Inv.tuple(I:Ϣ)(h:du5 a):∃c:Ď,aF7 c/\bj3 a c.toArray/\dn8:=by
 obtain h|⟨o,c,n,j,i,u,hz,r⟩:=h
 .let(z,c,r,p):=h.ok I.hok;show#[c,r,p,z]
 .apply#[c.toList,r,#[o,I.kIn a o j,i,n,Ë u],?_];let e:=mz;simp only[Cg]at e;lia
def Inv.list_inj(I:Ϣ)(h:ay8 X.K a)(h':tJ X.K a ys):xs=ys:=by
 let(c,r,(o,n,e,_,_,d),_):=wq h;let(its',j,(o',u,i,_,_,d'),_):=wq h';rw[e]at i;cases i;rw[d]at d';injection d' with d1 _;have:c=its':=Ë^x3 Array.toList d1
 subst this;show r.inj j
def Inv.tuple_inj(I:Ϣ)(h:du5 a)(h':bI4 H a ys):xs=ys:=by
 let(c,r,(o,e,_,n,d),_):=iP h;let(its',j,(o',i,_,u,d'),_):=iP h';rw[e]at i;cases i;rw[d]at d';injection d' with d1 _;have:c=its':=Ë^x3 Array.toList d1
 subst this;show r.inj j
#where
abbrev Cx.wish(X:Cx)(E:Ee):Cx:=ø X xe E
abbrev Cx.nox(X:Cx):Cx:=X.wish Da
def Cx.Ok.wish{X:Cx}(ok:X.Ok)(E:Ee):(ba4).Ok :=
 #[ok.mod,ok.kind,ok.glob,ok.blt,ok.above,ok.inj,ok.has,ok.cab,ok.hd,ok.frames,ok.stk,ok.exf,ok.bs,ok.bsz,ok.noex,ok.exfs,ok.funs,ok.frf]
def Cx.Ok.unwish{X:Cx}(ok:(ba4).Ok):X.Ok :=
 #[ok.mod,ok.kind,ok.glob,ok.blt,ok.above,ok.inj,ok.has,ok.cab,ok.hd,ok.frames,ok.stk,ok.exf,ok.bs,ok.bsz,ok.noex,ok.exfs,ok.funs,ok.frf]
variable{X:Cx}{O9:Ef}{σ:St}{H:Hp}{s:Shared}{E:Ee}
def Inv.wish(I:Ϣ)(E:Ee):ė ba4 H s:=#[I.ok.wish E,I.os,I.bare,I.O8,I.loc,I.cell,I.free,I.freeC,I.pin,I.hok,I.len]
def Inv.unwish(I:ė ba4 H s):Ϣ:=#[I.ok.unwish,I.os,I.bare,I.O8,I.loc,I.cell,I.free,I.freeC,I.pin,I.hok,I.len]
def SP.unwish{D:GI}{f:Flow}(h:SP ba4 O9 D f s'):SP X O9 D f s':=by
 cases f with
 |next=>let(σ',a,I,q):=h;show#[σ',a,I.unwish,q]
 |brk=>let(σ',a,I,q):=h;show#[σ',a,I.unwish,q]
 |cont=>let(σ',a,I,q):=h;show#[σ',a,I.unwish,q]
 |ret u=>let(v,σ',a,I,r,q):=h;show#[v,σ',a,I.unwish,r,q]
def PSs.nox{st:EM}(h:PSs X.nox st t):dg4 st t:=λ O9 s σ H D I a =>
 Ϥ (h O9 s σ H D dg5 a) (bF4 q.unwish) z^CC z
variable{X:Cx}{st:Stmt}{rest:EM}{t u:TS}{e:Expr}{te:TE}{pos:Pos}
def QsC:TS:=λ D σ H=>dg3 H
def TV(t u:TS):TS:=λ D σ H=>t (ø D nx^u D) σ H
def pss_nil:dg4 [] QsC:=λ_ _ σ H _ I h=>aa7 #[σ,H,I,h]
def v0(h1:PS X st t)(h2:dg4 rest u):dg4 dd4^TV t u:=by
 intro a s σ H D I h;apply aO9^jc (h1 a s σ H (ø D nx^u D) I h) f j q;cases f with
 |next=>let(σ',c,i,q):=q;show h2 a j σ' c D i q
 |ret v=>show q
 |brk=>show q
 |cont=>show q
def BI(h1:PS X st t):dg4 [st] t:=by
 intro a s σ H D I h;apply aO9^jc (h1 a s σ H D I h) f c q;cases f with
 |next=>show aa7 q
 |ret v=>show q
 |brk=>show q
 |cont=>show q
def Inv.quiet(I:Ϣ):ÿ^interactive X.env:=my interactive I.ok.kind
def Nu(te:TE):TS:=λ D σ H=>te σ H λ_ H1=>dg3 H1
def BM(j:a7 e te)(o:aD0 e none=EN:=by rfl):PS X (.Expr e pos)^Nu te:=aG2 i s H D I h^bk2 (cJ5 (j i s σ H _ I h) v y x a c r #[σ,a,c,q1]) o
def QtC(te:TE):TS:=λ D σ H=>te σ H D.rt
def MT(j:a7 e te):PS X (.Return bB4 pos)^QtC te:=aG2 i s H D I h^wpAny_Return_some^cJ5 (j i s σ H _ I h) v r x a c o #[x,σ,a,c,o,q1]
def Qtw(c:TT)(t u:TS):TS:=λ D σ H=>c σ H λ b H1=>Ř b (t D σ H1)^u D σ H1
def Y_{a b:EM}{v:TT}(z:PT X c v)(ha:dg4 a t)(y:dg4 b u):PS X (.If c a b pos)^Qtw v t u:=by
 intro i s σ H D I h;apply wpAny_If^jc (z i s σ H _ I h) d r x;let(j,o,q1):=x;cases d with
 |true=>show ha i r σ j D o q1
 |false=>show y i r σ j D o q1
def Qq2:TS:=wt
def Qj4:PS X st Qq2:=cY1 h h.elim
#where
abbrev TG:=Y1->St->Hp->ι (St->dC)
def PG(X:Cx)(target:Expr)(t:TG):ä :=
 ∀(O9 : Nl)(s : Shared)(σ : St)(H : Hp)(v : Y1)(u : Value)(Q : St -> dC), Ϣ -> dp5 -> t v σ H Q ->
  gL (cY2 target u) (λ_ s'=>∃σ' H',df6 X O9 H' s'/\Q σ' H') s
abbrev Ft:=Y1->Y1->Y1->Hp->ι dC
def Fv(X:Cx)(t:Ft):ä :=
 ∀(O9 : Nl)(s : Shared)(σ : St)(H : Hp)(o i v : Y1)(ov iv u : Value)(Q : dC), Ϣ -> RelV o ov -> RelV i iv -> dp5 -> t o i v H Q ->
  gL (setItem ov iv u) (λ_ s'=>∃a,ŗ a s'/\Q a) s
abbrev TIp:=Y1->Y1->Hp->B6
def PIp(X:Cx)(c:Operator)(t:TIp):ä :=
 ∀(a : Nl)(s : Shared)(σ : St)(H : Hp)(x y : Y1)(v u : Value)(Q : VK), cF9 -> ch0 -> db4 -> t x y H Q ->
  ce5 (inplaceOp c v u) X a σ Q s
variable{X:Cx}{pos:Pos}
def ki(i:V):TG:=λ v σ H Q=>Q (ag9 i v) H
def BU{i:V}{x:Str}(c:X.N.Nodup)(hi:ai9>x)(hx:l9 x)(hf:Lq x∨Ŭ x>py:=by first|show ϊ|show cG1|assumption):PG X ae0^ki i:=by intro e s σ H v u Q I r h;show wpAny_assign_Name (uy I c hi hx r (λ s' a=>#[_,H,a,h]) hf)
def Qs1(to c:TE)(t:Ft):TG:=λ v σ H Q=>to σ H λ o H1=>c σ H1 λ i H2=>t o i v H2 λ a=>Q σ a
def Qqq{t:Ft}(E:a7 o to)(hi:a7 i ti)(F:Fv X t)
  (ha:∀v,cY2 (cx7 o i) v=(do
   let a <- holding [v] bo1
   let c <- holding [v,a] (æ i)
   standAt pos
   holding [v,a,c] (setItem a c v)
   release [v,a,c] []):=by intro _;rfl):PG X (cx7 o i)^Qs1 to ti t:=by
 intro e s σ H v u Q I r h;rw[ha];apply C6^iE^dv1 (E e s σ H _ I h) a P x H1 L;apply C6^iE^cJ4 (hi e P σ H1 _ I1 q1) c R y H2 I2 O G ?_;apply bI6^C6^iE^thn (F e R σ H2 x y v a c u _ I2 L O r G) λ_ U C=>?_;let(j,z,Y2):=C;show wpAny_release #[σ,j,z,Y2]
def Et(te:TE)(g:TG):TS:=λ D σ H=>te σ H λ x H1=>g x σ H1 D.nx
def Qqv(c:a7 e te)(i:PG X tg g)(j:swapsWithSole [tg] e pos.line X.env=EN:=by rfl)(o:swappedStores [tg] e X.env=aU7:=by rfl)
  (h1:bP8^assignEach [tg] X.env=[bU2 tg]:=by rfl):PS X (dt0 [tg] e)^Et te g:=by
 intro a s σ H D I h;apply wpAny_Assign_stores (dv1 (c a s σ H _ I h) v u x H1 r) j o;rw[h1];show thn (i a u σ H1 x v _ I1 r q1) λ_ y q=>q
def Ow{i:V}{x:Str}(o:X.N.Nodup)(hi:ai9>x)(hx:l9 x)(r:a7 e te)(u:aD0 e^í^Lu pos'=EN:=by rfl)(hf:Lq x∨Ŭ x>py:=by first|show ϊ|show cG1|assumption):
  PS X (dt0 [Lu pos'] e)^Et te^ki i:=by
 intro j s σ H D I h;apply wpAny_Assign_Name (dv1 (r j s σ H _ I h) v C y a z) u;show uy I1 o hi hx z (λ E c=>#[_,a,c,q1]) hf
def Tz(i:V)(te:TE)(a:TIp):TS:=λ D σ H=>∃x,bo5>(í x)/\te σ H λ y H1=>a x y H1 λ z H2=>D.nx (ag9 i z) H2
def Qqw{i:V}{x:Str}{E:Operator}{F:TIp}{o:Pos}(L:X.N.Nodup)(hi:ai9>x)(hx:l9 x)(P:a7 e te)(R:PIp X E F)(hf:Lq x∨Ŭ x>py:=by first|show ϊ|show cG1|assumption):
  PS X (.AugAssign (Lu o) E e pos)^Tz i te F:=by
 intro C s σ H D I h;let(v,e1,h):=h;let(m,hn,hl):=I.loc;let vis:ao1 x:=by obtain k|k:=hx;show q7;show ċ q7
 let(u,r,l):=hl i x v hi e1 vis;apply wpAny_AugAssign_Name ?_;let go:gL (æ e) (λ w s₂=>gL (inplaceOp E u w) (λ r s₃=>gL (dg1 x r) (λ_=>SP X C D .next) s₃) s₂) s:=by apply dv1 (P C s σ H _ I h) w s1 y H1 r1;apply cJ4 (R C s1 σ H1 v y u w _ I1 r r1 q1) z s2 zv G I2 r2 U ?_;show uy I2 L hi hx r2 (λ s3 Y2=>#[_,G,Y2,U]) hf
 obtain⟨a,Q⟩|⟨a,c,O,j⟩:=l
 .show wpAny_loadName_local I.ok.kind a hn Q go
 .obtain a|a:=a
  .show wpAny_loadName_cell I.ok.kind a O j go
  .obtain k|k:=hx
   .have:Ŭ x>bj9:=a;rw[k]at this;cases this
   .have:Ŭ x>bj9:=a;rw[k]at this;cases this
def ipI(f:Int->Int->Int):TIp:=λ x y H Q=>∃i j,x=ft/\y=bN3/\Q ↥(f i j) H
def Qpz:PIp X .Add^ipI λ i j=>i+j:=by intro c s σ H x y v u Q I r1 r2 h;let(i,j,e1,a,q):=h;subst e1;subst a;let(t,Y):=r1;let(t',Y):=r2;show iadd_int #[Í _,H,ω,IK,q]
variable{X:Cx}{pos:Pos}
def Qq3(c:TT)(tb:TS):TS:=λ D σ H=>∃W:V->St->dC,(∃m,W m σ H)/\∀m σ H,W m σ H ->
 c σ H λ b H1=>Ř b (∃N:St->dC,(∀σ' H',N σ' H'->∃a,a<m/\W a σ' H')/\tb { D with nx:=N,ct:=N,bk:=D.nx } σ H1)^dg3 H1
def Qj7{a:EM}{Y2:TT}(J:bI8 at9 X.A X.xe)(P:PT X c Y2)(O:dg4 a tb):PS X (.While c a [] pos)^Qq3 Y2 tb:=by
 intro u s σ H D I h;let(W,(Q,w0),i):=h;apply wpAny_While^codeAny_whileLoop (λ n s'=>∃σ' H',df6 X u H' s'/\W n σ' H') ?_ Q #[σ,H,I,w0];rintro n R ⟨σ1,H1,I1,w1⟩;apply FR^jc (P u R σ1 H1 _ I1^i n σ1 H1 w1) b U L;let(E,F,j):=L;cases b with
 |true =>
  let(N,G,j):=j;rw[pv];apply FR^jc (O u U σ1 E _ F j) f s3 o;cases f with
  |next=>let(σ3,e,r,z):=o;let(y,x,C):=G σ3 e z;show#[y,x,σ3,e,r,C]
  |cont=>let(σ3,e,r,z):=o;let(y,x,C):=G σ3 e z;show#[y,x,σ3,e,r,C]
  |brk=>show o
  |ret v=>show o
 |false=>rw[C7 By];show aa7 #[σ1,E,F,j]
#where
structure It where
 go:V->dC
 yld:V->Hp->Y1->dC
 stop:V->dC
def Vx(X:Cx)(a:Ef)(H:Hp)(b:Addr):ä :=
 bV6/\fg b/\co5 b/\(b∈X.ex∨ey b)/\(∀x c,Ŏ x>c->c≠b)/\∀p∈X.pn++a,ix≠b
def Inv.fpOk{H H':Hp}{s:Shared}{b:Addr}(I:Ϣ)(a:az9 b)(hn:ų co4):Vx X O9 H' b:=by
 apply#[hn,C0 (Ay I.lt a),I.nofs a,ċ (Bi I.sz a),mo x c e z,ľ p J z]
 .let(v,q):=cX8 x e;show cB1 q.lt (Æ z a)
 .show cB1 (Ao (bk0 J).1) (Æ z a)
structure sI(P:Program)(w:World)(K:Aa)(tg:Expr)(Y2:It)(fp:Ek)(it:Addr)(tn:V->bP0):ä where
 mem:it∈fp
 obj:∀i h,tn i h->∀b∈fp,∃o,bV7>o/\∀v,o.data≠.cell v
 keep:∀i h h',tn i h->IQ b fp (∀o,bV7>o->aY0>o)->tn i h'
 item:∀(X:Cx),X.prog=P->X.w=w->X.K=K->dc->∀(i:V)(O9:Ef)(s:Shared)(σ:St)(H:Hp)(E:Ee),Ϣ->IQ b fp^Vx X O9 H b->tn i s.heap->Y2.go i H ->
  wpAny (model P w) X.A (bx2 it) (λ r s1=>∃u,r>u /\
   Ú P w X.A (bI9 tg ↑it u) (λ_ s2=>∃x H',do6 s2/\ϳ x/\Y2.yld i H x H'/\tn (i+1) s2.heap/\∀b∈fp,ų co4) E s1) E s
 done:∀(X:Cx),X.prog=P->X.w=w->X.K=K->dc->∀(i:V)(O9:Ef)(s:Shared)(σ:St)(H:Hp)(E:Ee),Ϣ->IQ b fp^Vx X O9 H b->tn i s.heap->Y2.stop i H ->
  Ú P w X.A (bx2 it) (λ r s1=>ų r/\Ε s1) E s
 self:∀(A:Around)(i:V)(s:Shared)(Q:Ee)(E:Ee),tn i s.heap->cD8 it s->Ú P w A (pyIter ↑it) Q E s
abbrev TI:=St->Hp->ι (It->dC)
def PIE(X:Cx)(c:Ef)(σ:St)(tg:Expr)(R:It->dC)(a:Value)(e:Shared):ä :=
 ∃(it:Addr)(fp:Ek)(tn:V->bP0)(Y2:It)(H':Hp),a=ã it/\cF6 c H' e/\sI X.prog X.w X.K tg Y2 fp it tn/\tn 0 e.heap/\IQ b fp^Vx X c H' b/\R Y2 H'
def PI(X:Cx)(tg a:Expr)(e:TI):ä :=
 ∀(O9 : Nl)(s : Shared)(σ : St)(H : Hp)(R : It -> dC), Ϣ -> e σ H R ->
  gL (æ a) (λ v c=>gL (pyIter v) (PIE X O9 σ tg R) c) s
def Df{M:Model}{A:Around}{E:Ee}{s:Shared}{tg:Expr}{a:Addr}{u:Value}{o:Obj}{n:String}{vs:ļ}{Q:Unit->ϟ}(e:Č a>o)(c:o.cls=ĥ n)(hd:o.data=pK vs)
    (hn:ÿ^["enumerate", wS, dg9, bU3, "odict_iterator", cp3, cY3].contains n) (hQ:Q () s):dg0 A (bI9 tg Ű u) Q E s:=by
  ext letOwnedTupleGo;cases tg<;>first
    |show C9 hQ
    | (cases u<;>first
        |show C9 hQ
        | (apply dg6 e ?_
           rw[c,hd];exact dg0 A (Ř (["enumerate", wS, dg9, bU3, "odict_iterator", cp3, cY3].contains n&&vs[0]?==í (rawInt _)) _ _) Q E s;rw[C7 (by intro h;rw[hn,Bool.false_and]at h;cases h)];show C9 hQ))
def Itl(K:Aa)(a:Addr):It :=
 #[λ i H=>∃xs x,cA4/\bC3>x,λ i H x H'=>H'=H/\∀xs,cA4->bC3>x,λ i H=>∃xs,cA4/\ŧ<=i]
def Itt(K:Aa)(a:Addr):It :=
 #[λ i H=>∃xs x,cx2/\bC3>x,λ i H x H'=>H'=H/\∀xs,cx2->bC3>x,λ i H=>∃xs,cx2/\ŧ<=i]
def Itr(a:Int)(n:V):It:=#[λ i _=>i<n,λ i H x H'=>H'=H/\x=Í (a+i),λ i _=>n<=i]
def QhF{w:World}{K:Aa}(a r:Addr):sI P w K tg (Itl K a) [r] r^λ i h=>h.IsListIter r a i where
 mem:=Ê
 obj:=λ i h st b j=>by
  let e:b=r:=da2
  subst e;let(o,e,c,d):=st;show#[o,e,λ v z=>į d z z]
 keep:=λ i h h' st k=>st.at λ o e=>k r Ê o e
 item:=by intro X Q R O hc i O9 s σ H E I hf st hg;subst Q R O;let(xs,x,hq,hx):=hg;let(U,rv,p,hz):=cf2;let(u,hu,ru):=rv.get hx;let(C,F,f2,G,Y2,L):=hf r Ê;apply wpAny_pyNext_list_item st p.isList (x:=u) (Ë hu)^ľ h' y sb;let I1:Ε bg5:=am5 t' (λ b o j e=>à (sb.2 b j) e) C F G Y2 L;let(o,e,c,d):=id y;show#[u,Y,Df (s:=bg5) e c d Á #[x,H,I1,ru,#[Y,λ ys hy=>Æ (I.list_inj hy hq) hx],y,λ b j=>(hf b j).1]]
 done:=by intro X Q R O hc i O9 s σ H E I hf st hg;subst Q R O;let(xs,hq,hx):=hg;let(U,rv,p,hz):=cf2;let(C,F,f2,G,Y2,L):=hf r Ê;let hl:=rv.length;show wpAny_pyNext_list_end (OO hc) st p.isList Β λ h' eb=>#[Y,am5 t' (λ b o j e=>eb b o j e) C F G Y2 L]
 self:=bx3 st^wpAny_pyIter_listiter st h
def Qd7{w:World}{K:Aa}(a r:Addr):sI P w K tg (Itt K a) [r] r^λ i h=>h.IsTupleIter r a i where
 mem:=Ê
 obj:=λ i h st b j=>by
  let e:b=r:=da2
  subst e;let(o,e,c,d):=st;show#[o,e,λ v z=>į d z z]
 keep:=λ i h h' st k=>st.at λ o e=>k r Ê o e
 item:=by intro X R U Q hc i O9 s σ H E I hf st hg;subst R U Q;let(xs,x,hq,hx):=hg;let(y,rv,p,hz):=iP hq;let(u,hu,ru):=rv.get hx;let(F,G,f2,Y2,L,O):=hf r Ê;apply wpAny_pyNext_tuple_item st (dn3 a y.toArray p) (x:=u) (Ë hu)^ľ h' C sb;let I1:Ε bg5:=am5 t' (λ b o j e=>à (sb.2 b j) e) F G Y2 L O;let(o,e,c,d):=id C;show#[u,Y,Df (s:=bg5) e c d Á #[x,H,I1,ru,#[Y,λ ys hy=>Æ (I.tuple_inj hy hq) hx],C,λ b j=>(hf b j).1]]
 done:=by intro X R U Q hc i O9 s σ H E I hf st hg;subst R U Q;let(xs,hq,hx):=hg;let(y,rv,p,hz):=iP hq;let(F,G,f2,Y2,L,O):=hf r Ê;let hl:=rv.length;show wpAny_pyNext_tuple_end (OO hc) st (dn3 a y.toArray p) Β λ h' eb=>#[Y,am5 t' (λ b o j e=>eb b o j e) F G Y2 L O]
 self:=bx3 st^wpAny_pyIter_tupleiter st h
def Qd6{w:World}{K:Aa}(a:Addr)(r:Int)(n:V):sI P w K tg (Itr r n) [a] a^λ i h=>IsRangeIter h a (r+(i:V) * 1) (iq-(i:V)) 1 where
 mem:=Ê
 obj:=λ i h st b c=>by
  let e:b=a:=Ë c
  subst e;show#[_,st,λ v z=>by let z':Data.fields _=Data.cell v:=z;cases z']
 keep:=λ i h h' st k=>k a Ê _ st
 item:=by intro X Y2 O G L i O9 s σ H E I hf st hg;subst Y2 O G;let(u,x,U,y,C,F):=hf a Ê;let W:=Walks.range (prog:=X.prog) (w:=X.w) (OO L) a r 1 n;apply W.item i s _ _ hg st^ba2 v h' tk hv j kk;let(t,Y):=hv;let Q:Ε aC8:=I.turned (λ b o c e=>kk b o (Ë c) e) u x y C F;apply#[_,Y,Df (s:=aC8) (n := "range_iterator") j Y Y Á #[Í (r+i),H,Q,bI0 t,rg,j,λ b c=>(hf b c).1]];rw[Int.mul_one]
 done:=by intro X Y2 O G L i O9 s σ H E I hf st hg;subst Y2 O G;let(u,x,U,y,C,F):=hf a Ê;show wpAny_pyNext_range_end (OO L) st (A3 (n<=i) hg) λ h' R=>#[Y,am5 t' (λ b o c e=>R b o c e) u x y C F]
 self:=bx3 st^cJ8 h
variable{X:Cx}{tg:Expr}
def QrP(K:Aa)(c:TE):TI:=λ σ H R=>c σ H λ x H1=>∃a,x=Χ/\(∃xs,SqL K H1 a xs)/\R (Itl K a) H1
def Qs5(K:Aa)(c:TE):TI:=λ σ H R=>c σ H λ x H1=>∃a,x=Χ/\(∃xs,n4 K H1 a)/\R (Itt K a) H1
def BS(hl:a7 l tl):PI X tg l^QrP X.K tl:=by
 intro j s σ H R I h;apply dv1 (hl j s σ H _ I h) v c x i y;let(a,e,(xs,hq),q):=q1;subst e;cases y;let(u,z,p,hz):=I1.list hq;apply ba5 p.isList;apply#[c.heap.objs.size,[c.heap.objs.size],_,_,i,Y,I1.kept (t':=c.toks) λ b o e=>ay7,QhF a _,#[_,cj2,Y,Y],Ż b r,q];let e:b=c.heap.objs.size:=Ë r
 subst e;show I1.fpOk Ĕ ab7
def Qqs(hl:a7 l tl):PI X tg l^Qs5 X.K tl:=by
 intro r s σ H R I h;apply dv1 (hl r s σ H _ I h) v c x j y;let(a,e,(xs,hq),q):=q1;subst e;cases y;let(i,z,p,hz):=I1.tuple hq;apply wpAny_pyIter_tuple (â (c.heap.IsTuple a i.toArray) p) ?_;apply#[c.heap.objs.size,[c.heap.objs.size],_,_,j,Y,I1.kept (t':=c.toks) λ b o e=>ay7,Qd7 a _,#[_,cj2,Y,Y],Ż b u,q];let e:b=c.heap.objs.size:=Ë u
 subst e;show I1.fpOk Ĕ ab7
def Qkg{R:It->dC}{E:Ee}{a hi:Int}{t u v:Tok}{tk:V}(I:Ϣ)(h1:-aC4<=a)(h2:a<aC4)(h3:-aC4<=hi)(h4:hi<aC4)
  (q:R (Itr a<|OA<|hi-a) H):dm (pyIter ŋ) (PIE X O9 σ tg R) E^cK s (bW6 ⟨bp1 a,dq4,lT 1 v⟩) tk:=by
 apply wpAny_pyIter_range bk3 (small_one h1 h2 h3 h4) ?_;let c:Ε^cK s (bW6 ⟨bp1 a,dq4,lT 1 v⟩) tk:=I.kept λ b o e=>ay7;apply#[cm4 ⟨bp1 a,dq4,lT 1 v⟩,[cm4 ⟨bp1 a,dq4,lT 1 v⟩],_,_,H,Y,
  c.kept (t':=tk) λ b o e=>ay7,Qd6 _ a (OA<|hi-a),?_,Ż b j,q]
 .let e1:a+Ñ (0:V) * 1=a:=Ê
  let i:Ñ (OA (hi-a):V)-Ñ (0:V)=Bl a hi 1:=aX3
  exact IsRangeIter _ _ (a+Ñ (0:V) * 1) (Ñ (OA (hi-a):V)-Ñ (0:V)) 1;rw[e1,i];show cj2
 .let e:b=cm4 ⟨bp1 a,dq4,lT 1 v⟩:=da2
  subst e;show c.fpOk Ĕ (c.hok.fresh Ĕ)
def QrQ(a:TA):TI:=λ σ H R=>a σ H λ vs H1=>∃j:Int,vs=[bN3] /\ -aC4<=j/\j<aC4/\R (Itr 0 j.toNat) H1
def Qg7{p pos:Pos}(i:L6 bp)(o:cj bp)(ha:PA X [a] ta)(u:Î [a]=[Ξ a]:=by rfl):PI X tg (bg8 bp [a])^QrQ ta:=by
 intro c s σ H R I h;apply Call_^ja I i o boot_range^dP (dv1 (ha pos c s σ H _ I h) us z vs H1 x) u Y;let(j,e,q1,v,q):=q1;subst e;cases x with
 |cons r y=>cases y;let(t,Y):=r;show call_range_1 (Qkg I1 À À q1 v^Ë q)
def Qtv(c:TI)(g:TG)(tb:TS):TS:=λ D σ H=>c σ H λ Y2 H1=>∃W:V->V->St->dC,(∃m,W 0 m σ H1)/\∀i m σ H,W i m σ H ->
 (Y2.stop i H/\dg3 H)∨(Y2.go i H/\∃N:St->dC,(∀σ' H',N σ' H'->∃a,a<m/\W (i+1) a σ' H')/\∀x H',Y2.yld i H x H'->g x σ H' λ σ2 H2=>tb { D with nx:=N,ct:=N,bk:=D.nx } σ2 H2)
def vZ(fp:Ek)(h:Heap):Nl:=fp.filterMap λ b=>LL bV7 o (b,o)
def xh{h:Heap}{b:Addr}(a:b∈fp)(e:bV7>o):(b,o)∈vZ fp h:=ac6 #[b,a,ö e]
def QgX{fp:Ek}{h:Heap}{p:Addr × Obj}(J:p∈vZ fp h):ix∈fp/\ϝ ix>p.2:=by
 let(b,c,e):=aR1 J;cases q:bV7 with
 |none=>rw[q]at e;cases e
 |some o=>rw[q]at e;let a:(b,o)=p:=Aj e;subst a;show#[c,q]
def Inv.pinned{a:Ef}{s:Shared}(I:cF9)(hf:∀b∈fp,Vx X a H b)(x:∀b∈fp,∃o,aV0>o/\∀v,o.data≠.cell v):cF8<|a++vZ fp s.heap :=
 I.pins_of λ p J=>(CB J).elim (λ z=>bk0^Ai _ z) λ z=>by let(i,e):=QgX z;let(j,r,u,_):=hf ix i;let(o,c,d):=x ix i;rw[e]at c;cases c;show#[e,j,r,u,d]
def Inv.unpinned{a pl:Ef}(I:cF8<|a++pl):cF9:=I.pins_of λ p J=>bk0^Ai _^A0 _ J
def Qqy{C:EM}{pos:Pos}(J:bI8 at9 X.A X.xe)(hc:dc)(hi:PI X tg iter wi)(hg:PG X tg g)(j:dg4 C tb)
  (hs:∀x,bP5 x=cG0:=by intro _;rfl):PS X (.For tg iter C [] pos)^Qtv wi g tb:=by
 intro F s σ H D I h;apply wpAny_For (thn (hi F s σ H _ I h) λ v s1 h1=>jc h1 aa s2 h2) hs;let(it,fp,tn,Y2,H2,e,I2,T,a9,f2,W,(m0,w0),O):=h2;subst e;let y:∀{z:Hp},IQ b fp^ų^z b->∀b∈fp,Vx X F z b:=λ hn b j=>#[hn b j,(f2 b j).2];apply codeAny_forLoop_any (λ n s'=>∃i σ' z,df6 X F z s'/\tn i s'.heap/\IQ b fp^ų^z b/\W i n σ' z) ?_ m0 #[0,σ,H2,I2,a9,λ b j=>(f2 b j).1,w0];rintro n s3 ⟨i,σ3,H3,I3,st3,fr3,w3⟩;obtain⟨stop,qn⟩|⟨go,N,hN,step⟩:=O i n σ3 H3 w3
 .apply FR^thn (T.done X Y Y Y hc i F s3 σ3 H3 X.xe I3 (y fr3) st3 stop) λ r s4 #[U,I4]=>?_;subst U;show aa7 #[σ3,H3,I4,qn]
 .apply FR^thn (T.item X Y Y Y hc i F s3 σ3 H3 X.xe I3 (y fr3) st3 go) λ r s4 #[u,U,h4]=>?_;subst U;apply FR^thn h4 λ_ s5 Q=>?_;let(x,H5,I5,r5,y5,G,R):=Q;let P:=I5.pinned (y R)^T.obj _ _ G;apply FR^thn (hg _ s5 σ3 H5 x u _ P r5^step x H5 y5) λ_ s6 Q=>?_;let(σ6,H6,I6,q6):=Q;apply FR^jc (j _ s6 σ6 H6 _ I6 q6) f s7 E;let again:∀{σ7:St}{a:Hp},Inv X (F++vZ fp s5.heap) σ7 a s7->N σ7 a->∃m,m<n/\∃i σ' z,df6 X F z s7/\tn i s7.heap/\IQ b fp^ų^z b/\W i m σ' z:=λ{σ7 a} c L=>by let(m',hm,w7):=hN σ7 a L;apply#[m',hm,i+1,σ7,a,c.unpinned,T.keep _ _ _ G λ b j o e=>(c.pin (b,o)^Ai _^Ai _^xh j e).1,Ż b j,w7];let(o,e,d):=T.obj _ _ G b j;show(c.pin (b,o)^Ai _^Ai _^xh j e).2.1
  cases f with
  |next=>let(σ7,a,c,L):=E;show again c L
  |cont=>let(σ7,a,c,L):=E;show again c L
  |brk=>let(σ7,a,c,E):=E;show#[σ7,a,c.unpinned,E]
  |ret v=>let(x7,σ7,a,c,r7,E):=E;show#[x7,σ7,a,c.unpinned,r7,E]
#where
abbrev R2:=Y1->Y1->Hp->B6
def OpR(X:Cx)(f:bR8)(r:R2):ä :=
 ∀(a : Nl)(s : Shared)(σ : St)(H : Hp)(x y : Y1)(v u : Value)(Q : VK), cF9 -> ch0 -> db4 -> r x y H Q ->
  ce5 (f v u) X a σ Q s
def UnR(X:Cx)(f:aE0)(r:Y1->Hp->B6):ä :=
 ∀(a : Nl)(s : Shared)(σ : St)(H : Hp)(x : Y1)(v : Value)(Q : VK), cF9 -> ch0 -> r x H Q ->
  ce5 (f v) X a σ Q s
def JB(X:Cx)(f:Value)(r:ś->Hp->B6):ä :=
 ∀(a : Nl)(s : Shared)(σ : St)(H : Hp)(xs : ś)(us : Ď)(Q : VK), cF9 -> bf5 -> r xs H Q ->
  ce5 (call f us) X a σ Q s
def QsT(X:Cx)(r:Y1->Hp->ι cH4):ä :=
 ∀(O9 : Nl)(s : Shared)(σ : St)(H : Hp)(x : Y1)(v : Value)(Q : cH4), Ϣ -> ch0 -> r x H Q ->
  gL (truthy v) (TP X O9 σ Q) s
def tOp(r:R2)(a tb:TE):TE:=λ σ H Q=>a σ H λ x H1=>tb σ H1 λ y H2=>r x y H2 Q
def tUn(r:Y1->Hp->B6)(a:TE):TE:=λ σ H Q=>a σ H λ x H1=>r x H1 Q
def rI(C:Int->aQ0)(g:Int->Int->Y1):R2:=λ x y H Q=>∃i j,x=ft/\y=bN3/\C i j/\Q (g i j) H
def rI0(g:Int->Int->Y1):R2:=λ x y H Q=>∃i j,x=ft/\y=bN3/\Q (g i j) H
def rU(g:Int->Y1):Y1->Hp->B6:=λ x H Q=>∃i,x=ft/\Q (g i) H
variable{X:Cx}{a b:Expr}{ta tb:TE}{pos:Pos}
def M9(ha:ch7)(e:a7 b tb){R:Y1->Y1->dC}(I:Ϣ)
  (h:ta σ H λ x H1=>tb σ H1 λ y H2=>R x y H2) {Q:Ee} {f:bR8}
  (hf:∀v u c x y H2,ŗ H2 c->ch0->db4->R x y H2->gL (f v u) Q c) :
  gL (æ a) (λ v s₁=>gL (æ b) (λ u s₂=>gL (f v u) Q s₂) s₁) s:=by
 apply dv1 (ha O9 s σ H _ I h) v r x H1 j;apply cJ4 (e O9 r σ H1 _ I1 q1) u c y H2 I2 o i ?_;show hf v u c x y H2 I2 j o i
def Qse{c:Operator}{r:R2}(j:FS (ia c) r)(ha:ch7)(i:a7 b tb):a7 (.BinOp a c b pos)^tOp r ta tb:=aG2 e s H Q I h^wpAny_BinOp^M9 ha i I h λ v u C x y H2 I2 o z q=>j e C σ H2 x y v u Q I2 o z q
def Qsf{e:UnaryOp}{r:Y1->Hp->B6}(i:UnR X (unaryOp e) r)(ha:ch7):a7 (.UnaryOp e a pos)^tUn r ta:=aG2 c s H Q I h^UnaryOp_^cJ5 (ha c s σ H _ I h) v o x H1 I1 j^i c o σ H1 x v Q I1 j q1
def opI{f:bR8}{C:Int->aQ0}{g:Int->Int->Int}
  (rule:∀(i j:Int)(t u:Tok)(s:Shared)(Q:Ee)(E:Ee),C i j->Q (lT (g i j) s.toks) cC7->dm (f bp2^lT j u) Q E s) :
  FS f^rI C λ i j=>Í^g i j:=by
 intro e s σ H x y v u Q I rx ry h;let(i,j,Y,Y,c,q):=h;let(t,Y):=rx;let(t',Y):=ry;show rule i j t t' s _ _ c #[Í (g i j),H,ω,IK,q]
def Wg{f:bR8}{g:Int->Int->Int}
  (rule:∀(i j:Int)(t u:Tok)(s:Shared)(Q:Ee)(E:Ee),Q (lT (g i j) s.toks) cC7->dm (f bp2^lT j u) Q E s) :
  FS f^rI0 λ i j=>Í^g i j:=by
 intro c s σ H x y v u Q I rx ry h;let(i,j,Y,Y,q):=h;let(t,Y):=rx;let(t',Y):=ry;show rule i j t t' s _ _ #[Í (g i j),H,ω,IK,q]
def Fb{f:bR8}{g:Int->cm5}
  (rule:∀(i j:Int)(t u:Tok)(s:Shared)(Q:Ee)(E:Ee),Q (xk^g i j) s->dm (f bp2^lT j u) Q E s) :
  FS f^rI0 λ i j=>ŏ^g i j:=by
 intro c s σ H x y v u Q I rx ry h;let(i,j,Y,Y,q):=h;let(t,Y):=rx;let(t',Y):=ry;show rule i j t t' s _ _ #[ŏ (g i j),H,I,Y,q]
def QsP(i j:Int):ä:=0<j/\j<IR
def QsQ(i j:Int):ä:=0<=j/\bv6 j/\i.natAbs<Pf
def CMul(i j:Int):ä:=(-Pf<i/\i<Pf)∨(-Pf<j/\j<Pf)
def CMul.ok{i j:Int}(h:CMul i j):IntMulOk i j:=by
 obtain⟨h1,h2⟩|⟨h1,h2⟩:=h
 .show .of_left (intBits_le_64 h1 h2)
 .show .of_right (intBits_le_64 h1 h2)
def Qp2:FS aq0^rI0 λ i j=>Í<|i+j:=Wg^EV q^add_int q
def Qp7:FS (ia .Sub)^rI0 λ i j=>Í<|i-j:=Wg^EV q^sub_int q
def Qp5:FS aq1^rI CMul λ i j=>Í<|i * j:=dh1 c q^mul_int q c.ok
def QmM:FS (ia .FloorDiv)^rI QsP λ i j=>Í<|i / j:=opI λ i j _ _ _ _ _ c q=>by let h1:da3<j:=c.1;let h2:j<IR:=c.2;show floordiv_int À (Æ (bX6 i) q) (ë bx4)
def Qp4:FS (ia .Mod)^rI (λ_ j=>0<j) λ i j=>Í<|i % j:=opI λ i j _ _ _ _ _ c q=>by let h1:da3<j:=c;show mod_int' À (Æ (Int.fmod_eq_emod_of_nonneg i À) q)
def Qp6:FS (ia .Pow)^rI QsQ λ i j=>Í<|i ^^^ j.toNat:=dh1 c q^pow_int_small c.1 c.2.1 c.2.2 q
def unI{f:aE0}{g:Int->Int}
  (rule:∀(i:Int)(t:Tok)(s:Shared)(Q:Ee)(E:Ee),Q (lT (g i) s.toks) cC7->dm (f bp2) Q E s) :
  UnR X f^rU λ i=>Í^g i:=by
 intro c s σ H x v Q I rx h;let(i,Y,q):=h;let(t,Y):=rx;show rule i t s _ _ #[Í (g i),H,ω,IK,q]
def Qrb:UnR X (unaryOp .USub)^rU λ i=>Í<|-i:=unI λ_ _ _ _ _ q=>neg_int q
variable{X:Cx}{a b c:Expr}{ta tb tc:TE}{pos:Pos}
def Hk{Q:VK}{k i:Bool}(I:Ϣ)(q:Q (ŏ k) H)(e:k=i):EP X O9 σ Q (xk i) s:=bJ1 e #[ŏ k,H,I,Y,q]
def Qr5:at8 .Lt^rI0 λ i j=>do5 i j:=Fb^EV q^lt_int q
def Qr4:at8 .LtE^rI0 λ i j=>ŏ^A6 i j:=Fb^EV q^le_int q
def Qr3:at8 .Gt^rI0 λ i j=>do5 j i:=Fb^EV q^gt_int q
def Qr2:at8 .GtE^rI0 λ i j=>ŏ^A6 j i:=Fb^EV q^ge_int q
def Qp3:at8 .Is^λ x y H Q=>y=Ě/\Q (ŏ^FC x Ě) H:=by
 intro e s σ H x y v u Q I rx ry h;let(Y,q):=h;cases ry;apply is_none_gen^Hk I q ?_;cases x<;>first
  | (cases rx;rfl)
  | (let(t,Y):=rx;rfl)
def QmO:at8 .IsNot^λ x y H Q=>y=Ě/\Q (be9^FC x Ě) H:=by
 intro e s σ H x y v u Q I rx ry h;let(Y,q):=h;cases ry;apply isnot_none_gen^Hk I q ?_;cases x<;>first
  | (cases rx;rfl)
  | (let(t,Y):=rx;rfl)
def QB(b:Expr){e:CmpOp}(h:e≠.In:=by decide)(h2:e≠.NotIn:=by decide):ad5 e b:=by
 let e1:iN e CmpOp.In:=cK0 e h
 let i:iN e CmpOp.NotIn:=cK0 e h2
 cases b<;>simp[behindInMarks,e1,i]
def QmY{e:CmpOp}{r:R2}(z:at8 e r)(ha:ch7)(j:a7 b tb)(o:ad5 e b):a7 (du9 a [e] [b])^tOp r ta tb:=aG2 i s H Q I h^wpAny_Compare1 (M9 ha j I h λ v u F x y H2 I2 C E q=>z i F σ H2 x y v u Q I2 C E q) o
def WY(t:TE):TT:=λ σ H Q=>t σ H λ x H'=>∃k,x=ŏ k/\Q k H'
def Qnh{j:CmpOp}{r:R2}(E:at8 j r)(ha:ch7)(o:a7 b tb)(C:ad5 j b):PT X (du9 a [j] [b])^WY^tOp r ta tb:=by
 intro i s σ H Q I h;apply wpAny_isTrue_Compare1 (JI (ha i s σ H _ I h) λ v L x H1 I1 G q1=>JI (o i L σ H1 _ I1 q1) λ u O y H2 I2 Y2 F =>
  thn (E i O σ H2 x y v u _ I2 G Y2 F) λ c P #[z,H3,I3,r3,k,e,q3]=>?_) C
 subst e;cases r3;show wb #[H3,I3,q3]
def WH(r e:R2)(ta tb tc:TE):TE:=λ σ H Q=>ta σ H λ x H1=>tb σ H1 λ y H2=>r x y H2 λ z H3=>∃k,z=ŏ k /\
 Ř k (tc σ H3 λ w' H4=>e y w' H4 Q)^Q ő H3
def Qj8{C i:CmpOp}{r E:R2}(ho:at8 C r)(o:at8 i E)(ha:ch7)(R:a7 b tb)(U:a7 c tc)
  (hm:ÿ^lastMarks [C,i] [b,c]:=by with_unfolding_all rfl):PT X (du9 a [C,i] [b,c])^WY^WH r E ta tb tc:=by
 intro j s σ H Q I h;apply isTrue_chain (JI (ha j s σ H _ I h) λ v s1 x H1 I1 r1 q1=>test_link^JI (R j s1 σ H1 _ I1 q1) λ u s2 y H2 I2 F q2 =>
  thn (ho j s2 σ H2 x y v u _ I2 r1 F q2) λ d s3 #[z,H3,I3,r3,k,e,q3]=>?_) hm
 subst e;cases r3;apply wb ?_;cases k with
 |false=>let(k',O,q'):=q3;cases O;show ite_ff #[H3,I3,q']
 |true=>apply ite_tt^test_last^cJ4 (U j s3 σ H3 _ I3 q3) w' s4 z' H4 I4 r4 q4^jc (o j s4 σ H4 y z' u w' _ I4 F r4 q4) d' s5 L;let(z2,G,Y2,r5,k2,P,q5):=L;subst P;cases r5;show wb #[G,Y2,q5]
def Nh(K:Aa)(x:Y1)(H:Hp)(k:Bool):ä :=
 match x with
 |.non=>ÿ k
 |.bl b=>k=b
 |.int i=>k=(i != 0)
 |.str y=>bN9 y/\k=((dm8 y) != 0)
 |.byt y=>Ĉ y.size/\k=((Ñ y.size) != 0)
 |.ref p=>(∃xs,ds4/\k=ay6)∨(∃xs,cx1 p/\k=ay6)∨∃kvs,H p>(.dK kvs)/\k=ce7
 |_=>False
def Qdr{κ:pZ}{kvs:aO5}{vs:bW1}(r:aA1):hV vs.isEmpty=ce7:=l3 r
def vA{xs:ś}{e:Ď}(r:aF7 e):hV e.toArray.isEmpty=ay6:=cp6 r
def vK:(sizeLine:V)<Λ 63:=bw7 sizeLine_eq
def Qq8:QsT X^λ x H Q=>∃k,Nh X.K x H k/\Q k H:=by
 intro E s σ H x v Q I rx h;let(k,e,q):=h;let hl:=vK;let F:sizeLine=16777216:=sizeLine_eq;cases x with
 |non=>cases rx;let j:ÿ k:=e;subst j;show truthy_none #[H,I,q]
 |bl b=>cases rx;let j:k=b:=e;subst j;show wb #[H,I,q]
 |int i=>let(t,Y):=rx;let j:k=(i != 0):=e;subst j;show PySem.P.truthy_int #[H,I,q]
 |str y=>let(t,Y):=rx;obtain⟨C,j⟩:bN9 y/\k=((dm8 y) != 0):=e;subst j;show PySem.P.truthy_str À #[H,ω,q]
 |byt y=>let(t,Y):=rx;obtain⟨C,j⟩:Ĉ y.size/\k=((Ñ y.size) != 0):=e;subst j;show PySem.W.truthy_bytes À #[H,ω,q]
 |ref p =>
  cases rx;let j:(∃xs,ay8 X.K p/\k=ay6)∨(∃xs,du5 p/\k=ay6)∨∃kvs,H p>(.dK kvs)/\k=ce7:=e;obtain⟨xs,hx,j⟩|⟨xs,hx,j⟩|⟨kvs,hx,j⟩:=j
  .subst j
   let(u,r,pl,hz):=wq hx;let o:=mz;show wpAny_truthy_list pl.isList cj3 #[H,ω,Æ (vA r) q]
  .subst j
   let(u,r,pl,hz):=iP hx;let o:=mz;show truthy_tuple pl cj3 #[H,ω,Æ (vA r) q]
  .subst j
   obtain⟨hz,z,vs,r,m⟩:Ĉ gi/\Op p/\∃vs,aA1/\s.heap.DictOf am4 p vs:=I.hok p _ hx;let o:gi=av6:=ag6;show wpAny_truthy_dict z m À #[H,ω,Æ (Qdr r) q]
 |_=>show bj7 e
def Qka(ha:ch7)(i:∀whole,cz6 a=bw9 v whole a.pos^aX2 [v] v):
  PT X a^λ σ H Q=>ta σ H λ x H'=>∃k,Nh X.K x H' k/\Q k H':=by
 intro e s σ H Q I h;show isTrue_plain (cJ5 (ha e s σ H _ I h) v o x H1 I1 j^Qq8 e o σ H1 x v Q I1 j q1) (i _)
def Yt{us:Ď}(r:fx [x]):∃u,us=[u]/\ϳ x:=by
 cases r with
 |cons e i=>cases i;show#[_,Y,e]
def KS{us:Ď}(r:fx [x,y]):∃u w',us=[u,w']/\ϳ x/\RelV y w':=by
 cases r with
 |cons e i =>
  cases i with
  |cons j o=>cases o;show#[_,_,Y,e,j]
def Qic:IL X "abs"^λ xs H Q=>∃i,xs=[ft]/\Q ↥(É (i<0) (-i) i) H:=by intro e s σ H xs us Q I r h;let(i,Y,q):=h;let(u,Y,t,Y):=Yt r;show call_abs_int λ u tk=>#[Í (É (i<0) (-i) i),H,ω,IK,q]
def Qf1(o:dc):IL X "max"^λ xs H Q=>∃i j,xs=[ft,bN3]/\Q ↥(É (j >= i) j i) H:=by
 intro v s σ H xs us Q I r h;let(i,j,Y,q):=h;let(u,w',Y,(t,Y),(t',Y)):=KS r;apply max_two_ints (OO o) λ h' tk k=>#[_,H,I.kept k,?_,q];by_cases e:j >= i
 .rw[PM,PM];show IK
 .rw[EF,EF];show IK
def Qf2(o:dc):IL X "min"^λ xs H Q=>∃i j,xs=[ft,bN3]/\Q ↥(É (j<i) j i) H:=by
 intro v s σ H xs us Q I r h;let(i,j,Y,q):=h;let(u,w',Y,(t,Y),(t',Y)):=KS r;apply min_two_ints (OO o) λ h' tk k=>#[_,H,I.kept k,?_,q];by_cases e:j<i
 .rw[PM,PM];show IK
 .rw[EF,EF];show IK
def gK:JB X (ĥ ba6)^λ xs H Q=>(∃i,xs=[ft]/\Q bs5 H)∨∃k,xs=[ŏ k]/\Q ↥(É k 1 0) H:=by
 intro j s σ H xs us Q I r h;obtain⟨i,Y,q⟩|⟨k,Y,q⟩:=h
 .let(u,Y,t,Y):=Yt r;show call_int_int #[ft,H,I,IK,q]
 .let(u,Y,e):=Yt r;cases e;show call_int_bool #[Í (É k 1 0),H,ω,IK,q]
#where
structure ObjM(h:Heap)(x dx C:Addr)(mA:Eg):ä where
 obj:ϝ x>(bH9 dx)
 ns:h.Ns1 dx mA
 ne:dx≠x
def QgQ{h:Heap}{i:Addr}{j:Eg}(n:h.Ns1 i j):∃od,ϝ i>od/\∀name,bk4 od>(j name):=by
 let(o,es,ep,x,hd,u,_,v):=n;apply#[o,x,N1 name];let e:=v name;unfold nsFind findBy at e;rw[<- Array.find?_toList]at e;ext PySem.W.lookIn;rw[hd];dsimp only;split
 .rename_i y q;rw[q]at e;show cf3 e
 .rename_i q;rw[q]at e;let a:ÿ^es.toList.any (·.refKey):=by rw[List.any_eq_false];intro y C;let(z,t,c):=u y (Array.mem_toList_iff.mp C);simp[DictEntry.refKey,c]
  let r:de9^es.toList.any (·.refKey):=Æ a By
  rw[C7 r];show cf3 e
def ObjM.look{x a C:Addr}{c:Eg}(I:ObjM h x a C c):∃od,PySem.W.InstAt h x (bH9 a) C^í od/\∀name,bk4 od>(c name) :=
 let #[od,e,hl]:=QgQ I.ns
 #[od,#[I.obj,Y,Y,e],hl]
variable{prog:Program}{w:World}{A:Around}{E:Ee}{s:Shared}{K:Aa}{x dx C f:Addr}{mA:Eg}{name:Str}{v:Value}
def Qmh{a:Bool}{Q:Ee}(X:av8)(I:ObjM s.heap x dx C mA)(c:aa3 K C name)(hh:ag3 K C)
  (ha:cS K C name>none) (hv:mA name>v) (hv':Ĭ^PySem.W.handedIn v) (h:Q v cC7) :
  rj w A (getAttr ↑x name a) Q E s:=by
 let(od,Y2,hl):=I.look;show PySem.W.get_value X Y2 (bk5 c).1 (PySem.W.findObj_own hh ha Y^Ϗ hl hv) hv' h
def QiV{pl:aw1}{Q:Value × Ď->ϟ}(X:av8)(I:ObjM s.heap x dx C mA)(a:aa3 K C name)
  (hf:cS K C name>aZ5) (ht:ai8 K aZ4) (hv:ų^mA name) (h:Q (ã f,[ã x]) s) :
  rj w A (getMethod ↑x name pl) Q E s:=by
 let(od,Y2,hl):=I.look;show PySem.W.method_fn X Y2 (bk5 a).1 (bk5 a).2 hf (bx5 ht) (au3 (mr (bk4 od) df4>false) hl hv) h
def QnF{ns:č}{Q:Unit->ϟ}(X:av8)(I:ObjM s.heap x dx C mA)
  (hs:cS K C cp7 = í^í am0) (J:be6 K C) (ht:PySem.W.takerIn K C name>none) (hh:ag3 K C)
  (hw:PySem.Within mA ns) (hsz:Ĉ sj)
  (h:∀h',ObjM h' x dx C (λ y=>Dt y name v^mA y)->dr5 dx h'->Q ()^aC7^bx0 2) :
  rj w A (setAttr ↑x name v) Q E s:=by
 let(od,Y2,hl):=I.look;apply PySem.W.set_plain X Y2 hs^PySem.W.osa_open (s:=cC7) (r:=none) X Y2 J ht^N1 b;let(G,F,j):=PySem.W.any_some hh;let hx:Č x>#[ã C,í dx,.plain,hZ]:=I.obj;apply C6^C9^aR5^wpAny_loadPart hx^C6^PySem.W.Looks.here (s:=cC7) (PySem.W.looks_clsIn X F) ?_;rw[j];apply C9 (a:=í dx)^C6^C9 bI5;apply wpAny_nsSet1 (s:=cC7) I.ns^ľ h' c e;let(L,z,u,o,hdD,i):=c.count (PySem.Within.cons name v hw);apply C6^wpAny_lookBehind o (Æ hdD^pastItsLine_dict^Bi i^ĩ A9) ?_;show C9 (h _ #[à (e.2 _^Ņ I.ne) I.obj,c,I.ne] e)
def Qjo{R:Result->ϟ}{vs:Ď}{a:ay4}(X:av8)(c:bB8 K C)
  (hi:cS K C IS = í aZ5) (hf:PySem.W.typeIn K aZ4>(ĥ "function"))
  (h:codeAny aQ2 (aR7 ah1 #[ã C::vs,a]) (.call aZ4 #[ã Lm::vs,a]) (PySem.W.InitBack Lm R)
  ^RM^(nv).push^nY C) :
  codeAny aQ2 A (.call bs0 #[vs,a]) R s:=by
 let(hh,g,d,t,os):=s;show PySem.W.make_core (PySem.W.makes_of X c) (PySem.W.looks_findIn X hi) (λ self=>PySem.W.bind_fn X self hf) ϊ h
#where
def jg(f:Str)(v:Y1):be8->be8
 | []=>[(f,v)]
 | (g,x)::r=>pH g f ((g,v)::r)<|(g,x)::jg f v r
def Qb3(f g:Str)(v:Y1):∀fs:be8,(jg f v fs).lookup g=Dt g f v^gQ g:=by
 intro o;induction o with
 |nil =>
  exact List.lookup g [(f,v)]=_;by_cases h:g=f
  .let a:Ĭ<|g==f:=aw3 h
   simp only[List.lookup,a,cC9]
  .let a:iN g f:=ad h
   simp only[List.lookup,a,df3]
 |cons u r i =>
  let(k,x):=u;let j:=i;rw[P9<|jg f v ((k,x)::r)=pH k f ((k,v)::r) ((k,x)::jg f v r)];by_cases c:k=f
  .rw[C8 c]
   by_cases h:g=k
   .let a:Ĭ<|g==k:=aw3 h
    simp only[List.lookup,a,C8 (h.trans c)]
   .let a:iN g k:=ad h
    simp only[List.lookup,a,C7 (λ e:g=f=>h^e.trans c.symm)]
  .rw[C7 c]
   by_cases h:g=k
   .let a:Ĭ<|g==k:=aw3 h
    simp only[List.lookup,a,C7 (λ e:g=f=>c^h.symm.trans e)]
   .let a:iN g k:=ad h
    simp only[List.lookup,a];show j
def kn(f:Str)(v:Y1):∀fs:be8,f∈ce8^jg f v fs/\∀g,g∈ag8->g∈ce8^jg f v fs:=by
 intro o;induction o with
 |nil=>show#[Ğ jg,λ g h=>ED]
 |cons u r j =>
  let(k,x):=u;let(c,i):=j;rw[P9<|jg f v ((k,x)::r)=pH k f ((k,v)::r) ((k,x)::jg f v r)];by_cases a:k=f
  .rw[C8 a]
   subst a;show#[Ê,λ g h=>Ë h]
  .rw[C7 a]
   apply#[?_,Ż g h]
   .rw[Ba]
    show bU0 c
   .rw[Ba]at h ⊢
    obtain e|e:=ny h
    .show Bj.mpr cQ0
    .show bU0 (i g e)
def Qb2(f:Str)(v:Y1):∀fs:be8,⇑(jg f v fs)<=aQ6+1:=by
 intro e;induction e with
 |nil=>simp[jg]
 |cons i r c =>
  let(k,x):=i;let j:=c;rw[P9<|jg f v ((k,x)::r)=pH k f ((k,v)::r) ((k,x)::jg f v r)];by_cases a:k=f
  .rw[C8 a,A9,A9];lia
  .rw[C7 a,A9,A9];lia
def RelO.some_of{o:iM}(r:RelO bi1 o):∃u,o>u/\dp5:=by
 cases o with
 |none=>show bj7 r
 |some u=>show#[u,Y,r]
def RelO.none_of{o:iM}(r:RelO none o):ų o:=by
 cases o with
 |none=>rfl
 |some u=>show bj7 r
def Qgx(r:dp5):Ĭ^PySem.W.handedIn u:=by
 cases v with
 |non=>cases â (u=Value.none) r;rfl
 |bl b=>cases â (u=bH6 b) r;rfl
 |int i=>let(t,e):=â (∃t,u=an7 t) r;cases e;rfl
 |str x=>let(t,e):=â (∃t,u=aF4 t) r;cases e;rfl
 |byt b=>let(t,e):=â (∃t,u=Value.bytes b t) r;cases e;rfl
 |flt b=>let(t,e):=â (∃t,u=Value.float b t) r;cases e;rfl
 |ref a=>cases â (u=Ϛ a) r;rfl
 |ty n=>cases â (u=PF n) r;rfl
variable{P:Program}{w:World}{H:Hp}{h:Heap}{a C dx:Addr}{fs:be8}
def Rt(hok:bT3)(e:PK>cD5):∃c,ObjM h a dx C c/\(∀f,RelO cw6 (c f))/\PySem.Within c (ag8)/\aQ6<=ej/\H dx>(.own a):=by let(d,z,ne,ob,c,n,r,q):=â (aF9 w H h a cD5) (hok a _ e);show#[c,#[ob,n,ne],r,q,z,d]
#where
structure Cls(K:Aa)(C:Addr):ä where
 pg:aa3 K C Str.empty
 hd:ag3 K C
 po:be6 K C
 sa:cS K C cp7 = í^í am0
def Cls.get{K:Aa}{C:Addr}(c:cW0)(f:Str):aa3 K C f:=c.pg
def NoAttr(K:Aa)(C:Addr)(f:Str):ä:=cS K C f>none
def NoAttr.taker{K:Aa}{C:Addr}{f:Str}(n:bX8 K f):PySem.W.takerIn K C f>none:=Ą PySem.W.takerIn^â (cS K C f>none) n
structure pP(K:Aa)(C:Addr)(m:Str)(f:Addr):ä where
 at_:cS K C m>aZ5
 fn:ai8 K aZ4
 kp:db6 K
variable{X:Cx}{O9:Ef}{σ:St}{H:Hp}{s:Shared}{a C dx:Addr}{fs:be8}{f:Str}{v:Y1}{A:Around}{E:Ee}
def vi{b:Bool}{Q:Ee}(I:Ϣ)(e:PK>cD5)(c:cB2)(n:bX8 X.K f)(l:cw6>v)
  (h:∀u s',cQ8->dp5->Q u s'):ν A (getAttr Ű f b) Q E s:=by
 let(x,O,r,_,_,_):=Rt I.hok e;let(u,j,i):=bF5 v o (x f) (ì l^r f);show Qmh I.kIn O (c.get f) c.hd n j (Qgx i) (h u _ ω i)
def VC{m:Str}{g:Addr}{pl:aw1}{Q:Value × Ď->ϟ}(I:Ϣ)(e:PK>cD5)(c:cB2)(k:pP X.K C m g)(l:ų bi4)
  (h:Q (ã g,cJ3) s):ν A (getMethod Ű m pl) Q E s:=by
 let(i,O,r,_,_,_):=Rt I.hok e;let hn:ų^i m:=RelO.none_of^ì l^r m;show QiV I.kIn O (c.get m) k.at_ k.fn hn h
def v9{Q:Unit->ϟ}(I:Ϣ)(e:PK>cD5)(c:cB2)(n:bX8 X.K f)(hl:aQ6<ej)(P:db4)
  (h:∀s',ŗ (cD3 dx^jg f y fs) s'->Q () s'):ν A (setAttr Ű f u) Q E s:=by
 let(j,O,r,F,_,i):=Rt I.hok e;let hz:bN9 (ag8):=ah2 Br sizeLine_eq
 apply QnF I.kIn O c.sa c.po n.taker c.hd F hz λ h' O' R=>h _ ?_;let hd:∃o,ζ dx>o:=cE1 o G O'.ns o G;apply I.write (x:=a) (e:=dx) cU6 (ċ i) (λ b q Y2 z=>à (R.2 b Y2) z) hd ?_;apply#[lr O.ne i,?_,O.ne,O'.obj,_,O'.ns,N1 g,Ż g L]
 .have:=Qb2 f y fs;lia
 .exact RelO ((jg f y fs).lookup g)^Dt g f u^j g;rw[Qb3];by_cases q:g=f
  .rw[C8 q,C8 q];show P
  .rw[C7 q,C7 q];show r g
 .by_cases q:g=f
  .rw[q];show(kn f y fs).1
  .apply(kn f y fs).2 g^F g λ z=>L ?_;exact ų^Dt g f u^j g;rw[C7 q];show z
def Inv.made(I:Ϣ):Inv X O9 σ (cD2 (at3^.own Lm) Lm s.heap.objs.size [])
 ^RM^(nv).push^nY C:=by
 let e1:aJ0 (nv).get?>PySem.W.emptyDict:=cj1 s.heap;let i:((nv).push^nY C).get? Lm>(nY C):=by
  have:=Au nv (o:=nY C) Y
  rwa [Ci]at this
 let j:cH7 (nv).Ns pA:=#[PySem.W.emptyDict,hZ,_,e1,Y,(λ e r=>Ė r Ê),cJ7];let c:=I.laid (a:=s.heap.objs.size) (o:=.own Lm) (h':=nv) (t':=s.toks) (λ b u q=>n5 q) Ĕ #[_,e1];apply c.laid (a:=Lm) (o:=cD1 s.heap.objs.size []) (t':=s.toks) (λ b u q=>n5 q) (az3^Ci _ _) ?_;let ne:bv5 Lm:=Be^Cv _;apply#[Ϗ (Zb ne) Zc,Fm,ne,i,pA,(Heap.Ns1.of_empty j).at λ o q=>n5 q,λ_=>True.intro,λ y x=>cu8 x]
def Qly{prog:Program}{w:World}{f:Str}{pos:Pos}{s:Shared}{Q:Ee}(c:attributeBase e f env dt6=dt6)
  (h:rj w A dt6 (λ o s₁=>rj w A (getAttr o f true) Q E s₁) E s):rj w A (bw8^Η e f pos) Q E s :=
 Attribute_any_ h^Ϗ arm_eval_Attribute c
#where
def Qtu(K:Aa)(e:TE)(f:Str):TE:=λ σ H Q=>e σ H λ x H1=>∃a C c fs v,x=Χ/\H1 a>(cD4 c)/\cW0/\bX8 K f/\cw6>v/\Q v H1
def Qtl(K:Aa)(e i:TE)(f:Str):TS:=λ D σ H=>i σ H λ y H1=>e σ H1 λ x H2=>∃a C c fs,x=Χ/\H2 a>(cD4 c)/\cW0/\bX8 K f/\aQ6<ej /\
 dg3^cD2 H2 a c^jg f y fs
def T6(X:Cx)(c:Operator)(rd:Y1->Y1->Hp->B6):ä :=
 ∀(a:Ef)(s:Shared)(σ:St)(H:Hp)(x y:Y1)(u v:Value)(Q:VK),cF9->ϳ x->aQ9 y->rd x y H Q->ce5 (inplaceOp c u v) X a σ Q s
def QnA(K:Aa)(o r:TE)(rd:Y1->Y1->Hp->B6)(f:Str):TS:=λ D σ H=>o σ H λ x H1=>∃a C j fs v,x=Χ/\H1 a>(cD4 j)/\cW0/\bX8 K f/\cw6>v /\
 r σ H1 λ y H2=>rd v y H2 λ z i=>∃e c,i a>(cD1 e c)/\bT6<ej/\dg3^cD2 i a e^jg f z c
variable{X:Cx}{o e value:Expr}{f:Str}{pos pos' tpos:Pos}{ta tv:TE}
def Qqg(G:bo7 e)(F:OP e f^æ e=æ e):a7 (Η e f pos)^Qtu X.K ta f:=by intro y s σ H Q I h;apply Qly F^jc (G y s σ H _ I h) u P z;let(x,i,j,L,a,C,O,fs,v,ex,E,c,n,l,q):=z;subst ex;obtain Y:u=Ϛ a:=L;show vi j E c n l λ U R r Y2=>#[v,i,r,Y2,q]
def Qqx(ha:bo7 o)(hv:a7 value tv)(E:aD0 value^í^Η o f pos'=EN):PS X (dt0 [Η o f pos'] value)^Qtl X.K ta tv f:=by intro i s σ H D I h;apply plainObj_wpAny_Assign_Attribute (cJ4 (hv i s σ H _ I h) u O y H1 I1 L q^jc (ha i O σ H1 _ I1 q) F R v) E;let(x,P,j,Y2,a,C,Q,fs,ex,z,c,n,l,G):=v;subst ex;obtain Y:F=Ϛ a:=Y2;show v9 j z c n l L λ U r=>#[σ,_,r,G]
def Qha{F:Operator}{rd:Y1->Y1->Hp->B6}(ha:bo7 o)(hv:a7 value tv)(E:T6 X F rd):PS X (.AugAssign (Η o f tpos) F value pos)^QnA X.K ta tv rd f:=by intro i s σ H D I h;apply wpAny_AugAssign_AttributeAny^jc (ha i s σ H _ I h) ov s1 j;let(x,G,Y2,rx,a,C,dx,fs,v,ex,Q,c,n,l,q):=j;subst ex;obtain Y:ov=Ϛ a:=rx;apply vi Y2 Q c n l λ u s2 I2 ru=>cJ4 (hv i s2 σ G _ I2 q) w3 s3 y H2 I3 ry q3^jc (E i s3 σ H2 v y u w3 _ I3 ru ry q3) w4 s4 j;let(z,H3,L,rz,P,R,r,U,q4):=j;show v9 L r c n U rz λ s5 O=>#[σ,_,O,q4]
def Qtb:Y1->Y1->Hp->B6:=λ x y H Q=>∃i j,x=ft/\y=bN3/\Q ↥(i+j) H
def Qpx:T6 X .Add Qtb:=by rintro a s σ H x y u v Q I rx ry ⟨i,j,Y,Y,q⟩;let(t,Y):=â (∃t,u=an7 t) rx;let(t',Y):=â (∃t',v=Value.int j t') ry;show PyProof.Rows.iadd_int #[Í (i+j),H,ω,IK,q]
#where
structure Room(k:V)(A:Around):ä where
 hd:lI
 dp:A.depth+3 * k+5<recursionLimit
 un:aK8 (16 * k)+200<cLine
def Room.mono{j k:V}(r:pB A)(h:j<=k):Room j A:=#[r.hd,İ r.dp,İ r.un]
def Room.deeper{k:V}{A:Around}(r:Room (k+1) A)(env:Env):Cl env :=
 #[r.hd,bF6 r.dp (A.depth+1+3 * k+5<_),bF6 r.un (aK8 3+16 * k+200<_)]
def QdB{A:Around}{C:Addr}{a:ay4}:(aR7 ah1 #[ã C::us,a]).depth=A.depth+1:=by
 first|rfl|simp[Around.under,Code.weight,Code.isCreation,Code.isGuard,Code.isCaller,Code.frames,Code.isFrame,guardIds]
def QdC{A:Around}{C:Addr}{a:ay4}:(aR7 ah1 #[ã C::us,a]).units=aK8 1:=by
 first|rfl|simp[Around.under,Code.cUnits,Code.frames,Code.isFrame]
def Room.make{k:V}{A:Around}(r:Room (k+1) A)(C:Addr)(us:Ď)(a:ay4):pB^aR7 ah1 #[ã C::us,a] :=
 #[r.hd,by have:=r.dp;rw[QdB];lia,by have:=r.un;rw[QdC];lia]
def Room.depth{k:V}{A:Around}(r:pB A):A.depth<recursionLimit:=İ r.dp
def Room.units{k:V}{A:Around}(r:pB A):aK8 64<cLine:=İ r.un
def TX:TA:=λ_ H Q=>Q [] H
def QsB(a:TE)(tr:TA):TA:=λ σ H Q=>a σ H λ x H1=>tr σ H1 λ xs H2=>Q (x::xs) H2
variable{X:Cx}{e:Expr}{es:Ϡ}{te:TE}{t:TA}{pos:Pos}
def pa_nil:PA X [] TX:=λ_ _ _ _ H Q I h=>Calls.spliced_nil #[[],H,I,i9,h]
def Xn(ha:a7 e te)(i:PA X es t)(j:cP5=cv8::bA9:=by rfl):PA X (e::es)^QsB te t:=by intro pos O9 s σ H Q I h;rw[j];exact ű _ (spliced<|cv8::aj2) _ _ s;apply NF^dv1 (ha O9 s σ H _ I h) u y x H1 r;show cJ4 (i pos O9 y σ H1 _ I1 q1) us z xs a c v o #[x::xs,a,c,Φ r v,o]
def QtD(t:TA):TE:=λ σ H Q=>t σ H λ xs a=>dn8/\∀p,ų^a p->cX2^upd a p OL
def Qtx(t:TA):TE:=λ σ H Q=>t σ H λ xs a=>dn8/\∀p,ų^a p->cX2^upd a p bN5
def ME{x1}(h:PA X es t):a7 (.Tuple es x1 pos)^QtD t:=by intro c s σ H Q I hq;apply wpAny_Tuple_spliced^thn (h pos c s σ H _ I hq) λ us a #[xs,H1,I1,r,z,q]=>bI0^ì mz z;let hf:ų cE2:=ab7;apply#[aU6,upd H1 a.heap.objs.size OL,I1.laid (t':=a.toks) (λ b u e=>ay7) Ĕ ?_,Y,q _ hf];show#[z,us,r,#[_,cj2,Y,_,Y]]
def Ox(h:PA X es t):a7 (.List es pos)^Qtx t:=by intro c s σ H Q I hq;apply wpAny_List_spliced^thn (h pos c s σ H _ I hq) λ us a #[xs,H1,I1,r,z,q]=>bI0^ì mz z;let hf:ų cE2:=ab7;apply#[aU6,upd H1 a.heap.objs.size bN5,I1.laid (t':=a.toks) (λ b u e=>ay7) Ĕ ?_,Y,q _ hf];show#[z,us,0,r,cj2]
#where
abbrev Sp:=ś->Hp->VK->ι XK
abbrev CXT:=My->Hp->Shared->XK->PC ϟ
structure Env0(P:Program)(w:World)(K:Aa)(mg:Eg)(O8:Heap)(A:Around)(outer:My)(s:Shared)(H:Hp):ä where
 frames:A.frames>outer
 mod:Mod K mg O8
 bs:∀b o,O8.get? b>o->aV0>o/\bV6
 bsz:O8.objs.size<=s.heap.objs.size
 funs:s.heap.FunFrames O8 outer
 frf:∀b∈bj8,bV6
 hok:bF3 s.heap
 bare:AllBare s.gens
def CE(outer:My)(P:Program)(w:World)(H:Hp)(s:Shared)(Q:VK)(u:Value)(s':Shared):ä :=
 ∃v H',s'.os=s.os/\aa0/\Un bj8 [] H H' s.heap s'.heap/\bv9 H' s'.heap/\dp5/\Q v H'
def CR(CX:CXT)(outer:My)(P:Program)(w:World)(H:Hp)(s:Shared)(Q:VK)(E:XK)(r:Result)(s':Shared):ä :=
 match r with
 |.ok (.ret u)=>CE outer P w H s Q u s'
 |.ok _=>False
 |.error e=>CX outer H s E e s'
structure zO(P:Program)(w:World)(K:Aa)(mg:Eg)(O8:Heap)(CX:CXT)(k:V)(f:Addr)(fd:FuncData)(ps:č)(sp:Sp):ä where
 len:∀vs H Q E,sp vs H Q E->av6=ϣ
 run:∀(A:Around)(outer:My)(s:Shared)(H:Hp)(args:Args)(us:Ď)(vs:ś)(Q:VK)(E:XK),pB A->Env0 P w K mg O8 A outer s H->bU5 s args EG->fx vs->sp vs H Q E ->
  codeAny (model P w) A (.call aZ4 args) (CR CX outer P w H s Q E) s
def Env0.make{w:World}{K:Aa}(e:Env0 P w K mg O8 A outer s H)(C:Addr)(us:Ď)(a:ay4):
 Env0 P w K mg O8 (aR7 ah1 #[ã C::us,a]) outer s H:=#[by first|show e.frames|(simpa [Around.under,Code.envs,Code.isFrame,pushEnvs]using e.frames),e.mod,e.bs,e.bsz,e.funs,e.frf,e.hok,e.bare]
variable{X:Cx}{O9:Ef}{σ:St}{H:Hp}{s s':Shared}
def Inv.env0(I:Ϣ):Env0 X.prog X.w X.K X.mg X.O8 X.A X.stack s H :=
 #[I.ok.frames,I.ok.mod,I.bs,Bi I.ok.bsz I.sz,I.stack,I.stkFree,I.hok,I.bare]
def Inv.after(I:Ϣ)(h:CE X.stack X.prog X.w H s Q u s'):EP X O9 σ Q u s':=by let(v,c,os,bare,un,hok,r,q):=h;let(hh,g,d,t,a):=s';obtain Y:a=s.os:=os;show#[v,c,I.call (h':=hh) (g':=g) (d':=d) (t':=t) (ch:=[]) un hok bare (λ b z=>Ė z Ê),r,q]
#where
def QsA(sp:Sp)(a:ś)(E:XK)(t:TA):TE:=λ σ H Q=>t σ H λ vs H1=>sp (vs++a) H1 Q E
def Hf(C:Addr)(m:Str)(sp:Sp)(c:ś)(E:XK)(i:TE)(t:TA):TE:=λ σ H Q=>i σ H λ x H1=>∃a e fs,x=Χ/\H1 a>(cD4 e)/\ų bi4 /\
 t σ H1 λ vs H2=>sp (x::(vs++c)) H2 Q E
def Binds(K:Aa)(fd:FuncData)(ps:č)(ds:Ď):ä :=
 bX9 s us Ď<|av8->⇑(us++ds)=ϣ->bU5 s #[us,[]]^ps.zip (us++ds)
def Binds.all{K:Aa}{ps:č}(h:∀us:Ď,bW9=ϣ->aK9 fd us []=ï EG):bq9 K []:=λ s us _ hl=>by rw[Bs]at hl ⊢;show .of_eq (h us hl)
def Y9(CX:CXT)(X:Cx)(E:XK):ä:=∀(a:Ef)(σ:St)(H:Hp)(s:Shared)(e:Value)(s':Shared),cF9->CX X.stack H s E e s'->X.xe e s'
variable{X:Cx}{CX:CXT}{k:V}{f C:Addr}{fd:FuncData}{ps:č}{sp:Sp}{dvs:ś}{ds:Ď}{E:XK}{x m:Str}{p pos apos:Pos}{e o:Expr}{es:Ϡ}{ta:TE}{t:TA}
def Ou{a:Ef}{σ:St}{H:Hp}{s:Shared}{Q:VK}{us:Ď}{vs:ś}(F:zO X.prog X.w X.K X.mg X.O8 CX k f fd ps sp)(v:aQ1)(j:cB0 ds)(hd:Vals dvs ds)(hx:Y9 CX X E)
  (I:cF9) (r:fx vs) (h:sp (vs++dvs) H Q E):ce5 (call aZ4 us) X a σ Q s:=by
 let c:Vals (vs++dvs)<|us++ds:=r.append hd;let hl:⇑(us++ds)=ϣ:=ì bT6^F.len _ _ _ _ h
 apply wpAny_call^aA3 (F.run X.A X.stack s H #[us,[]] (us++ds) (vs++dvs) Q E v I.env0 (j s us I.kIn hl) c h) r s' hq;cases r with
 |error e=>show hx a σ H s e s' I hq
 |ok i =>
  cases i with
  |ret u=>show I.after hq
  |next=>show CC hq
  |brk=>show CC hq
  |cont=>show CC hq
def QmX(F:zO X.prog X.w X.K X.mg X.O8 CX k f fd ps sp)(v:aQ1)(i:dr1)(u:X.mg x>aZ4)(j:db6 X.K)(c:cB0 ds)(hd:Vals dvs ds)(hx:Y9 CX X E)
  (ha:PA X (e::es) t) (hdb:cT6:=by decide) (he:cP5=cv8::bA9:=by rfl) (hpl:ÿ^(aj2).any ţ:=by rfl) :
  a7 (bg8 x<|e::es)^QsA sp dvs E t:=by
 intro a s σ H Q I h;apply NG^xf I i u ?_ hdb;apply PySem.W.callWith_K (h₀:=X.O8) I.ok.mod.kin j (cJ4 (ha pos a s σ H _ I h) us y vs H1 I1 r q^bI0 I1.kIn) he hpl;show Ou F v c hd hx I1 r q
def Qm2{pl:aw1}(L:bo7 o)(c:cB2)(v:pP X.K C m f)(F:zO X.prog X.w X.K X.mg X.O8 CX k f fd ps sp)(O:aQ1)(Y2:cB0 ds)(hd:Vals dvs ds)(hx:Y9 CX X E)(ha:PA X (e::es) t)
  (hst:cP5=cv8::bA9:=by rfl) (hpl:ÿ^(aj2).any ţ:=by rfl)
  (ht:æ^av3 o m (e::es)=(do
   let ov <- bo1
   PR
   let (f,first) <- Fh [ov] ov m pl
   ak6 pos f (G6<|e::es) bE4):=by rfl) :
  a7 (av3 o m<|e::es)^Hf C m sp dvs E ta t:=by
 intro j s σ H Q I h;apply aL0 pl (jc (L j s σ H _ I h) u U z) ht;let(x,y,i,R,a,dx,fs,ex,G,l,q):=z;subst ex;obtain Y:u=Ϛ a:=R;apply VC i G c v l ?_;apply PySem.W.callWith_K (first:=cJ3) (h₀:=X.O8) I.ok.mod.kin v.kp (cJ4 (ha pos j U σ y _ i q) us s2 vs H2 I2 r P^bI0 I2.kIn) hst hpl;show Ou (us:=Χ::us) (vs:=Χ::vs) F O Y2 hd hx I2 (Φ Y r) P
def Qch{pl:aw1}(G:bo7 o)(c:cB2)(j:pP X.K C m f)(F:zO X.prog X.w X.K X.mg X.O8 CX k f fd ps sp)(Y2:aQ1)(z:cB0 ds)(hd:Vals dvs ds)(hx:Y9 CX X E)
  (ht:æ^av3 o m []=(do
   let ov <- bo1
   PR
   let (f,first) <- Fh [ov] ov m pl
   ak6 pos f (G6 []) bE4):=by rfl) :
  a7 (av3 o m [])^Hf C m sp dvs E ta TX:=by
 intro r s σ H Q I h;apply aL0 pl (jc (G r s σ H _ I h) u R v) ht;let(x,O,i,L,a,P,fs,ex,y,l,q):=v;subst ex;obtain Y:u=Ϛ a:=L;apply VC i y c j l ?_;show PySem.W.callWith_K0 (first:=cJ3) i.kIn j.kp (Ou (us:=cJ3) (vs:=cJ3) F Y2 z hd hx i (dp3 Y) q)
structure Mk(K:Aa)(C f:Addr):ä where
 makes:bB8 K C
 init:cS K C IS = í aZ5
 fn:ai8 K aZ4
 kp:dS K bs0
#where
structure JO(N P:č)(sc:Scope):ä where
 kind:sc.kind=ba1
 co:ÿ sc.isCoroutine
 gen:ÿ sc.isGenerator
 nd:N.Nodup
 pre:N.take ci7=P
 par:∀x∈P,sc.names.lookup x>py∨sc.names.lookup x>aK4
 nofree:∀y∈sc.names,y.2≠bj9
def QfY{kindOf:Str->bN4}{x:Str}:∀{binds:ay4}{m:Eg},(∀v,(x,v)∉binds)->bindL kindOf binds m x=m x:=by
 intro e;induction e with
 |nil=>intro _ _;show Y
 |cons i r c =>
  let(n,v):=i;intro m h;ext bindL;rw[c λ w a=>bU1 w a];split
  .have:x≠n:=by rintro Y;show h v List.mem_cons_self
   simp[this]
  .rfl
def QfX{kindOf:Str->bN4}{x:Str}:∀{binds:ay4}{m:Eg},(∀v,(x,v)∉binds)->bindC kindOf binds m x=m x:=by
 intro e;induction e with
 |nil=>intro _ _;show Y
 |cons i r c =>
  let(n,v):=i;intro m h;ext bindC;rw[c λ w a=>bU1 w a];split
  .rfl
  .have:x≠n:=by rintro Y;show h v List.mem_cons_self
   simp[this]
def gI{kindOf:Str->bN4}{x:Str}:∀{P:č}{vs:Ď}{i:V}{m:Eg},P.Nodup->Ů P>x->Ů vs>v->kindOf x>py ->
  bindL kindOf bh6 m x>v
 | [],_,_,_,_,h,_,_=>ED
 |_::_,[],_,_,_,_,h,_=>ED
 |p::P,w::vs,0,m,nd,h1,h2,a=>by simp at h1 h2;subst h1;subst h2;exact bindL kindOf ((p,w)::bh6) m p=_;ext bindL;rw[QfY λ v hv=>bU6.1^bX1 hv,C8 a];simp
 |p::P,w::vs,i+1,m,nd,h1,h2,a=>by exact bindL kindOf ((p,w)::bh6) m x=_;ext bindL;show gI (i:=i) bU6.2 cb2 (Ë h2) a
def gH{kindOf:Str->bN4}{x:Str}:∀{P:č}{vs:Ď}{i:V}{m:Eg},P.Nodup->Ů P>x->Ů vs>v->kindOf x≠í py ->
  bindC kindOf bh6 m x>v
 | [],_,_,_,_,h,_,_=>ED
 |_::_,[],_,_,_,_,h,_=>ED
 |p::P,w::vs,0,m,nd,h1,h2,a=>by simp at h1 h2;subst h1;subst h2;exact bindC kindOf ((p,w)::bh6) m p=_;ext bindC;rw[QfX λ v hv=>bU6.1^bX1 hv,C7 a];simp
 |p::P,w::vs,i+1,m,nd,h1,h2,a=>by exact bindC kindOf ((p,w)::bh6) m x=_;ext bindC;show gH (i:=i) bU6.2 cb2 (Ë h2) a
def start(N:č)(vs:ś):St:=vs.map some++ă (aZ1-av6) none
def jn(CX:CXT)(P:Program)(w:World)(K:Aa)(mg:Eg)(O8:Heap)(N:č)(a:Str)(scope:Scope)(f:Addr)(i:Value)(A:Around)(outer:My)(s:Shared)(H:Hp)(E:XK):Cx where
 prog:=P
 w:=w
 K:=K
 mg:=mg
 O8:=O8
 A:=A.deeper^bV4 a f i
 N:=N
 s₀:=s
 H₀:=H
 env:=bV4 a f i
 outer:=outer
 stack:=bV4 a f i::outer
 ex:=[]
 calm:=true
 fn:=ah0
 pn:=[]
 xe:=λ e s'=>Ú P w (A.deeper^bV4 a f i) (leaving (bV4 a f i) e) (λ_ c=>CX outer H s E e c) (λ j c=>CX outer H s E j c) s'
def Qbz{a:Scope}{n:V}{x:Str}(h:pw>aK4):∃c,(cellsFrom n a.names []).lookup x>c:=by let q:=PySem.W.cellsFrom_some a.names n [] FE;show cp8 q
def QgB{CX:CXT}{P:Program}{w:World}{K:Aa}{mg:Eg}{O8:Heap}{N ps:č}{j:Str}{scope:Scope}{f:Addr}{G:Value}{A:Around}{outer:My}{s L:Shared}{H:Hp}{E:XK}{us:Ď}{vs:ś}
  (S:JO N ps scope) (hd:lI) (e0:Env0 P w K mg O8 A outer s H) (hl:av6=ϣ) (r:fx vs)
  (x:InCallC s s.heap.objs.size (bindL (bV4 j f G).kindOf EG pA) (cellsFrom Lm scope.names []) (bindC (bV4 j f G).kindOf EG pA) L) :
  Inv (jn CX P w K mg O8 N j scope f G A outer s H E) [] dh7 H L:=by
 let O:ϣ<=aZ1:=by have:=ay9 S.pre;rw[A8]at this;lia
 let(h1,tk,Y,I):=x.done;let C:∀b:Addr,b∉(jn CX P w K mg O8 N j scope f G A outer s H E).ex:=λ b z=>bB5 (b∈([]:Ek)) z Ê;apply#[#[e0.mod,S.kind,Y,Y,Ĕ,λ y z c h1 h2=>?_,Ż y o,λ y c _ h=>?_,λ_=>hd,Around.frames_deeper e0.frames,ċ rg,λ b z=>Ė z^C b,e0.bs,e0.bsz,λ b _ _=>C b,λ b z=>Ė z^C b,e0.funs,e0.frf],
  Y,e0.bare,Un.kept I,#[_,x.toInCall.ns,ba2 i y v h1 h2 h3],λ y c h=>#[_,x.cell y c h],e0.hok.fresh Ĕ,do4 y c,λ p J=>bB5 (p∈([]:Ef)) J Ê,e0.hok.kept I,?_]
 .show name_of_addr x.apart (ot h1) (ot h2)
 .let o:rn y>aK4∨rn y>bj9:=o;obtain o|o:=o
  .show Qbz o
  .show cu8 (S.nofree _^ot o)
 .show dE (x.above y c^ot h)
 .let hi:i<av6:=by
   unfold start at h2;by_cases hi:i<av6
   .show hi
   .rw[Ap bA8]at h2;rw[List.getElem?_replicate]at h2;split at h2<;>cases h2
  let ha:Ů vs>v:=by
   unfold start at h2;rw[Ag bA8,Bt]at h2;cases e:Ů vs with
   |none=>rw[e]at h2;cases h2
   |some a=>rw[e]at h2;cases h2;rfl
  let(u,Y2,Q):=r.get ha;let J:Ů ps>y:=by rw[<- S.pre,B8 À];show h1
  let F:ps.Nodup:=ì S.pre^S.nd.sublist^List.take_sublist _ _
  apply#[u,Q,?_];obtain k|k:=S.par y (Aw J)
  .show ë #[k,gI F J Y2 k]
  .let(c,e):=Qbz (n:=Lm) k;apply ċ #[q7,c,e,?_];let q:=x.cell y c e;rw[gH F J Y2 (by exact rn y≠_;rw[k];decide)]at q;show q
 .show e0.hok.fresh (dE^x.above y c^ot h)
 .ext start;exact _=aZ1;rw[Am,Br,List.length_replicate];lia
def Wt{CX:CXT}{P:Program}{w:World}{K:Aa}{mg:Eg}{O8:Heap}{k:V}{f:Addr}{name a:Str}{params:Arguments}{i:EM}{scope:Scope}{dV kV F pm c ct oc:Value}{an od:Nw}
  {osl:av5} {N ps:č} {sp:Sp} (lk:Ψ f>#[oc,od,.func (PySem.W.fnOf name a params i scope dV kV F pm an c ct),osl]) (hcd:EQ K c a) (S:JO N ps scope)
  (len:∀vs H Q E,sp vs H Q E->av6=ϣ)
  (hbody:∀(A:Around)(outer:My)(s:Shared)(H:Hp)(vs:ś)(Q:VK)(E:XK),Cl^bV4 a f c->sp vs H Q E ->
   ∃t,PSs (jn CX P w K mg O8 N a scope f c A outer s H E) i t/\t { nx:=λ_ j=>Q Ě j,rt:=Q } dh7 H) :
  zO P w K mg O8 CX (k+1) f (PySem.W.fnOf name a params i scope dV kV F pm an c ct) ps sp:=by
 apply#[len,λ A outer s H args us vs Q E R G hb r O=>?_];let hl:=len _ _ _ _ O;let KX:av8:=G.mod.kin.keeps λ b o e=>(G.bs b o e).1;let lim:s.heap.NoLimit:=G.mod.nolimit.keeps λ b o e=>(G.bs b o e).1;let z:∀y∈EG,rn y.1>py∨(rn y.1>aK4/\aN7^(cellsFrom Lm scope.names []).lookup y.1):=λ#[n,v] hy=>by
  obtain q|q:=S.par n (bX1 hy)
  .show ë q
  .show cQ4 q (PySem.W.cellsFrom_some _ _ _^ë q)
 apply codeAny_call_function R.depth (KX _ _ lk) Y S.co S.gen Y (PySem.W.codeRec_of KX hcd)^hb _ _ _ _ ?_;apply wpAny_newFunctionEnv_cells S.kind z^mo env he s1 x;subst he;apply#[lim.keeps x.toInCall.keep,codeAny_func ?_];let(t,ht,hq):=hbody A outer s H vs Q E (R.deeper _) O;let I:Inv (jn CX P w K mg O8 N a scope f c A outer s H E) [] dh7 H s1:=QgB S R.hd G hl r x;apply wpAny_mono (ht [] s1 dh7 H _ I hq) (ľ fl s' C) λ e s' C=>C;let L:∀{σ':St}{j:Hp}{v:Y1}{u:Value},df6 (jn CX P w K mg O8 N a scope f c A outer s H E) [] j s'->dp5->Q v j->CE outer P w H s Q u s' :=
  λ{σ' j v u} Y2 U q=>#[v,j,Y2.os,Y2.bare,Y2.O8,Y2.hok,U,q]
 cases fl with
 |ret u=>let(v,σ',j,Y2,U,q):=C;show L Y2 U q
 |next=>let(σ',j,Y2,q):=C;show L (v:=Y1.non) (u:=Value.none) Y2 Y q
 |brk=>let(_,_,_,q):=C;show CC q
 |cont=>let(_,_,_,q):=C;show CC q
variable{X:Cx}{x:Str}{p pos:Pos}{e:Expr}{es:Ϡ}{t:TA}{id T:String}{r:ś->Hp->B6}
def tCB(r:ś->Hp->B6)(t:TA):TE:=λ σ H Q=>t σ H λ vs H1=>r vs H1 Q
def vV(i:IL X id r)(j:dr1)(o:cj x)(hv:AI>cQ9)(ha:PA X (e::es) t)(hn:tI x := by decide)(a:cT6:=by decide)
  (he:cP5=cv8::bA9:=by rfl) (hpl:ÿ^(aj2).any ţ:=by rfl):a7 (bg8 x<|e::es)^tCB r t:=by
 intro c s σ H Q I h;apply NG^ja I j o hv ?_ hn a;show PyProof.Rows.callWith_builtin1 (cJ5 (ha pos c s σ H _ I h) us v vs H1 I1 u^i c v σ H1 vs us Q I1 u q1) he hpl
def kD(i:JB X bB7 r)(j:dr1)(o:cj x)(hv:AI>bB7)(ha:PA X (e::es) t)(hn:tI x := by decide)(a:cT6:=by decide)
  (he:cP5=cv8::bA9:=by rfl) (hpl:ÿ^(aj2).any ţ:=by rfl):a7 (bg8 x<|e::es)^tCB r t:=by
 intro c s σ H Q I h;apply NG^ja I j o hv ?_ hn a;show dP (cJ5 (ha pos c s σ H _ I h) us v vs H1 I1 u^i c v σ H1 vs us Q I1 u q1) he hpl
#print L2
namespace HT
open PySem PyProof.Rows
variable{prog:Program}{w:World}{A:Around}{E:Ee}{s:Shared}
def cat_tup{t b:Addr}{vs ws:Ď}{Q:Ee}(G:bj3 t vs.toArray)(C:bj3 b ws.toArray)(hv:vs≠[])
  (h1:ws=[]->cD8 t s) (h2:ws≠[]->Q ŋ^RM^ci4 ŉ^aA4 (vs++ws))
  (hsz:Ĉ<|av6+⇑ws):rj w A (binaryOp .Add ↑t ↑b) Q E s:=by
 let((cls,dd,data,z),r,x,n,hd):=id G;let((v,c,data2,o),a,i,y,j):=id C;simp only at x hd i j;subst x hd i j;let e:vs.toArray++ws.toArray=aA4 (vs++ws):=Ê
 by_cases u:ws=[]
 .show concat_meets #[_,r,Y] #[_,a,Y] noFill_tuple_add seq_tuple_add PySem.F.slot_tuple_add PySem.F.entry_tuple_add (cE3 _)
   (tuple_addW1 t b vs.toArray ws.toArray n y dd c z o (Ë hv)^Ğ u) #[r,a,h1 u]
 .apply concat_meets #[_,r,Y] #[_,a,Y] noFill_tuple_add seq_tuple_add PySem.F.slot_tuple_add PySem.F.entry_tuple_add (cE3 _)
   (tuple_addW2 t b vs.toArray ws.toArray n y dd c z o (Ë hv) (Ë u)^i3 An An hsz) #[r,a,?_]
  rw[e];show h2 u
def sIx(n d:V):Ć->V
 |none=>d
 |some v=>É (v<0) (OA<|v+iq)^min v.toNat n
def sIx_nat(n d k:V):sIx n d^í fw=min k n:=by exact É (fw<0) (OA<|fw+iq)^min (OA fw) n=min k n;rw[ec,Bz]
def QqP(n d:V)(hd:d<=n)(o:Ć):sIx n d o<=n:=by
 cases o with
 |none=>show hd
 |some v =>
  exact É (v<0) (OA<|v+iq)^min v.toNat n<=n;by_cases hv:v<0
  .rw[C8 hv];lia
  .rw[C7 hv];show Nat.min_le_right _ _
def RC(v:Int)(n d:V):É (v<0) (max (v+iq) 0)^min v iq=Ñ (sIx n d bi1:V):=by
 exact É (v<0) (max (v+iq) 0)^min v iq=Ñ (É (v<0) (OA<|v+iq) (min v.toNat n):V);by_cases hv:v<0
 .simp only[C8 hv];lia
 .simp only[C7 hv];lia
def Qc2(a hi:Ć)(n:V):Builtin.Slice.sliceAdjust a hi 1 iq=(Ñ (sIx n 0 a:V),Ñ (sIx n n hi:V)):=by
 let h1:¬ (dm9<0):=À
 ext Builtin.Slice.sliceAdjust;simp only[h1,if_false];apply Prod.ext ?_ ?_
 .cases a with
  |none=>rfl
  |some v=>show RC v n 0
 .cases hi with
  |none=>rfl
  |some v=>show RC v n n
def QdQ(i j:V):aA5 A4 bt9=j-i:=by
 ext Builtin.Slice.slicePlaces;let h1:dm9 >= 0:=À
 simp only[h1,if_true,Int.ediv_one];split<;>lia
def uq{o:Ć}{Q:Ć->ϟ}(p:cE4 v o)(h:Q o s):rj w A (Builtin.Slice.slicePartIndex v) Q E s:=by
 cases p with
 |none=>show slicePart_none h
 |int i t=>show slicePart_int h
def sliceApplied_gen{i:Addr}{a hi:Ć}{n:V}{Q:Int × Int × V->ϟ}(o:aG4 i vl vu)(pl:cE4 vl a)(r:cE4 vu hi)
  (h:Q (Ñ (sIx n 0 a:V),1,sIx n n hi-sIx n 0 a) s):rj w A (Builtin.Slice.sliceApplied ↑i^ï iq) Q E s:=by
 let(os,e,j,c):=id o;ext Builtin.Slice.sliceApplied Builtin.Slice.sliceFields;apply C6^ό e c x vl Y^ό e c x vu Y^ό e c x fE Y E7;apply C6^slicePart_none ?_;exact ű _ (Ř (dm9==0) _ _) _ _ s;rw[C7 Á];apply C6^uq pl^C6^uq r^C6 E7;exact ű _ (match Builtin.Slice.sliceAdjust a hi 1 iq with|(a,hi)=>ï (a,dm9,aA5 a hi)) _ _ s;rw[Qc2 a hi n];exact ű _ (ï (Ñ (sIx n 0 a:V),dm9,aA5 (Ñ (sIx n 0 a:V)) (Ñ (sIx n n hi:V)))) _ _ s;rw[QdQ];show C9 h
def QjZ(xs:ļ)(i k:V):aA4 ((ĉ k).filterMap λ(m:V)=>cI5<|OA<|A4+mG * 1)=aA4^cC8 (xs.toList.drop i) k:=by
 let e:(λ(m:V)=>cI5<|OA<|A4+mG * 1)=λ m=>cI5<|i+m:=by
  funext m;have:OA (A4+mG * 1)=i+m:=À
  rw[this]
 rw[e];have:=pick_run xs i k;rw[List.filterMap_map]at this;let a:((λ x=>cI5 x)∘λ x=>i+x)=λ m=>cI5<|i+m:=Y;rw[a]at this;rw[this]
def getItem_tuple_cut{t u:Addr}{items:ļ}{c hi:Ć}{Q:Ee}(e:bj3 t items)(v:aG4 u vl vu)(pl:cE4 vl c)(y:cE4 vu hi)
  (hw:¬ (Μ 0 c=0/\Of hi=items.size))
  (h:Q ŋ<|RM<|ci4 ŉ<|aA4<|cC8 (ba7 0 c)<|Of hi-Μ 0 c)
  (hsz:Ĉ items.size):rj w A (getItem ↑t ↑u) Q E s:=by
 let a:sizeOk<|ci3<|aA4<|cC8 (ba7 0 c)<|Of hi-Μ 0 c:=by exact Ĉ (cC8 (ba7 0 c)<|Of hi-Μ 0 c).toArray.size;rw[An,A8,Bq,Cg];omega
 let z:Of hi<=items.size:=QqP _ _ Ĕ hi;let(os,r,j,x):=id v;let i:bs6 ↑u dh8 := #[os,r,j];ext getItem
 try with_reducible apply bf9
 first|apply C6 E7|skip
 apply C6^wpAny_sequenceKey e.typeIs Á ?_;apply C6^wpAny_callSpecial?_slot (name:=Ϧ cp9) e.typeIs PyProof.Rows.slot_tuple_getitem
 ^ad1 PyProof.Rows.slot_tuple_getitem e.typeIs entry_tuple_getitem ?_^args_tuple_getitem _ _
 exact AM _ (bY0 t) _ _ _ s;apply C6^tupleItemsOf_ e ?_;apply Sv i ?_;rw[C8 Á];apply C6^sliceApplied_gen v pl y ?_;let o:de9<|Ñ (Μ 0 c:V)==0&&dm9==1&&cH9 (Of hi-Μ 0 c):=by intro q;rw[Bb,Bb]at q;let q1:Ñ (Μ 0 c:V)=0:=eq_of_beq FO.1;let C:Of hi-Μ 0 c=items.size:=eq_of_beq q.2;show hw #[ic,ic]
 exact ű _ (Ř (Ñ (Μ 0 c:V)==0&&dm9==1&&cH9 (Of hi-Μ 0 c)) _ _) _ _ s;rw[C7 o,QjZ]
 first
  |show C6 (m:=FT _) (IT (C9 #[_,Y,C9 h]) a)
  |show C6 (m:=FT _) (IT (C6^dh0 #[_,Y,C9 h]) a)
  |show C6 (C6 (m:=FT _)^IT (dh0 #[_,Y,C9 h]) a)
  |show C6 (C6 (m:=FT _)^IT (C9 #[_,Y,C9 h]) a)
#print HT
namespace L2
open PySem PySem.Spec PyProof.Rows
abbrev TO:=St->Hp->ι (Ć->dC)
def PO(X:Cx)(e:S9)(t:TO):ä :=
 ∀(O9 : Nl)(s : Shared)(σ : St)(H : Hp)(Q : Ć -> dC), Ϣ -> t σ H Q ->
  gL (evalPart e X.env) (λ u s'=>∃o H',do6 s'/\cE4 u o/\Q o H') s
def QnO:TO:=λ_ H Q=>Q none H
def QsF(t:TE):TO:=λ σ H Q=>t σ H λ x H1=>∃i,x=ft/\Q bu0 H1
variable{X:Cx}{e:Expr}{te:TE}{lo hi:S9}{tl th:TO}{pos p2:Pos}
def Qm8:PO X none QnO:=by intro a s σ H Q I h;rw[evalPart_none];show C9 #[none,H,I,fE,h]
def Qm9(h:a7 e te):PO X bB4^QsF te:=by intro j s σ H Q I hw;rw[evalPart_some];apply cJ6 (h j s σ H _ I hw) u r x a c o;let(i,Y,q):=q1;let(t,Y):=o;show#[bu0,a,c,bp2,q]
def SlR(X:Cx)(r:Y1->Ć->Ć->Hp->B6):ä :=
 ∀(a : Nl)(s : Shared)(σ : St)(H : Hp)(x : Y1)(v i j : Value)(lo hi : Ć)(c : Addr)(Q : VK), cF9 -> ch0 -> aG4 c i j -> cE4 i lo -> cE4 j hi -> r x lo hi H Q ->
  ∃T id,typeLookup bB7 cp9 = ï^í cQ9/\bs6 v T/\ce5 (getItem v ↑c) X a σ Q s
def tSl(r:Y1->Ć->Ć->Hp->B6)(te:TE)(tl th:TO):TE:=λ σ H Q=>te σ H λ x H1=>tl σ H1 λ l H2=>th σ H2 λ u H3=>r x l u H3 Q
def vW{r:Y1->Ć->Ć->Hp->B6}(E:SlR X r)(z:a7 e te)(hl:PO X lo tl)(G:PO X hi th):a7 (cx7 e^.Slice lo hi none p2)^tSl r te tl th:=by intro c s σ H Q I h;apply Subscript_^dv1 (z c s σ H _ I h) v R x H1 P;apply wpAny_Slice^cJ4 (hl c R σ H1 _ I1 q1) i U l H2 I2 pl L^cJ4 (G c U σ H2 _ I2 L) j a u H3 I3 Y2 O ?_;rw[evalPart_none];apply E7;let o:cF6 c H3^Υ a^cq0 dh8 ⟨i,j,fE⟩:=I3.kept (t':=a.toks) λ b ob q=>n5 q;let(T,id,y,F,C):=E c (Υ a^cq0 dh8 ⟨i,j,fE⟩) σ H3 x v i j l u a.heap.objs.size Q o P (Heap.IsSliceOf.new ..) pl Y2 O;exact ce5 (subscriptTail e (.Slice lo hi none p2) v ↑a.heap.objs.size) X c σ Q^Υ a^cq0 dh8 ⟨i,j,fE⟩;show tail_any (ops:=[aU6,v]) F y C Ð
def pR(xs:ś)(lo hi:Ć):ś:=cC8 (xs.drop de5)<|cx3 ŧ hi-de5
def Ky(xs:ś)(lo hi:Ć):⇑(pR xs lo hi)<=ŧ:=by ext pR;rw[A8,Bq];lia
def Qtg(K:Aa):Y1->Ć->Ć->Hp->B6:=λ x lo hi H Q=>∃a xs,x=Χ/\cx2 /\
 ¬ (de5=0/\cx3 ŧ hi=ŧ)/\∀p,cQ6->cX2^Α p^õ^pR xs lo hi
def QqU:SlR X^Qtg X.K:=by
 intro y s σ H x v vl vu lo hi sl Q I rx hs pl pu h;let(a,xs,Y,hx,u,q):=h;cases rx;let(i,r,j,hz):=iP hx;let c:i.toArray.size=ŧ:=Æ An r.length.symm
 apply ci8 ŉ _ j.typeIs ?_;apply HT.getItem_tuple_cut j hs pl pu (Æ c u) ?_^Æ c hz;rw[c];apply#[ϒ,_,I.laid (t':=s.toks) (o:=õ (pR xs lo hi)) (λ b ob q=>n5 q) Ĕ ?_,Y,q _ bp3];show#[Bi (Ky xs lo hi) hz,_,cC8 (r.drop de5) (cx3 ŧ hi-de5),IsTup.new _ _]
def Qsj(K:Aa):R2:=λ x y H Q=>∃a b xs c,x=Χ/\y=da5/\cx2/\SqT K H b c/\xs≠[]/\Ĉ (ŧ+bT6) /\
 (c=[]->Q Ű H)/\(c≠[]->∀p,cQ6->cX2^Α p^õ (xs++c))
def Vals.nil_iff{xs:ś}{us:Ď}(r:bf5):us=[]↔xs=[]:=by
 cases r with
 |nil=>simp
 |cons _ _=>simp
def QmL:FS aq0^Qsj X.K:=by intro Y2 s σ H x y v u Q I rx ry h;let(a,b,xs,G,Y,Y,ha,r,hx,hz,q1,F):=h;cases rx;cases ry;let(C,i,E,_):=iP ha;let(j,c,p2,_):=iP r;apply HT.cat_tup E p2 (λ z=>hx^i.nil_iff.mp z) (λ z=>#[Χ,H,I,Y,q1 (c.nil_iff.mp z)]) dc7^aE4 df0 c hz;apply#[ϒ,_,I.laid (t':=s.toks) (o:=õ (xs++G)) (λ b ob q=>n5 q) Ĕ ?_,Y,F (λ w=>z^c.nil_iff.mpr w) _ bp3];show#[Æ Am hz,_,i.append c,IsTup.new _ _]
#where
def ixN(n:V)(i:Int):cP6:=É (0<=i) (É (i<n) (í i.toNat) none)^É (-iq<=i) (í<|OA<|i+n) none
def atI{α:pZ}(xs:Fa)(i:Int):Ï α:=(ixN ŧ i).bind λ j=>cS7
def Sf{n:V}{i:Int}{j:V}(h:ixN n i>j):seqIndex? i n>j/\j<n /\ -iq<=i/\i<n:=by
 unfold ixN at h;by_cases h0:0<=i
 .rw[C8 h0]at h;by_cases h1:i<n
  .rw[C8 h1]at h;let e:i.toNat=j:=Aj h;show#[Ϗ (cK2 h1) e,À,À,h1]
  .rw[C7 h1]at h;cases h
 .rw[C7 h0]at h;by_cases h1:-iq<=i
  .rw[C8 h1]at h;let e:OA (i+n)=j:=Aj h;show#[Ϗ (cq1 h1) e,À,h1,À]
  .rw[C7 h1]at h;cases h
def RH{α:pZ}{xs:Fa}{i:Int}{v:α}(h:bJ3 xs>v):∃j,seqIndex? i ŧ>j/\cS7>v/\j<ŧ /\ -(Ñ ŧ)<=i/\i<ŧ:=by
 unfold atI at h;cases e:ixN ŧ i with
 |none=>rw[e]at h;cases h
 |some j=>rw[e]at h;let(h1,h2,h3,h4):=Sf e;show#[j,h1,h,h2,h3,h4]
def jR{α:pZ}{xs:Fa}{j:V}{v:α}(h:cS7>v):atI xs bt9>v:=by
 let a:j<ŧ:=bf2;let e:ixN ŧ bt9>j:=by ext ixN;rw[aq9,aq9];simp
 ext atI;rw[e];show h
def Qh3{α:pZ}(xs:Fa)(v:α):atI (xs++[v]) (-1)>v:=by
 let hl:⇑(xs++[v])=ŧ+1:=Ê
 let e:ixN ⇑(xs++[v]) (-1)>ŧ:=by ext ixN;rw[hl,C7 Á,aq9];congr 1;lia
 ext atI;rw[e];exact(xs++[v])[ŧ]?>v;simp
def kY(b:Expr):ä:=∀o i,subscripted b false o i=operate [o,i]^getItem o i
def IxR(X:Cx)(r:R2):ä :=
 ∀(value slice : Expr)(a : Nl)(s : Shared)(σ : St)(H : Hp)(x y : Y1)(v u : Value)(Q : VK), cF9 -> ch0 -> db4 -> r x y H Q ->
  subscripted slice false v u=operate [v,u]^getItem v u->ce5 (subscriptTail value slice v u) X a σ Q s
def MtR(X:Cx)(id:String)(r:Y1->ś->Hp->B6):ä :=
 ∀(a : Nl)(s : Shared)(σ : St)(H : Hp)(x : Y1)(xs : ś)(v : Value)(us : Ď)(Q : VK), cF9 -> ch0 -> bf5 -> r x xs H Q ->
  ce5 (ae8 id<|v::us) X a σ Q s
variable{X:Cx}{a b:Expr}{ta tb:TE}{pos:Pos}
def Wi{r:R2}(i:IxR X r)(ha:ch7)(e:a7 b tb)(j:kY b):a7 (cx7 a b)^tOp r ta tb:=aG2 c s H Q I h^Subscript_^M9 ha e I h λ v u C x y H2 I2 o z q=>i a b c C σ H2 x y v u Q I2 o z q^j _ _
def Qtd(K:Aa):R2:=λ x y H Q=>∃p xs i v,x=cc0/\y=ft/\ds4/\bJ3 xs>v/\Q v H
def Qte(K:Aa):R2:=λ x y H Q=>∃p xs i v,x=cc0/\y=ft/\cx1 p/\bJ3 xs>v/\Q v H
def Se:IxR X^Qtd X.K:=by
 intro value slice O9 s σ H x y v u Q I rx ry h hs;let(p,xs,i,z,Y,Y,hq,F,q):=h;cases rx;let(t,Y):=ry;let(o,r,pl,hz):=cf2;let(j,h1,h2,h3,h4,h5):=RH F;let(w,E,C):=r.get h2;let hl:=mz;let hn:=vK;let c:EP X O9 σ Q w s:=#[z,H,I,C,q];by_cases h0:0<=i
 .let e:i.toNat=j:=Ex (cK2 h5) h1 cI6
  show item_listR pl.isList h0 À (by rw[e];simpa using E) c hs
 .let e:OA (i+Ñ o.toArray.size)=j:=by rw[cq1 h4]at h1;rw[An,<- hl];show cI6
  show subscriptTail_builtinR (x:=w) pl.isList.typeIs slot_list_getitem.lookup
   (wpAny_getItem_list_neg (Q:=λ r s'=>r=w/\EP X O9 σ Q r s') pl.isList À dh9 À (by rw[e];simpa using E) #[Y,c]) hs
def QpG:IxR X^Qte X.K:=by
 intro value slice O9 s σ H x y v u Q I rx ry h hs;let(p,xs,i,z,Y,Y,hq,C,q):=h;cases rx;let(t,Y):=ry;let(E,r,pl,hz):=iP hq;let(j,h1,h2,h3,h4,h5):=RH C;let(w,o,e):=r.get h2;let hl:=mz;let hn:=vK;let c:EP X O9 σ Q w s:=#[z,H,I,e,q];show subscriptTail_builtinR (x:=w) pl.typeIs slot_tuple_getitem.lookup
  (getItem_tuple (j:=j) (Q:=λ r s'=>r=w/\EP X O9 σ Q r s') pl À À (bk6 An hl h1) (Ë o) #[Y,c]) hs
def QdD(c:Ď)(n j:V)(u:Value):Obj.mapSeq (·.setIfInBounds j u) cX1=bP1^.seq (aA4^c.set j u) n:=Ğ Obj.mapSeq
def Inv.lst{H:Hp}{p:Addr}(I:Ϣ)(h:cG2 p xs):
  ∃(c:Ď) (n:V),aF7 c/\Č p>cX1/\dn8:=by
 let(z,c,n,r,e):=I.hok p _ h;show#[c,n,r,e,z]
def Inv.lstUpd{H:Hp}{p:Addr}{xs j:ś}{c its':Ď}{n i:V}{f:Obj->Obj}(I:Ϣ)(h:cG2 p xs)
  (ho:Č p>cX1) (hf:f cX1=bP1^.seq its'.toArray i) (r:Vals j its') (hz:bN9 j) (t:V) :
  ŗ (r6 p j)^cK s (bY1 p f) t:=by
 let e:(bY1 p f).get? p>(bP1^.seq its'.toArray i):=Ϗ (aa1 f ho^by rw[hf]<;>rfl) hf
 apply I.write (x:=p) (e:=p) (by rw[h];trivial) ϊ (λ b u o q=>rV _ _ (Ņ o) q) #[_,e] ?_;show#[hz,its',i,r,e]
def Qsn:Y1->Y1->Y1->Hp->ι dC:=λ o i v H Q=>∃p xs k j,o=cc0/\i=Ll/\cG2 p xs/\ixN ŧ k>j/\Q^r6 p^xs.set j v
def QkD:Fv X Qsn:=by
 intro z s σ H o i v ov iv u Q I ro ri rv h;let(p,xs,k,j,Y,Y,J,C,q):=h;cases ro;let(t,Y):=ri;let(c,n,r,x,hz):=I.lst J;let(h1,h2,h3,h4):=Sf C;let hl:=mz;let hn:=vK;let y:cF6 z (r6 p^xs.set j v)^RM^bY1 p (LD (·.setIfInBounds j u)) :=
  I.lstUpd J x (QdD c n j u) (r.set rv j) (bA7 hz) s.toks
 by_cases h0:0<=k
 .let e:k.toNat=j:=Ex (cK2 h4) h1 cI6
  show PySem.W.ki_setAt x h0 À (bk6 An hl h4) (Æ e #[_,y,q])
 .let e:OA (k+Ñ c.toArray.size)=j:=by rw[cq1 h3]at h1;rw[An,<- hl];show cI6
  show PySem.W.ki_setBack x À (bk6 An hl h3) À (Æ e #[_,y,q])
def Qbc(c hi:Ć)(n:V):(sliceBounds c hi none n).1=Ñ (rp n 0 c:V)/\(sliceBounds c hi none n).2.1=Ñ (rp n n hi:V)/\(sliceBounds c hi none n).2.2=1:=by
 apply#[?_,?_,Y]
 .cases c with
  |none=>simp[sliceBounds,HT.sIx]
  |some i =>
   simp only[sliceBounds,HT.sIx,Option.getD_none,fP (dm9 >= 0),if_true];by_cases h:i<0
   .simp only[h,if_true]<;>lia
   .simp only[h,if_false]<;>lia
 .cases hi with
  |none=>simp[sliceBounds,HT.sIx]
  |some i =>
   simp only[sliceBounds,HT.sIx,Option.getD_none,fP (dm9 >= 0),if_true];by_cases h:i<0
   .simp only[h,if_true]<;>lia
   .simp only[h,if_false]<;>lia
def gA(c:Ď)(e hi:Ć):slicePick c.toArray e hi none=aA4^cC8 (c.drop^rp bT6 0 e) (rp bT6 bT6 hi-rp bT6 0 e):=by let(h1,h2,h3):=Qbc e hi c.toArray.size;ext slicePick;rw[h1,h2,h3];simp only[sliceRange_one,pick_run,An]<;>rfl
def Qtf(K:Aa):Y1->Ć->Ć->Hp->B6:=λ x c hi H Q=>∃a xs,x=Χ/\cA4/\∀p,cQ6->cX2^r6 p^pR xs c hi
def DZ:SlR X^Qtf X.K:=by
 intro j s σ H x v vl vu lo hi sl Q I rx hs pl pu h;let(a,xs,Y,hx,q):=h;cases rx;let(i,r,e,hz):=wq hx;let c:=mz;apply#[Đ, _,slot_list_getitem.lookup,e.isList.typeIs,?_];apply wpAny_getItem_list_slice e.isList hs pl pu fE Ê ?_ dh9
 rw[gA,<- c];apply#[ϒ,_,I.laid (t':=s.toks) (o:=Ù (pR xs lo hi)) (λ b ob q=>n5 q) Ĕ ?_,Y,q _ bp3];show#[Bi (Ky xs lo hi) hz,_,0,cC8 (r.drop de5) (cx3 ŧ hi-de5),cj2]
def zq:wP Y1
 |.non=>true
 |.bl _=>true
 |.int _=>true
 |.str _=>true
 |_=>false
def eqV:Y1->wP Y1
 |.non,.non=>true
 |.bl a,.bl b=>a==b
 |.bl a,.int b=>É a 1 0==b
 |.int a,.bl b=>a==É b 1 0
 |.int a,.int b=>a==b
 |.str a,.str b=>a==b
 |_,_=>false
def Qpk(i:db4)(c:ch0)(j:bO1 y)(e:bO1 x):SeqAt.EqAt A s u v^eqV y x:=by
 cases y with
 |non =>
  cases i;cases x with
  |non=>cases c;show SeqAt.EqAt.same _
  |bl b=>cases c;show SeqAt.EqAt.none_bool b
  |int b=>let(t,Y):=c;show SeqAt.EqAt.none_int b t
  |str b=>let(t,Y):=c;show SeqAt.EqAt.none_str b t
  |_=>show da9 e By
 |bl a =>
  cases i;cases x with
  |non=>cases c;show SeqAt.EqAt.bool_none a
  |bl b=>cases c;show SeqAt.EqAt.bool_bool a b
  |int b=>let(t,Y):=c;show SeqAt.EqAt.bool_int a b t
  |str b=>let(t,Y):=c;show SeqAt.EqAt.bool_str a b t
  |_=>show da9 e By
 |int a =>
  let(t',Y):=i;cases x with
  |non=>cases c;show SeqAt.EqAt.int_none a t'
  |bl b=>cases c;show SeqAt.EqAt.int_bool a t' b
  |int b=>let(t,Y):=c;show SeqAt.EqAt.int_int a t' b t
  |str b=>let(t,Y):=c;show SeqAt.EqAt.int_str a t' b t
  |_=>show da9 e By
 |str a =>
  let(t',Y):=i;cases x with
  |non=>cases c;show SeqAt.EqAt.str_none a t'
  |bl b=>cases c;show SeqAt.EqAt.str_bool a t' b
  |int b=>let(t,Y):=c;show SeqAt.EqAt.str_int a t' b t
  |str b=>let(t,Y):=c;show SeqAt.EqAt.str_str a t' b t
  |_=>show da9 e By
 |_=>show da9 j By
def eqU(x:Y1)(u:Value):Bool:=match u with
 |.none=>eqV Ě x
 |.bool b=>eqV FH x
 |.int i _=>eqV bs5 x
 |.str z _=>eqV (Õ z) x
 |_=>false
def Hm(r:db4)(f:bO1 y):eqU x u=eqV y x:=by
 cases y with
 |non=>cases r;rfl
 |bl b=>cases r;rfl
 |int i=>let(t,Y):=r;rfl
 |str z=>let(t,Y):=r;rfl
 |_=>show da9 f By
def V6:∀{xs:ś}{us:Ď},bf5->Ĭ ba8->us.any ae9=xs.any λ y=>eqV y x
 |_,_,.nil,_=>Y
 |y::xs,u::us,.cons r t,f=>by rw[Cy,Bb]at f;rw[Cn,Cn,Hm r f.1,V6 t f.2]
def yv(i:ch0)(e:bO1 x):∀{xs:ś}{us:Ď},bf5->Ĭ ba8->∀u∈us,SeqAt.EqAt A s u v (eqU x u)
 |_,_,.nil,_=>az7 u c c
 |y::xs,u::us,.cons r t,f=>λ j c=>by
  rw[Cy,Bb]at f;obtain Y|c:=ny c
  .rw[Hm r f.1];show Qpk r i f.1 e
  .show yv i e t f.2 j c
def inV(x:Y1)(xs:ś):Bool:=xs.any λ y=>eqV y x
def rIn(K:Aa)(c:Bool):R2:=λ x y H Q=>∃p xs,y=cc0/\(ds4∨cx1 p)/\bO1 x/\Ĭ ba8/\Q (ŏ^É c (hV^inV x xs)^inV x xs) H
def QgZ:at8 .In^rIn X.K false:=by
 intro j s σ H x y v u Q I rx ry h;let(p,xs,Y,hq,i,fs,q):=h;cases ry;obtain hq|hq:=hq
 .let(c,r,pl,hz):=cf2;apply SeqAt.in_listAt ae9 pl.isList (λ w e=>yv rx i r fs w aP7) #[db2,H,I,Y,?_];rw[wT<|ar1=cK3,V6 r fs];show q
 .let(c,r,pl,hz):=iP hq;apply SeqAt.in_tupleAt ae9 pl (λ w e=>yv rx i r fs w aP7) #[db2,H,I,Y,?_];rw[wT<|ar1=cK3,V6 r fs];show q
def Qa1:at8 .NotIn^rIn X.K true:=by
 intro j s σ H x y v u Q I rx ry h;let(p,xs,Y,hq,i,fs,q):=h;cases ry;obtain hq|hq:=hq
 .let(c,r,pl,hz):=cf2;apply SeqAt.notIn_listAt ae9 pl.isList (λ w e=>yv rx i r fs w aP7) #[db2,H,I,Y,?_];rw[wT<|ar1=cK3,V6 r fs];show q
 .let(c,r,pl,hz):=iP hq;apply SeqAt.notIn_tupleAt ae9 pl (λ w e=>yv rx i r fs w aP7) #[db2,H,I,Y,?_];rw[wT<|ar1=cK3,V6 r fs];show q
def jU:IL X "len"^λ xs H Q=>∃p e,xs=[cc0]/\(tJ X.K p e∨bI4 H p e)/\Q ↥⇑e H:=by
 intro v s σ H xs us Q I r h;let(p,e,Y,hq,q):=h;let(u,Y,o):=Yt r;cases o;let hn:=vK;obtain hq|hq:=hq
 .let(i,j,pl,hz):=cf2;let c:=cI2;show Calls.call_len_list pl.isList EH #[Í ⇑e,H,ω,#[bx1,Ϗ An c],q]
 .let(i,j,pl,hz):=iP hq;let c:=cI2;show len_tuple pl EH #[Í ⇑e,H,ω,#[bx1,Ϗ An c],q]
def Qah:JB X aI1^λ xs H Q=>∃p j,xs=[cc0]/\(tJ X.K p j∨bI4 H p j)/\∀l,Ŵ l->cD8 l^r6 l j:=by
 intro C s σ H xs us Q I r h;let(p,j,Y,hq,q):=h;let(u,Y,E):=Yt r;cases E;let v:∀(c:Ď),Vals j c->bN9 j->∀(h':Heap)(c':V),(∀b o',aV0>o'->aY0>o') ->
   aV4>{ cls:=aI1, dict:=none,data:=cn2 c',slots:=hZ }->EP X C σ Q ŋ bg5:=λ c i hz h' c' kp e =>
  #[ϒ,_,I.laid (t':=s.toks) kp Ĕ (â (bT8 X.w _ h' _^Ù j) #[hz,c,c',i,e]),Y,q _ bp3]
 obtain hq|hq:=hq
 .let(c,i,pl,hz):=cf2;let x:=df0;let(o,z,y,n,hd):=pl.isList;show call_list_seq p ϊ z y hd (λ h' c' kp e=>v c i hz h' c' kp e) EH
 .let(c,i,pl,hz):=iP hq;let x:=df0;let(o,z,y,n,hd):=pl;show call_list_seq p cG1 z y hd (λ h' c' kp e=>v c i hz h' c' kp e) EH
def zQ:JB X aC0^λ xs H Q=>∃p i,xs=[cc0]/\((tJ X.K p i/\∀l,Ŵ l->cD8 l^Α l^õ i)∨(bI4 H p i/\cX2 H)):=by
 intro x s σ H xs us Q I r h;let(p,i,Y,h):=h;let(u,Y,C):=Yt r;cases C;obtain⟨hq,q⟩|⟨hq,q⟩:=h
 .let(c,j,pl,hz):=cf2;let y:=cI2;apply call_tuple_list pl.isList (Ż h' kp) EH
  let v:cF7 x bg5:=I.kept (t':=s.toks) kp;let z:cF6 x (Α h'.objs.size^õ i)^RM^di0 c.toArray :=
   v.laid (t':=s.toks) (λ b o e=>ay7) Ĕ^â (bT8 X.w _ _ _^õ i) #[hz,c,j,IsTup.new _ _]
  show#[ã h'.objs.size,_,z,Y,q _ (v.hok.fresh Ĕ)]
 .let(c,j,pl,hz):=iP hq;show call_tuple_same pl #[cc0,H,I,Y,q]
def tyV(K:Aa)(T:String)(x:Y1)(H:Hp):ä:=match x with
 |.str _=>T = pS
 |.int _=>T = ba6
 |.ref p=>(T = Đ /\ ∃xs,ds4)∨(T = ŉ /\ ∃o,Ψ p>o/\o.cls=aC0 /\ cQ5) ∨
  (T = ie /\ ((∃kvs,H p>(.dK kvs))∨∃kvs,H p>(.dT kvs)))∨(T = "set" /\ ∃S n,H p>(.set S n))
 |_=>False
def Qra{T:String}(I:Ϣ)(r:ch0)(ty:tyV X.K T x H):
  bs6 v T/\∀a,v=Χ->∃ob,Č a>ob/\ų ob.dict:=by
 cases x with
 |str z =>let(t,Y):=r;cases â (T = pS) ty;show#[typeIs_str s z t,λ_ e=>i7 e]
 |int i =>let(t,Y):=r;cases â (T = ba6) ty;show#[typeIs_int s i t,λ_ e=>i7 e]
 |ref p =>
  cases r;obtain⟨Y,xs,hq⟩|⟨Y,o,j,y,hd⟩|⟨Y,j⟩|⟨Y,S,n,j⟩:=ty
  .let(C,_,pl,_):=cf2
   apply#[pl.isList.typeIs,Ż a e];cases e;let(o,n,e,c,hd,_):=pl;show#[o,e,hd]
  .apply#[#[o,I.kIn p o j,y],Ż a e]
   cases e;show#[o,I.kIn _ o j,hd]
  .let z:∃o,Č p>o/\o.ExactDict:=by
    obtain⟨kvs,j⟩|⟨kvs,j⟩:=j
    .let(_,_,_,_,o,_,_,e,ex,_):=I.hok p _ j
     show#[o,e,ex]
    .let(_,_,_,_,o,_,_,e,ex,_):=I.hok p _ j
     show#[o,e,ex]
   let(o,e,ex):=z;apply#[#[o,e,ex.1],Ż a u];cases u;show#[o,e,ex.2.1]
  .let(o,_,_,_,e,ex,_):=I.hok p _ j
   apply#[#[o,e,ex.1],Ż a u];cases u;show#[o,e,ex.2.1]
 |_=>show CC ty
def tBM(K:Aa)(T:String)(r:Y1->ś->Hp->B6)(to:TE)(t:TA):TE:=λ σ H Q=>to σ H λ x H1=>tyV K T x H1/\t σ H1 λ xs H2=>r x xs H2 Q
variable(_){o e:Expr}{es:Ϡ}{to:TE}{t:TA}{name:Str}{apos cpos:Pos}{T id:String}{r:Y1->ś->Hp->B6}
def Wj(G:PlainAttrs T)(slot:Slot T name id)(i:typeOf cQ9=ï bV3)(E:MtR X id r)(F:a7 o to)(ha:PA X (e::es) t)
  (hbase:OP o name bo1=bo1:=by rfl)
  (hfew:((do9<|e::es).all (λ x=>hV x.1)&&(bE3 cpos).all (λ x=>p9 x.1)
   && Af (⇑(e::es)+⇑([]:ag2)+É (bY2 ([]:ag2)) 0 1) 30)=true:=by rfl)
  (hline:Ĭ<|apos.endLine==cpos.line:=by rfl) (hs:cP5=cv8::bA9:=by rfl) (hplain:ÿ^(do9 es).any ţ:=by rfl) :
  a7 (ES o name apos (e::es) cpos)^tBM X.K T r to t:=by
 intro c s σ H Q I h;apply wpAny_Call_method_late hbase hfew hline Y^jc (F c s σ H _ I h) v O C;let(x,z,j,y,ty,q1):=C;let(h1,h2):=Qra j y ty;apply#[T,id,G,slot,i,h1,h2,?_];let u:=ha cpos c O σ z _ j q1;rw[hs]at u ⊢;apply bk8 (by exact ÿ (false||(do9 es).any ţ);rw[hplain]<;>rfl)^am6 ?_
 show cJ4 u us P vs H2 I2 L Y2 (E c P σ H2 x vs v us Q I2 y L Y2)
#where
def MtM(X:Cx)(id:String)(r:Y1->ś->Hp->B6):ä :=
 ∀(a : Nl)(s : Shared)(σ : St)(H : Hp)(x : Y1)(xs : ś)(v : Value)(us : Ď)(Q : VK), cF9 -> ch0 -> bf5 -> r x xs H Q ->
  ce5 (ae8 id<|v::us) X a σ Q s
def Vals.one:∀{x:Y1}{us:Ď},fx [x]->∃u,us=[u]/\ϳ x:=by
 intro x us h;cases h with
 |cons r t=>cases t;show#[_,Y,r]
def Vals.dropLast{xs:ś}{us:Ď}(h:bf5):Vals xs.dropLast us.dropLast:=by
 induction h with
 |nil=>show i9
 |cons r t a =>
  cases t with
  |nil=>show i9
  |cons q t'=>show Φ r a
variable{X:Cx}{O9:Ef}{σ:St}{H:Hp}{s:Shared}{l:Addr}{xs ys:ś}
def Inv.lset{a its':Ď}{n:V}{f:ļ->ļ}{t':V}(I:Ϣ)(c:cG2 l xs)
  (e:Č l>(bP1^.seq a.toArray n)) (hf:f a.toArray=its'.toArray) (hv:Vals ys its') (hz:bN9 ys) :
  ŗ (r6 l ys)^cK s (bY1 l^LD f) t':=by
 let q:=PySem.IsL.update e f;rw[hf]at q;apply I.write (x:=l) (e:=l) (Æ c trivial) ϊ (λ o u i j=>rV s.heap (LD f) (Ņ i) j) #[_,q] ?_;show#[hz,its',_,hv,q]
def Inv.lnew{t':V}(I:Ϣ)(hv:Vals ys its)(hz:bN9 ys):
  ŗ (r6 s.heap.objs.size ys)^cK s (cC0 its.toArray) t' :=
 I.laid (bF4^n5 q) Ĕ #[hz,its,0,hv,cj2]
def Inv.fresh(I:Ϣ):dp2:=bp3
def Inv.lstM(I:Ϣ)(c:cG2 l xs):dn8/\∃(a:Ď) (n:V),aF7 a/\ŧ=⇑a/\Č l>(bP1^.seq a.toArray n):=by let(z,a,n,r,e):=I.hok l _ c;show#[z,a,n,r,mz,e]
def Qjz{n:V}(h:Ĉ n):ÿ^aG5 n:=ϧ Builtin.List.listTooLong an8
variable{X:Cx}
def BG:Y1->ś->Hp->B6:=λ x vs H Q=>∃l xs y,x=ã l/\vs=[y]/\cG2 l xs/\bv7 ŧ/\Q Ě^r6 l (xs++[y])
def Kh:MtM X cq2 BG:=by intro j s σ H x vs v us Q I rx rv h;let(l,xs,y,Y,Y,c,hz,q):=h;cases rx;let(u,Y,i):=rv.one;let(z,a,n,r,hl,e):=I.lstM c;apply call_meets F.slot_list_append #[_,e,Y] F.entry_list_append (F.args_list_append_2 _ _) (PySem.list_append l a.toArray n u^ĩ An)^bI0 e;apply#[Ě,_,I.lset (its':=a++[u]) c e Ê (r.append^dp3 i) ?_,Y,q];rw[Am,List.length_singleton];lia
def Qno:Y1->ś->Hp->B6:=λ x vs H Q=>∃l b xs a,x=ã l/\vs=[da5]/\cG2 l xs/\cG2 b a/\Ĉ (ŧ+⇑a)/\Q Ě^r6 l (xs++a)
def QgU:MtM X "list.extend" Qno:=by
 intro L s σ H x vs v us Q I rx rv h;let(l,b,xs,O,Y,Y,j,y,hz,q):=h;cases rx;let(u,Y,Y2):=rv.one;cases Y2;let(z,c,n,r,hl,e):=I.lstM j;let(z2,a,E,G,C,o):=I.lstM y;let hsz:Ĉ<|c.toArray.size+a.toArray.size:=ah2 An An
 let i:de9<|hV c.toArray.isEmpty&&aG5 (c.toArray.size+a.toArray.size):=i3 (Qjz hsz) Bool.and_false By
 apply call_meets F.slot_list_extend #[_,e,Y] F.entry_list_extend (F.args_list_extend_2 _ _)
  (AutoSeq1.list_extend_list_list_0 l c.toArray n b a.toArray E i (ĩ An) À) #[e,o,?_]
 apply#[Ě,_,I.lset (its':=c++a) j e Ê (r.append G) ?_,Y,q];rw[Am];lia
#print L2
namespace Att
open PySem PySem.W PySem.Calls PyProof.Rows
def Gc:∀(ns:Ĥ)(vs:Ď),WellAll P h vs^cY5 WData.int->am7 vs:=by
 intro ns;induction ns with
 |nil=>intro vs w;rw[List.map_nil]at w;cases w;show i9
 |cons n ns c =>
  intro vs w;rw[Ba]at w;cases w with
  |cons a b=>cases a;show .cons _ _ (c _ b)
def script_of{l:OpenLaw}{n:V}(hn:l.most>n){P:Params}{h:Heap}{args:Â WData}{c:Ď}
  (hpre:Ĭ^l.row.toRowW.claim.pre args) (hwl:WellAll P h c args) :
  ∃a vs ns,c=[Ϛ a]/\args=[WData.list^cY5 WData.int]/\cd9>cW3/\am7 vs/\sj<=n:=by
 let j:Ĭ^WShape.hasAll [] args [.list .int]:=di1.1;let o:Ĭ^l.pre.holds [] { args:=args }:=di1.2;let(d,r,Y,h1,h2):=hasAllW_cons j;obtain Y:=hasAllW_nil h2;let(xs,Y,h3):=hasW_list h1;let(ns,Y):=items_int h3;let i:sj<=n:=by
  unfold OpenLaw.pre at o;let h4:Ĭ^(WTm.not^.lt (.lit ↥iq)^.len^.arg 0).holds [] { args:=[.list dA] }:=by let h4:=(holds_andW o).1;rw[hn]at h4;show h4
  let h5:=condW_of h4^w_not^w_lt w_lit^w_len_list^w_arg Y;rw[Br]at h5;apply Cs^N1 q;let v:iq<Ñ (sj:V):=À
  first
   | (rw[Ea v] at h5;show Ė h5 Á)
   | (simp at h5;lia)
 cases hwl with
 |cons x y =>
  cases y;cases x with
  |list u e=>show#[_,_,ns,Y,Y,u,Gc ns _ e,i]
def post_true(l:OpenLaw)(args:Â WData):Ĭ^l.row.toRowW.claim.post args af9 args :=
 postW_of (r:=l.row.toRowW) (X:=(true==true))
  (show Ĭ (WShape.has [] af9 .bool) by first|rfl|decide|simp[WShape.has,WShape.arms,WShape.armsAll])
  (â ((WTm.eq .res^.lit af9).value [] { args:=args,res:=í af9,after:=args }>(xk<|true==true))^w_eq_bool (w_res Y) w_lit) Y
def Qs7(h:Heap)(L d:Addr):Nl:=(ĉ h.objs.size).filterMap λ a=>É (a=L∨a=d) none^LL cd9 o (a,o)
#print Att
namespace L2
open PySem PySem.Spec PyProof.Rows
def yX:∀{vs:Ď}{ns:Ĥ},am7 vs->Vals nz vs:=by
 intro vs ns h;induction h with
 |nil=>show i9
 |cons n t h a=>show Φ (mi t) a
def Nk(H:Hp):ä:=∀b,bV6∨∃o xs,H b>(.frz o bN5)
def Qjc{P:Program}{w:World}{K:Aa}{mg R:Eg}{CX:CXT}{k:V}{fa a:Addr}{fd:FuncData}{x:Str}{sp:Sp}{s₁:Shared}{vs:Ď}{ns:Ĥ}
  (KX:K.In s₁.heap) (E:s₁.heap.Ns mainGlobals mg) (i:s₁.heap.Ns builtinsNs R) (O:∀x:Str,tI x -> R x=AI) (hlim:s₁.heap.NoLimit) (hg:s₁.gens = hZ)
  (ha:cK4 a>cW3) (hi:am7 vs) (hl:Ĉ sj) (hr:pB callerA)
  (F:∀O8:Heap,K.In O8->ad0 mg->zO P w K mg O8 CX k fa fd [x] sp) (hbind:bX9 s u Value^bU5 s #[[u],[]] [(x,u)])
  (hsp:∀H:Hp,Nk H->tJ K a nz->sp cJ3 H (λ v _=>v=Ő) wt)
  (hCX:∀H e s',CX [] H s₁ wt e s'->False) :
  codeAny (model P w) callerA (.call ↑fa #[cJ3,[]]) (λ r s'=>r=.ok^.ret af9/\OldK s₁.heap s'.heap/\s'.os=s₁.os/\aa0) s₁:=by
 let rv:=yX hi;let I:=hi.length;let y:∀H:Hp,Nk H->tJ K a nz->bF3 s₁.heap->(∀b,H b≠none->b=a)->(PK≠none->OU a) ->
   codeAny (model P w) callerA (.call ↑fa #[cJ3,[]]) (λ r s'=>r=.ok^.ret af9/\OldK s₁.heap s'.heap/\s'.os=s₁.os/\aa0) s₁:=by
  intro H hO hS hok hA hK;let c:∀{b:Addr}{o:Obj},cK4 b>o->bV6->(cV3).get? b>o:=λ e n=>QiW e n;let U:∀{b:Addr}{o:Obj}{es:Array DictEntry}{ep:V},cK4 b>o->o.data=.dict es ep->bV6:=λ{b o es ep} e d=>by
   cases q:H b with
   |none=>rfl
   |some u=>let L:b=a:=hA b^ψ q;subst L;rw[ha]at e;cases e;let d':Data.seq vs.toArray _=Data.dict es ep:=d;cases d'
  let j:∀{b:Addr}{m:Eg},s₁.heap.Ns b m->(cV3).Ns b m:=λ{b m} #[o,es,ep,e,d,r]=>#[o,es,ep,c e (U e d),d,r];let C:K.In cV3:=λ b o e=>c (KX b o e) (by
   cases q:H b with
   |none=>rfl
   |some u=>let L:b=a:=hA b^ψ q;subst L;rw[hK^ψ q]at e;cases e)
  let hM:Mod K mg cV3:=#[C,j E,#[R,j i,O],let #[mc,h1,h2]:=hlim;#[mc,j h1,h2]];let e0:Env0 P w K mg cV3 callerA [] s₁ H:=#[Y,hM,λ b o e=>QmJ e,az3 (Qgy _ _),trivial,λ b i=>bB5 (b∈([]:Ek)) i Ê,hok,.of_eq hg];apply aA3 ((F _ C^j E).run callerA [] s₁ H #[cJ3,[]] cJ3 cJ3 _ _ hr e0 (hbind s₁ Ű) (dp3 Y)^hsp H hO hS) r s' h;cases r with
  |error e=>show(hCX H e s' h).elim
  |ok fl =>
   cases fl with
   |next=>show CC h
   |brk=>show CC h
   |cont=>show CC h
   |ret u =>
    let(v,H',os,bare,un,G,r',q):=h;let q':v=Ő:=q;subst q';obtain Y:u=bH6 true:=r';apply#[Y,OldK.of_keep (ľ b o e),os,bare];cases q:H b with
    |none=>show un.keep b o e q (by intro z;show bB5 (b∈([]:Ek)) z Ê) Ê
    |some u =>
     obtain z|⟨ob,xs,z⟩:=hO b
     .rw[q]at z;cases z
     .let z2:=un.frzs b ob _ z
      let(e1,_):=hok b _ z;let(e2,_):=G b _ z2;rw[e]at e1;cases e1;show e2
 cases Q:Ψ a with
 |some o=>let e:=KX a o Q;rw[ha]at e;cases e;apply y pA (λ_=>ϊ) (ċ #[_,vs.toArray,_,Q,Y,Y,Y,i3 An I hl,Ë rv]) (λ b u z=>by let Y2:(none:Ï HO)>u:=z;cases Y2) (λ b z=>cu8 z) λ z=>cu8 z
 |none =>
  apply y (λ b=>Dt b a (.frz cW3^Ù nz) none) (N1 b) (ë^cQ4 cW3 pv) (ľ b u z) (Ż b z) λ_=>Q
  .by_cases i:b=a
   .show ċ #[_,_,C8 i]
   .show ë (C7 i)
  .by_cases i:b=a
   .let Y2:=(C8 i).symm.trans z
    cases Y2;subst i;show#[ha,Æ Br hl,vs,_,rv,ha]
   .let Y2:=(C7 i).symm.trans z
    cases Y2
  .by_cases i:b=a
   .show i
   .show Ė (C7 i) z
#print L2
namespace L2
open PySem PySem.Spec PyProof.Rows
def Zj(s:Stmt)(j:V):Stmt:=match s with
 |.ClassDef _ _ _ a _ _ _ _ _ _ _=>a.getD j^.Pass #[0,0,0,0]
 |_=>.Pass #[0,0,0,0]
def Xi(s:Stmt):Arguments:=match s with
 |.FunctionDef _ a _ _ _ _ _ _ _ _=>a
 |_=>{ posonlyargs:=[],args:=[],vararg:=none,kwonlyargs:=[],kw_defaults:=[],kwarg:=none,defaults:=[] }
def Jh(s:Stmt):EM:=match s with
 |.FunctionDef _ _ b _ _ _ _ _ _ _=>b
 |_=>[]
def Q0(s:Stmt):Scope:=match s with
 |.FunctionDef _ _ _ _ _ _ a _ _ _=>a
 |_=>{ kind:=ba1,names:=[],isGenerator:=false,isCoroutine:=false }
abbrev CX0:CXT:=λ_ _ _ _ _ _=>False
abbrev E0:XK:=wt
def Qz:Y9 CX0 X E0:=EV h h.elim
structure Fun(K:Aa)(x qual:Str)(st:Stmt)(f:Addr)(fd:FuncData):ä where
 ex:∃(oc:Value)(od:Nw)(kV doc pm:Value)(an:Nw)(cdv ct:Value)(osl:av5),
  fd=PySem.W.fnOf x qual aL2 ak7 tN fE kV doc pm an cdv ct/\Ψ f>#[oc,od,.func fd,osl]/\EQ K cdv qual
 kp:db6 K
variable{P:Program}{w:World}{K:Aa}{mg:Eg}{O8:Heap}
def Fun.ok{x a:Str}{st:Stmt}{f:Addr}{fd:FuncData}{N ps:č}{k:V}{sp:Sp}(F:Fun K x a st f fd)(S:JO N ps tN)(len:∀vs H Q E,sp vs H Q E->av6=ϣ)
  (hbody:∀(c:Value)(A:Around)(outer:My)(s:Shared)(H:Hp)(vs:ś)(Q:VK)(E:XK),Cl^œ a tN f c->sp vs H Q E ->
   ∃t,PSs (jn CX0 P w K mg O8 N a tN f c A outer s H E).nox ak7 t/\t { nx:=λ_ H'=>Q Ě H',rt:=Q } dh7 H):zO P w K mg O8 CX0 (k+1) f fd ps sp:=by
 let(v,od,kV,j,y,an,c,ct,u,Y,r,e):=F.ex;apply Wt r e S len λ A outer s H vs Q E o i=>?_;let(t,h,q):=hbody c A outer s H vs Q E o i;show#[t,h.nox,q]
def Fun.binds{x a:Str}{st:Stmt}{f:Addr}{fd:FuncData}{ps:č}(F:Fun K x a st f fd)
  (h:∀(kV e i:Value)(an:Nw)(c ct:Value)(us:Ď),bW9=ϣ->aK9 (PySem.W.fnOf x a aL2 ak7 tN fE kV e i an c ct) us []=ï EG):bq9 K []:=by
 let(u,od,kV,e,i,an,c,ct,o,Y,r,j):=F.ex;show .all (h kV e i an c ct)
def HS{x a:Str}{st:Stmt}{f:Addr}{r:Value}{od an:Nw}{j:av5}{kV i o e ct:Value}(l:Ψ f>#[r,od,.func (PySem.W.fnOf x a aL2 ak7 tN fE kV i o an e ct),j])
 (c:EQ K e a) (k:db6 K):Fun K x a st f^PySem.W.fnOf x a aL2 ak7 tN fE kV i o an e ct:=#[#[r,od,kV,i,o,an,e,ct,j,Y,l,c],k]
#where
def Qw{A:Around}{k:V}(a:pB A):aK8 1<cLine:=Bx (Nat.add_le_add_left (Á:1<=64) _) a.units
def oR{A B:ä}(h:B):Ř false A B:=Æ (C7 By) h
def oO{A B:ä}(h:A):Ř true A B:=Æ pv h
#print L2
set_option maxHeartbeats 4000000
namespace L2
open PySem PySem.Spec PyProof.Rows
variable{κ:pZ}[DecidableEq κ]
def YK(kvs:aO5)(k:κ):al8:=bP8^kvs.find? λ a=>FC a.1 k
def xL(kvs:aO5)(k:κ)(v:Y1):aO5 :=
 Ř (bW5 a a.1 k) (FU^cI1 a a.1 k (a.1,v) a)<|kvs++[(k,v)]
def KA(kvs:aO5)(k:κ):aO5:=kvs.filter λ a=>ap5 a.1 k
def uF{p:κ × Y1}{r:aO5}{k:κ}(e:ix=k):YK (p::r) k>p.2:=ak8 YK e
def uE{p:κ × Y1}{r:aO5}{k:κ}(e:¬ ix=k):YK (p::r) k=YK r k:=ak8 YK e
def Qk6(k:κ):∀kvs:aO5,bW5 c c.1 k=p9 aj6:=by
 intro i;induction i with
 |nil=>show Y
 |cons p r a =>
  rw[Cn];by_cases e:ix=k
  .simp only[uF e,Ea e,Bool.true_or,Option.isSome_some]
  .rw[uE e,Ec e,Bool.false_or];show a
def yr(kvs:aO5)(k:κ)(v:Y1):⇑(bF7 k v)<=gi+1:=by
 ext xL;split
 .rw[Br];lia
 .rw[Am,A9,List.length_nil];lia
def RelO.isSome_eq{o:al8}{u:iM}(r:RelO o u):o.isSome=u.isSome:=by
 cases o with
 |none=>cases u with
  |none=>rfl
  |some _=>show bj7 r
 |some _=>cases u with
  |none=>show bj7 r
  |some _=>rfl
def RelO.getD{o:al8}{u:iM}(r:RelO o u)(rd:RelV d d'):RelV (o.getD d)^u.getD d':=by
 cases o with
 |none=>cases u with
  |none=>show rd
  |some _=>show bj7 r
 |some _=>cases u with
  |none=>show bj7 r
  |some _=>show r
def KV.val{kvs:aO5}{vs:bW1}(r:aA1)(k:κ):RelO aj6^aS1 vs:=by
 unfold KV at r;induction r with
 |nil=>show True.intro
 |@cons p q ps c h t i =>
  let(h1,h2):=h;by_cases e:ix=k
  .let a:FO=k:=ab8
   let b:aS1 (q::c)>q.2:=ak8 valueAt a
   rw[uF e,b];show h2
  .let a:¬ FO=k:=λ z=>e aA6
   let b:aS1 (q::c)=aS1 c:=ak8 valueAt a
   rw[uE e,b];show i
def KV.any{kvs:aO5}{vs:bW1}(r:aA1)(k:κ):bW5 a a.1 k=vs.any λ a=>FC a.1 k:=by
 unfold KV at r;induction r with
 |nil=>rfl
 |cons h t c=>rw[Cn,Cn,c,h.1]
def KV.repl{kvs:aO5}{vs:bW1}(r:aA1)(k:κ)(i:db4):
  KV (FU^cI1 a a.1 k (a.1,y) a)^vs.map^cI1 a a.1 k (a.1,u) a:=by
 unfold KV at r ⊢;induction r with
 |nil=>show i9
 |@cons p q ps j h t c =>
  rw[Ba,Ba];apply Φ ?_ c;let(h1,h2):=h;by_cases e:ix=k
  .rw[PM,C8 ab8];show#[h1,i]
  .rw[EF,C7^λ z=>e aA6];show#[h1,h2]
def KV.put{kvs:aO5}{vs:bW1}(r:aA1)(k:κ)(a:db4):KV (bF7 k y)^stored vs k u:=by
 ext xL stored;rw[r.any k];by_cases e:(Ĭ^vs.any λ c=>FC c.1 k)
 .rw[PM,PM];show r.repl k a
 .rw[EF,EF];show Paired.snoc r #[Y,a]
def KV.drop{kvs:aO5}{vs:bW1}(r:aA1)(k:κ):KV (KA kvs k)^without vs k:=by
 unfold KV at r ⊢;ext KA without;induction r with
 |nil=>show i9
 |@cons p q ps j h t c =>
  let(h1,h2):=h;rw[Ar,Ar];by_cases e:ix=k
  .let a:de9 cA0:=Ğ e
   let b:de9^ap5 FO k:=Ğ ab8
   rw[C7 a,C7 b];show c
  .let i:¬ FO=k:=λ z=>e aA6
   let a:Ĭ cA0:=Ğ e
   let b:Ĭ^ap5 FO k:=Ğ i
   rw[C8 a,C8 b];show Φ #[h1,h2] c
def KV.length{kvs:aO5}{vs:bW1}(r:aA1):gi=av6:=ag6
def Qiy(kvs:aO5)(k:κ):⇑(KA kvs k)<=gi:=B9 _ _
#where
def yn{w:World}(r:ϳ bk9):Ĭ^(ZW P w).is k u:=by
 cases k with
 |inl i=>let(t,e):=â (∃t,u=an7 t) r;subst e;show Qb7 P w i t
 |inr x=>let(t,e):=â (∃t,u=aF4 t) r;subst e;show Qb8 P w x t
def QgD{w:World}:∀{ks:Lj}{us:Ď},fx cK5->ItemsAre (ZW P w) ks us:=by
 intro c;induction c with
 |nil=>intro _ r;rw[List.map_nil]at r;cases r;show i9
 |cons k ks a =>
  intro _ r;rw[Ba]at r;cases r with
  |cons h t=>show Φ (yn h) (a t)
abbrev KT(H:Hp):dq7->ι^ç Lj bv4:=Paired λ p q=>ix=FO/\H q.2.1>(õ^mr ix kV)/\RelV p.2 q.2.2
def KT.val{kvs:dq7}{xs:ç Lj bv4}(r:KT H kvs xs)(k:Lj):RelO aj6 (bP8 de2):=by
 induction r with
 |nil=>show True.intro
 |@cons p q ps c h t i =>
  let(h1,_,h2):=h;by_cases e:ix=k
  .let a:FO=k:=ab8
   let b:cq4 (q::c)>q.2:=ak8 atKey a
   rw[uF e,b];show h2
  .let a:¬ FO=k:=λ z=>e aA6
   let b:cq4 (q::c)=cq4 c:=ak8 atKey a
   rw[uE e,b];show i
def KT.repl{kvs:dq7}{xs:ç Lj bv4}(r:KT H kvs xs)(k:Lj)(i:db4):
  KT H (FU^cI1 a a.1 k (a.1,y) a)^sF^putAt k u:=by
 induction r with
 |nil=>show i9
 |@cons p q ps j h t c =>
  rw[Ba,Ba];apply Φ ?_ c;let(h1,h2,h3):=h;ext putAt;by_cases e:ix=k
  .rw[PM,C8 ab8];show#[h1,h2,i]
  .rw[EF,C7^λ z=>e aA6];show#[h1,h2,h3]
def KT.put{H:Hp}{kvs:dq7}{xs:ç Lj bv4}(r:KT H kvs xs)(k:Lj){b:Addr}(c:H b>(õ di2))(a:db4):
  KT H (bF7 k y)^storedH xs k b u:=by
 let e:bW5 i i.1 k=p9 de2:=di3 Qk6 (r.val k).isSome_eq Option.isSome_map
 ext xL storedH;rw[e];by_cases q:(aN7 de2)
 .rw[C8 q,C8 q];show r.repl k a
 .rw[C7 q,C7 q];show Paired.snoc r #[Y,c,a]
def KT.keeps{H H':Hp}{kvs:dq7}{xs:ç Lj bv4}(r:KT H kvs xs)(c:∀b a,H b>(õ a)->co4>(õ a)):KT H' kvs xs :=
 Paired.mapP r λ_ _ z=>#[z.1,c _ _ z.2.1,z.2.2]
variable{P:Program}{w:World}{H:Hp}{h:Heap}{a:Addr}
def X_(ok:bT3)(e:Rd H a u):aF9 w H h a u:=e.ok ok
def Kz{kvs:NA}(ok:bT3)(e:Rd H a^.dK kvs):Ĉ gi/\Op a/\∃vs,aA1/\h.DictOf (ZW P w) a vs :=
 â (aF9 w H h a^.dK kvs)^X_ ok e
def gX{kvs:NA}(ok:bT3)(e:PK>(.dK kvs)):Ĉ gi/\Op a/\∃vs,aA1/\h.DictOf (ZW P w) a vs:=Kz ok cQ0
def VH{ks:Lj}(ok:bT3)(e:PK>(õ cK5)):(aF8 P w).is h ks a:=by let(_,c,r,o,h1,h2,n,h3):=â (aF9 w H h a^õ cK5) (ok a _ e);show#[o,c.toArray,n,h1,h2,h3,Ë (QgD r)]
def G3{kvs:dq7}(ok:bT3)(e:Rd H a^.dT kvs):Ĉ gi/\Op a /\
  ∃xs,KT H kvs xs/\h.DictOfH (aF8 P w) a xs:=by
 let(z,y,xs,r,o,es,ep,h1,h2,h3,h4,h5):=â (aF9 w H h a^.dT kvs) (X_ ok e);apply#[z,y,xs,r,o,es,ep,h1,h2,h3,h4,aQ5,h5];let all:∀{l:dq7}{m:ç Lj bv4},KT H l m->∀x∈m,(aF8 P w).is h x.1 x.2.1:=by
  intro l m q;induction q with
  |nil=>intro x hx;show i7 hx
  |@cons p q ps i hq t c =>
   intro x hx;obtain e|hx:=ny hx
   .subst e
    show VH ok (ì hq.1 hq.2.1)
   .show c x hx
 show all r x hx
def JD{kvs:dq7}(ok:bT3)(e:PK>(.dT kvs)):Ĉ gi/\Op a /\
 ∃xs,KT H kvs xs/\h.DictOfH (aF8 P w) a xs:=G3 ok cQ0
#where
def DGet(H:Hp)(a:Addr)(y:Y1)(r:al8):ä :=
 (∃kvs k,Rd H a^.dK kvs/\y=bk9/\r=aj6)∨∃kvs k b,Rd H a^.dT kvs/\y=da5/\H b>(õ di2)/\r=aj6
def DPut(H:Hp)(a:Addr)(y v:Y1)(c:Hp):ä :=
 (∃kvs k,PK>(.dK kvs)/\y=bk9/\bv7 gi/\c=bT0^bF7 k v) ∨
 ∃kvs k b,PK>(.dT kvs)/\y=da5/\H b>(õ di2)/\bv7 gi/\c=bS9 .dT^bF7 k v
def DGet.k{H:Hp}{a:Addr}{kvs:NA}{k:Key}(e:PK>(.dK kvs)):DGet H a bk9 aj6:=ë #[kvs,k,cQ0,Y,Y]
def DPut.k{H:Hp}{a:Addr}{kvs:NA}{k:Key}{v:Y1}(e:PK>(.dK kvs))(hl:bv7 gi):DPut H a bk9 v^bT0^bF7 k v:=ë #[kvs,k,e,Y,hl,Y]
variable{X:Cx}{O9:Ef}{σ:St}{H:Hp}{s:Shared}{a:Addr}{y v:Y1}{u r:Value}{o:al8}{A:Around}{E:Ee}
def Inv.big(I:Ϣ):Tj sysModules:=by let h:Tj mainGlobals:=(ar0).lt;show Nat.lt_trans Á h
def Qf9{Q:Ee}(G:aK8 1<cLine)(I:Ϣ)(g:DGet H a y bi1)(C:db4)(h:∀w' s',cQ8->RelV v w'->Q w' s'):
  ν A (getItem Ű u) Q E s:=by
 obtain⟨kvs,k,e,j,l⟩|⟨kvs,k,b,e,j,F,l⟩:=g
 .subst j;let(z,hd,vs,c,dd):=bx8 e;let(w',x,i):=bF5 v o (aS1 vs) (Æ l OQ);show wpAny_getItem_of (yn C) dd.mapOf x (h w' _ ω i)
 .subst j;cases â (u=Ϛ b) C;let(z,hd,xs,c,dd):=cj5 e;let(w',x,i):=bF5 v o (bP8 de2) (Æ l OQ);let(p,J,hp2):=ba9 x;apply wpAny_getItem_heap (L7 G) (cj4 F) dd J ?_;rw[hp2];show h w' _ ω i
def QsZ{Q:Ee}(C:aK8 1<cLine)(I:Ϣ)(g:DGet H a y o)(j:db4)(h:∀s',cQ8->Q (xk o.isSome) s'):
  ν A (compareOp .In u Ű) Q E s:=by
 obtain⟨kvs,k,e,i,l⟩|⟨kvs,k,b,e,i,x,l⟩:=g
 .subst i;let(z,hd,vs,c,dd):=bx8 e;apply wpAny_in_of (yn j) hd dd.mapOf ?_;rw[<- bs7,<- l];show h _ ω
 .subst i;cases â (u=Ϛ b) j;let(z,hd,xs,c,dd):=cj5 e;apply wpAny_in_heap (L7 C) (cj4 x) hd dd ?_;let q:=bs7;rw[Option.isSome_map]at q;rw[<- q,<- l];show h _ ω
def QlN{Q:Ee}(C:aK8 1<cLine)(I:Ϣ)(g:DGet H a y o)(j:db4)(h:∀s',cQ8->Q (xk^hV o.isSome) s'):
  ν A (compareOp .NotIn u Ű) Q E s:=by
 obtain⟨kvs,k,e,i,l⟩|⟨kvs,k,b,e,i,x,l⟩:=g
 .subst i;let(z,hd,vs,c,dd):=bx8 e;apply wpAny_notIn_of (yn j) hd dd.mapOf ?_;rw[<- bs7,<- l];show h _ ω
 .subst i;cases â (u=Ϛ b) j;let(z,hd,xs,c,dd):=cj5 e;apply wpAny_notIn_heap (L7 C) (cj4 x) hd dd ?_;let q:=bs7;rw[Option.isSome_map]at q;rw[<- q,<- l];show h _ ω
def Go{h':Heap}{t':V}(I:Ϣ)(mu:Mut PK)(j:dr5 a h')(i:∃q,ζ a>q)(new:bT8 X.w (bC4 ob) h' a ob):
  ŗ (bC4 ob) aC9 :=
 I.write (x:=a) (e:=a) mu ϊ (λ b q c z=>à (j.2 b c) z) i new
def Ia{w:World}{e:Hp}{h':Heap}{kvs:NA}{vs:cv0}(z:Ĉ gi)(hd:Op a)(c:aA1)(dd:h'.DictOf (ZW P w) a vs):
 aF9 w e h' a^.dK kvs:=#[z,hd,vs,c,dd]
def Qga{Q:Unit->ϟ}(R:aK8 1<cLine)(I:Ϣ)(g:DPut H a y v H')(O:db4)(L:RelV v r)(h:∀s',do6 s'->Q () s'):
  ν A (setItem Ű u r) Q E s:=by
 obtain⟨kvs,k,e,C,l,x⟩|⟨kvs,k,b,e,C,G,l,x⟩:=g
 .subst C x;let(z,hd,vs,i,dd):=di4 e;let hz:Ĉ av6:=ì df0 z
  let hl:bN9^bF7 k v:=İ^yr kvs k v
  apply wpAny_setItem_pairs (hsz:=hz) (yn O) dd λ h' j F=>h _ ?_;let P:∃q,ζ a>q:=cE1 q hq j q hq;show Go I cU6 F P (Ia hl hd (i.put k L) j)
 .subst C x;cases â (u=Ϛ b) O;let(z,hd,xs,i,dd):=JD I.hok e;let hz:dn8:=ì (Paired.length i) z
  let hl:bN9^bF7 k v:=İ^yr kvs k v
  apply wpAny_setItem_heap (hsz:=hz) (L7 R) (cj4 G) dd λ h' j F=>h _ ?_;let(q,es,ep,hq,h2,h3,h4,_,h5):=j;apply Go I cU6 F #[q,hq] #[hl,hd,_,(i.put k G L).keeps (ľ c U Y2),q,es,ep,hq,h2,h3,h4,h5];rw[Zb^QrZ Y2 e bS8];show Y2
variable{X:Cx}{O9:Ef}{σ:St}{H:Hp}{s:Shared}{a:Addr}{kvs:NA}{k:Key}{u:Value}{A:Around}{E:Ee}
def Wy{more:Ď}{Q:Ee}(I:Ϣ)(e:PK>(.dK kvs))(y:ϳ bk9)(l:aj6>v)(C:more=[]∨∃x,more=[x])
  (h:∀w' s',ŗ (bT0^KA kvs k) s'->RelV v w'->Q w' s'):ν A (ae8 bl0<|Χ::u::more) Q E s:=by
 let(z,hd,vs,c,dd):=di4 e;let(w',L,r):=bF5 v o (aS1 vs) (ì l OQ);let J:aN7^keyPart u:=by
  cases k with
  |inl i=>let(t,q):=â (∃t,u=an7 t) y;subst q;rfl
  |inr x=>let(t,q):=â (∃t,u=aF4 t) y;subst q;rfl
 let ha:argsOk bl0 #[Χ::u::more,[]]:=by
  obtain q|⟨x,q⟩:=C
  .subst q;show PySem.F.args_dict_pop_2 _ _
  .subst q;show PySem.F.args_dict_pop_3 _ _ _
 apply call_meetsIn PySem.F.slot_dict_pop dd.typeIs PySem.F.entry_dict_pop ha (meets_dict_pop_there am4 a (yn y) more C J)
  #[vs,w',dd,ì bT6 z,L,λ h' j Y2=>h w' _ ?_ r]
 let G:∃q,ζ a>q:=cE1 q hq j q hq;show Go I cU6 Y2 G (Ia (Bi (Qiy kvs k) z) hd (c.drop k) j)
def Qo9{Q:Ee}(I:Ϣ)(e:PK>(.dK kvs))(j:ϳ bk9)(l:ų aj6)(h:∀s',cQ8->Q r s'):
  ν A (ae8 bl0 [Χ,u,r]) Q E s:=by
 let(z,hd,vs,c,dd):=di4 e;let hn:ų^aS1 vs:=RelO.none_of^ì l OQ;let J:aN7^keyPart u:=by
  cases k with
  |inl i=>let(t,q):=â (∃t,u=an7 t) j;subst q;rfl
  |inr x=>let(t,q):=â (∃t,u=aF4 t) j;subst q;rfl
 show call_meetsIn PySem.F.slot_dict_pop dd.typeIs PySem.F.entry_dict_pop (PySem.F.args_dict_pop_3 _ _ _) (meets_dict_pop_default am4 a (yn j) hd J r) #[vs,dd,hn,h _ ω]
def QrC{Q:Ee}(I:Ϣ)(e:Rd H a^.dK kvs)(h:∀t s',cQ8->Q (bp1 gi) s'):ν A (ae8 "len" cJ3) Q E s:=by let(z,hd,vs,c,dd):=bx8 e;apply call_len_dict hd dd (by rw[<- bT6];rw[sizeLine_eq]at z;lia) ?_;rw[<- bT6];show h _ _ ω
#where
def QbE{s:Shared}{a:Addr}{o:al8}(I:Ϣ)(g:DGet H a y o):bs6 Ű ie := by
 obtain⟨kvs,k,e,_,_⟩|⟨kvs,k,b,e,_,_,_⟩:=g
 .let(_,_,vs,_,dd):=bx8 e;show dd.typeIs
 .let(_,_,xs,_,dd):=cj5 e;show dd.typeIs
def QbF{w:World}(h:Heap)(a:sysModules<h.objs.size):aF9 w H (h.push^Ϸ ie^.dict hZ) h.objs.size^.dK [] :=
 #[Fm,ad (Ņ^Be a),[],i9,Heap.DictOf.new h]
def HF:ç TE TE->St->Hp->ι (FD Y1->dC)
 | [],_,H,Q=>Q [] H
 | (tk,a)::r,σ,H,Q=>tk σ H λ x H1=>a σ H1 λ y H2=>HF r σ H2 λ ps H3=>Q ((x,y)::ps) H3
abbrev VV:FD Y1->ι^ae3 Value:=Paired λ p q=>RelV ix FO/\RelV p.2 q.2
def PPs(X:Cx)(pos:Pos)(keys:Â S9)(values:Ϡ)(a:ç TE TE):ä :=
 ∀(O9 : Nl)(s : Shared)(σ : St)(H : Hp)(Q : FD Y1 -> dC), Ϣ -> HF a σ H Q ->
  gL (evalPairs^pairTrees keys values X.env pos) (λ vs s'=>∃ps H',do6 s'/\VV ps vs/\Q ps H') s
def Qna:PPs X pos [] [] []:=λ a s σ H Q I h=>pairTrees_nil_walk #[[],H,I,i9,h]
def Qj1{ks:Â S9}{vs:Ϡ}{a:ç TE TE}(o:a7 k tk)(hv:a7 v tv)(r:PPs X pos ks vs a):
  PPs X pos (í k::ks) (v::vs)<|(tk,tv)::a:=λ c s σ H Q I h =>
 pairTrees_cons_walk^JI (o c s σ H _ I h) λ u G x H1 I1 E q1=>JI (hv c G σ H1 _ I1 q1) λ O Y2 y H2 I2 F z =>
  cJ4 (r c Y2 σ H2 _ I2 z) ws L ps i j e C #[(x,y)::ps,i,j,Φ #[E,F] e,C]
def X7(kvs more:NA):NA:=more.foldl (λ acc a=>xL acc a.1 a.2) kvs
def KV.merge:∀{more:NA}{rs:cv0}{kvs:NA}{vs:cv0},KV more rs->aA1->KV (X7 kvs more)^merged vs rs:=by
 intro more rs kvs vs r;unfold KV at r;induction r generalizing kvs vs with
 |nil=>intro q;show q
 |@cons p q ps i h t a =>
  intro c;let e:KV (bF7 ix p.2)^stored vs FO q.2:=by have:=c.put ix h.2;rw[<- h.1];show this
  show a e
def Vs:∀(more kvs:NA),⇑(X7 kvs more)<=gi+more.length:=by
 intro c;induction c with
 |nil=>intro kvs;exact gi<=gi+0;lia
 |cons p r a=>intro kvs;let h1:=a^bF7 ix p.2;let h2:=yr kvs ix p.2;exact hF^X7 (bF7 ix p.2) r<=_;rw[A9];lia
def Qc7{w:World}:∀{kvs:NA}{ws:ae3 Value},VV (FU^λ e=>(kV e.1,e.2)) ws->∃rs,Carries (ZW P w) ws rs/\aA0 rs:=by
 intro o;induction o with
 |nil=>intro _ r;rw[List.map_nil]at r;cases r;show#[[],True.intro,i9]
 |cons p kvs j =>
  intro _ r;rw[Ba]at r;cases r with
  |@cons a b as bs h t=>let(rs,c,q):=j t;let(u,i):=b;show#[(ix,i)::rs,#[yn h.1,Y,c],Φ #[Y,h.2] q]
structure M1(X:Cx)(o:Expr)(m:Str)(apos:Pos)(e:Expr)(cpos:Pos):ä where
 O8:OP o m bo1=bo1
 few:((do9 [e]).all (λ x=>hV x.1)&&(bE3 cpos).all (λ x=>p9 x.1)
  && Af (⇑([e]:Ϡ)+⇑([]:ag2)+É (bY2 ([]:ag2)) 0 1) 30)=true
 line:Ĭ<|apos.endLine==cpos.line
 trees:do9 [e]=[cv8]
variable{X:Cx}{O9:Ef}{σ:St}{H:Hp}{s:Shared}{a:Addr}{y d:Y1}{u r:Value}{o:al8}{A:Around}{E:Ee}
def Qo7{Q:Ee}(x:aK8 1<cLine)(I:Ϣ)(g:DGet H a y o)(j:db4)(h:∀w' s',cQ8->RelV (o.getD Ě) w'->Q w' s'):
  ν A (ae8 cj6 [Χ,u]) Q E s:=by
 obtain⟨kvs,k,e,i,l⟩|⟨kvs,k,b,e,i,v,l⟩:=g
 .subst i;let(z,hd,vs,c,dd):=bx8 e;apply aq8 dd.typeIs (cK6 _) (meets_dict_get am4 a (yn j) hd) #[_,dd.mapOf,h _ _ ω ?_];rw[l];show r8 OQ Y
 .subst i;cases â (u=Ϛ b) j;let(z,hd,xs,c,dd):=cj5 e;apply aq8 dd.typeIs (cK6 _) (meetsH_dict_get (tupleKind am4) a b hd) #[L7 x,k,xs,cj4 v,dd,h _ _ ω ?_];rw[l];show r8 OQ Y
def Qo8{Q:Ee}(x:aK8 1<cLine)(I:Ϣ)(g:DGet H a y o)(j:db4)(rd:RelV d r)(h:∀w' s',cQ8->RelV (o.getD d) w'->Q w' s'):
  ν A (ae8 cj6 [Χ,u,r]) Q E s:=by
 obtain⟨kvs,k,e,i,l⟩|⟨kvs,k,b,e,i,v,l⟩:=g
 .subst i;let(z,hd,vs,c,dd):=bx8 e;apply aq8 dd.typeIs (PySem.F.args_dict_get_3 _ _ _) (meets_dict_get_default am4 a (yn j) hd r) #[_,dd.mapOf,h _ _ ω ?_];rw[l];show r8 OQ rd
 .subst i;cases â (u=Ϛ b) j;let(z,hd,xs,c,dd):=cj5 e;apply aq8 dd.typeIs (PySem.F.args_dict_get_3 _ _ _) (meetsH_dict_get_default (tupleKind am4) a b hd r) #[L7 x,k,xs,cj4 v,dd,h _ _ ω ?_];rw[l];show r8 OQ rd
variable{X:Cx}
def Qf0:IL X "len"^λ xs H Q=>∃a kvs,xs=[Y1.ref a]/\PK>(.dK kvs)/\Q ↥gi H:=by intro i s σ H xs us Q I r h;let(a,kvs,Y,ha,q):=h;let(u,Y,e):=Yt r;cases e;show QrC I (ë ha) λ t s' c=>#[Í gi,H,c,mi t,q]
#print L2
namespace D
open PySem PySem.Spec PyProof.Rows L2
abbrev St:=L2.St
inductive DV where
 |non|bl (b:Bool)|int (i:Int)|str (x:Str)|tup (xs:Þ)|lst (xs:Þ)|ref (i:V)
inductive OV where
 |lst (xs:Þ)
 |aJ (kvs:f8)
 |ins (c:Str) (fs:ER)
abbrev Hs:=Â OV
abbrev M:=StateT Hs Option
abbrev Em:=bP
mutual
def aA(K:Aa)(ρ:Ek)(B:Ej)(H:Hp):DV->ι Y1
 |.non,v=>v=Ě
 |.bl b,v=>v=FH
 |.int i,v=>v=ft
 |.str x,v=>v=Ϭ
 |.tup ds,v=>∃a xs,v=Χ/\¬ B a/\cx2/\AO
 |.lst ds,v=>∃a xs,v=Χ/\¬ B a/\cA4/\AO
 |.ref i,v=>∃a,v=Χ/\Ů ρ>a
def au(K:Aa)(ρ:Ek)(B:Ej)(H:Hp):Þ->cd7
 | [],xs=>xs=[]
 |d::ds,xs=>∃x r,xs=x::r/\dt2/\oq r
end
def bU(K:Aa)(ρ:Ek)(B:Ej)(H:Hp)(a:Addr):ι OV
 |.lst ds=>∃xs,ez PK xs/\AO
 |.aJ kvs=>∃xs:NA,PK>(.dK xs)/\sF ţ=dq8/\me (FU sK) (sF sK)
 |.ins c fs=>∃(C e:Addr)(xs:be8),š K c>bs1/\PK>(cD1 e xs)/\sF ţ=ag8/\me (fs.map sK) (sF sK)
structure Gr(K:Aa)(ρ:Ek)(B:Ej)(H:Hp)(ρ':Ek)(B':Ej)(H':Hp):ä where
 pre:ρ <+: ρ'
 ban:∀a,B a->B' a
 new:∀a,B' a->B a∨(Ŵ a/\OU a)
 cF:∀a∈ρ',a∈ρ∨Ŵ a
 keep:∀a o,a∉ρ->PK>o->H' a>o
 trk:∀a,ų^H' a->Ŵ a
structure aR(K:Aa)(ρ:Ek)(B:Ej)(J:Hs)(H:Hp):ä where
 len:⇑ρ=wp
 nd:ρ.Nodup
 obj:∀(i:V)(a:Addr)(o:OV),Ů ρ>a->Ů J>o->bU K ρ B H a o
 rb:∀a∈ρ,B a
 bt:∀a,B a->PK≠none
 bk:∀a,B a->OU a
variable{K:Aa}{ρ ρ' ρ'':Ek}{B B' B'':Ej}{H H' sO:Hp}
def Gr.refl:AC K B H ρ B H:=#[Ch,FF h,bq1,bq1,CA h h,FF h]
def Gr.trans(a:bE8)(b:Gr K ρ' B' H' ρ'' B'' sO):AC K B H ρ'' B'' sO where
 pre:=a.pre.trans b.pre
 ban:=λ x h=>b.ban x^a.ban x h
 new:=λ x h=>(b.new x h).elim (a.new x) λ z=>cQ4 (a.trk x z.1) z.2
 cF:=λ x h=>(b.cF x h).elim (a.cF x) λ z=>ċ^a.trk x z
 keep:=λ x o hn h=>b.keep x o (λ z=>(a.cF x z).elim hn^λ z=>į h z z)^a.keep x o hn h
 trk:=λ x h=>a.trk x^b.trk x h
structure Gs(K:Aa)(ρ:Ek)(B:Ej)(H:Hp)(ρ':Ek)(B':Ej)(H':Hp):ä where
 pre:ρ <+: ρ'
 new:∀a,B' a->B a∨(Ŵ a/\OU a)
 keep:∀a o,¬ B a->PK>o->H' a>o
 trk:∀a,ų^H' a->Ŵ a
def Gr.gs(rb:∀a∈ρ,B a)(g:bE8):by5:=#[g.pre,g.new,λ a o c h=>g.keep a o (λ z=>c^rb a z) h,g.trk]
def Gs.refl:by2 ρ B H:=#[Ch,bq1,CA h h,FF h]
def Gs.trans(a:by5)(b:Gs K ρ' B' H' ρ'' B'' sO):by2 ρ'' B'' sO where
 pre:=a.pre.trans b.pre
 new:=λ x h=>(b.new x h).elim (a.new x) λ z=>cQ4 (a.trk x z.1) z.2
 keep:=λ x o c h=>b.keep x o (λ z=>(a.new x z).elim c λ q=>į h q FO)^a.keep x o c h
 trk:=λ x h=>a.trk x^b.trk x h
def SqT.trk{a:Addr}(h:cx2):PK≠none∨∃o,Ψ a>o:=by
 obtain(h|⟨o,h⟩)|⟨o,_,_,h,_⟩:=h
 .show ë db3
 .show ë db3
 .show cQ4 o h
def SqL.trk{a:Addr}(h:cA4):PK≠none∨∃o,Ψ a>o:=by
 obtain(h|⟨o,h⟩)|⟨o,_,_,h,_⟩:=h
 .show ë db3
 .show ë db3
 .show cQ4 o h
def Gs.ok{a:Addr}(g:by5)(c:¬ B a)(t:PK≠none∨∃o,Ψ a>o):¬ B' a:=λ z =>
 (g.new a z).elim c λ#[n,k]=>t.elim (λ q=>q n) λ#[o,q]=>į k q q
def Gs.Dw{a:Addr}(g:by5)(c:¬ B a)(h:cx2):n4 K H' a:=by
 obtain(h|⟨o,h⟩)|h:=h
 .show ë (ë^g.keep _ _ c h)
 .show ë (cQ4 o^g.keep _ _ c h)
 .show ċ h
def Gs.RP{a:Addr}(g:by5)(c:¬ B a)(h:cA4):SqL K H' a xs:=by
 obtain(h|⟨o,h⟩)|h:=h
 .show ë (ë^g.keep _ _ c h)
 .show ë (cQ4 o^g.keep _ _ c h)
 .show ċ h
def BN{i:V}{a:Addr}(p:ρ <+: ρ')(h:Ů ρ>a):Ů ρ'>a:=by let(t,Y):=p;rw[Ag bf2];show h
mutual
def aA.gs(g:by5):∀(d:DV)(v:Y1),bp6->aA K ρ' B' H' d v
 |.non,_,h=>L8 aA h
 |.bl _,_,h=>L8 aA h
 |.int _,_,h=>L8 aA h
 |.str _,_,h=>L8 aA h
 |.ref _,_,h=>by unfold aA at h ⊢;let(a,e,h):=h;show#[a,e,BN g.pre h]
 |.tup ds,_,h=>by unfold aA at h ⊢;let(a,xs,e,c,i,j):=h;show#[a,xs,e,g.ok c (SqT.trk i),g.Dw c i,au.gs g ds xs j]
 |.lst ds,_,h=>by unfold aA at h ⊢;let(a,xs,e,c,i,j):=h;show#[a,xs,e,g.ok c (SqL.trk i),g.RP c i,au.gs g ds xs j]
def au.gs(g:by5):∀(ds:Þ)(xs:ś),AO->au K ρ' B' H' ds xs
 | [],_,h=>L8 au h
 |d::ds,_,h=>by unfold au at h ⊢;let(x,r,e,h1,h2):=h;show#[x,r,e,aA.gs g d x h1,au.gs g ds r h2]
end
def aA.grow(rb:∀a∈ρ,B a)(g:bE8)(d:DV)(v:Y1)(h:bp6):aA K ρ' B' H' d v:=aA.gs (g.gs rb) d v h
def au.grow(rb:∀a∈ρ,B a)(g:bE8)(ds:Þ)(xs:ś)(h:AO):au K ρ' B' H' ds xs:=au.gs (g.gs rb) ds xs h
def au.length:∀{ds:Þ}{xs:ś},AO->ê=ŧ:=by
 intro c;induction c with
 |nil=>intro _ h;unfold au at h;subst h;rfl
 |cons d ds a=>intro _ h;unfold au at h;let(x,r,Y,_,h2):=h;simp[a h2]
def au.get:∀{ds:Þ}{xs:ś}{i:V}{d:DV},AO->FL>d->∃x,bC3>x/\dt2:=by
 intro j;induction j with
 |nil=>intro _ _ _ _ e;simp at e
 |cons d ds a =>
  intro _ c _ h e;cases c with
  |zero=>unfold au at h;let(x,r,Y,h1,_):=h;simp at e;subst e;show#[x,Y,h1]
  |succ i=>unfold au at h;let(x,r,Y,_,h2):=h;let(y,h3,h4):=a h2 aP7;show#[y,Ë h3,h4]
def au.nil:me [] []:=bJ5 au
def au.cons{d:DV}{x:Y1}(h:dt2)(t:AO):me (d::ds)<|x::xs:=ϧ au #[x,xs,Y,h,t]
def au.append:∀{ds es:Þ}{xs a:ś},AO->me es a->me (ds++es) (xs++a):=by
 intro e;induction e with
 |nil=>intro _ _ _ h t;unfold au at h;subst h;show t
 |cons d ds c=>intro _ _ _ h t;unfold au at h;let(x,r,Y,h1,h2):=h;show ah5 h1 (c h2 t)
def au.one(h:dt2):me [d] [x]:=ah5 h au.nil
def au.take:∀(n:V){ds:Þ}{xs:ś},AO->me (aS2 n)^xs.take n:=by
 intro c;induction c with
 |zero=>intro _ _ _;simp;show au.nil
 |succ n a =>
  intro q1 _ h;cases q1 with
  |nil=>unfold au at h;subst h;simp;show au.nil
  |cons d ds=>unfold au at h;let(x,r,Y,h1,h2):=h;show ah5 h1 (a h2)
def au.drop:∀(n:V){ds:Þ}{xs:ś},AO->me (oT n)^xs.drop n:=by
 intro c;induction c with
 |zero=>intro _ _ h;show h
 |succ n a =>
  intro q1 _ h;cases q1 with
  |nil=>unfold au at h;subst h;simp;show au.nil
  |cons d ds=>unfold au at h;let(x,r,Y,h1,h2):=h;show a h2
def Gr.laid{p:Addr}(h:cQ6):AC K B H ρ B^Α p o where
 pre:=Ch
 ban:=FF h
 new:=bq1
 cF:=bq1
 keep:=λ a u _ q=>aV6 q h q
 trk:=λ a q=>by
  by_cases e:a=p
  .subst e;rw[Zc]at q;cases q
  .rw[Zb e]at q;show q
def bU.gs{a:Addr}(g:by5)(r:H' a=PK)(h:bU K ρ B H a o):bU K ρ' B' H' a o:=by
 cases o with
 |lst ds=>let(xs,e,i):=h;show#[xs,di6 e,du8 i]
 |aJ kvs=>let(xs,e,j,i):=h;show#[xs,di6 e,j,du8 i]
 |ins c fs=>let(C,u,xs,v,e,j,i):=h;show#[C,u,xs,v,di6 e,j,du8 i]
def aR.laid{p:Addr}(W:bR4)(h:cQ6):bR3^Α p o where
 len:=W.len
 nd:=W.nd
 obj:=λ i a u e q=>bU.gs ((aG7 h).gs W.rb) (by let c:=W.bt a^W.rb a cY4;show Zb (λ z=>c<|z▸h))^W.obj i a u e q
 rb:=W.rb
 bt:=λ a z q=>W.bt a z^(aw4 K K ρ B B h).trk a q
 bk:=W.bk
#where
inductive Sl where
 |un|val (d:DV)|acc (ds:Þ)
abbrev En:=Â Sl
structure Ent where
 ρ:dm4
 B:ι Addr
 H:Hp
structure bR(K:Aa)(Z:Ent)(env:En)(σ:St)(ρ:Ek)(B:Ej)(J:Hs)(H:Hp):ä where
 gr:Gr K Z.ρ Z.B Z.H ρ B H
 zb:∀a,Z.B a->Z.H a≠none
 wo:bR4
 slot:bT i d DV<|T0>au7->∃v,bo5>bi1/\bp6
 eN:bT i ds Þ<|T0>bu9->∃a xs,bo5>ay2/\ez PK xs/\ų^Z.H a/\B a/\a∉ρ/\AO
 iy:∀(i j:V)(ds es:Þ)(a:Addr),T0>bu9->Iq env>br5->bo5>ay2->Iq σ>ay2->i=j
 len:⇑σ=bH7
def bR.grow{K:Aa}{Z:Ent}(S:bE2)(g:bE8)(W:aR K ρ' B' hp' H'):XP K Z ρ' B' hp' H' where
 gr:=S.gr.trans g
 zb:=S.zb
 wo:=W
 slot:=λ i d e=>let #[v,h1,h2]:=S.slot i d e;#[v,h1,aA.grow S.wo.rb g d v h2]
 eN:=λ i ds e=>by
  let(a,xs,h1,h2,h3,h4,h5,c):=S.eN i ds e;apply#[a,xs,h1,g.keep a _ h5 h2,h3,g.ban a h4,dc7,au.grow S.wo.rb g ds xs c];obtain q|q:=g.cF a z
  .show h5 q
  .rw[h2]at q;cases q
 iy:=S.iy
 len:=S.len
abbrev aD:=bI En
abbrev cH:=En->OB
abbrev cu:=En->cK8
inductive Fl where
 |nx|rt (d:DV)|bk|ct
abbrev aN:=En->M (Fl × En)
def k_(K:Aa)(ρ:Ek)(B:Ej)(H:Hp)(d:DV)(hp':Hs)(Q:VK):ä :=
 ∀v ρ' B' H',bE8->aR K ρ' B' hp' H'->aA K ρ' B' H' d v->Q v H'
def T7(K:Aa)(ρ:Ek)(B:Ej)(H:Hp)(hp':Hs)(Q:dC):ä :=
 ∀ρ' B' H',bE8->aR K ρ' B' hp' H'->Q H'
def QsR(K:Aa)(ρ:Ek)(B:Ej)(H:Hp)(ds:Þ)(hp':Hs)(Q:ś->dC):ä :=
 ∀vs ρ' B' H',bE8->aR K ρ' B' hp' H'->au K ρ' B' H' ds vs->Q vs H'
def tD(K:Aa)(f:aD):TE:=λ σ H Q=>∃Z env ρ B J d hp',bE2/\i0>Tm/\k_ K ρ B H d hp' Q
def iD(K:Aa)(f:cH):TT:=λ σ H Q=>∃Z env ρ B J d hp',bE2/\i0>Tm/\T7 K ρ B H hp'^Q d
def iG(K:Aa)(f:cu):TA:=λ σ H Q=>∃Z env ρ B J ds hp',bE2/\i0>bg6/\QsR K ρ B H ds hp' Q
def DE(X:Cx)(e:Expr)(f:aD):ä:=a7 e^tD X.K f
def DT(X:Cx)(e:Expr)(f:cH):ä:=PT X e^iD X.K f
def DW(X:Cx)(e:Expr)(f:cH):ä:=PW X e^iD X.K f
def DA(X:Cx)(es:Ϡ)(f:cu):ä:=PA X es^iG X.K f
def oY(K:Aa)(Z:Ent)(ρ:Ek)(B:Ej)(H:Hp)(c:Fl)(a:En)(hp':Hs)(D:GI):ä :=
 ∀σ' ρ' B' H', by5 -> bR K Z a σ' ρ' B' hp' H' -> match c with
  |.nx=>D.nx σ' H'
  |.bk=>D.bk σ' H'
  |.ct=>D.ct σ' H'
  |.rt d=>∀v,aA K ρ' B' H' d v->D.rt v H'
def nR(K:Aa)(f:aN):TS:=λ D σ H=>∃Z env ρ B J c a hp',bE2/\i0>(Tk (c,a))/\oY K Z ρ B H c a hp' D
def DS(X:Cx)(st:Stmt)(f:aN):ä:=PS X st^nR X.K f
def lA(X:Cx)(st:EM)(f:aN):ä:=dg4 st^nR X.K f
section
variable(_){X:Cx}
def _root_.L2.PE.imp{t t':TE}(h:a7 e t)(i:∀σ H Q,t' σ H Q->t σ H Q):a7 e t':=λ a s σ H Q I q=>h a s σ H Q I^i σ H Q q
def _root_.L2.PT.imp{t t':TT}(h:PT X e t)(i:∀σ H Q,t' σ H Q->t σ H Q):PT X e t':=λ a s σ H Q I q=>h a s σ H Q I^i σ H Q q
def _root_.L2.PW.imp{t t':TT}(h:PW X e t)(i:∀σ H Q,t' σ H Q->t σ H Q):PW X e t':=λ a O9 s σ H Q I q=>h a O9 s σ H Q I^i σ H Q q
def _root_.L2.PA.imp{es:Ϡ}{t t':TA}(h:PA X es t)(i:∀σ H Q,t' σ H Q->t σ H Q):PA X es t':=λ pos O9 s σ H Q I q=>h pos O9 s σ H Q I^i σ H Q q
def _root_.L2.PS.imp{st:Stmt}{t t':TS}(h:PS X st t)(i:∀Dn σ H,t' Dn σ H->t Dn σ H):PS X st t':=λ a s σ H Dn I q=>h a s σ H Dn I^i Dn σ H q
def _root_.L2.PSs.imp{st:EM}{t t':TS}(h:dg4 st t)(i:∀Dn σ H,t' Dn σ H->t Dn σ H):dg4 st t':=λ a s σ H Dn I q=>h a s σ H Dn I^i Dn σ H q
def Hr(K:Aa)(H:Hp):ä:=∀a o,PK>o->OU a
def Inv.pD(I:Ϣ):Hr X.K H:=λ a o e=>by
 cases q:IE a with
 |none=>rfl
 |some ob=>have:=(I.bs a ob^I.ok.mod.kin a ob q).2;rw[e]at this;cases this
def _root_.L2.PE.kf{t:TE}(h:a7 e t):a7 e^λ σ H Q=>t σ H λ v a=>Hr X.K a->Q v a:=λ i s σ H Q I q =>
 cJ4 (h i s σ H _ I q) u s' v a c r z #[v,a,c,r,z (Inv.pD c)]
def Qh{α β:pZ}{f:cq6}{g:α->M β}{y:β}(h:(f >>= g) J>(Tk y)):∃x hp1,f J>(x,hp1)/\g x hp1>(Tk y):=by
 change (f J).bind (λ p=>g ix p.2)>(Tk y)at h;cases q:f J with
 |none=>rw[q]at h;cases h
 |some p=>rw[q]at h;show#[ix,p.2,Y,h]
def Qm{α:pZ}{x y:α}{J hp':Hs}(h:(cG0:cq6) J>(Tk y)):x=y/\J=hp':=by change í (x,J)>(Tk y)at h;cases h;show rg
def tD.run{K:Aa}{f:aD}{Z:Ent}{Q:VK}(S:bE2)(e:i0>(d,hp1))
  (k:∀v ρ' B' H',bE8->XP K Z ρ' B' hp1 H'->aA K ρ' B' H' d v->Q v H'):tD K f σ H Q :=
 #[Z,env,ρ,B,J,d,hp1,S,e,λ v ρ' B' H' g W r=>k v ρ' B' H' g (di7 g W) r]
def Qb(i:V):aD:=λ env=>match T0 with
 |some (.val d)=>cl5
 |_=>failure
def eC(d:DV):aD:=λ_=>cl5
def Qgk{i:V}{env:En}{J hp':Hs}(h:Qb i env J>Tm):T0>au7/\J=hp':=by
 unfold Qb at h;cases q:T0 with
 |none=>rw[q]at h;cases h
 |some z =>
  rw[q]at h;cases z with
  |val x=>let(Y,Y):=cK9;show rg
  |un=>cases h
  |acc _=>cases h
def o2{a b c:ä}(h:b):a∨b∨c:=ċ FE
def o3{a b c:ä}(h:c):a∨b∨c:=wZ h
def RB(a:Scope)(x:Str):Bool:=(Ö (pw>py)||Ö (pw>aK4)||Ö (pw>bj9))&&hV (x==Ň)&&hV (x==đ bI1)
def Qa(i:V){x:Str}(c:ai9>x:=by rfl)(h:Ĭ^RB X.env.scope x:=by show(Y:Ĭ true)){pos:Pos}:ϓ ae0^Qb i:=by
 simp only[RB,Bb,Bool.or_eq_true,decide_eq_true_eq,Bool.not_eq_true',or_assoc]at h;show(MD c h.1.1 h.1.2 h.2).imp λ σ H Q a=>by let(Z,env,ρ,B,J,d,hp',S,e,k):=a;let(e1,Y):=Qgk e;let(v,h1,h2):=S.slot i d e1;show#[v,h1,LN v S.wo h2]
def xX(h:dp6 e v)(r:∀K ρ B H,bp6):ϓ e^eC d :=
 h.imp λ σ H Q a=>by let(Z,env,ρ,B,J,d',hp',S,e,k):=a;let(Y,Y):=Fn;show LN v S.wo (r _ _ _ _)
def Qp{i:Int}{j pos}:ϓ (τ bs5 j pos)^ġ i:=xX Qqi cg3
def Xc{b:Bool}{j pos}:ϓ (τ (xk b) j pos)^eC FH:=xX Wl cg3
def ZM{j pos}:ϓ (τ fE j pos) fY:=xX Qqj cg3
def QJ{x:Str}{j pos}:ϓ (τ Ϭ j pos)^Ċ x:=xX MG cg3
def QlP{x:Str}{i:Int}{t:Tok}{pos:Pos}(a:dr1)(c:X.mg x>bp2)(hd:cT6:=by decide):ϓ ae0^ġ i :=
 xX (BV (v:=ft) a c (mi t) hd) cg3
def sS(K:Aa)(g:DV->bS):R2:=λ x y H Q=>∃ρ B J a c d hp',bR4/\rS a x/\rS c y/\g a c J>Tm/\k_ K ρ B H d hp' Q
def P2(X:Cx)(f:bR8)(g:DV->bS):ä:=FS f^sS X.K g
def Qg(g:DV->bS)(a b:aD):aD:=IP<|do let x <- bJ2;let y <- b env;g x y
variable(_){a b c:Expr}{fa fb fc:aD}{pos:Pos}
def ya{K:Aa}{g:DV->bS}(h:tD K (Qg g fa fb) σ H Q):tOp (sS K g) (tD K fa) (tD K fb) σ H Q:=by let(Z,env,ρ,B,J,d,hp',S,e,k):=h;let(x,hp1,e1,j):=Ŧ;let(y,hp2,o,z):=Qh j;apply cG8 C^bb1 o^λ u ρ2 i H2 g2 S2 E=>?_;show#[ρ2,i,hp2,x,y,d,hp',S2.wo,ϸ g2 _ _ C,E,z,λ w ρ' B' H' g W r=>k w ρ' B' H' (AY g) W r]
def QC{e:Operator}{g:DV->bS}(j:P2 X (ia e) g)(ha:cC6)(i:ϓ b fb):ϓ (.BinOp a e b pos)^Qg g fa fb :=
 (Qse j ha i).imp^CA h^ya h
def Jj{e:CmpOp}{g:DV->bS}(o:PU X e g)(ha:cC6)(i:ϓ b fb)(j:ad5 e b):ϓ (du9 a [e] [b])^Qg g fa fb :=
 (QmY o ha i j).imp^CA h^ya h
def lO:DV->OB
 |.bl b=>ï b
 |_=>failure
def eB(f:aD):cH:=IP<|do lO (<- ϰ)
def qR{d:DV}{c:Bool}{J hp':Hs}(h:lO d J>(Tk c)):d=ŏ c/\J=hp':=by
 cases d with
 |bl b=>let(Y,Y):=cK9;show rg
 |_=>cases h
def aA.iw{K:Aa}{b:Bool}{v:Y1}(h:rS FH v):v=FH:=iL aA h h
def aA.bx{K:Aa}{b:Int}{v:Y1}(h:rS ↥b v):v=Í b:=iL aA h h
def aA.bK{K:Aa}{b:Str}{v:Y1}(h:rS (Õ b) v):v=Õ b:=iL aA h h
def aA.f9{K:Aa}{v:Y1}(h:rS Ě v):v=Ě:=iL aA h h
def aA.tupI{K:Aa}{B:Ej}{v:Y1}(h:rS rc v):∃a xs,v=Χ/\¬ B a/\cx2/\AO:=iL aA h h
def aA.b_{K:Aa}{B:Ej}{v:Y1}(h:rS ū v):∃a xs,v=Χ/\¬ B a/\cA4/\AO:=iL aA h h
def aA.wN{K:Aa}{ρ:Ek}{i:V}{v:Y1}(h:rS ↑i v):∃a,v=Χ/\Ů ρ>a:=iL aA h h
variable{K:Aa}{ρ:Ek}{B:Ej}{H:Hp}
def Z6{b:Bool}:rS FH FH:=ig
def Jd{b:Int}:rS ↥b ↥b:=ig
def zD{b:Str}:rS (Õ b)^Õ b:=ig
def yS:rS Ě Ě:=ig
def yT{a:Addr}(h1:¬ B a)(h2:cx2)(h3:AO):rS rc Ű:=ϧ aA #[a,xs,Y,h1,h2,h3]
def GA{a:Addr}(h1:¬ B a)(h2:cA4)(h3:AO):rS ū Ű:=ϧ aA #[a,xs,Y,h1,h2,h3]
#where
def JD{e:Expr}(h:cl9)(o:∀whole,cz6 e=bw9 v whole e.pos^aX2 [v] v:=by intro _;rfl):DT X e^eB f :=
 (QqA h o).imp λ σ H Q i=>by let(Z,env,ρ,B,J,d,hp',S,e,k):=i;let(x,hp1,e1,j):=Ŧ;let(Y,Y):=qR j;show cG8 r #[d,r.iw,k ρ1 B1 H1 g1 S1.wo]
def QS{i:CmpOp}{g:DV->bS}(y:PU X i g)(ha:cC6)(r:ϓ b fb)(u:ad5 i b):DT X (du9 a [i] [b])^i4 g fa fb :=
 (Qnh y ha r u).imp λ σ H Q j=>by let(Z,env,ρ,B,J,d,hp',S,e,k):=j;let(x,hp1,e1,o):=Ŧ;let(Y,Y):=qR o;show ya (cG8 z #[d,z.iw,k ρ1 B1 H1 g1 S1.wo])
def Yu(f g:cH):cH:=aa4 ϰ ao3 EN
def iU(f g:cH):cH:=aa4 ϰ be0 ao3
def JM(f:cH):cH:=IP^sQ b ϰ^hV b
def KC(f g:aD):aD:=aa4 (lO (<- ϰ)) ao3^ï ő
def tV(f g:aD):aD:=aa4 (lO (<- ϰ)) (ï Ő) ao3
def Hx(f:aD):aD:=IP<|do let b <- lO (<- ϰ);fz (hV b)
def cU(c:cH)(f g:aD):aD:=aa4 bI3 ϰ ao3
def iD.run{K:Aa}{f:cH}{Z:Ent}{d:Bool}{Q:cH4}(S:bE2)(e:i0>(d,hp1))
  (k:∀ρ' B' H',bE8->XP K Z ρ' B' hp1 H'->Q d H'):iD K f σ H Q :=
 #[Z,env,ρ,B,J,d,hp1,S,e,λ ρ' B' H' g W=>k ρ' B' H' g^di7 g W]
variable(_){ca cb:cH}{rest:Ϡ}
def qw(h:DT X a ca):DW X (aW3 [a]) ca:=Qnm h
def VA(h:DT X a ca):DW X (cm7 [a]) ca:=QqD h
def zR(ha:DT X a ca)(o:DW X cA5 cb):DW X (aW3<|a::aK6)^Yu ca cb :=
 (QqC ha o).imp λ σ H Q j=>by
  let(Z,env,ρ,B,J,d,hp',S,e,k):=j;let(x,hp1,e1,i):=Ŧ;apply iD.run S e1 λ ρ1 B1 H1 g1 S1=>?_;cases x with
  |true=>show oO (iD.run S1 i λ ρ2 B2 H2 g2 S2=>k ρ2 B2 H2 am1 S2.wo)
  |false=>let(Y,Y):=bY3;show oR (k ρ1 B1 H1 g1 S1.wo)
def KB(ha:DT X a ca)(o:DW X cC3 cb):DW X (cm7<|a::aK6)^iU ca cb :=
 (Qsi ha o).imp λ σ H Q j=>by
  let(Z,env,ρ,B,J,d,hp',S,e,k):=j;let(x,hp1,e1,i):=Ŧ;apply iD.run S e1 λ ρ1 B1 H1 g1 S1=>?_;cases x with
  |false=>show oR (iD.run S1 i λ ρ2 B2 H2 g2 S2=>k ρ2 B2 H2 am1 S2.wo)
  |true=>let(Y,Y):=bY3;show oO (k ρ1 B1 H1 g1 S1.wo)
def DW.pt(h:DW X e f):DT X e f:=h _
def Jw(h:DT X a ca):DT X (.UnaryOp .Not a pos)^JM ca :=
 (Qqz h).imp λ σ H Q i=>by let(Z,env,ρ,B,J,d,hp',S,e,k):=i;let(x,hp1,e1,j):=Ŧ;let(Y,Y):=Qm j;show iD.run S e1 λ ρ1 B1 H1 g1 S1=>k ρ1 B1 H1 g1 S1.wo
def U4{e:BoolOp}(h:cC6):cv9^N0 e [a]:=Qql h
def Ib(ha:cC6)(u:ϓ cA5 fb):ϓ (aW3<|a::aK6)^KC fa fb :=
 (Qqf ha u).imp λ σ H Q j=>by
  let(Z,env,ρ,B,J,d,hp',S,e,k):=j;let(x,hp1,e1,o):=Ŧ;let(c,hp2,r,i):=Qh o;let(Y,Y):=qR r;apply cG8 y #[c,y.iw,?_];cases c with
  |true=>show oO (bb1 i^λ v ρ2 B2 H2 g2 S2 z=>k v ρ2 B2 H2 am1 S2.wo z)
  |false=>let(Y,Y):=bY3;show oR (cV9 Z6)
def N6(ha:cC6)(u:ϓ cC3 fb):ϓ (cm7<|a::aK6)^tV fa fb :=
 (x_ ha u).imp λ σ H Q j=>by
  let(Z,env,ρ,B,J,d,hp',S,e,k):=j;let(x,hp1,e1,o):=Ŧ;let(c,hp2,r,i):=Qh o;let(Y,Y):=qR r;apply cG8 y #[c,y.iw,?_];cases c with
  |false=>show oR (bb1 i^λ v ρ2 B2 H2 g2 S2 z=>k v ρ2 B2 H2 am1 S2.wo z)
  |true=>let(Y,Y):=bY3;show oO (cV9 Z6)
def Qpb(ha:cC6):ϓ (.UnaryOp .Not a pos)^Hx fa :=
 (Qqk ha).imp λ σ H Q i=>by let(Z,env,ρ,B,J,d,hp',S,e,k):=i;let(x,hp1,e1,j):=Ŧ;let(c,hp2,o,r):=Qh j;let(Y,Y):=qR o;let(Y,Y):=Qm r;show cG8 u #[c,u.iw,cV9 Z6]
def xY(u:DT X c ca)(ha:cC6)(r:ϓ b fb):ϓ (.IfExp c a b pos)^cU ca fa fb :=
 (QjR u ha r).imp λ σ H Q o=>by
  let(Z,env,ρ,B,J,d,hp',S,e,k):=o;let(x,hp1,e1,j):=Ŧ;apply iD.run S e1 λ ρ1 B1 H1 g1 S1=>?_;cases x with
  |true=>show oO (bb1 j^λ v ρ2 B2 H2 g2 S2 i=>k v ρ2 B2 H2 am1 S2.wo i)
  |false=>show oR (bb1 j^λ v ρ2 B2 H2 g2 S2 i=>k v ρ2 B2 H2 am1 S2.wo i)
def Qk:cu:=λ_=>ï []
def Qc(f:aD)(g:cu):cu:=IP<|do let x <- ϰ;let xs <- ao3;ï (x::xs)
def iG.run{K:Aa}{f:cu}{Z:Ent}{Q:ś->dC}(S:bE2)(e:i0>(ds,hp1))
  (k:∀vs ρ' B' H',bE8->XP K Z ρ' B' hp1 H'->au K ρ' B' H' ds vs->Q vs H'):iG K f σ H Q :=
 #[Z,env,ρ,B,J,ds,hp1,S,e,λ vs ρ' B' H' g W r=>k vs ρ' B' H' g (di7 g W) r]
def Qi:DA X [] Qk:=pa_nil.imp λ σ H Q i=>by let(Z,env,ρ,B,J,ds,hp',S,e,k):=i;let(Y,Y):=Fn;show LN [] S.wo au.nil
def Le:wP Expr
 |.Starred _ _=>false
 |_=>true
def QpZ{e:Expr}{es:Ϡ}(h:Ĭ^Le e):starEach (e::es) env=Ν dt6::starEach es env:=by cases e<;>first|rfl|cases h
def Qd{es:Ϡ}(ha:cl9)(u:DA X es g)(y:Ĭ^Le e:=by show(Y:Ĭ true)):DA X (e::es)^Qc f g :=
 (Xn ha u^QpZ y).imp λ σ H Q i=>by let(Z,env,ρ,B,J,ds,hp',S,e,k):=i;let(x,hp1,e1,j):=Ŧ;let(xs,hp2,o,r):=Qh j;let(Y,Y):=Qm r;show cG8 z (iG.run S1 o λ vs ρ2 B2 H2 g2 S2 C=>k _ ρ2 B2 H2 am1 S2.wo^ah5 (ϸ g2 _ _ z) C)
def lim:V:=Ĺ
def vJ:Ĉ lim:=Á
def QE(c:Bool):cK7:=cP2 c^ï ()
def QI{c:Bool}{J hp':Hs}{u:Unit}(h:QE c J>(Tk u)):Ĭ c/\J=hp':=by
 cases c with
 |true=>let(_,Y):=Qm (â ((ï ():cK7) J>(Tk u)) h);show rg
 |false=>cases h
def XS(ds:Þ):Bool:=A6 ê lim
def jB{ds:Þ}(h:do1 ds):Ĉ ê:=Bi (Eb h) vJ
def ZL(f:cu):aD:=IP<|do let xs <- ϰ;ah6 xs;ï OL
def JH(f:cu):aD:=IP<|do let xs <- ϰ;ah6 xs;al9 xs
def yO{K:Aa}{H:Hp}{Q:VK}(W:bR4)(r:AO)(k:k_ K ρ B H rc J Q):∀p,cQ6->cX2^Α p OL:=λ p hp' =>
 k _ ρ B _ cA2 (W.laid hp')^yT (λ z=>W.bt p z hp') di8^bb0 W.rb cA2 _ r
def qy{K:Aa}{H:Hp}{Q:VK}(W:bR4)(r:AO)(k:k_ K ρ B H ū J Q):∀p,cQ6->cX2^r6 p xs:=λ p hp' =>
 k _ ρ B _ cA2 (W.laid hp')^GA (λ z=>W.bt p z hp') (SqL.of Zc)^bb0 W.rb cA2 _ r
def k_.after{K:Aa}(g:AC K B H ρ1 B1 H1)(k:k_ K ρ B H d hp' Q):k_ K ρ1 B1 H1 d hp' Q:=λ v ρ' B' H' g' W r=>k v ρ' B' H' (g.trans g') W r
def Zh{es:Ϡ}{x1}(h:DA X es f):ϓ (.Tuple es x1 pos)^ZL f :=
 (ME h).imp λ σ H Q j=>by let(Z,env,ρ,B,J,d,hp',S,e,k):=j;let(xs,hp1,e1,o):=Ŧ;let(_,hp2,r,u):=Qh o;let(v,Y):=QI r;let(Y,Y):=Qm u;show bY5 S (λ vs ρ1 B1 H1 g1 S1 i=>#[ì df0 (jB v),yO S1.wo i cf6])
def XI{es:Ϡ}(h:DA X es f):ϓ (.List es pos)^JH f :=
 (Ox h).imp λ σ H Q j=>by let(Z,env,ρ,B,J,d,hp',S,e,k):=j;let(xs,hp1,e1,o):=Ŧ;let(_,hp2,r,u):=Qh o;let(v,Y):=QI r;let(Y,Y):=Qm u;show bY5 S (λ vs ρ1 B1 H1 g1 S1 i=>#[ì df0 (jB v),qy S1.wo i cf6])
#where
#print D
namespace L2
open PySem PySem.Spec PyProof.Rows
def Xu(X:Cx)(scope:Scope)(cl:aV1)(C:Addr)(N:č)(s₀:Shared)(H₀:Hp)(ex:Ek):Cx where
 prog:=X.prog
 w:=X.w
 K:=X.K
 mg:=X.mg
 O8:=X.O8
 A:=X.A
 N:=N
 s₀:=s₀
 H₀:=H₀
 env:=compEnvC scope cl C X.env
 outer:=X.stack
 stack:=X.stack
 ex:=ex
 fn:=λ_=>false
 calm:=X.calm
 pn:=[]
 xe:=Da
def AllP{α:pZ}(P:ι α):ι Fa
 | []=>True
 |x::r=>P x/\AllP P r
def AllP.mem{α:pZ}{P:ι α}:∀{l:Fa}{x:α},AllP P l->x∈l->P x:=by
 intro c;induction c with
 |nil=>intro _ _ h;show i7 h
 |cons y r a=>rintro x ⟨h1,h2⟩ h;show(ny h).elim (λ e=>e▸h1) λ e=>a h2 e
def eV(X:Cx)(scope:Scope)(cl:aV1):č->ι ź
 | [],[]=>True
 | y :: e, i :: a => ai9 = í y /\ (To y = í aK4 ∨ To y = í bj9) /\ (∃c, by8 y = cF5) /\
  ak4 NY y≠í py/\eV X scope cl e a
 |_,_=>False
def eV.get{cl:aV1}:∀{e:č}{o:ź}{j:V}{y:Str},eV X scope cl e o->Iq e>y ->
  ∃i,Iq o>i/\ai9>y/\(To y>aK4∨To y>bj9)/\(∃c,by8 y>c)/\ak4 NY y≠í py
 | [],_,_,_,_,h=>ED
 |y::e,[],_,_,h,_=>di9 h
 |y::e,i::o,0,z,#[h1,h2,h3,h4,_],h=>by simp at h;subst h;show#[i,Y,h1,h2,h3,h4]
 |y::e,i::o,j+1,z,#[_,_,_,_,h5],h=>br9 k a b (eV.get h5^Ë h) #[k,da1,b]
def eV.length{cl:aV1}:∀{c:č}{a:ź},eV X scope cl c a->bT6=⇑a
 | [],[],_=>Y
 | [],_::_,h=>di9 h
 |_::_,[],h=>di9 h
 |_::c,_::a,#[_,_,_,_,h]=>Ğ^eV.length h
structure dX(X:Cx)(x:Str)(scope:Scope)(cl:aV1)(caps:č)(idx:ź):ä where
 clos:closureFor scope X.env=ï cl
 cell:∀y∈scope.names,y.2≠aK4
 kind:scope.kind=ba1
 names:∀y∈scope.names,y.2=py->rn y.1>py
 hx:rn x>py
 cls:AllP (λ p:Str × Addr=>Ŏ ix>p.2) cl
 has:Ĭ^(NY).names.all λ p=>hV (p.2==aK4||p.2==bj9)||p9 (by8 ix)
 cps:eV X scope cl caps idx
 nd:(x::caps).Nodup
structure Og(X:Cx)(scope:Scope)(cl:aV1)(caps:č)(idx:ź):ä where
 clos:closureFor scope X.env=ï cl
 cell:∀y∈scope.names,y.2≠aK4
 kind:scope.kind=ba1
 names:∀y∈scope.names,y.2=py->rn y.1>py
 cls:AllP (λ p:Str × Addr=>Ŏ ix>p.2) cl
 has:Ĭ^(NY).names.all λ p=>hV (p.2==aK4||p.2==bj9)||p9 (by8 ix)
 cps:eV X scope cl caps idx
def cσ(idx:ź)(σ:St)(o:al8):St:=o::cL0 i (bo5).join
def cσs(idx:ź)(σ:St)(os:Â al8):St:=os++cL0 i (bo5).join
def sJ(X:Cx)(a:Ϡ)(t:TT):ä :=
 ∀(O9 : Nl)(s : Shared)(σ : St)(H : Hp)(Q : cH4), Ϣ -> t σ H Q ->
  gL (forIn a true λ c r=>Ř r (sQ ok (ao2 c^æ c)^aS3 ok)^ï^aS3 r) (TP X O9 σ Q) s
def Qni:sJ X []^λ_ H Q=>Q true H:=λ a s σ H Q I h=>wpAny_tests_nil #[H,I,h]
def Qnj{t:TT}(h:PT X c t):sJ X [c] t:=λ a s σ H Q I q=>wpAny_tests_one^h a s σ H Q I q
variable{prog:Program}{w:World}{A:Around}{R:Result->ϟ}{s:Shared}
def Qam{e target a:Expr}{i:Ϡ}{scope:Scope}{pos:Pos}{j acc:Value}{env:Env}(I:V->ϟ)
  (turn:∀n s,I n s->wpAny aQ2 A (pyNext j) (λ r s₁=>match r with
   |none=>R (.ok .next) s₁
   |some v=>wpAny aQ2 A (bI9 target j v) (λ_ s₁'=>wpAny aQ2 A (assign target env v) (λ_ s₂ =>
    wpAny aQ2 A (forIn i true λ c r=>Ř r (sQ ok (isTrue c env^bw8 c)^aS3 ok)^ï^aS3 r) (λ ok s₃ =>
     if Ĭ ok then wpAny aQ2 A dt6 (λ x s₄ =>
      rj w A (ae8 cq2 [acc,x]) (λ_ s₅=>∃m,m<n/\I m s₅) Da s₄) Da s₃
     else ∃m,m<n/\I m s₃) Da s₂) Da s₁') Da s₁) Da s)
  (n:V) (h:I n s) :
  codeAny aQ2 A (.compLoop (aI7 e [#[target,a,i,0]]) 0 j acc env) R s:=by
 apply codeAny_loop Y I (ľ n s hI) n h;exact ű A ((compTurn (aI7 e [#[target,a,i,0]]) 0 j acc env).onRaise^λ x=>do noteFrame x env;theTreesLotGoes x) _ _ s;apply wpAny_noted ?_;rw[compTurn_list];apply bI6^C6^cm0 (turn n s hI) (ľ r s₁ h₁) h';cases r with
 |none=>show C9 h₁
 |some v =>
  apply C6^cm0 h₁ (λ_ s₁' h₁'=>?_) h';apply C6^cm0 h₁' (λ_ s₂ h₂=>C6^cm0 h₂ (ľ ok s₃ h₃) h') h';cases ok with
  |false=>show C9 #[Y,h₃]
  |true=>show aR5 (cm0 h₃ (λ x s₄ h₄=>C6^cm0 h₄ (λ_ s₅ h₅=>dh0 #[Y,h₅]) h') h')
#where
def HJ(K:Aa)(r:TI)(tg:Y1->Hp->ι cd7)(tt:TT)(te:TE)(idx:ź):TE:=λ σ H Q=>r σ H λ Y2 j=>∀D,ų^j D->OU D->∃W:V->V->ś->dC,(∃m,W 0 m [] (upd j D Ο)) /\
 ∀i m a H, W i m a H -> H D = í^Ù a /\ ((Y2.stop i H /\ cD8 D H) ∨ (Y2.go i H /\ ∀x H', Y2.yld i H x H' -> tg x H' λ o => tt (bg7^o.map some) H' λ b H2 =>
  if Ĭ b then te (bg7^o.map some) H2 λ y H3=>ez (H3 D) a/\bv7 ⇑a/\∃e,e<m/\W (i+1) e (a++[y])^upd H3 D^aU5 a [y]
  else ∃e,e<m/\W (i+1) e a H2))
def Hg(K:Aa)(a:TI):TT->TE->ź->TE:=HJ K a λ x _ k=>k [x]
variable{X:Cx}{elt iter:Expr}{x:Str}{ifs:Ϡ}{scope:Scope}{cl:aV1}{pos:Pos}{caps:č}{idx:ź}{wi:TI}{tt:TT}{te:TE}
def gP{xs:č}{gt:TG}{tg:Y1->Hp->ι cd7}{E:Ee}{use:Ï^PC^Sem Unit}{QQ:Ee}{rF:Pos}(S:Og X scope cl caps idx)(hc:dc)(hi:PI X target iter wi)
  (hg:∀C s₀ H₀ ex,PG (cW9<|xs++caps) target gt) (hv:∀σ os H v k,⇑os=ŧ->tg v H k->gt v (bg7 os) H λ σ' L=>∃zs,zs.length=ŧ/\σ'=bg7 bb2/\L=H/\k zs)
  (ht:∀C s₀ H₀ ex,sJ (cW9<|xs++caps) ifs tt) (he:∀C s₀ H₀ ex,PE (cW9<|xs++caps) elt te)
  {O9:Ef} {s:Shared} {σ:St} {H:Hp} {Q:VK} (I:Ϣ) (h:HJ X.K wi tg tt te idx σ H Q)
  (hE:X.xe=E)
  (hend:∀(D C:Addr)(L:Hp)(s':Shared)(m:Eg),ŗ L s'->cD8 D L->s'.heap.Ns C m->ų^L C->fg C->ey C->(∀x c,Ŏ x>c->c≠C)->IQ p (X.pn++O9) (ix≠C) ->
   compPost at9 X.A E use QQ ↑D C (.ok .next) s')
  (hs:∀x,bP5 x=cG0:=by intro _;rfl) :
  dm (comprehension (aX1 [bH5 target 0]) scope X.env rF cq9 false (æ iter) use) QQ E s:=by
 subst hE;apply wpAny_comprehension_free (use:=use) Y hs S.clos S.kind S.names^thn (hi O9 s σ H _ I h) λ xv s1 h1=>jc h1 dr O h2;let(it,fp,tn,Y2,H2,Y,I2,T,b8,U,hQ):=h2;apply wpAny_newObj_type^wpAny_newFunctionEnv S.cell (by intro y hy;simp at hy) (ľ h₁ ae₁ ar₁) S.kind;dsimp only at ae₁ ar₁ ⊢;generalize aa:O.heap.push { cls:=aI1, dict:=none,data:=ci3^aA4 ([]:Ď) }=G at ae₁ ar₁ ⊢;let hC:G.objs.size=O.heap.objs.size+1:=dj0 aa Ci
 let mQ:∀b o,O.heap.get? b>o->G.get? b>o:=λ b o e=>aa▸ay7;let c9:ų^H2 O.heap.objs.size:=I2.hok.fresh Ĕ;let j:ŗ (upd H2 O.heap.objs.size Ο)^Υ O G :=
  I2.laid (t':=O.toks) mQ Ĕ #[Fm,[],_,i9,aa▸cj2]
 let cf:ų cS9:=by
  cases q:cS9 with
  |none=>rfl
  |some o=>show bu1 (Ao^I2.kIn _ o q)
 let(W,(m0,w0),b9):=hQ _ c9 cf;generalize c8:O.heap.objs.size=D at *;generalize sZ:G.objs.size=C at *;let DP:∀b o,G.get? b>o->b≠C:=λ b o e=>ì sZ bj5
 let iQ:∀b o,G.get? b>o->h₁.get? b>o:=λ b o e=>ar₁.extBut b o (DP b o e) ay7;let df:(Υ O G:Shared).heap.objs.size=C:=sZ;let rN:∀y c,by8 y>c->Ŏ y>c:=λ y c e=>S.cls.mem^ot e;let BL:∀b∈fp,∃o,O.heap.get? b>o:=λ b a=>let #[o,e,_]:=T.obj _ _ b8 b a;#[o,e];let Te:∀b∈fp,b≠C:=λ b a=>let #[o,e]:=BL b a;DP b o (mQ b o e);let br:∀b∈fp,b≠D:=λ b a=>let #[o,e]:=BL b a;ì c8 bj5
 let bu:∀b∈fp,ų ((upd H2 D Ο) b):=λ b a=>lr (br b a) (U b a).1
 let rO:∀y c,Ŏ y>c->c≠C:=λ y c e=>let #[v,o,ho,_]:=j.cell y c e;DP c o ho;let pI:∀b∈fp,b∉dz:=λ b a z=>(ny^I2.stkSub b z).elim (U b a).2.1 (U b a).2.2.1
 have R:=am8 X cl C (xs++caps) (Υ O G) (upd H2 D Ο) fp
 let cq:R.Ok:=by
  apply#[j.ok.mod,by exact(NY).kind=_;show S.kind,j.ok.glob,j.ok.blt,fh (G.objs.size<=C) sZ Ĕ,λ y z c h1 h2=>j.ok.inj y z c (rN y c h1)^rN z c h2,Ż y hy,
   λ y c z=>ď z,j.ok.hd,j.ok.frames,ϊ,λ b a=>#[Te b a,λ y c e=>(U b a).2.2.2.2.1 y c^rN y c e],j.bs,Bi j.ok.bsz j.sz,
   mo b o e a,λ b a=>pI b a,j.stack,j.stkFree]
  .let cp:ak4 NY y>aK4∨ak4 NY y>bj9:=hy
   let q:=S.has;rw[List.all_eq_true]at q;have:aN7^by8 y:=by
    obtain z|z:=cp
    .let q:=q _^ot z;simpa using q
    .let q:=q _^ot z;simpa using q
   show cp8 this
  .have:=(U b a).2.2.2.1
   let e3:=(I2.ok.bs b o e).1;obtain z|z:=this
   .show I2.ok.noex b o e z
   .show cB1 (Ao e3) z
 let oF:=⇑S.cps;let I4:Inv R [] (bg7^sF pA) (upd H2 D Ο)<|cK O h₁<|O.toks+⇑([]:ay4):=by
  apply#[cq,Y,j.bare,Un.kept iQ,#[_,ae₁,ba2 i y v e1 e2 e3],ľ y c e,?_,λ y c e=>j.freeC y c^rN y c e,λ p J=>bB5 (p∈([]:Ef)) J Ê,j.hok.kept iQ,?_]
  .let lz:⇑(sF^λ_=>(none:al8))=ŧ:=Br _
   by_cases il:i<ŧ
   .let F:Ů (sF (λ_=>(none:al8))++cL0 i (bo5).join)>bi1:=e2
    rw[Ag^Æ lz il]at F;simp at F
   .let b6:Ů (xs++caps)>y:=e1
    rw[Ap^Cs il]at b6;let(k,h1,h2,h3,(c,h4),h5):=S.cps.get b6;let F:Ů (sF (λ_=>(none:al8))++cL0 i (bo5).join)>bi1:=e2;rw[Ap^Æ lz^Cs il,lz,Bt,h1]at F;let F:(σ[k]?).join>v:=Aj F;let Mu:σ[k]?>bi1:=by
     cases q:σ[k]? with
     |none=>rw[q]at F;cases F
     |some z=>rw[q]at F;show cf3 F
    let(mL,dq,hl):=j.loc;let vis:ao1 y:=by obtain z|z:=h3;show aU9 z;show wZ z
    let(u,r,l):=hl k y v h2 Mu vis;apply#[u,r,ċ #[?_,c,h4,?_]]
    .let be:ak4 NY y>py∨ak4 NY y>aK4∨ak4 NY y>bj9:=e3
     obtain z|z|z:=be
     .show Ė z h5
     .show ë z
     .show ċ z
    .obtain⟨z,_⟩|⟨_,c',e,z⟩:=l
     .obtain q|q:=h3 <;> · rw[q]at z;cases z
     .rw[rN y c h4]at e;cases e
      let(o,ho,hd):=z;show#[o,iQ _ _ ho,hd]
  .let(v,o,ho,hd):=j.cell y c (rN y c e)
   show#[v,o,iQ _ _ ho,hd]
  .show j.hok.fresh (fh (G.objs.size<=C) sZ Ĕ)
  .simp[cσs,R,Xu,oF]
 let wu:tn 0 h₁:=T.keep _ _ _ b8 λ b _ o e=>iQ b o^mQ b o e;let Mq:∀{L:Hp}{P:Ef},IQ b fp^ų^L b->(P=[])->∀b∈fp,Vx R P L b:=λ hn e b a=>bJ1 e #[hn b a,Te b a,pI b a,ë a,λ y c e=>(U b a).2.2.2.2.1 y c^rN y c e,λ p J=>bB5 (p∈([]:Ef)) J Ê]
 let a9:∀s₃:Shared,s₃=cK O h₁ (O.toks+⇑([]:ay4)) ->
   codeAny at9 X.A (.compLoop (aX1 [bH5 target 0]) 0 ↑it ↑D^compEnvC scope cl C X.env) (compPost at9 X.A X.xe use QQ ↑D C) s₃:=by
  rintro s₃ Y;apply Qam (λ n s'=>∃i o L ys,⇑o=ŧ/\Inv R [] (bg7 o) L s'/\tn i s'.heap/\IQ b fp^ų^L b/\W i n ys L) ?_ m0 #[0,_,_,[],Br _,I4,wu,bu,w0];rintro n s5 ⟨i,o,H5,ys,lo,I5,st5,fr5,w5⟩;let(hD,tw):=b9 i n ys H5 w5;obtain⟨stop,q⟩|⟨go,step⟩:=tw
  .apply thn (T.done R Y Y Y hc i [] s5 _ H5 _ I5 (Mq fr5 Y) st5 stop) λ r s6 #[hr,I6]=>?_
   subst hr;let(m6,ci,_):=I6.loc;let I7:ŗ H5 s6:=j.call' (s':=s6) (ch:=fp) I6.os I6.O8 I6.hok I6.bare λ b a=>#[(U b a).2.2.2.1,(U b a).2.1,(U b a).2.2.2.2.1,(U b a).2.2.2.2.2];apply hend D C H5 s6 m6 I7 q ci I6.free ?_ ?_ rO^Ż p J
   .rw[<- sZ];show C0 j.lt
   .rw[<- sZ];show j.sz
   .show DP ix p.2 (j.pin p J).1
  .apply thn (T.item R Y Y Y hc i [] s5 _ H5 _ I5 (Mq fr5 Y) st5 go) λ r s6 #[u,hr,h6]=>?_
   subst hr;apply thn h6 λ_ s7 aH=>?_;let(y,H7,I7,r7,y7,I_,bv):=aH;let bc:=I7.pinned (Mq bv Y)^T.obj _ _ I_;apply thn (hg _ _ _ _ _ s7 _ H7 y u _ bc r7^hv _ _ _ _ _ lo^step y H7 y7) λ_ s8 aH=>?_;let(σ8,H8,I8,zs,lz,e8,bh,cy):=aH;subst e8;subst bh;let again:∀{H9:Hp}{s9:Shared}{aw:ś},Inv R ([]++vZ fp s7.heap) (bg7 bb2) H9 s9->(∃m',m'<n/\W (i+1) m' aw H9) ->
     ∃m,m<n/\∃i o L ys,⇑o=ŧ/\Inv R [] (bg7 o) L s9/\tn i s9.heap/\IQ b fp^ų^L b/\W i m ys L:=λ{H9 s9 aw} I9 #[m',hm,w9]=>by
    apply#[m',hm,i+1,bb2,H9,aw,à (Br _) lz,I9.unpinned,T.keep _ _ _ I_ λ b a o e=>(I9.pin (b,o)^Ai _^Ai _^xh a e).1,Ż b a,w9];let(o,e,d):=T.obj _ _ I_ b a;show(I9.pin (b,o)^Ai _^Ai _^xh a e).2.1
   apply jc (ht _ _ _ _ _ s8 _ H8 _ I8 cy) ok s9 aH;let(H9,I9,q9):=aH;cases ok with
   |false=>show again I9 (Ex (C7 By) q9 q9)
   |true=>rw[pv]at q9 ⊢;apply jc (he _ _ _ _ _ s9 _ H9 _ I9 q9) v Dy aH;let(z,ay,ba,cw,Mi,b7,m',hm,db):=aH;apply JI (Kh (X:=R) _ Dy _ ay ↑D [z] ↑D [v] (λ_ L=>L=upd ay D^aU5 ys [z]) ba Y (dp3 cw) #[D,ys,z,Y,Y,Mi,b7,Y]) λ_ dt _ H11 I11 _ bW=>?_;subst bW;show again I11 #[m',hm,db]
 show codeAny_compStart_list (a9 _ Y) (T.self X.A 0 _ _ _ wu^a9 _ Y)
variable{X:Cx}{elt iter:Expr}{x:Str}{px:Pos}{ifs:Ϡ}{scope:Scope}{cl:aV1}{pos:Pos}{caps:č}{idx:ź}{wi:TI}{tt:TT}{te:TE}
def QjP{xs:č}{gt:TG}{tg:Y1->Hp->ι cd7}(S:Og X scope cl caps idx)(z:dc)(hi:PI X target iter wi)
  (hg:∀C s₀ H₀ ex,PG (cW9<|xs++caps) target gt) (hv:∀σ os H v k,⇑os=ŧ->tg v H k->gt v (bg7 os) H λ σ' a=>∃j,cI2=ŧ/\σ'=bg7^j.map some/\a=H/\k j)
  (ht:∀C s₀ H₀ ex,sJ (cW9<|xs++caps) ifs tt) (he:∀C s₀ H₀ ex,PE (cW9<|xs++caps) elt te)
  (i:∀x,bP5 x=cG0:=by intro _;rfl):a7 (aX1 [bH5 target 0])^HJ X.K wi tg tt te idx:=by
 intro r s σ H Q I h;rw[eval_ListComp];apply gP (use:=none) S z hi hg hv ht he I h Y (λ D C a s' m I' q hn u h1 h2 h3 h4=>?_) i;exact ∃m,s'.heap.Ns C m/\∀h',PQ C s'.heap h'->EP X r σ Q ↑D^Υ s' h';show#[m,hn,λ h' i=>#[ã D,a,I'.turned (t':=s'.toks) (λ b o y e=>i.extBut b o y e) u (Ņ^Ņ h1) (ċ h2) h3 h4,Y,q]]
def dX.g(S:dX X x scope cl caps idx):Og X scope cl caps idx:=#[S.clos,S.cell,S.kind,S.names,S.cls,S.has,S.cps]
def dX.tg(S:dX X x scope cl caps idx)(C:Addr)(s₀:Shared)(H₀:Hp)(ex:Ek):PG (cW9<|[x]++caps) aW2^ki 0:=BU (i:=0) S.nd Y (ë by9)^ċ by9
def ML(σ:St)(os:Â al8)(H:Hp)(v:Y1)(k:cd7)(e:⇑os=1)(h:k [v]):ki 0 v (bg7 os) H λ σ' H'=>∃a,⇑a=1/\σ'=bg7^a.map some/\H'=H/\k a:=by let(o,Y):=cL1 e;show#[[v],Y,Y,Y,h]
def QmZ(S:dX X x scope cl caps idx)(a:dc)(hi:PI X aW2 iter wi)
  (ht:∀C s₀ H₀ ex,sJ (cW9<|x::caps) ifs tt) (he:∀C s₀ H₀ ex,PE (cW9<|x::caps) elt te)
  (hs:∀x,bP5 x=cG0:=by intro _;rfl):a7 (aX1 [cB4 0])^Hg X.K wi tt te idx :=
 QjP (xs:=[x]) S.g a hi S.tg ML ht he hs
def Qne{i:V}{y:Str}{r j:Pos}(S:dX X x scope cl caps idx)(O:dc)(hi:PI X aW2 iter wi)
  (ht:∀C s₀ H₀ ex,sJ (cW9<|x::caps) ifs tt) (he:∀C s₀ H₀ ex,PE (cW9<|x::caps) elt te)
  (hN:X.N.Nodup) (hy:ai9>y) (hx:l9 y) (hsw:eW (aX1 [cB4 0]) (í^ķ y r) j.line=be0)
  (hf:Lq y∨Ŭ y>py:=by first|show ϊ|show cG1|assumption)
  (u:∀x,bP5 x=cG0:=by intro _;rfl):PS X (bj4 [ķ y r] (aX1 [cB4 0]) j)^Et (Hg X.K wi tt te idx)^ki i:=by
 intro E s σ H D I h;rw[exec_Assign_Name_used _ _ _ _ hsw];apply bI6 bI5;exact ű X.A (do let _ <- comprehension (aX1 [cB4 0]) scope X.env _ cq9 false (æ iter) (í^bU2^ķ y r)) _ _ s;apply C6^Ϥ (gP (xs:=[x]) (use:=í (bU2^ķ y r)) (QQ:=λ_ s'=>SP X E D .next s') S.g O hi S.tg ML ht he I (â (Hg X.K wi tt te idx σ H _) h) Y (λ z C F s' m I' q hn Y2 h1 h2 h3 h4=>?_) u) (λ_ s' hq=>dh0 hq) e e;exact ű X.A (cY2 (ķ y r) ↑z) (λ_ c=>∃m,c.heap.Ns C m/\∀h',PQ C c.heap h'->SP X E D .next^Υ c h') _ s';apply wpAny_assign_Name^kN I' hN hy hx (v:=ã z) Y (ľ c I'' G) hf;let(a,u,ha):=G;apply#[m,hn.sameBut u ?_,λ h' hs'=>#[_,F,I''.turned (t':=c.toks) (λ b o L e=>hs'.extBut b o L e) Y2 h1 (ċ h2) h3 h4,q]];obtain Y|ha:=ha
 .show h1
 .show Ņ (h3 _ _ ha)
#print L2
namespace D
open PySem PySem.Spec PyProof.Rows L2
variable{K:Aa}{Z:Ent}{env:En}{σ:St}{ρ:Ek}{B:Ej}{J:Hs}{H:Hp}
def bR.set{i:V}(S:bE2)(r:bp6):bR K Z aJ9 (ag9 i v) ρ B J H where
 gr:=S.gr
 zb:=S.zb
 wo:=S.wo
 slot:=λ j e h=>by
  by_cases c:j=i
  .subst c;let hl:j<bH7:=Ϯ bf2
   rw[ba3]at h;cases h;show#[v,As (Æ S.len hl),r]
  .rw[iO c]at h ⊢;show S.slot j e h
 eN:=λ j ds h=>by
  by_cases c:j=i
  .subst c;let hl:j<bH7:=Ϯ bf2
   rw[ba3]at h;cases h
  .rw[iO c]at h ⊢;show S.eN j ds h
 iy:=λ j k ds es a h1 h2 h3 h4=>by
  let o:bH3 j ds Þ<|Iq aJ9>bu9->j≠i:=λ{j ds} h e=>by
   subst e;let hl:j<bH7:=Ϯ bf2
   rw[ba3]at h;cases h
  let c:=o h1;let u:=o h2;rw[iO c]at h1 h3;rw[iO u]at h2 h4;show S.iy j k ds es a h1 h2 h3 h4
 len:=Ğ S.len
variable{X:Cx}{e a b c:Expr}{f:aD}{ca:cH}{pos:Pos}{st:Stmt}{rest:EM}{s s':aN}
def oY.after{K:Aa}{Z:Ent}{i:Fl}{D:GI}(g:by2 ρ1 B1 H1)(k:oY K Z ρ B H i env' hp' D):oY K Z ρ1 B1 H1 i env' hp' D :=
 λ σ' ρ' B' H' g' S=>k σ' ρ' B' H' (g.trans g') S
def Q3:aN:=IP^ï rr
def Qq(f g:aN):aN:=λ env=>do
 let r <- ϰ
 match r.1 with
 |.nx=>g r.2
 |_=>ï r
def aL(c:cH)(f g:aN):aN:=aa4 bI3 ϰ ao3
def QG(f:aD):aN:=IP^sQ d ϰ (.rt d,env)
def Zy(f:aD):aN:=IP<|do let _ <- ϰ;ï rr
def QR(i:V)(f:aD):aN:=IP^sQ d ϰ^ō aJ9
def QA:lA X [] Q3:=pss_nil.imp λ D σ H j=>by let(Z,env,ρ,B,J,o,i,hp',S,e,k):=j;let(e1,Y):=Fn;cases e1;show k σ ρ B H Gs.refl S
def Qkv{K:Aa}{D:GI}(h:nR K (Qq s s') D σ H):TV (nR K s) (nR K s') D σ H:=by
 let(Z,env,ρ,B,J,v,i,hp',S,e,k):=h;let((u,aF),hp1,e1,r):=Ŧ;apply#[Z,env,ρ,B,J,u,aF,hp1,S,e1,ba2 σ' ρ' j H' g o];cases u with
 |nx=>show#[Z,aF,ρ',j,hp1,v,i,hp',o,r,Fu g]
 |rt d=>let(z,Y):=Qm r;cases z;show k σ' ρ' j H' g o
 |bk=>let(z,Y):=Qm r;cases z;show k σ' ρ' j H' g o
 |ct=>let(z,Y):=Qm r;cases z;show k σ' ρ' j H' g o
def Qf(h1:DS X st s)(h2:lA X rest s'):lA X dd4^Qq s s':=(v0 h1 h2).imp^CA h^Qkv h
def Qn(h1:DS X st s):lA X [st] s:=BI h1
def Q2{x y:EM}(z:DT X c ca)(h1:lA X x s)(h2:lA X y s'):DS X (.If c x y pos)^aL ca s s' :=
 (Y_ z h1 h2).imp λ D σ H v=>by
  let(Z,env,ρ,B,J,u,i,hp',S,e,k):=v;let(x,hp1,e1,r):=Ŧ;apply iD.run S e1 λ ρ1 j H1 g1 o=>?_;cases x with
  |true=>show oO #[Z,env,ρ1,j,hp1,u,i,hp',o,r,Fu kx]
  |false=>show oR #[Z,env,ρ1,j,hp1,u,i,hp',o,r,Fu kx]
def Qs(h:cl9):DS X (.Return bB4 pos)^QG f :=
 (MT h).imp λ D σ H j=>by let(Z,env,ρ,B,J,u,i,hp',S,e,k):=j;let(d,hp1,e1,o):=Ŧ;let(z,Y):=Qm o;cases z;show cG8 r (k σ ρ1 B1 H1 kx S1 v r)
def Zr(h:cl9)(r:aD0 e none=EN:=by rfl):DS X (.Expr e pos)^Zy f :=
 (BM h r).imp λ D σ H j=>by let(Z,env,ρ,B,J,u,i,hp',S,e,k):=j;let(d,hp1,e1,o):=Ŧ;let(z,Y):=Qm o;cases z;show cG8 x (k σ ρ1 B1 H1 kx S1)
def Qcv{K:Aa}{D:GI}{σ:St}{i:V}{t:TE}(r:∀σ H Q,tD K f σ H Q->t σ H Q)(h:nR K (QR i f) D σ H):Et t (ki i) D σ H:=by let(Z,env,ρ,B,J,x,j,hp',S,e,k):=h;let(d,hp1,e1,o):=Ŧ;let(z,Y):=Qm o;cases z;show r _ _ _ (cG8 u^k _ ρ1 B1 H1 kx^S1.set u)
def Qx(i:V){x:Str}{j:Pos}(o:X.N.Nodup)(r:cl9)(hi:ai9>x:=by rfl)(hx:l9 x:=by first|show bF8|show cr0)(u:aD0 e^í^Lu j=EN:=by rfl)
  (hf:Lq x∨Ŭ x>py:=by first|show ϊ|show cG1|assumption):DS X (dt0 [Lu j] e)^QR i f :=
 (Ow o hi hx r u hf).imp^CA h^Qcv (CA q q) h
abbrev mj:=DV->En->M En
def Dv(K:Aa)(g:mj):TG:=λ v σ H Q=>∃Z env ρ B J d i hp',bE2/\bp6/\g d env J>(Tk i)/\∀σ' ρ' B' H',by5->bR K Z i σ' ρ' B' hp' H'->Q σ' H'
def gN(i:V):mj:=λ d env=>ï aJ9
def Xj(i:V){x:Str}(y:X.N.Nodup)(hi:ai9>x:=by rfl)(hx:l9 x:=by first|show bF8|show cr0)(hf:Lq x∨Ŭ x>py:=by first|show ϊ|show cG1|assumption):PG X ae0^Dv X.K^gN i:=by intro o s σ H v u Q I r h;apply BU y hi hx hf o s σ H v u Q I r ?_;let(Z,env,ρ,B,J,d,j,hp',S,rd,e,k):=h;let(Y,Y):=Fn;show k _ ρ B H Gs.refl (S.set rd)
def kW(K:Aa)(ρ:Ek)(B:Ej)(H:Hp)(ds:Þ)(Y2:It):ä :=
 ∀ρ1 r j,by2 ρ1 r j->IQ b ρ1^r b->(∀a,r a->j a≠none)->bT i d DV (FL>d->Y2.go i j/\∀x u,Y2.yld i j x u->aA K ρ1 r u d x/\(u=j∨∃p o,ų^j p/\u=upd j p o))/\Y2.stop ê j
abbrev mZ:=En->cK8
def tDI(K:Aa)(f:mZ):TI:=λ σ H R=>∃Z env ρ B J ds hp',bE2/\i0>bg6/\∀Y2 ρ' B' H',bE8->aR K ρ' B' hp' H'->kW K ρ' B' H' ds Y2->R Y2 H'
def DI(X:Cx)(tg i:Expr)(f:mZ):ä:=PI X tg i^tDI X.K f
def T_:DV->cK8
 |.lst ds=>cu5
 |_=>failure
def gD:DV->cK8
 |.tup ds=>cu5
 |_=>failure
def CQ(f:aD):mZ:=IP<|do T_ (<- ϰ)
def lK(f:aD):mZ:=IP<|do gD (<- ϰ)
def QgS{d:DV}{J hp':Hs}(h:T_ d J>bg6):d=ū/\J=hp':=by
 cases d with
 |lst xs=>let(Y,Y):=cK9;show rg
 |_=>cases h
def Kv{d:DV}{J hp':Hs}(h:gD d J>bg6):d=rc/\J=hp':=by
 cases d with
 |tup xs=>let(Y,Y):=cK9;show rg
 |_=>cases h
def Sj{K:Aa}{B:Ej}{a:Addr}(v:¬ B a)(C:cA4)(z:AO):kW K ρ B H ds^Itl K a:=λ ρ1 B1 H1 g _ _=>by let j:=g.RP v C;let o:=du8 z;apply#[ľ i d e,xs,j,Æ ⇑o Ĕ];let(x,hx,r):=o.get e;apply#[#[xs,x,j,hx],λ y H' #[u,q]=>?_];subst u;have:=q xs j;rw[hx]at this;cases this;show#[r,ϊ]
def QpD{K:Aa}{B:Ej}{a:Addr}(v:¬ B a)(C:cx2)(z:AO):kW K ρ B H ds^Itt K a:=λ ρ1 B1 H1 g _ _=>by let j:=g.Dw v C;let o:=du8 z;apply#[ľ i d e,xs,j,Æ ⇑o Ĕ];let(x,hx,r):=o.get e;apply#[#[xs,x,j,hx],λ y H' #[u,q]=>?_];subst u;have:=q xs j;rw[hx]at this;cases this;show#[r,ϊ]
def Zl(j:Int)(n:V):Þ:=mx n^λ(i:V)=>Í<|j+A4
def Qi5{K:Aa}{j:Int}{n:V}:kW K ρ B H (Zl j n)^Itr j n:=λ ρ1 B1 H1 g _ _=>by
 apply#[ľ i d e,by exact n<=_;simp[Zl]];let hi:i<n:=mm cQ7 Zl
 apply#[hi,λ y H' #[o,q]=>?_];subst o q;have:d=Í (j+i):=by simp[Zl,hi]at e;show e.symm
 subst this;show#[Jd,ϊ]
variable(_){tg iter:Expr}
def _root_.L2.PI.imp{o j:TI}(h:PI X tg iter o)(i:∀σ H R,j σ H R->o σ H R):PI X tg iter j:=λ r s σ H R I q=>h r s σ H R I^i σ H R q
def Re(h:cC2):DI X tg iter^CQ f:=(BS h).imp λ σ H R j=>by let(Z,env,ρ,B,J,ds,hp',S,e,k):=j;let(d,hp1,e1,o):=Ŧ;let(Y,Y):=QgS o;apply cG9 u;let(a,xs,Y,r,i,x):=u.b_;show#[a,Y,#[xs,i],cV9 (Sj r i x)]
def U6(h:cC2):DI X tg iter^lK f:=(Qqs h).imp λ σ H R j=>by let(Z,env,ρ,B,J,ds,hp',S,e,k):=j;let(d,hp1,e1,o):=Ŧ;let(Y,Y):=Kv o;apply cG9 u;let(a,xs,Y,r,i,x):=u.tupI;show#[a,Y,#[xs,i],cV9 (QpD r i x)]
def jh(j:Int):Bool:=Ö<|-aC4<=j/\j<aC4
def tL:Þ->cK8
 | [.int j]=>do QE (jh j);ï (cr1 j.toNat)
 |_=>failure
def Er:Þ->cK8
 | [.int i,.int j]=>do QE (jh i&&jh j);ï (Zl i<|OA<|j-i)
 |_=>failure
def Gb(f:cu):mZ:=IP<|do tL (<- ϰ)
def Qho{ds out:Þ}{J hp':Hs}(h:tL ds J>(Tk out)):∃j:Int,ds=[bN3]/\Ĭ^jh j/\out=cr1 j.toNat/\J=hp':=by
 unfold tL at h;split at h
 .let(u,hp1,e1,i):=Qh h;let(h1,Y):=aL3;let(Y,Y):=bY3;show#[_,Y,h1,Y,Y]
 .cases h
def Qhp{ds out:Þ}{J hp':Hs}(h:Er ds J>(Tk out)):∃i j:Int,ds=[ft,bN3]/\Ĭ^jh i/\Ĭ^jh j/\out=Zl i^OA (j-i)/\J=hp':=by
 unfold Er at h;split at h
 .let(u,hp1,e1,o):=Qh h;let(h1,Y):=aL3;let(Y,Y):=Qm o;rw[Bb]at h1;show#[_,_,Y,h1.1,h1.2,Y,Y]
 .cases h
def au.ints1{K:Aa}{j:Int}{vs:ś}(h:me [bN3] vs):vs=[bN3]:=by unfold au at h;let(x,r,Y,h1,h2):=h;unfold au at h2;rw[h1.bx,h2]
def au.ints2{K:Aa}{i j:Int}{vs:ś}(h:me [ft,bN3] vs):vs=[ft,bN3]:=by unfold au at h;let(x,r,Y,h1,h2):=h;rw[h1.bx,h2.ints1]
def XC{x:Expr}{p:Pos}{f:cu}(u:L6 bp)(v:cj bp)(ha:DA X [x] f)(y:Î [x]=[Ξ x]:=by rfl):DI X tg (bg8 bp [x])^Gb f :=
 (Qg7 u v ha y).imp λ σ H R o=>by let(Z,env,ρ,B,J,ds,hp',S,e,k):=o;let(d,hp1,e1,r):=Ŧ;let(j,Y,h1,Y,Y):=Qho r;apply bY5 S^λ vs ρ1 B1 H1 g1 S1 z=>?_;let i:=Eb h1;show#[j,z.ints1,i.1,i.2,cV9 Qi5]
def zW(b:DV->aN):Þ->aN
 | [],env=>ï rr
 |d::ds,env=>do
  let r <- b d env
  match r.1 with
  |.nx=>zW b ds r.2
  |.ct=>zW b ds r.2
  |.bk=>bo2 r.2
  |.rt x=>ï (.rt x,r.2)
def WO{K:Aa}{B:Ej}{H:Hp}{p:Addr}(rb:∀a∈ρ,B a)(h:cQ6):by2 ρ B^Α p o:=(aG7 h).gs rb
def Xh(c:cH)(b:aN):V->aN
 |0,_=>failure
 |n+1,env=>do
  if <- bI3 then
   let r <- b env
   match r.1 with
   |.nx=>Xh c b n r.2
   |.ct=>Xh c b n r.2
   |.bk=>bo2 r.2
   |.rt x=>ï (.rt x,r.2)
  else ï rr
def Uc(n:V){i:EM}(J:bI8 at9 X.A X.xe)(U:DT X c ca)(R:lA X i sb):DS X (.While c i [] pos)^Xh ca sb n :=
 (Qj7 J U R).imp λ D σ H L=>by
  let(Z,env,ρ,B,J,Y2,j,hp',S,e,k):=L;apply#[λ m σ H1=>∃aF ρ1 o hp1,bR X.K Z aF σ ρ1 o hp1 H1/\by1 X.K ρ1 o H1/\Xh ca sb m aF hp1>(Tk (Y2,j)),#[n,env,ρ,B,J,S,Gs.refl,e],?_];rintro m σ H1 ⟨aF,ρ1,o,hp1,S1,g1,e1⟩;cases m with
  |zero=>cases e1
  |succ m =>
   let(x,hp2,O,G):=Qh e1;apply iD.run S1 O λ ρ2 E H2 g2 S2=>?_;let F:=ϱ^g2.gs S1.wo.rb;cases x with
   |false=>let(z,Y):=Qm G;cases z;show oR (k σ ρ2 E H2 F S2)
   |true =>
    let((I,C),y,P,v):=Qh G;apply oO #[λ σ' H'=>∃aF ρ1 o hp1,bR X.K Z aF σ' ρ1 o hp1 H'/\by1 X.K ρ1 o H'/\Xh ca sb m aF hp1>(Tk (Y2,j)),λ σ' H' q=>#[m,Cv m,q],?_];apply#[Z,aF,ρ2,E,hp2,I,C,y,S2,P,ba2 σ6 ρ6 r H6 Q S6];let u:=F.trans Q;cases I with
    |nx=>show#[C,ρ6,r,y,S6,u,v]
    |ct=>show#[C,ρ6,r,y,S6,u,v]
    |bk=>let(z,Y):=Qm v;cases z;show k σ6 ρ6 r H6 u S6
    |rt d=>let(z,Y):=Qm v;cases z;show k σ6 ρ6 r H6 u S6
variable{K:Aa}{Z:Ent}{env:En}{σ:St}{ρ:Ek}{B B':Ej}{J:Hs}{H:Hp}
def zP(B:Ej)(p:Addr):ι Addr:=λ a=>B a∨a=p
def Gr.banned{p:Addr}(h:cQ6)(kf:OU p):AC K B H ρ (zP B p)^Α p o where
 pre:=Ch
 ban:=bq1
 new:=λ a z=>z.elim .inl λ e=>ċ<|e▸#[h,kf]
 cF:=bq1
 keep:=λ a u _ q=>aV6 q h q
 trk:=(aw4 K K ρ B B h).trk
def aR.banned{p:Addr}(W:bR4)(h:cQ6)(kf:OU p):bR1 (zP B p) J^Α p o where
 len:=W.len
 nd:=W.nd
 obj:=λ i a u e q=>cE6 ((dj1 h kf).gs W.rb) (λ z=>W.bt a (W.rb a cY4)<|z▸h)^W.obj i a u e q
 rb:=λ a h=>ë^W.rb a h
 bt:=λ a z q=>by
  let c:=(aw4 K K ρ B B h).trk a q;obtain z|Y:=z
  .show W.bt a z c
  .rw[Zc]at q;cases q
 bk:=λ a z=>z.elim (W.bk a) λ e=>e▸kf
def bR.newAcc{i:V}{p:Addr}(S:bE2)(h:cQ6)(kf:OU p)(r:AO):bR K Z (br6 ds) (ag9 i ↑p) ρ (zP B p) J^r6 p xs:=by
 let g:AC K B H ρ (zP B p)^r6 p xs:=dj1 h kf;let W:=S.wo.banned (o:=bN5) h kf;let v:=di7 g W;let G:p∉ρ:=λ z=>S.wo.bt p (S.wo.rb p z) h;apply#[v.gr,S.zb,W,ľ j e q,ľ j es q,λ j k es x a h1 h2 h3 h4=>?_,Ğ S.len]
 .by_cases c:j=i
  .subst c;let hl:j<bH7:=Ϯ^Ÿ q
   rw[ba3]at q;cases q
  .rw[iO c]at q ⊢;show v.slot j e q
 .by_cases c:j=i
  .subst c;let hl:j<bH7:=Ϯ^Ÿ q
   rw[ba3]at q;cases q;show#[p,xs,As (Æ S.len hl),Zc,S.gr.trk p h,cG1,G,bb0 S.wo.rb g _ r]
  .rw[iO c]at q ⊢;show v.eN j es q
 .let y:bH3 j es Þ<|Iq^br6 ds>br5->j=i∨(j≠i/\Iq env>br5):=λ{j es} q=>by
   by_cases c:j=i
   .show ë c
   .rw[iO c]at q;show cQ4 c q
  let E:bH3 j es Þ<|j≠i->Iq env>br5->Iq^ag9 i ↑p>ay2->a≠p:=λ{j es} c q z=>by rw[iO c]at z;let(Y2,I,e1,u,_):=S.eN j es q;rw[z]at e1;cases e1;show Z0 u h
  let F:bH3 j es Þ<|j=i->Iq^br6 ds>br5->Iq^ag9 i ↑p>ay2->a=p:=λ{j es} e q z=>by
   subst e;let hl:j<bH7:=Ϯ^Ÿ q
   rw[As^Æ S.len hl]at z;cases z;rfl
  obtain e1|⟨e1,q1⟩:=y h1<;>obtain u|⟨u,C⟩:=y h2
  .rw[e1,u]
  .show Ė (F e1 h1 h3) (E u C h4)
  .show Ė (F u h2 h4) (E e1 q1 h3)
  .rw[iO e1]at h3;rw[iO u]at h4;show S.iy j k es x a q1 C h3 h4
def bR.p8{i:V}{a:Addr}(S:bE2)(u:T0>bu9)(hσ:bo5>ay2)(r:me ds' xs'):
  by2 ρ B^r6 a xs'/\bR K Z (br6 ds') σ ρ B J^r6 a xs':=by
 let(P,L,e1,Q,E,F,G,_):=S.eN i ds u;rw[hσ]at e1;cases e1;let trk:∀b,ų^(upd H a^Ù xs') b->bV6:=λ b q=>by
  by_cases e:b=a
  .subst e;rw[Zc]at q;cases q
  .rw[Zb e]at q;show q
 let g:by2 ρ B^r6 a xs':=#[Ch,bq1,λ b o y h=>lr (â (b≠a)^λ z=>y^Æ z F) h,trk];let hl:i<bH7:=Ÿ u;apply#[g,#[#[S.gr.pre,S.gr.ban,S.gr.new,S.gr.cF,mo b o y h,λ b q=>S.gr.trk b^trk b q],S.zb,#[S.wo.len,S.wo.nd,λ j b o q1 C=>?_,S.wo.rb,λ b z q=>S.wo.bt b z^trk b q,S.wo.bk],ľ j d q,ľ j es q,λ j k es I b h1 h2 h3 h4=>?_,Ğ S.len]]
 .let x:b≠a:=OX z z E h h
  rw[Zb x];show S.gr.keep b o y h
 .show cE6 g (â (b≠a)^λ z=>G^ì z^Aw q1) (S.wo.obj j b o q1 C)
 .let c:j≠i:=λ z=>FV z ba3 q q
  rw[iO c]at q;let(v,h1,h2):=S.slot j d q;show#[v,h1,aA.gs g _ _ h2]
 .by_cases c:j=i
  .subst c;rw[ba3]at q;cases q;show#[a,xs',hσ,Zc,E,F,G,du8 r]
  .rw[iO c]at q;let(b,O,h1,h2,h3,h4,h5,Y2):=S.eN j es q;let x:b≠a:=λ z=>c^S.iy j i es ds a q u (z▸h1) hσ;show#[b,O,h1,lr x h2,h3,h4,h5,du8 Y2]
 .let old:bH3 j es Þ<|Iq^br6 ds'>br5->∃es,Iq env>br5:=λ{j es} q=>by
   by_cases c:j=i
   .show#[ds,c▸u]
   .rw[iO c]at q;show#[es,q]
  let(_,q1):=old h1;let(_,C):=old h2;show S.iy j k _ _ b q1 C h3 h4
def bR.disown{i:V}(S:bE2)(e:T0>bu9):∃B',by2 ρ B' H/\bR K Z (fR^Ü ū) σ ρ B' J H:=by
 let(a,xs,e1,u,x,L,y,C):=S.eN i ds e;let hl:i<bH7:=cQ7;let g:by2 ρ (λ b=>B b/\b≠a) H:=#[Ch,FF (ë h.1),CA h h,FF h];apply#[λ b=>B b/\b≠a,g,#[#[S.gr.pre,λ b z=>#[S.gr.ban b z,λ q=>S.zb b z<|q▸x],λ b z=>S.gr.new b z.1,S.gr.cF,S.gr.keep,S.gr.trk],S.zb,
  #[S.wo.len,S.wo.nd,λ j b o q1 I=>bU.gs g Y^S.wo.obj j b o q1 I,λ b z=>#[S.wo.rb b z,λ q=>y<|q▸z],λ b z=>S.wo.bt b z.1,λ b z=>S.wo.bk b z.1],ľ j d q,ľ j es q,λ j k es E b h1 h2 h3 h4=>?_,Ğ S.len]]
 .by_cases c:j=i
  .subst c;rw[ba3]at q;cases q;show#[_,e1,GA (λ z=>z.2 Y) (SqL.of u) (du8 C)]
  .rw[iO c]at q;let(v,h1,h2):=S.slot j d q;show#[v,h1,aA.gs g _ _ h2]
 .let c:j≠i:=λ z=>FV z ba3 q q
  rw[iO c]at q;let(b,Y2,h1,h2,h3,h4,h5,F):=S.eN j es q;let G:b≠a:=λ z=>c^S.iy j i es ds a q e (z▸h1) e1;show#[b,Y2,h1,h2,h3,#[h4,G],h5,du8 F]
 .let r:bH3 j es Þ<|Iq^fR^Ü ū>br5->Iq env>br5:=λ{j es} q=>by
   let c:j≠i:=λ z=>FV z ba3 q q
   rw[iO c]at q;show q
  show S.iy j k _ _ b (r h1) (r h2) h3 h4
variable{X:Cx}{e a c:Expr}{f fa:aD}{pos:Pos}{st:Stmt}{s:aN}
def BZ(i:V):aN:=IP^bo2^br6 []
def MU(i:V){x:Str}{o j:Pos}(v:X.N.Nodup)(hi:ai9>x:=by rfl)(hx:l9 x:=by first|show bF8|show cr0)(y:aD0 (.List [] j)^í^Lu o=EN:=by rfl)
  (hf:Lq x∨Ŭ x>py:=by first|show ϊ|show cG1|assumption):DS X (dt0 [Lu o]^.List [] j)^BZ i :=
 (Ow v hi hx (Ox pa_nil).kf y hf).imp λ D σ H u=>by let(Z,env,ρ,B,J,C,r,hp',S,e,k):=u;let(z,Y):=Fn;cases z;apply#[Fm,ľ p h kf];let kp:=kf p _ Zc;show k _ ρ _ _ ((dj1 h kp).gs S.wo.rb) (S.newAcc h kp au.nil)
def CK(i:V)(env:En):En:=match T0 with
 |some (.acc ds)=>fR^Ü ū
 |_=>env
def pL(i:V)(f:aN):aN:=IP^f^CK i env
def Qkr{K:Aa}{i:V}{D:GI}(h:nR K (pL i s) D σ H):nR K s D σ H:=by
 let(Z,env,ρ,B,J,o,j,hp',S,e,k):=h;cases q:T0 with
 |none=>show#[Z,env,ρ,B,J,o,j,hp',S,aP1 CK q e,k]
 |some z =>
  cases z with
  |un=>show#[Z,env,ρ,B,J,o,j,hp',S,aP1 CK q e,k]
  |val d=>show#[Z,env,ρ,B,J,o,j,hp',S,aP1 CK q e,k]
  |acc ds=>let(r,g,u):=S.disown q;show#[Z,_,ρ,r,J,o,j,hp',u,aP1 CK q e,Fu g]
def HC(i:V)(h:DS X st s):DS X st^pL i s:=bb4 h^CA q^Qkr q
def BX(i:V)(f:aD):aN:=λ env=>do
 let d <- ϰ
 match T0 with
 |some (.acc ds)=>if ê<lim then bo2 (br6<|ds++[d])else failure
 |_=>failure
def HE(i:V){x:Str}{u y:Pos}(P:cl9)(hi:ai9>x:=by rfl)(hv:ao1 x:=by first|show bF8|show o2 Y|show o3 Y)
  (hd:cT6:=by decide) (hcd:af7 x bI1:=by decide)
  (hs:∀t,a7 (av2 (Lu u) "append" y [e]) t->PS X (.Expr (av2 (Lu u) "append" y [e]) pos)^Nu t:=by intro _ h;show BM h)
  (hb:∀(t:TE) (L:TA),a7 (Lu u) t->PA X [e] L->a7 (av2 (Lu u) "append" y [e])^tBM X.K Đ BG t L:=by intro _ _ h1 h2;show Wj PySem.F.plainAttrs_list PySem.F.slot_list_append PySem.F.type_list_append Kh h1 h2)
  (hst:Î [e]=cv8::Î []:=by rfl):DS X (.Expr (av2 (Lu u) "append" y [e]) pos)^BX i f :=
 L2.PS.imp (hs _^hb _ _ (MD hi hv hd hcd)^cq8 P hst) λ D σ H O=>by
  let(Z,env,ρ,B,J,E,j,hp',S,e,k):=O;let(d,hp1,e1,o):=Ŧ;cases q:T0 with
  |none=>rw[q]at o;cases o
  |some z =>
   rw[q]at o;cases z with
   |un=>cases o
   |val _=>cases o
   |acc ds =>
    by_cases hl:ê<lim
    .let C:(ï (ba0<|br6<|ds++[d]):M (Fl × En)) hp1>(Tk (E,j)):=by
      have:(cP2 (ê<lim) (ï<|ba0<|br6<|ds++[d]):M (Fl × En)) hp1>(Tk (E,j)):=o
      rwa [C8 hl]at this
     let(z,Y):=Qm C;cases z;let(a,xs,h1,h2,_):=S.eN i ds q;apply#[_,h1,ë #[Y,xs,SqL.of h2],?_];apply cG9 Q;let(R,I,r,G,_,_,_,Y2):=S1.eN i ds q;rw[h1]at r;cases r;let(g2,S2):=S1.p8 q h1 (aE6 Y2 Q);show#[a,I,v,Y,Y,G,ì ⇑Y2 (Ay hl vJ),k _ ρ1 B1 _ (à kx g2) S2]
    .have:(cP2 (ê<lim) (ï<|ba0<|br6<|ds++[d]):M (Fl × En)) hp1>(Tk (E,j)):=o
     rw[C7 hl]at this;cases this
def Kx(g:DV->OB)(f:bS):Þ->cK8
 | []=>ï []
 |d::ds=>do
  if <- g d then
   let y <- f d
   let ys <- Kx g f ds
   ï (y::ys)
  else Kx g f ds
def CP:Sl->Sl
 |.val d=>au7
 |_=>ń
def cE(idx:ź)(env:En)(d:DV):En:=au7::cL0 i^CP^r8 T0 ń
def Xr:cH:=λ_=>be0
variable(_){x:Str}{ifs:Ϡ}{scope:Scope}{idx:ź}{te:cH}
def cσ_ok{K:Aa}{Z:Ent}(S:bE2)(g:by2 ρ1 B1 H1)(W:aR K ρ1 B1 hp1 H1)(r:aA K ρ1 B1 H1 d v):
  bR K #[ρ1,B1,H1] aX6 (cσ idx σ bi1) ρ1 B1 hp1 H1:=by
 apply#[Gr.refl,W.bt,W,do4 i e,do4 i es,ba2 i j es y a h,my cE cσ]
 .cases i with
  |zero =>
   have:d=e:=bl4 cE h
   subst this;show#[v,Ğ cσ,r]
  |succ i =>
   cases q:Ů idx with
   |none=>simp[cE,q]at h
   |some k =>
    let h':CP^r8 cC4 ń=Ü e:=aL4 cE h
    cases z:cC4 with
    |none=>rw[z]at h';cases h'
    |some C =>
     rw[z]at h';cases C with
     |un=>cases h'
     |acc _=>cases h'
     |val o =>
      have:o=e:=bl4 CP h'
      subst this;let(u,h1,h2):=S.slot k o z;show#[u,by simp[cσ,q,h1],aA.gs g _ _ h2]
 .exfalso
  cases i with
  |zero=>simp[cE]at h
  |succ i =>
   cases q:Ů idx with
   |none=>simp[cE,q]at h
   |some k =>
    let h':CP^r8 cC4 ń=br5:=aL4 cE h
    cases z:r8 cC4 ń with
    |un=>rw[z]at h';cases h'
    |acc _=>rw[z]at h';cases h'
    |val _=>rw[z]at h';cases h'
 .exfalso
  cases i with
  |zero=>simp[cE]at h
  |succ i =>
   cases q:Ů idx with
   |none=>simp[cE,q]at h
   |some k =>
    let h':CP^r8 cC4 ń=br5:=aL4 cE h
    cases z:r8 cC4 ń with
    |un=>rw[z]at h';cases h'
    |acc _=>rw[z]at h';cases h'
    |val _=>rw[z]at h';cases h'
def Ir(X:Cx)(ifs:Ϡ)(t:cH):ä:=sJ X ifs^iD X.K t
def Jx:Ir X [] Xr:=λ i s σ H Q I j=>by let(Z,env,ρ,B,J,d,hp',S,e,k):=j;let(Y,Y):=Fn;show Qni i s σ H Q I (k ρ B H Gr.refl S.wo)
def Gv(h:DT X c te):Ir X [c] te:=Qnj h
def Zf(n:V)(i:aN):bP:=λ ds=>do
 let r <- i (bQ1++ă (n-ê) ń)
 match r.1 with
 |.nx=>ï Ě
 |.rt d=>cl5
 |_=>failure
def lR(K:Aa)(n:V)(F:Em):Sp:=λ vs H Q _=>av6=n/\∃ρ B J ds d hp',bR4/\oq vs/\F ds J>Tm/\k_ K ρ B H d hp' Q
structure Has(P:Program)(w:World)(K:Aa)(mg:Eg)(O8:Heap)(x:Str)(k n:V)(F:Em):ä where
 ex:∃(g:Addr)(fd:FuncData)(ps:č),zO P w K mg O8 CX0 k g fd ps^lR K n F/\bq9 K []/\dS K ↑g/\mg x>↑g
def yV{K:Aa}{N:č}(W:bR4)(r:oq vs):
  bR K #[ρ,B,H] (bQ1++ă (aZ1-ê) ń) (L2.start N vs) ρ B J H:=by
 let hl:=mz;let at_:bH3 i z Sl<|Ů (pc Sl.val++ă (aZ1-ê) Sl.un)>z->z=ń∨∃d,FL>d/\z=au7:=λ{i z} h=>by
  by_cases hi:i<ê
  .rw[Ag bA8,Bt,bY6]at h;cases h;show ċ #[_,bY6,Y]
  .rw[Ap bA8,List.getElem?_replicate]at h;split at h
   .cases h;show ϊ
   .cases h
 apply#[Gr.refl,W.bt,W,do4 i d,do4 i es,ba2 i j es o a h,cr3 L2.start]
 .obtain z|⟨d',q,z⟩:=at_ h
  .cases z
  .cases z;let(v,h1,h2):=r.get q;apply#[v,?_,h2];ext L2.start;let hi:i<av6:=Ÿ h1;rw[Ag bA8,Bt,h1];rfl
 .obtain z|⟨d',q,z⟩:=at_ h<;>cases z
 .obtain z|⟨d',q,z⟩:=at_ h<;>cases z
def Qpo{P:Program}{w:World}{K:Aa}{mg:Eg}{O8:Heap}{x:Str}{g:Addr}{k:V}{j:aN}(F:Fun K x x stm g fd)(C:JO N ps sP)(G:mg x>↑g)
  (hb:∀(kV y Y2:Value)(an:Nw)(i ct:Value)(us:Ď),bW9=ϣ->aK9 (PySem.W.fnOf x x (Xi stm) aE5 sP fE kV y Y2 an i ct) us []=ï EG)
  (h:∀(i:Value)(A:Around)(outer:My)(s:Shared)(H:Hp)(E:XK),Cl^œ x sP g i->lA (jn CX0 P w K mg O8 N x sP g i A outer s H E).nox aE5 j) :
  Nd x (k+1) ϣ^cY6 j:=by
 apply#[g,fd,ps,F.ok C (λ vs H Q E h=>h.1) (λ i A outer s H vs Q E I sp=>?_),F.binds hb,F.kp,G];let(hn,ρ,B,J,ds,d,hp',W,r,e,k):=sp;let((z,o),hp1,e1,u):=Ŧ;apply#[_,h i A outer s H E I,#[ρ,B,H],_,ρ,B,J,z,o,hp1,yV W r,e1,ba2 σ' ρ' B' H' g' S'];cases z with
 |nx=>let(Y,Y):=Qm u;show k Ě ρ' B' H' S'.gr S'.wo yS
 |rt x=>let(Y,Y):=Qm u;show λ v L=>k v ρ' B' H' S'.gr S'.wo L
 |bk=>cases u
 |ct=>cases u
def Qy(n:V)(F:Em)(a:cu):aD:=λ env=>do
 let ds <- bJ2
 ag (ê=n)
 F ds
def QD{y:Str}{k j n:V}{F:Em}{e:Expr}{es:Ϡ}{fa:cu}{p:Pos}(h:Has X.prog X.w X.K X.mg X.O8 y j n F)(O:aQ1)(I:j<=k)(hx:Y9 CX0 X E0)(ha:DA X (e::es) fa)(G:L6 y:=by rfl)
  (hdb:OW y:=by decide) (he:cP5=cv8::bA9:=by rfl) (hpl:ÿ^(aj2).any ţ:=by rfl):cl7 y (e::es)^Qy n F fa:=by
 let(g,fd,ps,r,E,Y2,L):=h.ex;apply PY (QmX r (O.mono I) G L Y2 E i9 hx ha hdb he hpl)^mo σ H Q u;let(Z,env,ρ,B,J,d,hp',S,e,k):=u;let(ds,hp1,e1,v):=Ŧ;let(_,hp2,z,C):=Qh v;let(hl,Y):=QI z;apply bY5 S^λ vs ρ1 o H1 g1 S1 i=>?_;apply#[bk6 Bs df0 by7,ρ1,o,hp1,ds,d,hp',S1.wo,Æ Bs i,C,cf6]
variable{X:Cx}{e a b:Expr}{f fa fb:aD}{pos:Pos}
def j6(C:Int->cm5)(g:Int->Int->DV):DV->bS
 |.int i,.int j=>cP2 (C i j)^ï^g i j
 |_,_=>failure
def Kc{C:Int->cm5}{g:Int->Int->DV}{x y d:DV}{J hp':Hs}(h:j6 C g x y J>Tm):∃i j,x=ft/\y=bN3/\Ĭ^C i j/\d=g i j/\J=hp':=by
 unfold j6 at h;split at h
 .rename_i i j;by_cases c:(Ĭ^C i j)
  .rw[C8 c]at h;let(Y,Y):=cK9;show#[i,j,Y,Y,c,Y,Y]
  .rw[C7 c]at h;cases h
 .cases h
def vT{g:bR8}{C:Int->cm5}{P:Int->aQ0}{q:Int->Int->Int}(z:FS g^rI P λ i j=>Í^q i j)(o:∀i j,Ĭ^C i j->P i j):P2 X g^j6 C λ i j=>Í^q i j:=by intro c s σ H x y v u Q I rx ry h;apply z c s σ H x y v u Q I rx ry ?_;let(ρ,B,J,G,Y2,d,hp',W,E,F,e,k):=h;let(i,j,Y,Y,r,Y,Y):=Kc e;show#[i,j,E.bx,F.bx,o i j r,aO6]
def QmS{g:bR8}{q:Int->Int->Int}(o:FS g^rI0 λ i j=>Í^q i j):P2 X g^j6 aD1 λ i j=>Í^q i j:=by intro c s σ H x y v u Q I rx ry h;apply o c s σ H x y v u Q I rx ry ?_;let(ρ,B,J,C,E,d,hp',W,r,z,e,k):=h;let(i,j,Y,Y,F,Y,Y):=Kc e;show#[i,j,r.bx,z.bx,aO6]
def Gy{g:bR8}{q:Int->cm5}(o:FS g^rI0 λ i j=>ŏ^q i j):P2 X g^j6 aD1 λ i j=>ŏ^q i j:=by intro c s σ H x y v u Q I rx ry h;apply o c s σ H x y v u Q I rx ry ?_;let(ρ,B,J,C,E,d,hp',W,r,z,e,k):=h;let(i,j,Y,Y,F,Y,Y):=Kc e;show#[i,j,r.bx,z.bx,dr0]
def TY(i j:Int):Bool:=Ö<|(-Pf<i/\i<Pf)∨(-Pf<j/\j<Pf)
def T4(_ j:Int):Bool:=Ö<|0<j/\j<IR
def T3(_ j:Int):Bool:=Af 0 j
def QsX(i j:Int):Bool:=Ö<|0<=j/\bv6 j/\i.natAbs<Pf
def zi:DV->bS:=j6 aD1 λ i j=>Í<|i-j
def su:DV->bS:=j6 TY λ i j=>Í<|i * j
def YG:DV->bS:=j6 T4 λ i j=>Í<|i / j
def X8:DV->bS:=j6 T3 λ i j=>Í<|i % j
def jy:DV->bS:=j6 QsX λ i j=>Í<|i ^^^ j.toNat
def bV:DV->bS:=j6 aD1 λ i j=>do5 i j
def d7:DV->bS:=j6 aD1 λ i j=>ŏ^A6 i j
def fu:DV->bS:=j6 aD1 λ i j=>do5 j i
def nA:DV->bS:=j6 aD1 λ i j=>ŏ^A6 j i
def jw:P2 X (ia .Sub) zi:=QmS Qp7
def NP:P2 X aq1 su:=vT Qp5 λ i j h=>Eb (p:=(-Pf<i/\i<Pf)∨(-Pf<j/\j<Pf)) h
def xH:P2 X (ia .FloorDiv) YG:=vT QmM λ i j h=>Eb (p:=0<j/\j<IR) h
def qm:P2 X (ia .Mod) X8:=vT Qp4 λ_ _ h=>Eb h
def UA:P2 X (ia .Pow) jy:=vT Qp6 λ i j h=>Eb (p:=0<=j/\bv6 j/\i.natAbs<Pf) h
def jf:PU X .Lt bV:=Gy Qr5
def oX:PU X .LtE d7:=Gy Qr4
def pO:PU X .Gt fu:=Gy Qr3
def CJ:PU X .GtE nA:=Gy Qr2
def Qs8:bS
 |.int i=>wX<|-i
 |_=>failure
def yb(f:aD):aD:=IP<|do Qs8 (<- ϰ)
def GX(h:cl8 a):ϓ (.UnaryOp .USub a pos)^yb f:=L2.PE.imp (Qsf Qrb h) λ σ H Q j=>by
 let(Z,env,ρ,B,J,d,hp',S,e,k):=j;let(x,hp1,e1,c):=Ŧ;apply cG9 o;cases x with
 |int i=>let(Y,Y):=Qm c;show#[i,o.bx,cV9 Jd]
 |_=>cases c
def QjF:FS aq0^λ x y H Q=>∃a b i,x=Χ/\y=da5/\bI4 H a []/\bI4 H b i/\bN9 i/\cD8 b H:=by
 intro Y2 s σ H x y v u Q I rx ry h;let(a,b,i,Y,Y,ha,o,hz,q):=h;cases rx;cases ry;let(c,E,r,_):=iP ha;let(j,G,C,_):=iP o;let(m,F):=I.fr;let z:c=[]:=by cases E;rfl
 subst z;show add_tuples F (Qjx (g:=X.O8) (L:=X.env.locals)) r C (λ_=>#[da5,H,I,Y,q]) (λ n=>cu8 n) (λ n=>cu8 n) (aL5 ⇑G)
def Zm:DV->bS
 |.int i,.int j=>wX<|i+j
 |.tup xs,.tup c=>do ah6 (xs++c);af3 (xs++c)
 |.lst xs,.lst c=>do ah6 (xs++c);al9 (xs++c)
 |_,_=>failure
def BF:FS aq0^λ x y H Q=>∃l b xs j,x=ã l/\y=da5/\ay8 X.K l/\tJ X.K b j/\Ĉ (ŧ+cI2)/\∀p,cQ6->cX2^r6 p (xs++j):=by
 intro O9 s σ H x y v u Q I rx ry h;let(l,b,xs,j,Y,Y,hl,hb,hz,q):=h;cases rx;cases ry;let(i,G,((k1,U,P,r),n1,e1,c1,d1,L),_):=wq hl;let(c,Y2,((k2,a9,R,z),n2,E,c2,C,O),_):=wq hb;simp only at c1 d1 L c2 C O;subst c1 d1 L c2 C O;let ea:i.toArray++c.toArray=aA4 (i++c):=Ê
 let o:Ĉ<|df0+bT6:=aE4 ⇑G Y2 hz
 apply concat_meets (T := Đ) #[_,e1,Y] #[_,E,Y] noFill_list_add seq_list_add PySem.F.slot_list_add PySem.F.entry_list_add (PySem.F.args_list_add_2 _ _) (list_addW l b i.toArray c.toArray n1 n2 none none r z^Ë o) #[e1,E,?_];rw[ea];show#[ã _,_,I.lnew (t':=s.toks) (G.append Y2) (Æ Am hz),Y,q _ I.fresh]
def Z3:P2 X aq0 Zm:=by
 intro o s σ H x y v u Q I rx ry h;let(ρ,B,J,O,P,d,hp',W,C,E,e,k):=h;unfold Zm at e;split at e
 .let(Y,Y):=Fn;show Qp2 o s σ H x y v u Q I rx ry #[_,_,C.bx,E.bx,aO6]
 .rename_i xs F;let(_,hp1,e1,r):=Ŧ;let(z,Y):=aL3;let(Y,Y):=Qm r;let(a,vs,Y,Y2,q1,c):=C.tupI;let(b,ws,Y,L,j,i):=E.tupI;let hz:Ĉ<|av6+⇑ws:=aG9 (jB z) Am bT6 df0 this
  by_cases hv:vs=[]
  .subst hv;have:xs=[]:=by have:=bT6;cases xs with|nil=>rfl|cons _ _=>simp at this
   subst this;show QjF o s σ H _ _ v u Q I rx ry #[a,b,ws,Y,Y,q1,j,by simp at hz;show hz,LP (yT L j i)]
  .apply QmL o s σ H _ _ v u Q I rx ry #[a,b,vs,ws,Y,Y,q1,j,hv,hz,N1 G,λ G=>yO W (au.append c i) k];subst G;have:F=[]:=by have:=df0;cases F with|nil=>rfl|cons _ _=>simp at this
   subst this;rw[Bs]at k;show LP (yT Y2 q1 c)
 .rename_i xs F;let(_,hp1,e1,r):=Ŧ;let(z,Y):=aL3;let(Y,Y):=Qm r;let(a,vs,Y,Y2,q1,c):=C.b_;let(b,ws,Y,L,j,i):=E.b_;let hz:Ĉ<|av6+⇑ws:=aG9 (jB z) Am bT6 df0 this
  show BF o s σ H _ _ v u Q I rx ry #[a,b,vs,ws,Y,Y,q1,j,hz,qy W (au.append c i) k]
 .cases e
def iT:wP DV
 |.non=>true
 |_=>false
def Sk{K:Aa}{v:Y1}(r:bp6):FC v Ě=bl5:=by
 cases d with
 |non=>rw[r.f9];rfl
 |bl b=>rw[r.iw];rfl
 |int b=>rw[r.bx];rfl
 |str b=>rw[r.bK];rfl
 |tup b=>let(a,xs,Y,_):=r.tupI;rfl
 |lst b=>let(a,xs,Y,_):=r.b_;rfl
 |ref b=>let(a,Y,_):=r.wN;rfl
def isD:DV->bS
 |x,.non=>fz^iT x
 |.bl p,.bl q=>fz<|p==q
 |_,_=>failure
def VG:DV->bS
 |x,.non=>fz^hV^iT x
 |.bl p,.bl q=>fz<|p != q
 |_,_=>failure
def gk:PU X .Is isD:=by
 intro j s σ H x y v u Q I rx ry h;let(ρ,B,J,o,r,d,hp',W,c,i,e,k):=h;unfold isD at e;split at e
 .let(Y,Y):=Fn;apply Qp3 j s σ H x y v u Q I rx ry^bI0 i.f9;rw[Sk c];show dr0
 .let(Y,Y):=Fn;obtain Y:=c.iw;obtain Y:=i.iw;cases rx;cases ry;show is_bool #[db2,H,I,Y,dr0]
 .cases e
def kz:PU X .IsNot VG:=by
 intro j s σ H x y v u Q I rx ry h;let(ρ,B,J,o,r,d,hp',W,c,i,e,k):=h;unfold VG at e;split at e
 .let(Y,Y):=Fn;apply QmO j s σ H x y v u Q I rx ry^bI0 i.f9;rw[Sk c];show dr0
 .let(Y,Y):=Fn;obtain Y:=c.iw;obtain Y:=i.iw;cases rx;cases ry;show isnot_bool #[db2,H,I,Y,dr0]
 .cases e
def Q_{K:Aa}{i:Int}(r:AO)(h:bJ4>d):∃x,bJ3 xs>x/\dt2:=by
 unfold atI at h ⊢;rw[<- mz];cases q:ixN ê i with
 |none=>rw[q]at h;cases h
 |some j=>rw[q]at h;show r.get h
def bH:DV->bS
 |.tup ds,.int i=>match bJ4 with
  |some d=>cl5
  |none=>failure
 |.lst ds,.int i=>match bJ4 with
  |some d=>cl5
  |none=>failure
 |_,_=>failure
def Wc:IxR X^sS X.K bH:=by
 intro value slice O9 s σ H x y v u Q I rx ry h hsub;let(ρ,B,J,E,F,d,hp',W,o,r,e,k):=h;unfold bH at e;split at e
 .rename_i ds i
  cases q:bJ4 with
  |none=>rw[q]at e;cases e
  |some d' =>rw[q]at e;let(Y,Y):=Fn;let(a,xs,Y,C,q1,c):=o.tupI;let(z,hz,j):=Q_ c q;show QpG value slice O9 s σ H _ _ v u Q I rx ry #[a,xs,i,z,Y,r.bx,q1,hz,LP j] hsub
 .rename_i ds i
  cases q:bJ4 with
  |none=>rw[q]at e;cases e
  |some d' =>rw[q]at e;let(Y,Y):=Fn;let(a,xs,Y,C,q1,c):=o.b_;let(z,hz,j):=Q_ c q;show Se value slice O9 s σ H _ _ v u Q I rx ry #[a,xs,i,z,Y,r.bx,q1,hz,LP j] hsub
 .cases e
def JS(ha:cC6)(c:ϓ b fb)(i:kY b:=by intro _ _;rfl):ϓ (cx7 a b)^Qg bH fa fb:=PY (Wi Wc ha c i)^CA h^ya h
#where
mutual
def toP:DV->PyData
 |.non=>fE
 |.bl b=>xk b
 |.int i=>ft
 |.str x=>Ϭ
 |.tup xs=>.tuple^cV xs
 |.lst xs=>.list^cV xs
 |.ref _=>fE
def cV:Þ->Â PyData
 | []=>[]
 |d::ds=>cr5::cV ds
end
mutual
def ku:wP DV
 |.ref _=>false
 |.tup xs=>eZ xs
 |.lst xs=>eZ xs
 |_=>true
def eZ:wP Þ
 | []=>true
 |d::ds=>ku d&&eZ ds
end
variable{X:Cx}{O9:Ef}{σ:St}{H:Hp}{s:Shared}{ρ:Ek}{B:Ej}
mutual
def yy(I:Ϣ):∀(d:DV)(v:Y1)(u:Value),pe X.K d v->dp5->Ĭ^ku d->∃as,Reads s.heap u cr5 as
 |.non,_,_,r,c,_=>by obtain Y:=r.f9;cases c;show bT9 [] fE
 |.bl b,_,_,r,c,_=>by obtain Y:=r.iw;cases c;show bT9 [] (xk b)
 |.int i,_,_,r,c,_=>by obtain Y:=r.bx;let(t,Y):=c;show bT9 [] bp2
 |.str x,_,_,r,c,_=>by obtain Y:=r.bK;let(t,Y):=c;show bT9 [] (.str x t)
 |.ref _,_,_,_,_,n=>ď n
 |.tup ds,_,_,r,c,n=>by let(a,xs,Y,_,E,z):=r.tupI;cases c;let(j,C,(o,e,y,k,hd),_):=iP E;let(as,q):=dF I ds xs j z C (iL ku n n);show bT9 _ (reads_tuple_at e y hd^Ë q)
 |.lst ds,_,_,r,c,n=>by let(a,xs,Y,_,E,z):=r.b_;cases c;let(j,C,(o,k,e,y,_,hd),_):=wq E;let(as,q):=dF I ds xs j z C (iL ku n n);show bT9 _ (reads_list_at e y hd^Ë q)
def dF(I:Ϣ):∀(ds:Þ)(xs:ś)(us:Ď),lP X.K ds xs->bf5->Ĭ^eZ ds->∃as,ReadsAll s.heap us (cV ds) as
 | [],_,_,r,a,_=>by unfold au at r;subst r;cases a;show#[[],ϧ cV i9]
 |d::ds,_,_,r,a,n=>by
  unfold au at r;let(x,xs,Y,e,i):=r;cases a with
  |cons q1 c=>unfold eZ at n;rw[Bb]at n;let(as,h1):=yy I d x _ e q1 n.1;let(bs,h2):=dF I ds xs _ i c n.2;show#[_,ϧ cV (Φ h1 h2)]
end
#where
def iI(d:DV):Bool:=ku d&&ik d
def eE:DV->bS:=λ x y=>do QE (iI x&&iI y);fz (bu7 x y)
def DN:DV->bS:=λ x y=>do QE (iI x&&iI y);fz (hV^bu7 x y)
variable{X:Cx}{e a b:Expr}{fa fb fc:aD}{pos:Pos}
def gj(r:wc 64<cLine):PU X .Eq eE:=by intro F s σ H x y v u Q I rx ry h;let(ρ,B,J,i,j,d,hp',W,C,E,e,k):=h;let(_,hp1,e1,o):=Ŧ;let(c,Y):=aL3;let(Y,Y):=Qm o;simp only[iI,Bb]at c;let(as,q1):=yy I i x v C rx c.1.1;let(bs,z):=yy I j y u E ry c.2.1;show eq_dataH q1 z c.1.2 c.2.2 r #[db2,H,I,Y,dr0]
def Qs9(r:wc 64<cLine):PU X .NotEq DN:=by intro F s σ H x y v u Q I rx ry h;let(ρ,B,J,i,j,d,hp',W,C,E,e,k):=h;let(_,hp1,e1,o):=Ŧ;let(c,Y):=aL3;let(Y,Y):=Qm o;simp only[iI,Bb]at c;let(as,q1):=yy I i x v C rx c.1.1;let(bs,z):=yy I j y u E ry c.2.1;show ne_dataH q1 z c.1.2 c.2.2 r #[db2,H,I,Y,dr0]
def fX(K:Aa)(g:Em):ś->Hp->B6:=λ xs H Q=>∃ρ B J ds d hp',bR4/\AO/\g ds J>Tm/\k_ K ρ B H d hp' Q
def QN(g:Em)(a:cu):aD:=IP<|do g (<- bJ2)
def QbH{K:Aa}{g:Em}{fa:cu}{σ:St}{H:Hp}{Q:VK}(h:tD K (QN g fa) σ H Q):tCB (fX K g) (iG K fa) σ H Q:=by let(Z,env,ρ,B,J,d,hp',S,e,k):=h;let(ds,hp1,e1,i):=Ŧ;show bY5 S (λ vs ρ1 c H1 g1 S1 j=>#[ρ1,c,hp1,ds,d,hp',S1.wo,j,i,cf6])
def Q9{x:Str}{id:String}{g:Em}{e:Expr}{es:Ϡ}{fa:cu}{p:Pos}(i:aQ3 X id g)(o:cj x)(hv:AI>cQ9)(ha:DA X (e::es) fa)(j:dr1:=by rfl)(hn:tI x := by decide)(c:cT6:=by decide)
  (he:cP5=cv8::bA9:=by rfl) (hpl:ÿ^(aj2).any ţ:=by rfl):cl7 x (e::es)^QN g fa :=
 PY (vV i j o hv ha hn c he hpl)^CA h^QbH h
def JJ{x:Str}{T:String}{g:Em}{e:Expr}{es:Ϡ}{fa:cu}{p:Pos}(i:bU4 X bB7 g)(o:cj x)(hv:AI>bB7)(ha:DA X (e::es) fa)(j:dr1:=by rfl)(hn:tI x := by decide)(c:cT6:=by decide)
  (he:cP5=cv8::bA9:=by rfl) (hpl:ÿ^(aj2).any ţ:=by rfl):cl7 x (e::es)^QN g fa :=
 PY (kD i j o hv ha hn c he hpl)^CA h^QbH h
def au.bL{K:Aa}{vs:ś}(h:me [d] vs):∃v,vs=[v]/\bp6:=by unfold au at h;let(x,r,Y,h1,h2):=h;unfold au at h2;subst h2;show#[x,Y,h1]
def Ut:bP
 | [.tup ds]=>wX ê
 | [.lst ds]=>wX ê
 |_=>failure
def gJ:aQ3 X "len" Ut:=by
 intro o s σ H xs us Q I r h;let(ρ,B,J,ds,d,hp',W,u,e,k):=h;unfold Ut at e;split at e
 .let(Y,Y):=Fn;let(v,Y,c):=u.bL;let(a,j,Y,_,i,l):=c.tupI;show jU o s σ H _ us Q I r #[a,j,Y,ċ i,ì ⇑l aO6]
 .let(Y,Y):=Fn;let(v,Y,c):=u.bL;let(a,j,Y,_,i,l):=c.b_;show jU o s σ H _ us Q I r #[a,j,Y,ë i,ì ⇑l aO6]
 .cases e
def Ew:bP
 | [.int i,.int j]=>wX^É (j<i) j i
 |_=>failure
def Ey:bP
 | [.int i,.int j]=>wX^É (j >= i) j i
 |_=>failure
def Qrw(i:dc):aQ3 X "min" Ew:=by
 intro c s σ H xs us Q I r h;let(ρ,B,J,ds,d,hp',W,j,e,k):=h;unfold Ew at e;split at e
 .let(Y,Y):=Fn;show Qf2 i c s σ H xs us Q I r #[_,_,j.ints2,aO6]
 .cases e
def Qrv(i:dc):aQ3 X "max" Ey:=by
 intro c s σ H xs us Q I r h;let(ρ,B,J,ds,d,hp',W,j,e,k):=h;unfold Ey at e;split at e
 .let(Y,Y):=Fn;show Qf1 i c s σ H xs us Q I r #[_,_,j.ints2,aO6]
 .cases e
def EY:bP
 | [.int i]=>wX i
 | [.bl k]=>wX^É k 1 0
 |_=>failure
def Qrt:bU4 X (ĥ ba6) EY:=by
 intro c s σ H xs us Q I r h;let(ρ,B,J,ds,d,hp',W,i,e,k):=h;unfold EY at e;split at e
 .let(Y,Y):=Fn;show gK c s σ H xs us Q I r (ë #[_,i.ints1,aO6])
 .let(Y,Y):=Fn;let(v,Y,j):=i.bL;obtain Y:=j.iw;show gK c s σ H _ us Q I r (ċ #[_,Y,aO6])
 .cases e
def tO:bP
 | [.lst ds]=>ï rc
 | [.tup ds]=>ï rc
 |_=>failure
def P0:bU4 X aC0 tO:=by
 intro o s σ H xs us Q I r h;let(ρ,B,J,ds,d,hp',W,u,e,k):=h;unfold tO at e;split at e
 .let(Y,Y):=Fn;let(v,Y,i):=u.bL;let(a,j,Y,_,c,l):=i.b_;show zQ o s σ H _ us Q I r #[a,j,Y,ë #[c,yO W l k]]
 .let(Y,Y):=Fn;let(v,Y,i):=u.bL;let(a,j,Y,x,c,l):=i.tupI;show zQ o s σ H _ us Q I r #[a,j,Y,cQ4 c (LP^yT x c l)]
 .cases e
def uD:DV->Ï String
 |.non=>í "NoneType"
 |.bl _=>í cL2
 |.int _=>í ba6
 |.str _=>í pS
 |.tup _=>í ŉ
 |.lst _=>í Đ
 |.ref _=>none
def vB(t T:String):Bool:=t==T||(t == cL2 && T == ba6)
def Qru{T:String}(Y2:T∈[ba6, cL2, ŉ, pS, Đ]):IL X EI^λ xs H Q=>∃ρ B d x t,xs=[x,.ty T]/\pe X.K d x/\uD d>t/\Q (ŏ^vB t T) H:=by
 intro L s σ H xs us Q I r h;let(ρ,B,d,x,t,Y,y,j,q):=h;let(u,w',Y,v,F):=KS r;cases F;let c:∀tk,EP X L σ Q (xk^vB t T) (aN4 s tk):=λ tk=>#[db2,H,ω,Y,q];let i:PySem.W.kitOne X.K (ĥ t) bB7>(vB t T):=by
  have:t∈["NoneType", cL2, ba6, pS, ŉ, Đ]:=by cases d<;>cases j<;>simp
  simp only[Bj,Cc,or_false]at this Y2;obtain Y|Y|Y|Y|Y|Y:=this<;>obtain Y|Y|Y|Y|Y:=Y2<;>first|rfl|decide|with_unfolding_all rfl|kernel_rfl
 cases d with
 |non=>obtain Y:=y.f9;cases j;cases v;show CD PySem.W.kitx_none True.intro i bS8 c
 |bl b=>obtain Y:=y.iw;cases j;cases v;show CD PySem.W.kitx_bool True.intro i bS8 c
 |int b=>obtain Y:=y.bx;cases j;let(tk,Y):=v;show CD PySem.W.kitx_int True.intro i bS8 c
 |str b=>obtain Y:=y.bK;cases j;let(tk,Y):=v;show CD PySem.W.kitx_str True.intro i bS8 c
 |ref b=>cases j
 |tup b=>cases j;let(a,O,Y,_,G,_):=y.tupI;cases v;let(E,_,(o,e1,C,_),_):=iP G;show CD PySem.W.kitx_tuple #[o,e1,C] i bS8 c
 |lst b=>cases j;let(a,O,Y,_,G,_):=y.b_;cases v;let(E,_,(o,k,e1,C,_),_):=wq G;show CD PySem.W.kitx_list #[o,e1,C] i bS8 c
def Jk(g g':DV->bS)(fa fb fc:aD):aD:=λ env=>do
 let x <- fa env
 let y <- fb env
 let z <- g x y
 if <- lO z then
  let u <- fc env
  g' y u
 else ï ő
variable{X:Cx}{e a b c:Expr}{f fa fb fc:aD}{pos:Pos}
def Qdh{K:Aa}{g g':DV->bS}(h:tD K (Jk g g' fa fb fc) σ H Q):WH (sS K g) (sS K g') (tD K fa) (tD K fb) (tD K fc) σ H Q:=by
 let(Z,env,ρ,B,J,d,hp',S,e,k):=h;let(x,hp1,e1,e):=Ŧ;let(y,hp2,r,e):=Ŧ;let(z,I,C,e):=Ŧ;let(t,R,E,e):=Ŧ;let(Y,Y):=qR E;apply cG8 L^bb1 r^λ u ρ2 j H2 g2 S2 i=>?_;apply#[ρ2,j,hp2,x,y,_,_,S2.wo,ϸ g2 _ _ L,i,C,λ w ρ3 B3 H3 g3 W3 O=>#[t,O.iw,?_]];let S3:=S2.grow g3 W3;cases t with
 |false=>let(Y,Y):=Fn;show oR (k _ ρ3 B3 H3 cf4 W3 Z6)
 |true=>let(q,Y2,F,G):=Ŧ;apply oO^tD.run S3 F λ p ρ4 o H4 g4 S4 P=>?_;show#[ρ4,o,Y2,y,q,d,hp',S4.wo,cq7 S3.wo.rb g4 _ (cq7 S2.wo.rb g3 _ i),P,G,Fu (AY^g3.trans g4)]
def qV{o i:CmpOp}{g g':DV->bS}(E:PU X o g)(j:PU X i g')(ha:cC6)(y:ϓ b fb)(z:ϓ c fc)(C:ÿ^lastMarks [o,i] [b,c]:=by with_unfolding_all rfl):DT X (du9 a [o,i] [b,c])^eB^Jk g g' fa fb fc :=
 L2.PT.imp (Qj8 E j ha y z C) λ σ H Q r=>by let(Z,env,ρ,B,J,d,hp',S,e,k):=r;let(x,hp1,e1,u):=Ŧ;let(Y,Y):=qR u;show Qdh (cG8 F #[d,F.iw,k ρ1 B1 H1 g1 S1.wo])
abbrev mY:=En->M Ć
def nU(K:Aa)(f:mY):TO:=λ σ H Q=>∃Z env ρ B J d hp',bE2/\i0>Tm/\T7 K ρ B H hp'^Q d
def DO(X:Cx)(e:S9)(f:mY):ä:=PO X e^nU X.K f
def ZE:mY:=λ_=>aU7
def eG:DV->M Int
 |.int i=>ï i
 |_=>failure
def GR{d:DV}{c:Int}{J hp':Hs}(h:eG d J>(Tk c)):d=Í c/\J=hp':=by
 cases d with
 |int b=>let(Y,Y):=cK9;show rg
 |_=>cases h
def Zi(f:aD):mY:=IP^sQ i (cY7 ϰ) bu0
def Jp:DO X none ZE:=λ i s σ H Q I j=>by let(Z,env,ρ,B,J,d,hp',S,e,k):=j;let(Y,Y):=Fn;show Qm8 i s σ H Q I (k ρ B H Gr.refl S.wo)
def Z5(h:cl9):DO X bB4^Zi f:=λ j s σ H Q I o=>by let(Z,env,ρ,B,J,d,hp',S,e,k):=o;let(x,hp1,e1,r):=Ŧ;let(i,hp2,u,y):=Qh r;let(Y,Y):=GR u;let(Y,Y):=Qm y;show Qm9 h j s σ H Q I (cG8 z #[i,z.bx,k ρ1 B1 H1 g1 S1.wo])
def nU.run{K:Aa}{f:mY}{Z:Ent}{d:Ć}{Q:Ć->dC}(S:bE2)(e:i0>(d,hp1))
  (k:∀ρ' B' H',bE8->XP K Z ρ' B' hp1 H'->Q d H'):nU K f σ H Q :=
 #[Z,env,ρ,B,J,d,hp1,S,e,λ ρ' B' H' g W=>k ρ' B' H' g^di7 g W]
def Ve(ds:Þ)(i hi:Ć):Þ:=cC8 (oT^rp ê 0 i)<|rp ê ê hi-rp ê 0 i
def GV{K:Aa}{i hi:Ć}(r:AO):me (Ve ds i hi)^pR xs i hi:=by ext Ve pR;rw[mz];show au.take _ (au.drop _ r)
def lu(d:DV)(i hi:Ć):Ģ:=match d with
 |.lst ds=>al9^Ve ds i hi
 |.tup ds=>af3^Ve ds i hi
 |_=>failure
def bO(f:aD)(i hi:mY):aD:=IP^bb5 d ϰ l (i env) h (hi env)^lu d l h
def tPs(K:Aa):Y1->Ć->Ć->Hp->B6:=λ x i hi H Q=>∃ρ B J d r hp',bR4/\dt2/\lu d i hi J>cz0/\k_ K ρ B H r hp' Q
def QcN{prog:Program}{w:World}{A:Around}{E:Ee}{s:Shared}{t v:Addr}{items:ļ}{i hi:Ć}{Q:Ee}(j:bj3 t items)(C:aG4 v vl vu)(pl:cE4 vl i)(G:cE4 vu hi)
  (h0:Pw 0 i=0) (h1:dr4 hi=items.size) (h:cD8 t s):rj w A (getItem ↑t ↑v) Q E s:=by
 let(os,u,r,F):=id C;let o:bs6 ↑v dh8 := #[os,u,r];ext getItem
 try with_reducible apply bf9
 first|apply C6 E7|skip
 apply C6^wpAny_sequenceKey j.typeIs Á ?_;apply C6^aR8 (Ϧ cp9) j.typeIs PyProof.Rows.slot_tuple_getitem^ad1 PyProof.Rows.slot_tuple_getitem j.typeIs entry_tuple_getitem ?_^args_tuple_getitem _ _;exact AM _ (bY0 t) _ _ _ s;apply C6^tupleItemsOf_ j ?_;apply Sv o ?_;rw[C8 Á];apply C6^HT.sliceApplied_gen C pl G ?_;let x:Ĭ<|Ñ (Pw 0 i:V)==0&&dm9==1&&cH9 (dr4 hi-Pw 0 i):=bw2 h0 h1
 exact ű _ (Ř (Ñ (Pw 0 i:V)==0&&dm9==1&&cH9 (dr4 hi-Pw 0 i)) _ _) _ _ s;rw[C8 x];let ex:∀{Q':cH3 ϟ}{y:Around}{z:Ee},Q' true s->rj w y (Builtin.Tuple.tupleIsExact ↑t) Q' z s:=λ{Q' y z} q=>ϧ Builtin.Tuple.tupleIsExact^Sv j.typeIs^C9^Æ (LH (PF ŉ == PF ŉ)^beq_self_eq_true _) q
 apply C6^ex ?_;rw[pv]
 first
  |show FI (C9 #[_,Y,C9 h])
  |show FI (C6^dh0 #[_,Y,C9 h])
def QnH:SlR X^λ x u hi H Q=>∃a xs,x=Χ/\du5 a/\(cx3 0 u=0/\cx3 ŧ hi=ŧ)/\Q Ű H:=by
 intro y s σ H x v vl vu u hi sl Q I rx hs pl pu h;let(a,xs,Y,hx,(h0,h1),q):=h;cases rx;let(j,r,o,hz):=iP hx;let i:j.toArray.size=ŧ:=Æ An r.length.symm
 show ci8 ŉ _ o.typeIs (QcN o hs pl pu (Æ i h0) (Æ i h1) #[Χ,H,I,Y,q])
def Qf8{α:pZ}(ds:Fa)(i j:V)(h0:i=0)(h1:j=ê):cC8 bD2 (j-i)=ds:=by subst h0 h1;simp
def MK:SlR X^tPs X.K:=by
 intro u s σ H x v vl vu lo hi sl Q I rx hs pl pu h;let(ρ,B,J,d,r,hp',W,z,e,k):=h;cases d with
 |lst ds=>let(Y,Y):=Fn;let(a,xs,Y,y,j,i):=z.b_;show DZ u s σ H _ v vl vu lo hi sl Q I rx hs pl pu #[a,xs,Y,j,qy W (GV i) k]
 |tup ds =>
  let(Y,Y):=Fn;let(a,xs,Y,y,j,i):=z.tupI;by_cases o:de5=0/\cx3 ŧ hi=ŧ
  .apply QnH u s σ H _ v vl vu lo hi sl Q I rx hs pl pu #[a,xs,Y,j,o,?_]
   have:Ve ds lo hi=ds:=ϧ Ve^Qf8 ds _ _ (Æ df0 o.1)^Æ df0 o.2
   rw[this]at k;show LP (yT y j i)
  .show QqU u s σ H _ v vl vu lo hi sl Q I rx hs pl pu #[a,xs,Y,j,o,yO W (GV i) k]
 |non=>cases e
 |bl _=>cases e
 |int _=>cases e
 |str _=>cases e
 |ref _=>cases e
def Ym{j hi:S9}{r o:mY}(h:cl9)(hl:DO X j r)(hh:DO X hi o):ϓ (cx7 e^.Slice j hi none p2)^bO f r o :=
 PY (vW MK h hl hh) (λ σ H Q z=>by let(Z,env,ρ,B,J,d,hp',S,e,k):=z;let(x,hp1,e1,e):=Ŧ;let(l,hp2,C,e):=Ŧ;let(u,i,E,e):=Ŧ;apply cG8 F^nU.run S1 C λ ρ2 B2 H2 g2 S2=>nU.run S2 E λ ρ3 y H3 g3 S3=>?_;show#[ρ3,y,i,x,d,hp',S3.wo,ϸ bY4 _ _ F,e,Fu cf4])
def QrM{P:Program}{w:World}{K:Aa}{mg:Eg}{O8:Heap}{x:Str}{g:Addr}{k:V}{j:aN}(F:Fun K x x stm g fd)(z:JO N ps sP)
  (h:∀(i:Value)(A:Around)(outer:My)(s:Shared)(H:Hp)(E:XK),Cl^œ x sP g i->lA (jn CX0 P w K mg O8 N x sP g i A outer s H E).nox aE5 j) :
  zO P w K mg O8 CX0 (k+1) g fd ps^lR K ϣ^cY6 j:=by
 apply F.ok z (λ vs H Q E h=>h.1)^λ i A outer s H vs Q E C sp=>?_;let(hn,ρ,B,J,ds,d,hp',W,r,e,k):=sp;let((y,o),hp1,e1,u):=Ŧ;apply#[_,h i A outer s H E C,#[ρ,B,H],_,ρ,B,J,y,o,hp1,yV W r,e1,ba2 σ' ρ' B' H' g' S'];cases y with
 |nx=>let(Y,Y):=Qm u;show k Ě ρ' B' H' S'.gr S'.wo yS
 |rt x=>let(Y,Y):=Qm u;show λ v G=>k v ρ' B' H' S'.gr S'.wo G
 |bk=>cases u
 |ct=>cases u
def Qki{K:Aa}:∀ns:Ĥ,me af0 nz:=by
 intro j;induction j with
 |nil=>show au.nil
 |cons _ r i=>show ah5 Jd i
def QpO{K:Aa}{F:Em}{a:Addr}{ns:Ĥ}(h:∃hp',F [Ù dA] []>(Tk Ő))(j:tJ K a nz):lR K 1 F cJ3 H (λ v _=>v=Ő) E:=by let(hp',h):=h;apply#[Y,[],λ_=>False,[],[Ù dA],Ő,hp',#[Y,List.nodup_nil,λ i a o h=>ED,λ a h=>Ė h Ê,λ a h=>Ė h^λ z=>z,λ a h=>h.elim],au.one (GA (λ z=>z) j^Qki ns),h,λ v _ _ _ _ _ r=>r.iw]
#print D
namespace L2
open PySem PySem.Spec PyProof.Rows
variable{prog:Program}{w:World}{A:Around}{E:Ee}{s:Shared}
def Vb{p q:Addr}{n:V}{xs:ļ}{Q:Ee}(e:s.heap.IsTupleIter p q n)(i:bX q xs)(j:ID xs>v)
  (k:∀g,g.IsTupleIter p q (n+1)->dr5 p g->Q v bW0):rj w A (Τ p) Q E s:=by
 let(ob,c,o,a):=id e;let(y,r,_,m,u):=i;ext Builtin.SmallTypes.nextOf;apply C6^aR8 bf4 e.typeIs F.slot_tuple_iterator_next^ad1 F.slot_tuple_iterator_next e.typeIs F.entry_tuple_iterator_next ?_ aX7;exact AM _ (aS4 p 0) _ _ _ s;apply ό c a x (ã q) Y ?_;exact ű _ (Ř (Ϛ q==Value.none) _ _) _ _ s;rw[C7^â (de9<|Ϛ q==Value.none) By];exact AM _ (aS4 p 1) _ _ _ s;apply ό c a x (lT n 0) Y ?_;exact AM _ (seqItems? ↑q) _ _ _ s;apply iA r u ?_;simp only[Bz,j];apply C6^wpAny_setField c a Ê^C9 #[v,Y,C9 (k _ ?_ bU7)];show#[_,aa1 _ c (Obj.isFreed_of_fields^Obj.data_mapFields a _),à (Obj.cls_mapFields ..) o,by rw[Obj.data_mapFields a];simp[rawInt]]
def HD{p q:Addr}{n:V}{xs:ļ}{Q:Ee}(hh:lI)(c:s.heap.IsTupleIter p q n)(j:bX q xs)(r:ų^ID xs)
  (k:∀g x,bY8 p g->(∃o,cX7 x>o/\o.cls=ĥ aH0)->E ↑x bW0):rj w A (Τ p) Q E s:=by
 let(ob,e,y,i):=id c;let(z,u,_,m,v):=j;ext Builtin.SmallTypes.nextOf;apply C6^aR8 bf4 c.typeIs F.slot_tuple_iterator_next^ad1 F.slot_tuple_iterator_next c.typeIs F.entry_tuple_iterator_next ?_ aX7;exact AM _ (aS4 p 0) _ _ _ s;apply ό e i x (ã q) Y ?_;exact ű _ (Ř (Ϛ q==Value.none) _ _) _ _ s;rw[C7^â (de9<|Ϛ q==Value.none) By];exact AM _ (aS4 p 1) _ _ _ s;apply ό e i x (lT n 0) Y ?_;exact AM _ (seqItems? ↑q) _ _ _ s;apply iA u v ?_;simp only[Bz,r];apply FI^C6^wpAny_setField e i Ê ?_;exact AM _ (newExc (ĥ aH0) []) _ _ _ _;apply bI5;simp only[newExc,newTuple];apply C6 (IT ?_^by size_fits);apply C6 (m:=firstArgMember _ _)^wpAny_of_eq (a:=Value.none) (by first|rfl|(simp only[firstArgMember];rfl)) ?_;apply IT ?_ (by size_fits);simp only[raiseNew];apply C6^wpAny_handled ?_
 first|rw[â (ų A.in1.handled) hh]|rw[hh]
 apply C6^C9^wpAny_throw ?_;show k _ _ (((bU7).extBut.push _).push _) #[_,cj2,Y]
structure ZA(z p o i j a b:Addr):ä where
 pz:p≠z
 oz:o≠z
 iz:i≠z
 jz:j≠z
 po:p≠o
 pi:p≠i
 pj:p≠j
 oi:o≠i
 oj:o≠j
 ij:i≠j
 az:a≠z
 ao:a≠o
 ai:a≠i
 aj:a≠j
 bz:b≠z
 bo:b≠o
 bi:b≠i
 bj:b≠j
variable{X:Cx}{O9:Ef}{σ:L2.St}{H:Hp}{s:Shared}{h':Heap}
def Inv.o8{t':V}{fp:Ek}(I:Ϣ)(hf:∀b∈fp,Vx X O9 H b)(k:∀b o,b∉fp->aV0>o->aY0>o):Ε aC9:=by
 apply I.step (g':=s.gens) (d':=s.drawn) (ch:=fp) (λ b i=>#[(hf b i).2.2.2.1,(hf b i).2.1,(hf b i).2.2.2.2.1,(hf b i).2.2.2.2.2]) (λ b o _ _ a e _=>k b o a e) (λ b o _ _ a e _=>#[o.slots,k b o a e]) (λ_ _ _ _ n=>n)
  (λ b o a e=>#[o,k b o a e]) (λ_ _ e=>e) (CA e e) (λ b ps e=>#[hZ,ψ e]) (Ż m j) (ľ b u e) I.bare
 .let(o,es,ep,x,r):=j;show#[o,es,ep,k _ o (λ z=>(hf _ z).2.1 Y) x,r]
 .let nf:∀c u,H c>u->c∉fp:=λ c u q z=>į (hf c z).1 q q
  apply(I.hok b u e).stay (λ c v a q=>k c v ?_ q) (λ_ q=>q) cB3;obtain z|z:=a
  .rw[z];show nf b u e
  .show nf c _ z
def Inv.nO{t':V}{fp:Ek}{vs:ś}{us:Ď}(I:Ϣ)(hf:∀b∈fp,Vx X O9 H b)(k:∀b o,b∉fp->aV0>o->aY0>o)
  (hv:fx vs) (hz:Ĉ av6) (hT:IsTup h' s.heap.objs.size us.toArray):ŗ (at3^õ vs) aC9:=by
 let hn:dp2:=bp3;apply I.step (g':=s.gens) (d':=s.drawn) (ch:=fp) (λ b a=>#[(hf b a).2.2.2.1,(hf b a).2.1,(hf b a).2.2.2.2.1,(hf b a).2.2.2.2.2]) (λ b o _ _ i e _=>k b o i e) (λ b o _ _ i e _=>#[o.slots,k b o i e])
  (λ b o _ e n=>lr bj5 n) (λ b o i e=>#[o,k b o i e]) (λ b xs e=>ds5 e e) (λ b o u e=>ds5 e e) (λ b ps e=>#[hZ,bw2 (Zb^Z0 e hn) e]) (Ż m j) (ľ b u e) I.bare
 .let(o,es,ep,x,r):=j;show#[o,es,ep,k _ o (λ z=>(hf _ z).2.1 Y) x,r]
 .by_cases a:(ak3 b)
  .subst a;rw[Zc]at e;cases e;show#[hz,us,hv,hT]
  .rw[Zb a]at e;let nf:∀c u,H c>u->c∉fp:=λ c u q z=>į (hf c z).1 q q
   apply(I.hok b u e).stay (λ c v i q=>k c v ?_ q) (λ c q=>ds5 q q) λ c xs q=>ds5 q q
   obtain z|z:=i
   .rw[z];show nf b u e
   .show nf c _ z
#where
def lY(K:Aa)(a b:Addr):It :=
 #[λ i H=>∃xs c x y,cx2/\SqT K H b c/\bC3>x/\Ů c>y,
  λ i H v H'=>∃p x y,cQ6/\(∀xs,cx2->bC3>x)/\(∀c,SqT K H b c->Ů c>y)/\v=cc0/\H'=Α p^õ [x,y],
  λ i H=>∃xs c,cx2/\SqT K H b c/\(ŧ<=i∨bT6<=i)]
abbrev Ds(h:Heap)(a:Addr):Heap:=h.push^bP2 bz0 ⟨Χ,lT 0 0⟩
abbrev Dr(h:Heap)(a b:Addr):Heap:=(Ds h a).push^bP2 bz0 ⟨da5,lT 0 0⟩
abbrev Dq(h:Heap)(a b:Addr):Heap:=(Dr h a b).push^de1 ⟨ã h.objs.size,ã^sL^Ds h a⟩
abbrev Dm(h:Heap)(a b:Addr):Heap:=(Dq h a b).push^de1 ⟨fE,fE⟩
abbrev m8(h:Heap)(a b:Addr):Heap:=(Dm h a b).push^bP2 wS ⟨fE,cG5,cG5,ã^sL^Dr h a b,ã^sL^Dq h a b⟩
def Qoa(a b:Addr)(xs i:ļ):Meets (Builtin.«zip.__new__» #[[do0, Χ,da5],[]])^λ_ R s=>bX a xs/\bX b i/\R (.ok^.ret^ã^sL^Dm s.heap a b)^RM^al0 a b :=
 .of_wp λ prog w A R s h=>by
  let(J,g,d,tk,os):=s;let(q1,j,h):=h;let c:=sub_zip;let o:Heap.IsTuple (Shared.heap #[J,g,d,tk,os]) a xs:=q1;let u:Heap.IsTuple (Shared.heap #[J.push (bP2 bz0 ⟨Χ,lT 0 0⟩),g,d,tk,os]) b i:=let #[ob,e,r]:=j;#[ob,ay7,r]
  wp_walk using wpAny_pyIter_tuple o,wpAny_pyIter_tuple u
  show#[_,Y,h]
def QrS(K:Aa)(c:TA):TI:=λ σ H R=>c σ H λ vs H1=>∃a b xs e,vs=[Χ,da5]/\n4 K H1 a/\SqT K H1 b e/\R (lY K a b) H1
#print L2
namespace D
open PySem PySem.Spec PyProof.Rows L2
def jG:Þ->Þ->Þ
 |x::xs,y::a=>õ [x,y]::jG xs a
 |_,_=>[]
def QcU:∀{xs c:Þ}{i:V}{d:DV},Ů^jG xs c>d->∃x y,bC3>x/\Ů c>y/\d=õ [x,y]:=by
 intro o;induction o with
 |nil=>intro _ _ _ h;simp[jG]at h
 |cons x xs e =>
  intro q1 j d h;cases q1 with
  |nil=>simp[jG]at h
  |cons y c =>
   cases j with
   |zero=>simp[jG]at h;show#[x,y,Y,Y,h.symm]
   |succ i=>let(a,b,h1,h2,h3):=e (bl4 jG h);show#[a,b,cb2,Ë h2,h3]
def uL:∀(xs a:Þ),⇑(jG xs a)=min ŧ ⇑a:=by
 intro e;induction e with
 |nil=>intro _;simp[jG]
 |cons x xs c =>
  intro q1;cases q1 with
  |nil=>simp[jG]
  |cons y a=>simp only[jG,A9,c a];lia
def gb(f g:aD):mZ:=λ env=>do
 let x <- ϰ
 let xs <- gD x
 let y <- ao3
 let ys <- gD y
 ï (jG xs ys)
def QpE{K:Aa}{B:Ej}{a b:Addr}(na:¬ B a)(L:cx2)(Q:AO)(Y2:¬ B b)(O:SqT K H b ys)(rb:me es ys):kW K ρ B H (jG ds es)^lY K a b:=λ ρ1 B1 H1 g P t1=>by
 let j:=g.Dw na L;let o:=g.Dw Y2 O;let c:=du8 Q;let r:=du8 rb;apply#[ľ i d e,xs,ys,j,o,?_]
 .let(x,y,h1,h2,Y):=QcU e;let(u,F,R):=c.get h1;let(v,hv,U):=r.get h2;apply#[#[xs,ys,u,v,j,o,F,hv],ľ z H' G];let(p,u',v',hn,h3,h4,e1,I):=G;subst e1 I;let C:=h3 xs j;let E:=h4 ys o;rw[F]at C;cases C;rw[hv]at E;cases E;apply#[yT (λ z=>t1 p z hn) di8 (cz7 (WO P hn)^ah5 R^au.one U),ċ #[p,_,hn,Y]]
 .rw[uL,bT6,mz];obtain q|q:=Nat.le_total ŧ ⇑ys
  .show ë (Æ (aS5 q) Ĕ)
  .show ċ (Æ (ah7 q) Ĕ)
variable{X:Cx}{f g:aD}
def Yg(f:aD)(g:mj):aN:=IP<|do let d <- ϰ;let env' <- g d env;bo2 env'
def qU{tg e:Expr}{g:mj}{pos:Pos}(r:cl9)(u:PG X tg^Dv X.K g)(x:swapsWithSole [tg] e pos.line X.env=EN:=by rfl)(y:swappedStores [tg] e X.env=aU7:=by rfl)
  (h1:bP8^assignEach [tg] X.env=[bU2 tg]:=by rfl):DS X (dt0 [tg] e)^Yg f g :=
 bb4 (Qqv r u x y h1) (λ D σ H j=>by let(Z,env,ρ,B,J,E,a,hp',S,e,k):=j;let(d,hp1,e1,e):=Ŧ;let(aF,hp2,o,e):=Ŧ;let(z,Y):=Fn;cases z;show IA S v c i C #[Z,env,ρ1,c,hp1,d,a,hp2,i,C,o,λ σ' ρ' B' H' g' S'=>k σ' ρ' B' H' (à kx g') S'])
#where
def v6{a:Int}{n i:V}{d:DV}(h:Ů^Zl a n>d):i<n/\d=Í (a+i):=by
 let hi:i<n:=mm bf2 Zl
 apply bI0 hi;simp[Zl,hi]at h;show h.symm
def ZC(a:Int)(n:V):⇑(Zl a n)=n:=Ğ Zl
def Rf(i:Int):do2 bs5:=ř
def MO(b:Bool):do2 FH:=l3 b
def Ql8(i j:Int):PyData.eqv bs5 ↥j=(i==j):=Y
def qx(i j:Int):eE bs5 ↥j=fz (i==j):=by simp only[eE,Rf,Bool.and_self,QE,if_true,Ed,toP,Ql8]
def HR{α:pZ}{xs:Fa}{i:Int}(h0:0<=i)(h1:i<ŧ):bJ3 xs=cI5 i.toNat:=by ext atI ixN;rw[C8 h0,C8 h1];rfl
def Ra(ns:Ĥ){i:Int}(h0:0<=i)(h1:i<sj):bJ3 af0>↥(ns.getD i.toNat 0):=by
 let hl:i.toNat<sj:=À
 rw[HR h0 cb2,Bt,Ab hl];simp[Ck,hl]
def opt:Ć->DV
 |none=>Ě
 |some i=>ft
def JP(x y:Int)(h:0<y):X8 cY0 ↥y=wX (x % y):=by simp[X8,j6,T3,h]
def Xd(x y:Int)(h:0<y)(h':y<IR):YG cY0 ↥y=wX (x / y):=by simp[YG,j6,T4,h,h']
def WZ(x y:Int)(h:-Pf<x)(h':x<Pf):su cY0 ↥y=wX (x * y):=by simp only[su,j6,TY,Ea (Or.inl (b:=(-Pf<y/\y<Pf))^And.intro h h'),if_true]
def QhW(x y:Int):Zm cY0 ↥y=wX (x+y):=Y
def Qml(x y:Int):fu cY0 ↥y=fz^Af y x:=Y
def Ri(x y:Int):bV cY0 ↥y=fz^Af x y:=Y
def Rm(x y:Int):d7 cY0 ↥y=fz^A6 x y:=Y
def SA(x y:Int):nA cY0 ↥y=fz^A6 y x:=Y
def Z_:jy ↥10 ↥30=wX ą:=Y
def QkJ{m:Int}(h0:0<=m)(h1:bv6 m):Ĭ^jh m:=Ea #[À,À]
def Xf{ds:Þ}(h:ê<=Ĺ):do1 ds:=Ea h
def Ji{f g:aN}(h:ϰ=bo2 aF):Qq f g env=g aF:=ao5 Qq h
def H0{f g:aN}(h:ϰ=ï (.rt d,aF)):Qq f g env=ï (.rt d,aF):=ao5 Qq h
def Js{i:V}{f:aD}{env:En}(h:ϰ=cl5):QR i f env=bo2 aJ9:=ao5 QR h
def W4{c:cH}{f g:aN}(h:bI3=be0):aL c f g env=ϰ:=by simp only[aL,h,Ed,if_true]
def W7{c:cH}{f g:aN}(h:bI3=EN):aL c f g env=ao3:=by simp only[aL,h,Ed,Az,if_false]
def Ys{f:aD}(h:ϰ=cl5):QG f env=ï (.rt d,env):=ao5 QG h
def qC{n:V}{a:aN}{ds:Þ}(h:a (bQ1++ă (n-ê) ń)=ï (.rt d,env)):Zf n a ds=cl5:=ao5 Zf h
def Hi{f:aD}{b:Bool}(h:ϰ=fz b):eB f env=ï b:=by simp only[eB,h,Ed,lO]
def XD{g:DV->bS}{f a:aD}(h:ϰ=cG0)(h':bJ2=ï y)(c:g x y=cl5):Qg g f a env=cl5:=by simp only[Qg,h,h',Ed,c]
def U7{F:Em}{f a:aD}(h:ϰ=cG0)(h':bJ2=ï y)(c:F [x,y]=cl5):Qy 2 F (á f a) env=cl5:=by simp[Qy,Qc,Qk,h,h',QE,c]
def HA{F:Em}{f e a:aD}(h:ϰ=cG0)(h':e env=ï y)(c:bJ2=ï z)(i:F [x,y,z]=cl5):Qy 3 F (Ħ f e a) env=cl5:=by simp[Qy,Qc,Qk,h,h',c,QE,i]
variable{K:Aa}{ρ:Ek}{B:Ej}{J:Hs}{H:Hp}
def Gr.dY{p:Addr}(h:cQ6)(kf:OU p):AC K B H (ρ++[p]) (zP B p)^Α p o where
 pre:=PZ _
 ban:=bq1
 new:=λ a z=>z.elim .inl λ e=>ċ<|e▸#[h,kf]
 cF:=λ a z=>(cS3).elim .inl λ q=>ċ^tm q h
 keep:=λ a u _ q=>aV6 q h q
 trk:=(aw4 K K ρ B B h).trk
def aR.dY{p:Addr}(W:bR4)(h:cQ6)(kf:OU p)(hv:bU K (ρ++[p]) (zP B p) (Α p o) p v):aR K (ρ++[p]) (zP B p) (J++[v])^Α p o where
 len:=Ğ W.len
 nd:=aS6 #[W.nd,Ê,λ a ha b j=>tm j^λ z=>W.bt a (W.rb a ha)<|z▸h]
 obj:=λ i a u e q=>by
  by_cases hi:i<⇑ρ
  .rw[Ag hi]at e;rw[Ag^ì W.len hi]at q;show cE6 ((Gr.dY h kf).gs W.rb) (λ z=>W.bt a (W.rb a cY4)<|z▸h) (W.obj i a u e q)
  .rw[aL1]at e;rw[bx7 W.len]at q;let c:i-⇑ρ=0:=aL7 cQ7
   rw[c]at e;rw[<- W.len,c]at q;simp at e q;subst e q;show hv
 rb:=λ a z=>(cS3).elim (λ q=>ë^W.rb a q) λ q=>ċ^aL6 q
 bt:=λ a z q=>by
  let r:=(aw4 K K ρ B B h).trk a q;obtain z|Y:=z
  .show W.bt a z r
  .rw[Zc]at q;cases q
 bk:=λ a z=>z.elim (W.bk a) λ e=>e▸kf
def Gr.fV{i:V}{a:Addr}(ha:Ů ρ>a)(h:PK>o):AC K B H ρ B^bC4 o' where
 pre:=Ch
 ban:=FF h
 new:=bq1
 cF:=bq1
 keep:=λ b u c q=>lr (â (b≠a)^λ z=>c^Æ z^Aw ha) q
 trk:=λ b q=>by
  by_cases e:b=a
  .subst e;rw[Zc]at q;cases q
  .rw[Zb e]at q;show q
def aR.fV{i:V}{a:Addr}(W:bR4)(ha:Ů ρ>a)(h:PK>o)(hv:bU K ρ B (bC4 o') a v):bR2 (fS i v)^bC4 o' where
 len:=Ğ W.len
 nd:=W.nd
 obj:=λ j b u e q=>by
  by_cases c:j=i
  .subst c;rw[ha]at e;cases e;let hl:j<wp:=ì W.len^Ÿ ha
   rw[ba3]at q;cases q;show hv
  .rw[iO c]at q;let r:b≠a:=λ z=>c^bJ1 z^(List.getElem?_inj cQ7 W.nd).mp^e.trans ha.symm
   show cE6 ((Gr.fV ha h).gs W.rb) r (W.obj j b u e q)
 rb:=W.rb
 bt:=λ b z q=>W.bt b z^(Gr.fV (K:=K) (B:=B) ha h).trk b q
 bk:=W.bk
variable{X:Cx}{e a:Expr}{f:aD}{pos:Pos}
def XH(o:OV):Ģ:=λ h=>í (ã ⇑h,h++[o])
def Zv(i:V):M OV:=λ h=>match Ů h with
 |some o=>í (o,h)
 |none=>none
def VS(i:V)(o:OV):cK7:=λ h=>í ((),h.set i o)
def ZO{i:V}{J hp':Hs}(h:Zv i J>(Tk o)):Ů J>o/\J=hp':=by
 unfold Zv at h;cases q:Ů J with
 |none=>rw[q]at h;cases h
 |some z=>rw[q]at h;cases h;show rg
def Yw(f:cu):aD:=IP<|do let ds <- ϰ;ah6 ds;XH ū
def SF{K:Aa}{H:Hp}{J:Hs}{Q:VK}(W:bR4)(r:AO)(k:k_ K ρ B H eJ (J++[ū]) Q):∀p,cQ6->Hr K^r6 p xs->cX2^r6 p xs:=λ p hp' kf=>by let kp:=kf p _ Zc;let g:AC K B H (ρ++[p]) (zP B p)^r6 p xs:=Gr.dY hp' kp;apply k _ _ _ _ g (W.dY hp' kp #[xs,Zc,bb0 W.rb g _ r]) ?_;ext aA;show#[p,Y,n9 W.len]
def XB{es:Ϡ}{f:cu}(h:DA X es f):ϓ (.List es pos)^Yw f :=
 PY (Ox h).kf (λ σ H Q i=>by let(Z,env,ρ,B,J,d,hp',S,e,k):=i;let(xs,hp1,e1,j):=Ŧ;let(_,hp2,o,r):=Qh j;let(u,Y):=QI o;cases r;show bY5 S (λ vs ρ1 B1 H1 g1 S1 c=>#[ì bT6 (jB u),SF S1.wo c cf6]))
def aA.bB{K:Aa}{ρ:Ek}{J:Hs}{i:V}{v:Y1}(W:bR4)(r:rS ↑i v)(h:Ů J>o):∃a,v=Χ/\Ů ρ>a/\bU K ρ B H a o:=by let(a,Y,e):=r.wN;show#[a,Y,e,W.obj i a o e h]
def Kw:bP
 | [.ref n]=>do
  match <- LG with
  |.lst ds=>ï rc
  |_=>failure
 |xs=>tO xs
def xT:bU4 X aC0 Kw:=by
 intro i s σ H xs us Q I r h;let(ρ,B,J,ds,d,hp',W,j,e,k):=h;unfold Kw at e;split at e
 .rename_i n
  let(o,hp1,e1,c):=Ŧ;let(u,Y):=bl6;cases o with
  |aJ _=>cases c
  |ins _ _=>cases c
  |lst C=>let(Y,Y):=Qm c;let(v,Y,y):=j.bL;let(a,Y,_,z,h1,x):=tT y u;show zQ i s σ H _ us Q I r #[a,z,Y,ë #[ph,yO W x k]]
 .show P0 i s σ H xs us Q I r #[ρ,B,J,_,d,hp',W,j,e,k]
#where
def Qpp{b:DV->aN}(I:V->En->cR0):∀(ds:Þ)(k:V)(env:En)(J:Hs),bZ0 k->(∀(i:V) d,FL>d->∀env J,bZ0 (k+i)->∃a hp',b d env J>(Tk^ō a)/\I (k+i+1) a hp')->∃a hp',zW b ds env J>(Tk^ō a)/\I (k+ê) a hp':=by
 intro r;induction r with
 |nil=>intro k env J h _;show#[env,J,Y,h]
 |cons d ds j =>
  intro k env J h c;let(aF,hp1,e1,h1):=c 0 d Y env J h;let(o,hp2,e,h2):=j (k+1) aF hp1 h1 λ i d' hd a hp' h'=>cR7 (c (i+1) d' (Ë hd) a hp'^Æ (ī<|k+(i+1)=k+1+i) h')<|ī<|k+(i+1)+1=k+1+i+1
  apply#[o,hp2,?_,i3 A9 (ī<|k+(ê+1)=k+1+ê) h2];exact(b d env J).bind _=_;rw[e1];show e
def KE{b:DV->aN}(I:V->En->cR0)(n:V)(env:En)(J:Hs)(h:bZ0 0)(c:∀(i:V),i<n->∀env J,bZ0 i->∃a hp',b ↥A4 env J>(Tk^ō a)/\I (i+1) a hp'):∃a hp',zW b cr2 env J>(Tk^ō a)/\I n a hp':=by
 let(a,hp',e,h'):=Qpp I cr2 0 env J h λ i d hd env J hi=>by let(h1,Y):=v6 hd;rw[Cz]at hi ⊢;rw[Int.zero_add];show c i h1 env J hi
 show#[a,hp',e,by rw[ZC,Cz]at h';show h']
def Qe{α β:pZ}{m:cq6}{k:α->M β}{x:α}(h:m J>(x,hp1)):(m >>= k) J=k x hp1:=ĸ ((m J).bind (λ p=>k ix p.2)=_) h
def GC{f g:aN}(h:i0>(ō aF,hp1)):Qq f g env J=g aF hp1:=Tu
def Qv{i:V}{f:aD}{env:En}(h:i0>(d,hp1)):QR i f env J>(ō aJ9,hp1):=Tu
def Qmr{i:Int}(h:bJ4>d):bH rc bs5=cl5:=by simp only[bH,h]
def Qmq{i:Int}(h:bJ4>d):bH ū bs5=cl5:=by simp only[bH,h]
def Qin(ds:Þ)(m:V):D.Ve ds none^í mG=aS2 m:=by ext D.Ve;rw[HT.sIx_nat];exact cC8 (oT 0) (min m ê-0)=aS2 m;simp
def xW(ds:Þ)(m:V):D.Ve ds (í mG) none=oT m:=by
 ext D.Ve;rw[HT.sIx_nat];exact cC8 (oT^min m ê) (ê-min m ê)=oT m;obtain h|h:=cr6 m
 .rw[aS5 h,Cf Ê]
 .rw[ah7 h,ac7 h,ac7 Ĕ];simp
def uo(ds:Þ)(m:V):lu rc none^í mG=af3^aS2 m:=aH2 Qin
def ul(ds:Þ)(m:V):lu rc (í mG) none=af3^oT m:=aH2 xW
def QbL{f g:aD}{ds:Þ}{m:V}(h:ϰ=ï rc)(h':ao3=wX mG):bO f ZE aJ3 env=af3^aS2 m:=by simp only[bO,ZE,Zi,h,h',Ed,eG,uo]
def QbK{f g:aD}{ds:Þ}{m:V}(h:ϰ=ï rc)(h':ao3=wX mG):bO f aJ3 ZE env=af3^oT m:=by simp only[bO,ZE,Zi,h,h',Ed,eG,ul]
#print D
namespace L2
open PySem PySem.Spec PyProof.Rows
variable{X:Cx}
def Qtc:R2:=λ x y H Q=>∃a kvs k v,x=Χ/\y=bk9/\PK>(.dK kvs)/\aj6>v/\Q v H
def Qmt(j:wc 1<cLine):IxR X Qtc:=by intro value slice O9 s σ H x y v u Q I rx ry h hs;let(a,kvs,k,z,Y,Y,i,hv,q):=h;cases rx;let g:DGet H a bk9^í z:=hv▸DGet.k i;show tail_any (QbE I g) PySem.F.slot_dict_getitem.lookup (Qf9 j I g ry λ w' s' e c=>#[z,H,e,c,q]) hs
def QdG(i:wc 1<cLine):at8 .In^λ x y H Q=>∃a kvs k,y=Χ/\x=bk9/\PK>(.dK kvs)/\Q (ŏ^p9 aj6) H:=by intro j s σ H x y v u Q I rx ry h;let(a,kvs,k,Y,Y,e,q):=h;cases ry;show QsZ i I (DGet.k e) rx λ s' c=>#[db2,H,c,Y,q]
def gh(i:wc 1<cLine):at8 .NotIn^λ x y H Q=>∃a kvs k,y=Χ/\x=bk9/\PK>(.dK kvs)/\Q (be9^p9 aj6) H:=by intro j s σ H x y v u Q I rx ry h;let(a,kvs,k,Y,Y,e,q):=h;cases ry;show QlN i I (DGet.k e) rx λ s' c=>#[db2,H,c,Y,q]
def Qsm:Y1->Y1->Y1->Hp->ι dC:=λ o i v H Q=>∃a kvs k,o=Χ/\i=bk9/\PK>(.dK kvs)/\bv7 gi/\Q^bT0^bF7 k v
def QkC(j:wc 1<cLine):Fv X Qsm:=λ z s σ H o i v E C u Q I x r y h=>by let(a,kvs,k,Y,Y,e,hl,q):=h;cases x;show Qga j I (DPut.k e hl) r y λ s' c=>#[_,c,q]
def Qsl:Y1->ś->Hp->B6:=λ x vs H Q=>∃a kvs k,x=Χ/\PK>(.dK kvs)/\((vs=[bk9]/\∃v,aj6>v/\Q v^bT0^KA kvs k) ∨
 ∃z,vs=[bk9,z]/\(∀v,aj6>v->Q v^bT0^KA kvs k)/\(ų aj6->Q z H))
def Rg:MtR X bl0 Qsl:=by
 intro C s σ H x vs v us Q I rx rv h;let(a,kvs,k,Y,j,h):=h;cases rx;obtain⟨Y,w,o,q⟩|⟨z,Y,q1,r⟩:=h
 .let(u,Y,i):=Yt rv;show Wy I j i o ϊ λ w' s' e c=>#[w,_,e,c,q]
 .let(u,u2,Y,i,y):=KS rv;cases l:aj6 with
  |some w=>show Wy I j i l (ċ^mi u2) λ w' s' e c=>#[w,_,e,c,q1 w l]
  |none=>show Qo9 I j i l λ s' e=>#[z,H,e,y,r l]
def Qsk:Y1->ś->Hp->B6:=λ x vs H Q=>∃a kvs k,x=Χ/\PK>(.dK kvs)/\((vs=[bk9]/\Q (r8 aj6 Ě) H)∨∃z,vs=[bk9,z]/\Q (r8 aj6 z) H)
def Do(o:wc 1<cLine):MtR X cj6 Qsk:=by
 intro y s σ H x vs v us Q I rx rv h;let(a,kvs,k,Y,j,h):=h;cases rx;obtain⟨Y,q⟩|⟨z,Y,q⟩:=h
 .let(u,Y,i):=Yt rv;show Qo7 o I (DGet.k j) i λ w' s' e c=>#[_,H,e,c,q]
 .let(u,u2,Y,i,r):=KS rv;show Qo8 o I (DGet.k j) i r λ w' s' e c=>#[_,H,e,c,q]
#print L2
namespace D
open PySem PySem.Spec PyProof.Rows L2
def Ub:DV->Ï Key
 |.int i=>í^ë i
 |.str x=>í^ċ x
 |_=>none
def ZT(kvs:f8)(k:Key):Ï DV:=bP8^kvs.find? λ a=>FC a.1 k
def XL(kvs:f8)(k:Key)(d:DV):f8 :=
 Ř (bW5 a a.1 k) (FU^cI1 a a.1 k (a.1,d) a)<|kvs++[(k,d)]
def Yc(kvs:f8)(k:Key):f8:=kvs.filter λ a=>ap5 a.1 k
variable{K:Aa}{ρ:Ek}{B:Ej}{H:Hp}{J:Hs}
def Yn{v:Y1}(h:Ub d>k)(r:bp6):v=bk9:=by
 cases d<;>simp[Ub]at h<;>subst h
 .show r.bx
 .show r.bK
abbrev aW(K:Aa)(ρ:Ek)(B:Ej)(H:Hp):f8->ι NA:=Paired λ p q=>ix=FO/\rS p.2 q.2
def Qnt:∀{kvs:f8}{xs:NA},sF ţ=dq8->me (FU sK) (sF sK)->du2:=by
 intro i;induction i with
 |nil =>
  intro q1 e _;cases q1 with
  |nil=>show i9
  |cons _ _=>simp at e
 |cons p kvs c =>
  intro q1 e r;cases q1 with
  |nil=>simp at e
  |cons q xs=>simp only[Ba,List.cons.injEq]at e;simp only[Ba]at r;unfold au at r;let(x,t,a,h1,h2):=r;simp only[List.cons.injEq]at a;let(Y,Y):=a;show Φ #[e.1.symm,h1] (c e.2 h2)
def aW.to{kvs:f8}{xs:NA}(r:du2):sF ţ=dq8/\me (FU sK) (sF sK):=by
 induction r with
 |nil=>show#[Y,au.nil]
 |cons h _ a=>show#[my a.1 h.1,Ë (ah5 h.2 a.2)]
def aW.val(r:du2)(k:Key):(ų aY4/\ų^YK xs k)∨∃d v,aY4>d/\YK xs k>v/\bp6:=by
 induction r with
 |nil=>show dn4
 |@cons p q _ _ h _ c =>
  by_cases e:ix=k
  .show ċ #[p.2,q.2,ak8 ZT e,ak8 YK (h.1▸e),h.2]
  .let a:¬ FO=k:=h.1▸e
   simpa [ZT,YK,B0,e,a]using c
def aW.any{kvs:f8}{xs:NA}(r:du2)(k:Key):bW5 a a.1 k=xs.any λ a=>FC a.1 k:=by
 induction r with
 |nil=>rfl
 |cons h _ c=>simp only[Cn,c,h.1]
def aW.repl{kvs:f8}{xs:NA}(r:du2)(k:Key)(rd:bp6):aW K ρ B H (FU^cI1 a a.1 k (a.1,d) a)^sF^cI1 a a.1 k (a.1,v) a:=by
 induction r with
 |nil=>show i9
 |@cons p q _ _ h _ c =>
  apply Φ ?_ c;dsimp only;by_cases e:ix=k
  .rw[PM,C8<|h.1▸e];show#[h.1,rd]
  .rw[EF,C7<|h.1▸e];show h
def aW.snoc{kvs:f8}{xs:NA}(r:du2)(rd:bp6):aW K ρ B H (kvs++[(k,d)])<|xs++[(k,v)]:=by
 induction r with
 |nil=>show dp3 #[Y,rd]
 |cons h _ a=>show Φ h a
def aW.put(r:du2)(k:Key)(rd:bp6):aW K ρ B H (aE7 k d)^xL xs k v:=by
 ext XL xL;rw[r.any k];split
 .show r.repl k rd
 .show r.snoc rd
def aW.drop(r:du2)(k:Key):aW K ρ B H (bz1 k)^KA xs k:=by
 induction r with
 |nil=>show i9
 |@cons p q _ _ h _ c =>
  unfold Yc KA at c ⊢;by_cases e:ix=k
  .let a:FO=k:=h.1▸e
   simpa [e,a]using c
  .let a:¬ FO=k:=h.1▸e
   rw[IV aP7,IV da1];show Φ h c
def aW.len{kvs:f8}{xs:NA}(r:du2):gi=ŧ:=ag6
def aW.gs(g:by5)(r:du2):bG0 K ρ' B' H':=L2.Paired.mapP r λ_ _ h=>#[h.1,aA.gs g _ _ h.2]
def bU.aJ{a:Addr}(h:bU K ρ B H a AA):∃xs,PK>(.dK xs)/\du2:=by let(xs,e,c,i):=h;show#[xs,e,Qnt c i]
def aW.iZ{a:Addr}(r:du2)(e:PK>(.dK xs)):bU K ρ B H a AA:=#[xs,e,r.to.1,r.to.2]
def uK{n:V}{a:Addr}(W:bR4)(i:ID ρ>a)(e:PK>(.dK xs))(r:aW K ρ B H kvs' xs'):AC K B H ρ B^bT0 xs'/\bR2 (fS n^tF kvs')^bT0 xs':=by let g:AC K B H ρ B^bT0 xs':=Gr.fV i e;show#[g,W.fV (o':=.dK xs') (v:=tF kvs') i e ((r.gs di5).iZ Zc)]
def UR{n:V}{a:Addr}(W:bR4)(i:ID ρ>a)(e:PK>o)(r:me ds' xs'):AC K B H ρ B^r6 a xs'/\bR2 (fS n^Ù ds')^r6 a xs':=by let g:AC K B H ρ B^r6 a xs':=Gr.fV i e;show#[g,W.fV (o':=Ù xs') (v:=Ù ds') i e #[xs',Zc,bb0 W.rb g _ r]]
variable{X:Cx}{e a b:Expr}{fa fb:aD}{pos:Pos}
def VM(o:Ï DV):Ģ:=match o with
 |some d=>cl5
 |none=>failure
def yQ{o:Ï DV}{J hp':Hs}(h:VM o J>Tm):o>d/\J=hp':=by
 cases o with
 |none=>cases h
 |some z=>let(Y,Y):=cK9;show rg
def j8(d:DV):M Key:=match Ub d with
 |some k=>ï k
 |none=>failure
def Ye{J hp':Hs}(h:j8 d J>(Tk k)):Ub d>k/\J=hp':=by
 unfold j8 at h;cases q:Ub d with
 |none=>rw[q]at h;cases h
 |some z=>rw[q]at h;let(Y,Y):=cK9;show rg
def aB:DV->bS
 |.ref n,y=>do
  match <- LG with
  |.lst ds=>do let i <- eG y;VM bJ4
  |.aJ kvs=>do let k <- j8 y;VM aY4
  |_=>failure
 |x,y=>bH x y
def Qr9(O:wc 1<cLine):IxR X^sS X.K aB:=by
 intro value slice O9 s σ H x y v u Q I rx ry h hsub;let(ρ,B,J,dx,dy,d,hp',W,F,C,e,k):=h;unfold aB at e;split at e
 .rename_i n
  let(o,hp1,e1,c):=Ŧ;let(Y2,Y):=bl6;let(a,Y,i1,G):=tT F Y2;cases o with
  |ins _ _=>cases c
  |aJ kvs =>
   let(ky,hp2,j,r):=Qh c;let(L,Y):=Ye j;let(hv,Y):=yQ r;let(xs,h1,R):=G.aJ;obtain⟨z,_⟩|⟨d',v',z,U,E⟩:=R.val ky
   .rw[hv]at z;cases z
   .rw[hv]at z;cases z
    show Qmt O value slice O9 s σ H _ _ v u Q I rx ry #[a,xs,ky,v',Y,Yn L C,h1,U,LP E] hsub
  |lst ds=>let(i,hp2,j,r):=Qh c;let(Y,Y):=GR j;let(hv,Y):=yQ r;let(xs,h1,P):=G;let(z,hz,E):=Q_ P hv;show Se value slice O9 s σ H _ _ v u Q I rx ry #[a,xs,i,z,Y,C.bx,ph,hz,LP E] hsub
 .show Wc value slice O9 s σ H x y v u Q I rx ry #[ρ,B,J,_,_,d,hp',W,F,C,e,k] hsub
def Qr(j:wc 1<cLine)(ha:cC6)(c:ϓ b fb)(i:kY b:=by intro _ _;rfl):ϓ (cx7 a b)^ϖ fa fb:=PY (Wi (Qr9 j) ha c i)^CA h^ya h
def ZG:bP
 | [.ref n]=>do
  match <- LG with
  |.lst ds=>wX ê
  |.aJ kvs=>wX gi
  |_=>failure
 |xs=>Ut xs
def ZF:aQ3 X "len" ZG:=by
 intro c s σ H xs us Q I r h;let(ρ,B,J,ds,d,hp',W,x,e,k):=h;unfold ZG at e;split at e
 .rename_i n
  let(o,hp1,e1,i):=Ŧ;let(z,Y):=bl6;let(v,Y,C):=x.bL;let(a,Y,_,y):=tT C z;cases o with
  |ins _ _=>cases i
  |lst E=>let(Y,Y):=bY3;let(u,h1,j):=y;show jU c s σ H _ us Q I r #[a,u,Y,ë ph,ì cI2 aO6]
  |aJ kvs=>let(Y,Y):=bY3;let(u,h1,j):=y.aJ;show Qf0 c s σ H _ us Q I r #[a,u,Y,h1,ì j.len aO6]
 .show gJ c s σ H xs us Q I r #[ρ,B,J,_,d,hp',W,x,e,k]
def Eu:DV->cK8
 |.tup ds=>cu5
 |.lst ds=>cu5
 |.ref n=>do
  match <- LG with
  |.lst ds=>cu5
  |_=>failure
 |_=>failure
def QkA{J hp':Hs}{K:Aa}{v:Y1}(W:bR4)(r:bp6)(h:Eu d J>bg6):J=hp'/\∃p xs,v=cc0/\(ds4∨cx1 p)/\AO:=by
 cases d with
 |tup xs=>let(Y,Y):=cK9;let(a,c,Y,_,j,l):=r.tupI;show#[Y,a,c,Y,ċ j,l]
 |lst xs=>let(Y,Y):=cK9;let(a,c,Y,_,j,l):=r.b_;show#[Y,a,c,Y,ë j,l]
 |ref n =>
  let(o,hp1,e1,i):=Qh (â ((LG >>= λ o=>cH8 o ds cu5 failure cK8) J>bg6) h);let(u,Y):=bl6;cases o with
  |lst y=>let(Y,Y):=bY3;let(a,Y,_,c,h1,x):=tT r u;show#[Y,a,c,Y,ë ph,x]
  |aJ _=>cases i
  |ins _ _=>cases i
 |non=>cases h
 |bl _=>cases h
 |int _=>cases h
 |str _=>cases h
def tX(g:bS):bP
 | [d]=>g d
 |_=>failure
def Ez:bP:=tX λ d=>sQ ds (Eu d) ū
def yP{g:bS}{ds:Þ}(h:tX g ds J>Tm):∃x,ds=[x]/\g x J>Tm:=by
 unfold tX at h;split at h
 .show#[_,Y,h]
 .cases h
def M0:bU4 X aI1 Ez:=by intro c s σ H xs us Q I r h;let(ρ,B,J,ds,d,hp',W,j,e,k):=h;let(x,Y,e):=yP e;let(z,hp1,e1,i):=Ŧ;let(Y,Y):=bY3;let(v,Y,o):=j.bL;let(Y,p,y,Y,u,l):=QkA W o e1;show Qah c s σ H _ us Q I r #[p,y,Y,u,qy W l k]
#where
def dh:V->Hs->DV->Ï DV
 |0,_,_=>none
 |n+1,J,d=>match d with
  |.ref i=>match Ů J with
   |some (.lst ds)=>mr (OC n J) .lst
   |_=>none
  |.tup ds=>mr (OC n J) .tup
  |.lst ds=>mr (OC n J) .lst
  |d=>í d
def vM{α β:pZ}{f:α->Ï β}{x:α}{xs:Fa}{e:Â β}(h:(x::xs).mapM f>e):∃y a,f x>y/\xs.mapM f>a/\e=y::a:=by
 rw[List.mapM_cons]at h;cases q:f x with
 |none=>rw[q]at h;cases h
 |some y =>
  cases c:xs.mapM f with
  |none=>rw[q,c]at h;cases h
  |some a=>rw[q,c]at h;show#[y,a,Y,Y,an9 h]
variable{X:Cx}{O9:Ef}{σ:St}{H:Hp}{s:Shared}{ρ:Ek}{B:Ej}{J:Hs}
def yR(I:Ϣ)(W:AT X.K B J H):∀(n:V)(d d':DV)(v:Y1)(u:Value),dh n J d>d'->pe X.K d v->dp5->∃as,Reads s.heap u (toP d') as:=by
 intro U;induction U with
 |zero=>intro _ _ _ _ h _ _;cases h
 |succ n P =>
  intro d d' v u h r j;let all:∀(ds c:Þ)(xs:ś)(us:Ď),OC n J>c->lP X.K ds xs->bf5->∃as,ReadsAll s.heap us (cV c) as:=by
   intro ds;induction ds with
   |nil=>intro c xs us h r j;rw[List.mapM_nil]at h;cases h;unfold au at r;subst r;cases j;show#[[],ϧ cV i9]
   |cons x ds Q =>
    intro c xs us h r j;let(y,zs,h1,h2,Y):=vM h;unfold au at r;let(z,t,Y,r1,r2):=r;cases j with
    |cons q1 R=>let(as,L):=P x y z _ h1 r1 q1;let(bs,O):=Q zs t _ h2 r2 R;show#[_,ϧ cV (Φ L O)]
  let lst:∀(ds c:Þ)(a:Addr)(xs:ś),OC n J>c->ay8 X.K a->lP X.K ds xs->∃as,Reads s.heap Ű (toP^Ù c) as:=by intro ds c a xs h F E;let(C,Y2,(o,k,e,G,_,hd),_):=wq F;let(as,q):=all ds c xs C h E Y2;show bT9 _ (reads_list_at e G hd^Ë q)
  unfold dh at h;cases d with
  |non=>cases h;obtain Y:=r.f9;cases j;show bT9 [] fE
  |bl b=>cases h;obtain Y:=r.iw;cases j;show bT9 [] (xk b)
  |int i=>cases h;obtain Y:=r.bx;let(t,Y):=j;show bT9 [] bp2
  |str x=>cases h;obtain Y:=r.bK;let(t,Y):=j;show bT9 [] (.str x t)
  |tup ds=>let(c,h1,Y):=ba9 h;let(a,xs,Y,_,F,E):=r.tupI;cases j;let(C,Y2,(o,e,G,k,hd),_):=iP F;let(as,q):=all ds c xs C h1 E Y2;show bT9 _ (reads_tuple_at e G hd^Ë q)
  |lst ds=>let(c,h1,Y):=ba9 h;let(a,xs,Y,_,F,E):=r.b_;cases j;show lst ds c a xs h1 F E
  |ref i =>
   cases q:Ů J with
   |none=>simp only[q]at h;cases h
   |some o =>
    simp only[q]at h;cases o with
    |aJ _=>cases h
    |ins _ _=>cases h
    |lst ds=>let(c,h1,Y):=ba9 h;let(a,Y,_,xs,h2,l):=tT r q;cases j;show lst ds c a xs h1 (SqL.of h2) l
#where
def rY(d:DV):Ģ:=λ J=>LL (cL6 d) x (x,J)
def gY{J hp':Hs}(h:rY d J>(Tk d')):cL6 d>d'/\J=hp':=by let(x,h1,h2):=ba9 h;cases h2;show mi h1
def Ue(x y:DV):OB:=do
 let x' <- rY x
 let y' <- rY y
 QE (ik x'&&ik y')
 ï (bu7 x' y')
def aV:DV->bS:=oS x y b (Ue x y)^fz b
def cW:DV->bS:=oS x y b (Ue x y)^fz^hV b
variable{X:Cx}{e a b:Expr}{f:aD}{pos:Pos}
def g9{k:Bool}{J hp':Hs}(h:Ue x y J>(Tk k)):∃c i,cL6 x>c/\cL6 y>i/\Ĭ^ik c/\Ĭ^ik i/\k=bu7 c i/\J=hp':=by let(c,hp1,e1,h):=Qh h;let(i,hp2,o,h):=Qh h;let(_,u,r,h):=Qh h;let(q1,Y):=gY e1;let(v,Y):=gY o;let(j,Y):=QI r;let(Y,Y):=cK9;rw[Bb]at j;show#[c,i,q1,v,j.1,j.2,Y,Y]
def Jf(o:wc 64<cLine):PU X .Eq aV:=by intro G s σ H x y v u Q I rx ry h;let(ρ,B,J,Y2,L,d,hp',W,z,C,e,k):=h;let(b,hp1,e1,j):=Ŧ;let(Y,Y):=Qm j;let(O,P,q1,r,E,F,Y,Y):=g9 e1;let(as,c):=yR I W _ _ _ _ _ q1 z rx;let(bs,i):=yR I W _ _ _ _ _ r C ry;show eq_dataH c i E F o #[db2,H,I,Y,dr0]
def yw(o:wc 64<cLine):PU X .NotEq cW:=by intro G s σ H x y v u Q I rx ry h;let(ρ,B,J,Y2,L,d,hp',W,z,C,e,k):=h;let(b,hp1,e1,j):=Ŧ;let(Y,Y):=Qm j;let(O,P,q1,r,E,F,Y,Y):=g9 e1;let(as,c):=yR I W _ _ _ _ _ q1 z rx;let(bs,i):=yR I W _ _ _ _ _ r C ry;show ne_dataH c i E F o #[db2,H,I,Y,dr0]
def Yd:wP DV
 |.non=>true
 |.bl _=>true
 |.int _=>true
 |.str _=>true
 |_=>false
def Tg:DV->wP DV
 |.non,.non=>true
 |.bl a,.bl b=>a==b
 |.bl a,.int b=>É a 1 0==b
 |.int a,.bl b=>a==É b 1 0
 |.int a,.int b=>a==b
 |.str a,.str b=>a==b
 |_,_=>false
def oZ:DV->Y1
 |.non=>Ě
 |.bl b=>FH
 |.int i=>ft
 |.str x=>Ϭ
 |_=>Ě
def DC{K:Aa}{v:Y1}(h:Ĭ^Yd d)(r:bp6):v=oZ d:=by
 cases d<;>simp[Yd]at h
 .show r.f9
 .show r.iw
 .show r.bx
 .show r.bK
def QbP(h:Ĭ^Yd d):bO1^oZ d:=by cases d<;>simp[Yd]at h<;>rfl
def Ql7{d e:DV}(h:Ĭ^Yd d)(h':Ĭ^Yd e):eqV (oZ d)^oZ e=Tg d e:=by cases d<;>simp[Yd]at h<;>cases e<;>simp[Yd]at h'<;>rfl
def QnX{K:Aa}:∀{ds:Þ}{xs:ś},Ĭ ar7->AO->xs=pc oZ:=by
 intro i;induction i with
 |nil=>intro _ _ r;unfold au at r;show r
 |cons d ds c=>intro _ h r;unfold au at r;let(x,t,Y,j,o):=r;rw[Cy,Bb]at h;rw[DC h.1 j,c h.2 o];rfl
def inB(d:DV)(ds:Þ):Bool:=ds.any λ y=>Tg y d
def Qmn{d:DV}(h:Ĭ^Yd d):∀{ds:Þ},Ĭ ar7->inV (oZ d)^pc oZ=inB d ds:=by
 intro j;induction j with
 |nil=>intro _;show Y
 |cons x ds i=>intro h';rw[Cy,Bb]at h';let c:=i h'.2;unfold inV inB at c ⊢;rw[Ba,Cn,Cn,c,Ql7 h'.1 h]
def QhX:∀{ds:Þ},Ĭ ar7->Ĭ^(pc oZ).all zq:=by
 intro i;induction i with
 |nil=>intro _;show Y
 |cons x ds c=>intro h;rw[Cy,Bb]at h;rw[Ba,Cy,QbP h.1,c h.2];rfl
def tZ(x:DV):DV->OB
 |.ref n=>do
  match <- LG with
  |.lst ds=>do QE (Yd x&&ar7);ï (inB x ds)
  |.aJ kvs=>do let k <- j8 x;ï (p9 aY4)
  |_=>failure
 |.tup ds=>do QE (Yd x&&ar7);ï (inB x ds)
 |.lst ds=>do QE (Yd x&&ar7);ï (inB x ds)
 |_=>failure
def pG:DV->bS:=oS x y b (tZ x y)^fz b
def Gd:DV->bS:=oS x y b (tZ x y)^fz^hV b
def vO{k:Bool}{J hp':Hs}{K:Aa}(W:bR4)(z:rS x vx)(v:rS y vy)(h:tZ x y J>(Tk k)):J=hp' /\
  ((∃p xs,vy=cc0/\(ds4∨cx1 p)/\bO1 vx/\Ĭ ba8/\k=inV vx xs)∨∃a kvs ky,vy=Χ/\vx=kV ky/\PK>(.dK kvs)/\k=p9^aj5 ky):=by
 let j:∀(ds:Þ)(xs:ś)(p:Addr),(do QE (Yd x&&ar7);ï (inB x ds):OB) J>(Tk k)->AO->(ds4∨cx1 p)->vy=cc0->J=hp'/\(∃p xs,vy=cc0/\(ds4∨cx1 p)/\bO1 vx/\Ĭ ba8/\k=inV vx xs):=by intro ds xs p h i u Y2;let(_,hp1,e1,r):=Qh h;let(c,Y):=aL3;let(Y,Y):=Qm r;rw[Bb]at c;let ex:=QnX c.2 i;let E:=DC c.1 z;subst ex E;show#[Y,p,_,Y2,u,QbP c.1,QhX c.2,(Qmn c.1 c.2).symm]
 cases y with
 |tup ds=>let(a,xs,Y,_,u,i):=v.tupI;show(j ds xs a h i (ċ u) Y).imp id .inl
 |lst ds=>let(a,xs,Y,_,u,i):=v.b_;show(j ds xs a h i (ë u) Y).imp id .inl
 |ref n =>
  let(o,hp1,e1,r):=Qh h;let(F,Y):=bl6;let(a,Y,_,C):=tT v F;cases o with
  |lst ds=>let(xs,h1,i):=C;show(j ds xs a r i (ë ph) Y).imp id .inl
  |aJ kvs=>let(ky,hp2,G,I):=Qh r;let(L,Y):=Ye G;let(Y,Y):=Qm I;let(xs,h1,O):=C.aJ;apply#[Y,ċ #[a,xs,ky,Y,Yn L z,h1,?_]];obtain⟨z1,z2⟩|⟨_,_,z1,z2,_⟩:=O.val ky<;>rw[z1,z2]<;>rfl
  |ins _ _=>cases r
 |non=>cases h
 |bl _=>cases h
 |int _=>cases h
 |str _=>cases h
def Wm(z:wc 1<cLine):PU X .In pG:=by
 intro i s σ H x y v u Q I rx ry h;let(ρ,B,J,G,Y2,d,hp',W,C,E,e,k):=h;let(b,hp1,e1,j):=Ŧ;let(Y,Y):=Qm j;let(Y,h):=vO W C E e1;let c:=LP^Z6 (b:=b);obtain⟨p,xs,Y,F,o,r,Y⟩|⟨a,kvs,ky,Y,Y,h1,Y⟩:=h
 .show QgZ i s σ H _ _ v u Q I rx ry #[p,xs,Y,F,o,r,c]
 .show QdG z i s σ H _ _ v u Q I rx ry #[a,kvs,ky,Y,Y,h1,c]
def Oz(z:wc 1<cLine):PU X .NotIn Gd:=by
 intro i s σ H x y v u Q I rx ry h;let(ρ,B,J,G,Y2,d,hp',W,C,E,e,k):=h;let(b,hp1,e1,j):=Ŧ;let(Y,Y):=Qm j;let(Y,h):=vO W C E e1;let c:=LP^Z6 (b:=hV b);obtain⟨p,xs,Y,F,o,r,Y⟩|⟨a,kvs,ky,Y,Y,h1,Y⟩:=h
 .show Qa1 i s σ H _ _ v u Q I rx ry #[p,xs,Y,F,o,r,c]
 .show gh z i s σ H _ _ v u Q I rx ry #[a,kvs,ky,Y,Y,h1,c]
def tM(o i d:DV):cK7:=match o with
 |.ref n=>do
  match <- LG with
  |.lst ds=>do
   let k <- eG i
   match ixN ê k with
   |some j=>VS n (Ù^dj4 j)
   |none=>failure
  |.aJ kvs=>do
   let k <- j8 i
   ag (gi<lim)
   VS n (bu5 k d)
  |_=>failure
 |_=>failure
def tP3(K:Aa)(g:DV->DV->DV->cK7):Ft:=λ o i v H Q=>∃ρ B J c j r hp',bR4/\rS c o/\rS j i/\rS r v/\g c j r J>(Tk ())/\∀ρ' B' H',bE8->aR K ρ' B' hp' H'->Q H'
def au.set{K:Aa}(r:dt2):∀{ds:Þ}{xs:ś}(i:V),AO->me (dj4 i)^xs.set i x:=by
 intro o;induction o with
 |nil=>intro _ i h;unfold au at h;subst h;show au.nil
 |cons _ ds c =>
  intro _ j h;cases j with
  |zero=>unfold au at h;let(y,t,Y,_,h2):=h;show ah5 r h2
  |succ i=>unfold au at h;let(y,t,Y,h1,h2):=h;show ah5 h1 (c i h2)
def Qsa(hu:wc 1<cLine):Fv X^tP3 X.K tM:=by
 intro z s σ H o i v ov iv u Q I ro ri rv h;let(ρ,B,J,O,di,dv,hp',W,r1,G,Y2,e,k):=h;cases O with
 |ref n =>
  let(ob,hp1,e1,x):=Ŧ;let(P,Y):=bl6;let(a,Y,E,C):=tT r1 P;cases ob with
  |ins _ _=>cases x
  |lst ds =>
   let(j,hp2,y,c):=Qh x;let(Y,Y):=GR y;let(xs,h1,F):=C;cases q:ixN ê j with
   |none=>simp only[q]at c;cases c
   |some m=>simp only[q]at c;cases c;let(g,r):=UR W E h1 (au.set Y2 m F);show QkD z s σ H _ _ v ov iv u Q I ro ri rv #[a,xs,j,m,Y,G.bx,h1,ì ⇑F q,k ρ B _ g r]
  |aJ kvs=>let(ky,hp2,y,c):=Qh x;let(hk,Y):=Ye y;let(_,a9,R,U):=Qh c;let(hl,Y):=QI R;cases U;let(xs,h1,L):=C.aJ;let(g,r):=uK W E h1 (L.put ky Y2);show QkC hu z s σ H _ _ v ov iv u Q I ro ri rv #[a,xs,ky,Y,Yn hk G,h1,ì L.len (Ay by7 vJ),k ρ B _ g r]
 |non=>cases e
 |bl _=>cases e
 |int _=>cases e
 |str _=>cases e
 |tup _=>cases e
 |lst _=>cases e
def cL(f g:aD):mj:=λ d env=>do
 let o <- ϰ
 let i <- ao3
 tM o i d
 ï env
def qT(L:wc 1<cLine)(Y2:ϓ o fo)(hi:ϓ i fi)
  (ha:∀v,cY2 (cx7 o i) v=(do
   let ov <- holding [v] bo1
   let iv <- holding [v,ov] (æ i)
   standAt pos
   holding [v,ov,iv] (setItem ov iv v)
   release [v,ov,iv] []):=by intro _;rfl):PG X (cx7 o i)^Dv X.K^cL fo fi:=by
 intro E s σ H v u Q I r h;apply Qqq Y2 hi (Qsa L) ha E s σ H v u Q I r ?_;let(Z,env,ρ,B,J,d,j,hp',S,rd,e,k):=h;let(x,hp1,e1,e):=Ŧ;let(y,hp2,F,e):=Ŧ;let(z,c,G,e):=Ŧ;let(Y,Y):=Fn;apply cG7 R O^bb1 F^λ U ρ2 C H2 g2 S2 P=>?_;show#[ρ2,C,hp2,x,y,d,c,S2.wo,ϸ g2 _ _ O,P,cq7 S.wo.rb am1 _ rd,G,λ ρ3 B3 H3 g3 W3=>k _ ρ3 B3 H3 ((cf4).gs S.wo.rb)^S2.grow g3 W3]
def jr:String->DV->cK7
 | "list", .lst _=>ï ()
 | "str", .str _=>ï ()
 |T,.ref n=>do
  match <- LG with
  |.lst _=>QE (T == Đ)
  |.aJ _=>QE (T == ie)
  |_=>failure
 |_,_=>failure
def Qja{T:String}{J hp':Hs}{K:Aa}{u:Unit}(W:bR4)(r:bp6)(h:jr T d J>(Tk u)):J=hp'/\tyV K T v H:=by
 unfold jr at h;split at h
 .let(_,Y):=cK9
  let(a,xs,Y,_,y,_):=r.b_;show#[Y,ë #[Y,xs,y]]
 .let(_,Y):=cK9
  obtain Y:=r.bK;show rg
 .let(o,hp1,e1,c):=Qh h
  let(x,Y):=bl6;let(a,Y,_,j):=tT r x;cases o with
  |lst ds=>let(i,Y):=QI c;let(xs,h1,_):=j;show#[Y,ë #[Ë i,xs,ph]]
  |aJ kvs=>let(i,Y):=QI c;let(xs,h1,_):=j;show#[Y,wZ (ë #[Ë i,ë #[xs,h1]])]
  |ins _ _=>cases c
 .cases h
def o_(K:Aa)(m:DV->bP):Y1->ś->Hp->B6:=λ x vs H Q=>∃ρ B J c ds d hp',bR4/\rS c x/\oq vs/\m c ds J>Tm/\k_ K ρ B H d hp' Q
def Zo(T:String)(m:DV->bP)(f:aD)(a:cu):aD:=λ env=>do
 let x <- ϰ
 jr T x
 let ds <- bJ2
 m x ds
def ZJ{T id:String}{name:Str}{es:Ϡ}{m:DV->bP}{i c:Pos}(L:dv0 X id m)(P:PlainAttrs T)(slot:Slot T name id)(r:typeOf cQ9=ï bV3)(O:ϓ o fo)(ha:DA X (e::es) fs)
  (hbase:OP o name bo1=bo1:=by rfl)
  (hfew:((ş c<|e::es).all (λ x=>hV x.1)&&(bE3 c).all (λ x=>p9 x.1)
   && Af (⇑(e::es)+⇑([]:ag2)+É (bY2 ([]:ag2)) 0 1) 30)=true:=by rfl)
  (hline:Ĭ<|i.endLine==c.line:=by rfl) (hs:cP5=cv8::bA9:=by rfl) (hplain:ÿ^(ş c es).any ţ:=by rfl) :
  ϓ (ES o name i (e::es) c)^Zo T m fo fs :=
 PY (Wj P slot r L O ha hbase hfew hline hs hplain) (λ σ H Q E=>by let(Z,env,ρ,B,J,d,hp',S,e,k):=E;let(x,hp1,e1,G):=Ŧ;let(_,hp2,F,I):=Qh G;let(ds,j,u,Y2):=Qh I;apply cG9 y;let(z,ty):=Qja S1.wo y F;rw[<- z]at u;show#[ty,iG.run S1 u λ vs ρ2 C H2 g2 S2 R=>#[ρ2,C,j,x,ds,d,hp',S2.wo,ϸ g2 _ _ y,R,Y2,Fu am1]])
def DK(x:DV)(k:V->bP):Ģ:=match x with
 |.ref n=>do
  match <- LG with
  |.lst ds=>k n ds
  |_=>failure
 |_=>failure
def wQ(x:DV)(k:V->bI f8):Ģ:=match x with
 |.ref n=>do
  match <- LG with
  |.aJ ds=>k n ds
  |_=>failure
 |_=>failure
def vR{x d:DV}{k:V->bP}{J hp':Hs}(h:DK x k J>Tm):∃n ds,x=NO/\YP>ū/\k n ds J>Tm:=by
 cases x with
 |ref n =>
  let(o,hp1,e1,c):=Qh h;let(i,Y):=bl6;cases o with
  |lst ds=>show#[n,ds,Y,i,c]
  |aJ _=>cases c
  |ins _ _=>cases c
 |_=>cases h
def Ux{x d:DV}{k:V->bI f8}{J hp':Hs}(h:wQ x k J>Tm):∃n ds,x=NO/\YP>(tF ds)/\k n ds J>Tm:=by
 cases x with
 |ref n =>
  let(o,hp1,e1,c):=Qh h;let(i,Y):=bl6;cases o with
  |aJ ds=>show#[n,ds,Y,i,c]
  |lst _=>cases c
  |ins _ _=>cases c
 |_=>cases h
def Jr(x:DV):bP
 | [d]=>DK x λ n ds=>do ag (ê<lim);VS n (bE5 [d]);ï Ě
 |_=>failure
def J2:dv0 X cq2 Jr:=by
 intro j s σ H x vs v us Q I rx rv h;let(ρ,B,J,E,es,d,hp',W,z,C,e,k):=h;unfold Jr at e;split at e
 .rename_i y;let(n,ds,Y,h0,e):=vR e;let(_,hp1,e1,r):=Ŧ;let(hl,Y):=aL3;cases r;let(a,Y,u,xs,h1,i):=tT z h0;let(w,Y,c):=C.bL;let(g,o):=UR W u h1 (aE6 i c);show Kh j s σ H _ _ v us Q I rx rv #[a,xs,w,Y,Y,h1,ì df0 (Ay by7 vJ),k _ ρ B _ g o yS]
 .cases e
def Dl(x:DV):bP
 | [y]=>wQ x λ n kvs=>do
  let k <- j8 y
  let d <- VM aY4
  VS n (tF^bz1 k)
  cl5
 | [y,z]=>wQ x λ n kvs=>do
  let k <- j8 y
  match aY4 with
  |some d=>do VS n (tF^bz1 k);cl5
  |none=>ï z
 |_=>failure
def QpR:dv0 X bl0 Dl:=by
 intro r s σ H x vs v us Q I rx rv h;let(ρ,B,J,U,es,d,hp',W,L,j,e,k):=h;unfold Dl at e;split at e
 .rename_i y;let(n,kvs,Y,h0,e):=Ux e;let(ky,hp1,e1,e):=Ŧ;let(E,Y):=Ye e1;let(d',hp2,P,e):=Ŧ;let(hv,Y):=yQ P;cases e;let(a,Y,F,G):=tT L h0;let(xs,h1,o):=G.aJ;let(w,Y,c):=j.bL;obtain Y:=Yn E c;let(g,u):=uK W F h1 (o.drop ky);obtain⟨z,_⟩|⟨C,v',z,i,Y2⟩:=o.val ky
  .rw[hv]at z;cases z
  .rw[hv]at z;cases z;show Rg r s σ H _ _ v us Q I rx rv #[a,xs,ky,Y,h1,ë #[Y,v',i,k _ ρ B _ g u (cq7 W.rb g _ Y2)]]
 .rename_i y z;let(n,kvs,Y,h0,e):=Ux e;let(ky,hp1,e1,e):=Ŧ;let(E,Y):=Ye e1;let(a,Y,F,G):=tT L h0;let(xs,h1,o):=G.aJ;unfold au at j;let(w,t,Y,c,j):=j;obtain Y:=Yn E c;let(O,Y,R):=j.bL;obtain⟨z1,i⟩|⟨C,v',z1,i,Y2⟩:=o.val ky
  .rw[z1]at e;let(Y,Y):=Fn;show Rg r s σ H _ _ v us Q I rx rv #[a,xs,ky,Y,h1,ċ #[O,Y,(λ v hv=>į i hv hv),λ_=>LP R]]
  .rw[z1]at e;cases e;let(g,u):=uK W F h1 (o.drop ky);show Rg r s σ H _ _ v us Q I rx rv #[a,xs,ky,Y,h1,ċ #[O,Y,(λ v hv=>IX i hv hv^k _ ρ B _ g u^cq7 W.rb g _ Y2),λ hn=>į i hn hn]]
 .cases e
def Yp(x:DV):bP
 | [y]=>wQ x λ n kvs=>do
  let k <- j8 y
  ï (r8 aY4 Ě)
 | [y,z]=>wQ x λ n kvs=>do
  let k <- j8 y
  ï (r8 aY4 z)
 |_=>failure
def Ke(G:wc 1<cLine):dv0 X cj6 Yp:=by
 intro F s σ H x vs v us Q I rx rv h;let(ρ,B,J,R,es,d,hp',W,Y2,i,e,k):=h;unfold Yp at e;split at e
 .rename_i y;let(n,kvs,Y,h0,e):=Ux e;let(ky,hp1,e1,e):=Ŧ;let(r,Y):=Ye e1;let(Y,Y):=Fn;let(a,Y,L,C):=tT Y2 h0;let(xs,h1,u):=C.aJ;let(w,Y,c):=i.bL;obtain Y:=Yn r c;apply Do G F s σ H _ _ v us Q I rx rv #[a,xs,ky,Y,h1,ë #[Y,LP ?_]];obtain⟨z1,j⟩|⟨o,v',z1,j,E⟩:=u.val ky<;>rw[z1,j]
  .show yS
  .show E
 .rename_i y z;let(n,kvs,Y,h0,e):=Ux e;let(ky,hp1,e1,e):=Ŧ;let(r,Y):=Ye e1;let(Y,Y):=Fn;let(a,Y,L,C):=tT Y2 h0;let(xs,h1,u):=C.aJ;unfold au at i;let(w,t,Y,c,i):=i;obtain Y:=Yn r c;let(P,Y,O):=i.bL;apply Do G F s σ H _ _ v us Q I rx rv #[a,xs,ky,Y,h1,ċ #[P,Y,LP ?_]];obtain⟨z1,j⟩|⟨o,v',z1,j,E⟩:=u.val ky<;>rw[z1,j]
  .show O
  .show E
 .cases e
#print D
namespace L2
open PySem PySem.Spec PyProof.Rows
def Inv.g_{X:Cx}{s:Shared}(I:Ϣ):ų cS8:=by
 cases q:cS8 with
 |none=>rfl
 |some o=>show bu1 (Ao^I.kIn _ o q)
def Qq1(K:Aa)(a:ç TE TE):TE:=λ σ H Q=>∀p,cQ6->OU p->HF a σ (Α p^.dK []) λ ps H2=>H2 p>(.dK [])/\∃kvs:NA,ps=FU (λ c=>(kV c.1,c.2))/\gi<=15/\cX2^upd H2 p^.dK^X7 [] kvs
def QjQ{keys:Â S9}{values:Ϡ}{r:ç TE TE}(h:PPs X pos keys values r)(j:Ĭ^keys.all df4)(hl:keys.length=values.length)(h0:keys≠[])
  (h15:keys.length<=15):a7 (.Dict keys values pos)^Qq1 X.K r:=by
 intro y s σ H Q I q;let hn:=pM cp5;let x:=I.laid (a:=s.heap.objs.size) (o:=.dK []) (h':=re ie (.dict hZ)) (t':=s.toks) (bF4^n5 q) Ĕ^QbF s.heap I.big;apply wpAny_Dict_walk (knd:=am4) j hl h0 h15^jc (h y _ σ _ _ x^q _ hn I.g_) ws s2 C;let(ps,R,v,u,e,kvs,ep,U,G):=C;subst ep;let(rs,c,L):=Qc7 (P:=X.prog) (w:=X.w) u;let(z,hd,O,Y2,dd):=gX v.hok e;cases Y2;apply#[rs,c,dd,λ h' i F=>#[ϒ,_,?_,Y,G]];let hz:bN9^X7 [] kvs:=by let h1:=Vs kvs [];rw[List.length_nil]at h1;rw[sizeLine_eq];lia
 let E:∃q,aV4>q:=cE1 q hq i q hq;show Go v cU6 F E (Ia hz hd (L.merge i9) i)
def Qg4{X:Cx}:a7 (.Dict [] [] pos)^λ_ H Q=>∀p,cQ6->ų^IE p->cX2^Α p^.dK []:=λ c s σ H Q I h =>
 wpAny_Dict_empty #[ϒ,_,cL7 a o (.dK []) t' s.toks (bF4^n5 q) Ĕ (QbF s.heap I.big),Y,h _ bp3 I.g_]
#print L2
namespace D
open PySem PySem.Spec PyProof.Rows L2
variable{X:Cx}{e a b:Expr}{f fa fb:aD}{pos:Pos}
def Mt:ç aD aD->En->M f8
 | [],_=>ï []
 | (f,g)::r,env=>do
  let x <- ϰ
  let k <- j8 x
  let y <- ao3
  let ps <- Mt r env
  ï ((k,y)::ps)
def jd(kvs more:f8):f8:=more.foldl (λ acc c=>XL acc c.1 c.2) kvs
def N7(ps:ç aD aD):aD:=λ env=>do
 let kvs <- Mt ps env
 ag (gi<=15)
 XH (tF^jd [] kvs)
def WW(K:Aa)(ps:ç aD aD):ç TE TE:=aH3 p (tD K ix,tD K p.2)
structure Iu(X:Cx)(pos:Pos)(keys:Â S9)(values:Ϡ)(ps:ç aD aD):ä where
 out:PPs X pos keys values^WW X.K ps
def Qpi:Iu X pos [] [] []:=#[Qna]
def Ql1{k v:Expr}{ks:Â S9}{vs:Ϡ}{ps:ç aD aD}(c:cv9 k)(hv:ϓ v fb)(i:Iu X pos ks vs ps):Iu X pos (í k::ks) (v::vs)<|(fa,fb)::ps:=#[Qj1 c hv i.out]
def aW.merge{K:Aa}(r:aW K ρ B H more ms):∀{kvs:f8}{xs:NA},du2->aW K ρ B H (jd kvs more)^X7 xs ms:=by
 induction r with
 |nil=>intro kvs xs r;show r
 |@cons p q _ _ h _ c=>intro kvs xs r;unfold jd X7 at c ⊢;rw[List.foldl_cons,List.foldl_cons,h.1];show c (r.put FO h.2)
def Ql9{K:Aa}:∀(ps:ç aD aD){Z:Ent}{env:En}{σ:St}{ρ:Ek}{B:Ej}{J hp1:Hs}{H:Hp}{kvs:f8}{R:FD Y1->dC},bE2->Mt ps env J>(kvs,hp1) ->
  (∀xs ρ' B' H',bE8->XP K Z ρ' B' hp1 H'->bG0 K ρ' B' H'->R (sF^λ c=>(kV c.1,c.2)) H')->HF (WW K ps) σ H R:=by
 intro F;induction F with
 |nil=>intro _ _ _ _ _ _ _ _ _ _ S e k;let(Y,Y):=Fn;show ň [] _ _ _ S i9
 |cons L r E=>let(f,g):=L;intro _ _ _ _ _ _ _ _ _ _ S e k;let(x,hp2,e1,e):=Ŧ;let(ky,C,i,e):=Ŧ;let(z,Y):=Ye i;let(y,O,j,e):=Ŧ;let(ps,P,o,e):=Ŧ;let(Y,Y):=Fn;apply cG8 G^bb1 j^λ u ρ2 B2 H2 g2 S2 I=>E S2 o λ xs ρ3 B3 H3 g3 S3 Y2=>?_;obtain Y:=Yn z G;show k ((ky,u)::xs) ρ3 B3 H3 cf4 S3 (Φ #[Y,cq7 S2.wo.rb g3 _ I] Y2)
def QlU{keys:Â S9}{values:Ϡ}{ps:ç aD aD}(h:Iu X pos keys values ps)(j:Ĭ^keys.all df4:=by rfl)(hl:keys.length=values.length:=by rfl)(h0:keys≠[]:=by show List.cons_ne_nil _ _)(v:keys.length<=15:=by show å):ϓ (.Dict keys values pos)^N7 ps :=
 L2.PE.imp (QjQ h.out j hl h0 v) λ σ H Q P=>by
  let(Z,env,ρ,B,J,d,hp',S,e,k):=P;let(kvs,hp1,e1,R):=Ŧ;let(_,hp2,U,e4):=Qh R;let(hs,Y):=QI U;cases e4;intro p hn C;let g0:AC X.K B H ρ (zP B p)^Α p^.dK []:=dj1 hn C;let L:=S.wo.banned (o:=.dK []) hn C;let E:p∉ρ:=λ z=>S.wo.bt p (S.wo.rb p z) hn;apply Ql9 ps (di7 g0 L) e1 λ xs ρ1 B1 H1 g1 S1 F=>?_;let x:p∉ρ1:=λ z=>(g1.cF p z).elim E λ q=>į Zc q q
  let Y2:H1 p>(.dK []):=g1.keep p _ E Zc;apply#[Y2,xs,Y,ì F.len (Eb hs),?_];let G:=cr7;let trk:∀b,ų^(upd H1 p^.dK^X7 [] xs) b->ų^H1 b:=λ b q=>by
   by_cases e:b=p
   .subst e;rw[Zc]at q;cases q
   .rw[Zb e]at q;show q
  let y:B1 p:=g1.ban p cG1;let g2:Gs X.K ρ1 B1 H1 (ρ1++[p]) B1^upd H1 p^.dK^X7 [] xs:=#[PZ _,bq1,λ b o nb h=>lr (â (b≠p)^λ z=>nb^Æ z y) h,trk];let I:AC X.K B H (ρ1++[p]) B1^upd H1 p^.dK^X7 [] xs :=
   #[G.pre.trans (PZ _),G.ban,G.new,λ a z=>(cS3).elim (G.cF a) λ q=>ċ^tm q hn,
    λ a o na h=>lr (â (a≠p)^OX z z hn h h)^G.keep a o na h,λ a q=>G.trk a^trk a q]
  let c:=S1.wo;let oD:bU X.K (ρ1++[p]) B1 (upd H1 p^.dK^X7 [] xs) p^tF^jd [] kvs:=((aW.merge F (kvs:=[]) (xs:=[]) i9).gs g2).iZ Zc;let O:aR X.K (ρ1++[p]) B1 (hp1++[tF^jd [] kvs])^upd H1 p^.dK^X7 [] xs:=by
   apply#[Ğ c.len,aS6 #[c.nd,Ê,λ a ha b hb=>tm hb^λ z=>x<|z▸ha],λ i a u e q=>?_,λ a z=>(cS3).elim (c.rb a) λ q=>tm q y,λ a z q=>c.bt a z^trk a q,c.bk];by_cases hi:i<⇑ρ1
   .rw[Ag hi]at e;rw[Ag^ì c.len hi]at q;show cE6 g2 (λ z=>x^ì z cY4) (c.obj i a u e q)
   .rw[aL1]at e;rw[bx7 c.len]at q;let r:i-⇑ρ1=0:=aL7 cQ7
    rw[r]at e;rw[<- c.len,r]at q;simp at e q;subst e q;show oD
  apply k _ _ _ _ I O ?_;ext aA;show#[p,Y,n9 c.len]
def zU:aD:=λ_=>XH Sc
def xZ:ϓ (.Dict [] [] pos) zU:=PY Qg4 (λ σ H Q i=>by let(Z,env,ρ,B,J,d,hp',S,e,k):=i;cases e;intro p hn c;let g:AC X.K B H (ρ++[p]) (zP B p)^Α p^.dK []:=Gr.dY hn c;apply k _ _ _ _ g (S.wo.dY hn c^aW.iZ (xs:=[]) i9 Zc) ?_;ext aA;show#[p,Y,n9 S.wo.len])
abbrev NX:=V->M^Ï DV
def Oe(K:Aa)(ρ:Ek)(B:Ej)(H:Hp)(nxt:NX)(Y2:It):ä :=
 ∀ρ1 B1 hp1 c, by2 ρ1 B1 c -> aR K ρ1 B1 hp1 c -> ∀(i : V)(o : Ï DV)(hp2 : Hs), nxt i hp1 = í (o, hp2) -> hp2 = hp1 /\ match o with
  |none=>Y2.stop i c
  |some d=>Y2.go i c/\∀x j,Y2.yld i c x j->aA K ρ1 B1 j d x/\(j=c∨∃p o,ų^c p/\j=upd c p o)
abbrev lZ:=En->M NX
def IW(K:Aa)(f:lZ):TI:=λ σ H R=>∃Z env ρ B J nxt hp',bE2/\i0>(Tk nxt)/\∀Y2 ρ' B' H',bE8->aR K ρ' B' hp' H'->Oe K ρ' B' H' nxt Y2->R Y2 H'
def DX(X:Cx)(tg c:Expr)(f:lZ):ä:=PI X tg c^IW X.K f
def cJ(ds:Þ):NX:=λ i=>cP2 (i<=ê)^ï FL
def fZ(n:V):NX:=λ i=>do
 match <- LG with
 |.lst ds=>ï FL
 |_=>failure
def MR{K:Aa}(h:kW K ρ B H ds Y2):Oe K ρ B H x4 Y2:=λ ρ1 B1 hp1 H1 g W i o hp2 e=>by
 unfold cJ at e;by_cases hi:i<=ê
 .rw[bT7]at e
  let(Y,Y):=Fn;let(h1,h2):=h ρ1 B1 H1 g W.rb W.bt;apply bI0 Y;cases q:FL with
  |none =>
   have:i=ê:=İ^al2 q
   subst this;show h2
  |some d=>show h1 i d q
 .rw[C7 hi]at e;cases e
def Qp0{K:Aa}{ρ:Ek}{n:V}{a:Addr}(ha:ID ρ>a)(kf:∀c:Hp,∀xs v,ez (c a) xs->SqL K c a v->v=xs):Oe K ρ B H (fZ n)^Itl K a:=λ ρ1 B1 hp1 c g W i o hp2 e=>by
 let(ob,E,e1,j):=Ŧ;let(z,Y):=bl6;let r:=BN g.pre ha;cases ob with
 |aJ _=>cases j
 |ins _ _=>cases j
 |lst ds =>
  let(Y,Y):=Qm j;let(xs,h1,u):=W.obj n a _ r z;apply bI0 Y;cases q:FL with
  |none=>show#[xs,ph,ì ⇑u (al2 q)]
  |some d=>let(x,hx,F):=u.get q;apply#[#[xs,x,ph,hx],λ y H' #[C,hy]=>?_];subst C;have:=hy xs ph;rw[hx]at this;cases this;show#[F,ϊ]
def QkM{K:Aa}{a:Addr}(i:OU a)(H:Hp)(xs c:ś)(h:ez PK xs)(h':tJ K a c):c=xs:=by
 obtain(h'|⟨o,h'⟩)|⟨o,_,_,h',_⟩:=h'
 .rw[h]at h';cases h';rfl
 .rw[h]at h';cases h'
 .rw[i]at h';cases h'
def cM(f:mZ):lZ:=IP^sQ ds ϰ x4
def cQ(f:aD):lZ:=λ env=>do
 match <- ϰ with
 |.lst ds=>ï x4
 |.ref n=>do
  match <- LG with
  |.lst _=>ï (fZ n)
  |_=>failure
 |_=>failure
variable(_){tg iter:Expr}
def XO(h:DI X tg iter g):DX X tg iter^cM g:=L2.PI.imp h λ σ H R c=>by let(Z,env,ρ,B,J,nxt,hp',S,e,k):=c;let(ds,hp1,e1,i):=Ŧ;let(Y,Y):=bY3;show#[Z,env,ρ,B,J,ds,hp1,S,e1,λ Y2 ρ' B' H' g W j=>k Y2 ρ' B' H' g W^MR j]
def Xl(h:cC2):DX X tg iter^cQ f:=L2.PI.imp (BS^L2.PE.kf h) λ σ H R u=>by
 let(Z,env,ρ,B,J,nxt,hp',S,e,k):=u;let(d,hp1,e1,c):=Ŧ;apply Ϲ S^λ v ρ1 B1 H1 g1 S1 j kf=>?_;cases d with
 |lst ds=>let(Y,Y):=Qm c;let(a,xs,Y,F,r,G):=j.b_;show#[a,Y,#[xs,r],cV9 (MR^Sj F r G)]
 |ref n =>
  let(o,hp2,x,i):=Qh (â ((LG >>= λ o=>(match o with|.lst _=>ï^fZ n|_=>failure:M NX)) hp1>(Tk nxt)) c);let(y,C):=ZO x;cases o with
  |lst ds=>let(Y,z):=bY3;rw[<- z,<- C]at k;let(a,Y,E,xs,h1,_):=aS7 j y;show#[a,Y,#[xs,ph],cV9 (Qp0 E^QkM^kf a _ h1)]
  |aJ _=>cases i
  |ins _ _=>cases i
 |non=>cases c
 |bl _=>cases c
 |int _=>cases c
 |str _=>cases c
 |tup _=>cases c
def jX(nxt:NX)(b:DV->aN):V->V->aN
 |0,_,_=>failure
 |m+1,i,env=>do
  match <- nxt i with
  |none=>ï rr
  |some d=>do
   let r <- b d env
   match r.1 with
   |.nx=>jX nxt b m (i+1) r.2
   |.ct=>jX nxt b m (i+1) r.2
   |.bk=>bo2 r.2
   |.rt x=>ï (.rt x,r.2)
def Xo(f:lZ)(g:mj)(c:aN):aN:=IP<|do let nxt <- ϰ;jX nxt (aF2 d (g d env)^c env') Ĺ 0 env
def Xk{j:EM}{U:lZ}{g:mj}{I:aN}(J:bI8 at9 X.A X.xe)(hc:dc)(hi:DX X tg iter U)(hg:PG X tg^Dv X.K g)(hb:lA X j I)
  (hs:∀x,bP5 x=cG0:=by intro _;rfl):DS X (.For tg iter j [] pos)^Xo U g I :=
 (Qqy J hc hi hg hb hs).imp λ D σ H aH=>by
  let(Z,env,ρ,B,J,fl,c,hp',S,e,k):=aH;let(nxt,hp1,e1,e2):=Ŧ;apply#[Z,env,ρ,B,J,nxt,hp1,S,e1,λ Y2 ρ1 L H1 g1 W1 it=>?_];let k1:=Fu kx;apply#[λ i m σ H=>∃env ρ B J,bE1 X.K/\Gs X.K ρ1 L H1 ρ B H/\jX nxt (aF1 d c (g d env)^I c) m i env J>(Tk (fl,c)),
   #[Ĺ,env,ρ1,L,hp1,di7 g1 W1,Gs.refl,e2],?_]
  rintro i m σ H ⟨oA,ρ2,B2,hp2,S2,g2,u⟩;cases m with
  |zero=>cases u
  |succ m =>
   let(o,r,eo,u):=Qh u;let(Y,C):=it ρ2 B2 hp2 H g2 S2.wo i o r eo;cases o with
   |none=>let(z,Y):=Qm u;cases z;show ë #[C,k1 σ ρ2 B2 H g2 S2]
   |some d =>
    let(go,yl):=C;let((R,P),O,e4,G):=Qh u;let(Q,v,e6,e7):=Qh e4;apply .inr #[go,λ σ' H'=>∃env ρ B J,AJ X.K Z σ' ρ B J H'/\Gs X.K ρ1 L H1 ρ B H'/\jX nxt (aF1 d c (g d env)^I c) m (i+1) env J>(Tk (fl,c)),
     λ σ' H' q=>#[m,Cv m,q],ľ x H' y]
    let(rx,hx):=yl x H' y;let S3:bR X.K Z oA σ ρ2 B2 r H'/\Gs X.K ρ2 B2 H ρ2 B2 H':=by
     obtain Y|⟨p,o,hn,Y⟩:=hx
     .show#[S2,Gs.refl]
     .show#[S2.grow (aG7 hn) (S2.wo.laid hn),WO S2.wo.rb hn]
    apply#[Z,oA,ρ2,B2,r,d,Q,v,S3.1,rx,e6,λ σ5 ρ5 B5 H5 g5 S5=>#[Z,Q,ρ5,B5,v,R,P,O,S5,e7,ba2 σ6 ρ6 E H6 g6 S6]];let F:=g2.trans^à S3.2^g5.trans g6;cases R with
    |nx=>show#[P,ρ6,E,O,S6,F,G]
    |ct=>show#[P,ρ6,E,O,S6,F,G]
    |bk=>let(z,Y):=Qm G;cases z;show k1 σ6 ρ6 E H6 F S6
    |rt d=>let(z,Y):=Qm G;cases z;show k1 σ6 ρ6 E H6 F S6
def Je(nxt:NX)(g:DV->OB)(f:bS):V->V->cK8
 |0,_=>failure
 |m+1,i=>do
  match <- nxt i with
  |none=>ï []
  |some d=>do
   if <- g d then
    let y <- f d
    let ys <- Je nxt g f m (i+1)
    ï (y::ys)
   else Je nxt g f m (i+1)
def Zd(nw:Bool)(c:lZ)(idx:ź)(t:cH)(f:aD):aD:=λ env=>do
 let nxt <- bI3
 let out <- Je nxt (λ d=>t aX6) (λ d=>f aX6) lim 0
 if nw then XH (Ù out)else al9 out
variable(_){elt:Expr}{x:Str}{px:Pos}{ifs:Ϡ}{scope:Scope}{cl:aV1}{caps:č}{idx:ź}{src:lZ}{te:cH}{nw:Bool}
def Qdi{K:Aa}{gt:En->DV->OB}{gf:En->bS}{tg:Y1->Hp->ι cd7}{σ:St}{H:Hp}{Q:VK}
  (hG:∀{Z env σ ρ B J H ρ1 I hp1 L d v r},bE2->by2 ρ1 I L->aR K ρ1 I hp1 L->aA K ρ1 I L d v->gt env d hp1>r->∃e zs,bR K #[ρ1,I,L] e (bg7 bb2) ρ1 I hp1 L/\te e hp1>r/\gf env d=f e/\∀k:cd7,k zs->tg v L k)
  (h:tD K (λ env=>do
   let nxt <- src env
   let out <- Je nxt (gt env) (gf env) lim 0
   if nw then XH (Ù out)else al9 out) σ H Q):HJ K (IW K src) tg (iD K te) (tD K f) idx σ H Q:=by
 let(Z,env,ρ,B,J,d,hp',S,e,k):=h;let(nxt,hp1,e1,e2):=Ŧ;let(out,ay,e5,e6):=Qh e2;apply#[Z,env,ρ,B,J,nxt,hp1,S,e1,λ Y2 ρ1 I L g1 W1 it D R hK=>?_];let ar:=kx;apply#[λ i m O H2=>ez (H2 D) O/\i+m=lim/\∃ρ2 C hp2 u G,Gr K ρ1 I L ρ2 C H2/\aR K ρ2 C hp2 H2/\C D/\D∉ρ2/\au K ρ2 C H2 u O/\⇑u<=i /\
  Je nxt (gt env) (gf env) m i hp2>(G,ay)/\u++G=out,?_,?_]
 .show#[lim,Zc,Cz _,ρ1,zP I D,hp1,[],out,dj1 R hK,W1.banned R hK,cG1,λ z=>W1.bt D (W1.rb D z) R,au.nil,Ĕ,e5,Y]
 .rintro i m O H2 ⟨BJ,him,ρ2,C,hp2,u,G,g2,W2,bD,nD,rd,dn,U,e8⟩
  apply bI0 BJ;cases m with
  |zero=>cases U
  |succ m =>
   let(o,E,eo,U):=Qh U;let(Y,aa):=it ρ2 C hp2 H2 (g2.gs W1.rb) W2 i o E eo;cases o with
   |some d0 =>
    let(go,yl):=aa;let(b,fj,e9,e10):=Qh U;apply cQ4 go^ľ x H3 y;let(rx,hx):=yl x H3 y;let S3:Gr K ρ2 C H2 ρ2 C H3/\aR K ρ2 C E H3:=by
     obtain Y|⟨p,o,hn,Y⟩:=hx
     .show#[Gr.refl,W2]
     .show#[aG7 hn,W2.laid hn]
    let g3:=g2.trans S3.1;let(ev,zv,C3,e9,ef,kk):=hG S (ar.trans^g3.gs W1.rb) S3.2 rx e9;apply kk _^iD.run C3 e9 λ ρ4 B4 H4 g4 S4=>?_;let Mh:ez (H4 D) O:=g4.keep D _ nD^S3.1.keep D _ nD BJ;let Li:D∉ρ4:=λ z=>(g4.cF D z).elim nD λ q=>į (S3.1.keep D _ nD BJ) q q
    cases b with
    |false=>show oR #[m,Cv m,Mh,À,ρ4,B4,fj,u,G,g3.trans g4,S4.wo,g4.ban D bD,Li,bb0 W2.rb (à S3.1 g4) _ rd,À,e10,e8]
    |true =>
     let(z,mR,bW,fQ):=Qh e10;let(zs,L_,Mv,ae):=Qh fQ;let(Y,Y):=Qm ae;rw[ef]at bW;apply oO^tD.run S4 bW λ v ρ5 B5 H5 g5 S5 r5=>?_;let aw:ez (H5 D) O:=g5.keep D _ Li Mh;let Sq:D∉ρ5:=λ z=>(g5.cF D z).elim Li λ q=>į Mh q q
     let Tw:B5 D:=g5.ban D^g4.ban D bD;let P:=g3.trans^g4.trans g5;let R4:=bb0 W2.rb (à S3.1^g4.trans g5) _ rd;let trk:∀b,ų^(upd H5 D^aU5 O [v]) b->ų^H5 b:=λ b q=>by
      by_cases e:b=D
      .subst e;rw[Zc]at q;cases q
      .rw[Zb e]at q;show q
     let g6:Gs K ρ5 B5 H5 ρ5 B5^upd H5 D^aU5 O [v]:=#[Ch,bq1,λ b o nb h=>lr (â (b≠D)^λ z=>nb^Æ z Tw) h,trk];apply#[aw,?_,m,Cv m,Zc,À,ρ5,B5,mR,u++[z],zs,?_,?_,Tw,Sq,cz7 g6 (aE6 R4 r5),Β,Mv,n9 e8]
     .let h1:=⇑R4
      let h2:bv7 lim:=Á
      lia
     .show#[P.pre,P.ban,P.new,P.cF,λ b o nb h=>lr (â (b≠D)^OX q q R h h)^P.keep b o nb h,λ b q=>P.trk b^trk b q]
     .show#[S5.wo.len,S5.wo.nd,λ j b o q1 F=>cE6 g6 (â (b≠D)^λ z=>Sq^ì z^Aw q1)^S5.wo.obj j b o q1 F,S5.wo.rb,λ b z q=>S5.wo.bt b z^trk b q,S5.wo.bk]
   |none =>
    let(z,z'):=Qm U;subst z;subst z';apply ë^bI0 aa;rw[Bs]at e8;subst e8;cases nw with
    |false =>
     let(Y,Y):=Qm (â ((al9 u:Ģ) E>Tm) e6);let gU:Gs K ρ2 C H2 ρ2 (λ b=>C b/\b≠D) H2:=#[Ch,FF (ë h.1),CA h h,FF h];apply k ↑D ρ2 (λ b=>C b/\b≠D) H2 (ϱ #[g2.pre,λ b z=>#[g2.ban b z,λ q=>W1.bt b z<|q▸R],λ b z=>g2.new b z.1,g2.cF,g2.keep,g2.trk])
      #[W2.len,W2.nd,λ j b o q1 F=>bU.gs gU Y^W2.obj j b o q1 F,λ b z=>#[W2.rb b z,λ q=>nD<|q▸z],λ b z=>W2.bt b z.1,λ b z=>W2.bk b z.1]^GA (λ z=>z.2 Y) (SqL.of BJ)^cz7 gU rd
    |true =>
     cases â (í (Ty ⇑E,E++[hH u])>Tm) e6;let gU:Gs K ρ2 C H2 (ρ2++[D]) C H2:=#[PZ _,bq1,CA h h,FF h];apply k ↑D (ρ2++[D]) C H2 (ϱ #[g2.pre.trans (PZ _),g2.ban,g2.new,λ a z=>(cS3).elim (g2.cF a) λ q=>ċ^tm q R,g2.keep,g2.trk])
      #[Ğ W2.len,aS6 #[W2.nd,Ê,λ a ha b hb=>tm hb^λ z=>nD<|z▸ha],λ j b o q1 F=>?_,λ b z=>(cS3).elim (W2.rb b) λ q=>tm q bD,W2.bt,W2.bk] ?_
     .by_cases hi:j<⇑ρ2
      .rw[Ag hi]at q1
       rw[Ag^ì W2.len hi]at F;show bU.gs gU Y (W2.obj j b o q1 F)
      .rw[aL1]at q1
       rw[bx7 W2.len]at F;let a9:j-⇑ρ2=0:=aL7^Ÿ q1
       rw[a9]at q1;rw[<- W2.len,a9]at F;simp at q1 F;subst q1 F;show#[O,BJ,cz7 gU rd]
     .ext aA
      show#[D,Y,n9 W2.len]
def G7{K:Aa}(h:tD K (Zd nw src idx te f) σ H Q):Hg K (IW K src) (iD K te) (tD K f) idx σ H Q :=
 Qdi (gt:=λ env d=>te aX6) (gf:=λ env d=>f aX6) (λ S g W r e=>#[_,[_],cσ_ok S g W r,e,Y,FF h]) h
def ZS(S:dX X x scope cl caps idx)(c:dc)(hi:DX X aW2 iter src)
  (ht:∀C s₀ H₀ ex,Ir (cW9<|x::caps) ifs te) (he:∀C s₀ H₀ ex,DE (cW9<|x::caps) elt f)
  (hs:∀x,bP5 x=cG0:=by intro _;rfl):ϓ (aX1 [cB4 0])^Zd nw src idx te f :=
 PY (QmZ (tt:=iD X.K te) (te:=tD X.K f) S c hi ht he hs)^CA h^G7 h
def QbG(i:V){y:Str}{j c:Pos}(o:X.N.Nodup)(S:dX X x scope cl caps idx)(r:dc)(hi:DX X aW2 iter src)
  (ht:∀C s₀ H₀ ex,Ir (cW9<|x::caps) ifs te) (he:∀C s₀ H₀ ex,DE (cW9<|x::caps) elt f)
  (hy:ai9>y:=by rfl) (hx:l9 y:=by first|show bF8|show cr0)
  (hsw:eW (aX1 [cB4 0]) (í^ķ y j) c.line=be0:=by with_unfolding_all rfl)
  (hf:Lq y∨Ŭ y>py:=by first|show ϊ|show cG1|assumption)
  (hs:∀x,bP5 x=cG0:=by intro _;rfl):DS X (bj4 [ķ y j] (aX1 [cB4 0]) c)^QR i^Zd nw src idx te f :=
 bb4 (Qne (tt:=iD X.K te) (te:=tD X.K f) S r hi ht he o hy hx hsw hf hs)^CA h^Qcv (CA q^G7 q) h
#where
def WP{α:pZ}(m:cq6)(J:Hs)(Q:α->cR0):ä:=∃x hp',m J>(Tk x)/\Q x hp'
variable{α β:pZ}{m:cq6}{k:α->M β}{J:Hs}{Q:α->cR0}{R:β->cR0}
def cO{x:α}:WP cG0 J Q↔Q x J:=#[λ#[y,h,e,q]=>by let(Y,Y):=Fn;show q,λ q=>#[x,J,Y,q]]
def Gh:WP (m >>= k) J R↔WP m J λ x h=>WP (k x) h R:=#[λ#[y,h,e,q]=>by let(x,h1,e1,a):=Ŧ;show#[x,h1,e1,y,h,a,q],λ#[x,h1,e1,y,h,a,q]=>#[y,h,à L9 a,q]]
def WP.mono{Q':α->cR0}(h:WP m J Q)(hq:∀x h,Q x h->Q' x h):WP m J Q':=let #[x,h1,e,q]:=h;#[x,h1,e,hq x h1 q]
def WP.of{x:α}(e:m J>(Tk x))(q:Q x hp'):WP m J Q:=#[x,hp',e,q]
variable{J:Hs}{env:En}{Q:Fl × En->cR0}
def Gi{b:DV->aN}(I:V->En->cR0)(ds:Þ)(h0:bZ0 0)(u:∀(i:V) d,FL>d->∀env J,bZ0 i->WP (b d env) J λ r h=>match r.1 with
  |.nx=>I (i+1) r.2 h
  |.ct=>I (i+1) r.2 h
  |.bk=>Q (ō r.2) h
  |.rt x=>Q (.rt x,r.2) h) (o:∀env J,bZ0 ê->Q rr J):WP (zW b ds env) J Q:=by
 suffices h:∀(m i:V) env J,m+i=ê->bZ0 i->WP (zW b bD2 env) J Q by simpa using h ê 0 env J Y h0
 intro m;induction m with
 |zero =>
  intro i env J e hI;have:i=ê:=À
  subst this;rw[Cw];show cO.mpr (o env J hI)
 |succ m c =>
  intro i env J e hI;let a:i<ê:=À
  rw[Bh a,zW,Gh];apply(u i ds[i] bs8 env J hI).mono^ľ r h q;let(j,aF):=r;cases j with
  |nx=>show c (i+1) aF h À q
  |ct=>show c (i+1) aF h À q
  |bk=>show cO.mpr q
  |rt x=>show cO.mpr q
def Gj{nxt:NX}{b:DV->aN}(ds:Þ)(I:V->En->cR0)(hl:ê<Ĺ)(hn:∀(i:V) env J,i<=ê->bZ0 i->nxt i J>(FL,J))(h0:bZ0 0)(v:∀(i:V) d,FL>d->∀env J,bZ0 i->WP (b d env) J λ r h=>match r.1 with
  |.nx=>I (i+1) r.2 h
  |.ct=>I (i+1) r.2 h
  |.bk=>Q (ō r.2) h
  |.rt x=>Q (.rt x,r.2) h) (u:∀env J,bZ0 ê->Q rr J):WP (jX nxt b Ĺ 0 env) J Q:=by
 suffices h:∀(m i n:V) env J,m+i=ê->m<n->bZ0 i->WP (jX nxt b n i env) J Q from h ê 0 Ĺ env J Y hl h0;intro m;induction m with
 |zero =>
  intro i n env J e c hI;have:i=ê:=À
  subst this;obtain⟨n,Y⟩:∃k,n=k+1:=#[n-1,À];rw[jX,Gh];apply WP.of (hn _ env J Ĕ hI) ?_;rw[bp8 ds[ê]?];show cO.mpr (u env J hI)
 |succ m j =>
  intro i n env J e c hI;let a:i<ê:=À
  obtain⟨n,Y⟩:∃k,n=k+1:=#[n-1,À];rw[jX,Gh];apply WP.of (hn i env J À hI) ?_;simp only[bs8];rw[Gh];apply(v i ds[i] bs8 env J hI).mono^ľ r h q;let(o,aF):=r;cases o with
  |nx=>show j (i+1) n aF h À À q
  |ct=>show j (i+1) n aF h À À q
  |bk=>show cO.mpr q
  |rt x=>show cO.mpr q
def YI(ds:Þ)(i:V)(h:i<=ê)(J:Hs):cJ ds i J>(FL,J):=Ą cJ cC9
def VL{n:V}{ds:Þ}{J:Hs}(h:YP>ū)(i:V):fZ n i J>(FL,J):=by
 ext fZ;have:Zv n J>(ū,J):=hp Zv h
 rw[IU];rfl
def QhS{b:DV->aN}(ds:Þ)(I:V->En->cR0)(hl:ê<Ĺ)(h0:bZ0 0)(c:∀(i:V) d,FL>d->∀env J,bZ0 i->WP (b d env) J λ r h=>match r.1 with
  |.nx=>I (i+1) r.2 h
  |.ct=>I (i+1) r.2 h
  |.bk=>Q (ō r.2) h
  |.rt x=>Q (.rt x,r.2) h) (a:∀env J,bZ0 ê->Q rr J):WP (jX x4 b Ĺ 0 env) J Q :=
 Gj ds I hl (λ i env J h _=>YI ds i h J) h0 c a
#where
def Qdb{nxt:NX}{t:DV->OB}{f:bS}{p:cm5}{g:Int->Int}(ns:Ĥ)(hn:∀i,i<=sj->nxt i J>(Ů af0,J))(j:∀x,t cY0 J>(p x,J))(hf:∀x,f cY0 J>(Í^g x,J))(hl:sj<Ĺ):
  Je nxt t f Ĺ 0 J>(mw^mr (ns.filter p) g,J):=by
 suffices h:∀(m i n:V),m+i=sj->m<n->Je nxt t f n i J>(mw^mr (AF (ns.drop i) p) g,J)by simpa using h sj 0 Ĺ Y hl
 intro m;induction m with
 |zero =>
  intro i n e c;obtain⟨n,Y⟩:∃k,n=k+1:=#[n-1,À];have:i=sj:=À
  subst this;let e1:=hn sj Ĕ;rw[bp8 af0[sj]?]at e1;rw[Je,L9,Cw];rfl
 |succ m o =>
  intro i n e c;obtain⟨n,Y⟩:∃k,n=k+1:=#[n-1,À];let a:i<sj:=À
  let e1:=hn i À;rw[Bt,bs8]at e1;let hi:=o (i+1) n À À;rw[Je,L9];simp only[Option.map_some];rw[Qe^j ns[i],Bh a];cases q:p ns[i]with
  |false=>rw[al3 q];simpa using hi
  |true=>rw[IV q];simp only[if_true];rw[Qe^hf ns[i],Qe hi];rfl
def D8(n:V)(J:Hs)(i:Int):dh (n+1) J bs5>bs5:=Y
def MV(n:V)(J:Hs)(b:Bool):dh (n+1) J FH>FH:=Y
def Gu(n:V)(J:Hs)(b:Str):dh (n+1) J^Õ b>(Õ b):=Y
def Kg{α:pZ}{f:α->Ï α}:∀{xs:Fa},IQ x xs (f x>x)->xs.mapM f>xs:=by
 intro e;induction e with
 |nil=>intro _;show Y
 |cons x xs c=>intro h;rw[List.mapM_cons,h x Ê,c λ y a=>bU1 y a];rfl
def D9(h:cL6 d>d'):rY d J>(d',J):=Ą rY h
def Uf(hx:cL6 x>x')(e:cL6 y>y')(a:do2 x')(c:do2 y'):Ue x y J>(bu7 x' y',J):=by ext Ue;simp only[iI,Bb]at a c;rw[Qe^D9 hx,Qe^D9 e];simp only[a.2,c.2,Bool.and_self,QE,if_true,Ed];rfl
def QbN(i j:Int)(J:Hs):Ue bs5 ↥j J>(i==j,J):=Uf (D8 39 J i) (D8 39 J j) (Rf i)^Rf j
def QiM(a b:Ć)(J:Hs):Ue (opt a) LA J>(FC a b,J):=by
 let e:∀c:Ć,cL6^opt c>(opt c):=λ c=>l3 c
 let s:∀c:Ć,do2 (opt c):=λ c=>l3 c
 rw[Uf (e a) (e b) (s a)^s b];cases a with
 |none=>cases b<;>simp[opt,toP,PyData.eqv]
 |some i =>
  cases b with
  |none=>simp[opt,toP,PyData.eqv]
  |some j=>simp only[opt,toP,PyData.eqv,Option.some.injEq];congr 1
def XG(p:Key × DV)(r:f8)(j:Key):ZT (p::r) j=Dt ix j p.2^ZT r j:=by
 by_cases e:ix=j
 .simp[ZT,B0,e]
 .simp[ZT,B0,e]
def Qk4(a b:f8)(j:Key):ZT (a++b) j=match ZT a j with
  |some d=>í d
  |none=>ZT b j:=by
 induction a with
 |nil=>rfl
 |cons p r c =>
  rw[List.cons_append,XG,XG];split
  .rfl
  .show c
def Qk3(kvs:f8)(k:Key):bW5 c c.1 k=p9 aY4:=by
 induction kvs with
 |nil=>rfl
 |cons p r a=>rw[Cn,XG,a];by_cases e:ix=k<;>simp[e]
def QhG(kvs:f8)(k j:Key)(d:DV):ZT (FU^cI1 c c.1 k (c.1,d) c) j=LL (l4 j) x^pH j k d x:=by
 induction kvs with
 |nil=>rfl
 |cons p r i =>
  rw[Ba,XG,XG,i];by_cases e:ix=k
  .rw[PM]
   by_cases a:ix=j
   .have:j=k:=a▸e
    simp[a,this]
   .simp[a]
  .rw[EF]
   by_cases a:ix=j
   .have:¬ j=k:=a▸e
    simp[a,this]
   .simp[a]
def jC(kvs:f8)(k j:Key)(d:DV):ZT (aE7 k d) j=Dt j k d^l4 j:=by
 ext XL;rw[Qk3];cases q:aY4 with
 |none =>
  rw[av7,Qk4,XG];by_cases e:j=k
  .subst e;simp[q]
  .rw[EF,C7^Ņ e]
   cases l4 j<;>rfl
 |some x =>
  rw[C8^LH (p9^í x) Y,QhG];by_cases e:j=k
  .subst e;simp[q]
  .simp only[EF]
   cases l4 j<;>rfl
def Qcj(kvs:f8)(k:Key)(d:DV):⇑(aE7 k d)<=gi+1:=bl7 XL
def Q1{n:V}{J:Hs}(h:YP>o):Zv n J>(o,J):=hp Zv h
def yx{n:V}{kvs:f8}{J:Hs}(h:YP>AA)(c:Ub i>k)(hl:gi<Ĺ):tM ↑n i d J>((),fS n (bu5 k d)):=by
 exact(LG >>= _) J=_;rw[aP9];let e1:j8 i J>(k,J):=Ą j8 c
 let a:QE (Af gi lim) J>((),J):=ö^LH (Af gi lim) cq3
 exact(j8 i >>= λ k=>ag (gi<lim) >>= λ_=>VS n^bu5 k d) J=_;rw[L9,Qe a];rfl
def yU{f:aD}{g:mj}(h:i0>(d,hp1))(h':g d env hp1>(env',hp2)):Yg f g env J>(ō env',hp2):=fT Yg Tu^Qe h'
def ZQ{α:pZ}{m:cq6}{x:α}(h:m=cG0)(J:Hs):m J>(x,J):=ö h
def WC{c:cH}{b:Bool}(h:aS0>(b,hp1)):aL c f g env J=Ř b (Κ hp1) bu6:=aa5 aL b
def QK{f:aD}{b:Bool}(h:i0>(FH,hp1)):eB f env J>(b,hp1):=fN eB h
def Qj{g:DV->bS}{f a:aD}(h:i0>(x,hp1))(h':a env hp1>(y,hp2))(c:g x y hp2>(d,hp3)):Qg g f a env J>(d,hp3):=dj5 Qg Tu (Qe h') c
def Qgi{F:Em}{f a:aD}(h:i0>(x,hp1))(h':a env hp1>(y,hp2))(e:F [x,y] hp2>(d,hp3)):Qy 2 F (á f a) env J>(d,hp3):=by
 let c:cL8 a Qk hp1>([y],hp2):=fN Qc h'
 have:cL8 f (Ç a) J>([x,y],hp2):=by unfold Qc at c ⊢;rw[Tu,aP2];rfl
 ext Qy;rw[IU];show e
def Qt{f:aD}(h:i0>(d,hp1)):QG f env J>((.rt d,env),hp1):=fN QG h
def Q5{f g:aN}(h:i0>((.rt d,aF),hp1)):Qq f g env J>((.rt d,aF),hp1):=fN Qq h
def Zz{f:aD}(h:i0>(d,hp1)):Zy f env J>(rr,hp1):=fN Zy h
def Qu{n:V}{a:aN}{ds:Þ}(h:a (bQ1++ă (n-ê) ń) J>((.rt d,env),hp1)):Zf n a ds J>(d,hp1):=fN Zf h
def ZB{c:cH}{b:Bool}(h:aS0>(b,hp1)):JM c env J>(hV b,hp1):=fN JM h
def G4{f g:aD}{b:Bool}(h:i0>(FH,hp1)):KC f g env J=Ř b bu6^í (ő,hp1):=aa5 KC b
variable(_){X:Cx}
def nW(ns:Ĥ):Ĥ:=ns.mergeSort^λ a b=>A6 a b
def ur(ns:Ĥ):(bb6).Perm ns:=List.mergeSort_perm _ _
def Qd3(ns:Ĥ):(bb6).Pairwise (· <= ·):=by have:=List.pairwise_mergeSort (le:=λ a b:Int=>A6 a b) (λ a b c h1 h2=>by simp at *;lia) (λ a b=>Β) ns;show this.imp λ h=>Ë h
def uu{ns c:Ĥ}(p:c.Perm ns)(h:c.Pairwise (· <= ·)):c=bb6 :=
 (p.trans (ur ns).symm).eq_of_pairwise (λ a b _ _ h1 h2=>Int.le_antisymm h1 h2) h^Qd3 ns
def kj:∀{ns:Ĥ}{us:Ď},fx nz->am7 us
 | [],_,.nil=>i9
 |n::ns,_,.cons #[t,e] r=>bJ1 e^.cons n t^kj r
def yX:∀{us:Ď}{ns:Ĥ},am7 us->fx nz
 |_,_,.nil=>i9
 |_,_,.cons n t r=>Φ (mi t)^yX r
def So:∀{us:Ď}{ns:Ĥ},bW9=sj->(∀(j:V)(u:Value)(n:Int),Iq us>u->Iq ns>n->∃t,u=bp1 n)->am7 us
 | [],[],_,_=>i9
 |u::us,n::ns,hl,h=>by let(t,Y):=h 0 u n Y Y;show .cons n t (So (Ë hl) λ j u n a b=>h (j+1) u n a b)
def Qe0:∀{kvs:NA}{vs:cv0},aA1->vs.map ţ=dq8
 |_,_,.nil=>Y
 |_,_,.cons a b=>by rw[Ba,Ba,Qe0 b,a.1]
def HL(K:Aa)(H:Hp)(p:Addr)(ns:Ĥ):ä:=tJ K p dA∨∃kvs:NA,H p>(.dK kvs)/\dq8=cY5 .inl
def gT:Þ->Ï Ĥ
 | []=>í []
 |.int n::r=>mr (gT r) (n :: ·)
 |_=>none
def Ur:f8->Ï Ĥ
 | []=>í []
 | (.inl n,_)::r=>mr (Ur r) (n :: ·)
 |_=>none
def rZ{α:pZ}:Ï α->cq6
 |some d=>cl5
 |none=>failure
def Kj{α:pZ}{o:Ï α}{d:α}{J hp':Hs}(h:rZ o J>Tm):o>d/\J=hp':=by
 cases o with
 |none=>cases h
 |some x=>let(Y,Y):=cK9;show rg
def Ob:DV->M Ĥ
 |.lst ds=>rZ dj6
 |.ref n=>do
  match <- LG with
  |.lst ds=>rZ dj6
  |.aJ kvs=>rZ bz2
  |_=>failure
 |_=>failure
variable(_){K:Aa}{ρ:Ek}{B:Ej}{H:Hp}
def U3:∀{ds:Þ}{ns:Ĥ}{xs:ś},dj6>ns->AO->xs=dA
 | [],_,xs,h,r=>ah8 h r
 |.int n::ds,ns,xs,h,#[x,q,e,a,c]=>by let(i,h1,Y):=ba9 (â (mr dj6 (n :: ·)>ns) h);rw[e,a.bx,U3 h1 c];rfl
def QgA:∀ns:Ĥ,me dA dA:=by
 intro c;induction c with
 |nil=>show Y
 |cons n ns a=>show#[_,_,Y,Jd,a]
def vD:∀{kvs:f8}{ns:Ĥ},bz2>ns->dq8=cY5 .inl
 | [],_,h=>by cases h;rfl
 | (.inl n,d)::kvs,ns,h=>by let(a,h1,Y):=ba9 (â (mr bz2 (n :: ·)>ns) h);rw[Ba,Ba,vD h1]
abbrev bN(K:Aa)(c:Str)(C:Addr):ä:=š K c>bs1
def bN.uniq{K:Aa}{c:Str}{C C':Addr}(h:bN K c C)(h':bN K c C'):C=C':=by let e:=h.symm.trans h';cases e;rfl
structure YC(K:Aa)(c f:Str):ä where
 ex:∃C,bN K c C/\cW0/\bX8 K f
structure Xb(P:Program)(w:World)(K:Aa)(mg:Eg)(O8:Heap)(c m:Str)(k n:V)(F:Em):ä where
 ex:∃(C f:Addr)(fd:FuncData)(ps:č),bN K c C/\cW0/\pP K C m f/\zO P w K mg O8 CX0 k f fd ps^lR K n F/\bq9 K []
structure sG(P:Program)(w:World)(K:Aa)(mg:Eg)(O8:Heap)(c:Str)(k n:V)(F:Em):ä where
 ex:∃(C f:Addr)(fd:FuncData)(ps:č),bN K c C/\mg c>bs0/\Mk K C f/\zO P w K mg O8 CX0 k f fd ps^lR K n F/\bq9 K []
variable{K:Aa}{ρ:Ek}{B:Ej}{H:Hp}{J:Hs}
abbrev cG(K:Aa)(ρ:Ek)(B:Ej)(H:Hp):ER->ι be8:=Paired λ p q=>ix=FO/\rS p.2 q.2
def Qns:∀{fs:ER}{xs:be8},sF ţ=ag8->me (fs.map sK) (sF sK)->cG K ρ B H fs xs:=by
 intro i;induction i with
 |nil =>
  intro q1 e _;cases q1 with
  |nil=>show i9
  |cons _ _=>simp at e
 |cons p fs c =>
  intro q1 e r;cases q1 with
  |nil=>simp at e
  |cons q xs=>simp only[Ba,List.cons.injEq]at e;simp only[Ba]at r;unfold au at r;let(x,t,a,h1,h2):=r;simp only[List.cons.injEq]at a;let(Y,Y):=a;show Φ #[e.1.symm,h1] (c e.2 h2)
def cG.to{fs:ER}{xs:be8}(r:cG K ρ B H fs xs):sF ţ=ag8/\me (fs.map sK) (sF sK):=by
 induction r with
 |nil=>show#[Y,au.nil]
 |cons h _ a=>show#[my a.1 h.1,Ë (ah5 h.2 a.2)]
def cG.look{fs:ER}{xs:be8}(r:cG K ρ B H fs xs)(f:Str):(ų cw6/\ay5 f)∨∃d v,cw6>d/\xs.lookup f>v/\bp6:=by
 induction r with
 |nil=>show dn4
 |@cons p q _ _ h _ c =>
  let(a,i):=p;let(q1,j):=q;let(h1,h2):=h;let h1:a=q1:=h1;subst h1;cases e:f==a with
  |true=>show ċ #[i,j,my List.lookup e,my List.lookup e,h2]
  |false=>simpa [List.lookup,e]using c
def Xx(f:Str)(d:DV):ER->ER
 | []=>[(f,d)]
 | (g,x)::r=>pH g f ((g,d)::r)<|(g,x)::Xx f d r
def cG.put(r:cG K ρ B H fs xs)(f:Str)(rd:bp6):cG K ρ B H (Xx f d fs)^jg f v xs:=by
 induction r with
 |nil=>show dp3 #[Y,rd]
 |@cons p q _ _ h t c =>
  let(a,i):=p;let(q1,j):=q;let(h1,h2):=h;let h1:a=q1:=h1;subst h1;ext Xx jg;by_cases e:a=f
  .rw[PM,PM];show Φ #[Y,rd] t
  .rw[EF,EF];show Φ #[Y,h2] c
def cG.len{fs:ER}{xs:be8}(r:cG K ρ B H fs xs):aQ6=ŧ:=ag6
def cG.gs(g:by5)(r:cG K ρ B H fs xs):cG K ρ' B' H' fs xs:=L2.Paired.mapP r λ_ _ h=>#[h.1,aA.gs g _ _ h.2]
def bU.ins{a:Addr}{c:Str}(h:bU K ρ B H a aV3):∃C i xs,bN K c C/\PK>(cD1 i xs)/\cG K ρ B H fs xs:=by let(C,i,xs,o,e,j,r):=h;show#[C,i,xs,o,e,Qns j r]
def cG.iZ{a C i:Addr}{c:Str}(j:bN K c C)(r:cG K ρ B H fs xs)(e:PK>(cD1 i xs)):bU K ρ B H a aV3:=#[C,i,xs,j,e,r.to.1,r.to.2]
def Qli{n:V}{a C j:Addr}{c:Str}(W:bR4)(i:ID ρ>a)(o:bN K c C)(e:PK>(cD1 j xs))(r:cG K ρ B H fs' xs'):AC K B H ρ B^cD3 j xs'/\bR2 (fS n^ŭ c fs')^cD3 j xs':=by let g:AC K B H ρ B^cD3 j xs':=Gr.fV i e;show#[g,W.fV (o':=cD1 j xs') (v:=ŭ c fs') i e ((r.gs di5).iZ o Zc)]
#where
def m_{α:pZ}(c:Str)(x:DV)(k:V->ER->cq6):cq6:=match x with
 |.ref n=>do
  match <- LG with
  |.ins c' fs=>do ag (c'=c);k n fs
  |_=>failure
 |_=>failure
def ju{α:pZ}{c:Str}{x:DV}{d:α}{k:V->ER->cq6}{J hp':Hs}(h:m_ c x k J>Tm):∃n fs,x=NO/\YP>aV3/\k n fs J>Tm:=by
 cases x with
 |ref n =>
  let(o,hp1,e1,a):=Qh (â ((LG >>= λ o=>(match o with|.ins c' fs=>do ag (c'=c);k n fs|_=>failure:cq6)) J>Tm) h);let(e,Y):=bl6;cases o with
  |ins c' fs=>let(_,hp2,i,j):=Qh a;let(hl,Y):=QI i;obtain Y:=by7;show#[n,fs,Y,e,j]
  |lst _=>cases a
  |aJ _=>cases a
 |non=>cases h
 |bl _=>cases h
 |int _=>cases h
 |str _=>cases h
 |tup _=>cases h
 |lst _=>cases h
def tU(c f:Str)(x:DV):Ģ:=m_ c x λ_ fs=>VM cw6
def tH(c f:Str)(x d:DV):cK7:=m_ c x λ n fs=>do ag (aQ6<ej);VS n (ŭ c^Xx f d fs)
def QP(c f:Str)(g:aD):aD:=IP<|do let x <- ao3;tU c f x
def Zq(c f:Str)(a e:aD):aN:=IP<|do let y <- e env;let x <- bJ2;tH c f x y;ï rr
def KL(c f:Str)(i:DV->bS)(a e:aD):aN:=IP<|do let x <- bJ2;let v <- tU c f x;let y <- e env;let z <- i v y;tH c f x z;ï rr
def V5:DV->bS
 |.int i,.int j=>wX<|i+j
 |_,_=>failure
def QO(c m:Str)(n:V)(F:Em)(a:aD)(fa:cu):aD:=λ env=>do
 let x <- bJ2
 m_ c x λ_ fs=>QE bl8
 let ds <- fa env
 ag (ê+1=n)
 F (x::ds)
def Yo(c:Str)(n:V)(F:Em)(fa:cu):aD:=λ env=>do
 let ds <- fa env
 ag (ê+1=n)
 let x <- XH (bO5 c)
 let r <- F (x::ds)
 match r with
 |.non=>cG0
 |_=>failure
variable{X:Cx}{o e value:Expr}{c f m:Str}{pos pos' tpos apos:Pos}{fo fv:aD}
def QbS{K:Aa}{H:Hp}{J hp':Hs}{v:Y1}(W:bR4)(r:rS x v)(h:tU c f x J>Tm):J=hp'/\∃a C j xs u,v=Χ/\bN K c C/\PK>(cD1 j xs)/\xs.lookup f>u/\bp5 u:=by
 let(n,fs,Y,e1,y):=ju h;let(hl,Y):=yQ y;let(a,Y,i,G):=tT r e1;let(C,j,xs,E,e,F):=G.ins;obtain⟨z,_⟩|⟨d',u,z,Y2,I⟩:=F.look f
 .rw[hl]at z;cases z
 .rw[hl]at z;cases z;show#[Y,a,C,j,xs,u,Y,E,e,Y2,I]
def Qcw{K:Aa}{H:Hp}{v y:Y1}{z:Unit}(W:bR4)(r:rS x v)(rd:bp5 y)(h:tH c f x d J>(Tk z)):∃a C j xs,v=Χ/\bN K c C/\PK>(cD1 j xs)/\ŧ<ej/\AC K B H ρ B^cD3 j^jg f y xs/\bR2 hp'^cD3 j^jg f y xs:=by let(n,fs,Y,e1,G):=ju h;let(_,hp1,I,Y2):=Qh G;let(hl,Y):=QI I;cases Y2;let(a,Y,i,L):=tT r e1;let(C,j,xs,u,e,E):=L.ins;let(g,F):=Qli W i u e (E.put f rd);show#[a,C,j,xs,Y,u,e,ì E.len by7,g,F]
def QF(E:YC X.K c f)(F:ϓ o fo)(z:OP o f bo1=bo1:=by rfl):ϓ (Η o f pos)^QP c f fo :=
 PY (Qqg F z) (λ σ H Q i=>by let(Z,env,ρ,B,J,d,hp',S,e,k):=i;let(x,hp1,e1,r):=Ŧ;apply cG9 Y2;let(Y,a,C,j,xs,u,Y,I,y,hl,L):=QbS S1.wo Y2 r;let(O,G,cl,na):=E.ex;obtain Y:=I.uniq G;show#[a,C,j,xs,u,Y,y,cl,na,hl,bi6 u L])
def Zp(I:YC X.K c f)(Y2:ϓ o fo)(hv:ϓ value fv)(O:aD0 value^í^Η o f pos'=EN:=by rfl):DS X (dt0 [Η o f pos'] value)^Zq c f fo fv :=
 bb4 (Qqx Y2 hv O) (λ D σ H j=>by let(Z,env,ρ,B,J,fl,i,hp',S,e,k):=j;let(y,hp1,e1,e):=Ŧ;let(x,hp2,E,e):=Ŧ;let(z,L,F,e):=Ŧ;let(q,Y):=Fn;cases q;apply cG7 u R^bb1 E^λ v ρ2 B2 H2 g2 S2 U=>?_;let(a,C,r,xs,Y,Q,G,hl,g,W):=Qcw S2.wo U (ϸ g2 _ _ R) F;let(C',P,cl,na):=I.ex;obtain Y:=Q.uniq P;show#[a,C,r,xs,Y,G,cl,na,hl,k σ ρ2 B2 _ ((AY g).gs S.wo.rb) (S2.grow g W)])
def yJ(hk:YC X.K c f)(ho:ϓ o fo)(hv:ϓ value fv):DS X (.AugAssign (Η o f tpos) .Add value pos)^KL c f V5 fo fv :=
 L2.PS.imp (Qha ho hv Qpx) λ D σ H P=>by
  let(Z,env,ρ,B,J,fl,I,hp',S,e,k):=P;let(x,hp1,e1,e):=Ŧ;let(v,hp2,R,e):=Ŧ;let(y,a9,U,e):=Ŧ;let(z,fj,i,e):=Ŧ;let(_,mR,e5,e):=Ŧ;let(q,Y):=Fn;cases q;apply cG7 vx L ?_;let(Y,a,C,Q,xs,u,Y,Y2,ea,hl,ru):=QbS S1.wo L R;let(C',lH,cl,na):=hk.ex;obtain Y:=Y2.uniq lH;apply#[a,C,Q,xs,u,Y,ea,cl,na,hl,bb1 U (λ w ρ2 B2 H2 g2 S2 r2=>?_)];let wJ:=ϸ g2 _ _ ru;let F:=ϸ g2 _ _ L;unfold V5 at i;split at i
  .let(Y,Y):=bY3;apply#[_,_,wJ.bx,r2.bx,?_];let(a',C2,j,G,q1,O,r,E,g,W):=Qcw S2.wo F Jd e5;cases q1;obtain Y:=O.uniq Y2;show#[j,G,r,E,k σ ρ2 B2 _ ((AY g).gs S.wo.rb) (S2.grow g W)]
  .cases i
def Qjq{C:Addr}{n:V}{F:Em}(R:bN X.K c C)(h:tD X.K (QO c m n F fo fa) σ H Q):Hf C m (lR X.K n F) [] E0 (tD X.K fo) (iG X.K fa) σ H Q:=by
 let(Z,env,ρ,B,J,d,hp',S,e,k):=h;let(x,hp1,e1,e):=Ŧ;let(_,hp2,G,e):=Ŧ;let(ds,j,I,e):=Ŧ;let(_,fj,Y2,O):=Ŧ;let(hl,Y):=QI Y2;apply cG9 r;let(i,fs,Y,w1,w2):=ju G;let(hn,Y):=QI w2;let(a,Y,_,ro):=aS7 r w1;let(C',E,xs,P,L,U):=ro.ins;obtain Y:=P.uniq R;let hx:ay5 m:=by
  obtain⟨_,z⟩|⟨_,_,z,_,_⟩:=U.look m
  .show z
  .rw[z]at hn;cases hn
 apply#[a,E,xs,Y,L,hx,iG.run S1 I λ vs ρ2 y H2 g2 S2 u=>?_];apply#[?_,ρ2,y,j,_,d,hp',S2.wo,?_,O,Fu am1]
 .rw[Bs,A9,<- ⇑u];show by7
 .rw[Bs];show ah5 (ϸ g2 _ _ r) u
def Q8{k j n:V}{F:Em}{es:Ϡ}{pl:aw1}(h:Xb X.prog X.w X.K X.mg X.O8 c m j n F)(x:aQ1)(r:j<=k)(hx:Y9 CX0 X E0)(v:ϓ o fo)(ha:DA X (e::es) fa)
  (hst:cP5=cv8::bA9:=by rfl) (hpl:ÿ^(aj2).any ţ:=by rfl)
  (ht:æ^av3 o m (e::es)=(do
   let ov <- bo1
   PR
   let (f,first) <- Fh [ov] ov m pl
   ak6 pos f (G6<|e::es) bE4):=by rfl):ϓ (av3 o m<|e::es)^QO c m n F fo fa:=by
 let(C,g,fd,ps,y,cl,u,a,i):=h.ex;show PY (Qm2 (pl:=pl) v cl u a (x.mono r) i i9 hx ha hst hpl ht) (λ σ H Q q=>Qjq y q)
def Ja{k j n:V}{F:Em}{pl:aw1}(h:Xb X.prog X.w X.K X.mg X.O8 c m j n F)(hr:aQ1)(R:j<=k)(hx:Y9 CX0 X E0)(ho:ϓ o fo)
  (ht:æ^av3 o m []=(do
   let ov <- bo1
   PR
   let (f,first) <- Fh [ov] ov m pl
   ak6 pos f (G6 []) bE4):=by rfl):ϓ (av3 o m [])^tz c m n F fo:=by
 let(C,g,fd,ps,nc,cl,U,y,P):=h.ex;apply PY (Qch (pl:=pl) ho cl U y (hr.mono R) P i9 hx ht)^mo σ H Q q;let(Z,env,ρ,B,J,d,hp',S,e,k):=q;let(x,hp1,e1,e):=Ŧ;let(_,hp2,G,e):=Ŧ;let(ds,a9,I,e):=Ŧ;let(_,fj,Y2,O):=Ŧ;let(hl,Y):=QI Y2;let(Y,Y):=Qm I;apply IB S v u r ?_;let(i,fs,Y,w1,w2):=ju G;let(hn,Y):=QI w2;let(a,Y,_,ro):=aS7 r w1;let(C',E,xs,lH,L,rf):=ro.ins;obtain Y:=lH.uniq nc;let hx:ay5 m:=by
  obtain⟨_,z⟩|⟨_,_,z,_,_⟩:=rf.look m
  .show z
  .rw[z]at hn;cases hn
 show#[a,E,xs,Y,L,hx,by7,ρ1,u,hp1,_,d,hp',S1.wo,ah5 r au.nil,O,cf6]
def Qhs{k:V}{C g:Addr}{i:Ef}{σ:St}{H:Hp}{s:Shared}{Q:VK}{us:Ď}{vs:ś}(M:Mk X.K C g)(F:zO X.prog X.w X.K X.mg X.O8 CX0 k g fd ps sp)(R:Room (k+1) X.A)(P:cB0 [])
  (hx:Y9 CX0 X E0) (I:cF8 i) (r:fx vs)
  (h:∀x a,Ŵ x->Ŵ a->a≠x->ų^IE x->sp (ã x::vs) (cD2 bT2 x a []) (λ v H2=>v=Ě/\cD8 x H2) E0) :
  ce5 (call bs0 us) X i σ Q s:=by
 let kf:ų^IE Lm:=by
  cases q:IE Lm with
  |none=>rfl
  |some o=>show Ė (Ao^I.kIn _ _ q) (Nat.not_lt.mpr sk)
 let hq:=h _ _ (pM sk) bp3 (Be^Cv _) kf;let Y2:=Inv.made (C:=C) I;let y:Vals (Y1.ref Lm::vs)<|Ϛ Lm::us:=Φ Y r;let U:⇑((Ϛ Lm::us)++[])=ϣ:=bk6 Bs ⇑y^F.len _ _ _ _ hq
 let j:=P _ (Ϛ Lm::us) Y2.kIn U;rw[Bs]at j;apply wpAny_call^Qjo (f:=g) I.kIn M.makes M.init (bx5 M.fn)^aA3 (F.run _ X.stack _ _ #[Ϛ Lm::us,[]] _ _ _ E0 (R.make C us []) (Y2.env0.make C us []) j y hq) q s' z;cases q with
 |error e=>show hx i σ _ _ e s' Y2 z
 |ok O =>
  cases O with
  |ret u=>let(v,E,G,rv,L,q3):=Y2.after z;subst L;show#[rv,#[Y1.ref Lm,E,G,Y,q3]]
  |next=>show z.elim
  |brk=>show z.elim
  |cont=>show z.elim
def Qjn{C:Addr}{n:V}{F:Em}{K:Aa}{J hp':Hs}{ds:Þ}{d:DV}{Q:VK}(L:bN K c C)(hl:ê+1=n)(W:bR4)(r:oq vs)
  (e:(do let x <- XH (bO5 c);let r <- F (x::ds);match r with|.non=>cG0|_=>failure:Ģ) J>Tm) (k:k_ K ρ B H d hp' Q) :
  ∀x a,Ŵ x->Ŵ a->a≠x->OU x->lR K n F (ã x::vs) (cD2 bT2 x a []) (λ v H2=>v=Ě/\cD8 x H2) E0:=by
 intro x a hx j ne kf;let e1:F (bo0::ds) (J++[bO5 c])>(Tk Ě)/\d=bo0:=by
  let(y,hp1,G,I):=Ŧ;cases G;let(y,hp2,Y2,i):=Qh I;cases y with
  |non=>let(Y,Y):=bY3;show mi Y2
  |bl _=>cases i
  |int _=>cases i
  |str _=>cases i
  |tup _=>cases i
  |lst _=>cases i
  |ref _=>cases i
 let(e1,Y):=e1;let u:ų^upd H a (.own x) x:=lr (Ņ ne) hx
 let g0:AC K B H ρ B bT2:=aG7 j;let g1:AC K B bT2 (ρ++[x]) (zP B x)^cD2 bT2 x a []:=Gr.dY u kf;let z:aR K (ρ++[x]) (zP B x) (J++[bO5 c])^cD2 bT2 x a []:=(W.laid j).dY u kf^cG.iZ L i9 Zc;let E:aA K (ρ++[x]) (zP B x) (cD2 bT2 x a []) eJ ↑x:=ϧ aA #[x,Y,n9 W.len]
 apply#[?_,ρ++[x],zP B x,J++[bO5 c],bo0::ds,Ě,hp',z,ah5 E (bb0 W.rb cr7 _ r),e1,λ v ρ' B' H' g' W' O=>?_]
 .rw[A9,<- mz];show hl
 .show#[O.f9,k _ ρ' B' H' (à cr7 g') W' (cq7 z.rb g' _ E)]
def Ua{k j n:V}{F:Em}{es:Ϡ}{p:Pos}(h:sG X.prog X.w X.K X.mg X.O8 c j n F)(Y2:aQ1)(E:j+1<=k)(hx:Y9 CX0 X E0)(ha:DA X (e::es) fa)(z:L6 c:=by rfl)
  (hdb:OW c:=by decide) (he:cP5=cv8::bA9:=by rfl) (hpl:ÿ^(aj2).any ţ:=by rfl):cl7 c (e::es)^Yo c n F fa:=by
 let(C,g,fd,ps,L,G,M,a,y):=h.ex;intro i s σ H Q I q;let(Z,env,ρ,B,J,d,hp',S,e,k):=q;let(ds,hp1,e1,u):=Ŧ;let(_,hp2,v,x):=Qh u;let(hl,Y):=QI v;apply NG^xf I z G ?_ hdb;apply PySem.W.callWith_K (h₀:=X.O8) I.ok.mod.kin M.kp (cJ4 (ha pos i s σ H _ I^bY5 S^λ vs ρ1 B1 H1 g1 S1 O=>Qjn (Q:=Q) L by7 S1.wo O x cf6) us P vs H1 I1 r q^bI0 I1.kIn) he hpl;show Qhs M a (Y2.mono E) y hx I1 r q
#where
def He{P:Program}{w:World}{K:Aa}{mg:Eg}{O8:Heap}{x a:Str}{g:Addr}{k:V}{i:aN}(F:Fun K x a stm g fd)(y:JO N ps sP)
  (h:∀(c:Value)(A:Around)(outer:My)(s:Shared)(H:Hp)(E:XK),Cl^œ a sP g c->lA (jn CX0 P w K mg O8 N a sP g c A outer s H E).nox aE5 i) :
  zO P w K mg O8 CX0 (k+1) g fd ps^lR K ϣ^cY6 i:=by
 apply F.ok y (λ vs H Q E h=>h.1)^λ c A outer s H vs Q E z sp=>?_;let(hn,ρ,B,J,ds,d,hp',W,r,e,k):=sp;let((u,j),hp1,e1,o):=Ŧ;apply#[_,h c A outer s H E z,#[ρ,B,H],_,ρ,B,J,u,j,hp1,yV W r,e1,ba2 σ' ρ' B' H' g' S'];cases u with
 |nx=>let(Y,Y):=Qm o;show k Ě ρ' B' H' S'.gr S'.wo yS
 |rt x=>let(Y,Y):=Qm o;show λ v C=>k v ρ' B' H' S'.gr S'.wo C
 |bk=>cases o
 |ct=>cases o
def Qjp{P:Program}{w:World}{K:Aa}{mg:Eg}{O8:Heap}{c m a:Str}{C g:Addr}{k:V}{i:aN}(u:bN K c C)(cl:cW0)(r:pP K C m g)(F:Fun K m a stm g fd)(o:JO N ps sP)
 (hb:∀(kV j v:Value)(an:Nw)(e ct:Value)(us:Ď),bW9=ϣ->aK9 (PySem.W.fnOf m a (Xi stm) aE5 sP fE kV j v an e ct) us []=ï EG)
 (h:∀(e:Value)(A:Around)(outer:My)(s:Shared)(H:Hp)(E:XK),Cl^œ a sP g e->lA (jn CX0 P w K mg O8 N a sP g e A outer s H E).nox aE5 i) :
 Pp P w K c m (k+1) ϣ^cY6 i:=#[C,g,fd,ps,u,cl,r,He F o h,F.binds hb]
def Qi0{P:Program}{w:World}{K:Aa}{mg:Eg}{O8:Heap}{c a:Str}{C g:Addr}{k:V}{i:aN}(v:bN K c C)(r:mg c>bs0)(u:Mk K C g)(F:Fun K IS a stm g fd)(o:JO N ps sP)
 (hb:∀(kV j x:Value) (an:Nw) (e ct:Value) (us:Ď),bW9=ϣ->aK9 (PySem.W.fnOf IS a (Xi stm) aE5 sP fE kV j x an e ct) us []=ï EG)
 (h:∀(e:Value)(A:Around)(outer:My)(s:Shared)(H:Hp)(E:XK),Cl^œ a sP g e->lA (jn CX0 P w K mg O8 N a sP g e A outer s H E).nox aE5 i) :
 sG P w K mg O8 c (k+1) ϣ^cY6 i:=#[C,g,fd,ps,v,r,u,He F o h,F.binds hb]
variable{X:Cx}
def xJ:aN:=λ_=>failure
def YR{st:Stmt}:DS X st xJ:=bb4 Qj4 (λ D σ H z=>by let(Z,env,ρ,B,J,c,a,hp',S,e,k):=z;cases e)
def Ep(i:V)(c:DV->bS)(a:aD):aN:=IP^bb5 v (Qb i env) y bJ2 z (c v y)^bo2^fR^Ü z
def Qlz{i:V}{j:DV->bS}{g:Int->Int->Int}{D:GI}(u:∀v y z J hp',j v y J>(Tk z)->∃a b,v=Í a/\y=Í b/\z=Í^g a b/\J=hp')(h:nR X.K (Ep i j fe) D σ H):Tz i (tD X.K fe) (ipI g) D σ H:=by
 let(Z,env,ρ,B,J,I,c,hp',S,e,k):=h;let(v,hp1,e1,e):=Ŧ;let(y,hp2,o,e):=Ŧ;let(z,C,r,e):=Ŧ;let(q,Y):=Fn;cases q;let(a,b,Y,Y,Y,Y):=u _ _ _ _ _ r;let hv:T0>(Ý a)/\J=hp1:=by
  unfold Qb at e1;cases q:T0 with
  |none=>rw[q]at e1;cases e1
  |some G =>
   rw[q]at e1;cases G with
   |val d=>let(h1,h2):=Qm e1;show#[Ϻ h1,h2]
   |un=>cases e1
   |acc _=>cases e1
 let(hv,Y):=hv;let(x,hx,F):=S.slot i _ hv;apply#[x,hx,tD.run S o λ w ρ1 B1 H1 g1 S1 E=>#[a,b,F.bx,E.bx,k _ ρ1 B1 H1 kx (S1.set Jd)]]
def QfS{v y z:DV}{J hp':Hs}(h:V5 v y J>(Tk z)):∃a b,v=Í a/\y=Í b/\z=Í (a+b)/\J=hp':=by
 unfold V5 at h;split at h
 .let(Y,Y):=cK9;show#[_,_,Y,Y,Y,Y]
 .cases h
def Qgh(i:V){x:Str}{pos a:Pos}(c:X.N.Nodup)(j:ϓ e fe)(hi:ai9>x:=by rfl)(hx:l9 x:=by first|show bF8|show cr0)(hf:Lq x∨Ŭ x>py:=by first|show ϊ|show cG1|assumption):DS X (.AugAssign (Lu a) .Add e pos)^Ep i V5 fe :=
 bb4 (Qqw c hi hx j Qpz hf)^λ D σ H q=>Qlz (λ_ _ _ _ _ h=>QfS h) q
#where
def Qcr{α β:pZ}(m:cq6)(k:α->M β)(J:Hs):(m >>= k) J=(m J).bind λ p=>k ix p.2:=by
 exact(StateT.bind m k J)=_;ext StateT.bind;cases m J with
 |none=>rfl
 |some p=>let(a,h):=p;rfl
def Qcs{α:pZ}(a:α)(J:Hs):(ï a:cq6) J>(a,J):=Y
def J5(J:Hs)(k:V)(X:OV)(h:aN7 J[k]?):(fS k X)[k]?>X:=by
 have:k<wp:=by
  obtain q|q:=Bf k wp
  .show q
  .rw[Cr q]at h;cases h
 rw[As this]
def Zn(J:Hs)(k n:V)(X:OV)(h:k≠n):ID^fS k X=YP:=Ak h
mutual
def cg(K:Aa):DV->ι Y1
 |.non,v=>v=Ě
 |.bl b,v=>v=FH
 |.int i,v=>v=ft
 |.str x,v=>v=Ϭ
 |.tup ds,v=>∃(a:Addr) (o:Obj) (c:ļ) (n:V) (xs:ś),v=Χ/\Ψ a>o/\o.cls=aC0 /\ o.data=.seq c n/\cQ2/\bu8/\cA K ds xs
 |_,_=>False
def cA(K:Aa):Þ->cd7
 | [],xs=>xs=[]
 |d::ds,xs=>∃x r,xs=x::r/\cg K d x/\cA K ds r
end
mutual
def cg.rep{K:Aa}{B:Ej}(e:∀a,B a->OU a):∀(d:DV)(v:Y1),cg K d v->bp6
 |.non,_,h=>OE cg aA h
 |.bl _,_,h=>OE cg aA h
 |.int _,_,h=>OE cg aA h
 |.str _,_,h=>OE cg aA h
 |.lst _,_,h=>iL cg h h.elim
 |.ref _,_,h=>iL cg h h.elim
 |.tup ds,_,h=>by unfold cg at h;ext aA;let(a,o,c,n,xs,Y,h1,h2,h3,h4,h5,i):=h;show#[a,xs,Y,λ z=>į (e a z) h1 h1,ċ #[o,c,n,h1,h2,h3,h4,h5],cA.rep e ds xs i]
def cA.rep{K:Aa}{B:Ej}(c:∀a,B a->OU a):∀(ds:Þ)(xs:ś),cA K ds xs->AO
 | [],_,h=>OE cA au h
 |d::ds,_,h=>by unfold cA at h;ext au;let(x,r,e,h1,h2):=h;show#[x,r,e,cg.rep c d x h1,cA.rep c ds r h2]
end
def Om{K:Aa}{a:Addr}{od:Nw}{c:ļ}{n:V}{i:av5}(h:Ψ a>#[aC0, od,.seq c n,i])(e:cQ2)(hv:bu8)(hl:cA K ds xs):cg K rc Ű:=ϧ cg #[a,_,c,n,xs,Y,h,Y,Y,e,hv,hl]
def Mo{K:Aa}:cg K Ě Ě:=bJ5 cg
def QpM{K:Aa}{i:Int}:cg K bs5 bs5:=bJ5 cg
def Rp{K:Aa}:cA K [] []:=bJ5 cA
def yo{K:Aa}{d:DV}{x:Y1}(h:cg K d x)(h':cA K ds r):cA K (d::ds)<|x::r:=ϧ cA #[x,r,Y,h,h']
def QlQ{X:Cx}{x:Str}{a:Addr}{pos:Pos}(i:dr1)(o:X.mg x>Ű)(j:cg X.K rc Ű)(hd:cT6:=by decide):ϓ ae0^eC rc :=
 (BV (v:=Χ) i o Y hd).imp λ σ H Q c=>by let(Z,env,ρ,B,J,d',hp',S,e,k):=c;let(Y,Y):=Fn;show LO S.wo (cg.rep S.wo.bk _ _ j)
def SD{b:DV->aN}{d:DV}(h:b d env J>(ō aF,hp1)):zW b (d::ds) env J=zW b ds aF hp1:=Ϗ zW Tu
def U8(J:Hs)(x:OV)(t:Hs):(J++x::t)[wp]?>x:=Ê
def Io(J:Hs)(x y:OV)(t:Hs):(J++x::t).set wp y=J++y::t:=ψ^ϲ _ Ĕ
def HZ{J:Hs}{n:V}(h:YP>x):fS n x=J:=by let(hl,Y):=Ac.mp h;show List.set_getElem_self hl
def xp{n i:V}{d:DV}(h:Ů cr2>d):i<n/\d=ĕ i:=aY9 h1 h2 (v6 h) #[h1,ψ h2]
def Kt{n:V}(h:bv6 n):Ĭ^jh iq:=QkJ À À
def WU{i:Int}(h:0<=i):∃j:V,i=j:=#[i.toNat,À]
def Qms{n i:V}(h:i<n):ixN n A4>i:=by ext ixN;rw[aq9,aq9];simp
def VQ{f:lZ}{g:mj}{r:(Fl × En)× Hs}(h:i0>(x4,hp1))(h':jX x4 (aF2 d (g d env) dj7) Ĺ 0 env hp1>r):Xo f g body env J>r:=hJ Xo Tu h'
def Qnv{m:V}(h:bv6 m)(J:Hs):tL [ĕ m] J>(cr1 m,J):=by
 let e:tL [ĕ m]=ï^cr1^OA mG:=by simp only[tL,Kt h,QE,if_true,Ed]
 rw[e,Bz];rfl
def qA{f:cu}{m:V}(h:i0>([ĕ m],hp1))(a:bv6 m):Gb f env J>(cr1 m,hp1):=hJ Gb Tu^Qnv a hp1
def jF{f:aD}(h:i0>(ū,hp1)):cQ f env J>(x4,hp1):=fN cQ h
variable{X:Cx}
def Xm(x:DV):bP
 | [y]=>DK x λ n ds=>DK y λ_ es=>do ag (ê+cI3<=lim);VS n ch9;ï Ě
 |_=>failure
def jt:dv0 X "list.extend" Xm:=by
 intro r s σ H x vs v us Q I rx rv h;let(ρ,B,J,Y2,es,d,hp',W,E,F,e,k):=h;unfold Xm at e;split at e
 .rename_i y;let(n,ds,Y,h0,e):=vR e;let(m,O,Y,c,e):=vR e;let(_,hp1,e1,z):=Ŧ;let(hl,Y):=aL3;cases z;let(a,Y,C,xs,h1,j):=tT E h0;let(w,Y,i):=F.bL;let(b,Y,L,G,h2,o):=tT i c;let(g,u):=UR W C h1 (au.append j o);show QgU r s σ H _ _ v us Q I rx rv #[a,b,xs,G,Y,Y,h1,h2,aE4 cI2 o (Bi by7 vJ),k _ ρ B _ g u yS]
 .cases e
#print D
namespace L2
open PySem PySem.Spec PyProof.Rows
abbrev Y8(h:Heap)(z p o:Addr)(f:Value)(b:Bool):ä:=ϝ z>(ϴ cls (PF wS)^Data.fields ⟨f,bH6 b,bH6 false,Ϛ p,Ϛ o⟩)
structure ZU(h:Heap)(z p o i j a b:Addr)(n:V):ä where
 zz:∃f fl,Y8 h z p o f fl/\(f=fE∨∃T:V,f=rawInt T)
 pp:IsPair h p ↑i ↑j
 oo:∃x y,IsPair h o x y
 ii:h.IsTupleIter i a n
 jj:h.IsTupleIter j b n
variable{prog:Program}{w:World}{A:Around}{E:Ee}{s:Shared}
def QcT{a:Addr}{Q:Ï Obj->ϟ}(h:Q (Č a) s):rj w A (loadIfAlive a) Q E s:=by intro Γ p hΓ;ext loadIfAlive;rw[Sem.wp_loadIfAlive];show C9 (M:=aQ2) (A:=A) (E:=E) h Γ p hΓ
def Dx{z p o:Addr}{f:Value}{a:Bool}{Q:cH3 ϟ}(zz:Y8 s.heap z p o f a)(hf:f=fE∨∃T:V,f=rawInt T)(q1:Q true s)(c:∀g,Y8 g z p o f true->bY8 z g->ak3 g.objs.size->Q false bW0):
  rj w A (P1 z) Q E s:=by
 ext Builtin.SmallTypes.ownedTupleIsFree;obtain Y|⟨T,Y⟩:=hf
 .show ό zz Y x fE Y (C9 q1)
 .apply ό zz Y x (rawInt T) Y ?_
  exact AM _ (loadIfAlive^bR7 T) _ _ _ _;apply C6^QcT ?_;cases i:Č^bR7 T with
  |none=>show C9 q1
  |some ob =>
   exact AM _ (aS4 z 1) _ _ _ _;apply ό zz Y x (xk a) Y ?_;cases a with
   |true=>show C9 (c _ zz (CA e e) Y)
   |false=>exact AM _ (setField ↑z 1 af9) _ _ _ _;show C6 (nS zz^λ g z1 k1=>C9^c g z1 k1.extBut k1.1)
def Qob{z p o i j a b:Addr}{n:V}{xs ys:ļ}{Q:Ee}(D:ZA z p o i j a b)(S:ZU s.heap z p o i j a b n)(ha:bX a xs)(hb:bX b ys)(hx:ID xs>x)(hy:ID ys>y)
  (k:∀g,ZU g z p o i j a b (n+1)->IsPair g s.heap.objs.size x y->g.objs.size=Lm->(∀c u,c≠z->c≠o->c≠i->c≠j->Č c>u->cX7 c>u)->Q ŋ bW0) :
  rj w A (cZ0 #[[ã z],[]]) (λ R s'=>∃v,R=.done^.ret v/\Q v s') E s:=by
 let((f,O,zz,hf),pp,(u1,u2,oo),ii,jj):=S;let L:∀{g g':Heap}{q c:Addr}{vs:ļ},PQ q g g'->c≠q->g.IsTuple c vs->g'.IsTuple c vs:=λ{g g' q c vs} sb hc #[ob,e,r]=>#[ob,sb.extBut _ _ hc e,r];exact AM _ (aS4 z 2) _ _ _ _;apply ό zz Y x cG5 Y ?_;exact AM _ (aS4 z 3) _ _ _ _;apply ό zz Y x cc0 Y ?_;apply iA pp Y ?_;exact AM _ (P1 z) _ _ _ _;apply C6^Dx zz hf ?_ ?_
 .simp only[if_true];apply FI ?_;apply ό zz Y x (ã o) Y ?_;apply C6^nS zz^ľ g1 z1 k1;replace z1:Y8 g1 z p o bb7 O:=z1;apply bI5;simp only[List.zipIdx_cons,List.zipIdx_nil,List.forIn_cons,List.forIn_nil];apply aR5 aj8;exact AM _ (Τ i) _ _ _ _;apply C6^Vb bS0 (L k1 D.az ha) hx λ g2 U k2=>E7;let o2:IsPair g2 o u1 u2:=k2.extBut _ _ D.oi^cr8 _ D.oz oo;apply iA o2 Y ?_;apply aK7 o2^ľ g3 o3 k3;replace o3:IsPair g3 o x u2:=o3;apply aP0 E7;apply aR5 aj8;exact AM _ (Τ j) _ _ _ _;apply C6^Vb (((aw7 k1.extBut).extBut k2.extBut D.ij.symm).extBut k3.extBut D.oj.symm) (L k3 D.bo^L k2 D.bi^L k1 D.bz hb) hy λ g4 j4 k4=>E7;let o4:IsPair g4 o x u2:=k4.extBut _ _ D.oj o3;apply iA o4 Y ?_;apply aK7 o4^ľ C P k5;replace P:IsPair C o x y:=P;apply aP0^C9 E7;apply iA P Y ?_;apply C6^wpAny_newTuple ?_;let sz:ak3 C.objs.size:=by rw[k5.1,k4.1,k3.1,k2.1,k1.1]
  let z5:Y8 C z p o bb7 O:=k5.extBut _ _ D.oz.symm^k4.extBut _ _ D.jz.symm^SN _ _ D.oz.symm _ _ D.iz.symm z1;let I:∀c u,c≠z->c≠o->c≠i->c≠j->Č c>u->C.get? c>u:=λ c u c1 c2 F G e=>k5.extBut _ _ c2^k4.extBut _ _ G^SN _ _ c2 _ _ F^cr8 _ c1 e;let i5:C.IsTupleIter i a<|n+1:=((U.extBut k3.extBut D.oi.symm).extBut k4.extBut D.ij).extBut k5.extBut D.oi.symm;let j5:C.IsTupleIter j b<|n+1:=j4.extBut k5.extBut D.oj.symm;let zl:z<C.objs.size:=Ao z5;exact AM _ (Builtin.SmallTypes.ownedTupleHandOut ↑z ↑C.objs.size) _ _ _ _;apply bI5;ext Builtin.SmallTypes.ownedTupleHandOut;let z6:Y8 (C.push^de1 ⟨x,y⟩) z p o bb7 O:=n5 z5;apply C6^nS z6^ľ g7 z7 k7;replace z7:Y8 g7 z p o cE0 O:=z7;apply nS z7^ľ Y2 z8 k8;replace z8:Y8 Y2 z p o cE0 false:=z8;let up:∀c u,c≠z->C.get? c>u->Y2.get? c>u:=λ c u c1 e=>k8.extBut _ _ c1^k7.extBut _ _ c1 ay7;let t8:IsPair Y2 C.objs.size x y:=k8.extBut _ _ (C0 zl)^k7.extBut _ _ (C0 zl) cj2;let s8:Y2.objs.size=C.objs.size+1:=di3 k8.1 k7.1 Ci
  apply C9 #[_,Y,?_];exact cD8 C.objs.size _;rw[sz]at z8 t8 s8;rw[sz];show k Y2 #[#[_,_,z8,ċ IK],up _ _ D.pz (I _ _ D.pz D.po D.pi D.pj pp),#[x,y,up _ _ D.oz P],i5.at λ u e=>up _ u D.iz e,j5.at λ u e=>up _ u D.jz e] t8 s8 λ c u c1 c2 F G e=>up c u c1^I c u c1 c2 F G e
 .intro g1 z1 k1 RN;simp only[Az,if_false];apply bI5;let DY:g1.IsTuple a xs:=let #[ob,e,r]:=ha;#[ob,k1 _ _ D.az e,r];let LQ:g1.IsTuple b ys:=let #[ob,e,r]:=hb;#[ob,k1 _ _ D.bz e,r];simp only[List.forIn_toArray,List.forIn_cons,List.forIn_nil];apply aR5 bf9;exact AM _ (Τ i) _ _ _ _;apply C6^Vb (s:=RM g1) (P3 k1) DY hx λ g2 U k2=>C9 E7;apply aR5 bf9;exact AM _ (Τ j) _ _ _ _;apply C6^Vb (s:=RM g2) ((aw7 k1).extBut k2.extBut D.ij.symm) (L k2 D.bi LQ) hy λ g3 j3 k3=>C9 E7;apply E7;apply C6^wpAny_newTuple ?_^fP^Ĉ (2:V);let sz:ak3 g3.objs.size:=di3 k3.1 k2.1 RN
  let I:∀c u,c≠z->c≠i->c≠j->Č c>u->(g3.push^de1 ⟨x,y⟩).get? c>u:=λ c u c1 F G e=>n5^SN _ _ G _ _ F^k1 _ _ c1 e;let z3:Y8 (g3.push^de1 ⟨x,y⟩) z p o f true:=n5^SN _ _ D.jz.symm _ _ D.iz.symm z1;apply C9 #[_,Y,?_];exact cD8 g3.objs.size _;rw[sz];apply k _ #[#[f,true,z3,hf],I _ _ D.pz D.pi D.pj pp,#[u1,u2,I _ _ D.oz D.oi D.oj oo],(U.extBut k3.extBut D.ij).at λ u e=>ay7,j3.at λ u e=>ay7] ?_ (Ϗ Ci sz) λ c u c1 _ F G e=>I c u c1 F G e;rw[<- sz];show cj2
def Qoc{z p o i j a b:Addr}{n:V}{xs C:ļ}{Q:PySem.Fin->ϟ}(hh:lI)(D:ZA z p o i j a b)(S:ZU s.heap z p o i j a b n)(ha:bX a xs)(P:bX b C)(R:ų^ID xs∨ų^ID C)
  (k:∀g x,(∀c u,c≠z->c≠o->c≠i->c≠j->Č c>u->cX7 c>u)->(∃u,cX7 x>u/\u.cls=ĥ aH0)->E ↑x bW0) :
  rj w A (cZ0 #[[ã z],[]]) Q E s:=by
 let((f,G,zz,hf),pp,(u1,u2,oo),ii,jj):=S;let y:∀{g g':Heap}{q c:Addr}{vs:ļ},PQ q g g'->c≠q->g.IsTuple c vs->g'.IsTuple c vs:=λ{g g' q c vs} sb hc #[ob,e,r]=>#[ob,sb.extBut _ _ hc e,r];exact AM _ (aS4 z 2) _ _ _ _;apply ό zz Y x cG5 Y ?_;exact AM _ (aS4 z 3) _ _ _ _;apply ό zz Y x cc0 Y ?_;apply iA pp Y ?_;exact AM _ (P1 z) _ _ _ _;apply C6^Dx zz hf ?_ ?_
 .simp only[if_true]
  apply FI ?_;apply ό zz Y x (ã o) Y ?_;apply C6^nS zz^ľ g1 z1 k1;replace z1:Y8 g1 z p o bb7 G:=z1;apply bI5;simp only[List.zipIdx_cons,List.zipIdx_nil,List.forIn_cons,List.forIn_nil];apply aR5 aj8;exact AM _ (Τ i) _ _ _ _;cases hx:ID xs with
  |none =>
   apply C6^HD hh bS0 (y k1 D.az ha) hx^mo g2 x k2 h2;let(Y2,h3,h4):=h2;let z2:Y8 g2 z p o bb7 G:=k2 _ _ D.iz.symm z1;let L:x≠z:=λ q=>by subst q;rw[z2]at h3;cases h3;simp at h4
   show nS z2 (λ g3 _ k3=>k g3 x (λ c u c1 _ v _ e=>k3.extBut _ _ c1^k2 _ _ v^cr8 _ c1 e) #[Y2,k3.extBut _ _ L h3,h4])
  |some x0 =>
   let I:ų^ID C:=by obtain h|h:=R;rw[hx]at h;cases h;show h
   apply C6^Vb bS0 (y k1 D.az ha) hx λ g2 i2 k2=>E7;let o2:IsPair g2 o u1 u2:=k2.extBut _ _ D.oi^cr8 _ D.oz oo;apply iA o2 Y ?_;apply aK7 o2^ľ g3 o3 k3;apply aP0 E7;apply aR5 aj8;exact AM _ (Τ j) _ _ _ _;apply C6^HD hh (((aw7 k1.extBut).extBut k2.extBut D.ij.symm).extBut k3.extBut D.oj.symm) (y k3 D.bo^y k2 D.bi^y k1 D.bz P) I^mo g4 x k4 h2;let(Y2,h3,h4):=h2;let z4:Y8 g4 z p o bb7 G:=k4 _ _ D.jz.symm^SN _ _ D.oz.symm _ _ D.iz.symm z1;let L:x≠z:=λ q=>by subst q;rw[z4]at h3;cases h3;simp at h4
   show nS z4 (λ g5 _ k5=>k g5 x (λ c u c1 c2 v F e=>k5.extBut _ _ c1^k4 _ _ F^SN _ _ c2 _ _ v^cr8 _ c1 e) #[Y2,k5.extBut _ _ L h3,h4])
 .intro g1 z1 k1 RN
  simp only[Az,if_false];apply bI5;let O:g1.IsTuple a xs:=let #[ob,e,r]:=ha;#[ob,k1 _ _ D.az e,r];let U:g1.IsTuple b C:=let #[ob,e,r]:=P;#[ob,k1 _ _ D.bz e,r];simp only[List.forIn_toArray,List.forIn_cons,List.forIn_nil];apply aR5 bf9;exact AM _ (Τ i) _ _ _ _;cases hx:ID xs with
  |none=>show C6 (HD (s:=RM g1) hh (P3 k1) O hx λ g2 x k2 h2=>k g2 x (λ c u c1 _ v _ e=>k2 _ _ v^k1 _ _ c1 e) h2)
  |some x0 =>
   let I:ų^ID C:=by obtain h|h:=R;rw[hx]at h;cases h;show h
   apply C6^Vb (s:=RM g1) (P3 k1) O hx λ g2 i2 k2=>C9 E7;apply aR5 bf9;exact AM _ (Τ j) _ _ _ _;show C6 (HD (s:=RM g2) hh ((aw7 k1).extBut k2.extBut D.ij.symm) (y k2 D.bi U) I λ g3 x k3 h2=>k g3 x (λ c u c1 _ v F e=>k3 _ _ F^k2.extBut _ _ v^k1 _ _ c1 e) h2)
#where
def ZU.at{h h':Heap}{z p o i j a b:Addr}{n:V}(S:ZU h z p o i j a b n)(k:∀c∈[z,p,o,i,j],∀u,ϝ c>u->ζ c>u):ZU h' z p o i j a b n:=by let((f,r,zz,hf),pp,(u1,u2,oo),ii,jj):=S;show#[#[f,r,k z Ê _ zz,hf],k p Ê _ pp,#[u1,u2,k o Ê _ oo],ii.at λ u e=>k i Ê u e,jj.at λ u e=>k j Ê u e]
inductive CZ:ι Expr
 |nm (x:Str) (p:Pos):CZ dq9
 |tp (l:Ϡ) (k:V) (p:Pos):CZ^.Tuple l k p
def QsO{prog:Program}{w:World}{A:Around}{E:Ee}{s:Shared}(v:CZ tg){z p o i j a b T:Addr}{n:V}{Q:Unit->ϟ}(D:ZA z p o i j a b)(S:ZU s.heap z p o i j a b n)(r:∀h',ZU h' z p o i j a b n->bY8 z h'->Q () bg5):rj w A (bI9 tg ↑z ↑T) Q E s:=by
 cases v with
 |nm x p'=>show C9 (r s.heap S^CA e e)
 |tp l k p' =>
  let(f,u,zz,hf):=S.zz;ext letOwnedTupleGo;apply dg6 zz ?_;dsimp only;split
  .apply FI ?_
   exact ű _ (setField ↑z 0 fE) Q E s;let(_,pp,(u1,u2,oo),ii,jj):=S;show nS zz (λ h' y c=>r h' #[#[fE,u,y,ϊ],c.extBut _ _ D.pz pp,#[u1,u2,c.extBut _ _ D.oz oo],P3 c.extBut,aw7 c.extBut] c.extBut)
  .show C9 (r s.heap S^CA e e)
def QsW{P:Ej}{z p o i j:Addr}(h1:P z)(h2:P p)(h3:P o)(h4:P i)(h5:P j):∀c∈[z,p,o,i,j],P c :=
 FY #[h1,FY #[h2,FY #[h3,FY #[h4,FY #[h5,FF (Ė h Cc)]]]]]
def WS{o:Obj}{x:ļ}{c:V}(h:o.data=.seq x c)(v:iM):o.data≠.cell v:=λ q=>Ex h q cL9
def OJ{o:Obj}{x:ļ}(h:o.data=pK x)(v:iM):o.data≠.cell v:=λ q=>Ex h q cL9
def ZU.fp{h:Heap}{z p o i j a b:Addr}{n:V}(S:ZU h z p o i j a b n):∀c∈[z,p,o,i,j],∃ob,ϝ c>ob/\∀v,ob.data≠.cell v :=
 let #[_,_,zz,_]:=S.zz
 let #[_,_,oo]:=S.oo
 let #[oi,r,_,e]:=S.ii
 let #[oj,u,_,dj]:=S.jj
 QsW #[_,zz,OJ Y] #[_,S.pp,WS Y] #[_,oo,WS Y] #[oi,r,OJ e] #[oj,u,OJ dj]
variable{X:Cx}{A:Around}{E:Ee}{Q:iM->ϟ}{O9:Ef}{σ:L2.St}{H:Hp}{s:Shared}{z p o i j a b:Addr}{n:V}
def Dp(I:Ϣ)(D:ZA z p o i j a b)(hf:∀c∈[z,p,o,i,j],Vx X O9 H c)(S:ZU s.heap z p o i j a b n)(P:(lY X.K a b).go n H)
  (k:∀(g:Heap)(C:Hp),(lY X.K a b).yld n H ŋ C->ŗ C bW0->ZU g z p o i j a b (n+1)->IQ c [z,p,o,i,j]^Vx X O9 C c->Q (í ŋ) bW0) :
  ν A (bx2 z) Q E s:=by
 let(xs,ys,x,y,L,O,hx,Y2):=P;let(U,ra,pa,_):=iP L;let(ib,rb,pb,_):=iP O;let(u,R,ru):=ra.get hx;let(v,hv,rv):=rb.get Y2;let(f0,Mr,pW,sY):=S.zz;let G:bs6 ↑z wS := #[_,pW,Y];ext pyNext;apply C6^wpAny_attempt^wpAny_callSpecial?_slot (name:=bf4) G F.slot_zip_next^wpAny_call_entry F.slot_zip_next G F.entry_zip_next
  (Qob D S (dn3 a U.toArray pa) (dn3 b ib.toArray pb) (Ë R) (Ë hv) λ g' S' tp sz kp=>E7) cr9
 apply k g' _ #[_,x,y,bp3,λ a9 h=>Æ (I.tuple_inj h L) hx,λ aa h=>Æ (I.tuple_inj h O) Y2,Y,Y] (I.nO (t':=s.toks) hf (mo c q r e) (us:=[u,v]) (aj1 ru rv i9) (fP^Ĉ 2) #[_,tp,Y,_,Y]) S' λ c r=>#[?_,(hf c r).2]
 .simp only[Bj,Cc,or_false,not_or]at r;show kp c q r.1 r.2.2.1 r.2.2.2.1 r.2.2.2.2 e
 .let(ob,e,_):=S.fp c r;rw[Zb bj5];show(hf c r).1
def Pq(hh:lI)(I:Ϣ)(D:ZA z p o i j a b)(hf:∀c∈[z,p,o,i,j],Vx X O9 H c)(S:ZU s.heap z p o i j a b n)(y:(lY X.K a b).stop n H)
  (k:∀s',cQ8->Q none s'):ν A (bx2 z) Q E s:=by
 let(xs,ys,P,R,v):=y;let(C,U,L,_):=iP P;let(G,rb,O,_):=iP R;let(f0,Mr,Y2,sY):=S.zz;let u:bs6 ↑z wS := #[_,Y2,Y];ext pyNext;apply C6^wpAny_attempt^wpAny_callSpecial?_slot (name:=bf4) u F.slot_zip_next^wpAny_call_entry F.slot_zip_next u F.entry_zip_next
  (Qoc hh D S (dn3 a C.toArray L) (dn3 b G.toArray O) ?_^mo g x kp hx) cr9
 .rw[⇑U,rb.length]at v;show v.imp (λ q=>Æ List.getElem?_toArray^Cr q) λ q=>Æ List.getElem?_toArray^Cr q
 .apply C6^wpAny_isInstance (T := aH0) (b:=true) hx isSubtype_stop ?_;apply C9^k _^I.o8 (t':=s.toks) hf^mo c q r e;simp only[Bj,Cc,or_false,not_or]at r;show kp c q r.1 r.2.2.1 r.2.2.2.1 r.2.2.2.2 e
#where
def kO{P:Program}{w:World}{K:Aa}{tg:Expr}(L:CZ tg){z p o i j a b:Addr}(D:ZA z p o i j a b):sI P w K tg (lY K a b) [z,p,o,i,j] z^λ n h=>ZU h z p o i j a b n where
 mem:=Ê
 obj:=λ n h S=>S.fp
 keep:=λ n h h' S k=>S.at k
 item:=by intro X x C v r n O9 s σ H E I hf S hg;subst x C v;apply Dp I D hf S hg λ g G O I1 S1 u=>#[_,Y,QsO (s:=bW0) L D S1 λ g2 S2 Q=>#[ϒ,G,I1.o8 (s:=bW0) (t':=s.toks) u (λ c q r e=>Q c q (λ h=>r db3) e),Y,O,S2,λ c r=>(u c r).1]]
 done:=by intro X x C v r n O9 s σ H E I hf S hg;subst x C v;show Pq (OO r) I D hf S hg λ s' Y2=>#[Y,Y2]
 self:=bx3 S (by let(f0,U,R,sY):=S.zz;let y:Shared.TypeIs _ (Ϛ z) wS := #[_,R,Y];apply cs0 y^ad1 F.slot_zip_iter y F.entry_zip_iter ?_ cs1;show C9 #[_,Y, wS, _,y,df2,h])
variable{X:Cx}{xn:Str}{p2:Pos}{O9:Ef}{σ:L2.St}
def y_{E:Ee}{Q:Ee}{a b:Addr}(I:Ϣ)(P:du5 a)(R:bI4 H b ys)
  (k:∀(s':Shared) (z p o i j:Addr),cQ8->ZA z p o i j a b->ZU s'.heap z p o i j a b 0->IQ c [z,p,o,i,j]^Vx X O9 H c->cD8 z s'):dm (call do0 [Χ,da5]) Q E s:=by
 let(x,U,Y2,_):=iP P;let(y,rb,L,_):=iP R;apply callType_new F.called_zip Á (F.typeCall_zip_2 _ _) (F.newCall_zip_2 _ _) (λ obj=>F.args_object_init_3 obj _ _) F.entry_zip_new (Qoa a b x.toArray y.toArray) #[dn3 a x.toArray Y2,dn3 b y.toArray L,?_];let z1:sL^Ds s.heap a=Lm:=Ci ..;let z2:sL^Dr s.heap a b=ę 2:=Ϗ Ci z1
 let z3:sL^Dq s.heap a b=ę 3:=Ϗ Ci z2
 let z4:sL^Dm s.heap a b=ę 4:=Ϗ Ci z3
 let u:(al0 a b).get?^sL^Dm s.heap a b>_:=cj2;let g4:(al0 a b).get?^sL^Dq s.heap a b>_:=n5 cj2;let g3:(al0 a b).get?^sL^Dr s.heap a b>_:=ce9 cj2;let g2:(al0 a b).get?^sL^Ds s.heap a>_:=ce9^n5 cj2;let g1:aJ0 (al0 a b).get?>_:=ce9^ce9 cj2;exact _/\_;let kp:∀c o,Č c>o->(al0 a b).get? c>o:=λ c o e=>ce9^ce9 ay7;apply bI0 #[_,u,Y];rw[z2,z3,z4]at u;rw[z1,z2]at g3;rw[z3]at g4;rw[z1]at g2;rw[z4];let C:Tj a:=bJ8 o e Y2 xt
 let G:Tj b:=bJ8 o e L xt
 let D:ZA (ę 4) (ę 2) (ę 3) s.heap.objs.size Lm a b:=by constructor<;>first|show Be C|show Be G|show Be (Ay C^C5 _ _)|show Be (Ay G^C5 _ _)|show Be À|show C0 À
 let O:Ε^RM^al0 a b:=I.kept (t':=s.toks) kp;let S:ZU (al0 a b) (ę 4) (ę 2) (ę 3) s.heap.objs.size Lm a b 0:=#[#[_,_,u,ϊ],g3,#[_,_,g4],#[_,g1,Y,Y],#[_,g2,Y,Y]];apply k (RM^al0 a b) _ _ _ _ _ O D S^Ż c v;let r:az9 c:=by simp only[Bj,Cc,or_false]at v;obtain Y|Y|Y|Y|Y:=v<;>first|show Ĕ|show C5 _ _
 show I.fpOk r (pM r)
def Qn8(c:CZ tg){R:It->dC}{E:Ee}{a b:Addr}(I:Ϣ)(r:du5 a)(u:bI4 H b ys)(q:R (lY X.K a b) H):
  dm (call do0 [Χ,da5]) (λ v x=>dm (pyIter v) (PIE X O9 σ tg R) E x) E s :=
 y_ I r u λ s' z p o i j e D S hf=>(kO (K:=X.K) c D).self _ _ _ _ _ S #[_,[z,p,o,i,j],_,lY X.K a b,H,Y,e,kO c D,S,hf,q]
def W_{a b:Addr}{us:Ď}(r:fx [Χ,da5]):us=[Χ,da5]:=by
 cases r with
 |cons r c =>
  cases c with
  |cons e c=>cases c;cases r;cases e;rfl
def Qm7{p pos:Pos}(e:L6 wS)(i:cj wS)(ha:PA X [x,y] ta)(j:Î [x,y]=[Ξ x,Ξ y]:=by rfl)(c:Î [y]=[Ξ y]:=by rfl):
  PI X (ķ xn p2) (bg8 wS [x,y])^QrS X.K ta:=by
 intro O9 s σ H R I h;apply Call_^ja I e i boot_zip^dP (dv1 (ha pos O9 s σ H _ I h) us v vs H1 u) (Ϗ j c)^ö c;let(a,b,xs,z,Y,o,r,q):=q1;cases W_ u;show Qn8 (.nm ..) I1 o r q
#print L2
namespace D
open PySem PySem.Spec PyProof.Rows L2
variable{X:Cx}{xn:Str}{p2:Pos}{f g:aD}
def QbY{K:Aa}{Z:Ent}{R:Y1->Y1->dC}(S:bE2)(e:gb f g env J>(Tk L))
  (k:∀a b vs us ρ2 B2 H2,AC K B H ρ2 B2 H2->aR K ρ2 B2 hp' H2->SqT K H2 a vs->SqT K H2 b us->⇑L<=av6->kW K ρ2 B2 H2 L^lY K a b->R Ű ↑b H2):tD K f σ H λ v H1=>tD K g σ H1 λ u H2=>R v u H2:=by
 let(d1,hp1,e1,e):=Ŧ;let(xs,hp2,o,e):=Ŧ;let(Y,Y):=Kv o;let(G,y,r,e):=Ŧ;let(Y2,I,x,e):=Ŧ;let(Y,Y):=Kv x;let(Y,Y):=Fn;apply cG8 E^bb1 r^λ u ρ2 B2 H2 g2 S2 F=>?_;let(a,vs,Y,na,i,c):=(ϸ g2 _ _ E).tupI;let(b,us,Y,C,j,z):=F.tupI;show k a b vs us ρ2 B2 H2 am1 S2.wo i j (i3 uL bT6^Nat.min_le_left _ _) (QpE na i c C j z)
def Rc{p pos:Pos}(j:L6 wS)(o:cj wS)(hx:cl8 x)(r:ϓ y g)(i:Î [x,y]=[Ξ x,Ξ y]:=by rfl)(c:Î [y]=[Ξ y]:=by rfl):
  DI X (ķ xn p2) (bg8 wS [x,y])^gb f g :=
 L2.PI.imp (Qm7 j o (Xn hx (cq8 r^ö c)^Ϗ i c) i c) λ σ H R zz=>by let(Z,env,ρ,B,J,ds,hp',S,e,k):=zz;show QbY S e λ a b vs us ρ2 B2 H2 g2 W v z _ u=>#[a,b,vs,us,Y,v,z,k _ ρ2 B2 H2 g2 W u]
#print D
namespace TR
structure Pg where
 lv:V
 ks:Ĥ
 ps:Ĥ
 hi:Ć
 sd:cP6
structure Sh where
 O4:V
 pg:bN1
 top:V
 rd:Int
 wr:Int
inductive aG where
 |find (k:Int)|put (k w:Int)|cut (k:Int)|stretch (l h:Int)
def aG.key:aG->Int
 |.find k=>k
 |.put k _=>k
 |.cut k=>k
 |.stretch l _=>l
structure Wk where
 O2:aG
 aim:Int
 O6:V
 place:cP6
 O5:ç V V
 O1:cP6
 O3:Ć
 pairs:da7
 O7:Bool
inductive Row where
 |non
 |side (n t:V)
 |down (n t:V)
 |found (n:V) (w:Ć)
 |put (n:V) (w:Ć) (k:cP6)
 |cut (n:V) (w:Ć)
 |read (n:V) (ps:Ei) (t:bB0 V Int)
 |told (n:V) (k:cP6)
 |raised (n t:V)
def aM(ks:Ĥ)(k:Int):V:=⇑(aj9 x^A6 x k)
def aZ(ks:Ĥ)(k:Int):V:=⇑(aj9 x^Af x k)
def XE(fs:ç V V)(k:V):cP6:=bP8^fs.find? λ p=>FC ix k
def xM(fs:ç V V)(k v:V):ç V V:=Ř (fs.any λ p=>FC ix k) (fs.map^cI1 p ix k (ix,v) p)<|fs++[(k,v)]
def JU(p:Pg)(k:Int):Bool:=match p.hi with
 |none=>false
 |some h=>A6 h k
def Ze(p:Pg)(k:Int):Ć:=Nf sU TN p.ps[sU]?
def Q7(p:Pg)(k w:Int):Pg:=ĝ p ks (se sU++k::dL k) ps<|ab9 sU++w::ah9 TN
def without(p:Pg)(k:Int):Pg:=ĝ p ks (se sU++dL k) ps<|ab9 sU++ah9 TN
def Zt(p:Pg)(k:Int)(c:V):Pg:=ĝ p ks (se TN++k::dL k) ps<|ab9 (TN+1)++aU4::ah9 (TN+1)
def mid(p:Pg):V:=μ / 2
def ZR(p:Pg):V:=pH p.lv 0 (mid p)<|mid p+1
def XJ(p:Pg):Int:=p.ks.getD (mid p) 0
def Zk(p:Pg)(n:V):Pg:=#[p.lv,se (mid p),ab9 (ZR p),í (XJ p),í n]
def Q6(p:Pg):Pg:=#[p.lv,p.ks.drop (ZR p),ah9 (ZR p),p.hi,p.sd]
def QH(S:Sh)(w:Wk)(n:V)(p:Pg):cP6 × Sh × Wk :=
 if μ<=S.O4 then (none,ĝ S pg (sW n p) wr (S.wr+1),dn7 w O7)
 else (í Ô,ĝ S pg ((AR [Q6 p]).set n^NH p) wr (S.wr+1+1),{ w with O1:=í Ô,aim:=XJ p,O6:=p.lv+1,place:=wf<|p.lv+1 })
def Zg(p:Pg)(l h:Int):da7:=AF aa2^λ q=>A6 l FO&&Af FO h
def J0(S:Sh)(w:Wk)(n:V)(p:Pg):Row × Sh × Wk:=match w.O2 with
 |.find _=>(.found n aF3,S,du6 aF3)
 |.put _ x=>match QH S (cc3 aF3) n ds1 with
  | (r,S2,a)=>(.put n aF3 r,S2,a)
 |.cut _=>(.cut n aF3,Ř (p9 aF3) (ĝ S pg (sW n az0) wr<|S.wr+1) S,du6 aF3)
 |.stretch l h=>match p.hi,p.sd with
  |some x,some s=>if h<=x then (bw0 n (Zg p l h) none,S,cy8 w (PH^Zg p l h))
   else (bw0 n (Zg p l h)^í (s,x),S,bX5 w pairs (PH^Zg p l h) aim place cu4)
  |_,_=>(bw0 n (Zg p l h) none,S,cy8 w (PH^Zg p l h))
def Xp(S:Sh)(w:Wk):bB0 Row<|Sh × Wk :=
 if do3 then í (Ě,S,w)else
 match ú ó with
 |none=>none
 |some p =>
  if cn6 then
   match w.O1 with
   |none=>none
   |some k=>í (.raised S.top Ô,{ S with rd:=dc3,pg:=AR [cV7 (p.lv+1) [mH,fw]],top:=Ô,wr:=S.wr+1 },dn7 w O7)
  else if Ĭ cC1 then
   match p.sd with
   |none=>none
   |some s=>í (.side ó s,Id,ø w place cu4)
  else if bs4 then
   match p.ps[ad7]? with
   |none=>none
   |some c=>í (.down ó c.toNat,Id,ĝ w O5 (xM w.O5 p.lv ó) place (í c.toNat))
  else if cg0 then
   match w.O1 with
   |none=>none
   |some k=>match cj7 Id ó (E1 p k)with
    | (r,S2,a)=>í (.told ó r,S2,a)
  else í (J0 Id w ó p)
def zI{ks:Ĥ}(h:m5)(k:Int):LB mh=aj9 x^A6 x k/\cT9=aj9 x^Af k x:=by
 ext aM;induction ks with
 |nil=>simp
 |cons x xs r =>
  let(h1,h2):=Cj.mp h;by_cases q:x<=k
  .let(j,o):=r h2
   let c:¬ k<x:=À
   simp[Ar,q,c,j,o]
  .let e:bz4 y^A6 y k=[]:=CF Cu y a y a
   let i:bz4 y^Af k y=xs:=CF Co y a y a
   let c:k<x:=À
   simp[Ar,q,c,e,i]
def xr{ks:Ĥ}(h:m5)(k:Int):LB sT=aj9 x^Af x k/\ad2 sT=aj9 x^A6 k x:=by
 ext aZ;induction ks with
 |nil=>simp
 |cons x xs r =>
  let(h1,h2):=Cj.mp h;by_cases q:x<k
  .let(j,o):=r h2
   let c:¬ k<=x:=À
   simp[Ar,q,c,j,o]
  .let e:bz4 y^Af y k=[]:=CF Cu y a y a
   let i:bz4 y^A6 k y=xs:=CF Co y a y a
   let c:k<=x:=À
   simp[Ar,q,c,e,i]
def YF(ks:Ĥ)(k:Int):mh<=hU:=B9 _ _
def UY(ks:Ĥ)(k:Int):sT<=hU:=B9 _ _
def P_(ks:Ĥ)(k:Int):sT<=mh:=by
 ext aZ aM;induction ks with
 |nil=>simp
 |cons x xs a =>
  by_cases q:x<k
  .have:x<=k:=À
   simp[Ar,q,this,a]
  .by_cases c:x<=k
   .simp[Ar,q,c];lia
   .simp[Ar,q,c,a]
def Qh9{ks:Ĥ}(h:m5)(k:Int):mh<=sT+1:=by
 ext aZ aM;induction ks with
 |nil=>simp
 |cons x xs c =>
  let(h1,h2):=Cj.mp h;by_cases q:x<k
  .have:x<=k:=À
   have:=c h2;simp[Ar,q, *]
  .let e:bz4 y^A6 y k=[]:=CF Cu y a y a
   by_cases i:x<=k<;>simp[Ar,q,i,e]
def vw{ks:Ĥ}(h:m5)(k:Int):(LB sT++k::cT9).Pairwise eA:=by
 rw[(xr h k).1,(zI h k).2];rw[List.pairwise_append];apply#[ck4,Cj.mpr #[Ż y a,ck4],mo x hx y a]
 .simpa using ao0 a
 .let h1:x<k:=cl4 hx
  obtain Y|a:=ny a
  .show h1
  .let h2:k<y:=cl4 a
   lia
def Uq{ks:Ĥ}(h:m5){k x:Int}(hx:x∈LB sT++k::cT9):x=k∨x∈ks:=by
 obtain hx|hx:=cx8
 .show ċ (Bv hx)
 .obtain Y|hx:=ny hx
  .show ϊ
  .show ċ (Cb hx)
def Qde{ks:Ĥ}(h:m5)(k:Int):(LB sT++cT9).Pairwise eA:=by
 rw[(xr h k).1,(zI h k).2];rw[List.pairwise_append];apply#[ck4,ck4,mo x hx y a];let h1:x<k:=cl4 hx
 let h2:k<y:=cl4 a
 lia
def Rl{ks:Ĥ}{k x:Int}(hx:x∈LB sT++cT9):x∈ks:=by
 obtain hx|hx:=cx8
 .show Bv hx
 .show Cb hx
def M2{ks:Ĥ}(h:k∉ks):sT=mh:=by
 ext aZ aM;congr 1;refine List.filter_congr;intro x hx;have:x≠k:=λ e=>h<|e▸hx;by_cases q:x<k
 .have:x<=k:=À
  simp[q,this]
 .have:¬ x<=k:=À
  simp[q,this]
def jp(fs:ç V V)(k v j:V):XE (xM fs k v) j=Dt j k v^XE fs j:=by
 ext xM XE;by_cases h:(Ĭ^fs.any λ p=>FC ix k)
 .rw[cC9]
  induction fs with
  |nil=>simp at h
  |cons p fs c =>
   simp only[Ba,B0];by_cases q:ix=k
   .by_cases e:j=k
    .subst e;simp[q]
    .have:¬ k=j:=λ z=>e z.symm
     simp only[q,if_true,this,decide_false];by_cases h2:(Ĭ^fs.any λ p=>FC ix k)
     .have:=c h2;simpa [e]using this
     .let a:fs.map^cI1 p ix k (ix,v) p=fs:=by
       conv=>rhs;rw[<- List.map_id fs]
       refine List.map_congr_left;intro x hx;have:¬ x.1=k:=λ z=>h2^Æ List.any_eq_true #[x,hx,Ë z];simp[this]
      rw[a,EF]
   .let h2:Ĭ^fs.any λ p=>FC ix k:=aL4 Cn h
    have:=c h2;simp only[q,if_false];by_cases e:ix=j
    .have:¬ j=k:=λ z=>q^e.trans z
     simp[e,this]
    .simpa [e]using this
 .rw[df3,List.find?_append]
  let hn:∀p∈fs,¬ ix=k:=λ p J z=>h^Æ List.any_eq_true #[p,J,Ë z];by_cases e:j=k
  .subst e
   have:ų^fs.find?^λ p=>FC ix j:=by rw[List.find?_eq_none];intro p J;simpa using hn p J
   simp[this]
  .have:¬ k=j:=λ z=>e z.symm
   simp[this,e]
def aG.far:wP aG
 |.stretch _ _=>true
 |_=>false
inductive Vw(S:Sh)(w:Wk):Row->Sh->ι Wk
 |raised {p:Pg} {k:V}:ú ó>p->cn6->w.O1>k->Vw S w (.raised S.top Ô) { S with rd:=dc3,pg:=AR [cV7 (p.lv+1) [mH,fw]],top:=Ô,wr:=S.wr+1 }^dn7 w O7
 |side (n s:V):Vw S w (.side n s) Id^ø w place cu4
 |down (n c:V) (f:ç V V):Vw S w (.down n c) Id^ĝ w O5 f place cF5
 |told {p:Pg} {k n:V}:ú ó>p->cI0->cg0->w.O1>k->Vw S w (.told n (cj7 Id ó^E1 p k).1) (cj7 Id ó^E1 p k).2.1 (cj7 Id ó^E1 p k).2.2
 |found (n:V) (x:Ć):w.O6=0->ÿ w.O2.far->Vw S w (.found n x) Id^du6 x
 |put {p:Pg} {n:V} {k x:Int} (y:Ć):w.O2=.put k x->ú ó>p->aQ4->w.O6=0->Vw S w (.put n y (QH Id (cc3 y) ó ds1).1) (QH Id (cc3 y) ó ds1).2.1 (QH Id (cc3 y) ó ds1).2.2
 |cut {p:Pg} (n:V) (y:Ć) (b:Bool):ú ó>p->aQ4->w.O6=0->ÿ w.O2.far->Vw S w (.cut n y) (Ř b { S with rd:=dc3,pg:=sW ó az0,wr:=S.wr+1 } Id)^du6 y
 |last (n:V) (ps:Ei):w.O6=0->Ĭ w.O2.far->Vw S w (bw0 n ps none) Id^cy8 w^PH ps
 |next {p:Pg} {n s:V} {ps:Ei} {x:Int}:ú ó>p->p.hi>x->w.O6=0->Ĭ w.O2.far->Vw S w (bw0 n ps^í (s,x)) Id^bX5 w pairs (PH ps) aim place cu4
inductive V2(S:Sh)(w:Wk)(n:V)(p:Pg):Row->Sh->ι Wk
 |raised {k:V}:cn6->w.O1>k->V2 S w n p (.raised S.top Ô) { S with rd:=dc3,pg:=AR [cV7 (p.lv+1) [mH,fw]],top:=Ô,wr:=S.wr+1 }^dn7 w O7
 |side {s:V}:cI0->Ĭ cC1->p.sd>s->V2 S w n p (.side n s) Id^ø w place cu4
 |down {c:Int}:cI0->de9 cC1->bs4->p.ps[ad7]?>c->V2 S w n p (.down n c.toNat) Id^ĝ w O5 (xM w.O5 p.lv n) place^í c.toNat
 |told {k:V}:cI0->de9 cC1->¬ bs4->cg0->w.O1>k->V2 S w n p (.told n (cj8 Id^E1 p k).1) (cj8 Id^E1 p k).2.1 (cj8 Id^E1 p k).2.2
 |leaf {r:Row} {S':Sh} {w':Wk}:cI0->de9 cC1->¬ bs4->w.O6=0->J0 Id w n p=(r,S',w')->V2 S w n p r S' w'
def xu{S o:Sh}{w w':Wk}{r:Row}(v:d9)(h:Xp S w>(r,o,w')):∃p,ú ó>p/\V2 S w ó p r o w':=by
 unfold Xp at h;rw[C7^ψ v]at h;split at h
 .cases h
 .rename_i p J;apply#[p,J,?_];split at h
  .rename_i a;split at h
   .cases h
   .rename_i k i;cases h;show .raised a i
  .rename_i a;split at h
   .rename_i e;split at h
    .cases h
    .rename_i s j;cases h;show .side a e j
   .rename_i e;split at h
    .rename_i hd;split at h
     .cases h
     .rename_i c j;cases h;show .down a e hd j
    .rename_i hd;split at h
     .rename_i u;split at h
      .cases h
      .rename_i k i;cases h;show .told a e hd u i
     .rename_i u;show .leaf a e hd À (Aj h)
def Ku{w w':Wk}{r:Row}(j:d9)(h:Xp S w>(r,S',w')):Vw S w r S' w':=by
 let(p,J,v):=xu j h;cases v with
 |raised a c=>show .raised J a c
 |side=>show .side _ _
 |down=>show .down _ _ _
 |told a _ _ o c=>show .told J a o c
 |leaf _ _ hd g0 e =>
  let i:aQ4:=À
  unfold J0 at e;split at e
  .rename_i hd;cases e;show .found _ _ g0 be1
  .rename_i k x hd
   cases e;show .put _ hd J i g0
  .rename_i hd;cases e;show .cut _ _ _ J i g0 be1
  .rename_i hd
   split at e
   .rename_i x s hx u
    split at e
    .cases e;show .last _ _ g0 be1
    .cases e;show .next J hx g0 be1
   .cases e;show .last _ _ g0 be1
abbrev Bg:=V->Ć
def leB(b:Ć)(x:Int):ä:=∀v,b>v->v<=x
def ltB(b:Ć)(x:Int):ä:=∀v,b>v->v<x
def nZ(x:Int)(h:Ć):ä:=∀v,h>v->x<v
def d8(b c:Ć):ä:=∀v,b>v->∃u,c>u/\v<=u
def d8.refl(b:Ć):d8 b b:=λ v h=>#[v,h,cM0]
def d8.trans{a b c:Ć}(h:d8 a b)(g:d8 b c):d8 a c:=λ v e=>by let(u,e1,j):=h v e;let(x,i,o):=g u e1;show#[x,i,À]
def JA(b:Ć)(ks:Ĥ):V->Ć
 |0=>b
 |j+1=>Iq ks
structure JL(O4:V)(b:Ć)(p:Pg):ä where
 sorted:x5
 few:μ<=O4
 parts:fA=μ+pH p.lv 0 0 1
 low:∀k∈p.ks,leB b k
 fK:bs3->∀k∈p.ks,ltB b k
 high:∀k∈p.ks,dt1
 wide:∀h,p.hi>h->ltB b h
structure Tree(S:Sh)(bg:Bg):ä where
 bf:2<=S.O4
 root:∃r:Pg,an2>r/\MJ n p (fI>p->p.lv<=r.lv)
 mO:ų^bg S.top
 page:MJ n p<|fI>p->bJ9 S.O4 p
 link:MJ n p<|fI>p->(bO6/\bO7)∨∃(h:Int)(s:V)(q:Pg),p.hi>h/\p.sd>s/\ú s>q/\q.lv=p.lv/\bg s>h
 kid:MJ n p<|fI>p->bs3->∀j k,cy3>k->Ti c V q (k=aU4/\ú c>q/\q.lv+1=p.lv/\bZ3=de3 j)
 dis:∀(n m:V)(p q:Pg),fI>p->TM>q->IO q.lv->n≠m->(∃h v,p.hi>h/\bg m>v/\h<=v)∨(∃h v,q.hi>h/\Ų>v/\h<=v)
 pred:MJ n p<|fI>p->∀v,Ų>v->Ti m V q (TM>q/\q.lv=p.lv/\q.hi>v)
def Tree.uniq{S:Sh}{bg:Bg}(T:nj){n m:V}{p q:Pg}(hn:fI>p)(c:TM>q)(hl:IO q.lv)(a:Ų=bg m):n=m:=by
 obtain h|h:=Nat.decEq n m
 .exfalso;obtain⟨x,v,h1,h2,h3⟩|⟨x,v,h1,h2,h3⟩:=T.dis n m p q hn c hl h
  .have:=(cw9).wide x h1 v^a.trans h2;lia
  .have:=(mn m q c).wide x h1 v^a.symm.trans h2;lia
 .show h
structure bJ(S:Sh)(bg:Bg)(S':Sh)(aP:Bg):ä where
 old:MJ n p<|fI>p->aP n=Ų/\∃p':Pg,ID S'.pg>p'/\p'.lv=p.lv
def bF(S:Sh)(k:V):ä:=MJ n p<|fI>p->bs3->fw∉p.ps
structure aR(S:Sh)(bg:Bg)(w:Wk):ä where
 at_:∀n:V,AH n->∃p:Pg,fI>p/\cI8/\cX0
 none_:Ŷ->∀l f,wf l>f->PP l
 kept:∀l f,wf l>f->∃p:Pg,ú f>p/\IO l
 above:MJ n p<|AH n->fI>p->∀l f,wf l>f->p.lv<l->d8 (bg f) Ų
 chain:∀l f l' f',wf l>f->wf l'>f'->cI7 l->l<l'->d8 (bg f')^bg f
 gap:MJ n p<|AH n->fI>p->bs4->∀l f,wf l>f->PP l∨p.lv<l
 full:MJ n p<|AH n->fI>p->∀l' f',wf l'>f'->∀l,p.lv<l->l<=l'->∃f,wf l>f
 tell:cg0->Ti k V q (w.O1>k/\ú k>q/\q.lv+1=w.O6/\bg k>w.aim)
def aR.grow{w:Wk}(W:cy6)(g:aI8):aR S' aP w where
 at_:=λ n h=>by let(p,h1,h2,h3):=aw8 h;let(e,p',h4,h5):=cs3 n h1;show#[p',h4,À,Æ e h3]
 none_:=W.none_
 kept:=λ l f h=>by let(p,h1,h2):=OZ l h;let(e,p',h4,h5):=cs3 f h1;show#[p',h4,À]
 above:=λ n p' J hn l f hf hl=>by let(p,h1,_):=cU3;let(e,r,h4,h5):=cs3 n h1;rw[h4]at hn;cases hn;let(u,o,_):=OZ l hf;rw[e,(g.old f u o).1];show W.above n p J h1 l f hf À
 chain:=λ l f i c h h' a b=>by let(p,h1,_):=OZ l h;let(p',j,_):=W.kept i c h';rw[(cs3 f h1).1,(g.old c p' j).1];show W.chain l f i c h h' a b
 gap:=λ n p' J hn a l f hf=>by let(p,h1,_):=cU3;let(e,r,h4,h5):=cs3 n h1;rw[h4]at hn;cases hn;rw[h5];show W.gap n p J h1 À l f hf
 full:=λ n p' J hn i c hf l a b=>by let(p,h1,_):=cU3;let(e,r,h4,h5):=cs3 n h1;rw[h4]at hn;cases hn;show W.full n p J h1 i c hf l À b
 tell:=λ h=>by let(k,q,h1,h2,h3,h4):=W.tell h;let(e,p',h5,o):=g.old k q h2;show#[k,p',h1,h5,À,Æ e h4]
def aR.fresh{w:Wk}(h1:Ŷ)(h2:w.O5=[])(h3:w.O6=0):cy6 where
 at_:=λ n h=>į h1 h h
 none_:=λ_ l f h=>į h2 h h
 kept:=λ l f h=>į h2 h h
 above:=λ n p h=>į h1 h h
 chain:=λ l f c a h=>į h2 h h
 gap:=λ n p h=>į h1 h h
 full:=λ n p h=>į h1 h h
 tell:=λ h=>À
def Q4{α:pZ}{xs:Fa}{n m:V}{x y:α}(h:(xs.set n x)[m]?>y):(m=n/\y=x/\n<ŧ)∨(m≠n/\cI5 m>y):=by
 by_cases e:m=n
 .subst e;by_cases hl:m<ŧ
  .rw[ba3]at h;cases h;show ë #[Y,Y,hl]
  .rw[Cr^Ë hl]at h;cases h
 .rw[iO e]at h;show cQ4 e h
def D7{α:pZ}{xs:Fa}{n m:V}{x y:α}(h:cI5 m>y):(xs.set n x)[m]?>(pH m n x y):=by
 let hl:=bf2;by_cases e:m=n
 .subst e;rw[ba3,pv]
 .rw[iO e,h,EF]
def Tree.write{S:Sh}{bg:Bg}(T:nj){n:V}{p p':Pg}{x y:Int}(hn:fI>p)(hl:p'.lv=p.lv)(hh:p'.hi=p.hi)(E:p'.sd=p.sd)(ok:bJ9 S.O4 p')
  (hk:bs3->∀j k,Iq p'.ps>k->Ti c V q (k=aU4/\ú c>q/\q.lv+1=p.lv/\bZ3=JA Ų p'.ks j)) :
  ł^bX5 S pg (sW n p') rd wr y/\aA9 S (bX5 S pg (sW n p') rd wr y) bg:=by
 let old:MJ m q<|TM>q->∃i:Pg,(sW n p')[m]?>i/\i.lv=q.lv/\i.hi=q.hi/\i.sd=q.sd:=λ m q h=>by
  apply#[_,D7 h,?_];by_cases e:m=n
  .subst e;rw[hn]at h;cases h;simp[hl,hh,E]
  .simp[e]
 let new:MJ m i<|(sW n p')[m]?>i->∃q:Pg,TM>q/\i.lv=q.lv/\i.hi=q.hi/\i.sd=q.sd:=λ m i h=>by
  obtain⟨Y,Y,_⟩|⟨_,h⟩:=Q4 h
  .show#[p,hn,hl,hh,E]
  .show#[i,h,Y,Y,Y]
 apply#[#[T.bf,?_,T.mO,dv7 q,dv7 q,λ m q h h0 j k C=>?_,λ a b q r ha I G e=>?_,λ m q h v hv=>?_],#[λ m q h=>#[Y,by let(i,h1,h2,_):=old m q h;show#[i,h1,h2]]]]
 .let(r,h1,h2):=T.root;let(o,h3,h4,_):=old _ _ h1;show#[o,h3,λ m q h=>by let(u,h5,z,_):=new m q h;rw[z,h4];show h2 m u h5]
 .obtain⟨Y,Y,_⟩|⟨_,h⟩:=Q4 h
  .show ok
  .show mn m q h
 .let(u,h1,h2,h3,h4):=new m q h;obtain⟨a,b⟩|⟨x,s,r,a,b,c,d,e⟩:=T.link m u h1
  .show ë #[h3.trans a,h4.trans b]
  .let(o,c1,c2,_):=old s r c;show ċ #[x,s,o,h3.trans a,h4.trans b,c1,di3 c2 d h2,e]
 .obtain⟨Y,Y,_⟩|⟨_,h⟩:=Q4 h
  .let(c,r,h1,h2,h3,h4):=hk À j k C;let(o,c1,c2,_):=old c r h2;show#[c,o,h1,c1,À,h4]
  .let(c,r,h1,h2,h3,h4):=T.kid m q h h0 j k C;let(o,c1,c2,_):=old c r h2;show#[c,o,h1,c1,À,h4]
 .let(u,h1,h2,h3,_):=new a q ha;let(Y2,h5,z,h7,_):=new b r I;rw[h3,h7];show T.dis a b u Y2 h1 h5 À e
 .let(u,h1,h2,_):=new m q h;let(a,r,h3,h4,h5):=T.pred m u h1 v hv;let(o,c1,c2,F,_):=old a r h3;show#[a,o,c1,À,F.trans h5]
def QW{α:pZ}{xs:Fa}{x:α}{m:V}{y:α}(h:(xs++[x])[m]?>y):(m=ŧ/\y=x)∨cI5 m>y:=by
 obtain q|q:=Bf m ŧ
 .rw[Ag q]at h;show ċ h
 .rw[Ap q]at h;by_cases e:m-ŧ=0
  .rw[e]at h;simp at h;show ë #[À,h.symm]
  .rw[Cr Β]at h;cases h
def XV{α:pZ}{xs:Fa}{x:α}{m:V}{y:α}(h:cI5 m>y):(xs++[x])[m]?>y:=Æ (Ag bf2) h
def QM{α:pZ}{xs:Fa}{m:V}{y:α}(h:cI5 m>y):m<ŧ:=bf2
def qi(bg:Bg)(l:V)(k:Ć):Bg:=cI1 i i l k^bg i
def gG{bg:Bg}{l:V}{k:Ć}{i:V}(h:i<l):qi bg l k i=bg i:=hp qi ec
def JN{l:V}{k:Ć}:qi bg l k l=k:=hp qi pv
variable{S:Sh}{bg:Bg}{n:V}{p P:Pg}
def j9(h3:1<=ϕ):P.ks[IY]?>P4:=by
 have:IY<ϕ:=aX8 mid
 ext XJ;rw[Ck,Ab this];rfl
def zh{ks:Ĥ}(h:m5){i j:V}{x y:Int}(hi:Ů ks>x)(e:Iq ks>y)(c:i<j):x<y:=by let(a,Y):=Ac.mp hi;let(b,Y):=Ac.mp e;show List.pairwise_iff_getElem.mp h i j a b c
def Rq(ok:bJ9 ϕ P)(h3:3<=ϕ):ltB Ų P4:=by intro v hv;let h0:P.ks[0]?>(P.ks[0]' À):=Ab _;let a:=ok.low _ (B7 (À:0<ϕ)) v hv;let b:=zh ok.sorted h0 (bZ4 P P)^aX8 mid;lia
def Qp1(ok:bJ9 ϕ P)(h3:3<=ϕ)(j:ϕ<=S.O4+1)(l:V):bJ9 S.O4^Zk P l where
 sorted:=ok.sorted.sublist^List.take_sublist _ _
 few:=by exact hF ab5<=_;rw[A8];ext mid;lia
 parts:=aP3 (hF bZ5=⇑ab5+pH P.lv 0 0 1) A8 A8 ZR mid this
 low:=λ k a=>ok.low k^Bv a
 fK:=λ h k a=>ok.fK h k^Bv a
 high:=λ k a v hv=>by
  cases hv;let(i,hi,e):=Cm.mp a;simp only[Zk,List.getElem_take]at e;let c:i<IY:=by have:=hi;rw[P9<|(Zk P l).ks=ab5,A8]at this;lia
  show zh ok.sorted (i:=i) (ì e^Ab _) (bZ4 P P) c
 wide:=λ h hh=>ah8 hh^Rq ok h3
def QpX(ok:bJ9 ϕ P)(h3:3<=ϕ)(o:ϕ<=S.O4+1):JL S.O4 aB8 EZ where
 sorted:=ok.sorted.sublist^List.drop_sublist _ _
 few:=by exact hF cU0<=_;rw[Bq];ext ZR mid;split<;>lia
 parts:=aP3 (hF^P.ps.drop bz3=⇑cU0+pH P.lv 0 0 1) Bq Bq ZR mid this
 low:=λ k j v hv=>by
  cases hv;let(i,hi,e):=Cm.mp j;rw[P9<|(EZ).ks=cU0]at hi;let a:bz3+i<ϕ:=by rw[Bq]at hi;lia
  let c:P.ks[bz3+i]?>k:=by rw[<- e];rw[bs8];simp[Q6]
  obtain q|q:=Bf IY (bz3+i)
  .show bb8 (zh ok.sorted (bZ4 P P) c q)
  .have:IY=bz3+i:=by unfold ZR at q ⊢;split<;>simp_all<;>lia
   rw[<- this,bZ4 P P]at c;cases c;lia
 fK:=λ h k j v hv=>by
  cases hv;let(i,hi,e):=Cm.mp j;rw[P9<|(EZ).ks=cU0]at hi;let a:bz3+i<ϕ:=by rw[Bq]at hi;lia
  let c:P.ks[bz3+i]?>k:=by rw[<- e];rw[bs8];simp[Q6]
  let h':0<P.lv:=h;show zh ok.sorted (bZ4 P P) c (by ext ZR;rw[ec];lia)
 high:=λ k j=>ok.high k^Cb j
 wide:=λ h hh v hv=>ah8 hv^ok.high _ (Aw^bZ4 P P) h hh
def Tree.split(T:nj){x y:Int}(hn:fI>p)(hl:P.lv=p.lv)(hh:P.hi=p.hi)(hs:P.sd=p.sd)(ok:bJ9 ϕ P)(h1:S.O4<ϕ)(h2:ϕ<=S.O4+1)
  (hk:bs3->∀j k,Iq P.ps>k->Ti c V q (k=aU4/\ú c>q/\q.lv+1=p.lv/\bZ3=JA Ų P.ks j)) :
  Tree (bX5 S pg ((cp2).set n NI) rd wr y)^qi bg Ô aB8/\aA9 S (bX5 S pg ((cp2).set n NI) rd wr y)^qi bg Ô aB8:=by
 let r2:=T.bf;let h3:3<=ϕ:=À
 let aa:=al4;let kg:=bZ4 P P;let kl:=Rq ok h3;let kh:∀h,p.hi>h->P4<h:=λ h e=>ok.high _ (Aw kg) h^dj9 e;let bo:∀m q,TM>q->qi bg Ô aB8 m=bg m:=λ m q h=>gG^QM h;let old:MJ m q<|TM>q->∃O:Pg,((cp2).set n NI)[m]?>O/\O.lv=q.lv/\(m≠n->O=q)/\(m=n->O=NI):=λ m q h=>by
  apply#[_,D7 (XV h),?_,λ e=>Ϻ EF,λ e=>Ϻ PM];by_cases e:m=n
  .subst e;rw[hn]at h;cases h;rw[pv];show hl
  .rw[EF]
 let gl:((cp2).set n NI)[Ô]?>EZ:=bw2 (Ak À) bh7
 let gn:ID^(cp2).set n NI>NI:=Ϻ^As Β
 let new:MJ m q<|((cp2).set n NI)[m]?>q->(m=n/\q=NI)∨(m=Ô/\q=EZ)∨(m≠n/\TM>q):=λ m q h=>by
  obtain⟨a,b,_⟩|⟨a,b⟩:=Q4 h
  .show ë #[a,b]
  .obtain c|c:=QW b
   .show aU9 c
   .show wZ #[a,c]
 let rD:(NI).lv=p.lv:=hl;let L:(EZ).lv=p.lv:=hl;apply#[#[r2,?_,?_,dv7 q,dv7 q,λ m q h h0 j k hj=>?_,λ a b q r ha I F e=>?_,λ m q h v hv=>?_],#[λ m q h=>#[bo m q h,by let(O,a,b,_):=old m q h;show#[O,a,b]]]]
 .let(r,a,b):=T.root;let(r',c,d,_):=old _ _ a;apply#[r',c,dv7 q];obtain⟨_,Y⟩|⟨_,Y⟩|⟨_,h⟩:=new m q h
  .rw[rD,d];show b n p hn
  .rw[L,d];show b n p hn
  .rw[d];show b m q h
 .let(r,a,_):=T.root;rw[â (qi bg Ô aB8 S.top=bg S.top)^bo _ _ a];show T.mO
 .obtain⟨Y,Y⟩|⟨Y,Y⟩|⟨_,h⟩:=new m q h
  .rw[bo _ _ hn];show Qp1 ok h3 h2 _
  .rw[JN];show QpX ok h3 h2
  .rw[bo _ _ h];show mn m q h
 .obtain⟨Y,Y⟩|⟨Y,Y⟩|⟨_,h⟩:=new m q h
  .show ċ #[P4,Ô,EZ,Y,Y,gl,Y,JN]
  .obtain⟨a,b⟩|⟨z,s,r,a,b,c,d,e⟩:=ar9 n hn
   .show ë #[dj9 a,hs.trans b]
   .let(r',c1,c2,_):=old s r c;show ċ #[z,s,r',dj9 a,hs.trans b,c1,di3 c2 d L,bN2 _ _ c e]
  .obtain⟨a,b⟩|⟨z,s,r,a,b,c,d,e⟩:=T.link m q h
   .show ë #[a,b]
   .let(r',c1,c2,_):=old s r c;show ċ #[z,s,r',a,b,c1,Ϗ c2 d,bN2 _ _ c e]
 .let Y2:∀{b0:Ć}{Lr:Ĥ}{j0:V}{Q:Ć}{Lp:Ĥ}{l1:V},JA b0 Lr j0=JA Q Lp j->l1=p.lv->Ti c V q (k=aU4/\ú c>q/\q.lv+1=p.lv/\bZ3=JA b0 Lr j0)->Ti c V q (k=aU4/\((cp2).set n NI)[c]?>q/\q.lv+1=l1/\qi bg Ô aB8 c=JA Q Lp j):=λ{b0 Lr j0 Q Lp l1} e el aH=>by let(c,q,u,o,E,a4):=aH;let(O,c1,c2,_):=old c q o;show#[c,O,u,c1,À,di3 (bo _ _ o) a4 e]
  obtain⟨Y,Y⟩|⟨Y,Y⟩|⟨_,h⟩:=new m q h
  .rw[rD]at h0;let hc:bz3=IY+1:=hp ZR ec
   let a9:j<IY+1:=by have:=QM hj;rw[P9<|(NI).ps=bZ5,A8,hc]at this;lia
   let U:Iq P.ps>k:=by rw[P9<|(NI).ps=bZ5,B8 À]at hj;show hj
   apply Y2 ?_ rD^hk h0 j k U;rw[bo _ _ hn];cases j with
   |zero=>rfl
   |succ i=>exact Ů P.ks=Ů ab5;rw[B8 À]
  .rw[L]at h0;let hc:bz3=IY+1:=hp ZR ec
   let U:P.ps[IY+1+j]?>k:=by rw[P9<|(EZ).ps=P.ps.drop bz3,Ca,hc]at hj;show hj
   apply Y2 ?_ L^hk h0 _ k U;rw[JN];cases j with
   |zero=>exact P.ks[IY+0]?>P4;show kg
   |succ i=>exact P.ks[IY+1+i]?=Ů cU0;rw[Ca,hc]
  .let(c,r,u,o,E,a4):=T.kid m q h h0 j k hj;let(r',c1,c2,_):=old c r o;show#[c,r',u,c1,À,di3 (bo _ _ o) (bo _ _ h) a4]
 .let on:MJ b r<|b≠n->ú b>r->IO r.lv->(∃h v,(NI).hi>h/\qi bg Ô aB8 b>v/\h<=v)∨(∃h v,r.hi>h/\qi bg Ô aB8 n>v/\h<=v):=λ b r R I mU=>by
   obtain⟨h,v,u,o,E⟩|⟨h,v,u,o,E⟩:=T.dis n b p r hn I mU (Ņ R)
   .show ë #[P4,v,Y,bN2 _ _ I o,İ (kh h u)]
   .show ċ #[h,v,u,bN2 _ _ hn o,E]
  let nn:MJ b r<|b≠n->ú b>r->IO r.lv->(∃h v,(EZ).hi>h/\qi bg Ô aB8 b>v/\h<=v)∨(∃h v,r.hi>h/\qi bg Ô aB8 Ô>v/\h<=v):=λ b r R I mU=>by
   obtain⟨h,v,u,o,E⟩|⟨h,v,u,o,E⟩:=T.dis n b p r hn I mU (Ņ R)
   .show ë #[h,v,dj9 u,bN2 _ _ I o,E]
   .show ċ #[h,P4,u,JN,İ (kl v o)]
  obtain⟨Y,Y⟩|⟨Y,Y⟩|⟨na,G⟩:=new a q ha
  .obtain⟨Y,Y⟩|⟨Y,Y⟩|⟨nb,C⟩:=new b r I
   .show cu8 e
   .show ë #[P4,P4,Y,JN,cM0]
   .show on b r nb C (dj0 F rD)
  .obtain⟨Y,Y⟩|⟨Y,Y⟩|⟨nb,C⟩:=new b r I
   .show ċ #[P4,P4,Y,JN,cM0]
   .show cu8 e
   .show nn b r nb C (dj0 F L)
  .obtain⟨Y,Y⟩|⟨Y,Y⟩|⟨nb,C⟩:=new b r I
   .show(on a q na G^Ϗ F rD).symm
   .show(nn a q na G^Ϗ F L).symm
   .obtain⟨h,v,u,o,E⟩|⟨h,v,u,o,E⟩:=T.dis a b q r G C F e
    .show ë #[h,v,u,bN2 _ _ C o,E]
    .show ċ #[h,v,u,bN2 _ _ G o,E]
 .let pr:MJ l z<|ú l>z->z.hi>v->Ti m V q (((cp2).set n NI)[m]?>q/\q.lv=z.lv/\q.hi>v):=λ l z hz hv=>by
   by_cases e:l=n
   .subst e;rw[hn]at hz;cases hz;show#[_,_,gl,L,dj9 hv]
   .let(z',c1,c2,c3,_):=old l z hz;show#[l,z',c1,c2,Æ (c3 e) hv]
  obtain⟨Y,Y⟩|⟨Y,Y⟩|⟨nm,h⟩:=new m q h
  .rw[bo _ _ hn]at hv;let(a,z,Q,b2,b3):=T.pred m p hn v hv;let(c,z',d1,d2,d3):=pr a z Q b3;show#[c,z',d1,di3 d2 b2 rD,d3]
  .rw[JN]at hv;show#[n,_,gn,Ϗ rD L,hv]
  .rw[bo _ _ h]at hv;let(a,z,Q,b2,b3):=T.pred m q h v hv;let(c,z',d1,d2,d3):=pr a z Q b3;show#[c,z',d1,Ϗ d2 b2,d3]
variable{S:Sh}{bg:Bg}{n:V}{p:Pg}
def Tree.raise(T:nj){r q:Pg}{k:V}{aim x y:Int}(P:an2>r)(Y2:ú k>q)(hl:q.lv=r.lv)(hb:bg k>aim):
  Tree { S with rd:=x,pg:=AR [aZ8 (r.lv+1) [aim] [mH,fw]],top:=Ô,wr:=y }^qi bg Ô none/\aA9 S { S with rd:=x,pg:=AR [aZ8 (r.lv+1) [aim] [mH,fw]],top:=Ô,wr:=y }^qi bg Ô none:=by
 let r2:=T.bf;let O:MJ m z<|TM>z->z.lv<=r.lv:=λ m z h=>by let(r',a,b):=T.root;rw[P]at a;cases a;show b m z h
 let bo:MJ m z<|TM>z->qi bg Ô none m=bg m:=λ m z h=>gG^QM h;let gl:(AR [(aZ8 (r.lv+1) [aim] [mH,fw]:Pg)])[Ô]?>(aZ8 (r.lv+1) [aim] [mH,fw]):=Ê
 apply#[#[r2,#[_,gl,dv7 z],JN,dv7 z,dv7 z,λ m z h h0 j c o=>?_,λ a b z L ha I C e=>?_,λ m z h v hv=>?_],#[λ m z h=>#[bo m z h,z,XV h,Y]]]
 .obtain⟨_,Y⟩|h:=QW h
  .show Ĕ
  .show bK0 (O m z h)
 .obtain⟨Y,Y⟩|h:=QW h
  .rw[JN]
   show#[Ê,mB (1<=S.O4),Ê,λ k Y2 v hv=>ď hv,λ_ k Y2 v hv=>ď hv,λ k Y2 v hv=>ď hv,az7 h hh hh]
  .rw[bo _ _ h];show mn m z h
 .obtain⟨Y,Y⟩|h:=QW h
  .show dn4
  .obtain a|⟨z1,s,z2,a,b,c,d,e⟩:=T.link m z h
   .show ë a
   .show ċ #[z1,s,z2,a,b,XV c,d,bN2 _ _ c e]
 .obtain⟨Y,Y⟩|h:=QW h
  .match j,o with
   |0,o=>cases o;show#[S.top,r,Y,XV P,Y,i3 (bo _ _ P) JN T.mO]
   |1,o=>cases o;show#[k,q,Y,XV Y2,mB (q.lv+1=r.lv+1),bN2 _ _ Y2 hb]
   |j+2,o=>simp at o
  .let(c',L,F,E,G,Q):=T.kid m z h h0 j c o
   show#[c',L,F,XV E,G,di3 (bo _ _ E) (bo _ _ h) Q]
 .obtain⟨Y,Y⟩|u:=QW ha
  .obtain⟨Y,Y⟩|i:=QW I
   .show cu8 e
   .have:=O b L i;have:r.lv+1=L.lv:=C;lia
  .obtain⟨Y,Y⟩|i:=QW I
   .have:=O a z u;have:z.lv=r.lv+1:=C;lia
   .obtain⟨h,v,F,E,G⟩|⟨h,v,F,E,G⟩:=T.dis a b z L u i C e
    .show ë #[h,v,F,bN2 _ _ i E,G]
    .show ċ #[h,v,F,bN2 _ _ u E,G]
 .obtain⟨Y,Y⟩|h:=QW h
  .rw[JN]at hv;cases hv
  .rw[bo _ _ h]at hv
   let(a,z1,R,U,b3):=T.pred m z h v hv;show#[a,z1,XV R,U,b3]
def GS{k:Int}(h:ÿ^JU p k):dt1:=λ v hv=>by unfold JU at h;rw[hv]at h;simp at h;lia
def QcP{O4:V}(ok:bJ9 O4 p)(hl:aQ4){k x:Int}(h1:bU8 k)(h2:dt1):bJ9 (gu^Q7 p k x)^Q7 p k x where
 sorted:=vw ok.sorted k
 few:=Ĕ
 parts:=by let a:=ok.parts;rw[C8 hl]at a;let b:=UY p.ks k;let c:=bm1 k;exact hF (ab9 sU++x::ah9 TN)=⇑(se sU++k::dL k)+pH p.lv 0 0 1;rw[C8 hl];simp only[Am,A9,A8,Bq];lia
 low:=λ y e=>by
  obtain Y|e:=aS9 e
  .show h1
  .show ok.low y e
 fK:=λ h=>A3 bs3 h
 high:=λ y e=>by
  obtain Y|e:=aS9 e
  .show h2
  .show ok.high y e
 wide:=ok.wide
def UP{O4:V}(ok:bJ9 O4 p){k x:Int}:gu^Q7 p k x<=O4+1:=by let b:=UY p.ks k;let c:=bm1 k;let d:=P_ p.ks k;let e:=ok.few;exact hF (se sU++k::dL k)<=_;simp only[Am,A9,A8,Bq];lia
def Qeb{O4:V}(ok:bJ9 O4 p)(hl:aQ4){k:Int}:bJ9 O4^Tq k where
 sorted:=Qde ok.sorted k
 few:=by let b:=UY p.ks k;let c:=bm1 k;let d:=P_ p.ks k;let e:=ok.few;exact hF (se sU++dL k)<=_;simp only[Am,A8,Bq];lia
 parts:=by let a:=ok.parts;rw[C8 hl]at a;let b:=UY p.ks k;let c:=bm1 k;exact hF (ab9 sU++ah9 TN)=⇑(se sU++dL k)+pH p.lv 0 0 1;rw[C8 hl];simp only[Am,A8,Bq];lia
 low:=λ y i=>ok.low y^Rl i
 fK:=λ h=>A3 bs3 h
 high:=λ y i=>ok.high y^Rl i
 wide:=ok.wide
def QkY(T:nj)(hn:fI>p){k:V}{q:Pg}{aim:Int}(x:ú k>q)(hl:q.lv+1=p.lv)(v:bg k>aim)(C:bF S k):aim∉p.ks/\Ų≠í aim:=by
 let ok:=cw9;let h0:bs3:=À
 let pl:=ok.parts;rw[ec]at pl;let key:∀j,de3 j>aim->j<fA->False:=λ j e a=>by let(c,z,o,r,E,u):=dj8 n p h0 j _ bs8;have:c=k:=T.uniq r x À^di3 u e v;subst this;show C n p hn h0 (ì o bz5)
 apply#[N1 y,λ e=>key 0 e À];let(i,hi,e):=Cm.mp y;show key (i+1) (by exact Ů p.ks>aim;rw[bY6,e]) À
def xx{k:Int}{c:V}(h:k∉p.ks):(Zt p k c).ks=se sU++k::dL k:=AE (se TN++k::dL k=_)^M2 h
def Qea{O4:V}(ok:bJ9 O4 p)(hl:bs3){k:Int}{c:V}(i:k∉p.ks)(h1:ltB Ų k)(h2:dt1):bJ9 (gu^Zt p k c)^Zt p k c where
 sorted:=Æ (xx i)^vw ok.sorted k
 few:=Ĕ
 parts:=by let a:=ok.parts;rw[ec]at a;let d:=bm1 k;exact hF (ab9 (TN+1)++aU4::ah9 (TN+1))=⇑(se TN++k::dL k)+pH p.lv 0 0 1;rw[ec];simp only[Am,A9,A8,Bq];lia
 low:=λ y e=>by
  rw[xx i]at e;obtain Y|e:=aS9 e
  .show λ v hv=>bb8^h1 v hv
  .show ok.low y e
 fK:=λ h y e=>by
  rw[xx i]at e;obtain Y|e:=aS9 e
  .show h1
  .show ok.fK hl y e
 high:=λ y e=>by
  rw[xx i]at e;obtain Y|e:=aS9 e
  .show h2
  .show ok.high y e
 wide:=ok.wide
def KU{O4:V}(ok:bJ9 O4 p){k:Int}{c:V}:gu^Zt p k c<=O4+1:=by let d:=bm1 k;let e:=ok.few;exact hF (se TN++k::dL k)<=_;simp only[Am,A9,A8,Bq];lia
def Qbm(T:nj)(hn:fI>p){k:V}{q:Pg}{aim:Int}(C:ú k>q)(hl:q.lv+1=p.lv)(y:bg k>aim):
  ∀j c,Iq (Zt p aim k).ps>c->Ti c' V q (c=Ñ c'/\ú c'>q/\q.lv+1=p.lv/\bg c'=JA Ų (Zt p aim k).ks j):=by
 intro j c a;let ok:=cw9;let h0:bs3:=À
 let pl:=ok.parts;rw[ec]at pl;let d:=bm1 aim;let a:Iq (ab9 (nI+1)++fw::ah9 (nI+1))>c:=a;exact Ti c' V q<|c=Ñ c'/\ú c'>q/\q.lv+1=p.lv/\bg c'=JA Ų (se nI++aim::dL aim) j;let lt:⇑(ab9<|nI+1)=nI+1:=ĩ A8
 let x:⇑(se nI)=nI:=ĩ A8
 obtain h|h:=Bf j (nI+1)
 .rw[Ag À,B8 h]at a
  let(c',z,o,r,u,v):=dj8 n p h0 j c a;apply#[c',z,o,r,u,?_];rw[v];cases j with
  |zero=>rfl
  |succ i=>exact Ů p.ks=Ů (se nI++aim::dL aim);rw[Ag À,B8 À]
 .rw[aL1,lt]at a
  obtain h2|h2:=Bf (nI+1) j
  .obtain⟨i,Y⟩:∃i,j=nI+2+i:=#[j-(nI+2),À]
   rw[ī<|nI+2+i-(nI+1)=i+1,List.getElem?_cons_succ,Ca]at a;let(c',z,o,r,u,v):=dj8 n p h0 _ c a;apply#[c',z,o,r,u,?_];rw[v];rw[ī<|nI+1+i=(nI+i)+1,ī<|nI+2+i=(nI+1+i)+1];exact p.ks[nI+i]?=(se nI++aim::dL aim)[nI+1+i]?;rw[aL1,x,ī<|nI+1+i-nI=i+1,List.getElem?_cons_succ,Ca]
  .let e:j=nI+1:=À
   subst e;rw[ī<|nI+1-(nI+1)=0]at a;cases a;apply#[k,q,Y,C,hl,?_];rw[y];exact í aim=(se nI++aim::dL aim)[nI]?;rw[aL1,x];simp
#where
structure All(S:Sh)(bg:Bg)(ws:aU3):ä where
 ok:bT i w Wk<|aI2>w->d9->cy6
 mC:∀(i:V)(w:Wk)(k:V),aI2>w->d9->cg0->w.O1>k->bF S k
 diff:∀(i j:V)(w v:Wk)(k:V),i≠j->aI2>w->Iq ws>v->d9->af4->cg0->0<v.O6->w.O1>k->v.O1≠í k
structure j_(S:Sh)(bg:Bg)(w:Wk)(S':Sh)(aP:Bg)(w':Wk):ä where
 tree:Tree S' aP
 grow:aI8
 Du:G2->aR S' aP w'
 mC:∀k v,bF S k->bg k>v->(cg0->w.O1≠í k)->bF S' k
 new:∀k,G2->0<w'.O6->w'.O1>k->bF S' k/\((cg0/\w.O1>k)∨Ô<=k)
 O4:S'.O4=S.O4
 len:LC<=Ô+1
def All.step{ws:aU3}{i:V}{w w':Wk}(A:All S bg ws)(hi:aI2>w)(hw:d9)(st:j_ S bg w S' aP w'):All S' aP aD4 where
 ok:=λ j v L hv=>by
  obtain⟨Y,Y,_⟩|⟨_,h⟩:=Q4 L
  .show st.Du hv
  .show(A.ok j v h hv).grow st.grow
 mC:=λ j v k L hv z o=>by
  obtain⟨Y,Y,_⟩|⟨e,h⟩:=Q4 L
  .show(st.new k hv z o).1
  .let(k',q,C,P,a3,a4):=(A.ok j v h hv).tell z;rw[o]at C;cases C;show st.mC k _ (A.mC j v k h hv z o) a4 λ g0=>(A.diff j i v w k e h hi hv hw z g0 o)
 diff:=λ a b u v k e ha R O hv F G o r=>by
  let key:bT c x Wk<|c≠i->ws[c]?>x->ÿ x.O7->0<x.O6->x.O1>k->G2->0<w'.O6->w'.O1>k->False:=λ c x hc hx U z o I Y2 r=>by
   obtain⟨g0,n0⟩|l:=(st.new k I Y2 r).2
   .show A.diff c i x w k hc hx hi U hw z g0 o n0
   .let(k',q,C,P,_):=(A.ok c x hx U).tell z;rw[o]at C;cases C;have:=QM P;lia
  obtain⟨Y,Y,_⟩|⟨ea,E⟩:=Q4 ha
  .obtain⟨Y,Y,_⟩|⟨Q,y⟩:=Q4 R
   .show e Y
   .show key b v Q y hv G r O F o
  .obtain⟨Y,Y,_⟩|⟨Q,y⟩:=Q4 R
   .show key a u ea E O F o hv G r
   .show A.diff a b u v k e E y O hv F G o r
def All.put{ws:aU3}{i:V}{w:Wk}(A:All S bg ws)(h1:Ŷ)(h2:w.O5=[])(h3:w.O6=0):All S bg^zg w where
 ok:=λ j v o hv=>by
  obtain⟨Y,Y,_⟩|⟨_,h⟩:=Q4 o
  .show aR.fresh h1 h2 h3
  .show A.ok j v h hv
 mC:=λ j v k o hv z r=>by
  obtain⟨Y,Y,_⟩|⟨_,h⟩:=Q4 o
  .lia
  .show A.mC j v k h hv z r
 diff:=λ a b u v k e ha c C hv x y r=>by
  obtain⟨Y,Y,_⟩|⟨_,ha⟩:=Q4 ha
  .lia
  .obtain⟨Y,Y,_⟩|⟨_,c⟩:=Q4 c
   .lia
   .show A.diff a b u v k e ha c C hv x y r
def Tree.rd{S:Sh}(T:nj)(x y:Int):ł^ĝ S rd x wr y:=#[T.bf,T.root,T.mO,T.page,T.link,T.kid,T.dis,T.pred]
variable{S:Sh}{bg:Bg}{n:V}{p P:Pg}{w:Wk}
def bF.set{S:Sh}{n:V}{p P:Pg}{k:V}{x y:Int}(h:bF S k)(hn:fI>p)(hl:P.lv=p.lv)(e:bs3->cX6 fw->fw∈p.ps):bF (bX5 S pg (sW n P) rd wr y) k:=λ m q a h0 c=>by
 obtain⟨Y,Y,_⟩|⟨_,a⟩:=Q4 a
 .show h m p hn À (e À c)
 .show h m q a h0 c
def bF.halves{S:Sh}{n:V}{p P:Pg}{k l:V}{x y:Int}(h:bF S k)(hn:fI>p)(hl:P.lv=p.lv)(i:bs3->cX6 fw->fw∈p.ps):bF (bX5 S pg ((cp2).set n^Zk P l) rd wr y) k:=λ m q a h0 e=>by
 obtain⟨Y,Y,_⟩|⟨_,a⟩:=Q4 a
 .let c:0<P.lv:=h0;show h m p hn À (i À^Bv e)
 .obtain⟨Y,Y⟩|a:=QW a
  .let c:0<P.lv:=h0;show h n p hn À (i À^Cb e)
  .show h m q a h0 e
def Tree.iV(T:nj){k:V}(h:Ô<=k):bF S k:=λ m q u h0 r=>by
 let(j,o,e):=Cm.mp r;let(c,z,a,i,_):=T.kid m q u h0 j _ (Ab o);rw[e]at a;have:k=c:=À
 have:=QM i;lia
def kJ(T:nj)(hn:fI>p)(hl:P.lv=p.lv)(hh:P.hi=p.hi)(hs:P.sd=p.sd)(ok:bJ9 ϕ P)(h2:ϕ<=S.O4+1)
  (hk:bs3->∀j k,Iq P.ps>k->Ti c V q (k=aU4/\ú c>q/\q.lv+1=p.lv/\bZ3=JA Ų P.ks j))
  (W:cy6) (hw:d9) (hpl:AH n∨Ŷ) (hg:IO w.O6) (hsub:∀k:V,bs3->cX6 fw->fw∈p.ps∨(cg0/\w.O1>k)) :
  ∃aP,j_ S bg w ck1.1 aP ck2:=by
 ext QH;by_cases hr:ϕ<=S.O4
 .rw[C8 hr];let(T',G):=T.write (x:=S.rd) (y:=S.wr+1) (p':=P) hn hl hh hs #[ok.sorted,hr,ok.parts,ok.low,ok.fK,ok.high,ok.wide] hk;apply#[bg,T',G,bF2,λ k v hu hb I=>hu.set hn hl^Ż h0 R,az7 k h h,Y,Ê];obtain a|⟨a,b⟩:=hsub k h0 R
  .show a
  .show Ė b (I a)
 .rw[C7 hr];let(T',G):=T.split (x:=S.rd) (y:=S.wr+1+1) hn hl hh hs ok À h2 hk;let r2:=T.bf;let kl:=Rq ok À;let gl:((cp2).set n NI)[Ô]?>EZ:=bw2 (Ak^İ al4) bh7
  let R7:∀f,wf (p.lv+1)>f->AH n:=λ f hf=>by
   obtain h|h:=hpl
   .show h
   .have:=dk0 h _ f;lia
  apply#[_,T',G,dg7,λ k v hu hb I=>hu.halves hn hl^Ż h0 R,λ k _ _ e=>?_,Y,Ê]
  .let aa:P.lv=w.O6:=hl.trans hg;apply#[Ż f hf,mo o l f hf,ľ l f hf,λ f q hf hq l E i Q=>?_,λ l f l' E hf i a b=>?_,λ f q hf hq Q=>?_,λ f q hf hq l' E i l a b=>?_,λ_=>#[Ô,EZ,Y,gl,Y,JN]]
   .let hf:wf (P.lv+1)>f:=hf;rw[hl]at hf;let(q,r,F):=OZ _ hf;let(e,Y2,C,U):=G.old f q r;apply#[Y2,C,?_,?_]
    .exact P.lv+1<=Y2.lv;lia
    .rw[e];intro v hv;let(u,O,b2):=W.above n p (R7 f hf) hn _ f hf À v hv;have:=kl u O;exact v<=P4;lia
   .let o:ų<|wf<|P.lv+1:=o;exact l<P.lv+1;obtain h|h:=Bf l (P.lv+1)
    .show h
    .exfalso;obtain J|J:=hpl
     .let(f0,sY):=W.full n p J hn l f hf (P.lv+1) À h;rw[o]at sY;cases sY
     .have:=dk0 J l f;lia
   .let(q,r,F):=OZ l hf;let(e,Y2,C,U):=G.old f q r;show#[Y2,C,À]
   .let hf:wf (P.lv+1)>f:=hf;let(L,r,F):=OZ _ hf;let(q1,O,b2):=W.kept _ E i;let(e,Y2,C,U):=G.old f L r;rw[e,(G.old E q1 O).1];rw[C]at hq;cases hq;show W.chain _ f l E hf i À À
   .let(L,r,F):=OZ _ hf;let(q1,O,b2):=W.kept _ E i;rw[(G.old f L r).1,(G.old E q1 O).1];let a:P.lv+1<=l:=a;show W.chain l f l' E hf i À b
   .let hf:wf (P.lv+1)>f:=hf;let(L,r,F):=OZ _ hf;let(e,Y2,C,U):=G.old f L r;let a9:P.lv+1<q.lv:=Q;rw[C]at hq;cases hq;lia
   .let hf:wf (P.lv+1)>f:=hf;let(L,r,F):=OZ _ hf;let(e,Y2,C,U):=G.old f L r;rw[C]at hq;cases hq;rw[hl]at hf;show W.full n p (R7 f hf) hn l' E i l À b
  .obtain a|⟨a,b⟩:=hsub k h0 R
   .show a
   .show Ė b (I a)
  .let e:Ô=k:=Aj e;subst e;apply#[(T.iV Ĕ).halves hn hl (Ż h0 R),ċ Ĕ];let(j,hj,e):=Cm.mp R;let(c,z,r,F,_):=hk h0 j _ (Ab hj);rw[e]at r;have:Ô=c:=À
   have:=QM F;lia
variable{S:Sh}{bg:Bg}{n:V}{p:Pg}{w:Wk}
def QgK{ks:Ĥ}(h:m5){k x:Int}{i:V}(hi:i<mh)(hx:Ů ks>x):x<=k:=by
 let e:Ů^LB mh>x:=Æ (B8 hi) hx
 rw[(zI h k).1]at e;simpa using ao0 cY4
def Sz(T:nj)(W:cy6)(i:AH n∨Ŷ)(hn:fI>p)(Q:cI8){s:V}{q:Pg}{h:Int}(hh:p.hi>h)(r:ú s>q)(hl:q.lv=p.lv)(C:bg s>h){w':Wk}(e1:w'.place>s)(j:w'.O5=w.O5)(y:w'.O6=w.O6)(O:h<=w'.aim)(P:cg0->w'.O1=w.O1/\w'.aim=w.aim):cy5 w' where
 at_:=λ m c=>IX e1 c c #[q,r,À,λ v hv=>IX C hv hv O]
 none_:=λ c=>į e1 c c
 kept:=λ l f hf=>OZ l<|j▸hf
 above:=λ m z c hz l f hf x=>by
  rw[e1]at c;cases c;rw[r]at hz;cases hz;rw[j]at hf;obtain J|J:=i
  .apply à (W.above n p J hn l f hf À)^λ v hv=>#[h,C,?_];have:=(cw9).wide h hh v hv;lia
  .have:=dk0 J l f;lia
 chain:=λ l f u o hf e a b=>W.chain l f u o (j▸hf) (j▸e) (y▸a) b
 gap:=λ m z c hz x l f hf=>by
  rw[e1]at c;cases c;rw[r]at hz;cases hz;rw[j]at hf;obtain J|J:=i
  .obtain a|a:=W.gap n p J hn À l f hf
   .show ë À
   .show ċ À
  .show ë (İ^dk0 J l f)
 full:=λ m z c hz u o e l a b=>by
  rw[e1]at c;cases c;rw[r]at hz;cases hz;rw[j]at e ⊢;obtain J|J:=i
  .show W.full n p J hn u o e l À b
  .have:=W.none_ J u o e;lia
 tell:=λ h0=>by rw[y]at h0 ⊢;let(k,z,E,F,G,I):=W.tell h0;let(Y2,L):=P h0;show#[k,z,Y2.trans E,F,G,Æ L I]
def Qmk(T:nj)(W:cy6)(E:AH n∨cH6 n)(hn:fI>p)(P:bs4){c:V}{q:Pg}(F:ú c>q)(hl:q.lv+1=p.lv)(I:bZ3=de3 ad7):cy5^ĝ w O5 (xM w.O5 p.lv n) place cF5:=by
 let ok:=cw9;let Y2:d8 Ų bZ3:=by
  rw[I];cases e:ad7 with
  |zero=>show d8.refl _
  |succ i =>
   intro v hv;let hi:i<μ:=İ^bm1 w.aim
   apply#[p.ks[i],bY6,bb8 (ok.fK À _ (B7 hi) v hv)]
 let Q:cX0:=by
  obtain J|⟨_,Y⟩:=E
  .let(p',R,U,L):=cU3
   show L
  .intro v hv;rw[T.mO]at hv;cases hv
 let O:leB bZ3 w.aim:=by
  rw[I];cases e:ad7 with
  |zero=>show Q
  |succ i=>intro v hv;show QgK ok.sorted À hv
 let old:∀l f,wf l>f->l≠p.lv->PP l∨(p.lv<l/\AH n):=λ l f hf j=>by
  obtain J|⟨J,_⟩:=E
  .obtain a|a:=W.gap n p J hn P l f hf
   .show ë a
   .show cQ4 a J
  .show ë (dk0 J l f)
 let C:∀l f,XE (xM w.O5 p.lv n) l>f->(l=p.lv/\f=n)∨(l≠p.lv/\wf l>f):=λ l f hf=>by
  rw[jp]at hf;by_cases e:l=p.lv
  .rw[PM]at hf;cases hf;show ë (mi e)
  .rw[EF]at hf;show cQ4 e hf
 apply#[Ż m u,bv0 u u,ľ l f hf,λ m z u hz l f hf G=>?_,λ l f x o hf r a b=>?_,λ m z u hz G l f hf=>?_,λ m z u hz x o r l a b=>?_,W.tell]
 .cases u
  apply#[q,F,?_,O];exact cI7 q.lv;lia
 .obtain⟨Y,Y⟩|⟨_,h⟩:=C l f hf
  .show#[p,hn,Y]
  .show OZ l h
 .cases u
  rw[F]at hz;cases hz;obtain⟨Y,Y⟩|⟨j,h⟩:=C l f hf
  .show Y2
  .obtain a|⟨a,J⟩:=old l f h j
   .lia
   .show à (W.above n p J hn l f h a) Y2
 .let a:cI7 l:=a
  obtain⟨Y,Y⟩|⟨j,h⟩:=C l f hf
  .obtain⟨Y,Y⟩|⟨y,h'⟩:=C x o r
   .lia
   .obtain c1|⟨c1,J⟩:=old x o h' y
    .lia
    .show W.above _ p J hn x o h' c1
  .obtain⟨Y,Y⟩|⟨y,h'⟩:=C x o r
   .obtain c1|⟨c1,J⟩:=old l f h j<;>lia
   .show W.chain l f x o h h' a b
 .cases u
  rw[F]at hz;cases hz;exact PP l∨_;obtain⟨Y,Y⟩|⟨j,h⟩:=C l f hf
  .show ċ À
  .obtain c1|⟨c1,J⟩:=old l f h j
   .show ë c1
   .show ċ À
 .cases u
  rw[F]at hz;cases hz;by_cases e:l=p.lv
  .show#[n,Ϗ jp PM]
  .obtain⟨Y,Y⟩|⟨j,h⟩:=C x o r
   .lia
   .obtain c1|⟨c1,J⟩:=old x o h j
    .lia
    .let(f,hf):=W.full n p J hn x o h l À b
     show#[f,i3 jp EF hf]
def j_.wR{a:Sh}{c:Bg}{w':Wk}{x y:Int}(h:j_ (ĝ S rd x wr y) bg w a c w'):j_ S bg w a c w':=#[h.tree,#[h.grow.old],h.Du,h.mC,h.new,h.O4,h.len]
def j_.still(T:nj){w':Wk}{x y:Int}(c:cg0->∀k,w.O1>k->bF S k)(h:G2->cy5 w'/\(w'.O6=w.O6/\(cg0->w'.O1=w.O1))):j_ S bg w (ĝ S rd x wr y) bg w' where
 tree:=T.rd x y
 grow:=#[λ n p h=>#[Y,p,h,Y]]
 Du:=λ e=>let W:=(h e).1;#[W.at_,W.none_,W.kept,W.above,W.chain,W.gap,W.full,W.tell]
 mC:=λ k v c _ _=>c
 new:=λ k e g0 a=>by let(_,e1,i):=h e;rw[e1]at g0;rw[i g0]at a;show#[c g0 k a,ë #[g0,a]]
 O4:=Y
 len:=sk
def aR.rd(W:cy6)(x y:Int):OY (ĝ S rd x wr y) w:=#[W.at_,W.none_,W.kept,W.above,W.chain,W.gap,W.full,W.tell]
def DU(T:nj)(W:cy6)(hw:d9)(I:cg0->∀k,w.O1>k->bF S k):∃r S' w' Q,Xp S w>(r,S',w')/\j_ S bg w S' Q w':=by
 obtain⟨n,ae,j⟩:∃n,ó=n/\(AH n∨cH6 n):=by
  cases e:w.place with
  |none=>show#[S.top,Y,ċ rg]
  |some m=>show#[m,Y,ϊ]
 obtain⟨p,hn⟩:∃p,fI>p:=by
  obtain J|⟨_,Y⟩:=j
  .let(p,a,_):=cU3;show#[p,a]
  .let(p,a,_):=T.root;show#[p,a]
 let i:AH n∨Ŷ:=j.imp id And.left;let ok:=cw9;let la:cX0:=by
  obtain J|⟨_,Y⟩:=j
  .let(p',E,F,O):=cU3
   show O
  .intro v hv;rw[T.mO]at hv;cases hv
 ext Xp;rw[C7^ψ hw,ae];simp only[hn];by_cases hr:cn6
 .rw[C8 hr]
  let a9:aK2 n:=by
   obtain J|⟨_,e⟩:=j
   .rw[hr.1]at J;cases J
   .show e
  subst a9;let(k,q,E,F,O,L):=W.tell À;simp only[E];let DR:q.lv<=p.lv:=by let(r,R,b2):=T.root;rw[hn]at R;cases R;show b2 k q F
  let(T',G):=T.raise (x:=dc3) (y:=S.wr+1) hn F À L;apply#[_,_,_,_,Y,T',G,bF2,λ C v Y2 u ar m z o h0 U=>?_,az7 C h h,Y,Ê];obtain⟨Y,Y⟩|o:=QW o
  .let aa:Ñ C=mH∨Ñ C=fw:=Ë U
   obtain e|e:=aa
   .have:aK2 C:=À
    subst this;rw[T.mO]at u;cases u
   .have:C=k:=À
    subst this;show ar À E
  .show Y2 m z o h0 U
 .rw[C7 hr]
  let hg:cI8:=by
   obtain J|⟨J,_⟩:=j
   .let(p',R,b2,_):=cU3
    rw[hn]at R;cases R;show b2
   .show Cs λ h=>hr #[J,h]
  cases u:cC1 with
  |true =>
   rw[pv];obtain⟨a,b⟩|⟨h,s,q,a,b,c,d,e⟩:=ar9 n hn
   .unfold JU at u;rw[a]at u;cases u
   .simp only[b]
    let ha:h<=w.aim:=by unfold JU at u;rw[a]at u;simpa using u
    show#[_,_,_,bg,Y,bv1 I (λ_=>#[Sz T W i hn hg a c d e Y Y Y ha λ_=>rg,Y,cJ7])]
  |false =>
   let lh:=GS u;rw[av7];by_cases hd:bs4
   .rw[C8 hd]
    let pl:=ok.parts;rw[ec]at pl;let hc:ad7<fA:=İ^bm1 w.aim
    let(c,q,E,F,O,L):=dj8 n p À _ _ (Ab hc);rw[Ab hc,E];simp only[Bz];show#[_,_,_,bg,Y,bv1 I (λ_=>#[Qmk T W j hn hd F O L,Y,cJ7])]
   .rw[C7 hd]
    let mU:IO w.O6:=À
    by_cases h0:cg0
    .rw[C8 h0]
     let(k,q,E,F,O,L):=W.tell h0;simp only[E];let(n1,n2):=QkY T hn F À L (I h0 k E);let lt:ltB Ų w.aim:=λ v hv=>by have:=la v hv;have:v≠w.aim:=λ e=>n2^Ϗ hv e;lia
     let(Q,st):=kJ (S:=ĝ S rd dc3 wr S.wr) (P:=E1 p k) (T.rd _ _) hn Y Y Y (Qea ok À n1 lt lh) (KU ok) (λ_=>Qbm T hn F À L) (W.rd _ _) hw i mU (λ C _ o=>by
      obtain o|o:=CB o
      .show ë (Bv o)
      .obtain e|o:=ny o
       .have:C=k:=À
        subst this;show cQ4 h0 E
       .show ë (Cb o))
     show#[_,_,_,Q,Y,st.wR]
    .rw[C7 h0]
     let hz:aQ4:=À
     let g0:w.O6=0:=À
     ext J0;cases aw:w.O2 with
     |find k=>show#[_,_,_,bg,Y,bv1 I bF2]
     |put k x=>let W1:OY (ĝ S rd dc3 wr S.wr) ({ O2:=.put k x,aim:=w.aim,O6:=w.O6,place:=w.place,O5:=w.O5,O1:=w.O1,O3:=aF3,pairs:=w.pairs,O7:=w.O7 }:Wk):=#[W.at_,W.none_,W.kept,W.above,W.chain,W.gap,W.full,W.tell];let(Q,st):=kJ (S:=ĝ S rd dc3 wr S.wr) (w:=({ O2:=.put k x,aim:=w.aim,O6:=w.O6,place:=w.place,O5:=w.O5,O1:=w.O1,O3:=aF3,pairs:=w.pairs,O7:=w.O7 }:Wk)) (P:=ds1) (T.rd _ _) hn Y Y Y (QcP ok hz la lh) (UP ok) (λ h=>À) W1 hw i mU (λ C h=>À);show#[_,_,_,Q,Y,#[st.tree,#[st.grow.old],st.Du,st.mC,st.new,st.O4,st.len]]
     |cut k =>
      dsimp only;by_cases hs:(aN7 aF3)
      .rw[C8 hs]
       let(T',G):=T.write (x:=dc3) (y:=S.wr+1) (p':=az0) hn Y Y Y (Qeb ok hz) (λ h=>À);show#[_,_,_,bg,Y,T',G,bF2,λ C v Y2 _ _=>Y2.set hn Y λ h=>À,az7 C h h,Y,Ê]
      .rw[C7 hs]
       show#[_,_,_,bg,Y,bv1 I bF2]
     |stretch l h =>
      dsimp only;obtain⟨a,b⟩|⟨x,s,q,a,b,c,d,e⟩:=ar9 n hn
      .simp only[a,b]
       show#[_,_,_,bg,Y,bv1 I bF2]
      .simp only[a,b]
       by_cases hx:h<=x
       .rw[C8 hx]
        show#[_,_,_,bg,Y,bv1 I bF2]
       .rw[C7 hx]
        show#[_,_,_,bg,Y,bv1 I (λ_=>#[Sz T W i hn hg a c d e Y Y Y cM0 (λ z=>À),Y,cJ7])]
#where
def dZ:Ć->wP Ć
 |none,some _=>true
 |some v,some u=>Af v u
 |_,none=>false
def YH{a b c:Ć}(h:Ĭ^dZ a b)(g:Ĭ^dZ b c):Ĭ^dZ a c:=by cases a<;>cases b<;>cases c<;>simp_all [dZ];lia
def XZ(a:Ć):ÿ^dZ a a:=by cases a<;>simp[dZ]
def Uv{b:Ć}{h:Int}(w:ltB b h):Ĭ^dZ b^í h:=by
 cases b with
 |none=>rfl
 |some v=>simpa [dZ]using w v Y
def SH{α:pZ}(p q:wP α):∀l:Fa,IQ x l (Ĭ^q x->Ĭ^p x)->IC q<=IC p:=by
 intro i;induction i with
 |nil=>intro _;show Ĕ
 |cons x l c =>
  intro h;let c:=c λ y e=>bU1 y e;let hx:=h x Ê;by_cases a:(Ĭ^q x)
  .simp[Ar,a,hx a,c]
  .by_cases b:(Ĭ^p x)
   .simp[Ar,a,b];lia
   .simp[Ar,a,b,c]
def yN{α:pZ}(p q:wP α):∀l:Fa,IQ x l (Ĭ^q x->Ĭ^p x)->(∃a∈l,Ĭ^p a/\ÿ^q a)->IC q<IC p:=by
 intro i;induction i with
 |nil=>intro _ h;let(a,h,_):=h;cases h
 |cons x l e =>
  rintro h ⟨a,ha,pa,qa⟩;let le:=SH p q l λ y c=>bU1 y c;obtain Y|ha:=ny ha
  .simp[Ar,pa,qa];lia
  .let e:=e (λ y c=>bU1 y c) #[a,ha,pa,qa]
   let hx:=h x Ê;by_cases a:(Ĭ^q x)
   .simp[Ar,a,hx a];lia
   .by_cases b:(Ĭ^p x)
    .simp[Ar,a,b];lia
    .simp[Ar,a,b];lia
inductive Chain(S:Sh):V->ι ź
 |last {n:V} {p:Pg}:fI>p->bO7->bb9 n [n]
 |next {n:V} {p:Pg} {s:V} {r:ź}:fI>p->p.sd>s->bb9 s r->bb9 n (n::r)
variable{S:Sh}{bg:Bg}
def GD(T:nj){n s:V}{p:Pg}(hn:fI>p)(i:p.sd>s):∃h q,p.hi>h/\ú s>q/\q.lv=p.lv/\bg s>h/\Ĭ^as0 Ų s:=by
 obtain⟨_,b⟩|⟨h,s',q,a,b,c,d,e⟩:=ar9 n hn
 .rw[i]at b;cases b
 .rw[i]at b;cases b;show#[h,q,a,c,d,e,Æ e (Uv^(cw9).wide h a)]
def mu(S:Sh)(bg:Bg)(n:V):V:=cT5^λ m=>as0 Ų m
def Qie(T:nj):∀(m n:V)(p:Pg),mu S bg n<m->fI>p->∃r,bb9 n r:=by
 intro u;induction u with
 |zero=>intro _ _ h _;lia
 |succ m o =>
  intro n p h hn;cases a:p.sd with
  |none=>show#[_,.last hn a]
  |some s =>
   let(x,q,v,c,z,C,e):=GD T hn a;have:mu S bg s<mu S bg n:=by apply yN _ _ _ (λ y _ j=>YH e j) #[s,bh5 (QM c),e,XZ _]
   let(r,i):=o s q À c;show#[_,.next hn a i]
def Chain.facts(T:nj){n:V}{r:ź}(c:bb9 n r):∀p,fI>p->IQ m r (∃q,TM>q/\q.lv=p.lv)/\IQ m r (m=n∨Ĭ^as0 Ų m)/\r.Pairwise (λ a b=>Ĭ^aW8 a b)/\IQ m r (∀q s,TM>q->q.sd>s->s∈r)/\n∈r:=by
 induction c with
 |@last n O hn j =>
  intro p J;rw[hn]at J;cases J;apply#[Ż m e,Ż m e,Ê,ba2 m e q s hq i,Ê]
  .rw[aL6 e];show#[_,hn,Y]
  .show ë (aL6 e)
  .rw[aL6 e,hn]at hq;cases hq;rw[j]at i;cases i
 |@next n O s r hn j c L =>
  intro p J;rw[hn]at J;cases J;let(x,q,Q,u,v,R,o):=GD T hn j;let(E,F,G,I,Y2):=L q u;let up:∀m∈r,Ĭ (as0 Ų m):=λ m e=>by
   obtain Y|h:=F m e
   .show o
   .show YH o h
  apply#[Ż m e,Ż m e,Cj.mpr #[up,G],ba2 m e P s' hq i,Ê]
  .obtain Y|e:=ny e
   .show#[_,hn,Y]
   .let(z,y,C):=E m e
    show#[z,y,C.trans v]
  .obtain Y|e:=ny e
   .show ϊ
   .show ċ (up m e)
  .obtain Y|e:=ny e
   .rw[hn]at hq;cases hq
    rw[j]at i;cases i;show bU0 Y2
   .show bU0 (I m e P s' hq i)
def Qca{r:ź}(h:r.Pairwise^λ a b=>Ĭ^aW8 a b):r.Nodup :=
 h.imp λ{a b} c e=>FV e XZ c c
def Qf3(T:nj){n:V}{r:ź}{p:Pg}(c:bb9 n r)(hn:fI>p)(F:ų Ų):∀(k m:V)(q:Pg),cT5 (λ x=>aW8 x m)<k->TM>q->q.lv=p.lv->m∈r:=by
 intro Y2;induction Y2 with
 |zero=>intro _ _ h _ _;lia
 |succ k I =>
  intro m q h o hl;let(O,P,Q,u,C):=c.facts T p hn;cases e:bg m with
  |none=>rw[T.uniq o hn hl^Ϗ e F];show C
  |some v =>
   let(a,z,i,L,j):=T.pred m q o v e;let lt:Ĭ^aW8 a m:=Æ e^Uv^(mn a z i).wide v j
   have:cT5 (λ x=>aW8 x a)<cT5 (λ x=>aW8 x m) :=
    yN _ _ _ (λ y _ G=>YH G lt) #[a,bh5 (QM i),lt,XZ _]
   let ha:=I a z À i À;obtain⟨g1,_⟩|⟨x,s,y,g1,g2,g3,g4,E⟩:=T.link a z i
   .rw[j]at g1;cases g1
   .rw[j]at g1;cases g1
    have:s=m:=T.uniq g3 o À^Ϗ E e;subst this;show u a ha z s i g2
def Ov(T:nj){n:V}{p:Pg}(hn:fI>p)(i:ų Ų):∃r,bb9 n r/\r.Nodup/\(∀m,m∈r↔∃q,TM>q/\q.lv=p.lv):=by let(r,c):=Qie T (mu S bg n+1) n p À hn;let(a,j,e,o,u):=c.facts T p hn;show#[r,c,Qca e,λ m=>#[a m,λ#[q,h1,h2]=>Qf3 T c hn i _ m q (Cv _) h1 h2]]
def c7(S:Sh)(f:wP V)(n:V):Bool:=match fI with
 |some p=>f p.lv
 |none=>false
def GB(T:nj){l:V}{r:ź}(h:r.Nodup)(a:∀m,m∈r↔∃q,TM>q/\q.lv=l):mz=cT5 (c7 S λ x=>FC x l):=by
 apply List.Perm.length_eq^(List.perm_ext_iff_of_nodup h bK1).mpr^N1 m;rw[a m,Bm,Ce];constructor
 .rintro⟨q,h1,h2⟩;show#[QM h1,by ext c7;rw[h1];simpa using h2]
 .rintro⟨h1,h2⟩;unfold c7 at h2;rw[Ab h1]at h2;show#[_,Ab h1,Ë h2]
def gR(S:Sh)(j:V):∀l:ź,IC (c7 S λ x=>Af x<|j+1)=IC (c7 S λ x=>Af x j)+IC (c7 S λ x=>FC x j):=by
 intro c;induction c with
 |nil=>show Y
 |cons n l a =>
  let a:=a;let e:∀f:wP V,⇑(AF (n::l)^c7 S f)=Ř (c7 S f n) 1 0+IC^c7 S f:=λ f=>by
   by_cases h:(Ĭ^c7 S f n)
   .simp[Ar,h];lia
   .simp[Ar,h]
  rw[e,e,e,a];ext c7;cases fI with
  |none=>simp
  |some p =>
   simp only[decide_eq_true_eq];obtain h|h|h:=Nat.lt_trichotomy p.lv j
   .rw[aq9,cC9,ec];lia
   .rw[aq9,ec,cC9];lia
   .rw[ec,ec,ec];lia
def Qdd(S:Sh)(l:ź):IC (c7 S λ x=>Af x 0)=0:=by rw[List.length_eq_zero_iff,Cu];intro n _;ext c7;cases fI<;>simp
def Qf6{L:V}(h:MJ n p<|fI>p->p.lv<=L):cT5 (c7 S λ x=>Af x<|L+1)=Ô:=by rw[Co.mpr,List.length_range];intro n hn;rw[Ce]at hn;ext c7;rw[bY7];have:=h n _ bY7;simp;lia
inductive dU(S:Sh)(bg:Bg):V->ι ź
 |leaf {n:V} {p:Pg}:fI>p->aQ4->ų Ų->dU S bg n [n]
 |fork {n c:V} {p:Pg} {r:ź}:fI>p->bs3->ų Ų->p.ps[0]?>aU4->dU S bg c r->dU S bg n (n::r)
def Qb0(T:nj):∀(l n:V)(p:Pg),IO l->fI>p->ų Ų->∃r,dU S bg n r/\mz=l+1:=by
 intro x;induction x with
 |zero=>intro n p h hn a;show#[_,.leaf hn h a,Y]
 |succ l v =>
  intro n p h hn a;let ok:=cw9;let pl:=ok.parts;rw[ec]at pl;let h0:0<fA:=À
  let(c,q,e,i,y,j):=dj8 n p À 0 _ (Ab h0);let(r,o,u):=v c q À i (Æ j a);show#[_,.fork hn À a (Ϗ (Ab h0) e) o,Ğ u]
def dU.get{n:V}{r:ź}(h:dU S bg n r):∀(T:nj)(p:Pg),fI>p->mz=p.lv+1/\∀i c,Ů r>c->∃q,ú c>q/\q.lv+i=p.lv/\ų bZ3:=by
 induction h with
 |@leaf n j hn h0 e =>
  intro T p J;rw[hn]at J;cases J;apply#[Ğ h0,ľ i c a]
  match i,a with
  |0,a=>cases a;show#[_,hn,Y,e]
  |i+1,a=>simp at a
 |@fork n c j r hn h0 e a l C =>
  intro T p J;rw[hn]at J;cases J;let(c',q,E,o,F,G):=dj8 n j h0 0 _ a;have:c=c':=À
  subst this;let(x,y):=C T q o;apply#[by simp[x];lia,ľ i d hd]
  match i,hd with
  |0,hd=>cases hd;show#[_,hn,Y,e]
  |i+1,hd=>let(z,u,I,v):=y i d (Ë hd);show#[z,u,À,v]
#where
def Qkc(fs:ç V V)(k v:V):⇑(xM fs k v)<=aQ6+1:=bl7 xM
def UH(S:Sh)(w:Wk)(n:V)(P:Pg):(ck2).O5=w.O5/\(ck2).pairs=w.pairs:=by ext QH;split<;>show rg
def Qcg(p:Pg)(l h:Int):⇑(Zg p l h)<=μ:=ck5 Zg^Bi (B9 _ _) ?_
def Qdw(S:Sh)(w:Wk)(n:V)(p:Pg):(J0 S w n p).2.2.O5=w.O5/\(J0 S w n p).2.2.pairs.length<=aJ1+μ:=by
 let(O2,aim,O6,place,O5,O1,O3,pairs,O7):=w;cases O2 with
 |find k=>show#[Y,Ğ J0]
 |put k x=>have:=UH S #[.put k x,aim,O6,place,O5,O1,Ze p aim,pairs,O7] n^Q7 p aim x;apply bI0 this.1;exact(QH S #[.put k x,aim,O6,place,O5,O1,Ze p aim,pairs,O7] n^Q7 p aim x).2.2.pairs.length<=_;rw[this.2];show C5 _ _
 |cut k=>show#[Y,Ğ J0]
 |stretch l h =>
  let pl:=Qcg p l h;ext J0;dsimp only;split
  .split
   .show#[Y,Β]
   .show#[Y,Β]
  .show#[Y,Β]
def uv{S c:Sh}{w w':Wk}{r:Row}{m:V}(i:MJ n p<|fI>p->μ<=m)(h:Xp S w>(r,c,w')):⇑w'.O5<=⇑w.O5+1/\⇑w'.pairs<=aJ1+m:=by
 cases a:w.O7 with
 |true=>unfold Xp at h;rw[C8 a]at h;cases h;show#[À,À]
 |false =>
  let(p,J,v):=xu a h;let j:=i _ p J;cases v with
  |raised=>show#[sk,C5 _ _]
  |side=>show#[sk,C5 _ _]
  |down=>show#[Qkc _ _ _,C5 _ _]
  |@told k=>let z:=UH Id w ó^E1 p k;rw[z.1,z.2];show#[sk,C5 _ _]
  |leaf _ _ _ _ e=>let z:=Qdw Id w ó p;rw[e]at z;show#[Æ z.1 sk,Bi z.2 À]
def fresh(d:aG):Wk:=#[d,d.key,0,none,[],none,none,[],false]
#print TR
namespace D
open PySem PySem.Spec PyProof.Rows L2
def oN:cP6->DV
 |none=>Ě
 |some n=>bG7
def aK(p:TR.Pg):DV:=õ [AV,as9,as8,aE,ma]
def QY:TR.aG->DV
 |.find k=>õ [Õ iW, Ll]
 |.put k w=>õ [Õ dQ, Ll,Í w]
 |.cut k=>õ [Õ ed, Ll]
 |.stretch l h=>õ [Õ Š, Í l,Í h]
def fO(fs:ç V V):f8:=fs.map λ p=>(ë ix,Í p.2)
def aU(ps:Ei):Þ:=aH3 p^õ [Í ix,Í p.2]
def dJ(s f q:V)(d a g p n w e:DV):ER:=[cm9 s,(E2, d),("aim", a),(cM1, g),(m9, p),aG1 dk1 f,(E4, n),(IZ, w),aG1 ad3 q,(Ϙ, e)]
def fW(s f q:V)(w:TR.Wk):OV:=ŭ é^dJ s f q bz6 ↥w.aim ↥w.O6 (oN w.place) (oN w.O1) (opt w.O3)^ŏ w.O7
def v7:TR.Row->DV
 |.non=>Ě
 |.side n t=>õ [Õ bs9, bG7,Í t]
 |.down n t=>õ [Õ bt0, bG7,Í t]
 |.found n w=>õ [Õ d6, bG7,opt w]
 |.put n w k=>õ [Õ dQ, bG7,opt w,oN k]
 |.cut n w=>õ [Õ ed, bG7,opt w]
 |.read n ps none=>õ [Õ iX, bG7,õ as1,Ě,Ě]
 |.read n ps (some (t,a))=>õ [Õ iX, bG7,õ as1,Í t,Í a]
 |.told n k=>õ [Õ CH, bG7,oN k]
 |.raised n t=>õ [Õ TB, bG7,Í t]
variable(s f q:V)(d a g p n w e:DV)
def QhJ:ϑ ı^dJ s f q d a g p n w e>↑s:=ř
def yE:ϑ E2^dJ s f q d a g p n w e>d:=ř
def zJ:ϑ "aim"^dJ s f q d a g p n w e>a:=ř
def QcS:ϑ cM1^dJ s f q d a g p n w e>g:=ř
def jD:ϑ m9^dJ s f q d a g p n w e>p:=ř
def kQ:ϑ dk1^dJ s f q d a g p n w e>aZ4:=ř
def Pu:ϑ E4^dJ s f q d a g p n w e>n:=ř
def qL:ϑ IZ^dJ s f q d a g p n w e>w:=ř
def kR:ϑ ad3^dJ s f q d a g p n w e>↑q:=ř
def yY:ϑ Ϙ^dJ s f q d a g p n w e>e:=ř
def Qn0:⇑(dJ s f q d a g p n w e)=10:=Y
def We:gg bK3^dJ s f q d a g p n w e:=ř
def Qrc:gg cM2^dJ s f q d a g p n w e:=ř
def Qrd:gg bK4^dJ s f q d a g p n w e:=ř
def Qre:gg aa8^dJ s f q d a g p n w e:=ř
def v_:gg cs4^dJ s f q d a g p n w e:=ř
def Qrf:gg bt1^dJ s f q d a g p n w e:=ř
def Qrg:gg ck6^dJ s f q d a g p n w e:=ř
def Qrh:gg cM3^dJ s f q d a g p n w e:=ř
def Qri:gg bt2^dJ s f q d a g p n w e:=ř
def Qn1:gg cM4^dJ s f q d a g p n w e:=ř
def Qn2:gg "over"^dJ s f q d a g p n w e:=ř
def Qn3:gg gw^dJ s f q d a g p n w e:=ř
#where
def Qmd(fs:ç V V)(k v:V):XL bz7 ai7 ↥v=fO^TR.xM fs k v:=by
 ext XL TR.xM;let e:((bz7).any λ a=>FC a.1 (ai7:Key))=fs.any λ p=>FC ix k:=by ext fO;rw[List.any_map];congr 1;funext p;simp only[Function.comp];congr 1;simp;lia
 rw[e];by_cases h:(Ĭ^fs.any λ p=>FC ix k)
 .rw[cC9,cC9];ext fO;rw[List.map_map,List.map_map];refine List.map_congr_left;intro p _;simp only[Function.comp];by_cases q:ix=k
  .simp[q]
  .have:¬ (Ñ ix=fw):=À
   simp[q,this]
 .rw[df3,df3];simp[fO]
def Qme(fs:ç V V)(k:V):ZT bz7 ai7=LL (TR.XE fs k) v dm6:=by
 induction fs with
 |nil=>rfl
 |cons p r a =>
  rw[P9<|fO (p::r)=(cu3 ix,Í p.2)::fO r,XG,a];ext TR.XE;rw[B0];by_cases q:ix=k
  .simp[q]
  .have:¬ (Ñ ix=fw):=À
   simp[q,this]
def Qmc(fs:ç V V):⇑bz7=aQ6:=Br _
variable{c f m:Str}{o e:aD}{fa:cu}{env:En}{J hp1 hp2:Hs}{a n:V}{fs:ER}{d v:DV}{ds:Þ}{F:Em}
def xj{α:pZ}{k:V->ER->cq6}(h:J[a]?>aV3):m_ c Ű k J=k a fs J:=sf ((cL4 >>= _) J=_) h ((ag (c=c) >>= λ_=>k a fs) J=_)^Ea Y
def ZV(i:br3>(v,hp1))(j:cs5 hp1>(Χ,hp1))(h:hp1[a]?>aV3)(hl:aQ6<ej):Zq c f o e env J>(rr,hp1.set a (ŭ c^Xx f v fs)):=by
 ext Zq;rw[Qe i,Qe j];ext tH;have:m_ c Ű (λ n fs=>do ag (aQ6<ej);VS n (ŭ c^Xx f v fs)) hp1>((),hp1.set a (ŭ c^Xx f v fs)):=Ũ (xj h) cq3
 rw[IU];rfl
def QT(i:cC5>(Χ,hp1))(h:hp1[a]?>aV3)(hf:cw6>d):QP c f o env J>(d,hp1):=by ext QP;rw[Qe i];ext tU;rw[xj h,hf];rfl
def QZ(r:cC5>(Χ,J))(h:J[a]?>aV3)(j:ų bi4)(ha:cV2>(ds,hp1))(hn:ê+1=n)(i:F (Χ::ds) hp1>(d,hp2)):QO c m n F o fa env J>(d,hp2):=by
 ext QO;rw[Qe r];have:m_ c Ű (λ_ fs=>QE bl8) J>((),J):=Ũ (xj h) j
 rw[IU,bZ1,Ea hn];exact(QE true >>= λ_=>F<|Χ::ds) hp1=_;show i
def Yv:Qk env J>([],J):=Y
def QL(h:br3>(v,hp1)):cL8 e Qk J>([v],hp1):=fN Qc h
def ZP{i:aD}(h:br3>(v,hp1))(h':i env hp1>(v',hp2)):cL8 e (Ç i) J>([v,v'],hp2):=S0 (QL h') Qc Tu IU
def J4{r i:aD}(h:br3>(v,hp1))(h':r env hp1>(v',hp2))(j:i env hp2>(v'',hp3)):cL8 e (á r i) J>([v,v',v''],hp3):=S0 (ZP h' j) Qc Tu IU
def ak{i:V}(h:T0>au7):Qb i env J>(d,J):=Ą Qb h
def QU{k:V}(ha:cV2>(ds,hp1))(j:ê=k)(i:F ds hp1>(d,hp2)):Qy k F fa env J>(d,hp2):=cp0 Qy bZ1 (Ea j) i
def M3{c:cH}{f g:aN}(h:aS0>co8):aL c f g env J=Κ hp1:=ö^WC h
def Hb{c:cH}{f g:aN}(h:aS0>aE9):aL c f g env J=bu6:=ö^WC h
def j7{i:V}(h:J[a]?>ū)(hd:FL>d):aB Ű bs5 J>(d,J):=by exact(cL4 >>= _) J=_;rw[aP9];exact(eG ↥A4 >>= λ i=>VM bJ4) J=_;simp only[eG,Ed,jR hd];rfl
#where
def QlY{o:aD}{fa:cu}{J:Hs}{a:V}{fs:ç V V}{j:V}(e:cC5>(Χ,J))(h:J[a]?>(tF bz7))(ha:cV2>([ĕ j],J)):Zo ie Yp o fa env J>(oN^TR.XE fs j,J):=by
 ext Zo;rw[Qe e];let c:jr ie Ű J>((),J):=ĸ ((cL4 >>= _) J=_) aP9
 rw[aP2,bZ1];exact(cL4 >>= _) J=_;rw[aP9];exact í (r8 (ZT bz7^ë bt9) Ě,J)=_;rw[Qme];cases TR.XE fs j<;>rfl
def wl{s f q:V}{d a g p n w e:DV}:⇑(dJ s f q d a g p n w e)<ej:=bw7 Qn0
def Zx{xs:Þ}{i:V}(h:bC3>d)(J:Hs):aB OL bs5 J>(d,J):=by exact bH OL bs5 J=_;simp only[bH,jR h];rfl
def MC(p:TR.Pg)(J:Hs):dv2 ũ 0>(AV,J):=R5 0 J
def Qqn(p:TR.Pg)(J:Hs):dv2 ũ 1>(as9,J):=R5 1 J
def Qqo(p:TR.Pg)(J:Hs):dv2 ũ 2>(as8,J):=R5 2 J
def Qqm(p:TR.Pg)(J:Hs):dv2 ũ 3>(aE,J):=R5 3 J
def MB(p:TR.Pg)(J:Hs):dv2 ũ 4>(ma,J):=R5 4 J
def Qir(d:TR.aG)(J:Hs):dv2 ng 1>(Í d.key,J):=bU9 d^R5 1 J
variable{e e' e'' e3 e4:aD}{fa:cu}{env:En}{J hp1 hp2 hp3 fj mR:Hs}{v v' v'' v3 v4:DV}{ds:Þ}
def Z7(ha:cV2>(ds,hp1))(a:ê<=Ĺ):ZL fa env J>(rc,hp1):=by ext ZL;rw[bZ1];have:do1 ds:=Ea a;rw[this];rfl
def gE(h:br3>(v,hp1))(h':e' env hp1>(v',hp2))(a:e'' env hp2>(v'',hp3))(h3:e3 env hp3>(v3,fj)):cL8 e (Ħ e' e'' e3) J>([v,v',v'',v3],fj):=S0 (J4 h' a h3) Qc Tu IU
def GO(h:br3>(v,hp1))(h':e' env hp1>(v',hp2))(a:e'' env hp2>(v'',hp3))(h3:e3 env hp3>(v3,fj))(h4:e4 env fj>(v4,mR)):cL8 e (d5 e' e'' e3 e4) J>([v,v',v'',v3,v4],mR):=S0 (gE h' a h3 h4) Qc Tu IU
#where
def Qf4{t:DV->OB}{f:bS}{p:wP DV}(ds:Þ)(j:∀d∈ds,t d J>(p d,J))(hf:∀d∈ds,f d J>(d,J))(hl:ê<Ĺ):Je x4 t f Ĺ 0 J>(ds.filter p,J):=by
 suffices h:∀(m i n:V),m+i=ê->m<n->Je x4 t f n i J>(AF bD2 p,J)by simpa using h ê 0 Ĺ Y hl
 intro m;induction m with
 |zero =>
  intro i n e c;obtain⟨n,Y⟩:∃k,n=k+1:=#[n-1,À];have:i=ê:=À
  subst this;let e1:=YI ds ê Ĕ J;rw[bp8 ds[ê]?]at e1;rw[Je,L9,Cw];rfl
 |succ m o =>
  intro i n e c;obtain⟨n,Y⟩:∃k,n=k+1:=#[n-1,À];let a:i<ê:=À
  let e1:=YI ds i À J;rw[bs8]at e1;let hi:=o (i+1) n À À;rw[Je,L9];simp only;rw[Qe^j ds[i] bz5,Bh a];cases q:p ds[i]with
  |false=>rw[al3 q];simpa using hi
  |true=>rw[IV q];simp only[if_true];rw[Qe^hf ds[i] bz5,Qe hi];rfl
def Qn9:∀(ks ps:Ĥ),jG ē ϫ=aU^ks.zip ps:=by
 intro c;induction c with
 |nil=>intro _;cases ‹Ĥ› <;> rfl
 |cons k ks a =>
  intro q1;cases q1 with
  |nil=>show Y
  |cons p ps=>exact õ [Ll,Í p]::jG ē ϫ=_;rw[a ps];rfl
def Es(l h:Int):wP DV
 |.tup [.int x,_]=>A6 l x&&Af x h
 |_=>false
def QdR(l h:Int)(a:Ei):AF (aU a)^Es l h=aU (a.filter λ q=>A6 l FO&&Af FO h):=Ą aU List.filter_map
def Qgo{o:aD}{fa:cu}{J:Hs}{a b:V}{ds es:Þ}(i:cC5>(Χ,J))(h:J[a]?>ū)(ha:cV2>([da5],J))(e:OM J b es)(hl:ê+cI3<=Ĺ):Zo Đ Xm o fa env J>(Ě,fS a ch9):=by
 ext Zo;rw[Qe i];let c:jr Đ Ű J>((),J):=ĸ ((cL4 >>= _) J=_) aP9
 rw[aP2,bZ1];exact(cL4 >>= _) J=_;rw[aP9];exact(Zv b >>= _) J=_;rw[ů e];exact(ag (ê+cI3<=lim) >>= λ_=>VS a ch9 >>= λ_=>ï DV.non) J=_;rw[LH (A6 (ê+cI3) lim) cq3];rfl
def YU(a:Ei):⇑(aU a)=⇑a:=Br _
def BQ(c a:Ei):aU c++aU a=aU (c++a):=Ğ aU
def Kk(o:Ć):isD (opt o) Ě=fz o.isNone:=l3 o
def QdI(o:Ć):VG (opt o) Ě=fz o.isSome:=l3 o
def vP(o:cP6):isD (oN o) Ě=fz o.isNone:=l3 o
def zB{x:Str}(h:ĭ x):do2 Ϭ:=by simp[iI,ku,toP,SeqAt.shaped,PyData.canLay0,PyData.depth,h]
def iu{x y:Str}(J:Hs)(h1:ĭ x)(h2:ĭ y){b:Bool}(h:(x==y)=b):aV Ϭ bd9 J>(FH,J):=by
 ext aV;let e:Ue Ϭ bd9 J>(x==y,J):=ö^Uf (Gu 39 J x) (Gu 39 J y) (zB h1)^zB h2
 rw[Qe e,h];rfl
variable{c c':cH}{e e':aD}{env:En}{J hp1:Hs}
def Wv(h:aS0>co8):iU c c' env J>co8:=fN iU h
def yc(h:aS0>aE9):iU c c' env J=c' env hp1:=fN iU h
def zT(h:aS0>co8):Yu c c' env J=c' env hp1:=fN Yu h
def zS(h:aS0>aE9):Yu c c' env J>aE9:=fN Yu h
def KD(h:aS0>co8):cU c e e' env J=aS8 hp1:=fN cU h
def G9(h:aS0>aE9):cU c e e' env J=e' env hp1:=fN cU h
#where
def vH{w:TR.Wk}{i:V}{k:Int}(h:w.O2=.find k):bm2 w i p=(.found i vr,S,du7):=ad4 h h
def kr{w:TR.Wk}{i:V}{k x:Int}(h:w.O2=.put k x):bm2 w i p=(.put i vr (cX5 p x).1,(cX5 p x).2.1,(cX5 p x).2.2):=ad4 h h
def ko{S:TR.Sh}{w:TR.Wk}{i:V}{k:Int}(h:w.O2=.cut k):bm2 w i p=(.cut i vr,Ř (p9 vr) (ĝ S pg (sW i^aJ5 p) wr<|S.wr+1) S,du7):=ad4 h h
def QgM{w:TR.Wk}{i:V}{p:TR.Pg}{l h:Int}(e:w.O2=Ϝ l h)(h1:bO6):bm2 w i p=(bw0 i (nV l h) none,S,cy8 w ds7):=by cases w;cases p;simp only at e h1;subst e h1;rfl
def Qje{w:TR.Wk}{i:V}{p:TR.Pg}{l h x:Int}{s:V}(e:w.O2=Ϝ l h)(h1:p.hi>x)(h2:p.sd>s):bm2 w i p=É (h<=x) (bw0 i (nV l h) none,S,cy8 w ds7) (bw0 i (nV l h)^í (s,x),S,bX5 w pairs ds7 aim place cu4):=by cases w;cases p;simp only at e h1 h2;subst e h1 h2;rfl
def QqZ{e o j:aD}{J:Hs}{a l v:V}{fs:ç V V}(c:br3>(ĕ v,J))(r:cC5>(Χ,J))(i:j env J>(ĕ l,J))(h:J[a]?>(tF bz7))(hf:aQ6<5000):Yg e (cL o j) env J>(rr,fS a (cS2^TR.xM fs l v)):=by apply yU c ?_;ext cL;rw[Qe r,Qe i];have:=yx (d:=ĕ v) h (P9<|Ub ↥(Ñ l)>(cu3 l))^ĩ Qmc;rw[Qmd]at this;rw[IU];rfl
variable{fa:cu}{env:En}{J hp1 hp2:Hs}{d:DV}{ds:Þ}{F:Em}
def ZI(h:cV2>(ds,hp1))(a:F ds hp1>(d,hp2)):QN F fa env J>(d,hp2):=hJ QN Tu a
def Qb1(ds:Þ)(J:Hs):ZG [ū] J>(dm7,J):=Y
def Uu(ds:Þ)(J:Hs):ZG [rc] J>(dm7,J):=Y
def Qjg{n:V}(h:YP>ū):ZG [NO] J>(dm7,J):=ĸ ((LG >>= _) J=_) aP9
def neI(i j:Int)(J:Hs):cW bs5 ↥j J>(be9<|i==j,J):=fN cW^QbN i j J
def T8(i:Int)(J:Hs):cW bs5 bs5 J>(ő,J):=ψ neI
def rM(i j:Int)(J:Hs):aV bs5 ↥j J>(ŏ<|i==j,J):=fN aV^QbN i j J
def Sg(a b:Ć)(J:Hs):cW (opt a) LA J>(be9^FC a b,J):=fN cW^QiM a b J
def T9(b:Bool)(J:Hs):cW FH FH J>(ő,J):=by let e:=Uf (MV 39 J b) (MV 39 J b) (MO b)^MO b;ext cW;rw[Qe e];cases b<;>rfl
#where
def VU{f:mZ}(h:i0>(ds,hp1)):cM f env J>(x4,hp1):=fN cM h
variable{c:cH}{b:aN}{n:V}{env aF:En}{J hp1 hp2:Hs}
def UO(h:aS0>co8)(a:b env hp1>(ō aF,hp2)):Xh c b (n+1) env J=Xh c b n aF hp2:=by rw[Xh,Tu];simp only[if_true];rw[Qe a]
def Px(h:aS0>aE9):Xh c b (n+1) env J>(rr,hp1):=Ũ Xh Tu
#where
def nD(r:ź):Þ:=r.map λ n:V=>eD iq
def xi(r:ź):⇑FX=mz:=Br _
def QpW(r s:ź):FX++nD s=nD (r++s):=Ğ nD
def Ij{r:ź}{i n:V}(h:Ů r>n):Ů FX>↥iq:=fT nD Bt h
def QmG{J:Hs}{d k:V}(h:J[d]?>AA)(hv:l4 ai7>v):Gd ↥fw ↑d J>(ő,J):=by
 ext Gd;have:tZ ↥fw ↑d J>co7:=sf ((Zv d >>= _) J=_) h (í (p9^l4 ai7,J)=_) hv
 rw[IU];rfl
def HH{J:Hs}{d k:V}(h:J[d]?>AA)(hv:l4 ai7>v):dv2 ↑d fw>(v,J):=sf ((Zv d >>= _) J=_) h ((VM^l4 ai7) J=_) hv
def YE{o e:aD}{J:Hs}{a:V}{ds:Þ}(j:cC5>(Χ,J))(h:J[a]?>ū)(i:br3>(d,J))(hl:ê<Ĺ):Zo Đ Jr o (Ç e) env J>(Ě,fS a (bE5 [d])):=by
 ext Zo;rw[Qe j];let c:jr Đ Ű J>((),J):=ĸ ((cL4 >>= _) J=_) aP9
 rw[aP2,dj3 i];exact(cL4 >>= _) J=_;rw[aP9];exact(ag (ê<lim) >>= λ_=>VS a (bE5 [d]) >>= λ_=>ï DV.non) J=_;rw[LH (Af ê lim) cq3];rfl
def Qif{i:Int}{n:V}{f g h:aD}(h1:i0>(cF3,J))(h2:bH0>(ft,J))(h3:h env J>(ĕ n,J))(a:0<=i)(b:i<n):Jk d7 bV f g h env J>(Ő,J):=by ext Jk;rw[Qe h1,Qe h2];exact(d7 ↥0 bs5 >>= _) J=_;rw[Rm,Ea a,Ed];exact(lO Ő >>= _) J=_;simp only[lO,Ed,if_true];rw[Qe h3,Ri,Ea b];rfl
def zF{n:V}{a:aN}{ds:Þ}(h:a (bQ1++ă (n-ê) ń) J>(rr,hp1)):Zf n a ds J>(Ě,hp1):=fN Zf h
def Qkb(f:Str)(d:DV):∀fs:ER,⇑(Xx f d fs)<=aQ6+1:=by
 intro c;induction c with
 |nil=>show Ĕ
 |cons e r a =>
  let(g,x):=e;ext Xx;split
  .simp
  .simpa using a
def XR{f:Str}{fs:ER}{m:V}(h:aQ6<=m):⇑(Xx f d fs)<=m+1:=Bi (Qkb f d fs)^sg h
variable{X:Cx}{e:Expr}{f:aD}{pos:Pos}
def HB(T:String)(f:aD):aD:=λ env=>do
 let x <- ϰ
 match x with
 |.ref n=>do
  match <- LG with
  |.lst _=>fz (vB Đ T)
  |_=>failure
 |x=>match uD x with
  |some t=>fz (vB t T)
  |none=>failure
def Qo0{T:String}(i:T∈[ba6, cL2, ŉ, pS, Đ]):IL X EI^λ xs H Q=>(∃ρ B d x t,xs=[x,.ty T]/\pe X.K d x/\uD d>t/\Q (ŏ^vB t T) H)∨∃a C,xs=[Χ,.ty T]/\tJ X.K a C/\Q (ŏ^vB Đ T) H:=by
 intro y s σ H xs us Q I r h;obtain h|⟨a,C,Y,Y2,q⟩:=h
 .show Qru i y s σ H xs us Q I r h
 .let(u,w',Y,G,v):=KS r;cases v;let c:∀tk,EP X y σ Q (xk^vB Đ T) (aN4 s tk):=λ tk=>#[db2,H,ω,Y,q];let j:PySem.W.kitOne X.K aI1 bB7>(vB Đ T):=by simp only[Bj,Cc,or_false]at i;obtain Y|Y|Y|Y|Y:=i<;>first|rfl|decide|with_unfolding_all rfl|kernel_rfl
  cases G;let(F,_,(o,k,e1,E,_),_):=wq Y2;show CD PySem.W.kitx_list #[o,e1,E] j bS8 c
def QlR{T:String}{p p':Pos}(I:cj EI)(y:cj aV5)(hv:bootBuiltins aV5>bB7)(F:T∈[ba6, cL2, ŉ, pS, Đ])(h:cl9)(G:L6 EI := by rfl)(u:L6 aV5:=by rfl)
  (hn:tI aV5 := by decide) (hdb:OW aV5:=by decide) (hs:Î [e,ķ aV5 p']=cv8::Î [ķ aV5 p']:=by rfl)
  (hs2:Î [ķ aV5 p']=Ξ^ķ aV5 p'::Î []:=by rfl) (hpl:ÿ^(G6 [ķ aV5 p']).any ţ:=by rfl):cl7 EI [e,ķ aV5 p']^HB T f :=
 L2.PE.imp (vV (Qo0 F) G I boot_isinstance (Xn h (cq8 (Rx (v:=.ty T) u y hv Y hn hdb) hs2) hs) Á Á hs hpl) λ σ H Q z=>by
  let(Z,env,ρ,B,J,d,hp',S,e,k):=z;let(x,hp1,e1,i):=Ŧ;apply IB S v c j ?_;cases x with
  |ref n =>
   let(o,hp2,C,r):=Qh i;let(E,Y):=ZO C;cases o with
   |lst O=>let(Y,Y):=Qm r;let(a,Y,_,Y2,h1,L):=aS7 j E;show ċ #[a,Y2,Y,ph,aD7 _ c Z6]
   |aJ _=>cases r
   |ins _ _=>cases r
  |non=>let(Y,Y):=bY3;show ë #[ρ1,c,_,v,_,Y,j,Y,aD7 _ c Z6]
  |bl _=>let(Y,Y):=bY3;show ë #[ρ1,c,_,v,_,Y,j,Y,aD7 _ c Z6]
  |int _=>let(Y,Y):=bY3;show ë #[ρ1,c,_,v,_,Y,j,Y,aD7 _ c Z6]
  |str _=>let(Y,Y):=bY3;show ë #[ρ1,c,_,v,_,Y,j,Y,aD7 _ c Z6]
  |tup _=>let(Y,Y):=bY3;show ë #[ρ1,c,_,v,_,Y,j,Y,aD7 _ c Z6]
  |lst _=>let(Y,Y):=bY3;show ë #[ρ1,c,_,v,_,Y,j,Y,aD7 _ c Z6]
#where
def Pl:V->ι DV
 |_,.non=>True
 |_,.bl _=>True
 |_,.int _=>True
 |_,.str x=>ĭ x
 |n+1,.tup ds=>∀d∈ds,Pl n d
 |n+1,.lst ds=>∀d∈ds,Pl n d
 |_,_=>False
def H_:∀(n:V)(d:DV)(k:V)(J:Hs),Pl n d->dh (n+k+1) J d>d
 |n,.non,k,J,_=>Y
 |n,.bl _,k,J,_=>Y
 |n,.int _,k,J,_=>Y
 |n,.str _,k,J,_=>Y
 |0,.tup ds,k,J,h=>h.elim
 |0,.lst ds,k,J,h=>h.elim
 |0,.ref _,k,J,h=>h.elim
 |n+1,.ref _,k,J,h=>h.elim
 |n+1,.tup ds,k,J,h=>ĸ (mr (OC (n+1+k) J) DV.tup=_)^Kg λ d hd=>Æ Nat.add_right_comm^H_ n d k J^h d hd
 |n+1,.lst ds,k,J,h=>ĸ (mr (OC (n+1+k) J) DV.lst=_)^Kg λ d hd=>Æ Nat.add_right_comm^H_ n d k J^h d hd
def SY:∀(ds:Þ),IQ d ds^Ĭ (cr5).canLay0->Ĭ^PyData.canLayAll0^cV ds:=by
 intro c;induction c with
 |nil=>intro _;ext cV PyData.canLayAll0;rfl
 |cons d ds a=>intro h;ext cV PyData.canLayAll0;rw[h d Ê,a λ x hx=>bU1 x hx];rfl
def vG:bT n d DV<|Pl n d->Ĭ (cr5).canLay0
 |n,.non,_=>ax0 toP
 |n,.bl _,_=>ax0 toP
 |n,.int _,_=>ax0 toP
 |n,.str x,h=>by cases n<;>(ext toP PyData.canLay0;show h)
 |0,.tup ds,h=>h.elim
 |0,.lst ds,h=>h.elim
 |0,.ref _,h=>h.elim
 |n+1,.ref _,h=>h.elim
 |n+1,.tup ds,h=>by ext toP PyData.canLay0;show SY ds λ d hd=>vG n d^h d hd
 |n+1,.lst ds,h=>by ext toP PyData.canLay0;show SY ds λ d hd=>vG n d^h d hd
def gW(n:V):∀(ds:Þ),IQ d ds ((cr5).depth<=n)->PyData.depthAll^cV ds<=n:=by
 intro c;induction c with
 |nil=>intro _;ext cV PyData.depthAll;show Fm
 |cons d ds a=>intro h;ext cV PyData.depthAll;show Nat.max_le.mpr #[h d Ê,a λ x hx=>bU1 x hx]
def GZ:bT n d DV<|Pl n d->(cr5).depth<=n
 |n,.non,_=>EJ toP Fm
 |n,.bl _,_=>EJ toP Fm
 |n,.int _,_=>EJ toP Fm
 |n,.str x,h=>EJ toP Fm
 |0,.tup ds,h=>h.elim
 |0,.lst ds,h=>h.elim
 |0,.ref _,h=>h.elim
 |n+1,.ref _,h=>h.elim
 |n+1,.tup ds,h=>EJ toP^sg^gW n ds λ d hd=>GZ n d^h d hd
 |n+1,.lst ds,h=>EJ toP^sg^gW n ds λ d hd=>GZ n d^h d hd
def Kr{n:V}(h:Pl n d)(hn:n<=64):Ĭ^ik d:=fT SeqAt.shaped (vG n d h)^Ea^Bi (GZ n d h) hn
def G1{n:V}(h:Pl n d)(hn:n<40)(J:Hs):cL6 d>d:=by
 have:=H_ n d (39-n) J h
 rwa [ī<|n+(39-n)+1=40]at this
def Qsh(n:V)(b:Bool):Pl n FH:=by cases n<;>trivial
def Qgl{n m:V}(h:Pl n x)(h':Pl m y)(hn:n<40)(a:m<40)(J:Hs):Ue x y J>(bu7 x y,J):=by ext Ue rY;exact((ai0^cL6 x).bind _)=_;rw[G1 h hn];exact((ai0^cL6 y).bind _)=_;rw[G1 h' a];exact(QE (ik x&&ik y) >>= λ_=>ï^bu7 x y:OB) J=_;rw[Kr h À,Kr h' À];rfl
def Qgn{n:V}(h:Pl n x)(hn:n<40)(J:Hs):Ue x x J>co7:=Ϗ (Qgl h h hn hn)^SeqAt.eqv_refl _^vG n x h
def Qjw{n:V}(h:Pl n x)(hn:n<40)(J:Hs):cW x x J>(ő,J):=fN cW^Qgn h hn J
def Qgm{a:V}{n:V}{J:Hs}(ha:J[a]?>ū)(h:∀d∈ds,Pl n d)(hn:n<38):Ue Ű ū J>co7:=by
 let hl:Pl (n+1) ū:=h;let e:cL6 Ű>ū:=by exact(match J[a]? with|some (.lst ds)=>mr (OC 39 J) DV.lst|_=>none)=_;rw[ha];exact mr (OC 39 J) DV.lst=_;rw[Kg λ d hd=>bK5 (H_ n d (38-n) J^h d hd)<|ī<|n+(38-n)+1=39];rfl
 ext Ue rY;exact((ai0^cL6 Ű).bind _)=_;rw[e];exact((ai0^cL6 ū).bind _)=_;rw[G1 hl À];exact(QE (ik ū&&ik ū) >>= λ_=>ï^bu7 ū ū:OB) J=_;rw[Kr hl À,SeqAt.eqv_refl _^vG _ _ hl];rfl
def QiK{a:V}{n:V}{J:Hs}(ha:J[a]?>ū)(h:∀d∈ds,Pl n d)(hn:n<38):aV Ű ū J>(Ő,J):=fN aV^Qgm ha h hn
def Qf5{t:DV->OB}{f:bS}{g:DV->DV}(ds:Þ)(j:∀d∈ds,t d J>co7)(hf:∀d∈ds,f d J>(g d,J))(hl:ê<Ĺ):Je x4 t f Ĺ 0 J>(pc g,J):=by
 suffices h:∀(m i n:V),m+i=ê->m<n->Je x4 t f n i J>(mr bD2 g,J)by simpa using h ê 0 Ĺ Y hl
 intro m;induction m with
 |zero =>
  intro i n e c;obtain⟨n,Y⟩:∃k,n=k+1:=#[n-1,À];have:i=ê:=À
  subst this;let e1:=YI ds ê Ĕ J;rw[bp8 ds[ê]?]at e1;rw[Je,L9,Cw];rfl
 |succ m o =>
  intro i n e c;obtain⟨n,Y⟩:∃k,n=k+1:=#[n-1,À];let a:i<ê:=À
  let e1:=YI ds i À J;rw[bs8]at e1;rw[Je,L9];simp only;rw[Qe^j ds[i] bz5,Bh a];simp only[if_true];rw[Qe^hf ds[i] bz5,Qe^o (i+1) n À À];rfl
def RF{α:pZ}{m:cq6}{x:α}(h:∀J,m J>(x,J)):m=cG0:=funext h
variable{env:En}{J hp1 hp2 hp3 fj mR L_:Hs}{e e' e'' e3 e4 e5:aD}{v v' v'' v3 v4 v5:DV}
def WQ(h:br3>(v,hp1))(h':e' env hp1>(v',hp2))(a:e'' env hp2>(v'',hp3))(h3:e3 env hp3>(v3,fj))(h4:e4 env fj>(v4,mR))(h5:e5 env mR>(v5,L_)):cL8 e (EW e' e'' e3 e4 e5) J>([v,v',v'',v3,v4,v5],L_):=au3 ((e env >>= λ x=>Qc e' (d5 e'' e3 e4 e5) env >>= λ xs=>ï<|x::xs) J=_) Tu^Qe^GO h' a h3 h4 h5
#print D
namespace L2
open PySem PySem.Spec PyProof.Rows
def Fw(a c:Int)(n:V):It:=#[λ i _=>i<n,λ i H x H'=>H'=H/\x=Í (a+(i:V) * c),λ i _=>n<=i]
def QcO{w:World}{K:Aa}(a:Addr)(u c:Int)(n:V):sI P w K tg (Fw u c n) [a] a^λ i h=>IsRangeIter h a (u+(i:V) * c) (iq-(i:V)) c where
 mem:=Ê
 obj:=λ i h st b j=>by
  let e:b=a:=da2
  subst e;show#[_,st,λ v z=>by let z':Data.fields _=Data.cell v:=z;cases z']
 keep:=λ i h h' st k=>k a Ê _ st
 item:=by intro X L Q Y2 O i O9 s σ H E I hf st hg;subst L Q Y2;let(x,y,f2,C,F,G):=hf a Ê;let W:=Walks.range (prog:=X.prog) (w:=X.w) (OO O) a u c n;apply W.item i s _ _ hg st^ba2 v h' tk hv r kk;let(t,Y):=hv;let R:Ε aC8:=I.turned (λ b o j e=>kk b o da2 e) x y C F G;show#[_,Y,Df (s:=aC8) (n := "range_iterator") r Y Y Á #[Í (u+(i:V) * c),H,R,mi t,rg,r,λ b j=>(hf b j).1]]
 done:=by intro X L Q Y2 O i O9 s σ H E I hf st hg;subst L Q Y2;let(x,y,f2,C,F,G):=hf a Ê;show wpAny_pyNext_range_end (OO O) st (A3 (n<=i) hg) λ h' U=>#[Y,am5 t' (λ b o j e=>U b o j e) x y C F G]
 self:=bx3 st^cJ8 h
variable{X:Cx}{tg:Expr}
def dG(hi c:Int):V:=OA<|(hi+c-1) / c
def Nr{hi c:Int}(a:1<=c)(hh:0<=hi):Bl 0 hi c=Ñ^dG hi c:=by rw[rangeSize_pos a hh];ext dG;have:0<=(hi+c-1) / c:=Int.ediv_nonneg À À;lia
def Qnp{hi c:Int}(e:1<=c)(hh:0<=hi):Ñ^dG hi c<=hi+c:=by rw[<- Nr e hh,rangeSize_pos e hh];have:=Int.ediv_le_self (b:=c) (a:=hi+c-1) À;lia
def QqW{hi c:Int}(a:1<=c)(hh:0<=hi)(h1:hi<Λ 40)(h2:c<IR):ae4 0 hi c:=by let l:=Qnp a hh;ext Builtin.Range.small;rw[Nr a hh];simp only[Builtin.Range.rangeFitsLong,Bb,Bool.or_eq_true,decide_eq_true_eq,beq_iff_eq,ī (c >= 0),if_true];lia
def Qhf{R:It->dC}{E:Ee}{hi c:Int}{t u v:Tok}{tk:V}(I:Ϣ)(i:1<=c)(hh:0<=hi)(h1:hi<Λ 40)(h2:c<IR)
  (q:R (Fw 0 c^dG hi c) H):dm (pyIter ŋ) (PIE X O9 σ tg R) E^cK s (bW6 ⟨bp1 0,dq4,lT c v⟩) tk:=by
 apply wpAny_pyIter_range bk3 (QqW i hh h1 h2) ?_;let a:Ε^cK s (bW6 ⟨bp1 0,dq4,lT c v⟩) tk:=I.kept λ b o e=>ay7;apply#[cm4 ⟨bp1 0,dq4,lT c v⟩,[cm4 ⟨bp1 0,dq4,lT c v⟩],_,_,H,Y,
  a.kept (t':=tk) λ b o e=>ay7,QcO _ 0 c (dG hi c),?_,Ż b r,q]
 .let e1:da3+Ñ (0:V) * c=0:=Ê
  let j:Ñ (dG hi c:V)-Ñ (0:V)=Bl 0 hi c:=ψ^Nr i hh
  exact IsRangeIter _ _ (da3+Ñ (0:V) * c) (Ñ (dG hi c:V)-Ñ (0:V)) c;rw[e1,j];show cj2
 .let e:b=cm4 ⟨bp1 0,dq4,lT c v⟩:=Ë r
  subst e;show a.fpOk Ĕ (a.hok.fresh Ĕ)
def R3(vs:ś)(hi c:Int):ä:=vs=[cF3,Í hi,Í c]/\1<=c/\0<=hi/\hi<Λ 40/\c<IR
def QrR(a:TA):TI:=λ σ H R=>a σ H λ vs H1=>∃hi c:Int,R3 vs hi c/\R (Fw 0 c^dG hi c) H1
def Qnn{hi c:Int}(a:1<=c)(h2:c<IR):ÿ^Builtin.divisionGoesByPylong (hi-0) c:=en bx4
def Qg8{p pos:Pos}(x:L6 bp)(y:cj bp)(ha:PA X [a,b,d] ta)(z:Î [a,b,d]=[Ξ a,Ξ b,Ξ d]:=by rfl)(i:Î [b,d]=[Ξ b,Ξ d]:=by rfl):
  PI X tg (bg8 bp [a,b,d])^QrR ta:=by
 intro v s σ H R I h;apply Call_^ja I x y boot_range^dP (dv1 (ha pos v s σ H _ I h) us L vs H1 G) (Ϗ z i)^ö i;let(hi,c,(e,q1,C,E,u),q):=q1;subst e;cases G with
 |cons r j =>
  cases j with
  |cons F j =>
   cases j with
   |cons o j=>cases j;let(t,Y):=r;let(t',Y):=F;let(Y2,Y):=o;show call_range_3 À (Qhf I1 q1 C E u q) (ë^Qnn q1 u)
#print L2
namespace D
open PySem PySem.Spec PyProof.Rows L2
variable{X:Cx}{tg:Expr}{pos:Pos}
def Yr(c:Int)(n:V):Þ:=mx n^λ(i:V)=>Í<|A4 * c
def QgC{K:Aa}{c:Int}{n:V}:kW K ρ B H (Yr c n)^Fw 0 c n:=λ ρ1 B1 H1 g _ _=>by
 apply#[ľ i d e,by exact n<=_;simp[Yr]];let hi:i<n:=mm cQ7 Yr
 apply#[hi,λ y H' #[a,q]=>?_];subst a q;have:d=Í (A4 * c):=by simp[Yr,hi]at e;show e.symm
 subst this;rw[Int.zero_add];show#[Jd,ϊ]
def Ld(a hi c:Int):Bool:=Ö<|a=0/\1<=c/\0<=hi/\hi<Λ 40/\c<IR
def M4:Þ->cK8
 | [.int a,.int hi,.int c]=>do QE (Ld a hi c);ï (Yr c^dG hi c)
 |_=>failure
def E_(f:cu):mZ:=IP<|do M4 (<- ϰ)
def Qhq{ds out:Þ}{J hp':Hs}(h:M4 ds J>(Tk out)):∃hi c:Int,ds=[cF3,Í hi,Í c]/\(1<=c/\0<=hi/\hi<Λ 40/\c<IR)/\out=Yr c^dG hi c/\J=hp':=by
 unfold M4 at h;split at h
 .let(u,hp1,e1,a):=Qh h;let(h1,Y):=aL3;let(Y,Y):=Qm a;let(Y,h2):=Eb h1;show#[_,_,Y,h2,Y,Y]
 .cases h
def au.ints3{K:Aa}{i j k:Int}{vs:ś}(h:me [ft,bN3,Ll] vs):vs=[ft,bN3,Ll]:=by unfold au at h;let(x,r,Y,h1,h2):=h;rw[h1.bx,h2.ints2]
def Qgd{x y z:Expr}{p:Pos}{f:cu}(o:L6 bp)(r:cj bp)(ha:DA X [x,y,z] f)(u:Î [x,y,z]=[Ξ x,Ξ y,Ξ z]:=by rfl)(a:Î [y,z]=[Ξ y,Ξ z]:=by rfl) :
  DI X tg (bg8 bp [x,y,z])^E_ f :=
 (Qg8 o r ha u a).imp λ σ H R i=>by let(Z,env,ρ,B,J,ds,hp',S,e,k):=i;let(d,hp1,e1,j):=Ŧ;let(hi,c,Y,(h1,h2,h3,h4),Y,Y):=Qhq j;apply bY5 S^λ vs ρ1 B1 H1 g1 S1 v=>?_;show#[hi,c,#[v.ints3,h1,h2,h3,h4],cV9 QgC]
#print D
namespace PySem
variable{prog:Program}{w:World}{A:Around}{E:Ee}{s:Shared}
def Vl{Q:Ď->ϟ}{r:Addr}{a b c:Int}{t u v:Tok}{n:V}(hh:lI)(I:IsRange s.heap r a b c t u v)(x:ae4 a b c)(hn:Bl a b c=n)(z:n<=Λ 24)
  (hQ:∀(h':Heap)(tk:V)(acc:ļ),(∀b o',aV0>o'->aY0>o')->ItemsOf (λ i v=>∃t,v=bp1 (a+i * c)) acc n->Q acc.toList aC8) :
  rj w A (collect ↑r) Q E s:=by
 ext collect;apply C6^wpAny_runValue^CI F.entry_proto_collect;rw[oa F.plain_proto_collect];exact AM A.in1 cq9 (λ l=>again^aE3 "list.__iadd__" #[[l,ã r],[]]) _ _ s;apply C6^wpAny_newObj_type ?_;apply C9 #[aa9 F.plain_list_iadd,CI F.entry_list_iadd];rw[oa F.plain_list_iadd];exact ű A.in1 (cE8 ↑r ŋ) _ _ _;let L:aJ0 (cC0^aA4 ([]:Ď)).get?>(bP1^.seq hZ 0):=cj2
 have G:ϟ:=λ s'=>∃h' tk j c',(∀b o,au2 b->(cC0^aA4 ([]:Ď)).get? b>o->aY0>o)/\aV4>{ cls:=aI1, dict:=none,data:=.seq j c',slots:=hZ }/\ItemsOf (λ i v=>∃t,v=bp1 (a+i * c)) j n/\s'=aC8
 let y:∀s',G s'->wpAny aQ2 A (match aI5 with
   |Value.ref a=>do
    match (<- load a).data with
     |Data.seq xs _=>ï xs.toList
     |_=>bt3
   |_=>bt3) Q E s':=by
  rintro s' ⟨h',tk,j,c',k1,k2,k3,Y⟩;exact AM A (load s.heap.objs.size) _ _ _ _;apply dg6 k2 ?_;apply E7;show hQ h' tk j (λ b o' Y2=>k1 b o' (Be^Ao Y2)^n5 Y2) k3
 apply wpAny_mono (wpAny_extend_range (A:=A) (R:=λ r s'=>r=.ok^.ret ŋ/\G s')
  (s:=RM (cC0^aA4 ([]:Ď))) hh (n5 I) x hn z _ _ 0 L λ h' tk j c' k1 k2 k3=>#[Y,h',tk,j,c',k1,k2,k3,Y]) (do4 C s')^do4 e s'
 .cases C with
  |done f=>let(e,g):=h;cases e;show y _ g
  |again c'=>show#[h.1,codeAny_mono h.2 λ r O I=>by let(Y,g):=I;show y _ g]
 .show Ė h.1 Ê
def xV{Q₁:Ee}{r:Addr}{a b c:Int}{t u v:Tok}{n:V}(hh:lI)(C:IsRange s.heap r a b c t u v)(j:ae4 a b c)(hn:Bl a b c=n)(x:n<=Λ 20)
  (h:∀(h':Heap) (tk:V) (acc:ļ),(∀b o',aV0>o'->aY0>o')->ItemsOf (λ i v=>∃t,v=bp1 (a+i * c)) acc n->Q₁ ↑h'.objs.size^cK s (di0 acc) tk) :
  codeAny aQ2 A (.call (Ρ bK6) #[[aC0, ã r],[]]) (wants Q₁ E) s:=by
 apply codeAny_of_tree ?_;exact ű A.in1 (do checkBuiltinCall bK6 #[[aC0, ã r],[]];again (aE3 bK6 #[[aC0, ã r],[]])) _ _ s;apply C6^wpAny_of_eq (F.newCall_tuple_1 _)^C9 #[aa9 F.plain_tuple_new,CI F.entry_tuple_new];rw[oa F.plain_tuple_new];let G:=sub_tuple_self;let z:=init_tuple_lookup;let Y2:=madeHere_tuple;let y:bs6 ↑r bp := #[_,C,Y]
 wp_walk using wpAny_typeOf y,Vl (A:=A.in1) hh C j hn (av9 x)
 intro h' tk acc I o;exact AM _ (FT acc.toList.toArray) (λ v=>ret v) _ _ _;ext Builtin.Tuple.tupleExact;let sz:Ĉ n:=av9 x;apply C6 (IT ?_^by exact Ĉ acc.toList.toArray.size;simp only[Array.toArray_toList];rw[o.1];show sz);apply E7;let e:acc.toList.toArray=acc:=Ê
 rw[e];show h h' tk acc I o
def U0{Q:Ee}{r:Addr}{a b c:Int}{t u v:Tok}{n:V}(hh:lI)(y:IsRange s.heap r a b c t u v)(e:ae4 a b c)(hn:Bl a b c=n)(o:n<=Λ 20)
  (hQ:∀(h':Heap) (tk:V) (acc:ļ),(∀b o',aV0>o'->aY0>o')->ItemsOf (λ i v=>∃t,v=bp1 (a+i * c)) acc n->cD8 h'.objs.size^cK s (di0 acc) tk) :
  rj w A (call aC0 [ã r]) Q E s:=by
 apply callType_codes (Q₁:=λ obj s₁=>s₁.TypeIs obj ŉ /\ Q obj s₁) F.called_tuple (F.typeCall_tuple_1 _) F.entry_object_init
  (xV (A:=A.in1) hh y e hn o λ h' tk acc x j=>#[#[_,cj2,Y],hQ h' tk acc x j])^ľ obj s₁ h₁
 show#[h₁.1,F.args_object_init_2 obj _,object_init_meets F.called_tuple.init.lookup F.called_tuple.made Á prog w A.in1 _ s₁ #[h₁.1,Y,h₁.2]]
#print PySem
namespace L2
open PySem PySem.Spec PyProof.Rows
variable{X:Cx}
def QnY:∀{ns:Ĥ}{us:Ď},bW9=sj->(∀(j:V)(u:Value)(n:Int),Iq us>u->Iq ns>n->∃t,u=bp1 n)->fx nz:=by
 intro e;induction e with
 |nil =>
  intro q1 h _;cases q1 with
  |nil=>show i9
  |cons _ _=>cases h
 |cons n ns c =>
  intro q1 h f;cases q1 with
  |nil=>cases h
  |cons u us=>show Φ (f 0 u n Y Y) (c (Nat.succ.inj h) λ j v m a b=>f (j+1) v m a b)
def oV(a c:Int)(n:V):Ĥ:=mx n^λ(i:V)=>a+A4 * c
def Qd9{a c:Int}{n:V}{acc:ļ}(h:ItemsOf (λ i v=>∃t,v=bp1 (a+i * c)) acc n):Vals (mr (oV a c n) Y1.int) acc.toList:=by
 apply QnY (my oV h.1) λ j u m h1 h2=>?_;let(t,e):=h.2 j u cb2;let o:j<n:=mm (Ÿ h2) oV
 have:m=a+bt9 * c:=by simp[oV,o]at h2;show h2.symm
 subst this;show#[t,e]
def Qm3{p p' pos c:Pos}(x:L6 ŉ)(y:cj ŉ)(Y2:L6 bp)(L:cj bp)(G:dc)(ha:PA X [a,b] ta)
  (hs:Î [a,b]=[Ξ a,Ξ b]:=by rfl) (hs2:Î [b]=[Ξ b]:=by rfl) (hs3:Î [eS bp p' [a,b] c]=[Ξ^eS bp p' [a,b] c]:=by rfl) :
  a7 (bg8 ŉ [eS bp p' [a,b] c])^λ σ H Q=>ta σ H λ vs v=>∃i j:Int,vs=[ft,bN3]/\(-aC4<=i/\i<aC4 /\ -aC4<=j/\j<aC4)/\OA (j-i)<=Λ 20/\∀l,ų^v l->cD8 l^upd v l^õ^mw^oV i 1^OA (j-i):=by
 intro E s σ H Q I h;apply NG^ja I x y boot_tuple ?_;apply dP ?_ hs3 Y;rw[hs3];exact ű _ (spliced<|Ξ^eS bp p' [a,b] c::[]) _ _ s;apply NF^Call_^ja I Y2 L boot_range^dP (dv1 (ha c E s σ H _ I h) us s1 vs v r1) (Ϗ hs hs2)^ö hs2;let(i,j,e,(q1,P,R,U),F,q):=q1;subst e;cases r1 with
 |cons r z =>
  cases z with
  |cons r' z =>
   cases z;let(t,Y):=r;let(t',Y):=r';apply call_range_2 ab4;apply U0 (n:=OA (j-i)) (I1.ok.hd G) bk3 (small_one q1 P R U) aX3 F λ h' tk acc k O=>?_
   let C:cF6 E v^aC6 s1 tk:=I1.kept λ b o e=>k b o ay7;let hf:ų^v h'.objs.size:=C.hok.fresh Ĕ;apply#[ã h'.objs.size,upd v h'.objs.size (õ<|mw<|oV i 1<|OA<|j-i),C.laid (t':=tk) (λ b u e=>ay7) Ĕ ?_,Y,q _ hf];show#[by rw[Br];simp only[oV,Br,List.length_range];show av9 F,acc.toList,Qd9 O,#[_,cj2,Y,_,Y]]
#print L2
namespace D
open PySem PySem.Spec PyProof.Rows L2
def QgP(l:Addr)(items:ļ)(n:V)(i:av5)(x:Int)(u:Tok)(c:de9^hV^Builtin.List.listFitsIndex x)(e:¬items.size * x.toNat >= (Λ 63-1) / 8)(a:de9<|aG5<|items.size * x.toNat):
  Meets (Builtin.«list.__mul__» #[[ã l,lT x u],[]])^λ_ R s=>Č l>{ cls:=aI1, dict:=none,data:=.seq items n,slots:=i }/\R (.ok^.ret aI5)^cK s (Ŗ^ϴ cls (PF Đ)^Data.seq^List.foldl (λ j o=>j++o) hZ^ă (Ř items.isEmpty 0 x.toNat) items) s.toks :=
 .of_wp λ prog w A R s h=>by
  let(J,g,d,tk,os):=s;let(hl,h):=h;let hsz:=PySem.AutoListH.joined_fits a
  wp_walk;apply wpAny_ite_false (Ec^Nat.not_lt.mpr hsz) ?_;wp_walk;show#[_,Y,h]
def Qgz(a:Int)(t:Tok)(l:Addr)(items:ļ)(n:V)(c:av5):
  Meets (Builtin.«int.__rmul__» #[[bp1 a,ã l],[]])^λ_ R s=>Č l>{ cls:=aI1, dict:=none,data:=.seq items n,slots:=c }/\R (.ok^.ret Value.notImplemented) s :=
 .of_wp λ prog w A R s h=>by let(J,g,d,tk,os):=s;let(hl,h):=h;wp_walk;show#[_,Y,h]
def QiR(v:Value):bT n a ļ<|(ă n ⟨v⟩).foldl (λ i j=>i++j) a=a++aA4^ă n v:=by
 intro e;induction e with
 |zero=>intro a;simp
 |succ n c=>intro a;rw[List.replicate_succ,List.foldl_cons,c,List.replicate_succ];refine Array.ext';simp
variable{X:Cx}{e a b:Expr}{f:aD}{pos:Pos}
def BE:FS aq1^λ x y H Q=>∃l z n,x=ã l/\y=bG7/\tJ X.K l [z]/\0<=n/\n.toNat<=Ĺ/\∀p,cQ6->cX2^r6 p^aX9 z:=by
 intro O9 s σ H x y v u Q I rx ry h;let(l,z,n,Y,Y,hl,h0,h1,q):=h;cases rx;let(t,Y):=ry;let(Y2,L,((k1,C,o,c),i,e1,c1,d1,j),_):=wq hl;simp only at c1 d1 j;subst c1 d1 j;cases L with
 |cons r O =>
  cases O;rename_i w;let hz:(([w]:Ď).toArray.size) * n.toNat=n.toNat:=Ê
  apply wpAny_binaryOp_repeat_ref (T := Đ) (U := ba6) Á #[_,e1,Y] (λ s'=>typeIs_int s' n t) noFill_list_mul F.fills_int_mul F.slot_int_rmul repeat_list F.slot_int_index.lookup
  ^call_meets F.slot_int_rmul (typeIs_int s n t) F.entry_int_rmul (F.args_int_rmul_2 _ _) (Qgz n t l _ i c)
    #[e1,Y,#[_,e1,Y],call_meets F.slot_list_mul #[_,e1,Y] F.entry_list_mul (F.args_list_mul_2 _ _)
     (QgP l _ i c n t (by simp[Builtin.List.listFitsIndex];lia) (ĩ hz)^by rw[hz];simp[Builtin.List.listTooLong,sizeLine];lia)
     (bI0 e1)]
  let E:List.foldl (λ R x2=>R++x2) hZ^ă (Ř ([w]:Ď).toArray.isEmpty 0 n.toNat)^aA4 [w]=aA4^aX9 w:=by rw[av7];have:=QiR w n.toNat hZ;simpa using this
  rw[E];let P:Vals (aX9 z)^aX9 w:=by
   generalize n.toNat=m;induction m with
   |zero=>show i9
   |succ m G=>show Φ r G
  show#[ã _,_,I.lnew (t':=s.toks) P (Æ List.length_replicate^av9 h1),Y,q _ I.fresh]
def Fe:DV->bS
 |.lst [d],.int n=>do ag (0<=n/\n.toNat<=Ĺ);al9 (aX9 d)
 |x,y=>su x y
def Qco{K:Aa}(r:bp5 z):∀n:V,me (ă n d) (ă n z):=by
 intro i;induction i with
 |zero=>show au.nil
 |succ n c=>ext List.replicate au;show#[z,_,Y,r,c]
def Qqb:P2 X aq1 Fe:=by
 intro c s σ H x y v u Q I rx ry h;let(ρ,B,J,G,Y2,d,hp',W,i,j,e,k):=h;unfold Fe at e;split at e
 .rename_i d0 n;let(_,hp1,e1,o):=Ŧ;let(r,Y):=aL3;let(Y,Y):=Qm o;let(h0,h1):=Eb r;let(l,vs,Y,L,F,C):=i.b_;let(z,Y,E):=C.bL;show BE c s σ H _ _ v u Q I rx ry #[l,z,n,Y,j.bx,F,h0,h1,qy W (Qco E _) k]
 .show NP c s σ H x y v u Q I rx ry #[ρ,B,J,_,_,d,hp',W,i,j,e,k]
def Ng:DV->bS
 |.ref n,.lst c=>do
  match <- LG with
  |.lst xs=>do ah6 (xs++c);al9 (xs++c)
  |_=>failure
 |x,y=>Zm x y
def Qp8:P2 X aq0 Ng:=by
 intro i s σ H x y v u Q I rx ry h;let(ρ,B,J,O,P,d,hp',W,z,C,e,k):=h;unfold Ng at e;split at e
 .rename_i n U
  let(o,hp1,e1,c):=Ŧ;let(E,Y):=bl6;cases o with
  |aJ _=>cases c
  |ins _ _=>cases c
  |lst xs =>
   let(_,hp1,F,G):=Qh c;let(Y2,Y):=QI F;let(Y,Y):=Qm G;let(l,Y,_,vs,h1,j):=tT z E;let(b,ws,Y,R,L,r):=C.b_;let hz:Ĉ<|av6+⇑ws:=aG9 (jB Y2) Am cI2 mz this
   show BF i s σ H _ _ v u Q I rx ry #[l,b,vs,ws,Y,Y,ph,L,hz,qy W (au.append j r) k]
 .show Z3 i s σ H x y v u Q I rx ry #[ρ,B,J,_,_,d,hp',W,z,C,e,k]
def Dh(f:cu):aD:=IP<|do let xs <- ϰ;let ds <- Er xs;ah6 ds;ï rc
def Qhk{K:Aa}:∀ns:Ĥ,me dA dA:=by
 intro i;induction i with
 |nil=>show au.nil
 |cons n ns c=>rw[Ba,Ba];ext au;show#[_,_,Y,Jd,c]
def QdT(i:Int)(n:V):Zl i n=mw^oV i 1 n:=my Zl oV
def QlX{f:cu}{p p' c:Pos}(v:cj ŉ)(L:cj bp)(I:dc)(ha:DA X [a,b] f)(u:L6 ŉ := by rfl)(Y2:L6 bp := by rfl)
  (x:Î [a,b]=[Ξ a,Ξ b]:=by rfl) (hs2:Î [b]=[Ξ b]:=by rfl) (hs3:Î [eS bp p' [a,b] c]=[Ξ^eS bp p' [a,b] c]:=by rfl) :
  cl7 ŉ [eS bp p' [a,b] c]^Dh f :=
 (Qm3 u v Y2 L I ha x hs2 hs3).imp λ σ H Q y=>by
  let(Z,env,ρ,B,J,d,hp',S,e,k):=y;let(xs,hp1,e1,z):=Ŧ;let(ds,hp2,C,E):=Qh z;let(i,j,Y,h1,h2,Y,Y):=Qhp C;let(_,O,F,G):=Qh E;let(x,Y):=QI F;let(Y,Y):=Qm G;apply bY5 S^λ vs ρ1 B1 H1 g1 S1 P=>?_;let o:=Eb h1;let r:=Eb h2;let hl:OA (j-i)<=Ĺ:=cR7 (Eb x) ZC
  apply#[i,j,P.ints2,#[o.1,o.2,r.1,r.2],av9 hl,yO S1.wo (Qhk _) ?_];rw[<- QdT];show cf6
variable{X:Cx}{e a:Expr}{f:aD}{pos:Pos}
def wj:DV->OB
 |.lst ds=>ï aI6
 |.tup ds=>ï aI6
 |.ref n=>do
  match <- LG with
  |.lst ds=>ï aI6
  |_=>failure
 |_=>failure
def Gw{α β:pZ}{xs:Fa}{c:Â β}(h:ŧ=bT6):xs.isEmpty=c.isEmpty:=by cases xs<;>cases c<;>first|rfl|cases h
def QnR{K:Aa}{J hp':Hs}{k:Bool}(W:bR4)(r:bp6)(h:wj d J>(Tk k)):J=hp'/\Nh K v H k:=by
 cases d with
 |lst ds=>let(Y,Y):=cK9;let(a,xs,Y,y,j,i):=r.b_;show#[Y,ë #[xs,j,Ϻ (Gw df0)]]
 |tup ds=>let(Y,Y):=cK9;let(a,xs,Y,y,j,i):=r.tupI;show#[Y,aU9 #[xs,j,Ϻ (Gw df0)]]
 |ref n =>
  let(o,hp1,e1,c):=Qh h;let(u,Y):=bl6;cases o with
  |lst C=>let(Y,Y):=Qm c;let(a,Y,_,z,h1,x):=tT r u;show#[Y,ë #[z,ph,Ϻ (Gw rk)]]
  |aJ _=>cases c
  |ins _ _=>cases c
 |non=>cases h
 |bl _=>cases h
 |int _=>cases h
 |str _=>cases h
def zV(f:aD):cH:=IP<|do wj (<- ϰ)
def HY(h:cl9)(j:∀whole,cz6 e=bw9 v whole e.pos^aX2 [v] v:=by intro _;rfl):DT X e^zV f :=
 (Qka h j).imp λ σ H Q c=>by let(Z,env,ρ,B,J,d,hp',S,e,k):=c;let(x,hp1,e1,i):=Ŧ;apply cG9 o;let(Y,t):=QnR S1.wo o i;show#[d,t,k ρ1 B1 H1 g1 S1.wo]
def RT(d:DV)(c hi:Ć):Ģ:=match d with
 |.ref n=>do
  match <- LG with
  |.lst ds=>al9 (Ve ds c hi)
  |_=>failure
 |d=>lu d c hi
def pQ(f:aD)(c hi:mY):aD:=IP^bb5 d ϰ l bI3 h (hi env)^RT d l h
def QtA(K:Aa):Y1->Ć->Ć->Hp->B6:=λ x c hi H Q=>∃ρ B J d r hp',bR4/\dt2/\RT d c hi J>cz0/\k_ K ρ B H r hp' Q
def Qsb:SlR X^QtA X.K:=by
 intro c s σ H x v vl vu lo hi sl Q I rx hs pl pu h;let(ρ,B,J,d,r,hp',W,j,e,k):=h;cases d with
 |ref n =>
  let(o,hp1,e1,i):=Ŧ;let(u,Y):=bl6;cases o with
  |lst ds=>let(Y,Y):=bY3;let(a,Y,_,xs,h1,y):=tT j u;show DZ c s σ H _ v vl vu lo hi sl Q I rx hs pl pu #[a,xs,Y,ph,qy W (GV y) k]
  |aJ _=>cases i
  |ins _ _=>cases i
 |lst ds=>show MK c s σ H x v vl vu lo hi sl Q I rx hs pl pu #[ρ,B,J,_,r,hp',W,j,e,k]
 |tup ds=>show MK c s σ H x v vl vu lo hi sl Q I rx hs pl pu #[ρ,B,J,_,r,hp',W,j,e,k]
 |non=>cases e
 |bl _=>cases e
 |int _=>cases e
 |str _=>cases e
def MW{i hi:S9}{o j:mY}(h:cl9)(hl:DO X i o)(hh:DO X hi j):ϓ (cx7 e^.Slice i hi none p2)^pQ f o j :=
 PY (vW Qsb h hl hh) (λ σ H Q y=>by let(Z,env,ρ,B,J,d,hp',S,e,k):=y;let(x,hp1,e1,e):=Ŧ;let(l,hp2,z,e):=Ŧ;let(u,c,C,e):=Ŧ;apply cG8 E^nU.run S1 z λ ρ2 B2 H2 g2 S2=>nU.run S2 C λ ρ3 r H3 g3 S3=>?_;show#[ρ3,r,c,x,d,hp',S3.wo,ϸ bY4 _ _ E,e,Fu cf4])
#print D
namespace TP
def qn(n m:V):V:=(aX0+m-1) / m
def Jc{n m:V}(c:1<=m):1<=wM/\aX0<=wM * m/\(wM-1) * m<aX0:=by
 ext qn;let a:=bK7<|aX0+m-1;let b:=Nat.mod_lt (aX0+m-1) (show 0<m by omega);let e:m * ((aX0+m-1) / m)=(aX0+m-1) / m * m:=Nat.mul_comm _ _;let h1:1<=(aX0+m-1) / m:=by rw[Nat.le_div_iff_mul_le ic];omega
 apply#[h1,ic,?_];have:((aX0+m-1) / m-1) * m=(aX0+m-1) / m * m-m:=RZ Nat.sub_mul
 omega
def sx(n m:V)(fork:Bool)(k:V):V:=pH k wM n<|É (bO2/\1<wM/\n=(wM-1) * m+1/\k+1=wM) (k * m-1)<|k * m
def HN(n m:V)(fork:Bool):sx n m fork wM=n:=hp sx pv
def UN{n m:V}(a:1<=m)(fork:Bool):sx n m fork 0=0:=by
 have:=(bm3 n a).1;ext sx;rw[ec];split
 .lia
 .lia
def DM{n m k:V}(h:k<wM):sx n m false k=k * m:=by ext sx;rw[ec,av7]
abbrev Rw:=da7
def Za(rows:Rw)(m:V)(fork:Bool)(k:V):Rw:=cC8 (rows.drop^aT0 m fork k)<|aT0 m fork (k+1)-aT0 m fork k
def Qda{rows:Rw}{m k:V}(a:1<=m)(h:k<NW):Za rows m false k=cC8 (rows.drop<|k * m) m:=by
 let(h1,h2,h3):=bm3 rows.length a;ext Za;rw[DM h];by_cases e:k+1=NW
 .rw[e,HN];let c:k * m=(NW-1) * m:=n9 e
  let h4:NW * m=k * m+m:=by rw[<- e,Nat.add_mul,Nat.one_mul]
  rw[Cf^Æ Bq Ĕ,Cf^ĩ Bq]
 .rw[DM À,Nat.add_mul,Nat.one_mul];congr 1;lia
def Nv{n m:V}(a:1<=m){fork:Bool}(hf:bO2->3<=m)(hn:1<=n){k:V}(h:k<wM):sx n m fork k<sx n m fork (k+1):=by
 let(h1,h2,h3):=bm3 n a;let e1:(k+1) * m=k * m+m:=ab6
 ext sx;rw[C7 (ic:¬ k=wM)];by_cases e:k+1=wM
 .rw[PM];let i:k * m=(wM-1) * m:=n9 e
  split<;>omega
 .rw[EF,C7 ic];by_cases c:bO2/\1<wM/\n=(wM-1) * m+1/\k+1+1=wM
  .rw[C8 c];have:=hf c.1;omega
  .rw[C7 c];omega
def Nx{n m:V}(a:1<=m)(fork:Bool){k:V}(h:k<=wM)(hn:1<=n):sx n m fork k<=n:=by
 let(h1,h2,h3):=bm3 n a;ext sx;by_cases e:k=wM
 .rw[PM];show Ĕ
 .rw[EF];have:k * m<=(wM-1) * m:=bb À;split<;>lia
def qG{rows:Rw}{m:V}(c:1<=m){fork:Bool}(hf:bO2->3<=m)(hn:ae5 1){k:V}(h:k<NW):⇑(Za rows m fork k)=aT0 m fork (k+1)-aT0 m fork k/\1<=⇑(Za rows m fork k):=by let a:=Nv c hf hn h;let b:=Nx (n:=rows.length) c fork (k:=k+1) À hn;ext Za;rw[A8,Bq];lia
def CN(n m:V):ź:=pH (n % m) 1 (ă (n / m-1) m++[m-1,2])^É (0<n % m) (ă (n / m) m++[n % m])^ă (n / m) m
def vN(q m:V)(f:V->V)(h:∀k,k<q->f k=m):mx q f=ă q m:=by rw[List.eq_replicate_iff];apply#[Ê,Ż b a];let(k,c,Y):=bK8 a;show h k (bm4 c)
def QlK{n m:V}(I:3<=m)(hn:2<=n):CN n m=mx wM (λ k=>sx n m true (k+1)-sx n m true k):=by
 let(h1,h2,h3):=bm3 n (ī<|1<=m);let E:aX0=n:=À
 rw[E]at h2 h3;let v:=bK7 n;let lt:=Nat.mod_lt n<|ī<|0<m;let G:m * (n / m)=n / m * m:=Nat.mul_comm _ _;let j:∀k:V,(k+1) * m=k * m+m:=λ k=>ab6
 let i:wM=pH (n % m) 0 (n / m) (n / m+1):=by
  let low:∀x:V,(x-1) * m<n->n<=x * m->1<=x->x=wM:=λ x a b c=>by
   obtain l|l|l:=Nat.lt_trichotomy x wM
   .have:x * m<=(wM-1) * m:=bb À;lia
   .show l
   .have:wM * m<=(x-1) * m:=bb À;lia
  by_cases r:n % m=0
  .rw[C8 r];let q1:1<=n / m:=by
    obtain z|z:=ac0 (n / m)
    .rw[z,Nat.mul_zero]at v;lia
    .show z
   have:=j<|n / m-1;rw[ac1 q1]at this;show(low _ À À q1).symm
  .rw[C7 r];show(low _ (ĩ Nat.add_sub_cancel) (ĩ j)^bK9 1).symm
 ext CN;by_cases C:n % m=1
 .rw[C8 C];rw[ec]at i;let q1:1<=n / m:=by
   obtain z|z:=ac0 (n / m)
   .rw[z,Nat.mul_zero]at v;lia
   .show z
  let e:wM=(n / m-1)+1+1:=À
  let u:n=(wM-1) * m+1:=by rw[i];simp;lia
  let s:∀k,k+1<wM->sx n m true k=k * m:=λ k h=>by ext sx;rw[ec,ec]
  let F:sx n m true (n / m)=n / m * m-1:=by ext sx;rw[ec,C8 #[Y,À,u,À]]
  let o:=HN n m true;rw[e,List.range_succ,List.range_succ,List.map_append,List.map_append,vN (n / m-1) m _ (λ k y=>by rw[s k À,s (k+1) À,j];lia)];let m1:=j<|n / m-1;rw[ac1 q1]at m1;simp only[Ba,List.map_nil,A7,List.cons_append,List.nil_append];congr 1;rw[ac1 q1,s (n / m-1) À,F,ī<|n / m+1=wM,o];congr 1
  .lia
  .congr 1;lia
 .rw[C7 C];let s:∀k,k<wM->sx n m true k=k * m:=λ k h=>by
   ext sx;rw[ec,C7 ?_];rintro⟨_,_,c,_⟩;by_cases r:n % m=0
   .rw[C8 r]at i;let q1:1<=n / m:=À
    let m1:=j<|n / m-1;rw[ac1 q1]at m1;rw[i]at c;lia
   .rw[C7 r]at i;rw[i]at c;simp at c;lia
  let o:=HN n m true;by_cases r:0<n % m
  .rw[C8 r];rw[ec]at i;rw[i,List.range_succ,List.map_append,vN (n / m) m _ (λ k y=>by rw[s k À,s (k+1) À,j];lia)];congr 1;simp only[Ba,List.map_nil];rw[<- i,o,s (n / m) À];congr 1;lia
  .rw[C7 r];rw[aq9]at i;let q1:1<=n / m:=À
   rw[i];apply(vN (n / m) m _^Ż k y).symm;rw[s k À];by_cases e:k+1=wM
   .rw[e,o];have:wM * m=k * m+m:=dj0 e j
    rw[i]at this;lia
   .rw[s (k+1) À,j];lia
def YZ(rows:Rw)(m:V)(fork:Bool)(k:V):Int:=((Za rows m fork k).headD (0,0)).1
def xG(rows:Rw)(m:V)(fork:Bool)(first:V):Rw:=mx NW^λ k=>(YZ rows m fork k,Ñ (first+k:V))
def Ki(rows:Rw)(m:V)(fork:Bool)(first:V):⇑(xG rows m fork first)=NW:=Ğ xG
def BH{n m:V}(a:2<=m)(hn:2<=n):wM<n:=by
 let(h1,h2,h3):=bm3 n (ī<|1<=m);let c:aX0=n:=À
 rw[c]at h3;have:(wM-1) * 2<=(wM-1) * m:=ż a;lia
#print TP
namespace D
open PySem PySem.Spec PyProof.Rows L2
def Wa(ds:Þ)(a b:V)(h:a<=b):D.Ve ds (wh a)^wh b=cC8 dc1 (b-a):=by
 ext D.Ve;rw[HT.sIx_nat,HT.sIx_nat];obtain q|q:=cr6 a
 .rw[aS5 q];obtain c|c:=cr6 b
  .rw[aS5 c]
  .rw[ah7 c,Cf Ê,Cf Β]
 .rw[ah7 q,ac7 q,ac7 Ĕ];simp
variable{env:En}{J hp1:Hs}{f g h:aD}{ds:Þ}{d:DV}
def QkH{a b:V}(hf:i0>(ū,J))(j:bH0>(ĕ a,J))(hh:h env J>(ĕ b,J))(c:a<=b):bO f aJ3 (Zi h) env J>(Ù<|cC8 dc1<|b-a,J):=by
 ext bO Zi;rw[aH1];let e1:(sQ i cY8 bu0:M Ć) J>(wh a,J):=ö^Qe j
 let e:(sQ i (cY7^h env) bu0:M Ć) J>(wh b,J):=ö^Qe hh
 rw[L9,Qe e,<- Wa ds a b c];rfl
def QnP{a:V}(hf:i0>(ū,J))(c:bH0>(ĕ a,J)):bO f aJ3 ZE env J>(Ù dc1,J):=by
 ext bO Zi ZE;rw[aH1];let e1:(sQ i cY8 bu0:M Ć) J>(wh a,J):=ö aP2
 rw[L9,Qe (Y:(aU7:M Ć) J>(none,J)),<- xW ds a];rfl
def QhB{a b:V}(hf:i0>(d,J))(j:bH0>(ĕ a,J))(hh:h env J>(ĕ b,J))(c:a<=b)(hd:d=ū∨∃n,d=NO/\YP>ū):pQ f aJ3 (Zi h) env J>(Ù<|cC8 dc1<|b-a,J):=by
 ext pQ Zi;rw[aH1];let e1:(sQ i cY8 bu0:M Ć) J>(wh a,J):=ö^Qe j
 let e:(sQ i (cY7^h env) bu0:M Ć) J>(wh b,J):=ö^Qe hh
 rw[L9,Qe e,<- Wa ds a b c];obtain Y|⟨n,Y,hn⟩:=hd
 .rfl
 .exact(LG >>= _) J=_;rw[cd4];rfl
def QkW{a n:V}(hf:i0>(NO,J))(hn:YP>ū)(c:bH0>(ĕ a,J)):pQ f aJ3 ZE env J>(Ù dc1,J):=by
 ext pQ Zi ZE;rw[aH1];let e1:(sQ i cY8 bu0:M Ć) J>(wh a,J):=ö aP2
 rw[L9,Qe (Y:(aU7:M Ć) J>(none,J)),<- xW ds a];exact(LG >>= _) J=_;rw[cd4];rfl
def qg{i:V}(hf:i0>(ū,J))(a:bH0>(ĕ i,J))(hd:FL>d):AK f g env J>(d,J):=by
 apply Qj hf a ?_;exact bH ū ↥A4 J=_;rw[Qmq (d:=d)]
 .rfl
 .rw[HR À^İ^Ÿ hd];show hd
def ZZ{i:V}(hf:i0>(rc,J))(a:bH0>(ĕ i,J))(hd:FL>d):AK f g env J>(d,J):=Qj hf a^Zx hd J
def zZ{i n:V}(hf:i0>(NO,J))(hn:YP>ū)(a:bH0>(ĕ i,J))(hd:FL>d):AK f g env J>(d,J):=Qj hf a^j7 hn hd
def xg(hf:i0>(ū,J)):wV ZG f env J>(dm7,J):=oC hf^Qb1 ds J
def Jq{n:V}(hf:i0>(NO,J))(hn:YP>ū):wV ZG f env J>(dm7,J):=oC hf^Qjg hn
def Gk{i j:Int}(hf:i0>(ft,J))(a:bH0>(bN3,J)):Qg Zm f g env J>(Í<|i+j,J):=Qj hf a Y
def GF{i j:Int}(hf:i0>(ft,J))(a:bH0>(bN3,J)):Qg zi f g env J>(Í<|i-j,J):=Qj hf a Y
def jQ{i j:V}(hf:i0>(ĕ i,J))(a:bH0>(ĕ j,J)):Qg Zm f g env J>(ĕ (i+j:V),J):=ψ^Gk hf a
def vj{i j:Int}(hf:i0>(ft,J))(a:bH0>(bN3,J)):Qg fu f g env J>(do5 j i,J):=Qj hf a Y
def Mc{i j:Int}(hf:i0>(ft,J))(a:bH0>(bN3,J)):Qg bV f g env J>(do5 i j,J):=Qj hf a Y
def Ot{i j:Int}(hf:i0>(ft,J))(a:bH0>(bN3,J)):Qg aV f g env J>(ŏ<|i==j,J):=Qj hf a^rM i j J
def yI{nw:Bool}{a:lZ}{idx:ź}{t:cH}{e:aD}{m:DV->DV}(i:a env J>(x4,J))(j:∀x∈ds,t (aX5 x) J>co7)(c:∀x∈ds,e (aX5 x) J>(m x,J))(hl:ê<Ĺ):Zd false a idx t e env J>(Ù^pc m,J):=hJ Zd (Qe i)^à (Qe^Qf5 (t:=λ d=>t aX6) (f:=λ d=>e aX6) ds j c hl) Y
def HV{i:V}(hf:i0>(d,hp1))(ha:T0>bu9)(hl:ê<Ĺ):BX i f env J>(ō<|br6<|ds++[d],hp1):=by ext BX;rw[aH1];simp only[ha];rw[C8^â (ê<lim) hl];rfl
#where
def SE{b:DV->aN}(Y2:V->En)(J:Hs)(ds:Þ)(c:∀(i:V) d,FL>d->b d bZ7 J>(MF<|i+1,J)):zW b ds ai1 J>(dr2,J):=by
 suffices h:∀(m i:V),m+i=ê->zW b bD2 bZ7 J>(dr2,J)by simpa using h ê 0 Y
 intro m;induction m with
 |zero =>
  intro i e;have:i=ê:=À
  subst this;rw[Cw];rfl
 |succ m j =>
  intro i e;let a:i<ê:=À
  rw[Bh a,SD^c i ds[i] bs8];show j (i+1) À
def QiS{b:DV->aN}(Y2:V->En)(W:V->Hs)(ds:Þ)(c:∀(i:V) d,FL>d->b d bZ7 as2>(MF<|i+1,W (i+1))):zW b ds ai1 bz8>(dr2,W ê):=by
 suffices h:∀(m i:V),m+i=ê->zW b bD2 bZ7 as2>(dr2,W ê)by simpa using h ê 0 Y
 intro m;induction m with
 |zero =>
  intro i e;have:i=ê:=À
  subst this;rw[Cw];rfl
 |succ m j =>
  intro i e;let a:i<ê:=À
  rw[Bh a,SD^c i ds[i] bs8];show j (i+1) À
def vd{b:DV->aN}(Y2:V->En)(W:V->Hs)(ds:Þ)(hl:ê<Ĺ)(a:∀(i:V) d,FL>d->b d bZ7 as2>(MF<|i+1,W (i+1))):jX x4 b Ĺ 0 ai1 bz8>(dr2,W ê):=by
 have:=QhS (b:=b) (env:=ai1) (J:=bz8) (Q:=λ r h=>r=dr2/\h=W ê) ds (λ i env h=>env=bZ7/\h=as2) hl rg (λ i d hd env h #[e1,e2]=>by subst e1 e2;show WP.of (a i d hd) rg)^λ env h #[e1,e2]=>#[cR1,e2]
 let(r,h,e,Y,Y):=this;show e
def oM(rows:TP.Rw)(m:V)(fork:Bool)(k:V):DV:=match je m fork k with
 | []=>Ě
 |r::_=>cb4
def km(rows:TP.Rw)(m:V)(fork:Bool)(k:V):DV:=õ^LL ((je m fork k).drop^É fork 1 0) r cb4
def Km(rows:TP.Rw)(m:V)(fork:Bool)(k:V):DV:=õ^LL (je m fork k) r^Í r.2
def XQ(rows:TP.Rw)(m:V)(fork:Bool)(k:V):DV:=õ [oM rows m fork k,km rows m fork k,Km rows m fork k]
def Jb(rows:TP.Rw)(m:V)(fork:Bool):Þ:=cW4 Pe m fork
def KJ(rows:TP.Rw)(m:V)(fork:Bool)(lv first:V)(k:V):DV:=õ [Í lv,km rows m fork k,Km rows m fork k,pH (k+1) Pe Ě<|oM rows m fork<|k+1,pH (k+1) Pe Ě^ĕ (first+(k+1):V)]
def Xw(rows:TP.Rw)(m:V)(fork:Bool)(lv first:V):Þ:=mx Pe^KJ rows m fork lv first
def jA{n i:V}{f:V->DV}(h:i<n):Ů^mx n f>(f i):=Ũ Bt^zu h
def Qj2(r:TP.Rw)(a:V):(aU r).drop a=aU^r.drop a:=hp aU List.map_drop
def Qj3(r:TP.Rw)(a:V):cC8 (aU r) a=aU^r.take a:=hp aU List.map_take
def BO(r:TP.Rw)(g:DV->DV):mr (aU r) g=r.map λ p=>g^õ [Í ix,Í p.2]:=Ą aU List.map_map
def M6:DV->DV
 |.tup (x::_)=>x
 |_=>Ě
def Qtp:DV->DV
 |.tup (_::y::_)=>y
 |_=>Ě
def Qla{c:cH}{n:V}(h:aS0>(Ν J)):Xh c b (n+1) env J>(rr,J):=Px h
#print D
namespace TR
def prs(p:Pg):da7:=aa2
def dR{xs c:Ĥ}{a b:Int}:(a,b)∈xs.zip c↔∃i:V,bC3>a/\Ů c>b:=by
 rw[Bu];constructor
 .rintro⟨i,h⟩;have:=NL h;show#[i,this.1,this.2]
 .rintro⟨i,h1,h2⟩;show#[i,List.getElem?_zip_eq_some.mpr #[h1,h2]]
def uN(a b:Ĥ)(n:V):cC8 (a.zip b) n=(a.take n).zip^b.take n:=List.take_zipWith
def uM(a b:Ĥ)(n:V):(a.zip b).drop n=(a.drop n).zip^b.drop n:=List.drop_zipWith
def O_{ks:Ĥ}(h:m5){i:V}{a k:Int}(ha:Ů ks>a):i<sT↔a<k:=by
 let(h1,h2):=xr h k;constructor
 .intro hi;have:a∈LB sT:=Bu.mpr #[i,i3 C4 bT7 ha];rw[h1]at this;simpa using ao0 this
 .intro hl;apply cs6^N1 hi;have:a∈ad2 sT:=Bu.mpr #[i-sT,i3 Ca (ī<|sT+(i-sT)=i) ha];rw[h2]at this;have:k<=a:=cl4 this
  lia
def Oi{ks:Ĥ}(h:m5){i:V}{a k:Int}(ha:Ů ks>a):i<mh↔a<=k:=by
 let(h1,h2):=zI h k;constructor
 .intro hi;have:a∈LB mh:=Bu.mpr #[i,i3 C4 bT7 ha];rw[h1]at this;simpa using ao0 this
 .intro hl;apply cs6^N1 hi;have:a∈cT9:=Bu.mpr #[i-mh,i3 Ca (ī<|mh+(i-mh)=i) ha];rw[h2]at this;have:k<a:=cl4 this
  lia
def HQ{ks:Ĥ}(h:m5){i:V}{k:Int}(hi:Ů ks>k):sT=i/\mh=i+1:=by let a:=not_congr^O_ (k:=k) h hi;let b:=(Oi (k:=k) h hi).mpr cM0;let c:=Qh9 h k;let d:=a.mpr À;lia
def QhK{p:Pg}(h:x5){k v:Int}:Ze p k>v↔(k,v)∈I0:=by
 ext Ze prs;rw[dR];constructor
 .intro e;by_cases q:sU=TN
  .rw[C8 q]at e;cases e
  .rw[C7 q]at e;let c:k∈p.ks:=dk2^λ z=>q^M2 z;let(i,hi):=Bu.mp c;have:=(HQ h hi).1;show#[i,hi,ì this e]
 .rintro⟨i,hi,hv⟩;let(a,b):=HQ h hi;rw[ec,a];show hv
def xm{p:Pg}{k v:Int}(h:(k,v)∈I0):k∈p.ks:=bJ8 i h1 (dR.mp h)^Aw h1
def Qbo{p:Pg}(h:x5)(hl:fA=μ)(k x:Int):prs^Q7 p k x=cC8 I0 sU++(k,x)::(I0).drop TN:=by ext Q7 prs;rw[List.zip_append^di3 A8 A8 hl,List.zip_cons_cons,uN,uM]
def QcR{p:Pg}(h:x5)(hl:fA=μ)(k:Int):prs^Tq k=cC8 I0 sU++(I0).drop TN:=by ext without prs;rw[List.zip_append^di3 A8 A8 hl,uN,uM]
def kE{p:Pg}(h:x5)(k:Int){a b:Int}:((a,b)∈cC8 I0 sU∨(a,b)∈(I0).drop TN)↔a≠k/\(a,b)∈I0:=by
 let c:∀{i:V},Ů I0>(a,b)->Ů p.ks>a:=λ e=>(NL e).1;constructor
 .rintro(m|m)
  .let(i,hi):=Bu.mp m;rw[C4]at hi;by_cases q:i<sU
   .rw[C8 q]at hi;have:=(O_ h^c hi).mp q;show#[À,Aw hi]
   .rw[C7 q]at hi;cases hi
  .let(i,hi):=Bu.mp m;rw[Ca]at hi;have:=(not_congr^Oi (k:=k) h^c hi).mp À;show#[À,Aw hi]
 .rintro⟨ne,m⟩;let(i,hi):=Bu.mp m;obtain l|l:=Int.lt_or_gt_of_ne ne
  .have:=(O_ h^c hi).mpr l;show ë (Bu.mpr #[i,i3 C4 (C8 this) hi])
  .have:=(not_congr^Oi (k:=k) h^c hi).mpr À;show ċ (Bu.mpr #[i-TN,i3 Ca (ī<|TN+(i-TN)=i) hi])
def Qbn{p:Pg}(h:x5)(hl:fA=μ)(k x:Int){a b:Int}:(a,b)∈prs^Q7 p k x↔(a=k/\b=x)∨(a≠k/\(a,b)∈I0):=by
 rw[Qbo h hl,Ah,Bj,<- kE h k];constructor
 .rintro(m|m|m)
  .show aU9 m
  .cases m;show dn4
  .show wZ m
 .rintro(⟨Y,Y⟩|m|m)
  .show ċ ϊ
  .show ë m
  .show wZ m
def QcQ{p:Pg}(h:x5)(hl:fA=μ)(k:Int){a b:Int}:(a,b)∈prs^Tq k↔a≠k/\(a,b)∈I0:=by rw[QcR h hl,Ah,<- kE h k]
def Qdk{P:Pg}(hz:P.lv=0)(n:V):prs^Zk P n++prs EZ=prs P:=by
 let a:bz3=IY:=hp ZR^C8 hz
 ext prs Zk Q6;rw[a];exact(ab5).zip^P.ps.take IY++(P.ks.drop IY).zip^P.ps.drop IY=P.ks.zip P.ps;rw[<- uN,<- uM,List.take_append_drop]
def Lf(S:Sh)(k v:Int):ä:=Ti n V p<|fI>p/\aQ4/\(k,v)∈I0
def cB(S:Sh)(F:Eo):ä:=∀k v,cI9>v↔Lf S k v
def oJ(F:Eo)(k x:Int):Int->Ć:=λ j=>Dt j k x^F j
def uB(F:Eo)(k:Int):Int->Ć:=λ j=>Nf j k^F j
def Lo(S:Sh)(n:V)(k v:Int):ä:=Ti m V p<|m≠n/\TM>p/\aQ4/\(k,v)∈I0
variable{S:Sh}{bg:Bg}{n:V}{p P:Pg}{k v:Int}{F:Eo}
def Tree.len0(T:nj)(hn:fI>p)(hz:aQ4):fA=μ:=cR7 (cw9).parts^C8 hz
def Lf.split(hn:fI>p)(hz:aQ4):Lf S k v↔Lo S n k v∨(k,v)∈I0:=by
 constructor
 .rintro⟨m,q,h1,h2,h3⟩;by_cases e:m=n
  .subst e;rw[hn]at h1;cases h1;show ċ h3
  .show ë #[m,q,e,h1,h2,h3]
 .rintro(⟨m,q,_,h1,h2,h3⟩|h)
  .show#[m,q,h1,h2,h3]
  .show#[n,p,hn,hz,h]
def Tree.eY(T:nj)(hn:fI>p)(hz:aQ4)(h1:bU8 k)(h2:dt1):¬ Lo S n k v:=by
 rintro⟨m,q,e,j,hq,h3⟩;let ok:=mn m q j;let i:=xm h3;obtain⟨h,u,a,b,c⟩|⟨h,u,a,b,c⟩:=T.dis n m p q hn j À (λ x=>av4)
 .have:=h2 h a;have:=ok.low k i u b;lia
 .have:=h1 u b;have:=ok.high k i h a;lia
def Tree.lF(T:nj)(c:cB S F)(hn:fI>p)(hz:aQ4)(h1:bU8 k)(h2:dt1):Ze p k=cI9:=by
 let i:=(cw9).sorted;let key:∀v,Ze p k>v↔cI9>v:=λ v=>by rw[QhK i,c k v,cs7 hz];show#[.inr,λ h=>h.elim (λ h=>Ė h^T.eY hn hz h1 h2) id]
 cases e:cI9 with
 |some v=>show(key v).mpr e
 |none =>
  cases a:Ze p k with
  |none=>rfl
  |some v=>rw[(key v).mp a]at e;cases e
def Qhx{w:Wk}(hn:fI>p)(hz:aQ4)(hl:P.lv=p.lv)(k v:Int):Lf ck1.1 k v↔Lo S n k v∨(k,v)∈prs P:=by
 let ln:=al4;ext QH;by_cases a:ϕ<=S.O4
 .rw[C8 a];constructor
  .rintro⟨m,q,h1,h2,h3⟩;obtain⟨Y,Y,_⟩|⟨e,h⟩:=Q4 h1
   .show ċ h3
   .show ë #[m,q,e,h,h2,h3]
  .rintro(⟨m,q,e,h1,h2,h3⟩|h)
   .show#[m,q,fh ((sW n P)[m]?=_) bX4 h1,h2,h3]
   .show#[n,P,AE (ID^sW n P=_) (As ln),À,h]
 .rw[C7 a];let hv:=Qdk (P:=P) À Ô;constructor
  .rintro⟨m,q,h1,h2,h3⟩;obtain⟨Y,Y,_⟩|⟨e,h⟩:=Q4 (xs:=cp2) h1
   .show ċ (ì hv^A0 _ h3)
   .obtain⟨Y,Y⟩|h:=QW h
    .show ċ (ì hv^Ai _ h3)
    .show ë #[m,q,e,h,h2,h3]
  .rintro(⟨m,q,e,h1,h2,h3⟩|h)
   .show#[m,q,fh (((cp2).set n NI)[m]?=_) bX4 (XV h1),h2,h3]
   .rw[<- hv]at h;obtain h|h:=CB h
    .show#[n,NI,AE (ID^(cp2).set n NI=_) (As Β),mB (P.lv=0),h]
    .show#[Ô,EZ,by exact((cp2).set n NI)[Ô]?=_;rw[Ak À];simp,mB (P.lv=0),h]
def Qhw{w:Wk}(hn:fI>p)(hz:bs3)(hl:P.lv=p.lv)(k v:Int):Lf ck1.1 k v↔Lf S k v:=by
 let ln:=al4;ext QH;by_cases a:ϕ<=S.O4
 .rw[C8 a];constructor
  .rintro⟨m,q,h1,h2,h3⟩;obtain⟨Y,Y,_⟩|⟨e,h⟩:=Q4 h1
   .lia
   .show#[m,q,h,h2,h3]
  .rintro⟨m,q,h1,h2,h3⟩;let e:m≠n:=λ e=>by subst e;rw[hn]at h1;cases h1;lia
   show#[m,q,fh ((sW n P)[m]?=_) bX4 h1,h2,h3]
 .rw[C7 a];constructor
  .rintro⟨m,q,h1,h2,h3⟩;obtain⟨Y,Y,_⟩|⟨e,h⟩:=Q4 (xs:=cp2) h1
   .have:P.lv=0:=h2;lia
   .obtain⟨Y,Y⟩|h:=QW h
    .have:P.lv=0:=h2;lia
    .show#[m,q,h,h2,h3]
  .rintro⟨m,q,h1,h2,h3⟩;let e:m≠n:=λ e=>by subst e;rw[hn]at h1;cases h1;lia
   show#[m,q,fh (((cp2).set n NI)[m]?=_) bX4 (XV h1),h2,h3]
def Tree.nP(T:nj)(i:cB S F)(hn:fI>p)(hz:aQ4)(h1:bU8 k)(h2:dt1){x:Int}(c:∀a b,Lf S' a b↔Lo S n a b∨(a,b)∈prs^Q7 p k x):cB S'^oJ F k x:=λ a b=>by
 let j:=(cw9).sorted;rw[c,Qbn j^T.len0 hn hz];ext oJ;by_cases e:a=k
 .subst e;rw[pv];constructor
  .intro h;cases h;show aU9 rg
  .rintro(h|⟨_,Y⟩|⟨h,_⟩)
   .show Ė h (T.eY hn hz h1 h2)
   .rfl
   .show cu8 h
 .rw[EF,i,cs7 hz];constructor
  .rintro(h|h)
   .show FE
   .show wZ #[e,h]
  .rintro(h|⟨h,_⟩|⟨_,h⟩)
   .show FE
   .show Ė h e
   .show ċ h
def Tree.nQ(T:nj)(i:cB S F)(hn:fI>p)(hz:aQ4)(h1:bU8 k)(h2:dt1)(c:∀a b,Lf S' a b↔Lo S n a b∨(a,b)∈prs^Tq k):cB S'^uB F k:=λ a b=>by
 let j:=(cw9).sorted;rw[c,QcQ j^T.len0 hn hz];ext uB;by_cases e:a=k
 .subst e;rw[pv];constructor
  .intro h;cases h
  .rintro(h|⟨h,_⟩)
   .show Ė h (T.eY hn hz h1 h2)
   .show cu8 h
 .rw[EF,i,cs7 hz];show#[λ h=>h.imp id λ h=>#[e,h],λ h=>h.imp id And.right]
def cB.same{a:Sh}(c:cB S F)(h:a.pg=S.pg):cB a F:=λ k v=>by rw[c k v];ext Lf;rw[h]
#where
def mq(S:Sh)(bg:Bg)(w:Wk):ä:=w.O6=0->match w.O2 with
 |.stretch l h=>l<h/\(w.aim=l∨Ti s V p (AH s/\ú s>p/\aQ4/\bg s>w.aim/\l<w.aim/\w.aim<h))
 |.find k=>w.aim=k
 |.put k _=>w.aim=k
 |.cut k=>w.aim=k
def mq.grow{w:Wk}(A:mq S bg w)(g:aI8):mq S' aP w:=λ h0=>by
 let a:=A h0;cases hd:w.O2 with
 |find k=>rw[hd]at a;show a
 |put k x=>rw[hd]at a;show a
 |cut k=>rw[hd]at a;show a
 |stretch l h=>rw[hd]at a;let(c,i):=a;apply#[c,i.imp id ?_];rintro⟨s,p,o,r,j,u,v⟩;let(e,p',e1,y):=cs3 s r;show#[s,p',o,e1,y.trans j,Æ e u,v]
def nH(F:Eo)(a e:Int)(ps:Ei):ä:=ps.Pairwise (λ x y=>x.1<y.1)/\∀k v,(k,v)∈ps↔cI9>v/\a<=k/\k<e
def Did(F F':Eo)(w w':Wk):ι Row
 |.non=>False
 |.found _ x=>∃k,w.O2=.find k/\x=cI9/\F'=F/\w'.O3=cI9/\az2/\bG8
 |.put _ x t=>∃k y,w.O2=.put k y/\x=cI9/\F'=oJ F k y/\w'.O3=cI9/\az2/\w'.O7=t.isNone/\(G2->0<w'.O6)
 |.cut _ x=>∃k,w.O2=.cut k/\x=cI9/\F'=uB F k/\w'.O3=cI9/\az2/\bG8
 |.read _ ps t=>∃l h,w.O2=Ϝ l h/\F'=F/\az1^PH ps/\w'.O3=w.O3/\match t with
  |none=>nH F w.aim h ps/\bG8
  |some (_,x)=>w.aim<x/\x<h/\nH F w.aim x ps/\w'.aim=x/\G2/\w'.O6=0
 |.side _ _=>F'=F/\w'.O3=w.O3/\az2/\G2/\w'.O6=w.O6/\w'.aim=w.aim
 |.down _ _=>F'=F/\w'.O3=w.O3/\az2/\G2/\w'.O6=w.O6/\w'.aim=w.aim
 |.told _ t=>cg0/\F'=F/\w'.O3=w.O3/\az2/\w'.O7=t.isNone/\(G2->0<w'.O6)
 |.raised _ _=>cg0/\F'=F/\w'.O3=w.O3/\az2/\bG8
def VP{p:Pg}(h:x5):(I0).Pairwise^λ x y=>x.1<y.1:=by
 rw[List.pairwise_iff_getElem]at h ⊢;intro i j hi e c;let a:I0[i].1=p.ks[i]'(by have:=hi;simp[prs]at this;lia):=Ğ prs
 let b:I0[j].1=p.ks[j]'(by have:=e;simp[prs]at this;lia):=Ğ prs
 rw[a,b];show h i j _ _ c
variable{S S':Sh}{bg:Bg}{n:V}{p P:Pg}{w w':Wk}{F:Eo}{r:Row}
def kK(S:Sh)(w:Wk)(n:V)(P:Pg):(ck2).O2=w.O2/\(ck2).O3=w.O3/\(ck2).pairs=w.pairs/\(d9->(ck2).O7=ck0.1.isNone)/\(ÿ (ck2).O7->d9->0<(ck2).O6)/\((ck2).O6=0->(ck2).aim=w.aim/\(ck2).place=w.place):=by
 ext QH;by_cases a:ϕ<=S.O4
 .rw[C8 a];show#[Y,Y,Y,cJ7,bF2,λ_=>rg]
 .rw[C7 a];show#[Y,Y,Y,λ h=>h,f6 aa6,bF2]
def mq.moved{S:Sh}{bg:Bg}{w:Wk}(A:mq S bg w)(f:ç V V)(c:cP6)(no:∀s p,AH s->ú s>p->aQ4->bg s>w.aim->False):mq S bg^ĝ w O5 f place c:=λ h0=>by
 let a:=A h0;unfold mq at A;dsimp only;cases hd:w.O2 with
 |find k=>rw[hd]at a;show a
 |put k x=>rw[hd]at a;show a
 |cut k=>rw[hd]at a;show a
 |stretch l h=>rw[hd]at a;apply#[a.1,ë (a.2.resolve_right ?_)];rintro⟨s',p',i,j,e,o,_⟩;show no s' p' i j e o
def QkO(T:nj)(W:cy6)(A:mq S bg w)(Y2:d9)(E:cB S F)(o:Xp S w>(r,S',w')):∃F',cB S' F'/\Did F F' w w' r/\mq S bg w'/\w'.O2=w.O2:=by
 let(p,hn,v):=xu Y2 o;clear o;let I:AH ó∨cH6 ó:=by
  cases w.place with
  |none=>show ċ rg
  |some m=>show ϊ
 generalize ó=n at hn v I;let ok:=cw9;let la:cX0:=by
  obtain J|⟨_,Y⟩:=I
  .let(p',a1,a2,a3):=cU3
   show a3
  .intro v hv;rw[T.mO]at hv;cases hv
 let sn:∀s',AH s'->s'=n:=λ s' C=>by
  obtain J|⟨J,_⟩:=I
  .rw[J]at C;show an9 C
  .rw[J]at C;cases C
 cases v with
 |raised hr a1 =>
  apply#[F,Ż a b,#[À,Y,Y,Y,Y],λ h0=>bB5 (w.O6=0) h0 À,Y];rw[E a b];constructor
  .rintro⟨m,q,h1,h2,h3⟩
   show#[m,q,XV h1,h2,h3]
  .rintro⟨m,q,h1,h2,h3⟩
   obtain⟨Y,Y⟩|h:=QW h1
   .cases h2
   .show#[m,q,h,h2,h3]
 |side _ G _ =>
  apply#[F,bc1,#[Y,Y,Y,Y2,Y,Y],A.moved _ _ (ba2 s' p' C Q b0 b3),Y];cases sn s' C;obtain⟨a,b⟩|⟨h,s,q,a,b,c,d,e⟩:=ar9 n hn
  .unfold JU at G;rw[a]at G;cases G
  .have:=ok.wide h a _ b3
   unfold JU at G;rw[a]at G;have:h<=w.aim:=Ë G
   lia
 |down _ _ hd _=>apply#[F,bc1,#[Y,Y,Y,Y2,Y,Y],A.moved _ _ (ba2 s' p' C Q b0 b3),Y];cases sn s' C;rw[hn]at Q;cases Q;lia
 |told hr G hd h0 a1 =>
  let hg:cI8:=by
   obtain J|⟨J,_⟩:=I
   .let(p',C,Q,_):=cU3
    rw[hn]at C;cases C;show Q
   .show Cs λ h=>hr #[J,h]
  rename_i k;let(c1,c2,c3,c4,R,c6):=kK Id w n (E1 p k);apply#[F,Ż a b,#[h0,Y,c2,c3,c4 Y2,λ h=>R h Y2],N1 h1,c1]
  .rw[Qhw (S:=Id) (p:=p) (P:=E1 p k) hn À Y];show E a b
  .exfalso
   by_cases e:(ÿ (cj8 Id^E1 p k).2.2.O7)
   .show Ė h1 (C0^R e Y2)
   .unfold QH at h1
    by_cases q1:gu^E1 p k<=S.O4
    .rw[C8 q1]at h1;have:w.O6=0:=h1;lia
    .rw[C7 q1]at h1;cases h1
 |leaf hr G hd g0 o =>
  let lh:=GS^P5 G;let hz:aQ4:=À
  let z:=A g0;let O:=T.lF E hn hz la lh;unfold J0 at o;cases i:w.O2 with
  |find k=>rw[i]at z o;cases o;let z:w.aim=k:=z;subst z;show#[F,bc1,#[_,i,O,Y,O,Y,Y],λ_=>Ğ i,Ğ i]
  |put k x =>
   rw[i]at z o;let z:w.aim=k:=z;subst z;let(c1,c2,c3,c4,R,c6):=kK Id (cc3 aF3) n ds1;dsimp only at o;simp only[Prod.mk.injEq]at o;let(Y,Y,Y):=o;rw[i]at c1 c2 c3 c4 R c6;apply#[oJ F w.aim x,?_,#[_,_,i,O,Y,c2.trans O,c3,c4 Y2,λ h=>R h Y2],N1 h1,c1]
   .show T.nP E hn hz la lh λ a b=>Æ (Qhx (S:=Id) (p:=p) (P:=ds1) hn hz Y) Iff.rfl
   .have:=(c6 h1).1
    rw[c1];show this
  |cut k =>
   rw[i]at z o;let z:w.aim=k:=z;subst z;dsimp only at o;cases o;apply#[uB F w.aim,?_,#[_,i,O,Y,O,Y,Y],λ_=>Ğ i,Ğ i];by_cases hq:(aN7 aF3)
   .rw[C8 hq]
    apply T.nQ E hn hz la lh^Ż a b;let ln:=al4;constructor
    .rintro⟨m,q,h1,h2,h3⟩
     obtain⟨Y,Y,_⟩|⟨e,h⟩:=Q4 h1
     .show ċ h3
     .show ë #[m,q,e,h,h2,h3]
    .rintro(⟨m,q,e,h1,h2,h3⟩|h)
     .show#[m,q,fh ((sW n az0)[m]?=_) bX4 h1,h2,h3]
     .show#[n,az0,AE (ID^sW n az0=_) (As ln),hz,h]
   .rw[C7 hq]
    let fn:ų^F w.aim:=ì O^Option.not_isSome_iff_eq_none.mp hq
    have:uB F w.aim=F:=funext λ j=>by
     ext uB;by_cases e:j=w.aim
     .rw[PM,e,fn]
     .rw[EF]
    rw[this];show bc1
  |stretch l h =>
   rw[i]at z o;let(a6,L):=z;dsimp only at o;let so:=VP ok.sorted;let ge:∀k v,(k,v)∈I0->l<=k->w.aim<=k:=λ k v hm a9=>by
    obtain L|⟨s',p',C,Q,b0,b3,b4,b5⟩:=L
    .lia
    .cases sn s' C
     show ok.low k (xm hm) _ b3
   let al:l<=w.aim:=by obtain L|⟨_,_,_,_,_,_,b4,_⟩:=L<;>lia
   let ah:w.aim<h:=by obtain L|⟨_,_,_,_,_,_,_,b5⟩:=L<;>lia
   let rd:∀e:Int,e<=h->(∀x,p.hi>x->e<=x)->(∀k v,(k,v)∈I0->k<h->k<e)->nH F w.aim e^Zg p l h:=λ e he hx hk=>by
    apply#[Ma so,Ż k v];ext Zg;rw[Bm,E k v,cs7 hz];constructor
    .rintro⟨m,c⟩
     simp only[Bb,decide_eq_true_eq]at c;show#[ċ m,ge k v m c.1,hk k v m c.2]
    .rintro⟨m,c1,c2⟩
     let lb:bU8 k:=λ u hu=>İ^la u hu
     let lk:dt1:=λ u hu=>İ^hx u hu
     obtain m|m:=m
     .show Ė m (T.eY hn hz lb lk)
     .show#[m,by simp only[Bb,decide_eq_true_eq];lia]
   obtain⟨a,b⟩|⟨x,s,q,a,b,c,d,e⟩:=ar9 n hn
   .simp only[a,b]at o
    cases o;show#[F,bc1,#[l,h,i,Y,Y,Y,rd h cM0 (λ x hx=>į a hx hx) (λ k v _ c=>c),Y],λ_=>by simp only[i];show#[a6,L],Ğ i]
   .simp only[a,b]at o
    let ax:w.aim<x:=lh x a;by_cases hx:h<=x
    .rw[C8 hx]at o
     cases o;show#[F,bc1,#[l,h,i,Y,Y,Y,rd h cM0 (λ y U=>IX a U U hx) (λ k v _ c=>c),Y],λ_=>by simp only[i];show#[a6,L],Ğ i]
    .rw[C7 hx]at o
     cases o;apply#[F,bc1,#[l,h,i,Y,Y,Y,ax,À,rd x À (λ y U=>IX a U U cM0) (λ k v m _=>ok.high k (xm m) x a),Y,Y2,g0],dg7,Ğ i];simp only[i];show#[a6,ċ #[s,q,Y,c,À,e,À,À]]
#where
def Kd(S:Sh)(c:V):ä:=Ti m V q<|TM>q/\0<q.lv/\aU4∈q.ps
def Tells(ws:aU3)(c:V):ä:=∃(i:V)(w:Wk),aI2>w/\d9/\cg0/\w.O1>c
def oH(S:Sh)(ws:aU3):ä:=∀n:V,n<Ô->n≠S.top->Kd S n∨Tells ws n
variable{S S':Sh}{bg:Bg}{n:V}{p P:Pg}{w w':Wk}{r:Row}{ws:aU3}{i:V}
def kH{w:Wk}(hn:fI>p)(hl:P.lv=p.lv)(a:bs3->∀x∈p.ps,cX6 x){c:V}(h:Kd S c∨(0<P.lv/\cX6 aU4)):Kd ck1.1 c:=by
 let ln:=al4;let key:Ti m V q (m≠n/\TM>q/\0<q.lv/\aU4∈q.ps)∨(0<P.lv/\cX6 aU4):=by
  obtain⟨m,q,h1,h2,h3⟩|h:=h
  .by_cases e:m=n
   .subst e;rw[hn]at h1;cases h1;show cQ4 À (a h2 _ h3)
   .show ë #[m,q,e,h1,h2,h3]
  .show ċ h
 ext QH;by_cases j:ϕ<=S.O4
 .rw[C8 j];obtain⟨m,q,e,h1,h2,h3⟩|⟨h1,h2⟩:=key
  .show#[m,q,fh ((sW n P)[m]?=_) bX4 h1,h2,h3]
  .show#[n,P,AE (ID^sW n P=_) (As ln),h1,h2]
 .rw[C7 j];obtain⟨m,q,e,h1,h2,h3⟩|⟨h1,h2⟩:=key
  .show#[m,q,fh (((cp2).set n NI)[m]?=_) bX4 (XV h1),h2,h3]
  .rw[<- List.take_append_drop bz3 P.ps]at h2;obtain h|h:=CB h2
   .show#[n,NI,AE (ID^(cp2).set n NI=_) (As Β),h1,h]
   .show#[Ô,EZ,by exact((cp2).set n NI)[Ô]?=_;rw[Ak À];simp,h1,h]
def Tells.other{c:V}(h:Tells ws c)(hi:aI2>w)(o:d9->cg0->w.O1≠cF5):Tells aD4 c:=by
 let(j,v,a,b,d,e):=h;let ne:j≠i:=λ z=>by subst z;rw[hi]at a;cases a;show o b d e
 show#[j,v,Æ (bX2 x^ne x.symm) a,b,d,e]
def Tells.self{c:V}(hi:aI2>w)(h1:G2)(h2:0<w'.O6)(h3:w'.O1>c):Tells aD4 c :=
 #[i,w',As (QM hi),h1,h2,h3]
def Qa9{w:Wk}(S:Sh)(n:V)(P:Pg)(h:S.O4<ϕ)(a:d9):ÿ (ck2).O7/\0<(ck2).O6/\(ck2).O1>Ô:=hJ QH ec #[a,aa6,Y]
def QdY{w:Wk}(S:Sh)(n:V)(P:Pg){c:V}(a:c<cs8 ck1.1):c<Ô∨(c=Ô/\S.O4<ϕ):=by
 unfold QH at a;by_cases e:ϕ<=S.O4
 .rw[PM]at a;show ë da1
 .rw[EF]at a;have:c<Ô+1:=da1
  obtain h|h:=Bf c Ô
  .show FE
  .show cQ4 À À
def QdZ{w:Wk}(S:Sh)(n:V)(P:Pg):aK2 ck1.1.top:=au4 QH
def oH.step(D:oH S ws)(T:nj)(W:cy6)(hi:aI2>w)(Q:d9)(hs:Xp S w>(r,S',w')):oH S' aD4:=by
 let still:∀{x:Wk}{S2:Sh},S2.pg=S.pg->aK2 S2.top->(d9->cg0->ÿ x.O7/\x.O6=w.O6/\x.O1=w.O1)->oH S2^zg x:=λ{x S2} e1 e2 e3 c o u=>by
  rw[e1]at o;rw[e2]at u;obtain⟨m,q,h⟩|⟨j,v,a,b,d,e⟩:=D c o u
  .show ë #[m,q,Æ e1 h]
  .by_cases z:j=i
   .subst z;rw[hi]at a;cases a
    let(L,f2,O):=e3 b d;show ċ (Tells.self hi L À^O.trans e)
   .show ċ #[j,v,Æ (bX2 x^z x.symm) a,b,d,e]
 let C:∀{p:Pg}(_:ú ó>p)(I:Wk)(P:Pg),ÿ I.O7->P.lv=p.lv->(bs3->∀x∈p.ps,cX6 x)->(∀c,cg0->w.O1>c->0<P.lv/\cX6 aU4)->oH (QH Id I ó P).2.1^zg (QH Id I ó P).2.2:=λ{p} J I P e0 hl E G c o u=>by
  rw[QdZ]at u;obtain o|⟨o,F⟩:=QdY _ ó P o
  .obtain h|h:=D c o u
   .show ë (kH (S:=Id) J hl E FE)
   .by_cases z:w.O1>c/\cg0
    .show ë (kH (S:=Id) J hl E^ċ^G c z.2 z.1)
    .show ċ (h.other hi λ_ a b=>z #[b,a])
  .let(L,f2,O):=Qa9 (w:=I) Id ó P F e0
   show ċ (Tells.self hi L f2^Æ O^cf3 o.symm)
 cases Ku Q hs with
 |@raised p k J hr Y2 =>
  intro c o u;let o:c<Ô+1:=Ë o
  let u:c≠Ô:=u;let wU:(AR [(cV7 (p.lv+1) [mH,fw]:Pg)])[Ô]?>(cV7 (p.lv+1) [mH,fw]):=Ê
  by_cases e:(aK2 c)
  .show ë #[Ô,_,wU,aa6,Ğ e]
  by_cases U:c=k
  .show ë #[Ô,_,wU,aa6,Ğ U]
  obtain⟨m,q,h1,h2,h3⟩|h:=D c À e
  .show ë #[m,q,XV h1,h2,h3]
  .show ċ (h.other hi λ_ _ h=>Ex Y2 h^U^an9 h)
 |side n s=>show still Y Y λ a _=>#[a,Y,Y]
 |down n c f=>show still Y Y λ a _=>#[a,Y,Y]
 |@told p k m J hr h0 Y2 =>
  let hg:cI8:=by
   cases e:w.place with
   |some n=>let(p',R,b2,_):=aw8 e;rw[e]at J;let J:fI>p:=J;rw[J]at R;cases R;show b2
   |none=>show Cs λ h=>hr #[e,h]
  apply C J w (E1 p k) Q Y (λ_ x hx=>?_) λ c _ o=>bI0^mB bs3
  .exact x∈ab9 (ad7+1)++fw::ah9 (ad7+1)
   rw[<- List.take_append_drop (ad7+1) p.ps]at hx;obtain h|h:=cx8
   .show A0 _ h
   .show Ai _ (bU0 h)
  .rw[Y2]at o;cases o
   exact fw∈ab9 (ad7+1)++fw::ah9 (ad7+1);simp
 |found n x g0 hd=>show still Y Y (FF^Ė h À)
 |@put p m k x y hd J l0 g0=>show C J (cc3 y) ds1 Q Y (λ h=>Ė h À) λ c h=>Ė h À
 |@cut p m y b J l0 g0 hd =>
  cases b with
  |false=>show still Y Y (FF^Ė h À)
  |true =>
   intro c o u;let o:c<Ô:=Ë o
   obtain⟨j,q,h1,h2,h3⟩|h:=D c o u
   .let e:j≠ó:=λ e=>by rw[e,J]at h1;cases h1;lia
    show ë #[j,q,fh (Iq^sW ó az0=_) bX4 h1,h2,h3]
   .show ċ (h.other hi λ_ a=>Ė a À)
 |last n ps g0 hd=>show still Y Y (FF^Ė h À)
 |next J hx g0 hd=>show still Y Y (FF^Ė h À)
def oH.put(D:oH S ws)(hi:∀v,aI2>v->Ĭ v.O7)(w:Wk):oH S^zg w:=λ c u y=>(D c u y).imp id λ o=>by
 let(j,v,a,b,d,e):=o;let ne:j≠i:=λ z=>FV z (hi v a) b b
 show#[j,v,Æ (bX2 x^ne x.symm) a,b,d,e]
#where
def Fk(S:Sh):ä:=MJ n p<|fI>p->bs3->1<=μ
variable{S S':Sh}{bg:Bg}{n f:V}{p q P:Pg}{w w':Wk}{r:Row}{k:Int}
def Fk.settle(K:Fk S){w:Wk}(hn:fI>p)(hl:P.lv=p.lv)(h1:0<P.lv->1<=ϕ)(h3:S.O4<ϕ->3<=ϕ):Fk ck1.1:=by
 ext QH;by_cases c:ϕ<=S.O4
 .rw[C8 c];intro m q a h0;obtain⟨Y,Y,_⟩|⟨_,h⟩:=Q4 a
  .show h1 h0
  .show K m q h h0
 .rw[C7 c];let e:=h3 À;intro m q a h0;obtain⟨Y,Y,_⟩|⟨_,h⟩:=Q4 (xs:=cp2) a
  .exact 1<=⇑ab5;rw[A8];ext mid;lia
  .obtain⟨Y,Y⟩|h:=QW h
   .exact 1<=⇑cU0;let h0:0<P.lv:=h0;rw[Bq];ext ZR;rw[ec];ext mid;lia
   .show K m q h h0
def Fk.step(K:Fk S)(T:nj)(a:Xp S w>(r,S',w')):Fk S':=by
 let z:=T.bf;cases i:w.O7 with
 |true=>unfold Xp at a;rw[C8 i]at a;cases a;show K
 |false =>
  cases Ku i a with
  |raised J j o =>
   intro m q e h0;obtain⟨Y,Y⟩|h:=QW e
   .show Ĕ
   .show K m q h h0
  |side n s=>show K
  |down n c f=>show K
  |@told p k n J j v o =>
   show Fk.settle (S:=Id) K J Y (λ_=>by exact 1<=⇑(_++_::_:Ĥ);rw[Am,A9];lia) (λ h=>by let h:S.O4<gu^E1 p k:=h;lia)
  |found n x g0 hd=>show K
  |@put p n k x y hd J u g0 =>
   show Fk.settle (S:=Id) K J Y (λ_=>by exact 1<=⇑(_++_::_:Ĥ);rw[Am,A9];lia) (λ h=>by let h:S.O4<gu ds1:=h;lia)
  |@cut p n y b J u g0 hd =>
   cases b with
   |false=>show K
   |true =>
    intro m q e h1;obtain⟨Y,Y,_⟩|⟨_,h⟩:=Q4 e
    .have:bs3:=h1
     lia
    .show K m q h h1
  |last n ps g0 hd=>show K
  |next J hx g0 hd=>show K
variable{S:Sh}{n:V}{p:Pg}
def Jv(S:Sh)(l:V):V:=cT5^c7 S λ x=>FC x l
def vL{l:V}(h:fI>p)(hl:IO l):n∈AZ Ô (c7 S λ x=>FC x l) :=
 Bm.mpr #[bh5 (QM h),by ext c7;rw[h];simpa using hl]
def QlI{l:V}(h:fI>p)(hl:IO l):1<=Jv S l:=NM^vL h hl
def HM:ι aG
 |.stretch l h=>l<h
 |_=>True
#where
def jP(L:Ei):ä:=L.Pairwise^λ x y=>x.1<y.1
def UL:∀{L M:Ei},jP L->jP M->(∀x,x∈L↔x∈M)->L=M:=by
 intro C;induction C with
 |nil =>
  intro q1 _ _ h;cases q1 with
  |nil=>show Y
  |cons y M=>have:=(h y).mpr Ê;cases this
 |cons x L v =>
  intro q1 u hM h;cases q1 with
  |nil=>have:=(h x).mp Ê;cases this
  |cons y M =>
   let(i,o):=Cj.mp u;let(j,r):=Cj.mp hM;let e:x=y:=by
    let hx:=(h x).mp Ê;let c:=(h y).mpr Ê;obtain hx|hx:=ny hx
    .show hx
    .obtain c|c:=ny c
     .show c.symm
     .have:=i y c;have:=j x hx;lia
   subst e;congr 1;apply v o r λ z=>#[N1 hz,N1 hz]
   .obtain e|a:=ny ((h z).mp^bU0 hz)
    .subst e;have:=i z hz;lia
    .show a
   .obtain e|a:=ny ((h z).mpr^bU0 hz)
    .subst e;have:=j z hz;lia
    .show a
def Ge(S:Sh)(n:V):da7:=match fI with
 |some p=>I0
 |none=>[]
def xF(S:Sh)(r:ź):da7:=r.flatMap^Ge S
def Zero(S:Sh)(bg:Bg):ä:=ų^bg 0/\∃p,ú 0>p/\aQ4
variable{S S':Sh}{bg aP:Bg}{F:Eo}
def Zero.grow(Z:Zero S bg)(g:aI8):Zero S' aP:=by let(h1,p,h2,h3):=Z;let(a,q,b,c):=cs3 0 h2;show#[a.trans h1,q,b,À]
def QbZ(T:nj)(P:cB S F)(Z:Zero S bg):∃r,bb9 0 r/\r.Nodup/\mz<=Ô/\IQ m r (∃q,TM>q/\q.lv=0)/\jP^xF S r/\∀k v,(k,v)∈xF S r↔cI9>v:=by
 let(z1,p0,z2,z3):=Z;let(r,c,nd,mem):=Ov T z2 z1;let O:=c.facts T p0 z2;let(Y2,f2,L,f4,f5):=O;let cX:∀m∈r,∃q,TM>q/\q.lv=0:=λ m j=>br9 q a b (Y2 m j) #[q,a,À]
 let len:mz<=Ô:=Æ (GB T nd mem)^Bi (B9 _ _)^Æ List.length_range Ĕ
 apply#[r,c,nd,len,cX,?_,Ż k v]
 .ext jP xF;rw[List.pairwise_flatMap];apply bI0^Ż m j
  .let(q,a,b):=cX m j;ext Ge;rw[a];show VP (mn m q a).sorted
  .apply aL8 (λ a b=>Ĭ^aW8 a b) (λ{a b} ha Q i x hx y E=>?_) L;let(q,z,a2):=cX a ha;let(u,o,b2):=cX b Q;unfold Ge at hx E;rw[z]at hx;rw[o]at E;let U:=xm^â ((x.1,x.2)∈prs q) hx;let ky:=xm^â ((y.1,y.2)∈prs u) E;let ne:a≠b:=λ e=>FV e XZ i i
   obtain⟨h,v,e1,C,I⟩|⟨h,v,e1,C,I⟩:=T.dis a b q u z o À ne
   .have:=(mn a q z).high _ U h e1;have:=(mn b u o).low _ ky v C;lia
   .exfalso;let w:=Uv^(mn b u o).wide h e1;let G:=YH i w;rw[C]at G;simp only[dZ,decide_eq_true_eq]at G;lia
 .ext xF;rw[P k v,List.mem_flatMap];constructor
  .rintro⟨m,j,h⟩;let(q,a,b):=cX m j;unfold Ge at h;rw[a]at h;show#[m,q,a,b,h]
  .rintro⟨m,q,a,b,h⟩;show#[m,(mem m).mpr #[q,a,À],hJ Ge a h]
variable{S S':Sh}{bg aP:Bg}{n f:V}{p q:Pg}{r:Row}{a k:Int}{R:V}
def Qb4(g:aI8){n:V}(hn:n<Ô)(fn:wP V):c7 S' fn n=c7 S fn n:=by let(_,p',h1,h2):=g.old n _ bY7;ext c7;rw[h1,bY7];exact fn p'.lv=fn _;rw[h2]
def jW{α:pZ}{f h:wP α}:∀{l:Fa},IQ x l (f x=h x)->l.filter f=l.filter h:=by
 intro j;induction j with
 |nil=>intro _;show Y
 |cons x l i=>intro e;rw[Ar,Ar,e x Ê,i λ y c=>e y^bU0 c]
def U2(g:aI8)(h:LC=Ô)(l:V):Jv S' l=Jv S l:=by ext Jv;rw[h,jW λ x hx=>Qb4 g (bm4 hx) _]
def gO(g:aI8)(h:LC=Ô+1)(hq:S'.pg[Ô]?>q)(l:V):Jv S' l=Jv S l+pH q.lv l 1 0:=by
 ext Jv;rw[h,List.range_succ,List.filter_append,Am,jW λ x hx=>Qb4 g (bm4 hx) _];let e:c7 S' (λ x=>FC x l) Ô=FC q.lv l:=hp c7 hq
 congr 1;rw[Ar,e];by_cases c:q.lv=l<;>simp[c]
def YT:∀{l m:ź},l.Nodup->IQ x l (x∈m)->⇑l<=⇑m:=by
 intro o;induction o with
 |nil=>intro m _ _;show Fm
 |cons x l j =>
  intro m h c;let(h1,h2):=Cp.mp h;let hx:=c x Ê;have:=j h2 λ y i=>by let ne:y≠x:=λ e=>h1<|e▸i;show(bL0).mpr (c y^bU0 i)
  rw[bL1]at this;have:=NM hx;rw[A9];lia
def KG(S:Sh)(n j:V):V:=match fI with
 |some p=>OA^p.ps.getD j 0
 |none=>0
def Im(T:nj)(K:Fk S)(hn:fI>p)(hl:bs3){j:V}(x:j<2):∃q,ú^KG S n j>q/\q.lv+1=p.lv/\bg^KG S n j=de3 j:=by
 let pl:=(cw9).parts;rw[ec]at pl;let k1:=K n p hn hl;let(c,q,i,o,u,v):=dj8 n p hl j _ (Ab (À:j<fA));let e:KG S n j=c:=by ext KG;rw[hn];exact OA^p.ps.getD j 0=c;rw[Ck,Ab (À:j<fA),i];rfl
 rw[e];show#[q,o,u,v]
def QcI(T:nj)(K:Fk S)(hn:fI>p)(hl:bs3){j:V}(c:j<2):d8 Ų^de3 j/\∀h v,p.hi>h->de3 j>v->v<h:=by
 let ok:=cw9;let k1:=K n p hn hl;cases j with
 |zero=>show#[d8.refl _,λ h v h1 h2=>ok.wide h h1 v h2]
 |succ i =>
  let e:i=0:=À
  subst e;let g:de3 (0+1)>p.ks[0]:=Ab (l:=p.ks) (i:=0) k1;let m:p.ks[0]∈p.ks:=B7 _;rw[g];show#[λ v hv=>#[_,Y,ok.low _ m v hv],λ h v h1 h2=>ah8 h2^ok.high _ m h h1]
def QbA(T:nj)(K:Fk S)(l:V):2 * Jv S (l+1)<=Jv S l:=by
 have L:=AZ Ô^c7 S λ x=>FC x<|l+1
 let G:∀n∈L,∃p,fI>p/\IO (l+1):=λ n hn=>by let(h1,h2):=Bm.mp hn;let h1:=bm4 h1;unfold c7 at h2;rw[Ab h1]at h2;show#[_,Ab h1,Ë h2]
 let nd:L.Nodup:=bK1;let key:∀n m i j,n∈L->m∈L->i<2->j<2->KG S n i=KG S m j->n=m/\i=j:=λ n m i j hn hm hi O e=>by
  let(p,c,P):=G n hn;let(q,C,b2):=G m hm;let(_,_,_,E):=Im T K c À hi;let(_,_,_,Q):=Im T K C À O;rw[e,Q]at E;let(x1,x2):=QcI T K c À hi;let(y1,y2):=QcI T K C À O;let nm:n=m:=by
   obtain h|h:=Nat.decEq n m
   .exfalso;obtain⟨u,v,e1,I,U⟩|⟨u,v,e1,I,U⟩:=T.dis n m p q c C À h
    .let(z,z1,z2):=y1 v I;have:=x2 u z e1^E.symm.trans z1;lia
    .let(z,z1,z2):=x1 v I;have:=y2 u z e1^E.trans z1;lia
   .show h
  subst nm;rw[c]at C;cases C;apply bI0 Y;let ok:=mn n p c;let k1:=K n p c À;let l0:=ok.fK À p.ks[0]^B7 À;let ne:Ų≠p.ks[0]?:=λ z=>by rw[Ab À]at z;have:=l0 _ z;lia
  obtain Y|Y:=ī (i=0∨i=1)
  .obtain Y|Y:=ī (j=0∨j=1)
   .rfl
   .show Ė E.symm ne
  .obtain Y|Y:=ī (j=0∨j=1)
   .show Ė E ne
   .rfl
 have M:=L.flatMap λ n=>[KG S n 0,KG S n 1]
 let Y2:M.Nodup:=by
  exact List.Pairwise (· ≠ ·) _;rw[List.pairwise_flatMap];apply bI0^Ż n hn
  .apply Cj.mpr #[aQ5,cM6 _];rw[Aq]at hx;subst hx;intro e;have:=(key n n 0 1 hn hn À À e).2;lia
  .apply aL8 (· ≠ ·) (λ{a b} ha F ne x hx y o e=>?_) nd;subst e;simp only[Bj,Cc,or_false]at hx o;obtain Y|Y:=hx<;>obtain o|o:=o
   .show ne (key a b 0 0 ha F À À o).1
   .show ne (key a b 0 1 ha F À À o).1
   .show ne (key a b 1 0 ha F À À o).1
   .show ne (key a b 1 1 ha F À À o).1
 let sub:∀x∈M,x∈AZ Ô (c7 S λ y=>FC y l):=λ x hx=>by
  let(n,hn,hx):=List.mem_flatMap.mp hx;let(p,c,P):=G n hn;simp only[Bj,Cc,or_false]at hx;obtain Y|Y:=hx
  .let(q,c1,c2,_):=Im T K c À (ī<|0<2);show vL c1 À
  .let(q,c1,c2,_):=Im T K c À (ī<|1<2);show vL c1 À
 let len:=YT Y2 sub;let lm:⇑M=2 * ⇑L:=by
  exact hF^L.flatMap _=_;generalize L=L';induction L' with
  |nil=>rfl
  |cons x t ih=>rw[List.flatMap_cons,Am,ih,A9];simp;lia
 ext Jv;exact 2 * ⇑L<=_;lia
def Qcf(T:nj)(K:Fk S):Ô<2 * Jv S 0:=by
 let(r,c,e):=T.root;let a:=Qf6 (S:=S) (L:=r.lv) e;let key:∀k,cT5 (c7 S λ x=>Af x k)+2 * Jv S k<=2 * Jv S 0:=by
  intro k;induction k with
  |zero=>rw[Qdd];lia
  |succ k i=>have:=QbA T K k;rw[gR];unfold Jv at *;lia
 let h0:=key r.lv;let h1:0<Jv S r.lv:=NM^vL c Ê;rw[gR]at a;unfold Jv at *;lia
def QjM(T:nj)(K:Fk S):Ô<=2 * Jv S 0:=dE^Qcf T K
#where
def bw(S:Sh)(n:V):V:=match fI with
 |some p=>p.lv
 |none=>0
def vis(S:Sh)(w:Wk)(k:V):cP6:=match w.place with
 |some n=>Dt (cE9 n) k n^É (cE9 n<k) (wf k) none
 |none=>none
def ltV(bg:Bg)(v:cP6)(m:V):Bool:=match v with
 |some v=>aW8 v m
 |none=>true
def Ct(S:Sh)(bg:Bg)(w:Wk)(m:V):Bool:=A6 w.O6 cF0&&ltV bg (vis S w cF0) m
def phi(S:Sh)(bg:Bg)(w:Wk):V:=cT5^Ct S bg w+(bo9+2-w.O6)
inductive UU(S:Sh)(bg:Bg)(w:Wk)(S':Sh)(w':Wk):ä
 |side {n s:V} {p q:Pg} (J:AH n∨cH6 n) (hn:fI>p) (hg:cI8) (hs:ú s>q) (hl:q.lv=p.lv) (hb:Ĭ^as0 Ų s) (e1:S'.pg=S.pg) (e2:br1) (e3:w'.O6=w.O6) (e4:w'.O5=w.O5) (e5:w'.place>s) (e6:G2):UU S bg w S' w'
 |down {n c:V} {p q:Pg} (J:AH n∨cH6 n) (hn:fI>p) (hl:q.lv+1=p.lv) (hg:cI7 q.lv) (hc:ú c>q) (e1:S'.pg=S.pg) (e2:br1) (e3:w'.O6=w.O6) (e4:w'.O5=xM w.O5 p.lv n) (e5:w'.place>c) (e6:G2):UU S bg w S' w'
 |part {n:V} {p q:Pg} (J:AH n∨cH6 n) (hn:fI>p) (hg:w.O6=p.lv) (el:LC=Ô+1) (eq:S'.pg[Ô]?>q) (hq:q.lv=w.O6) (e2:br1) (e3:w'.O6=w.O6+1) (e4:w'.O5=w.O5) (e5:w'.place=wf (w.O6+1)) (e6:G2):UU S bg w S' w'
 |over (e6:bG8) (el:LC=Ô) (e2:br1):UU S bg w S' w'
 |raised {p q:Pg} (e6:bG8) (hr:an2>p) (el:LC=Ô+1) (e2:S'.top=Ô) (eq:S'.pg[Ô]?>q) (hq:q.lv=p.lv+1):UU S bg w S' w'
variable{S S':Sh}{bg aP:Bg}{n:V}{p q P:Pg}{w w' v:Wk}{r:Row}
def Jn(h:fI>p):cE9 n=p.lv:=hp bw h
def KN(o:d9)(c:AH n∨cH6 n)(hn:fI>p)(hl:P.lv=p.lv)(i:w.O6=p.lv){a:Wk}(g0:a.O6=w.O6)(e:a.O5=w.O5)(d0:a.O7=w.O7):UU S bg w (QH Id a n P).2.1 (QH Id a n P).2.2:=by
 let ln:=al4;ext QH;by_cases j:ϕ<=S.O4
 .rw[C8^â (ϕ<=(Id:Sh).O4) j];show .over Y Ê Y
 .rw[C7^â (¬ ϕ<=(Id:Sh).O4) j];apply .part (q:=EZ) c hn i Ê ?_ (mB<|P.lv=_) Y (mB<|P.lv+1=_) e ?_ (by exact ÿ a.O7;rw[d0,o])
  .exact((cp2).set n NI)[Ô]?=_;rw[Ak À];simp
  .exact XE a.O5 (P.lv+1)=_;rw[e,hl,i]
def kM(T:nj)(W:cy6)(y:d9)(i:Xp S w>(r,S',w')):UU S bg w S' w':=by
 let(p,hn,v):=xu y i;clear i;let j:AH ó∨cH6 ó:=by
  cases w.place with
  |none=>show ċ rg
  |some m=>show ϊ
 generalize ó=n at hn v j;let ln:=al4;let O:cI0->cI8:=λ o=>by
  obtain J|⟨J,_⟩:=j
  .let(p',E,L,_):=cU3
   rw[hn]at E;cases E;show L
  .show Cs λ h=>o #[J,h]
 cases v with
 |raised o F =>
  let C:aK2 n:=by
   obtain J|⟨_,e⟩:=j
   .rw[o.1]at J;cases J
   .show e
  subst C;rename_i k;show .raised (q:=cV7 (p.lv+1) [mH,fw]) Y hn Ê Y Ê Y
 |side o _ Q=>let(x,q,F,G,I,R,Y2):=GD T hn Q;show .side j hn (O o) G I Y2 Y Y Y Y Y y
 |down o _ hd hq=>let(c',z,E,L,U,_):=dj8 _ p À _ _ hq;subst E;show .down j hn U À L Y Y Y Y (Ğ Bz) y
 |told o hb hd h0 F=>rename_i k;show KN (P:=E1 p k) y j hn Y (Nat.le_antisymm (O o)^Cs hd) Y Y Y
 |leaf o hb hd g0 i =>
  let rK:w.O6=p.lv:=À
  unfold J0 at i;cases u:w.O2 with
  |find k=>rw[u]at i;cases i;show .over Y Y Y
  |put k x=>rw[u]at i;dsimp only at i;simp only[Prod.mk.injEq]at i;let(Y,Y,Y):=i;show KN (P:=ds1) y j hn Y rK Y Y Y
  |cut k =>
   rw[u]at i;dsimp only at i;cases i;by_cases hq:(aN7 aF3)
   .rw[C8 hq];show .over Y Ê Y
   .rw[C7 hq];show .over Y Y Y
  |stretch l h =>
   rw[u]at i;dsimp only at i;obtain⟨a,b⟩|⟨x,s,q,a,b,c,d,e⟩:=ar9 n hn
   .simp only[a,b]at i;cases i;show .over Y Y Y
   .simp only[a,b]at i
    by_cases hx:h<=x
    .rw[C8 hx]at i;cases i;show .over Y Y Y
    .rw[C7 hx]at i;cases i
     let(x',q',F,G,I,R,Y2):=GD T hn b;show .side j hn (O o) G I Y2 Y Y Y Y Y y
def JK(g:aI8){n:V}(hn:n<Ô):bw S' n=cE9 n:=by let(_,p',h1,h2):=g.old n _ bY7;rw[Jn h1,Jn bY7,h2]
def XW(g:aI8){n:V}(hn:n<Ô):aP n=Ų:=(g.old n _ bY7).1
def yD(T:nj):S.top<Ô:=bJ8 r h T.root^QM h
def Uw(T:nj){m:V}(h:m<Ô):cF0<=bo9:=by let(r,h1,h2):=T.root;rw[Jn h1,Jn^Ab h];show h2 m _ (Ab h)
def BT(T:nj)(W:cy6)(K:UU S bg w S' w')(g:aI8)(Y2:G2):phi S' aP w'+1<=phi S bg w:=by
 cases K with
 |over j=>rw[Y2]at j;cases j
 |raised j=>rw[Y2]at j;cases j
 |@side n s p q J hn C F hl I e1 x e y o j =>
  let eL:∀m,bw S' m=cF0:=λ m=>hp bw e1
  let eB:∀m,m<Ô->aP m=bg m:=λ m i=>XW g i;let L:=QM F;let key:Os LC^Ct S' aP w'<cT5^Ct S bg w:=by
   rw[e1];apply yN _ _ _ (dv7 i) #[s,bh5 L,?_,?_]
   .let a:=bm4 i
    unfold Ct at h ⊢;rw[Bb]at h ⊢;rw[eL,e]at h;apply bI0 h.1;let h2:=h.2;unfold vis at h2 ⊢;rw[o]at h2;simp only[eL,Jn F,y]at h2;obtain J|⟨J,Y⟩:=J
    .rw[J]
     simp only[Jn hn];rw[hl]at h2;by_cases c:(IO cF0)
     .rw[C8 c]at h2 ⊢
      unfold ltV at h2 ⊢;simp only[eB s L,eB m a]at h2;show YH I h2
     .rw[C7 c]at h2 ⊢
      by_cases c2:p.lv<cF0
      .rw[C8 c2]at h2 ⊢
       unfold ltV at h2 ⊢;cases hf:wf cF0 with
       |none=>rfl
       |some f=>rw[hf]at h2;let(z,z1,_):=OZ _ hf;simp only[eB f (QM z1),eB m a]at h2;show h2
      .rw[C7 c2];rfl
    .rw[J];rfl
   .ext Ct vis
    rw[Jn F,hl,Ea C];obtain J|⟨J,Y⟩:=J
    .rw[J];simp only[Jn hn,if_true];show I
    .rw[J];rfl
   .ext Ct vis
    rw[o];simp[ltV,XZ]
  ext phi;rw[eL,x,e];show Nat.add_right_comm _ _ 1▸aL9 key
 |@down n c p q J hn hl C E e1 x e y o j =>
  let eL:∀m,bw S' m=cF0:=λ m=>hp bw e1
  let eB:∀m,m<Ô->aP m=bg m:=λ m i=>XW g i;let lc:=QM E;let key:Os LC^Ct S' aP w'<cT5^Ct S bg w:=by
   rw[e1];apply yN _ _ _ (dv7 i) #[c,bh5 lc,?_,?_]
   .let a:=bm4 i
    unfold Ct at h ⊢;rw[Bb]at h ⊢;rw[eL,e]at h;apply bI0 h.1;let h2:=h.2;unfold vis at h2 ⊢;rw[o]at h2;simp only[eL,Jn E,y]at h2;obtain J|⟨J,Y⟩:=J
    .rw[J]
     simp only[Jn hn];by_cases c1:(IO cF0)
     .rw[C8 c1]
      rw[ec,aq9,jp,C8 c1.symm]at h2;unfold ltV at h2 ⊢;simp only[eB n al4,eB m a]at h2;show h2
     .rw[C7 c1]
      by_cases c2:p.lv<cF0
      .rw[C8 c2]
       rw[ec,aq9,jp,ec]at h2;unfold ltV at h2 ⊢;cases hf:wf cF0 with
       |none=>rfl
       |some f=>rw[hf]at h2;let(z,z1,_):=OZ _ hf;simp only[eB f (QM z1),eB m a]at h2;show h2
      .rw[C7 c2];rfl
    .rw[J];rfl
   .ext Ct vis
    rw[Jn E,Ea C];obtain J|⟨J,Y⟩:=J
    .rw[J];simp only[Jn hn];rw[ec,ec];rfl
    .rw[J];rfl
   .ext Ct vis
    rw[o];simp[ltV,XZ]
  ext phi;rw[eL,x,e];show Nat.add_right_comm _ _ 1▸aL9 key
 |@part n p q J hn C O Q hq x e y o j =>
  let ln:=al4;let key:Os LC^Ct S' aP w'<=cT5^Ct S bg w:=by
   rw[O,List.range_succ,List.filter_append,Am];let z:ÿ^Ct S' aP w' Ô:=by ext Ct;rw[Jn Q,e,hq,an8];rfl
   rw[Ar,z];simp only[Az,if_false,List.filter_nil,List.length_nil,Nat.add_zero];apply SH _ _ _^dv7 i;let a:=bm4 i;unfold Ct at h ⊢;rw[Bb]at h ⊢;rw[JK g a,e]at h;let h1:w.O6+1<=cF0:=Eb h.1;apply bI0 ar3;let h2:=h.2;obtain J|⟨J,Y⟩:=J
   .unfold vis at h2 ⊢
    rw[J];rw[o]at h2;simp only[Jn hn];rw[ec,aq9];cases hf:wf cF0 with
    |none=>rfl
    |some f =>
     let(R,u):=W.full n p J hn _ f hf (w.O6+1) À À;rw[u]at h2;let(z1,G,y2):=W.kept _ R u;let(z2,y3,y4):=OZ _ hf;simp only[JK g (QM G),Jn G,y2,y]at h2;by_cases c:w.O6+1=cF0
     .rw[C8 c]at h2
      rw[<- c,u]at hf;cases hf;unfold ltV at h2 ⊢;simp only[XW g (QM G),XW g a]at h2;show h2
     .rw[C7 c,aq9,hf]at h2
      unfold ltV at h2 ⊢;simp only[XW g (QM y3),XW g a]at h2;show h2
   .have:=Uw T a
    rw[Jn hn]at this;lia
  let U:bW3=bo9:=Æ x^JK g cF1
  have:=Uw T ln;rw[Jn hn]at this;ext phi;rw[U,e];let lt:w.O6<bo9+2:=À
  apply Bi (az3^Nat.add_assoc _ _ 1)^Nat.add_le_add key^az3^ac1^Nat.sub_pos_of_lt lt
def MX(Y1:cy5 v)(g:aI8){m:V}(a:m<Ô):Ct S' aP v m=Ct S bg v m:=by
 ext Ct;rw[JK g a];congr 1;ext vis;cases J:v.place with
 |none=>rfl
 |some n =>
  let(p,h1,_):=Y1.at_ n J;simp only[JK g (QM h1)];by_cases c:cE9 n=cF0
  .rw[C8 c];ext ltV;simp only[XW g (QM h1),XW g a]
  .rw[C7 c]
   by_cases c2:cE9 n<cF0
   .rw[C8 c2]
    ext ltV;cases hf:XE v.O5 cF0 with
    |none=>rfl
    |some f=>let(z,z1,_):=Y1.kept _ f hf;simp only[XW g (QM z1),XW g a]
   .rw[C7 c2];rfl
def vX(T:nj)(Y1:cy5 v)(g:aI8)(c:LC=Ô)(a:br1):phi S' aP v=phi S bg v:=by ext phi;rw[c,a,JK g cF1,jW λ m e=>MX Y1 g^bm4 e]
def Qtr(a b g:V):a+2-g<=b+2-g+(a-b):=by rw[Nat.sub_le_iff_le_add];let h1:=aB3<|b+2-g;let h2:=aB3<|a-b;generalize b+2-g=p at *;generalize a-b=q at *;lia
def Qci(T:nj)(Y1:cy5 v)(g:aI8)(a:LC=Ô+1):phi S' aP v<=phi S bg v+1+(bW3-bo9):=by ext phi;rw[a,List.range_succ,List.filter_append,Am,jW (h:=Ct S bg v) λ m c=>MX Y1 g^bm4 c];have:⇑(List.filter (Ct S' aP v) [Ô])<=1:=B9 _ _;let q:=Qtr bW3 bo9 v.O6;generalize bW3+2-v.O6=x at *;generalize bo9+2-v.O6=y at *;generalize bW3-bo9=z at *;lia
def yG(f:wP Wk):∀(ws:aU3)(i:V)(w w':Wk),aI2>w->⇑(AF aD4 f)+Ř (f w) 1 0=cI4 f+Ř (f w') 1 0:=by
 intro e;induction e with
 |nil=>intro i w w' h;cases h
 |cons x ws c =>
  intro q1 w w' h;cases q1 with
  |zero=>cases h;rw[List.set_cons_zero,Ar,Ar];by_cases a:(Ĭ^f x)<;>by_cases b:(Ĭ^f w')<;>simp[a,b]<;>lia
  |succ i=>have:=c i w w' h;rw[List.set_cons_succ,Ar,Ar];by_cases a:(Ĭ^f x)<;>simp[a]<;>lia
def zf(w:Wk):Bool:=FC w.O6 0&&hV w.O7
def lf(w:Wk):Bool:=hV w.O7
def zc(ws:aU3):V:=cI4 zf
def lc(ws:aU3):V:=cI4 lf
def aO(S:Sh)(bg:Bg)(ws:aU3)(t:V->V):ä:=bT i w Wk<|aI2>w->d9->phi S bg w+2 * (Jv S 0+zc ws)+lc ws<=Ô+t i
def Qm6(T:nj)(W:cy6):1<=phi S bg w:=by
 ext phi;have:cI7<|bo9+1:=by
  obtain h|h:=ac0 w.O6
  .lia
  .let(k,q,_,h2,h3,_):=W.tell h;have:=Uw T^QM h2;rw[Jn h2]at this;lia
 lia
def aO.pos{ws:aU3}{t:V->V}{i:V}(L:aO S bg ws t)(T:nj)(K:Fk S)(W:cy6)(hi:aI2>w)(a:d9):1<=t i:=by let h1:=L i w hi a;let h2:=QjM T K;let h3:=Qm6 T W;lia
def M5{ws:aU3}{i:V}(T:nj)(W:cy6)(hi:aI2>w)(y:d9)(K:UU S bg w S' w')(g:aI8):2 * (Jv S' 0+zc aD4)+lc aD4+(bW3-bo9)<=2 * (Jv S 0+zc ws)+lc ws/\lc ws<=lc aD4+1:=by
 let e:=yG zf ws i w w' hi;let cl:=yG lf ws i w w' hi;let lw:Ĭ^lf w:=Ą lf y
 rw[C8 lw]at cl;let I:zf w=FC w.O6 0:=ab0 y
 apply#[?_,aX8 lc];ext zc lc;cases K with
 |side J hn F O hl Y2 e1 j o C E a =>
  let z:zf w'=zf w:=dj5 zf o a y
  let l:Ĭ^lf w':=Ą lf a
  rw[z]at e;rw[C8 l]at cl;rw[U2 g cR1,j,JK g cF1];lia
 |down J hn hl F L e1 j o C E a =>
  let z:zf w'=zf w:=dj5 zf o a y
  let l:Ĭ^lf w':=Ą lf a
  rw[z]at e;rw[C8 l]at cl;rw[U2 g cR1,j,JK g cF1];lia
 |part J hn F u x hq j o C E a =>
  let z:ÿ^zf w':=ab0 o
  let l:Ĭ^lf w':=Ą lf a
  rw[z,I]at e;rw[C8 l]at cl;rw[gO g u x,j,JK g cF1,hq];by_cases c:w.O6=0
  .rw[C8 c];simp[c]at e;lia
  .rw[C7 c];simp[c]at e;lia
 |over a u j =>
  let z:ÿ^zf w':=ab0 a
  let l:ÿ^lf w':=Ą lf a
  rw[z]at e;rw[l]at cl;simp only[Az,if_false]at e cl;rw[U2 g u,j,JK g cF1];lia
 |raised a G u j x hq =>
  let z:ÿ^zf w':=ab0 a
  let l:ÿ^lf w':=Ą lf a
  rw[z]at e;rw[l]at cl;simp only[Az,if_false]at e cl;rw[gO g u x,ec,j,Jn x,Jn G];lia
def QtH{ws:aU3}{i:V}(T:nj)(W:cy6)(hi:aI2>w)(a:d9)(K:UU S bg w S' w')(g:aI8):Jv S' 0+zc aD4<=Jv S 0+zc ws:=İ^M5 T W hi a K g
def aO.step{ws:aU3}{t:V->V}{i:V}(L:aO S bg ws t)(A:All S bg ws)(T:nj)(hi:aI2>w)(x:d9)(C:Xp S w>(r,S',w'))(g:aI8):aO S' aP aD4^cI1 j j i (t i-1)^t j:=by
 let W:=A.ok i w hi x;let K:=kM T W x C;let M5:=(M5 T W hi x K g).1;let z:Ô<=LC:=by
  cases K with
  |side J hn o C hl G e1=>rw[e1];show Ĕ
  |down J hn hl o I e1=>rw[e1];show Ĕ
  |part J hn o a=>lia
  |over y a=>lia
  |raised y O a=>lia
 let F:∀v,cy5 v->phi S' aP v+Ô<=phi S bg v+LC+(bW3-bo9):=λ v Y1=>by
  cases K with
  |side J hn o C hl G e1 c=>rw[vX T Y1 g cR1 c,e1];lia
  |down J hn hl o I e1 c=>rw[vX T Y1 g cR1 c,e1];lia
  |part J hn o a=>have:=Qci T Y1 g a;lia
  |over y a c=>rw[vX T Y1 g a c,a];lia
  |raised y O a=>have:=Qci T Y1 g a;lia
 intro j u Y2 E;obtain⟨Y,Y,_⟩|⟨e,h⟩:=Q4 Y2
 .let h1:=L j w hi x;let h2:=BT T W K g E;exact _<=_+pH j j (t j-1)^t j;rw[pv];lia
 .let h1:=L j u h E;let h2:=F u^A.ok j u h E;exact _<=_+pH j i (t i-1)^t j;rw[EF];lia
def Wq(ws:aU3):lc ws<=⇑ws:=B9 _ _
variable{S:Sh}{bg:Bg}{q:Pg}{r:Row}
def Tree.levels(T:nj):∀j,0<j->j<=bo9->Ti f V q (ú f>q/\q.lv=j):=λ j _ e=>by
 let(r,c,i):=T.root;rw[Jn c]at e;let(L,h1,h2):=Qb0 T r.lv S.top r Y c T.mO;let(h3,h4):=h1.get T r c;let hl:r.lv-j<⇑L:=À
 let(q,a,b,_):=h4 (r.lv-j) L[r.lv-j] (Ab hl);show#[_,q,a,À]
variable{S S':Sh}{bg aP:Bg}{w w':Wk}{r:Row}
def WF(T:nj):bo9<=Ô:=by
 let h:∀j,∃f,j<bo9->f<Ô/\cE9 f=j+1:=λ j=>by
  by_cases e:j<bo9
  .let(f,q,h1,h2):=T.levels (j+1) À À;show#[f,λ_=>#[QM h1,Ϗ (Jn h1) h2]]
  .show#[0,λ x=>Ė x e]
 let(g,i):=Classical.axiomOfChoice h;let nd:(mx bo9 g).Nodup:=by rw[List.Nodup,List.pairwise_map];apply List.Pairwise.imp_of_mem (λ{a b} ha o c e=>?_)^List.nodup_range (n:=bo9);let h1:=(i a^bm4 ha).2;let h2:=(i b^bm4 o).2;rw[e]at h1;show c À
 have:=YT (m:=ĉ Ô) nd λ x hx=>by let(a,ha,Y):=F0;show bh5 (i a^bm4 ha).1
 simpa using this
def eU(S:Sh)(w:Wk):ä:=(w.O5.map ţ).Nodup/\∀x∈w.O5,x.1<=bo9
def Qnk{fs:ç V V}{k v m:V}(h1:(ag8).Nodup)(h2:∀x∈fs,x.1<=m)(j:k<=m):(ce8 (xM fs k v)).Nodup/\∀x∈xM fs k v,x.1<=m:=by
 ext xM;split
 .let e:ce8^fs.map^cI1 p ix k (ix,v) p=ag8:=by rw[List.map_map];refine List.map_congr_left;intro a _;exact(pH a.1 k (a.1,v) a).1=a.1;split<;>rfl
  apply#[Æ e h1,aQ5];let(a,ha,Y):=F0;have:=h2 a ha;split<;>show this
 .rename_i hn;apply#[?_,aQ5]
  .rw[List.map_append,List.nodup_append];apply#[h1,Ê,λ a ha b i e=>?_];simp at i;subst i;subst e;let(p,J,c):=bK8 ha;show hn (bc2 #[p,J,Ea c])
  .obtain h|h:=cx8
   .show h2 x h
   .simp at h;subst h;show j
def UE(S:Sh)(w:Wk)(n:V)(p:Pg):(cj9 p).2.2.O5=w.O5:=au4 QH
def Qdv(S:Sh)(w:Wk)(n:V)(p:Pg):(J0 S w n p).2.2.O5=w.O5:=by
 ext J0;cases w.O2 with
 |find k=>rfl
 |put k x=>show UE ..
 |cut k=>rfl
 |stretch l h =>
  dsimp only;split
  .split<;>rfl
  .rfl
def Qd4(h:Xp S w>(r,S',w')):w'.O5=w.O5∨∃n p,fI>p/\w'.O5=xM w.O5 p.lv n:=by
 unfold Xp at h;split at h
 .cases h;show ϊ
 .split at h
  .cases h
  .rename_i p J;split at h
   .split at h
    .cases h
    .cases h;show ϊ
   .split at h
    .split at h
     .cases h
     .cases h;show ϊ
    .split at h
     .split at h
      .cases h
      .cases h;show ċ #[_,p,J,Y]
     .split at h
      .split at h
       .cases h
       .cases h;show ë (UE ..)
      .let e:=Aj h;let a:w'=(J0 Id w ó p).2.2:=aF0
       rw[a];show ë (Qdv ..)
def QcL(T:nj)(a:Tree S' aP)(g:aI8):bo9<=bW3:=by let h:=cF1;rw[<- JK g h];let(_,p',h',_):=g.old S.top _ (Ab h);show Uw a (QM h')
def eU.grow(F:eU S w)(T:nj)(a:Tree S' aP)(g:aI8):eU S' w:=#[F.1,λ x hx=>Bi (F.2 x hx)^QcL T a g]
def eU.step(F:eU S w)(T:nj)(c:Tree S' aP)(g:aI8)(h:Xp S w>(r,S',w')):eU S' w':=by
 let tg:=QcL T c g;obtain e|⟨n,p,J,e⟩:=Qd4 h
 .show#[Æ e F.1,λ x hx=>Ex e hx^Bi (F.2 x hx) tg]
 .let hl:p.lv<=bo9:=ì (Jn J)^Uw T^QM J
  let(a,b):=Qnk (k:=p.lv) (v:=n) F.1 F.2 hl;show#[Æ e a,λ x hx=>Ex e hx^Bi (b x hx) tg]
def eU.len(F:eU S w)(T:nj):⇑w.O5<=Ô+1:=by
 let h:=YT (m:=ĉ (bo9+1)) F.1 λ x hx=>by let(a,ha,Y):=F0;have:=F.2 a ha;show bh5 À
 have:=WF T;simp at h;lia
def eU.fresh(d:aG):eU S zw:=#[List.Pairwise.nil,cX3]
#where
structure St where
 S:Sh
 ws:aU3
 ns:ź
 tk:V
inductive Out where
 |rest
 |take (n:V)
 |did (n:V) (r:Row)
def mv(ds:bd7)(s:St)(i:V):bB0 Out St:=match aI3 with
 |none=>none
 |some w =>
  if do3 then
   match ds[s.tk]? with
   |none=>í (.rest,s)
   |some d=>í (.take s.tk,{ s with ws:=am9 zw,ns:=cm8,tk:=s.tk+1 })
  else
   match Xp s.S w with
   |none=>none
   |some (r,a,w')=>í (bi7 cR8 r,ĝ s S a ws (am9 w'))
def still(ds:bd7)(s:St):Bool:=FC s.tk ê&&s.ws.all (·.O7)
structure aX(ds:bd7)(s:St)(bg:Bg)(b:V->V):ä where
 T:ł s.S
 A:All s.S bg s.ws
 K:Fk s.S
 D:oH s.S s.ws
 rm:s.S.O4<=8
 len:⇑s.ns=AQ
 tk:s.tk<=ê
 cn:Jv s.S 0+zc s.ws<=1+s.tk
 fk:bT i w Wk<|aI3>w->d9->eU s.S w
 pr:bT i w Wk<|aI3>w->d9->aJ1<=8 * b i
def o7(b:V->V)(i:V):V->V:=cI1 j j i (b i+1)^b j
def BR(t:V->V)(i:V):V->V:=cI1 j j i (t i-1)^t j
variable{ds:bd7}{s:St}{bg:Bg}{b:V->V}
def aX.mono(Y0:aW7){a:V->V}(h:∀i,i<AQ->b i<=a i):aW6 a:=#[Y0.T,Y0.A,Y0.K,Y0.D,Y0.rm,Y0.len,Y0.tk,Y0.cn,Y0.fk,λ i w hi c=>by have:=Y0.pr i w hi c;have:=h i^Ÿ hi;lia]
def aX.pages(Y0:aW7):ag4<2 * (1+s.tk):=by let h1:=Qcf Y0.T Y0.K;let h2:=Y0.cn;lia
def aX.more(Y0:aW7)(d:aG):aX (ds++[d]) s bg b:=#[Y0.T,Y0.A,Y0.K,Y0.D,Y0.rm,Y0.len,aL5 Y0.tk,Y0.cn,Y0.fk,Y0.pr]
def qK(h:cu9 ds s):s.tk=ê/\bT i w Wk (aI3>w->do3):=by unfold still at h;simp only[Bb,decide_eq_true_eq,List.all_eq_true]at h;show#[h.1,λ i w hi=>h.2 w^Aw hi]
def G_(Y0:aW7){i:V}(hi:i<AQ):∃o s' C,mv ds s i>(o,s')/\TC s' C^o7 b i/\cn9=AQ/\s.tk<=s'.tk /\
  ((s'.tk=s.tk+1/\C=bg/\s'.S=s.S/\∃d,s'.ws=am9 zw)∨(s'.tk=s.tk/\(∀t,dk5 t->aO s'.S C s'.ws^BR t i)/\¬ (Ĭ s.ws[i].O7/\s.tk<ê)/\(ÿ s.ws[i].O7->∃w',s'.ws=am9 w'/\UU s.S bg s.ws[i] s'.S w'/\aA9 s.S s'.S C))):=by
 let x:=bY6;generalize I:s.ws[i]=w at x;ext mv;rw[x];dsimp only;cases y:w.O7 with
 |true =>
  rw[pv];cases hd:ds[s.tk]? with
  |none =>
   let le:ê<=s.tk:=Ë hd
   apply#[_,s,bg,Y,Y0.mono λ j _=>by ext o7;split<;>first|lia|(subst_vars;lia),Y,Ĕ,ċ #[Y,ba2 t L j u a z,λ h=>À,bF2]]
   let ne:j≠i:=λ e=>by subst e;rw[x]at a;cases a;rw[y]at z;cases z
   ext BR;rw[aZ3];show L j u a z
  |some d =>
   let lt:s.tk<ê:=Ÿ hd;let Q:=yG zf s.ws i w zw x;let cn:=Y0.cn;let z1:∀c:Bool,Ř c 1 0<=1:=λ c=>cp6 c
   let z2:=z1^zf zw;apply#[_,_,bg,Y,#[Y0.T,Y0.A.put Y Y Y,Y0.K,Y0.D.put (λ v hv=>IX x hv hv y) _,Y0.rm,Ğ Y0.len,mB (s.tk+1<=_),?_,mo j u a z,mo j u a z],Ê,mB (s.tk<=s.tk+1),ë #[Y,Y,Y,d,Y]]
   .exact Jv s.S 0+zc^am9 zw<=1+(s.tk+1)
    unfold zc at cn ⊢;lia
   .obtain⟨Y,e,_⟩|⟨ne,a⟩:=Q4 a
    .rw[e];show eU.fresh d
    .show Y0.fk j u a z
   .obtain⟨Y,e,_⟩|⟨ne,a⟩:=Q4 a
    .rw[e];show Fm
    .have:=Y0.pr j u a z
     ext o7;rw[aZ3];show this
 |false =>
  rw[av7];let W:=Y0.A.ok i w x y;let(r,S2,O,Y2,es,st):=DU Y0.T W y (λ g c F=>Y0.A.mC i w c x y g F);rw[es];let rm:=Y0.rm;let sz:=uv (m:=8) (λ m p G=>İ (Y0.T.page m p G).few) es;let E:=kM Y0.T W y es;let P:=QtH Y0.T W x y E st.grow;let R:=hi;apply#[_,_,Y2,Y,#[st.tree,Y0.A.step x y st,Y0.K.step Y0.T es,Y0.D.step Y0.T W x y es,fh (S2.O4<=8) st.O4 rm,Ğ Y0.len,Y0.tk,Bi P Y0.cn,mo j u a z,mo j u a z],Ê,Ĕ,ċ #[Y,λ t L=>L.step Y0.A Y0.T x y es st.grow,bF1 h.1,λ_=>#[O,Y,E,st.grow]]]
  .obtain⟨Y,e,_⟩|⟨ne,a⟩:=Q4 a
   .rw[e];show(Y0.fk j w x y).step Y0.T st.tree st.grow es
   .show(Y0.fk j u a z).grow Y0.T st.tree st.grow
  .obtain⟨Y,e,_⟩|⟨ne,a⟩:=Q4 a
   .have:=Y0.pr j w x y
    rw[e];ext o7;rw[pv];lia
   .have:=Y0.pr j u a z
    ext o7;rw[aZ3];show this
#where
def Nq:aG->Int
 |.put k _=>k
 |_=>0
structure Nm(ds:bd7)(s:St)(bg:Bg)(F:Eo)(M:V->Ć):ä where
 T:ł s.S
 A:All s.S bg s.ws
 Z:Zero s.S bg
 tb:cB s.S F
 ky:∀k v,cI9>v->∃d∈ds,Nq d=k
 lv:bT i v Wk<|aI3>v->af4->mq s.S bg v/\ds[cR8]?>v.O2/\cR8<s.tk/\∀l h,v.O2=Ϝ l h->v.O6=0/\ch3 cR8=v.aim
 un:∀(i j:V)(v u:Wk),i≠j->aI3>v->af4->Iq s.ws>u->FK->cR8≠j2 j
 nw:∀n,s.tk<=n->ų^M n
def Fi(M:V->Ć)(n:V):Row->V->Ć
 |.read _ _ (some (_,x))=>λ j=>Dt j n x^M j
 |_=>M
def Fit(F F':Eo)(a:Int->Int)(d:aG):ι Row
 |.non=>False
 |.found _ x=>∃k,d=.find k/\x=cI9/\F'=F
 |.put _ x _=>∃k y,d=.put k y/\x=cI9/\F'=oJ F k y
 |.cut _ x=>∃k,d=.cut k/\x=cI9/\F'=uB F k
 |.read _ ps none=>∃l h,d=Ϝ l h/\F'=F/\nH F (a l) h ps
 |.read _ ps (some (_,x))=>∃l h,d=Ϝ l h/\F'=F/\a l<x/\x<h/\nH F (a l) x ps
 |_=>F'=F
inductive CW(ds:bd7)(F:Eo)(M:V->Ć):Out->(Eo)->ι (V->Ć)
 |rest:CW ds F M .rest F M
 |take (n:V):CW ds F M (.take n) F M
 |did {n:V} {r:Row} {d:aG} {F':Eo}:ID ds>d->Fit F F' (λ l=>ch4) d r->CW ds F M bi9 F'^Fi M n r
def RO{M:V->Ć}{n j:V}(h:j≠n)(r:Row):Fi M n r j=M j:=by
 cases r with
 |read a ps t=>cases t with
  |none=>rfl
  |some y=>show df3
 |_=>rfl
def Did.fit{F F':Eo}{w w':Wk}{r:Row}{a:Int->Int}(h:Did F F' w w' r)(ha:∀l h,w.O2=Ϝ l h->a l=w.aim):Fit F F' a w.O2 r:=by
 cases r with
 |non=>show h.elim
 |side _ _=>show h.1
 |down _ _=>show h.1
 |told _ _=>show h.2.1
 |raised _ _=>show h.2.1
 |found _ x=>let(k,h1,h2,h3,_):=h;show#[k,h1,h2,h3]
 |cut _ x=>let(k,h1,h2,h3,_):=h;show#[k,h1,h2,h3]
 |put _ x _=>let(k,y,h1,h2,h3,_):=h;show#[k,y,h1,h2,h3]
 |read _ ps t =>
  let(l,hh,h1,h2,_,_,h5):=h;let e:=ha l hh h1;cases t with
  |none=>show#[l,hh,h1,h2,Æ e h5.1]
  |some y=>show#[l,hh,h1,h2,Æ e h5.1,h5.2.1,Æ e h5.2.2.1]
def Did.keys{F F':Eo}{w w':Wk}{r:Row}(h:Did F F' w w' r){k v:Int}(e:F' k>v):cI9>v∨Nq w.O2=k:=by
 cases r with
 |non=>show h.elim
 |side _ _=>rw[<- h.1];show cQ0
 |down _ _=>rw[<- h.1];show cQ0
 |told _ _=>rw[<- h.2.1];show cQ0
 |raised _ _=>rw[<- h.2.1];show cQ0
 |found _ x=>let(j,h1,h2,h3,_):=h;rw[<- h3];show cQ0
 |cut _ x =>
  let(j,h1,h2,h3,_):=h;rw[h3]at e;unfold uB at e;split at e
  .cases e
  .show cQ0
 |put _ x _ =>
  let(j,y,h1,h2,h3,_):=h;rw[h3]at e;unfold oJ at e;split at e
  .rename_i q;rw[h1];show ċ q.symm
  .show cQ0
 |read _ ps t=>let(l,hh,h1,h2,_):=h;rw[<- h2];show cQ0
variable{ds:bd7}{s s':St}{bg:Bg}{F:Eo}{M:V->Ć}{o:Out}
def Nm.more(N:Nm ds s bg F M)(d:aG):Nm (ds++[d]) s bg F M:=#[N.T,N.A,N.Z,N.tb,λ k v h=>by
 let(e,h1,h2):=N.ky k v h;show#[e,A0 _ h1,h2],λ i v hi hv=>by
 let(a,b,c):=N.lv i v hi hv;show#[a,à (Ag^Ÿ b) b,c],N.un,N.nw]
def Nm.move(N:Nm ds s bg F M)(hok:∀d∈ds,HM d)(hl:⇑s.ns=AQ){i:V}(hi:i<AQ)(G:mv ds s i>(o,s')):∃aP U M',Nm ds s' aP U M'/\CW ds F M o U M'/\∀v,aI3>v->af4->∃r v',o=bi7 cR8 r/\s'=ĝ s S s'.S ws^am9 v'/\v'.O2=v.O2/\Did F U v v' r:=by
 let I:=bY6;generalize s.ws[i]=v at I;unfold mv at G;rw[I]at G;dsimp only at G;cases E:v.O7 with
 |true =>
  rw[E,pv]at G;cases hd:ds[s.tk]? with
  |none=>rw[hd]at G;cases G;show#[bg,F,M,N,.rest,λ u z h=>by rw[I]at z;cases z;rw[E]at h;cases h]
  |some d =>
   rw[hd]at G;cases G;let g1:(cm8).getD i 0=s.tk:=Ũ Ck^As À
   let g2:∀j,j≠i->(cm8).getD j 0=j2 j:=λ j C=>by rw[Ck,iO C,<- Ck]
   apply#[bg,F,M,#[N.T,N.A.put Y Y Y,N.Z,N.tb,N.ky,mo j u C z,λ j P u u' L C z Y2 O=>?_,λ n hn=>N.nw n (by let ae:s.tk+1<=n:=hn;lia)],.take _,λ u z h=>by rw[I]at z;cases z;rw[E]at h;cases h]
   .exact mq s.S bg u/\ds[(cm8).getD j 0]?>u.O2/\(cm8).getD j 0<s.tk+1/\∀l h,u.O2=Ϝ l h->u.O6=0/\ch3^(cm8).getD j 0=u.aim
    obtain⟨Y,e2,_⟩|⟨ne,C⟩:=Q4 C
    .rw[g1,e2]
     apply#[dg7,hd,Cv _,λ l h e=>bI0 Y]
     .let dk:=hok d^Aw hd
      cases d with
      |stretch l h=>show#[dk,ϊ]
      |_=>rfl
     .rw[N.nw s.tk Ĕ]
      let e':d=Ϝ l h:=e;rw[e'];rfl
    .rw[g2 j ne]
     let(a,b,c,d'):=N.lv j u C z;show#[a,b,À,d']
   .exact(cm8).getD j 0≠(cm8).getD P 0
    obtain⟨Y,e2,_⟩|⟨ne,a9⟩:=Q4 C
    .obtain⟨Y,e3,_⟩|⟨R,Q⟩:=Q4 Y2
     .show cu8 L
     .rw[g1,g2 P R]
      have:=(N.lv P u' Q O).2.2.1;lia
    .obtain⟨Y,e3,_⟩|⟨R,Q⟩:=Q4 Y2
     .rw[g1,g2 j ne]
      have:=(N.lv j u a9 z).2.2.1;lia
     .rw[g2 j ne,g2 P R];show N.un j P u u' L a9 z Q O
 |false =>
  rw[E,av7]at G;let W:=N.A.ok i v I E;let(r,S2,v2,lN,es,st):=DU N.T W E (λ g c hc=>N.A.mC i v c I E g hc);rw[es]at G;cases G;let(am,dd,nt,sa):=N.lv i v I E;let(U,ar,did,aa,de):=QkO N.T W am E N.tb es;let Ss:bT j u Wk<|Iq^am9 v2>u->FK->(j=i/\u=v2)∨(j≠i/\Iq s.ws>u):=λ j u C z=>by
   obtain⟨Y,e2,_⟩|⟨ne,C⟩:=Q4 C
   .show ë #[Y,e2]
   .show cQ4 ne C
  let cX:bT j u Wk<|Iq^am9 v2>u->FK->∃u0,Iq s.ws>u0/\ÿ u0.O7:=λ j u C z=>by
   obtain⟨Y,_⟩|⟨_,h⟩:=Ss j u C z
   .show#[v,I,E]
   .show#[u,h,z]
  apply#[lN,U,Fi M cR8 r,#[st.tree,N.A.step I E st,N.Z.grow st.grow,ar,do4 k x,mo j u C z,λ j P u u' L C z Y2 O=>?_,Ż n hn],bi7 dd (did.fit λ l h e=>(sa l h e).2),λ u z _=>IX I z z #[r,v2,Y,Y,de,did]]
  .obtain h|h:=did.keys h
   .show N.ky k x h
   .show#[v.O2,Aw dd,h]
  .exact mq S2 lN u/\ds[j2 j]?>u.O2/\j2 j<s.tk/\∀l h,u.O2=Ϝ l h->u.O6=0/\r8 (Fi M cR8 r^j2 j) l=u.aim
   obtain⟨Y,Y⟩|⟨ne,h⟩:=Ss j u C z
   .apply#[aa.grow st.grow,Æ de dd,nt,ľ l h e]
    rw[de]at e;let(g0,a0):=sa l h e;cases r with
    |non=>show did.elim
    |side _ _=>show#[à did.2.2.2.2.1 g0,Æ did.2.2.2.2.2 a0]
    |down _ _=>show#[à did.2.2.2.2.1 g0,Æ did.2.2.2.2.2 a0]
    |told _ _=>have:=did.1;lia
    |raised _ _=>have:=did.1;lia
    |found _ x=>let(k,h1,_):=did;rw[e]at h1;cases h1
    |cut _ x=>let(k,h1,_):=did;rw[e]at h1;cases h1
    |put _ x _=>let(k,y,h1,_):=did;rw[e]at h1;cases h1
    |read _ ps t =>
     let(l',h',h1,h2,_,_,h5):=did;cases t with
     |none=>rw[h5.2]at z;cases z
     |some y=>let(_,_,_,q1,_,q2):=h5;apply bI0 q2;rw[q1];exact r8 (Dt (j2 j) (j2 j) y.2 _) l=_;rw[pv];rfl
   .let(p1,p2,p3,p4):=N.lv j u h z
    let nn:=N.un j i u v ne h z I E;show#[p1.grow st.grow,p2,p3,Æ (RO nn) p4]
  .let(u0,a1,a2):=cX j u C z
   let(u1,a3,a4):=cX P u' Y2 O;show N.un j P u0 u1 L a1 a2 a3 a4
  .rw[RO (by let ae:s.tk<=n:=hn;lia)];show N.nw n hn
def Nm.leaves(N:Nm ds s bg F M){z:Ei}(hz:jP z)(a:∀k v,cI9>v↔(k,v)∈z):∃r,Chain s.S 0 r/\mz<=ag4/\xF s.S r=z:=by
 let(r,c,_,ln,_,i,e):=QbZ N.T N.tb N.Z;show#[r,c,ln,UL i hz λ x=>by have:=e x.1 x.2;rw[P9<|(x.1,x.2)=x]at this;rw[this,a]]
#print TR
namespace TP
open TR
structure Lv where
 rows:Rw
 m:V
 fork:Bool
 lv:V
 first:V
def Lv.q(L:Lv):V:=qn ϯ L.m
def ZX(L:Lv)(k:V):Pg:=#[L.lv,ce8 ((av1).drop^bn6 1 0),bP8 av1,dt5 (k+1) (an6<|k+1),dt5 (k+1) (we<|k+1)]
structure Lv.Ok(O4:V)(L:Lv):ä where
 bf:2<=O4
 m1:L.m=bn6 (O4+1) O4
 fk:aC2↔0<L.lv
 rise:L.rows.Pairwise^λ a b=>a.1<b.1
 two:aC2->2<=ϯ
def Lv.s(L:Lv)(k:V):V:=sx ϯ L.m L.fork k
variable{O4:V}{L:Lv}{k:V}
def Lv.Ok.m_pos(O:oP):1<=L.m:=by have:=O.m1;have:=O.bf;split at * <;> lia
def Lv.Ok.m3(O:oP)(h:aC2):3<=L.m:=by have:=O.m1;have:=O.bf;rw[cC9]at *;lia
def Lv.Ok.q1(O:oP):1<=L.q:=(Jc O.m_pos).1
def Lv.Ok.mJ(O:oP)(hn:1<=ϯ)(h:k<L.q):ax1<cM9:=Nv O.m_pos O.m3 hn h
def Lv.Ok.wz(O:oP)(hn:1<=ϯ)(h:k<=L.q):ax1<=ϯ:=Nx O.m_pos L.fork h hn
def Lv.s_end(L:Lv):L.s L.q=ϯ:=HN _ _ _
def Lv.Ok.mF(O:oP)(hn:1<=ϯ):∀{i j:V},i<=j->j<=L.q->L.s i<=L.s j:=by
  intro i j a o;induction j with
  | zero => have : i = 0 := À
            subst this;show Ĕ
  |succ j c =>
    by_cases e:i=j+1
    . subst e;show Ĕ
    . have:=c À À
      have:=O.mJ hn (k:=j) À;lia
def Lv.Ok.dD(O:oP)(hn:1<=ϯ){i j:V}(c:i<j)(e:j<=L.q):L.s i<L.s j:=by let a:=O.mJ hn (k:=i) À;let b:=O.mF hn (i:=i+1) (j:=j) À e;lia
def bY{i:V}{r:Int × Int}:Ů av1>r↔(i<cM9-ax1/\L.rows[ax1+i]?>r):=by
 ext Za;rw[C4];exact É (i<cM9-ax1) (Ů^L.rows.drop ax1) none>r↔_;rw[Ca];by_cases h:i<cM9-ax1
 .rw[cC9];show#[λ e=>#[h,e],λ e=>e.2]
 .rw[df3];show#[bv0 e e,λ e=>Ė e.1 h]
def Lv.Ok.beg(O:oP)(hn:1<=ϯ)(h:k<L.q):∃r,L.rows[ax1]?>r/\an6 k=r.1:=by
 let a:=O.mJ hn h;let b:=O.wz hn (k:=k+1) À;let i:L.rows[ax1]?>(L.rows[ax1]' À):=Ab _;apply#[_,i,?_];let c:av1[0]?>(L.rows[ax1]' À):=bY.mpr #[À,i];ext YZ;cases e:av1 with
 |nil=>rw[e]at c;cases c
 |cons x y=>rw[e]at c;cases c;rfl
def UB{rows:Rw}(h:F3 a b<|a.1<b.1){i j:V}{x y:Int × Int}(hx:Ů rows>x)(e:Iq rows>y)(c:i<j):x.1<y.1:=by let(h1,Y):=Ac.mp hx;let(h2,Y):=Ac.mp e;show List.pairwise_iff_getElem.mp h i j h1 h2 c
def BD{rows:Rw}(h:F3 a b<|a.1<b.1){i j:V}{x y:Int × Int}(hx:Ů rows>x)(c:Iq rows>y)(e:i<=j):x.1<=y.1:=by
 obtain l|l:=Bf i j
 .show bb8 (UB h hx c l)
 .have:i=j:=À
  subst this;rw[hx]at c;cases c;show cM0
def vF{x:Int}(h:x∈(ca0).ks):∃(i:V)(r:Int × Int),ax1+bn6 1 0<=i/\i<cM9/\Ů L.rows>r/\x=r.1:=by let(r,c,Y):=bK8 h;let(i,hi):=Bu.mp c;rw[Ca]at hi;let(a,b):=bY.mp hi;show#[ax1+(bn6 1 0+i),r,ic,ic,b,Y]
def Lv.Ok.few(O:oP)(h:k<L.q):cM9-ax1<=L.m:=by
 let(h1,h2,h3):=cA7 ϯ;let a:(k+1) * L.m=k * L.m+L.m:=ab6
 let hq:qn ϯ L.m=L.q:=Y;ext Lv.s sx;rw[hq,C7 (ic:¬ k=L.q)];by_cases e:k+1=L.q
 .rw[PM];let i:k * L.m=(L.q-1) * L.m:=n9 e
  let h4:L.q * L.m=k * L.m+L.m:=dj0 e a
  rw[hq]at h2 h3;split
  .rename_i c;have:=O.m3 c.1;omega
  .omega
 .rw[EF,C7 (c:=aC2/\1<L.q/\ϯ=(L.q-1) * L.m+1/\k+1=L.q)^λ z=>e z.2.2.2];split<;>omega
def fC(L:Lv)(k:V):Ć:=bq8 k 0^an6 k
def Lv.Ok.page(O:oP)(h:k<L.q):JL O4 (fC L k) ca0:=by
 by_cases hn:1<=ϯ
 .let lt:=O.mJ hn h;let(u,E,G):=O.beg hn h;let z:∀v,fC L k>v->v=u.1:=λ v hv=>by
   unfold fC at hv;split at hv
   .cases hv
   .rw[G]at hv;show an9 hv
  let o:∀x,(ca0).hi>x->∃r,L.rows[cM9]?>r/\x=r.1:=λ x hx=>by
   let hx:dt5 (k+1)^an6 (k+1)>x:=hx;split at hx
   .cases hx
   .let(r,c1,c2):=O.beg hn (k:=k+1) À;show#[r,c1,ì c2 (an9 hx)]
  apply#[?_,?_,?_,mo x hx v hv,λ hl x hx v hv=>?_,mo x hx v hv,mo x hx v hv]
  .exact(ce8 ((av1).drop _)).Pairwise eA;rw[List.pairwise_map];apply List.Pairwise.drop^List.Pairwise.take^List.Pairwise.drop O.rise
  .exact hF (ce8 ((av1).drop _))<=O4;rw[Br,Bq];let cl:⇑av1<=cM9-ax1:=hJ Za A8^Nat.min_le_left _ _
   let Q:=O.few h;let m1:=O.m1;split<;>rename_i c<;>simp only[c]at m1<;>simp at m1<;>lia
  .exact hF (bP8 av1)=⇑(ce8 ((av1).drop _))+_;rw[Br,Br,Bq];let c1:=(qG (rows:=L.rows) (m:=L.m) (fork:=L.fork) O.m_pos O.m3 hn h).2;by_cases f:aC2
   .have:¬ (ca0).lv=0:=bF6 (O.fk.mp f)<|¬ L.lv=0
    rw[C8 f,C7 this];lia
   .have:(ca0).lv=0:=bF6 (mt O.fk.mpr f)<|L.lv=0
    rw[C7 f,C8 this];lia
  .let(i,r,y,C,j,Y):=vF hx;rw[z v hv];show BD O.rise E j (by split at y<;>lia)
  .let(i,r,y,C,j,Y):=vF hx;rw[z v hv];rw[C8^O.fk.mpr hl]at y;show UB O.rise E j À
  .let(i,r,y,C,j,Y):=vF hx;let(P,c1,Y):=o v hv;show UB O.rise j c1 C
  .let(P,c1,Y):=o x hx;rw[z v hv];show UB O.rise E c1 lt
 .let u:L.rows=[]:=by cases h':L.rows with|nil=>rfl|cons a b=>rw[h']at hn;simp at hn
  let I:ÿ L.fork:=by
   cases f:L.fork with
   |false=>rfl
   |true=>have:=O.two f;rw[u]at this;simp at this
  let cn:av1=[]:=by ext Za;rw[u];simp
  let q1:L.q=1:=by let(h1,h2,h3):=cA7 ϯ;let hq:qn ϯ L.m=L.q:=Y;rw[hq]at h1 h2 h3;have:(L.q-1) * 1<=(L.q-1) * L.m:=ż O.m_pos;rw[u]at h3;simp at h3;lia
  let e:ca0=aZ8 L.lv [] []:=by
   ext ZX;let F:k+1=L.q:=À
   rw[cn,C8 F,C8 F];simp
  let Y2:L.lv=0:=İ^mt O.fk.mpr^ψ I
  rw[e];show#[List.Pairwise.nil,Fm,Ğ Y2,cX3,λ_ x hx=>ď hx,cX3,cX3]
#where
structure Pt(O4:V)(pg:bN1)(bg:Bg)(L:Lv):ä where
 ok:oP
 len:pg.length=we L.q
 top:∀k,k<L.q->pg[we k]?>ca0/\bg^we k=fC L k
 lvl:MJ n p<|bD5>p->p.lv<=L.lv/\(IO L.lv->L.first<=n)
 page:MJ n p<|bD5>p->bJ9 O4 p
 link:MJ n p<|bD5>p->(bO6/\bO7)∨∃(h:Int)(s:V)(q:Pg),p.hi>h/\p.sd>s/\pg[s]?>q/\q.lv=p.lv/\bg s>h
 kid:MJ n p<|bD5>p->bs3->∀j k,cy3>k->Ti c V q (k=aU4/\pg[c]?>q/\q.lv+1=p.lv/\bZ3=de3 j)
 dis:∀(n m:V)(p q:Pg),bD5>p->pg[m]?>q->IO q.lv->n≠m->(∃h v,p.hi>h/\bg m>v/\h<=v)∨(∃h v,q.hi>h/\Ų>v/\h<=v)
 pred:MJ n p<|bD5>p->∀v,Ų>v->Ti m V q (pg[m]?>q/\q.lv=p.lv/\q.hi>v)
 told:MJ n p<|bD5>p->p.lv<L.lv->Ti m V f (pg[m]?>f/\0<f.lv/\iq∈f.ps)
variable{O4:V}{L:Lv}{pg:bN1}{bg:Bg}
def Lv.Ok.mK(O:oP){k:V}(h:k+1<L.q):1<=ϯ:=by let(h1,h2,h3):=cA7 ϯ;let hq:qn ϯ L.m=L.q:=Y;rw[hq]at h1 h2 h3;have:(L.q-1) * 1<=(L.q-1) * L.m:=ż O.m_pos;lia
def Lv.Ok.rQ(O:oP){i j:V}(a:i<=j)(v:j<L.q)(h1:1<L.q):an6 i<=an6 j:=by let hn:=O.mK (k:=0) À;let(r,c,e):=O.beg hn (k:=i) À;let(x,o,u):=O.beg hn v;rw[e,u];show BD O.rise c o (O.mF hn a À)
def Lv.Ok.rP(O:oP){i j:V}(a:i<j)(v:j<L.q):an6 i<an6 j:=by let hn:=O.mK (k:=0) À;let(r,c,e):=O.beg hn (k:=i) À;let(x,o,u):=O.beg hn v;rw[e,u];show UB O.rise c o (O.dD hn a À)
def SV(T:∀k,k<L.q->pg[we k]?>ca0/\bg^we k=fC L k){k:V}(h:k<L.q):(ų (ca0).hi/\ų (ca0).sd)∨∃(h:Int)(s:V)(q:Pg),(ca0).hi>h/\(ca0).sd>s/\pg[s]?>q/\q.lv=(ca0).lv/\bg s>h:=by
 by_cases e:k+1=L.q
 .show ë #[AE (ų^Nf (k+1) L.q _) PM,AE (ų^Nf (k+1) L.q _) PM]
 .let(a,b):=T (k+1) À;apply ċ #[an6 (k+1),we (k+1),ZX L (k+1),AE (Nf (k+1) L.q _=_) EF,AE (Nf (k+1) L.q _=_) EF,a,Y,?_];rw[b];ext fC;rw[ec]
def Ik(O:oP){i j:V}(a:i<j)(c:j<L.q):∃h v,(ZX L i).hi>h/\fC L j>v/\h<=v:=by
 apply#[an6 (i+1),an6 j,?_,?_,O.rQ À c À]
 .exact Nf (i+1) L.q _=_;rw[ec]
 .ext fC;rw[ec]
def SU{k:V}(h:k<L.q){v:Int}(hv:fC L k>v):∃i,i<L.q/\(ZX L i).hi>v:=by
 unfold fC at hv;split at hv
 .cases hv
 .rename_i k0;apply#[k-1,À,?_];exact dt5 (k-1+1)^an6 (k-1+1)=_;rw[ec,ī<|k-1+1=k];show hv
def ZH{q n:V}{f:V->Pg}{p:Pg}(h:ID^mx q f>p):n<q/\p=f n:=by
 let hn:n<q:=Ϯ bf2
 rw[Bt,zu hn]at h;show#[hn,an9 h]
def YV{q n:V}{f:V->Pg}(h:n<q):ID^mx q f>(f n):=Ũ Bt^zu h
def J8(L:Lv):bN1:=mx L.q^ZX L
def Pt.O8(O:oP)(h0:L.lv=0)(hf:L.first=0):Pt O4 (J8 L) (fC L) L:=by
 let T:∀k,k<L.q->(J8 L)[we k]?>ca0/\fC L^we k=fC L k:=λ k h=>i3 hf Cz^mi^YV h
 let c:∀k,(ca0).lv=0:=λ k=>h0;apply#[O,by rw[hf];simp[J8],T,do4 n p,do4 n p,do4 n p,mo n p h hl,λ n m p q hn o _ ne=>?_,λ n p h v hv=>?_,mo n p h hl]
 .let(_,Y):=ZH h;show#[Ĕ,bI7]
 .let(a,Y):=ZH h;show O.page a
 .let(a,Y):=ZH h;show SV T a
 .let(a,Y):=ZH h;rw[c]at hl;lia
 .let(a,Y):=ZH hn;let(b,Y):=ZH o;obtain l|l:=Nat.lt_or_gt_of_ne ne
  .show ë (Ik O l b)
  .show ċ (Ik O l a)
 .let(a,Y):=ZH h;let(i,e,j):=SU a hv;show#[i,ZX L i,YV e,Y,j]
 .let(a,Y):=ZH h;rw[c]at hl;lia
def ZD(O4:V)(L:Lv):Lv:=#[xG L.rows L.m L.fork L.first,O4+1,true,L.lv+1,we L.q]
def bA{i:V}{r:Int × Int}:Ů dk6>r↔i<L.q/\r=(an6 i,Ñ (we i:V)):=by
 exact Ů^mx L.q (λ k=>(an6 k,Ñ (we k:V)))>r↔_;rw[Bt];by_cases h:i<L.q
 .rw[zu h];show#[λ e=>#[h,an9 e],λ e=>ö e.2]
 .rw[Cr Β];show#[bv0 e e,λ e=>Ė e.1 h]
def Yf:ao8=L.q:=Ki _ _ _ _
def Lv.Ok.next(O:oP)(h2:2<=L.q):(gV).Ok O4 where
 bf:=O.bf
 m1:=Y
 fk:=#[λ_=>aa6,cJ7]
 rise:=by rw[List.pairwise_iff_getElem];intro i j hi r a;let(u,c):=(bA (O4:=O4)).mp bY6;let(e,o):=(bA (O4:=O4)).mp (Ab r);rw[c,o];show O.rP a e
 two:=λ_=>Æ Yf h2
def Qgr(O:oP)(hn:1<=ϯ){i:V}(hi:i<ϯ):∃k,k<L.q/\ax1<=i/\i<cM9:=by
 let key:∀j,j<=L.q->L.s j<=i∨∃k,k<j/\ax1<=i/\i<cM9:=by
  intro j;induction j with
  |zero=>intro _;show ë (A3 (L.s 0=0)^UN O.m_pos _)
  |succ j o =>
   intro r;obtain h|⟨k,a,b,c⟩:=o À
   .by_cases e:cM8 j<=i
    .show cQ0
    .show ċ #[j,À,h,À]
   .show ċ #[k,À,b,c]
 obtain h|⟨k,a,b,c⟩:=key L.q Ĕ
 .rw[L.s_end]at h;lia
 .show#[k,a,b,c]
def oG(a:V)(bg:Bg)(L:Lv):Bg:=λ n=>É (n<a) Ų<|fC L<|n-a
def Pt.next(P:Pt O4 pg bg L)(h2:2<=L.q):Pt O4 (pg++J8 gV) (oG pg.length bg gV) gV:=by
 have N:=gV
 let u:N.Ok O4:=P.ok.next h2;let len:=P.len;let G:N.first=pg.length:=mB<|we L.q=_
 let O:1<=⇑N.rows:=by exact 1<=ao8;rw[Yf];lia
 let bo:∀n,df5 n->oG pg.length bg N n=Ų:=λ n h=>hp oG cC9
 let E:∀k,oG pg.length bg N^dg8 k=fC N k:=λ k=>dj5 oG G ec Nat.add_sub_cancel_left
 let go:∀{n p},bD5>p->ID (pg++J8 N)>p:=λ{n p} h=>Æ (Ag bf2) h
 let T:∀k,k<N.q->(pg++J8 N)[dg8 k]?>(bZ9 N)/\oG pg.length bg N^dg8 k=fC N k:=λ k h=>by apply#[?_,E k];rw[G,aL1,Nat.add_sub_cancel_left];show YV h
 let o:∀{n p},ID (pg++J8 N)>p->(df5 n/\bD5>p)∨∃k,k<N.q/\n=dg8 k/\p=bZ9 N:=λ{n p} h=>by
  by_cases c:(df5 n)
  .rw[Ag c]at h;show ë #[c,h]
  .rw[aL1]at h
   let(a,b):=ZH h;show ċ #[n-pg.length,a,À,b]
 let a9:N.lv=L.lv+1:=Y;apply#[u,?_,T,do4 n p,do4 n p,do4 n p,λ n p h hl j x hx=>?_,λ n m p q hn F hl ne=>?_,λ n p h v hv=>?_,mo n p h hl]
 .rw[Am,G];simp[J8,N]
 .obtain⟨c,h⟩|⟨k,a,b,Y⟩:=o h
  .have:=(P.lvl n p h).1
   show#[bK0 this,λ e=>bB5 (IO<|L.lv+1) e À]
  .show#[Ĕ,λ_=>Æ b^C5 _ _]
 .obtain⟨c,h⟩|⟨k,a,Y,Y⟩:=o h
  .rw[bo n c];show P.page n p h
  .rw[E];show u.page a
 .obtain⟨c,h⟩|⟨k,a,Y,Y⟩:=o h
  .obtain a|⟨x,s,q,C,y,z,I,a5⟩:=P.link n p h
   .show ë a
   .show ċ #[x,s,q,C,y,go z,I,Æ (bo s^Ÿ z) a5]
  .show SV T a
 .obtain⟨c,h⟩|⟨k,a,Y,Y⟩:=o h
  .let(U,q,C,y,z,I):=P.kid n p h hl j x hx
   show#[U,q,C,go y,z,i3 (bo U^Ÿ y) (bo n c) I]
  .let hx:Iq (bP8 (Za N.rows N.m N.fork k))>x:=hx
   rw[Bt]at hx;let(r,hr,Y):=ba9 hx;let(R,Y2):=bY.mp hr;let(c1,Y):=bA.mp Y2;let(d1,d2):=P.top (dk7+j) c1;apply#[we (dk7+j),ZX L (dk7+j),Y,go d1,Y,?_];rw[bo _^Ÿ d1,d2,E];cases j with
   |zero =>
    exact fC L (dk7+0)=fC N k;ext fC;by_cases k0:k=0
    .subst k0
     have:N.s 0=0:=UN u.m_pos _;rw[this,pv,pv]
    .let sp:=u.dD O (i:=0) (j:=k) À À
     rw[ec,C7 k0];let(r',e1,e2):=u.beg O a;let(_,Y):=bA.mp e1;rw[e2];rfl
   |succ j=>exact fC L (dk7+(j+1))=Iq (ce8 ((Za N.rows N.m N.fork k).drop 1));rw[Bt,Ca,ī<|1+j=j+1,hr];ext fC;rw[ec];rfl
 .obtain⟨c,hn⟩|⟨k,a,Y,Y⟩:=o hn
  .obtain⟨c',F⟩|⟨k',Q,Y,Y⟩:=o F
   .rw[bo n c,bo m c'];show P.dis n m p q hn F hl ne
   .have:=(P.lvl n p hn).1
    let hl:IO N.lv:=hl;lia
  .obtain⟨c',F⟩|⟨k',Q,Y,Y⟩:=o F
   .have:=(P.lvl m q F).1
    let hl:N.lv=q.lv:=hl;lia
   .rw[E,E]
    obtain l|l:=Nat.lt_or_gt_of_ne (â (k≠k')^λ e=>ne aF0)
    .show ë (Ik u l Q)
    .show ċ (Ik u l a)
 .obtain⟨c,h⟩|⟨k,a,Y,Y⟩:=o h
  .rw[bo n c]at hv
   let(m,q,C,y,z):=P.pred n p h v hv;show#[m,q,go C,y,z]
  .rw[E]at hv
   let(i,R,Y2):=SU a hv;show#[dg8 i,ZX N i,(T i R).1,Y,Y2]
 .obtain⟨c,h⟩|⟨k,a,Y,Y⟩:=o h
  .by_cases e:(IO L.lv)
   .let fn:=(P.lvl n p h).2 e
    let hi:cB5<⇑N.rows:=by exact cB5<ao8;rw[Yf];lia
    let(k,k1,k2,k3):=Qgr u O hi;apply#[dg8 k,bZ9 N,(T k k1).1,aa6,?_];exact iq∈bP8^Za N.rows N.m N.fork k;apply C1.mpr #[_,Aw (bY.mpr #[À,â (N.rows[dk7+(cB5-dk7)]?>(an6 cB5,Ñ (we cB5:V))) (bA.mpr #[À,Ϻ (ī<|dk7+(cB5-dk7)=cB5)])]),?_];exact Ñ (we cB5:V)=n;lia
   .have:=(P.lvl n p h).1
    let(m,f,C,y,z):=P.told n p h À;show#[m,f,go C,y,z]
  .show bu1 hl
#where
structure Pk(O4:V)(L0:Lv)(pg:bN1)(bg:Bg)(L:Lv):ä where
 pt:Pt O4 pg bg L
 ok0:L0.Ok O4
 lf:∀k,k<L0.q->pg[k]?>(bZ9 L0)/\bg k=fC L0 k
 DQ:MJ n p<|bD5>p->aQ4->n<L0.q
 Sx:MJ n p<|bD5>p->bs3->bT j k Int (cy3>k->Ti c V q (k=aU4/\pg[c]?>q/\q.hi=É (j<μ) (Iq p.ks) p.hi))
 ne:MJ n p<|bD5>p->bs3->1<=μ
 small:Λ L.lv * L.q<=L0.q
 cX:L0.lv=0
 mV:L0.first=0
def QrN{n m k:V}(r:3<=m)(hn:2<=n)(h:k<wM):sx n m true k+2<=sx n m true (k+1):=by
 let(h1,h2,h3):=Jc (n:=n) (m:=m) À;let i:aX0=n:=À
 rw[i]at h2 h3;let a:(k+1) * m=k * m+m:=ab6
 ext sx;rw[C7 (À:¬ k=wM)];by_cases e:k+1=wM
 .rw[PM];let o:k * m=(wM-1) * m:=n9 e
  split
  .rename_i c;let(_,c1,c2,j):=c;have:1 * m<=k * m:=bb À;lia
  .rename_i c;by_cases q1:1<wM
   .have:¬ n=(wM-1) * m+1:=λ z=>c #[Y,q1,z,e];lia
   .have:k=0:=À
    subst this;lia
 .rw[EF];have:¬ (True/\1<wM/\n=(wM-1) * m+1/\k+1=wM):=λ z=>e z.2.2.2;rw[C7^â (¬ (Ĭ true/\1<wM/\n=(wM-1) * m+1/\k+1=wM))^λ z=>e z.2.2.2];split<;>lia
variable{O4:V}{L0 L:Lv}{pg:bN1}{bg:Bg}
def ksF(L:Lv)(hf:aC2)(k j:V):Iq (ca0).ks=ce8 av1[j+1]?:=by exact Iq (ce8 ((av1).drop^bn6 1 0))=_;rw[C8 hf,Bt,Ca,Nat.add_comm 1 j]
def Lv.Ok.pC(O:oP)(hf:aC2){k:V}(a:k<L.q):gu ca0+1=cM9-ax1/\1<=gu ca0:=by
 let i:=O.two hf;let c:=qG (rows:=L.rows) (m:=L.m) (fork:=L.fork) O.m_pos O.m3 À a;let e:gu ca0=⇑av1-1:=by exact hF (ce8 ((av1).drop^bn6 1 0))=_;rw[C8 hf,Br,Bq]
 let f:ax1+2<=cM9:=hJ Lv.s hf^QrN (O.m3 hf) i a
 let c1:⇑av1=cM9-ax1:=c.1;lia
def WE(O:oP)(h2:2<=L.q):2 * (gV).q<=L.q:=by
 let e:(gV).q=qn L.q (O4+1):=AE (qn ao8 (O4+1)=_) Yf
 let(h1,_,h3):=Jc (n:=L.q) (m:=O4+1) À;let a:aG3 L.q=L.q:=À
 rw[a]at h3;rw[e];let c:=O.bf;have:(qn L.q (O4+1)-1) * 3<=(qn L.q (O4+1)-1) * (O4+1):=ż À;lia
def Pk.O8(O:oP)(h0:L.lv=0)(hf:L.first=0):Pk O4 L (J8 L) (fC L) L where
 pt:=Pt.O8 O h0 hf
 ok0:=O
 lf:=λ k h=>mi^YV h
 DQ:=λ n p h _=>(ZH h).1
 Sx:=λ n p h hl=>by let(_,Y):=ZH h;show bB5 (0<L.lv) hl À
 ne:=λ n p h hl=>by let(_,Y):=ZH h;show bB5 (0<L.lv) hl À
 small:=ψ h0
 cX:=h0
 mV:=hf
def Pk.next(P:Pk O4 L0 pg bg L)(h2:2<=L.q):Pk O4 L0 (pg++J8 gV) (oG pg.length bg gV) gV:=by
 let Q:=P.pt.next h2;let len:=P.pt.len;let o:=P.pt.ok.next h2;let nf:(gV).first=pg.length:=mB<|we L.q=_
 let y:1<=ao8:=ĩ Yf
 let go:∀{n p},bD5>p->ID (pg++J8 gV)>p:=λ{n p} h=>Æ (Ag bf2) h
 let u:∀{n p},ID (pg++J8 gV)>p->(df5 n/\bD5>p)∨∃k,k<(gV).q/\n=(gV).first+k/\p=bZ9 gV:=λ{n p} h=>by
  by_cases c:(df5 n)
  .rw[Ag c]at h;show ë #[c,h]
  .rw[aL1]at h;let(a,b):=ZH h;show ċ #[n-pg.length,a,À,b]
 apply#[Q,P.ok0,Ż k h,mo n p h hl,λ n p h hl j x hx=>?_,mo n p h hl,?_,P.cX,P.mV]
 .let(a,b):=P.lf k h;apply bI0^go a;ext oG;rw[C8^Ÿ a];show b
 .obtain⟨c,h⟩|⟨k,a,b,Y⟩:=u h
  .show P.DQ n p h hl
  .show bB5 (L.lv+1=0) hl À
 .obtain⟨c,h⟩|⟨k,a,b,Y⟩:=u h
  .let(I,q,C,E,F):=P.Sx n p h hl j x hx;show#[I,q,C,go E,F]
  .let hx:Iq (bP8 (Za dk6 (gV).m (gV).fork k))>x:=hx;rw[Bt]at hx;let(r,O,Y):=ba9 hx;let(R,G):=bY.mp O;let(c1,Y):=bA.mp G;let(d1,U):=P.pt.top ((gV).s k+j) c1;apply#[we ((gV).s k+j),ZX L ((gV).s k+j),Y,go d1,?_];let(k1,k2):=o.pC Y a;exact dt5 ((gV).s k+j+1)^an6 ((gV).s k+j+1)=_;by_cases z:j<gu^bZ9 gV
   .rw[C8 z,ksF _ Y];let le:=o.wz y (k:=k+1) À;rw[Yf]at le;let e:(Za dk6 (gV).m (gV).fork k)[j+1]?>(an6<|(gV).s k+(j+1),Ñ (we ((gV).s k+(j+1)):V)):=bY.mpr #[À,bA.mpr (mi À)];rw[e,ec];rfl
   .rw[C7 z];let ij:(gV).s k+j+1=(gV).s (k+1):=À
    rw[ij];exact _=bq8 (k+1) (gV).q^YZ dk6 (gV).m (gV).fork (k+1)
    by_cases v:k+1=(gV).q
    .have:=(gV).s_end;rw[<- v,Yf]at this;rw[C8 v,C8 this]
    .let lt:=o.dD y (i:=k+1) (j:=(gV).q) À Ĕ;rw[(gV).s_end,Yf]at lt;rw[C7 v,ec];let(r',e1,Y2):=o.beg y (k:=k+1) À;let(_,Y):=bA.mp e1;rw[Y2]
 .obtain⟨c,h⟩|⟨k,a,b,Y⟩:=u h
  .show P.ne n p h hl
  .show(o.pC Y a).2
 .let a:=P.small;let b:=WE P.pt.ok h2;exact Λ (L.lv+1) * _<=_;rw[Nat.pow_succ,Nat.mul_assoc];show Bi (ż b) a
def KI(O4:V):V->Lv->bN1->bN1
 |0,_,P=>P
 |k+1,L,P=>É (L.q<=1) P<|KI O4 k gV<|P++J8 gV
def Pk.all:∀(k:V){L:Lv}{pg:bN1}{bg:Bg},Pk O4 L0 pg bg L->L.q<=k+1->∃a L',Pk O4 L0 (KI O4 k L pg) a L'/\L'.q=1:=by
 intro i;induction i with
 |zero=>intro L pg bg P h;show#[bg,L,P,İ P.pt.ok.q1]
 |succ k e =>
  intro L pg bg P h;let q1:=P.pt.ok.q1;ext KI;by_cases c:L.q<=1
  .rw[C8 c];show#[bg,L,P,À]
  .rw[C7 c]
   have:=WE P.pt.ok À;show e (P.next À) À
variable{O4:V}{L0:Lv}{n:V}
def Qjf(O:L0.Ok O4)(h0:L0.lv=0)(k:V):prs^bZ9 L0=cB9 k:=by
 let f:ÿ L0.fork:=by cases e:L0.fork with|false=>rfl|true=>have:=O.fk.mp e;lia
 exact(ce8 ((cB9 k).drop^É L0.fork 1 0)).zip (bP8 (cB9 k))=_;rw[f];exact(ce8 ((ch6 false k).drop 0)).zip (bP8 (ch6 false k))=_;rw[List.drop_zero];generalize ch6 false k=c;induction c with
 |nil=>rfl
 |cons a b i=>rw[Ba,Ba,List.zip_cons_cons,i]
def Qd5(O:L0.Ok O4){k:V}(h:k<L0.q):bm5 k++cB9 k=bm5 (k+1):=by
 let le:L0.s k<=L0.s (k+1):=by
  by_cases a:1<=⇑L0.rows
  .show dE (O.mJ a h)
  .let c:L0.rows=[]:=List.length_eq_zero_iff.mp À;let q1:L0.q=1:=by let(h1,h2,h3):=cA7 ⇑L0.rows;let hq:qn ⇑L0.rows L0.m=L0.q:=Y;rw[hq]at h1 h2 h3;have:(L0.q-1) * 1<=(L0.q-1) * L0.m:=ż O.m_pos;lia
   have:k=0:=À
   subst this;have:L0.s 0=0:=UN O.m_pos _;lia
 exact bm5 k++cC8 (L0.rows.drop^L0.s k) (L0.s (k+1)-L0.s k)=_;rw[ī<|L0.s (k+1)=L0.s k+(L0.s (k+1)-L0.s k),List.take_add,Nat.add_sub_cancel_left]
variable{O4:V}{L0 L:Lv}{pg:bN1}{bg:Bg}
def Pk.tree(P:Pk O4 L0 pg bg L)(q1:L.q=1):ł #[O4,pg,pg.length-1,0,0]/\pg[pg.length-1]?>(ZX L 0)/\(ZX L 0).lv=L.lv:=by
 let len:=P.pt.len;let(a,c):=P.pt.top 0 À;let e:we 0=pg.length-1:=À
 rw[e]at a c;show#[#[P.pt.ok.bf,#[_,a,λ n p h=>(P.pt.lvl n p h).1],c,P.pt.page,P.pt.link,P.pt.kid,P.pt.dis,P.pt.pred],a,Y]
#print TP
namespace TR
structure Rel(f:V)(pJ:bd7)(s1:St)(tu:bd7)(s2:St):ä where
 S:s1.S=s2.S
 ds:∃pre,pre.length=f/\pJ=pre++tu
 tk:s1.tk=f+s2.tk
 ln:⇑s1.ws=⇑s2.ws
 nl:⇑s1.ns=⇑s1.ws
 nm:⇑s2.ns=⇑s2.ws
 ws:∀i v1 v2,Ů s1.ws>v1->Ů s2.ws>v2->v1.O7=v2.O7/\(ÿ v1.O7->v1=v2/\s1.ns.getD i 0=f+s2.ns.getD i 0)
variable{f:V}{pJ tu ds:bd7}{s1 s2 s:St}
def Rel.refl(h:⇑s.ns=AQ):Rel 0 ds s ds s:=#[Y,#[[],Y,Y],(Cz _).symm,Y,h,h,λ i a c h1 h2=>by rw[h1]at h2;let e:=Aj h2;subst e;show#[Y,λ_=>#[Y,(Cz _).symm]]]
def Rel.len(R:Rel f pJ s1 tu s2):pJ.length=f+tu.length:=by let(p,h1,h2):=R.ds;rw[h2,Am,h1]
def vh{i j x:V}{ns:ź}(h:i<sj):(ns.set i x).getD j 0=pH j i x^ns.getD j 0:=by
 rw[Ck,Ck];by_cases e:j=i
 .subst e;rw[pv,As h];rfl
 .rw[EF,iO e]
def mW(t t':St)(i:V):ç V Wk:=match NB,cv6 with
 |some a,some b=>É (ÿ a.O7/\Ĭ b.O7) [(dc4,b)] []
 |_,_=>[]
def jo{t t':St}{i:V}{v:Wk}(h:NB>v)(e:Ĭ v.O7):mW t t' i=[]:=by
 ext mW;rw[h];cases cv6 with
 |none=>rfl
 |some b=>show C7 λ z=>į e z z.1
def x9{t t':St}{i:V}{v v':Wk}(h:NB>v)(e:af4)(h':cv6>v'):mW t t' i=Ř v'.O7 [(dc4,v')] []:=by ext mW;rw[h,h'];dsimp only;rw[e];simp only[true_and]
variable{S S':Sh}{bg aP:Bg}{ds:bd7}{s:St}{b:V->V}{n:V}{r:ź}{p:Pg}
def aX.pack(Y0:aW7)(h:cu9 ds s)(T:Tree S' aP)(K:Fk S')(D:∀n,n<LC->n≠S'.top->Kd S' n)(rm:S'.O4<=8)(cn:Jv S' 0<=Jv s.S 0)(o:V->V):TC (ø s S S') aP o:=by
 let e:=(qK h).2;let no:bH3 i w Wk<|aI3>w->d9->False:=λ{i w} hi a=>ND (e i w hi) a this
 let c:=Y0.cn;show#[T,#[λ i w hi a=>L4 hi a,λ i w k hi a=>L4 hi a,λ i j w v k _ hi _ a=>L4 hi a],K,λ n h1 h2=>ë^D n h1 h2,rm,Y0.len,Y0.tk,mB (Jv S' 0+zc s.ws<=1+s.tk),λ i w hi a=>L4 hi a,λ i w hi a=>L4 hi a]
def Qaj(T:nj)(c:bb9 n r)(hn:fI>p)(h0:aQ4):jP^xF S r:=by
 let(I,U,Y2,f4,f5):=c.facts T p hn;let cX:∀m∈r,∃q,TM>q/\q.lv=0:=λ m C=>br9 q a b (I m C) #[q,a,À]
 ext jP xF;rw[List.pairwise_flatMap];apply bI0^Ż m C
 .let(q,a,b):=cX m C;ext Ge;rw[a];show VP (mn m q a).sorted
 .apply aL8 (λ a b=>Ĭ^aW8 a b) (λ{a b} ha L i x hx y E=>?_) Y2;let(q,o,P):=cX a ha;let(u,j,Q):=cX b L;unfold Ge at hx E;rw[o]at hx;rw[j]at E;let O:=xm^â ((x.1,x.2)∈prs q) hx;let ky:=xm^â ((y.1,y.2)∈prs u) E;let ne:a≠b:=λ e=>FV e XZ i i
  obtain⟨h,v,e1,z,G⟩|⟨h,v,e1,z,G⟩:=T.dis a b q u o j À ne
  .have:=(mn a q o).high _ O h e1;have:=(mn b u j).low _ ky v z;lia
  .exfalso;let w:=Uv^(mn b u j).wide h e1;let F:=YH i w;rw[z]at F;simp only[dZ,decide_eq_true_eq]at F;lia
def QgL(T:nj):∀r:ź,⇑(xF S r)<=mz * S.O4:=by
 intro c;induction c with
 |nil=>simp[xF]
 |cons m r a =>
  have:=a;unfold xF at this ⊢;rw[List.flatMap_cons,Am,A9,Nat.succ_mul];have:⇑(Ge S m)<=S.O4:=by
   ext Ge;cases h:TM with
   |none=>show Fm
   |some q=>have:=(mn m q h).few;exact hF^prs q<=_;ext prs;rw[List.length_zip];lia
  lia
def Qc8{n:V}{r:ź}(a:bb9 n r):∀{j:ź},bb9 n j->r=j:=by
 induction a with
 |@last n p hn i =>
  intro j c;cases c with
  |last h1 h2=>rfl
  |next h1 h2 c=>rw[hn]at h1;let e:=cI6;subst e;rw[i]at h2;cases h2
 |@next n p s r hn i c o =>
  intro j c';cases c' with
  |last h1 h2=>rw[hn]at h1;let e:=cI6;subst e;rw[i]at h2;cases h2
  |next h1 h2 c' =>rw[hn]at h1;let e:=cI6;subst e;rw[i]at h2;let e:=Aj h2;subst e;rw[o c']
def QgN(T:nj){m:V}{q:Pg}(hn:fI>p)(o:TM>q)(hl:IO q.lv)(c:ų Ų)(i:ų^bg m):n=m:=by
 apply dk2^N1 e;obtain⟨h,v,e1,a,j⟩|⟨h,v,e1,a,j⟩:=T.dis n m p q hn o hl e
 .rw[i]at a;cases a
 .rw[c]at a;cases a
#where
structure Bp(P:aQ0)(p:Pg):ä where
 ks:∀k∈p.ks,P k
 ps:aQ4->∀x∈p.ps,P x
 hi:∀h,p.hi>h->P h
structure Bw(P:aQ0)(w:Wk):ä where
 aim:P w.aim
 O3:∀x,w.O3>x->P x
 pairs:∀q∈w.pairs,P FO/\P q.2
 O2:∀k x,w.O2=.put k x->P x
def Ry(P:aQ0)(d:aG):ä:=P d.key/\∀k x,d=.put k x->P x
def Ni(P:aQ0)(N R:V):ι Row
 |.non=>True
 |.side n t=>n<=N/\t<=N
 |.down n t=>n<=N/\t<=N
 |.found n w=>n<=N/\∀x,w>x->P x
 |.put n w k=>n<=N/\(∀x,w>x->P x)/\∀c,k>c->c<=N
 |.cut n w=>n<=N/\∀x,w>x->P x
 |.read n ps t=>n<=N/\IQ q ps (P FO/\P q.2)/\ϣ<=R/\∀s x,t>(s,x)->s<=N/\P x
 |.told n k=>n<=N/\∀c,k>c->c<=N
 |.raised n t=>n<=N/\t<=N
variable{P:aQ0}{S S':Sh}{w w':Wk}{r:Row}{p q:Pg}{bg:Bg}{n:V}
def Nz{L:bN1}{n:V}(h:∀p∈L,Bp P p)(a:Bp P q):∀p∈L.set n q,Bp P p:=λ p J=>by
 obtain h1|h1:=cN0 J
 .show h p h1
 .rw[h1];show a
def WJ{L:bN1}(h:∀p∈L,Bp P p)(a:Bp P q):∀p∈L++[q],Bp P p:=λ p J=>by
 obtain h1|h1:=CB J
 .show h p h1
 .rw[aL6 h1];show a
def Oc{l:Ĥ}{k:Int}{a b:V}(J:∀x∈l,P x)(c:P k):∀x∈l.take a++k::l.drop b,P x:=λ x hx=>by
 obtain h|h:=cx8
 .show J x (Bv h)
 .obtain Y|h:=ny h
  .show c
  .show J x (Cb h)
def Wx{l:Ĥ}{a b:V}(J:∀x∈l,P x):∀x∈l.take a++l.drop b,P x:=λ x hx=>by
 obtain h|h:=cx8
 .show J x (Bv h)
 .show J x (Cb h)
def Qcx(h:∀p∈S.pg,Bp P p)(hq:Bp P q)(a:Bw P w):IQ p (cj9 q).2.1.pg^Bp P p/\Bw P (cj9 q).2.2/\∀c,(cj9 q).1>c->c<=Ô:=by
 ext QH;split
 .show#[Nz h hq,bF0 a.O3,az7 c i i]
 .rename_i hl;let m:XJ q∈q.ks:=by
   let lt:mid q<⇑q.ks:=aX8 mid
   ext XJ;rw[Ck,Ab lt];show B7 lt
  apply#[Nz (WJ h #[λ k j=>hq.ks k^Cb j,λ l x hx=>hq.ps l x^Cb hx,hq.hi]) #[λ k j=>hq.ks k^Bv j,λ l x hx=>hq.ps l x^Bv hx,aQ5],br7 (hq.ks _ m) a.O3 a.O2,Ż c i]
  .let e:=Aj hx;rw[<- e];show hq.ks _ m
  .let e:=Aj i;rw[<- e];show Ĕ
def yZ(h:Bp P p)(a:aQ4){k:Int}:∀x,Ze p k>x->P x:=λ x hx=>by
 unfold Ze at hx;split at hx
 .cases hx
 .show h.ps a x (Aw hx)
def Gz(h:Bp P p)(a:aQ4){l u:Int}:∀q∈Zg p l u,P FO/\P q.2:=λ q hq=>by have:=(Bm.mp hq).1;let(i,h1):=Bu.mp this;let z:=NL h1;show#[h.ks _ (Aw z.1),h.ps a _ (Aw z.2)]
def Kl(T:nj)(J:fI>p){l u:Int}:⇑(Zg p l u)<=S.O4:=by have:=(mn n p J).few;apply Bi (B9 _ _) ?_;rw[List.length_zip];lia
def QqY(T:nj)(W:cy6)(h0:∀p∈S.pg,Bp P p)(a:Bw P w)(Y2:d9)(h:Xp S w>(r,S',w')):IQ p S'.pg^Bp P p/\Bw P w'/\Ni P Ô S.O4 r:=by
 let(p,J,v):=xu Y2 h;let b:=h0 _^Aw J;let ln:=QM J;let(rt,L,_):=T.root;let lt:=QM L;let sd:∀s,p.sd>s->s<=Ô:=λ s o=>by
  obtain⟨_,e⟩|⟨_,s',q,_,e,hq,_⟩:=ar9 _ J
  .rw[o]at e;cases e
  .rw[o]at e
   let e:=Aj e;rw[e];show dE (QM hq)
 cases v with
 |raised E G=>show#[WJ h0 #[λ k G=>tm G a.aim,λ z=>Ė z aH4,cX3],bF0 a.O3,dE lt,Ĕ]
 |side _ _ o=>show#[h0,bF0 a.O3,dp7,sd _ o]
 |down _ _ hd E=>apply#[h0,bF0 a.O3,dp7,?_];let(c,q,e,hq,_):=T.kid _ p J À _ _ E;rw[e,Bz];show dE (QM hq)
 |told E _ hd O G =>
  let hl:p.lv≠0:=λ z=>by
   cases j:w.place with
   |none=>show E #[j,À]
   |some m=>let(q,y,C,_):=W.at_ m j;rw[j]at J;let J:TM>p:=J;rw[y]at J;let e:=Aj J;rw[e]at C;lia
  let(y,C,F):=Qcx (S:=Id) (n:=ó) (q:=E1 p _) h0 #[Oc b.ks a.aim,λ z=>Ė z hl,b.hi] a;show#[y,C,dp7,F]
 |leaf _ _ hd g0 e =>
  let i:aQ4:=À
  unfold J0 at e;split at e
  .cases e
   show#[h0,bF0 (yZ b i),dp7,yZ b i]
  .rename_i k x hd
   let(y,C,F):=Qcx (S:=Id) (n:=ó) (q:=ds1) (w:=cc3 aF3) h0 #[Oc b.ks a.aim,λ z=>Oc (b.ps z)^a.O2 _ _ hd,b.hi] (bF0^yZ b i);cases e;show#[y,C,dp7,yZ b i,F]
  .cases e
   apply#[?_,bF0 (yZ b i),dp7,yZ b i];split
   .show Nz h0 #[Wx b.ks,λ z=>Wx^b.ps z,b.hi]
   .show h0
  .let I:∀{l u:Int},∀q∈PH (Zg p l u),P FO/\P q.2:=λ{l u} q hq=>by
    obtain z|z:=CB hq
    .show a.pairs q z
    .show Gz b i q z
   split at e
   .rename_i x s hx o
    split at e
    .cases e
     show#[h0,#[a.aim,a.O3,I,a.O2],dp7,Gz b i,Kl T J,λ_ _ z=>ď z]
    .cases e
     apply#[h0,#[b.hi _ hx,a.O3,I,a.O2],dp7,Gz b i,Kl T J,ľ s' Q z];let e:=Aj z;cases e;show#[sd _ o,b.hi _ hx]
   .cases e
    show#[h0,#[a.aim,a.O3,I,a.O2],dp7,Gz b i,Kl T J,λ_ _ z=>ď z]
#where
structure nJ(P:aQ0)(s:St):ä where
 pg:∀p∈s.S.pg,Bp P p
 ws:bT i v Wk<|aI3>v->af4->Bw P v
 ns:∀x∈s.ns,x<=60
def Nj(P:aQ0)(N R:V):ι Out
 |.rest=>True
 |.take n=>n<=60
 |.did n r=>n<=60/\Ni P N R r
variable{P:aQ0}{ds:bd7}{s s':St}{i:V}{o:Out}{bg:Bg}{b:V->V}
def nJ.mv(X:nJ P s)(Y0:aW7)(F:ê<=60)(hd:∀d∈ds,Ry P d)(a:mv ds s i>(o,s')):nJ P s'/\Nj P ag4 s.S.O4 o/\∀x∈mW s s' i,Bw P x.2:=by
 unfold TR.mv at a;split at a
 .cases a
 .rename_i w y;split at a
  .rename_i c;let no:∀s':St,∀x∈mW s s' i,Bw P x.2:=λ s' x hx=>į (jo y c) hx hx
   split at a
   .cases a;show#[X,True.intro,no _]
   .rename_i d E;cases a;let tk:=Y0.tk;apply#[#[X.pg,mo j v u e,aQ5],mB (s.tk<=60),no _]
    .obtain⟨Y,C,_⟩|⟨ne,u⟩:=Q4 u
     .rw[C];let q:=hd d^Aw E;show#[FO,cX3,cX3,q.2]
     .show X.ws j v u e
    .obtain z|z:=cN0 hx
     .show X.ns x z
     .lia
  .rename_i c;let c:d9:=Ë c
   split at a
   .cases a
   .rename_i r S' w' es;cases a;let(h1,h2,h3):=QqY Y0.T (Y0.A.ok i w y c) X.pg (X.ws i w y c) c es;apply#[#[h1,mo j v u e,X.ns],#[?_,h3],aQ5]
    .obtain⟨Y,C,_⟩|⟨ne,u⟩:=Q4 u
     .rw[C];show h2
     .show X.ws j v u e
    .exact cR8<=60;rw[Ck];cases hn:Ů s.ns with
     |none=>show Fm
     |some x=>show X.ns x (Aw hn)
    .let hi:i<AQ:=Ÿ y;rw[x9 y c (v':=w') dg2]at hx;split at hx
     .rw[aL6 hx];show h2
     .cases hx
def Qgg(Y0:aW7)(a:bt4 s i>(o,s')):∀x∈mW s s' i,⇑x.2.pairs<=8 * (b i+1):=by
 unfold TR.mv at a;split at a
 .cases a
 .rename_i w e;split at a
  .rename_i c;intro x hx;rw[jo e c]at hx;cases hx
  .rename_i c;let c:d9:=Ë c
   split at a
   .cases a
   .rename_i r S' w' es;cases a;intro x hx;let hi:i<AQ:=cQ7;let rm:=Y0.rm;let sz:=uv (m:=8) (λ m p a=>İ (Y0.T.page m p a).few) es;let pr:=Y0.pr i w e c;rw[x9 e c (v':=w') dg2]at hx;split at hx
    .rw[aL6 hx];exact ⇑w'.pairs<=_;lia
    .cases hx
def nJ.leaf(X:nJ P s)(r:ź)(h0:∀m∈r,∃q,s.S.pg[m]?>q/\q.lv=0):∀q∈xF s.S r,P FO/\P q.2:=λ q hq=>by let(m,c,h):=List.mem_flatMap.mp hq;let(p,a,e):=h0 m c;unfold Ge at h;rw[a]at h;let B:=X.pg p^Aw a;let(i,h1):=Bu.mp h;let z:=NL h1;show#[B.ks _ (Aw z.1),B.ps e _ (Aw z.2)]
#print TR
namespace TP
open TR
variable{P:aQ0}{O4:V}
def U1{rows:Rw}{m:V}{fork:Bool}{k:V}{r:Int × Int}(h:r∈Za rows m fork k):r∈rows:=Cb^Bv h
def HP{rows:Rw}{m:V}{fork:Bool}{k:V}(h0:P 0)(h:∀r∈rows,P r.1):P^YZ rows m fork k:=by
 ext YZ;cases e:Za rows m fork k with
 |nil=>show h0
 |cons r l=>show h r (U1<|e▸List.mem_cons_self)
def MH{L:Lv}(h0:P 0)(h:∀r∈L.rows,P r.1)(h2:L.lv=0->∀r∈L.rows,P r.2)(k:V):Bp P ca0:=by
 apply#[aQ5,ľ l x hx,aQ5]
 .let(r,a,Y):=F0;show h r (U1^Cb a)
 .let(r,a,Y):=F0;show h2 l r (U1 a)
 .let hx:dt5 (k+1)^an6 (k+1)>x:=hx;split at hx
  .cases hx
  .let e:=Aj hx;rw[<- e];show HP h0 h
def QmU(h0:P 0):∀(k:V)(L:Lv)(pg:bN1),IQ r L.rows^P r.1->IQ p pg^Bp P p->∀p∈KI O4 k L pg,Bp P p:=by
 intro i;induction i with
 |zero=>intro _ _ _ h;show h
 |succ k e =>
  intro L pg c h;ext KI;split
  .show h
  .let hn:∀r∈dk6,P r.1:=λ r a=>ca1 j (bK8 a)^HP h0 c
   apply e gV _ hn^Ż p J;obtain z|z:=CB J
   .show h p z
   .let(j,_,Y):=bK8 z
    show MH h0 hn (λ l=>Ė l aH4) j
#print TP
namespace TR
def KP(S:Sh)(w:Wk)(n:V)(p:Pg):(cj9 p).2.1.O4=S.O4:=au4 QH
def QhC{S a:Sh}{w w':Wk}{r:Row}(c:d9)(h:Xp S w>(r,a,w')):a.O4=S.O4:=by
 cases Ku c h with
 |raised=>rfl
 |side=>rfl
 |down=>rfl
 |told=>show KP ..
 |found=>rfl
 |put=>show KP ..
 |cut n y b=>cases b<;>rfl
 |last=>rfl
 |next=>rfl
variable{ds:bd7}{s s':St}{i:V}{o:Out}
def QmF(h:mv ds s i>(o,s')):s'.S.O4=s.S.O4/\cn9=AQ/\s.tk<=s'.tk:=by
 unfold mv at h;split at h
 .cases h
 .rename_i w c;split at h
  .split at h
   .cases h;show#[Y,Y,Ĕ]
   .cases h;show#[Y,Ê,sk]
  .rename_i a;split at h
   .cases h
   .rename_i r S' w' es;cases h;show#[QhC da1 es,Ê,Ĕ]
#where
def lq(ds:bd7):V->V->St->Ï St
 |0,_,s=>cu4
 |k+1,h,s=>(mv ds s h).bind λ x=>lq ds k (h+1) x.2
inductive iR(ds:bd7)(H:V):V->ι St
 |stop {n:V} {s:St}:cu9 ds s->iR ds H n s
 |go {n:V} {s s':St}:lq ds H 0 s>s'->iR ds H n s'->iR ds H (n+1) s
def sm(t:V->V):V->V
 |0=>0
 |n+1=>sm t n+t n
def Gq(H x:V):V:=x * x+(4 * H+8) * x
variable{ds:bd7}{s s':St}{bg:Bg}{b t:V->V}{S:Sh}{H i:V}{w:Wk}{ws:aU3}{o:Out}
def iR.mono{n m:V}(h:iR ds H n s):n<=m->iR ds H m s:=by
 induction h generalizing m with
 |stop e=>show λ_=>.stop e
 |go e r a=>intro h;obtain⟨k,Y⟩:∃k,m=k+1:=#[m-1,À];show .go e (a À)
def QlJ(T:nj)(K:Fk S):∀k,Λ k * Jv S k<=Jv S 0:=by
 intro c;induction c with
 |zero=>simp
 |succ k a=>have:=QbA T K k;let h:=a;have:=Nat.mul_le_mul_left (Λ k) this;rw[Nat.pow_succ,Nat.mul_assoc];lia
def Wo(T:nj)(K:Fk S)(h:Jv S 0<64):bo9<=5:=Cs λ a=>by let(f,q,h1,h2):=T.levels 6 À À;have:=QlJ T K 6;have:0<Jv S 6:=NM<|vL h1 (Ğ h2) |> λ z=>z;lia
def aO.mono(L:aO S bg ws t){t':V->V}(h:∀i,i<⇑ws->t i<=t' i):aO S bg ws t':=λ i w hi a=>by have:=L i w hi a;have:=h i^Ÿ hi;lia
def MA(S:Sh)(bg:Bg)(w:Wk):phi S bg w<=Ô+bo9+2:=by ext phi;have:=B9 (Ct S bg w)^ĉ Ô;rw[List.length_range]at this;omega
def aO.take(L:aO S bg ws t)(hi:aI2>w)(v:do3)(d:aG){c:V}(z:bo9+2+2 * (Jv S 0+zc^zg zw)+lc^zg zw<=c):aO S bg (zg zw)<|cI1 j j i c<|t j+3:=λ j u a y=>by
 let r:=yG zf ws i w zw hi;let cl:=yG lf ws i w zw hi;let e1:ÿ^zf w:=ab0 v
 let x:ÿ^lf w:=Ą lf v
 rw[e1]at r;rw[x]at cl;let z1:∀c:Bool,Ř c 1 0<=1:=λ c=>cp6 c
 let z2:=z1^zf zw;let z3:=z1^lf zw;dsimp only;unfold zc lc at *;obtain⟨Y,e,_⟩|⟨ne,a⟩:=Q4 a
 .rw[pv];have:=MA S bg u;lia
 .rw[aZ3];have:=L j u a y;unfold zc lc at this;simp only[Az,if_false]at r cl;lia
def QnI(c:V):∀n,sm (cI1 j j i c<|t j+3) n<=sm t n+3 * n+É (i<n) (c-3) 0:=by
 intro e;induction e with
 |zero=>show Fm
 |succ n a =>
  have:=a;ext sm;by_cases h:n=i
  .rw[cC9];subst h
   rw[C7 ac5]at this;rw[C8^Cv _];lia
  .rw[df3]
   by_cases h2:i<n
   .rw[C8 h2]at this;rw[aq9];lia
   .rw[C7 h2]at this;rw[ec];lia
def Qsw(h:1<=t i):∀n,sm (BR t i) n+É (i<n) 1 0<=sm t n:=by
 intro c;induction c with
 |zero=>show Ĕ
 |succ n a =>
  have:=a;ext sm;let e:BR t i n=pH n i (t i-1)^t n:=Y
  by_cases q:n=i
  .rw[C8 q]at e;subst q
   rw[C7 ac5]at this;rw[C8^Cv _];lia
  .rw[C7 q]at e
   by_cases h2:i<n
   .rw[C8 h2]at this;rw[aq9];lia
   .rw[C7 h2]at this;rw[ec];lia
def QkI(c:V):∀n,sm (λ_=>c) n=n * c:=by
 intro e;induction e with
 |zero=>show(Nat.zero_mul c).symm
 |succ n a=>ext sm;rw[a,Nat.succ_mul]
def aX.lim(Y0:aW7)(a:ê<=60):dk5^λ_=>cp4 2+9+AQ:=λ i w hi c=>by have:=MA s.S bg w;have:=Wq s.ws;let cn:=Y0.cn;have:=Y0.tk;have:=Wo Y0.T Y0.K À;dsimp only;lia
def WV(e:aI3>w)(c:d9)(a:mv ds s i>(o,s')):s'.tk=s.tk:=by
 unfold mv at a;rw[e]at a;dsimp only at a;rw[C7^Ğ c]at a;split at a
 .cases a
 .cases a;rfl
def QpV(Y0:aW7)(L:dk5 t)(hl:AQ=H)(hi:i<H)(C:ê<=60):∃o s' j y t',mv ds s i>(o,s')/\TC s' j y/\cn9=H/\aO s'.S j s'.ws t'/\s.tk<=s'.tk/\(s.tk<ê->sm t' H+Gq H s.tk+1<=sm t H+Gq H s'.tk):=by
 let(o,s',j,x,a,E,tk',c):=G_ Y0 (i:=i) À;let v:=Ab<|ī<|i<AQ;obtain⟨c1,c2,r,d,u⟩|⟨c1,c2,r⟩:=c
 .subst c2
  let z:Ĭ s.ws[i].O7:=by
   cases q:s.ws[i].O7 with
   |true=>rfl
   |false=>have:=WV v q x;lia
  let cn:=a.cn;have:=a.tk;let lc:=Wq s'.ws;let lv:=Wo a.T a.K À;rw[r]at cn lv;rw[u]at cn lc;apply#[o,s',j,_,_,x,a,À,i3 r u (L.take v z d (c:=cp4 2+11+H)^by rw[<- u]at lc ⊢;rw[<- u]at cn;lia),tk',dg7];have:=QnI (t:=t) (i:=i) (cp4 2+11+H) H;rw[bT7]at this;let e:Gq H s'.tk=Gq H s.tk+cp4 2+4 * H+9:=by rw[c1];ext Gq;rw[Nat.mul_succ<|4 * H+8,Nat.succ_mul,Nat.mul_succ];lia
  lia
 .apply#[o,s',j,_,_,x,a,À,c2 t L,tk',N1 h]
  cases q:s.ws[i].O7 with
  |true=>show(r.1 #[q,h]).elim
  |false=>let p:=L.pos Y0.T Y0.K (Y0.A.ok i _ v q) v q;have:=Qsw p H;rw[bT7]at this;rw[c1];lia
def DF(c:ê<=60):∀(k h:V)(s:St)(bg:Bg)(b t:V->V),h+k=H->aW7->dk5 t->AQ=H ->
  ∃s' a v t',lq ds k h s>s'/\TC s' a v/\aO s'.S a s'.ws t'/\cn9=H/\s.tk<=s'.tk/\(s'.tk<ê->sm t' H+Gq H s.tk+k<=sm t H+Gq H s'.tk):=by
 intro P;induction P with
 |zero=>intro h s bg b t e Y0 L l;show#[s,bg,b,t,Y,Y0,L,l,Ĕ,λ_=>Ĕ]
 |succ k E =>
  intro h s bg b t e Y0 L l;let(o,Q,Y2,x,U,z,r,F,j,k1,q1):=QpV Y0 L l (i:=h) À c;let(R,I,y,t2,C,u,L2,G,k2,O):=E (h+1) Q Y2 x U À r j F;apply#[R,I,y,t2,?_,u,L2,G,Bi k1 k2,N1 h]
  .ext lq;rw[z];show C
  .have:=q1 À
   have:=O h;lia
def aO.still(L:dk5 aR6)(Y0:aW7)(h:s.tk=ê):cu9 ds s:=by
 ext TR.still;rw[Ea h,Bool.true_and,List.all_eq_true];intro w c;let(i,hi):=ak0 c;cases a:w.O7 with
 |true=>rfl
 |false=>have:=L.pos Y0.T Y0.K (Y0.A.ok i w hi a) hi a;lia
def Qk0{T:V}:∀(k h:V)(s:St)(bg:Bg)(b:V->V),h+k=H->aW7->s.tk=ê->AQ=H->dk5 (λ j=>É (j<h) T<|T+1) ->
  ∃s' u x,lq ds k h s>s'/\TC s' u x/\s'.tk=ê/\cn9=H/\aO s'.S u s'.ws (λ_=>T):=by
 intro Y2;induction Y2 with
 |zero=>intro h s bg b e Y0 tk l L;show#[s,bg,b,Y,Y0,tk,l,L.mono λ i hi=>Æ aq9 Ĕ]
 |succ k E =>
  intro h s bg b e Y0 tk l L;let(o,O,I,z,r,U,R,c):=G_ Y0 (i:=h) À;obtain⟨c1,_⟩|⟨c1,c2,_⟩:=c
  .have:=r.tk;lia
  .let(P,G,y,C,v,Q,F,L2):=E (h+1) O I _ À r À À ((c2 _ L).mono λ i _=>by
    ext BR;dsimp only;by_cases a:i=h
    .rw[C8 a,ec,aq9];lia
    .rw[C7 a]
     by_cases q:i<h
     .rw[C8 q,aq9];lia
     .rw[C7 q,ec];lia)
   show#[P,G,y,hJ lq z C,v,Q,F,L2]
def Qhm:∀(T:V)(s:St)(bg:Bg)(b:V->V),aW7->s.tk=ê->AQ=H->dk5 (λ_=>T)->iR ds H T s:=by
 intro x;induction x with
 |zero=>intro s bg b Y0 tk l L;show .stop (L.still Y0 tk)
 |succ T r=>intro s bg b Y0 tk l L;let(y,v,e,j,c,z,u,a):=Qk0 (T:=T) H 0 s bg b À Y0 tk l (L.mono λ i _=>Æ (C7 E8) Ĕ);show .go j (r y v e c z u a)
def Qkj(E:ê<=43)(h0:0<H)(h8:H<=8):∀(N:V)(s:St)(bg:Bg)(b t:V->V),aW7->dk5 t->AQ=H->sm t H+Gq H ê<=N * H+Gq H s.tk->iR ds H (N+104) s:=by
 let c:∀(s:St)(bg:Bg)(b:V->V),aW7->AQ=H->s.tk=ê->iR ds H 103 s:=λ s bg b Y0 l tk=>Qhm 103 s bg b Y0 tk l^(Y0.lim À).mono λ i _=>À;intro N;induction N with
 |zero =>
  intro s bg b t Y0 L l h;by_cases tk:s.tk=ê
  .show(c s bg b Y0 l tk).mono À
  .let(e,x,r,z,u,a,y,v,k1,q1):=DF À H 0 s bg b t À Y0 L l
   have:=Y0.tk;by_cases j:e.tk=ê
   .show(iR.go u^c e x r a v j).mono À
   .have:=a.tk
    have:=q1 À;let m:Gq H e.tk<=Gq H ê:=Nat.add_le_add (Mj a.tk a.tk)^ż a.tk;lia
 |succ N C =>
  intro s bg b t Y0 L l h;by_cases tk:s.tk=ê
  .show(c s bg b Y0 l tk).mono À
  .let(e,x,r,z,u,a,y,v,k1,q1):=DF À H 0 s bg b t À Y0 L l
   by_cases j:e.tk=ê
   .show(iR.go u^c e x r a v j).mono À
   .have:=a.tk
    have:=q1 À;rw[Nat.succ_mul]at h;show(iR.go u^C e x r z a y v À).mono À
def Qhl(Y0:aW7)(hl:AQ=H)(a:ê<=43)(h2:2<=H)(h8:H<=8):iR ds H 1999 s:=by
 apply(Qkj a À h8 1300 s bg b _ Y0 (Y0.lim À) hl ?_).mono À;rw[QkI,hl];ext Gq;let e:ê * ê<=43 * 43:=Mj a a;obtain Y|Y|Y|Y|Y|Y|Y:H=2∨H=3∨H=4∨H=5∨H=6∨H=7∨H=8:=À
 all_goals lia
def oE(S:Sh)(bg:Bg)(w:Wk):V:=cT5^Ct S bg w
def lU(S:Sh)(bg:Bg)(w:Wk):V:=Ř w.O7 0<|É (Ŷ/\w.O6=0) Ô<|oE S bg w+1
def ar2{P a b t:V}(q:b=a+2 * t+1)(pg:P<2 * (1+t)):P+(P+(a+t))+1<=0+(P+(b+(t+1))):=À
def ar4{c c' x:V}(h:c'+(x-1)+1<=c+x):c'<=c:=by have:=aB3<|x-1;generalize x-1=y at *;lia
def bJ.len{a:Sh}(g:aB0 S a):Ô<=df1:=by
 obtain h|h:=ac0 Ô
 .lia
 .let(_,p',h1,_):=g.old (Ô-1) _ (Ab À);have:=QM h1;lia
def Pz{P x y:V}{f:wP V}(hx:x<P)(j:y<P)(ne:x≠y)(h1:ÿ^f x)(h2:ÿ^f y):Os P f+2<=P:=by let a:=yN (λ m=>ap5 m x) f (ĉ P) (λ m _ h=>Ea^OX e e h1 h h) #[y,bh5 j,Ea λ e=>ne e.symm,h2];let b:=yN ah0 (λ m=>ap5 m x) (ĉ P) aR4 #[x,bh5 hx,Y,Ê];let c:=B9 (λ_:V=>true)^ĉ P;rw[List.length_range]at c;lia
def Qg9(T:nj){a:Sh}{w':Wk}(K:UU S bg w a w')(g:aB0 S a)(G:G2)(hp0:Ŷ):oE a aP w'+Ô+2<=Ô+df1:=by
 cases K with
 |over j=>rw[G]at j;cases j
 |raised j=>rw[G]at j;cases j
 |@side n s p q J hn I E hl z e1 F u v r j =>
  let ne:n≠s:=OX e e XZ z z
  have:=Pz (P:=df1) (f:=Ct a aP w') (x:=n) (y:=s) (Æ e1 al4) (Æ e1^QM E) ne (by
   ext Ct vis;rw[r];simp only[bw,e1,hn,E,hl,if_true,ltV,XW g al4,XW g (QM E)];cases q:dZ (bg s) Ų with
   |false=>simp
   |true=>have:=YH z q;rw[XZ]at this;cases this) (by
   ext Ct vis;rw[r];simp[ltV,XZ])
  ext oE;rw[e1]at this ⊢;lia
 |@down n c p q J hn hl I C e1 F u v r j =>
  let ne:n≠c:=λ e=>by rw[e,C]at hn;cases hn;lia
  have:=Pz (P:=df1) (f:=Ct a aP w') (x:=n) (y:=c) (Æ e1 al4) (Æ e1^QM C) ne (by
   ext Ct vis;rw[r,v];simp only[bw,e1,hn,C];rw[ec,aq9,jp,pv];simp[ltV,XZ]) (by
   ext Ct vis;rw[r];simp[ltV,XZ])
  ext oE;rw[e1]at this ⊢;lia
 |@part n p q J hn I L Y2 hq F u v r j =>
  have:=Pz (P:=df1) (f:=Ct a aP w') (x:=n) (y:=Ô) (İ al4) À (Be al4) (by
   ext Ct;rw[JK g al4,Jn hn,u,an8];rfl) (by
   ext Ct;rw[Jn Y2,u,an8];rfl)
  ext oE;lia
def Qj0(T:nj)(W:cy6){u:Sh}(K:UU S bg w u w')(g:aB0 S u)(L:d9):lU u aP w'+Ô+1<=lU S bg w+⇑u.pg:=by
 let O:=g.len;let y:=cF1;let C:lU S bg w=É (Ŷ/\w.O6=0) Ô (oE S bg w+1):=C7^Ğ L
 rw[C];cases r:w'.O7 with
 |true=>rw[â (lU u aP w'=0)^C8 r];split<;>lia
 |false =>
  let nf:¬ (ų w'.place/\w'.O6=0):=λ h=>by
   cases K with
   |over a=>rw[r]at a;cases a
   |raised a=>rw[r]at a;cases a
   |side J hn v Y2 hl G e1 j c E x=>rw[x]at h;cases h.1
   |down J hn hl v I e1 j c E x=>rw[x]at h;cases h.1
   |part J hn v z F hq j c=>rw[c]at h;cases h.2
  rw[â (lU u aP w'=oE u aP w'+1)^à (C7^Ğ r)^C7 nf];by_cases f:Ŷ/\w.O6=0
  .rw[C8 f]
   have:=Qg9 T K g r f.1;lia
  .rw[C7 f]
   let o:=BT T W K g r;let e:∀(S:Sh)(bg:Bg)(w:Wk),phi S bg w=oE S bg w+(bo9+2-w.O6):=aR4;rw[e,e]at o;cases K with
   |over a=>rw[r]at a;cases a
   |raised a=>rw[r]at a;cases a
   |side J hn v Y2 hl G e1 j c=>rw[j,JK g y,c]at o;rw[e1];lia
   |down J hn hl v I e1 j c=>rw[j,JK g y,c]at o;rw[e1];lia
   |part J hn v z F hq j c=>rw[j,JK g y,c]at o;rw[z];show sg (aL9^sg^ar4 o)
def Qcb(Y0:aW7)(a:s.ws=[w]):cu9 ds s∨∃s' e z w',lq ds 1 0 s>s'/\TC s' e z/\s'.ws=[w']/\lU s'.S e w'+(ag4+(cp4 s.tk+s.tk))+1<=lU s.S bg w+(⇑s'.S.pg+(s'.tk * s'.tk+s'.tk)):=by
 let(o,s',e,x,r,I,tk',c):=G_ Y0 (i:=0) (Æ a Nat.one_pos);let y:lq ds 1 0 s>s':=Ą lq x
 let G:s.ws[0]'(Æ a Nat.one_pos)=w:=by simp only[a];rfl
 rw[G]at c;let tk:=Y0.tk;let F:=r.tk;let pg:=Y0.pages;let E:=r.pages;obtain⟨c1,c2,v,d,u⟩|⟨c1,_,v,u⟩:=c
 .right
  subst c2;rw[a]at u;let j:do3:=by
   cases q:w.O7 with
   |true=>rfl
   |false=>have:=WV (w:=w) (i:=0) (ö a) q x;lia
  apply#[s',e,_,zw,y,r,u,?_];let q:(s.tk+1) * (s.tk+1)=cp4 s.tk+cp4 2+1:=ah2 Nat.succ_mul Nat.mul_succ
  let e1:lU s.S e w=0:=C8 j;let C:lU s.S e zw=ag4:=Y;rw[c1,v,e1,C];show ar2 q pg
 .cases j:w.O7 with
  |true=>left;have:¬ s.tk<ê:=λ h=>v #[j,h];ext still;rw[a,Ea<|ī<|s.tk=ê];simp[j]
  |false=>right;let(w',e1,K,g):=u j;rw[a]at e1;apply#[s',e,_,w',y,r,e1,?_];have:=Qj0 Y0.T (Y0.A.ok 0 w (ö a) j) K g j;rw[c1];lia
def Qkk:∀(N:V)(s:St)(bg:Bg)(b:V->V)(w:Wk),aW7->s.ws=[w]->lU s.S bg w+(ê * ê+3 * ê+2)<=N+(ag4+(cp4 s.tk+s.tk))->iR ds 1 N s:=λ N=>by
 let top:∀{s:St}{bg:Bg}{b:V->V},aW7->ag4+(cp4 s.tk+s.tk)<=ê * ê+3 * ê+2:=λ Y0=>by have:=Y0.pages;have:=Y0.tk;have:=Mj Y0.tk Y0.tk;lia
 induction N with
 |zero =>
  intro s bg b w Y0 c h;obtain e|⟨_,_,_,_,_,a,_,q⟩:=Qcb Y0 c
  .show .stop e
  .have:=top a;lia
 |succ N x =>
  intro s bg b w Y0 c h;obtain e|⟨s',r,u,w',v,a,j,q⟩:=Qcb Y0 c
  .show .stop e
  .show .go v (x s' r u w' a j À)
def Qnu(Y0:aW7)(hl:AQ=H)(a:ê<=43)(h0:0<H)(h8:H<=8):iR ds H 1999 s:=by
 by_cases h1:H=1
 .subst h1;let(w,c):=cL1 hl;apply Qkk 1999 s bg b w Y0 c ?_;let e:ê * ê<=43 * 43:=Mj a a;have:=B9 (Ct s.S bg w)^ĉ ag4;rw[List.length_range]at this;let j:lU s.S bg w<=ag4+1:=?_
  .lia
  ext lU oE;split
  .show Fm
  .split
   .show sk
   .show sg this
 .show Qhl Y0 hl a À h8
#print TR
namespace D
open PySem PySem.Spec PyProof.Rows L2
variable{prog:Program}{w:World}{A:Around}{E:Ee}{s:Shared}
def Qmj:typeLookup aI1 aP4 = aU7:=bc3
def Qmi{a:Addr}{o:Obj}{xs:ļ}{k:V}{Q:iM->ϟ}(hx:Č a>o)(u:o.cls=aI1)(i:o.data=.seq xs k)(hd:cQ5)(y:lI)
  (h:∀h' tk e,Heap.NewExcOf s.heap h' e "AttributeError" -> Q none aC8):rj w A (getAttr? Ű aP4) Q E s:=by
 let(c,x,v,z):=o;simp only at u i hd;subst u i hd;let(J,g,d,tk,os):=s;let r:∀tk',(#[J,g,d,tk',os]:Shared).TypeIs Ű Đ := λ_=>#[_,hx,Y];let C:=sub_AttributeError;let G:=PySem.F.slot_list_getattribute.lookup;let I:=PySem.F.slot_list_getattribute.bind Ű;let Y2:=am_list_getattr_none;ext getAttr? getAttrBy? getAttrBy
 repeat (any_goals (first|assumption|show r _|((with_reducible exact ű _ (call (Value.builtin "list.__getattribute__") _ _) _ _ _);apply call_meets PySem.F.slot_list_getattribute (r _) am_entry_list_getattribute (PySem.F.args_list_getattribute_2 _ _) (meets_getattribute_miss_list a xs k z aP4 _ Qmj È) #[hx,y,mo h' tk' e j])|wp_step))
 let(t',O,L):=j.there;exact ű _ (getattributeRaised _ _ _ _ _ _ _) _ _ _;ext getattributeRaised
 repeat (any_goals (first|assumption|wp_step))
 show h _ _ _ j.of
variable{prog:Program}{w:World}{K:pZ}[DecidableEq K]{knd:KeyKind prog w K}{A:Around}{R:Result->ϟ}
def gZ:entryFor table bc4 = í Builtin.«dict.update.loop»:=entryFor_of_tree as3
def yK:Ĭ^plainId bc4:=È
def Pa(knd:KeyKind prog w K)(h:Heap)(u:Value)(a:bv3 K):ä:=∃t o n key,u=ã t/\ϝ t>o/\o.cls=aC0 /\ o.data=.seq ⟨key,a.2⟩ n/\Ĭ^knd.is a.1 key
def QiD{d v l:Addr}{items:ļ}{more:ae3 K}(hh:lI)(y:d≠v)(aw:l≠d)(ay:l≠v)(hsz:cc7)(bc:cn4 items.size):
  ∀(k i:V)(s:Shared),more.length-i=k->i<=more.length->s.heap.IsListIter v l i->s.heap.IsList l items ->
  (∀(j:V)(u:Value)(O:bv3 K),Iq items>u->Iq more>O->Pa knd s.heap u O/\u≠ã d/\u≠ã v)->s.heap.DictOf knd d^cq5 aT1 ->
  (∀h' t',h'.DictOf knd d^cq5 more->(∀b o,b≠d->b≠v->aV0>o->aY0>o)->R (.ok^.ret fE) aC9) ->
  codeAny aQ2 A (aE3 bc4 #[[ã d,ã v,rawInt i,fE],[]]) R s:=by
 intro k;induction k with
 |zero =>
  intro i s hk hi hit hl J hd U;let ae:cn4 i:=À
  apply CI gZ;rw[oa yK];exact AM A.in1 (bx2 v) _ _ _ s;apply C6^wpAny_pyNext_list_end ce1 hit hl (ĩ Array.getElem?_eq_none)^Rz h';apply C6^dh0^U h' s.toks ?_ λ b o C c e=>hx b o c e;rw[ae,List.take_length]at hd;let(o,es,ep,ho,r):=hd;show#[o,es,ep,hx d o y ho,r]
 |succ k ih =>
  intro i s hk hi hit hl J hd U;let be:i<more.length:=À
  obtain⟨u,hu⟩:∃u,Ů items>u:=#[items[i]' À,Array.getElem?_eq_getElem _];let G:Ů more>more[i]:=Ab _;let((t,o,n,key,Y,ht,b9,ba,x),n1,n2):=J i u _ hu G;apply CI gZ;rw[oa yK];exact AM A.in1 (bx2 v) _ _ _ s;apply C6^wpAny_pyNext_list_item hit hl hu^ľ h1 F z;let td:t≠d:=λ e=>n1 aF0;let ti:t≠v:=λ e=>n2 aF0;let Y2:h1.get? t>o:=à (z.2 t ti) ht;apply C6 bf9;apply C6^wpAny_tryCatch ?_;ext Builtin.Dict.pairItems;apply Sv #[o,Y2,b9] ?_;rw[C8 Á];apply iA Y2 ba E7;exact ű _ (holding [key,more[i].2]^dictSet d key more[i].2) _ _ _;apply bf9;ext dictSet
  try with_reducible apply bf9
  let(od,es,ep,b6,rd):=hd;let aa:h1.DictOf knd d^cq5 aT1:=#[od,es,ep,à (z.2 d y) b6,rd];let ml:bN9^cq5 aT1:=by have:=merged_length_le (K:=K) [] aT1;rw[A8]at this;simp at this;lia
  apply C6^knd.pyHash x^wpAny_dictSetHashed_pairs (hsz:=ml) x aa^ľ h2 E I;rw[<- merged_take_succ [] more i _ G]at E;let keep:∀b o,b≠d->b≠v->aV0>o->h2.get? b>o:=λ b o C c e=>à (I.2 b C)^à (z.2 b c) e;let(oi,b7,ri):=F;let(ol,b8,rl):=hl;apply C9^bI0^aa9 yK;apply ih (i+1) _ À À #[oi,à (I.2 v y.symm) b7,ri] #[ol,keep l ol aw ay b8,rl] (λ j u O P Q=>?_) E^mo h' t' a9 ar
  .let((t',o',n',L,Y,a,b),c1,c2):=J j u O P Q
   show#[#[t',o',n',L,Y,keep t' o' (λ e=>c1 aF0) (λ e=>c2 aF0) a,b],c1,c2]
  .show U h' t' a9 λ b o C c e=>ar b o C c^keep b o C c e
variable{prog:Program}{w:World}{K:pZ}[DecidableEq K]{knd:KeyKind prog w K}{A:Around}{E:Ee}{s:Shared}
def GT{l:Addr}{o:Obj}{items:ļ}{n:V}{more:ae3 K}{Q:Ee}(hh:lI)(R:Č l>o)(Y2:o.cls=aI1)(i:o.data=.seq items n)(O:cQ5)
  (hsz:cc7) (hlen:cn4 items.size) (J:∀(j:V)(u:Value)(C:bv3 K),Iq items>u->Iq more>C->Pa knd s.heap u C)
  (h:∀h' t',h'.DictOf knd s.heap.objs.size^cq5 more->(∀b o,aV0>o->aY0>o)->Q ŋ aC9) :
  rj w A (call (ĥ ie) [ã l]) Q E s:=by
 apply callType_codes (Q₁:=λ obj s₁=>obj=ϒ/\s₁=RM^re ie^.dict hZ) PySem.F.kt_called_dict (PySem.F.kt_typeCall_dict_1 _) PySem.F.entry_dict_init (kt_code_dict_new _ rg) ?_;rintro obj s₁ ⟨Y,Y⟩;let c:(re ie^.dict hZ).DictOf knd s.heap.objs.size []:=Heap.DictOf.new s.heap;let v:(re ie^.dict hZ).get? l>o:=n5 R;let rG:∀b q,aV0>q->au2 b:=λ b q e z=>Ė xt^Æ z ac5;apply#[c.typeIs,PySem.F.args_dict_init_2 _ _,?_];ext Builtin.«dict.__init__»;apply bI5;ext Builtin.Dict.selfAndRest;apply C6^wpAny_notOrdered_dict c.typeIs ?_;exact ű _ (ï (s.heap.objs.size,[Ϛ l])) _ _ _;apply E7;exact ű _ (Builtin.Dict.updateFrom "dict.__init__" s.heap.objs.size ↑l [] fE) _ _ _;ext Builtin.Dict.updateFrom;apply Sv #[o,v,Y2] ?_;rw[C8 Á];apply C6^Qmi v Y2 i O ce1^mo h1 t1 e1 hx;rw[C8^LH (none:iM).isNone Y];apply FI ?_;let y:h1.IsList l items:=#[o,hx.keeps l o v,Y2,n,i];apply C6^ba5 y;let dn:bv5 h1.objs.size:=λ z=>by let(od,_,_,x,_):=c;show Ė (Ao^hx.keeps _ _ x) (Æ z ac5)
 let kp:∀b q,aV0>q->(h1.push^bP2 "list_iterator" ⟨ã l,lT 0 0⟩).get? b>q:=λ b q e=>n5^hx.keeps b q ay7;let U:∀b q,aV0>q->b≠h1.objs.size:=λ b q e z=>Ė (Ao^hx.keeps b q ay7)^Æ z ac5;apply C9^bI0^aa9 yK;apply QiD (knd:=knd) (l:=l) (items:=items) (more:=more) ce1 dn (rG l o R) (U l o R) hsz hlen more.length 0 _ Y Fm #[_,cj2,Y,Y] (y.push _) (λ j u C G I=>?_) ?_ λ h' t' L P=>#[Y,h h' t' L λ b q e=>P b q (rG b q e) (U b q e)^kp b q e]
 .let(t,o',n',key,Y,a,b):=J j u C G I;show#[#[t,o',n',key,Y,kp t o' a,b],λ e=>rG t o' a (by injection e),λ e=>U t o' a (by injection e)]
 .let(od,es,ep,x,r):=c;show#[od,es,ep,n5 (hx.keeps _ _ x),r]
variable{X:Cx}
def rC:Þ->Ï f8
 | []=>í []
 |.tup [k,v]::r=>match Ub k,rC r with
  |some k,some ps=>í<|(k,v)::ps
  |_,_=>none
 |_=>none
def lV:DV->cK8
 |.lst ds=>cu5
 |.ref n=>do
  match <- LG with
  |.lst ds=>cu5
  |_=>failure
 |_=>failure
def Rk{J hp':Hs}{K:Aa}{v:Y1}(W:bR4)(r:bp6)(h:lV d J>bg6):J=hp'/\∃p xs,v=cc0/\ds4/\AO:=by
 cases d with
 |lst xs=>let(Y,Y):=cK9;let(a,e,Y,_,u,l):=r.b_;show#[Y,a,e,Y,u,l]
 |ref n =>
  let(o,hp1,e1,c):=Qh (â ((LG >>= λ o=>cH8 o ds cu5 failure cK8) J>bg6) h);let(i,Y):=bl6;cases o with
  |lst x=>let(Y,Y):=Qm c;let(a,Y,_,e,h1,j):=tT r i;show#[Y,a,e,Y,ph,j]
  |aJ _=>cases c
  |ins _ _=>cases c
 |non=>cases h
 |bl _=>cases h
 |int _=>cases h
 |str _=>cases h
 |tup _=>cases h
def pq(o:Ï α):cq6:=match o with
 |some a=>ï a
 |none=>failure
def Uy{o:Ï α}{a:α}{J hp':Hs}(h:pq o J>(Tk a)):o>a/\J=hp':=by
 cases o with
 |none=>cases h
 |some z=>let(Y,Y):=cK9;show rg
def Fz:bP:=tX λ d=>do
 let ds <- lV d
 let ps <- pq (rC ds)
 XH (tF^jd [] ps)
def Qnd(I:Ϣ):∀{ds:Þ}{kvs:f8}{F:ś}{i:Ď},rC ds>kvs->lP X.K ds F->Vals F i ->
  ∃(E:NA)(more:cv0),bF9 X.K ρ B H E/\KV E more/\cn4 df0/\∀(j:V)(u:Value)(C:bv3 Key),Iq i>u->Iq more>C->Pa am4 s.heap u C:=by
 intro ds;induction ds with
 |nil=>intro kvs F i h r v;cases h;unfold au at r;subst r;cases v;show#[[],[],i9,i9,Y,λ j u C h=>ED]
 |cons d ds ih =>
  intro kvs F i h r v;unfold au at r;let(y,aa,Y,r1,r2):=r;cases v with
  |@cons _ u _ us v1 v2 =>
  obtain⟨k,z,Y,ky,ps,hk,G,Y⟩:∃k z,d=õ [k,z]/\∃ky ps,Ub k>ky/\rC ds>ps/\kvs=(ky,z)::ps:=by
   unfold rC at h;split at h
   .rename_i e;cases e
   .rename_i k v r e
    injection e with e1 e2;subst e1 e2;split at h
    .rename_i a b c d;cases h;show#[_,_,Y,_,_,c,d,Y]
    .cases h
   .cases h
  let(E,more,P,Q,R,U):=ih G r2 v2;let(a,xs,Y,_,sq,l):=r1.tupI;let(x1,r',Y,b1,l):=(show ∃x r,xs=x::r/\pe X.K k x/\lP X.K [z] r by unfold au at l;show l);let(x2,a9,Y,b2,l):=(show ∃x r,r'=x::r/\pe X.K z x/\lP X.K [] r by unfold au at l;show l);unfold au at l;subst l;obtain Y:=Yn hk b1;cases v1;let(O,L,pl,hz):=iP sq;cases L with
  |@cons _ w1 _ ws q1 Y2 =>
  cases Y2 with
  |@cons _ w2 _ ws Y2 q3 =>
  cases q3;let(o,ho,hc,n,hd):=pl;apply#[(ky,x2)::E,(ky,w2)::more,Φ #[Y,b2] P,Φ #[Y,Y2] Q,Ğ R,λ j u C h1 h2=>?_];cases j with
  |zero=>cases h1;cases h2;show#[a,o,n,w1,Y,ho,hc,hd,yn q1]
  |succ j=>show U j u C h1 h2
def QlE(U:dc):bU4 X (ĥ ie) Fz:=by
 intro O9 s σ H xs us Q I r h;let(ρ,B,J,ds,d,hp',W,rl,e,k):=h;let(x,Y,e):=yP e;let(zs,hp1,e1,L):=Ŧ;let(kvs,hp2,O,P):=Qh L;let(R,Y):=Uy O;cases P;let(v,Y,rv):=rl.bL;let(Y,p,ys,Y,sq,l):=Rk W rv e1;let(u,Y,rx):=Yt r;cases rx;let(a9,F,pl,hz):=wq sq;let(o,n,ho,y,z,c):=pl;let(i,more,G,C,E,Y2):=Qnd I R l F;let zm:cc7:=aE4 E F hz
 let zk:bN9^X7 [] i:=by let h1:=Vs i [];let h2:=⇑C;rw[List.length_nil]at h1;lia
 apply GT (knd:=am4) (OO U) ho y c z zm (Ë E) (λ j u kv h1 h2=>Y2 j u kv cb2 h2)^mo h' t' dd kp;let hn:=pM cp5;apply#[ϒ,_,cL7 a o (.dK^X7 [] i) t' t' kp Ĕ (Ia zk (ad^Ņ^Be I.big) (C.merge i9) dd),Y,?_];let g:AC X.K B H (ρ++[s.heap.objs.size]) (zP B s.heap.objs.size)^at3^.dK^X7 [] i:=Gr.dY hn I.g_;apply k _ _ _ _ g (W.dY hn I.g_^aW.iZ (aW.gs ?_^aW.merge G (kvs:=[]) (xs:=[]) i9) Zc) ?_
 .show di5
 .ext aA;show#[_,Y,n9 W.len]
#where
def lX:Þ->Ï^Â Bool
 | []=>í []
 |.bl b::r=>mr (lX r) (b :: ·)
 |_=>none
def GQ:bP:=tX λ d=>do
 let ds <- lV d
 let bs <- pq (lX ds)
 fz aT2
variable{prog:Program}{w:World}{A:Around}{E:Ee}{s:Shared}
def Qhe(bs:Â Bool):(ĉ ⇑bs).all (λ i=>aH5 i)=aT2:=by
 induction bs with
 |nil=>rfl
 |cons b bs a=>rw[A9,List.range_succ_eq_map,Cy,List.all_map,Cy,<- a];rfl
def uQ{l:Addr}{items:ļ}{bs:Â Bool}{Q:Ee}(hh:lI)(hl:s.heap.IsList l items)(a:items.size=⇑bs)(u:bT i v Value<|Ů items>v->v=xk^aH5 i)
  (h:∀h' tk,(∀b o,aV0>o->aY0>o)->Q (xk aT2) aC8):rj w A (ae8 "all" [ã l]) Q E s:=by
 apply call_all_walk^ba5 hl;let c:au2 l:=λ e=>bJ8 o y hl<|Cq _<|e▸Ao y
 apply#[s.heap.objs.size,_,_,_,_,_,λ i=>aH5 i,Y,Walks.list ce1 s.heap.objs.size l c items,?_,λ i v s' Q' E' j r=>?_,ľ h' tk x]
 .show#[#[_,cj2,Y,Y],hl.push _]
 .have:v=xk^aH5 i:=u i v j;subst this;show C9 r
 .rw[a,Qhe];apply h h' tk λ b o e=>x b o dc7 ay7;have:ak3 b:=Ë z
  show Cq _ (this▸xt)
variable{X:Cx}
def QlD{K:Aa}:∀{ds:Þ}{bs:Â Bool}{c:ś}{a:Ď},lX ds>bs->oq c->Vals c a->⇑a=⇑bs/\bT i v Value (Ů a>v->v=xk^aH5 i):=by
 intro ds;induction ds with
 |nil=>intro bs c a h r v;cases h;unfold au at r;subst r;cases v;show#[Y,λ i v h=>ED]
 |cons d ds z =>
  intro bs c a h r v;unfold au at r;let(y,G,Y,e,C):=r;cases v with
  |@cons _ u _ us E F =>
  cases d<;>first|(simp[lX]at h;done)|skip
  rename_i b;let h:mr (lX ds) (b :: ·)>bs:=h;let(x,h1,Y):=ba9 h;let(j,o):=z h1 C F;unfold aA at e;subst e;cases E;apply#[Ğ j,ľ i v hv];cases i with
  |zero=>cases hv;rfl
  |succ i=>show o i v hv
def C_(C:dc):aQ3 X "all" GQ:=by intro P s σ H xs us Q I r h;let(ρ,B,J,ds,d,hp',W,G,e,k):=h;let(x,Y,e):=yP e;let(U,hp1,e1,j):=Ŧ;let(bs,hp2,o,y):=Qh j;let(z,Y):=Uy o;let(Y,Y):=Qm y;let(v,Y,Y2):=G.bL;let(Y,p,R,Y,O,l):=Rk W Y2 e1;let(u,Y,L):=Yt r;cases L;let(E,F,pl,hz):=wq O;let(a,c):=QlD z l F;apply uQ (bs:=bs) (OO C) pl.isList da1 (λ i v h=>c i v^Ë h)^ľ h' tk kp;show#[ŏ aT2,H,I.kept (t':=tk) kp,Y,LP ig]
#print D
namespace L2
open PySem PySem.Spec PyProof.Rows
def Qec:typeLookup do0 "__len__" = aU7:=bc3
def QcV:typeLookup do0 "__length_hint__" = aU7:=bc3
#print L2
namespace D
open PySem PySem.Spec PyProof.Rows L2
variable{f:aD}
def Hy(f g:aD):aD:=λ env=>do
 let ds <- gb f g env
 XH ū
#where
structure UF(K:Aa)(mg:Eg)(x:Str)(st:Stmt):ä where
 ex:∃g fd,Fun K x x st g fd/\mg x>↑g
structure UC(K:Aa)(c:Str):ä where
 ex:∀C,bN K c C->cW0
structure UM(K:Aa)(c m q:Str)(st:Stmt):ä where
 ex:∃C g fd,Fun K m q st g fd/\bN K c C/\cW0/\pP K C m g
structure UI(K:Aa)(mg:Eg)(c q:Str)(st:Stmt):ä where
 ex:∃C g fd,Fun K IS q st g fd/\bN K c C/\mg c>bs0/\Mk K C g
structure UG(mg:Eg)(x:Str)(i:Int):ä where
 ex:∃t,mg x>bp2
structure UT(K:Aa)(mg:Eg)(x:Str)(d:DV):ä where
 ex:∃a,mg x>Ű/\cg K d Ű
variable{K:Aa}{h:Heap}{mg:Eg}{f C:Addr}{x c m q:Str}{st:Stmt}{oc:Value}{od an:Nw}{osl:av5}{kV doc pm cdv ct:Value}{i:Int}{t:Tok}{d:DV}{a:Addr}
def uf(X:aO8)(G:cR9)(n:š K x>aZ5)(l:Ψ f>#[oc,od,.func (PySem.W.fnOf x x aL2 ak7 tN fE kV doc pm an cdv ct),osl])(e:EQ K cdv x)(k:db6 K):UF K mg x st:=#[_,_,HS l e k,Ix G n]
def uc(X:aO8)(n:š K c>bs1)(p:aa3 K C Str.empty)(e:ag3 K C)(o:be6 K C)(s:cS K C cp7 = í^í am0):UC K c:=#[λ r j=>ah8 (bN.uniq (â (bN K c C) n) j) #[p,e,o,s]]
def um(X:aO8)(u:UC K c)(n:š K c>bs1)(a:cS K C m>aZ5)(b:ai8 K aZ4)(l:Ψ f>#[oc,od,.func (PySem.W.fnOf m q aL2 ak7 tN fE kV doc pm an cdv ct),osl])(e:EQ K cdv q)(k:db6 K):UM K c m q st:=#[_,_,_,HS l e k,n,u.ex _ n,a,b,k]
def ui(X:aO8)(G:cR9)(n:š K c>bs1)(a:cS K C IS = í aZ5)(b:ai8 K aZ4)(l:Ψ f>#[oc,od,.func (PySem.W.fnOf IS q aL2 ak7 tN fE kV doc pm an cdv ct),osl])(e:EQ K cdv q)(k:db6 K)(v:bB8 K C)(z:dS K bs0):UI K mg c q st:=#[_,_,_,HS l e k,n,Ix G n,v,a,b,z]
def uk(X:aO8)(u:UC K c)(n:š K c>bs1)(a:cS K C x>none):YC K c x:=#[C,n,u.ex _ n,a]
def ug(X:aO8)(G:cR9)(n:š K x>(í bp2)):UG mg x i:=#[_,Ix G n]
def ut(X:aO8)(G:cR9)(n:š K x>ay2)(r:cg K d Ű):UT K mg x d:=#[_,Ix G n,r]
def kF{N ps:č}{s:Scope}(h:Ĭ<|s.kind==ba1&&hV s.isCoroutine&&hV s.isGenerator&&Ö N.Nodup&&FC (N.take ϣ) ps&&ps.all (λ x=>Ö (s.names.lookup x>py)||Ö (s.names.lookup x>aK4))&&s.names.all λ y=>ap5 y.2 bj9:=by decide +kernel):JO N ps s:=by simp only[Bb,Bool.not_eq_true',decide_eq_true_eq,List.all_eq_true,Bool.or_eq_true]at h;let((((((a,b),c),d),e),f),g):=h;apply#[?_,b,c,d,e,f,λ y j=>Ϯ^g y j];revert a;cases s.kind<;>first|(intro _;rfl)|(intro z;show Ė z Á)
variable{P:Program}{w:World}{K:Aa}{mg:Eg}{O8:Heap}{x c m q:Str}{st:Stmt}{N ps:č}{k:V}{body:aN}
def M_:V->ι^ι Ď
 |0,P=>P []
 |n+1,P=>∀v,M_ n λ us=>P<|v::us
def RI:bT n P (ι Ď)<|M_ n P->∀us,bW9=n->P us
 |0,_,h,[],_=>h
 |n+1,_,h,v::us,e=>RI n _ (h v) us^Nat.succ.inj e
def Bn(ps:č)(x q:Str)(st:Stmt):ä:=∀(kV e i:Value)(an:Nw)(a ct:Value),M_ ϣ λ us=>aK9 (PySem.W.fnOf x q aL2 ak7 tN fE kV e i an a ct) us []=ï EG
def Bn.on(h:Bn ps x q st)(kV i j:Value)(an:Nw)(a ct:Value)(us:Ď)(e:bW9=ϣ):aK9 (PySem.W.fnOf x q aL2 ak7 tN fE kV i j an a ct) us []=ï EG:=RI _ _ (h kV i j an a ct) us e
def Bd(P:Program)(w:World)(K:Aa)(mg:Eg)(O8:Heap)(N:č)(k:V)(q:Str)(st:Stmt)(body:aN):ä:=∀(g:Addr)(a:Value)(A:Around)(outer:My)(s:Shared)(H:Hp)(E:XK),Cl^œ q tN g a->lA (jn CX0 P w K mg O8 N q tN g a A outer s H E).nox ak7 body
def hf(N:č)(n:V)(u:UF K mg x st)(h:N.Nodup->Bd P w K mg O8 N k x st body:=by intro s _ _ _ _ _ _ _ l;trivial)(e:Bn Tp x x st:=by (repeat intro _);rfl)(a:JO N Tp tN:=by show kF):Nd x (k+1) ⇑Tp dv3:=let #[_,_,F,i]:=u.ex;Qpo F a i e.on (h a.nd _)
def hM(N:č)(n:V)(u:UM K c m q st)(h:N.Nodup->Bd P w K mg O8 N k q st body:=by intro s _ _ _ _ _ _ _ l;trivial)(e:Bn Tp m q st:=by (repeat intro _);rfl)(a:JO N Tp tN:=by show kF):Pp P w K c m (k+1) ⇑Tp dv3:=let #[_,_,_,F,j,cl,i]:=u.ex;Qjp j cl i F a e.on (h a.nd _)
def hI(N:č)(n:V)(u:UI K mg c q st)(h:N.Nodup->Bd P w K mg O8 N k q st body:=by intro s _ _ _ _ _ _ _ l;trivial)(e:Bn Tp IS q st:=by (repeat intro _);rfl)(a:JO N Tp tN:=by show kF):sG P w K mg O8 c (k+1) ⇑Tp dv3:=let #[_,_,_,F,o,i,j]:=u.ex;Qi0 o i j F a e.on (h a.nd _)
#print D
namespace L2
open PySem PySem.Spec PyProof.Rows
#print L2
namespace D
open PySem PySem.Spec PyProof.Rows L2
variable{X:Cx}{e:Expr}{f:aD}{pos:Pos}
def Ln(t:String):Bool:=vB t Đ || vB t ŉ
def Hz(f:aD):aD:=λ env=>do
 let x <- ϰ
 match x with
 |.ref n=>do
  match <- LG with
  |.lst _=>ï Ő
  |_=>failure
 |x=>match uD x with
  |some t=>fz (Ln t)
  |none=>failure
def Qo1:IL X EI^λ xs H Q=>∃x a,xs=[x,Χ]/\bI4 H a [.ty Đ, .ty ŉ]/\((∃ρ B d t,pe X.K d x/\uD d>t/\Q (ŏ^Ln t) H)∨∃p Y2,x=cc0/\tJ X.K p Y2/\Q Ő H):=by
 intro O s σ H xs us Q I r h;let(x,a,Y,st,h):=h;let(u,w',Y,C,L):=KS r;cases L;let(y,v,(o,e1,P,m,R),_):=iP st;let(y1,y2,Y,z1,z2):=KS v;cases z1;cases z2;let(oc,od,U,os):=o;cases P;cases R;let c:∀b,Q FH H->∀tk,EP X O σ Q (xk b) (aN4 s tk):=λ b q tk=>#[db2,H,ω,Y,q];let i:∀t∈["NoneType", cL2, ba6, pS, ŉ, Đ],PySem.W.kitAny X.K (ĥ t) [aI1, aC0]>(Ln t):=λ t j=>by simp only[Bj,Cc,or_false]at j;obtain Y|Y|Y|Y|Y|Y:=j<;>first|rfl|decide|with_unfolding_all rfl|kernel_rfl
 obtain⟨ρ,B,d,t,v,j,q⟩|⟨p,Y2,Y,G,q⟩:=h
 .cases d with
  |non=>obtain Y:=v.f9;cases j;cases C;show F6 PySem.W.kitx_none True.intro e1 (i _ Ê) bS8 (c _ q)
  |bl b=>obtain Y:=v.iw;cases j;cases C;show F6 PySem.W.kitx_bool True.intro e1 (i _ Ê) bS8 (c _ q)
  |int b=>obtain Y:=v.bx;cases j;let(tk,Y):=C;show F6 PySem.W.kitx_int True.intro e1 (i _ Ê) bS8 (c _ q)
  |str b=>obtain Y:=v.bK;cases j;let(tk,Y):=C;show F6 PySem.W.kitx_str True.intro e1 (i _ Ê) bS8 (c _ q)
  |ref b=>cases j
  |tup b=>cases j;let(a,Y2,Y,_,G,_):=v.tupI;cases C;let(y,_,(o,E,F,_),_):=iP G;show F6 PySem.W.kitx_tuple #[o,E,F] e1 (i _ Ê) bS8 (c _ q)
  |lst b=>cases j;let(a,Y2,Y,_,G,_):=v.b_;cases C;let(y,_,(o,k,E,F,_),_):=wq G;show F6 PySem.W.kitx_list #[o,E,F] e1 (i _ Ê) bS8 (c _ q)
 .cases C
  let(y,_,(o,k,E,F,_),_):=wq G;show F6 PySem.W.kitx_list #[o,E,F] e1 (i Đ Ê) bS8 (c _ q)
def QlS{p r i z:Pos}{k:V}(L:cj EI)(hl:cj Đ)(O:cj ŉ)(h:cl9)(Y2:L6 EI := by rfl)(R:L6 Đ := by rfl)(E:L6 ŉ := by rfl)
  (hs:Î [e,.Tuple [ķ Đ r,ķ ŉ i] k z]=cv8::Î [.Tuple [ķ Đ r,ķ ŉ i] k z]:=by rfl)
  (hs2:Î [.Tuple [ķ Đ r,ķ ŉ i] k z]=Ξ^.Tuple [ķ Đ r,ķ ŉ i] k z::Î []:=by rfl)
  (hs3:Î [ķ Đ r,ķ ŉ i]=Ξ^ķ Đ r::Î [ķ ŉ i]:=by rfl)
  (hs4:Î [ķ ŉ i]=Ξ^ķ ŉ i::Î []:=by rfl)
  (hpl:ÿ^(G6 [.Tuple [ķ Đ r,ķ ŉ i] k z]).any ţ:=by rfl):cl7 EI [e,.Tuple [ķ Đ r,ķ ŉ i] k z]^Hz f :=
 L2.PE.imp (vV Qo1 Y2 L boot_isinstance (Xn h (cq8 (ME^Xn (Rx (v:=.ty Đ) R hl boot_list Y) (cq8 (Rx (v:=.ty ŉ) E O boot_tuple Y) hs4) hs3) hs2) hs) Á Á hs hpl) λ σ H Q zz=>by
  let(Z,env,ρ,B,J,d,hp',S,e,k):=zz;let(x,hp1,e1,u):=Ŧ;apply IB S v c P ?_;apply#[Á,Ż p hn];let G:Gr X.K ρ1 c H1 ρ1 c^upd H1 p^õ [.ty Đ, .ty ŉ]:=aG7 hn;let y:=ϸ G _ _ P;let j:=S1.wo.laid (o:=õ [.ty Đ, .ty ŉ]) hn;apply#[v,p,Y,di8,?_];cases x with
  |ref n =>
   let(o,hp2,F,C):=Qh u;let(I,Y):=ZO F;cases o with
   |lst zs=>let(Y,Y):=Qm C;let(a,Y,_,U,h1,l1):=aA.bB j y I;show ċ #[a,U,Y,ph,k _ ρ1 c _ cw3 j Z6]
   |aJ _=>cases C
   |ins _ _=>cases C
  |non=>let(Y,Y):=Qm u;show ë #[ρ1,c,_,_,y,Y,k _ ρ1 c _ cw3 j Z6]
  |bl _=>let(Y,Y):=Qm u;show ë #[ρ1,c,_,_,y,Y,k _ ρ1 c _ cw3 j Z6]
  |int _=>let(Y,Y):=Qm u;show ë #[ρ1,c,_,_,y,Y,k _ ρ1 c _ cw3 j Z6]
  |str _=>let(Y,Y):=Qm u;show ë #[ρ1,c,_,_,y,Y,k _ ρ1 c _ cw3 j Z6]
  |tup _=>let(Y,Y):=Qm u;show ë #[ρ1,c,_,_,y,Y,k _ ρ1 c _ cw3 j Z6]
  |lst _=>let(Y,Y):=Qm u;show ë #[ρ1,c,_,_,y,Y,k _ ρ1 c _ cw3 j Z6]
#print D
namespace L2
open PySem PySem.Spec PyProof.Rows
def iB(P:Program)(w:World):CXT:=λ outer H s E e s' =>
 ∃(a : Addr)(cls : Value)(t : Addr)(c : Hp)(B : Heap), e = Χ /\ s'.os = s.os /\ aa0 /\ Heap.FlyingW B outer a cls ↑t s'.heap /\ bv9 c B /\ Un bj8 [] H c s.heap s'.heap /\
  (∀b o,aV0>o->bV6->b∉bj8->bG1>o)/\(∀b o,aV0>o->b∉bj8->∃o',bG1>o')/\E cls none c
variable{X:Cx}{O9:Ef}{σ:St}{H:Hp}{s s':Shared}{E:XK}{e:Addr}{cls:Value}{vs:Ď}{M:Model}{EE:Ee}
def Ip(I:Ϣ){b:Addr}(h:gm>o)(hf:co5 b):b∉dz:=λ z=>by
 obtain q|q:=ny (I.stkSub b z)
 .have:=aG0^Ao h;rw[q]at this;show Cq _ this
 .show hf q
def Qn6(I:Ϣ)(hX:dv4)(hf:aQ8)(x:X.ex=[])(hx:Heap.MadeExcOf s.heap h1 e cls vs)(q:E cls none H):
  dg0 X.A (leaving X.env ↑e) (λ_ y=>iB X.prog X.w X.outer X.H₀ X.s₀ E ↑e y) EE^RM h1:=by
 let j:∀b,b∉X.ex:=λ b z=>į x z z
 let st:∀b o,aV0>o->b∉dz->(aK3 dz).get? b>o:=λ b o z n=>PySem.W.hideAll_get _ z n;apply wpAny_leaves_madeW (s:=RM h1) (h:=s.heap) (I.ok.frames.trans^Ϻ hX) hf (λ b o(z:(PySem.W.hideAll s.heap (frs X.stack)).get? b>o)=>PySem.W.of_hideAll _ z) (by
  have:=PySem.W.funFrames_hide (as:=dz) I.stack λ env C b c=>ac6 #[env,C,c]
  rwa [hX]at this ⊢) hx^ba2 h' t v tup G up
 let keep:∀b o,gm>o->aI4 b->b∉Oy->(aK3 dz).get? b>o:=λ b o z n c=>st b o (df7 o z n c bX7)^Ip I z c;let there:∀b o,gm>o->b∉Oy->∃o',(aK3 dz).get? b>o':=λ b o z c=>aY9 o' i (aw0 o z bX7) #[o',st b o' i (Ip I z c)]
 let slot:∀b o,gm>o->aI4 b->b∈Oy->∃r,aY0>(aU8 o r):=λ b o z n c=>by let(r,i):=cJ2 b z n c bX7;let(_,o2,z2,nd):=bw6 c;rw[z]at z2;cases z2;let(F,z3):=up b (aU8 o r) (hx.keeps b _ i) nd;show#[F,z3]
 apply#[e,cls,t,H,_,Y,I.os,I.bare,v,λ a o ha=>(I.hok a o ha).stay (λ b u c z=>st b u z^N1 m) (λ_ z=>z)^λ_ _ z=>z,#[λ b o z n c _=>v.1 b o^keep b o z n c,λ b o z n c _=>slot b o z n c,λ b o z n _=>ak5 o z n bX7,λ b o z _=>?_,I.O8.tups,I.O8.frzs,I.O8.tbls],keep,there,q]
 .have:=I.stkFree b m;obtain Y|c:=c
  .rw[ha]at this;cases this
  .rw[c]at this;cases this
 .by_cases c:b∈Oy
  .let(r,i):=slot b o z (I.ok.frf b c) c;show#[_,i]
  .let(o',i):=there b o z c;show#[o',v.1 b o' i]
def QsN(I:Ϣ)(hX:dv4)(hf:aQ8)(y:X.ex=[])(h:iB X.prog X.w X.stack H s E v s'):
  dg0 X.A (leaving X.env v) (λ_ C=>iB X.prog X.w X.outer X.H₀ X.s₀ E v C) EE s':=by
 let(a,cls,t,Y2,B,Y,os,bare,L,hok,un,O,tB,q):=h;let j:∀b,b∉X.ex:=λ b z=>į y z z
 apply wpAny_leaves_onW (I.ok.frames.trans^Ϻ hX) hf (ì hX L)^ľ h' r up;let keep:∀b o,gm>o->aI4 b->b∉Oy->bG1>o:=λ b o z n c=>O b o (df7 o z n c bX7) (ak5 o z n bX7)^Ip I z c;let there:∀b o,gm>o->b∉Oy->∃o',bG1>o':=λ b o z c=>aY9 o' i (aw0 o z bX7)^tB b o' i^Ip I z c
 let slot:∀b o,gm>o->aI4 b->b∈Oy->∃F,aY0>(aU8 o F):=λ b o z n c=>by
  let(F,i):=cJ2 b z n c bX7;let(_,o2,z2,nd):=bw6 c;rw[z]at z2;cases z2;let x:b∈dz:=Æ hX (by unfold frs at c ⊢;rw[List.filterMap_cons];split;show c;show bU0 c)
  let(G,z3):=un.slot b _ i (ak5 o z n bX7) x Ê;let(Q,z4):=up b (aU8 o G) z3 nd;show#[Q,z4]
 apply#[a,cls,t,Y2,B,Y,os.trans I.os,bare,r,hok,#[λ b o z n c _=>r.1 b o^keep b o z n c,λ b o z n c _=>slot b o z n c,λ b o z n _=>?_,λ b o z _=>?_,λ b xs z=>un.tups b xs^I.O8.tups b xs z,λ b o u z=>un.frzs b o u^I.O8.frzs b o u z,ľ b ps z],keep,there,q]
 .let(o',i):=aw0 o z bX7;show un.free b o' i (ak5 o z n bX7) Ê
 .by_cases c:b∈Oy
  .let(F,i):=slot b o z (I.ok.frf b c) c;show#[_,i]
  .let(o',i):=there b o z c;show#[o',r.1 b o' i]
 .let(m1,z1):=I.O8.tbls b ps z;let(P,z2):=un.tbls b _ z1;show#[m1++P,Ϗ z2 Array.append_assoc]
#where
def Np(K:Aa)(C:Addr):ä:=∃bm N nm q bs hdct sn sub ab col dd k0 k1 k2 k3 k5,Ψ C>(excClassObj nm q C N bs bm hdct sn sub ab col dd k0 k1 k2 k3 k5 aM0)/\Ĭ^PySem.W.nsOkIn K N/\PySem.W.nsIn K N IS = í none/\Ĭ^PySem.W.tailIn K [bO0, cd2, be5, dn9] bm
def QmR{K:Aa}{h:Heap}{C:Addr}(X:aO8)(q:Np K C):∃bm N nm q bs hdct sn sub ab col dd k0 k1 k2 k3 k5 mN,ϝ C>(excClassObj nm q C N bs bm hdct sn sub ab col dd k0 k1 k2 k3 k5 aM0)/\h.Ns N mN/\ų^mN IS/\OwnTail h [bO0, cd2, be5, dn9] bm:=by let(bm,N,nm,q,bs,hd,sn,sub,ab,col,dd,k0,k1,k2,k3,k5,l,a,b,t):=q;show#[bm,N,nm,q,bs,hd,sn,sub,ab,col,dd,k0,k1,k2,k3,k5,_,X _ _ l,.of_isNs (PySem.W.isNs_of_in X a),PySem.W.nsMap_none_of_in X a b,PySem.W.tail_of_in X t]
variable{X:Cx}{c:Str}{C:Addr}{np cpos pos p2:Pos}{msg:Str}{j:V}{R:dC}
def Qj5(Y2:dc)(L:L6 c)(O:X.mg c>bs0)(E:Np X.K C)(G:∀i σ H s,cF8 i->R H->∀h' e vs,Heap.MadeExcOf s.heap h' e bs0 vs->X.xe ↑e bg5)
  (he:Î [cT2]=Ξ cT2::Î []:=by rfl) (hpl:ÿ^(do9 [cT2]).any ţ:=by rfl) (hd:OW c:=by decide) :
  PS X (.Raise (í^eS c np [cT2] cpos) none pos)^λ_ _ H=>R H:=by
 intro i s σ H D I h;let(Q,N,nm,q,bs,hdct,sn,sub,ab,col,dd,k0,k1,k2,k3,k5,mN,o,u,v,T):=QmR I.ok.mod.kin E;let x:=PySem.F.excBase_ValueError;apply wpAny_Raise_call_subT (C:=C) (nm:=nm) (q:=q) (N:=N) (bs:=bs) (bm:=Q) (hdct:=hdct) (sn:=sn) (sub:=sub) (ab:=ab) (col:=col) (dd:=dd) (k0:=k0) (k1:=k1) (k2:=k2) (k3:=k3) (k5:=k5) x (mN:=mN) (T.hasType x.hasBase) (OO Y2) hpl v^xf I L O (bI0 Y) hd;let A:=(Xn (te:=tC (Õ msg)) MG pa_nil he:PA X [cT2] _) cpos i s σ H (λ vs y=>vs=[Õ msg]/\y=H) I rg;rw[he]at A ⊢;apply am6^Ϥ A (ľ us P z) z z;let(vs,y,a,r,Y,Y):=z;let hl:bW9=1:=aH2 mz
 show#[Y,bw7 hl,a.bk _ _ o,u.keeps a.bk,T.keeps a.bk,λ h' e hx=>G i σ _ P a h h' e us hx]
#print L2
namespace L2
open PySem PySem.Spec PyProof.Rows PySem.W PySem.Calls PySem.Builtin PySem.Builtin.ObjectAttr PySem.Builtin.Getset_descriptor
def mX(x D:Addr)(h:Heap):ä:=∃ox,ϝ x>ox/\ox.cls=ã D
variable{x D:Addr}
def mX.type(I:mX x D h):Looks M h (typeOf ↑x) ↑D:=br9 ox e c I<|c▸(Looks.ld e).andThen .now
#print L2
namespace L2
open PySem PySem.Spec PyProof.Rows
def ObjOk.there{w:World}{h:Heap}{a:Addr}(x:aF9 w H h a o):∃u,cd9>u:=by
 cases o with
 |lst xs=>let(_,_,_,_,e):=x;show#[_,e]
 |tup xs=>let(_,_,_,_,e,_):=x;show#[_,e]
 |dK kvs=>let(_,_,_,_,o,_,_,e,_):=x;show#[_,e]
 |dT kvs=>let(_,_,_,_,o,_,_,e,_):=x;show#[_,e]
 |set S n=>let(o,_,_,_,e,_):=x;show#[_,e]
 |ins C c fs=>let(_,_,_,e,_):=x;show#[_,e]
 |own y=>show x
 |xd fs=>let(_,(_,_,_,e,_),_):=x;show#[_,e]
 |rng i hi=>let(_,_,_,e):=x;show#[_,e]
 |frz ob u=>let(e,_):=x;show#[_,e]
 |tbl ps=>show#[_,x]
 |met f y=>show#[_,x]
 |ext φ=>let(_,e,_):=x;show e
abbrev Cx.hand(X:Cx)(a:Addr)(c:Obj):Cx:={ X with A:=X.A.mark ay2,calm:=false,pn:=(a,c)::X.pn,xe:=Da }
variable{X:Cx}{O9:Ef}{σ:St}{H H':Hp}{s s':Shared}
def Inv.land(I:Ϣ){B h5:Heap}(os:s'.os=s.os)(bare:aa0)(hok:ds8 H' B)(un:Un dz [] H H' s.heap s'.heap)
  (kB:∀b o,aV0>o->bV6->b∉dz->bG1>o) (tB:∀b o,aV0>o->b∉dz->∃o',bG1>o') (st:B.StaysIn h5) (up:bL2 h5):do6^Υ s' h5:=by
 let slot:∀b o,aV0>o->bV6->b∈dz->∃e,h5.get? b>(aU8 o e):=λ b o z n a=>by let(e,c):=un.slot b o z n a Ê;let(_,o2,z2,nd):=I.stack.mem a;rw[z]at z2;cases z2;let(i,z4):=up b (aU8 o e) c nd;show#[i,z4]
 apply I.call' (s':=Υ s' h5) (ch:=[]) os #[λ b o z n a _=>st b o^kB b o z n a,λ b o z n a _=>slot b o z n a,un.free,λ b o z _=>?_,un.tups,un.frzs,un.tbls] (hok.kept st) bare^az7 b z z;by_cases a:b∈dz
 .let(e,c):=slot b o z (I.stkFree b a) a;show#[_,c]
 .let(o',c):=tB b o z a;show#[o',st b o' c]
def Inv.hand{a:Addr}{c:Obj}(I:Ϣ)(ha:Č a>c)(hn:Ŵ a)(hl:fg a)(hf:co5 a)(e:∀v,c.data≠.cell v):ė (ck7 c) H s :=
 #[#[I.ok.mod,I.ok.kind,I.ok.glob,I.ok.blt,I.ok.above,I.ok.inj,I.ok.has,I.ok.cab,bv0 z z,I.ok.frames,I.ok.stk,I.ok.exf,I.ok.bs,I.ok.bsz,I.ok.noex,I.ok.exfs,I.ok.funs,I.ok.frf],I.os,I.bare,I.O8,I.loc,I.cell,I.free,I.freeC,λ p J=>by
  obtain Y|J:=ny J
  .show#[ha,hn,hl,hf,e]
  .show bk0 J,I.hok,I.len]
def Inv.pX{a:Addr}(I:ė (ck7 oe) H s)(ok:X.Ok):Ϣ :=
 #[ok,I.os,I.bare,I.O8,I.loc,I.cell,I.free,I.freeC,λ p J=>bk0^bU0 J,I.hok,I.len]
variable{X:Cx}{k:V}{f C:Addr}{fd:FuncData}{ps:č}{sp:Sp}{x:Str}{pos:Pos}{e:Expr}{es:Ϡ}{t:TA}
def fD(X:Cx)(c:Expr)(T:St->Hp->VK->ι XK):ä:=∀(a:Ef)(σ:St)(H:Hp)(s:Shared)(Q:VK)(E:XK)(xe:Ee),cF9->T σ H Q E->(∀i j v s',cF6 a i j->iB X.prog X.w X.stack i j E v s'->xe v s')->dm (æ c) (EP X a σ Q) xe s
def Qtj{xe:Ee}(F:zO X.prog X.w X.K X.mg X.O8 (iB X.prog X.w) k f fd ps sp)(z:aQ1)(y:cB0 [])(j:ŗ c a)(r:fx vs)(q:sp vs c Q E)
  (hx:∀c a v s',ŗ c a->iB X.prog X.w X.stack c a E v s'->xe v s'):dm (call aZ4 us) (EP X O9 σ Q) xe a:=by
 let hl:bW9=ϣ:=ì mz^F.len _ _ _ _ q
 let i:=y a us j.kIn^Æ Bs hl;rw[Bs]at i;apply wpAny_call^aA3 (F.run X.A X.stack a c #[us,[]] us vs Q E z j.env0 i r q) r s' hq;cases r with
 |error e=>show hx c a e s' j hq
 |ok o =>
  cases o with
  |ret u=>show j.after hq
  |next=>show CC hq
  |brk=>show CC hq
  |cont=>show CC hq
def Qny{pl:aw1}{m:Str}{i:Pos}(R:PE X.nox o ta)(c:cB2)(G:pP X.K C m f)(F:zO X.prog X.w X.K X.mg X.O8 (iB X.prog X.w) k f fd ps sp)(U:aQ1)(P:cB0 [])(ha:PA X.nox (e::es) t)
  (hst:cP5=cv8::bA9:=by rfl) (hpl:ÿ^(aj2).any ţ:=by rfl)
  (ht:æ^av2 o m i (e::es)=(do
   let ov <- bo1
   standAt i.atName
   let (f,first) <- Fh [ov] ov m pl
   ak6 pos f (G6<|e::es) bE4):=by rfl) :
  fD X (av2 o m i<|e::es)^λ σ H Q E=>Hf C m sp [] E ta t σ H Q:=by
 intro y σ H s Q E xe I h hx;apply aL0 pl (Ϥ (R y s σ H _ dg5 h) (ľ u s1 z) z z.elim) ht;let(x,L,j,rx,a,dx,fs,ex,O,l,q):=z;let j:=j.unwish;subst ex;obtain Y:u=Ϛ a:=rx;apply VC j O c G l ?_;apply PySem.W.callWith_K (first:=cJ3) (h₀:=X.O8) I.ok.mod.kin G.kp (Ϥ (ha pos y s1 σ L _ (j.wish _) q) (ľ us s2 z) z z.elim) hst hpl;let(vs,H2,v,r,Y2):=z;let v:=v.unwish;simp only[Bs]at Y2;show#[v.kIn,Qtj (us:=Χ::us) (vs:=Χ::vs) F U P v (Φ Y r) Y2 hx]
#print L2
namespace D
open PySem PySem.Spec PyProof.Rows L2
abbrev fJ:=En->Hs->bB2
def tR(K:Aa)(E:XK)(g:fJ):St->dC:=λ σ H=>∃Z env ρ B J c hp',bE2/\bH0>(Tk c)/\∀C ρ' B' H',bN K c C->Gr K Z.ρ Z.B Z.H ρ' B' H'->aR K ρ' B' hp' H'->E bs0 none H'
def RE(X:Cx)(E:XK)(e:Expr)(g:fJ):ä:=a7 e^λ σ H _=>tR X.K E g σ H
def RS(X:Cx)(E:XK)(st:Stmt)(g:fJ):ä:=PS X st^λ_ σ H=>tR X.K E g σ H
def rR(X:Cx)(E:XK)(st:EM)(g:fJ):ä:=dg4 st^λ_ σ H=>tR X.K E g σ H
def RQ(K:Aa)(n:V)(G:Þ->Hs->bB2):Sp:=λ vs H _ E=>av6=n/\∃ρ B J ds c hp',bR4/\oq vs/\G ds J>(Tk c)/\∀C ρ' B' H',bN K c C->bE8->aR K ρ' B' hp' H'->E bs0 none H'
structure Dc(P:Program)(w:World)(K:Aa)(mg:Eg)(O8:Heap)(c m:Str)(k n:V)(G:Þ->Hs->bB2):ä where
 ex:∃(C f:Addr)(fd:FuncData)(ps:č),bN K c C/\cW0/\pP K C m f/\zO P w K mg O8 (iB P w) k f fd ps^RQ K n G/\bq9 K []
def B_(n:V)(g:fJ):Þ->Hs->bB2:=λ ds J=>g (bQ1++ă (n-ê) ń) J
def ou{α:pZ}(m:cq6)(k:α->Hs->bB2):Hs->bB2:=λ J=>(m J).bind λ r=>k r.1 r.2
def Y3{α:pZ}{m:cq6}{k:α->Hs->bB2}{r:Str × Hs}(h:ou m k J>r):∃x hp1,m J>(x,hp1)/\k x hp1>r:=by
 unfold ou at h;cases e:m J with
 |none=>rw[e]at h;cases h
 |some q=>rw[e]at h;show#[FO,q.2,Y,h]
def ve{α:pZ}{m:cq6}{k:α->Hs->bB2}{x:α}(h:m J>(x,hp1)):ou m k J=k x hp1:=Ą ou h
variable{X:Cx}{E:XK}{e:Expr}{st:Stmt}{rest:EM}{g g':fJ}{f:aN}{pos:Pos}{c m:Str}{fo:aD}{fa:cu}
def QqN(h:RE X E e g):RS X E (.Return bB4 pos) g:=bb4 (MT h)^CA q q
def Ko(h:RS X E st g):rR X E dd4 g:=L2.PSs.imp (v0 h (u:=wt)^cY1 z z.elim)^CA q q
def vf(f:aN)(g:fJ):fJ:=λ env=>ou ϰ λ r=>match r with
 | (.nx,aF)=>g aF
 |_=>pA
def Y4(h:DS X st f)(h':rR X E rest g):rR X E dd4^vf f g:=L2.PSs.imp (v0 h h') λ D σ H q=>by
 let(Z,env,ρ,B,J,c,hp',S,e,k):=q;let((o,aF),hp1,e1,a):=Y3 e;cases o with
 |nx=>show#[Z,env,ρ,B,J,.nx,aF,hp1,S,e1,λ σ' ρ' i H' g' j=>#[Z,aF,ρ',i,hp1,c,hp',j,a,k]]
 |_=>cases a
def Eh(c:cH)(g g':fJ):fJ:=IP^ou bI3 λ b=>Ř b ao3^g' env
def Qst{a b:EM}(u:DT X ce t)(ha:rR X E a g)(r:rR X E b g'):RS X E (.If ce a b pos)^Eh t g g':=L2.PS.imp (Y_ u ha r) λ D σ H q=>by
 let(Z,env,ρ,B,J,c,hp',S,e,k):=q;let(d,hp1,e1,o):=Y3 e;apply#[Z,env,ρ,B,J,d,hp1,S,e1,λ ρ1 i H1 g1 W1=>?_];let j:=di7 g1 W1;cases d with
 |true=>show#[Z,env,ρ1,i,hp1,c,hp',j,o,k]
 |false=>show#[Z,env,ρ1,i,hp1,c,hp',j,o,k]
def Td:fJ:=f6 none
def QqO{l:EM}:rR X E l Td:=cY1 q (by let(Z,env,ρ,B,J,c,hp',S,e,k):=q;cases e)
def Vo(c m:Str)(n:V)(G:Þ->Hs->bB2)(fo:aD)(fa:cu):fJ:=IP^ou (fo env) λ x=>ou (m_ c x λ_ fs=>QE bl8) λ_=>ou (fa env) λ ds J=>pH (ê+1) n (G (x::ds) J) none
variable{E:XK}{c:Str}{C:Addr}{np cpos pos p2:Pos}{msg:Str}{j:V}
def Qsd{w:World}{K:Aa}{q:Str}{f:Addr}:Y9 (iB P w) (jn (iB P w) P w K mg O8 N q sc f cd A outer s H E) E:=λ e σ H' s' v a I h=>QsN I Y Y Y h
def Hc(c:Str):fJ:=λ_ J=>í (c,J)
structure UX(K:Aa)(mg:Eg)(c:Str):ä where
 ex:∃C,bN K c C/\mg c>bs0/\Np K C
def Qkm{w:World}{K:Aa}{q:Str}{f:Addr}(u:UX K mg c)(i:Gl (jn (iB P w) P w K mg O8 N q sc f cd A outer s H E) c:=by rfl)
  (he:starEach [cT2] (jn (iB P w) P w K mg O8 N q sc f cd A outer s H E).env=Ν^eval cT2 (jn (iB P w) P w K mg O8 N q sc f cd A outer s H E).env::starEach [] (jn (iB P w) P w K mg O8 N q sc f cd A outer s H E).env:=by rfl) (hpl:ÿ^(backTo cpos^starEach [cT2] (jn (iB P w) P w K mg O8 N q sc f cd A outer s H E).env).any ţ:=by rfl) (hd:OW c:=by decide) :
  RS (jn (iB P w) P w K mg O8 N q sc f cd A outer s H E) E (.Raise (í^eS c np [cT2] cpos) none pos)^Hc c:=by
 let(C,r,o,a):=u.ex;apply bb4 (Qj5 (R:=λ H=>E bs0 none H) Y i o a (λ v σ H s I q h' e vs hx=>Qn6 I Y Y Y hx q) he hpl hd)^mo D σ H q;let(Z,env,ρ,B,J,x,hp',S,e,k):=q;cases e;show k C ρ B H r S.gr S.wo
variable{P:Program}{w:World}{K:Aa}{mg:Eg}{O8:Heap}{x c m q:Str}{st:Stmt}{N ps:č}{k:V}{g:fJ}
def BdR(P:Program)(w:World)(K:Aa)(mg:Eg)(O8:Heap)(N:č)(k:V)(q:Str)(st:Stmt)(g:fJ):ä:=∀(f:Addr)(a:Value)(A:Around)(outer:My)(s:Shared)(H:Hp)(E:XK),Cl^œ q tN f a->rR (jn (iB P w) P w K mg O8 N q tN f a A outer s H E) E ak7 g
def fnR{f:Addr}(F:Fun K x q st f fd)(j:JO N ps tN)(h:BdR P w K mg O8 N k q st g):zO P w K mg O8 (iB P w) (k+1) f fd ps^RQ K ϣ^B_ aZ1 g:=by let(z,od,kV,o,C,an,a,ct,y,Y,v,i):=F.ex;apply Wt v i j (λ vs H Q E h=>h.1) λ A outer s H vs Q E u sp=>#[_,h f a A outer s H E u,?_];let(hn,ρ,B,J,ds,c,hp',W,r,e,k):=sp;show#[#[ρ,B,H],_,ρ,B,J,c,hp',yV W r,e,k]
def SX(u:UM K c m q st)(a:JO N ps tN)(h:BdR P w K mg O8 N k q st g)(e:Bn ps m q st:=by (repeat intro _);rfl):Dc P w K mg O8 c m (k+1) ϣ^B_ aZ1 g:=by let(C,f,fd,F,j,cl,i):=u.ex;show#[C,f,fd,ps,j,cl,i,fnR F a h,F.binds e.on]
variable{K:Aa}{h:Heap}{mg:Eg}{c:Str}{C:Addr}
def ux{N:Addr}{nm q:Str}{hdct ab:Bool}{col:Ï Bool}{dd:Nw}{k0 k1 k2 k3 k5:iM}(X:aO8)(G:cR9)(n:š K c>bs1)(l:Ψ C>(excClassObj nm q C N bs bm hdct sn sub ab col dd k0 k1 k2 k3 k5 aM0))(a:Ĭ^PySem.W.nsOkIn K N)(b:PySem.W.nsIn K N IS = í none)(t:Ĭ^PySem.W.tailIn K [bO0, cd2, be5, dn9] bm):UX K mg c:=#[C,n,Ix G n,_,_,_,_,_,_,_,_,_,_,_,_,_,_,_,_,l,a,b,t]
variable{X:Cx}{c x n:Str}{e:Expr}{es:Ϡ}{fa:cu}{pos:Pos}
def RX(X:Cx)(e:Expr)(g:fJ):ä:=fD X e^λ σ H _ E=>∃Z env ρ B J c hp',bE1 X.K/\bH0>(Tk c)/\∀C ρ' B' H',bN X.K c C->bE7 X.K->aR X.K ρ' B' hp' H'->E bs0 none H'
def fD.imp{T a:St->Hp->VK->ι XK}(h:fD X e T)(k:∀σ H Q E,a σ H Q E->T σ H Q E):fD X e a:=λ i σ H s Q E xe I q=>h i σ H s Q E xe I^k _ _ _ _ q
def Qn7{k j n:V}{G:Þ->Hs->bB2}{pl:aw1}{m:Str}{r:Pos}(h:Dc X.prog X.w X.K X.mg X.O8 c m j n G)(hr:aQ1)(hj:j<=k)(ho:DE X.nox o fo)(ha:DA X.nox (e::es) fa)
  (hst:cP5=cv8::bA9:=by rfl) (hpl:ÿ^(aj2).any ţ:=by rfl)
  (ht:æ^av2 o m r (e::es)=(do
   let ov <- bo1
   standAt r.atName
   let (f,first) <- Fh [ov] ov m pl
   ak6 pos f (G6<|e::es) bE4):=by rfl):RX X (av2 o m r<|e::es)^Vo c m n G fo fa:=by
 let(C,g,fd,ps,nc,cl,hm,O,hb):=h.ex;apply fD.imp (Qny (pl:=pl) ho cl hm O (hr.mono hj) hb ha hst hpl ht) λ σ H Q E q=>?_;let(Z,env,ρ,B,J,P,hp',S,e,k):=q;let(x,hp1,e1,e):=Y3 e;let(_,hp2,U,e):=Y3 e;let(ds,y,e3,u):=Y3 e;split at u
 .rename_i hl;apply cG9 F;let(i,fs,Y,w1,w2):=ju U;let(hn,Y):=QI w2;let(a,Y,_,ro):=aS7 F w1;let(C',R,xs,lH,ea,rf):=ro.ins;obtain Y:=lH.uniq nc;let hx:ay5 m:=by
   obtain⟨_,z⟩|⟨_,_,z,_,_⟩:=rf.look m
   .show z
   .rw[z]at hn;cases hn
  apply#[a,R,xs,Y,ea,hx,iG.run S1 e3 λ vs ρ2 Y2 H2 g2 S2 I=>?_];apply#[?_,ρ2,Y2,y,_,P,hp',S2.wo,?_,u,λ L ρ3 B3 H3 Lg g3 W3=>k L ρ3 B3 H3 Lg (à am1 g3) W3]
  .rw[Bs,A9,<- ⇑I];show hl
  .rw[Bs];show ah5 (ϸ g2 _ _ F) I
 .cases u
variable{X:Cx}
def CG:DV->bS
 |.lst [d],.int n=>do ag (0<=n/\n.toNat<=Ĺ);XH (Ù^aX9 d)
 |_,_=>failure
def Qqc:P2 X aq1 CG:=by
 intro j s σ H x y v u Q I rx ry h;let(ρ,B,J,O,P,d,hp',W,E,F,e,k):=h;unfold CG at e;split at e
 .rename_i d0 n;let(_,hp1,e1,o):=Ŧ;let(r,Y):=aL3;cases o;let(h0,h1):=Eb r;let(l,vs,Y,R,L,G):=E.b_;let(z,Y,Y2):=G.bL;apply jc (BE j s σ H _ _ v u (λ v a=>Hr X.K a->Q v a) I rx ry #[l,z,n,Y,F.bx,L,h0,h1,SF W (Qco Y2 _) k]) v s' z;let(x,a,i,c,C):=z;show#[x,a,i,c,C (Inv.pD i)]
 .cases e
#where
def JZ(x:Int):ä:=aH6<=1048576
instance(x:Int):Decidable^JZ x:=inferInstanceAs (Decidable<|_<=_)
def QfZ{x y:Int}(h:x.natAbs<=y.natAbs)(a:JZ y):JZ x:=PySem.intBits_le_of_natAbs h a
variable{X:Cx}
def WK(i j:Int):Bool:=Ö<|JZ i/\JZ j
def Fg:DV->bS:=j6 WK λ i j=>Í<|i * j
def QmN:FS aq1^rI (λ i j=>JZ i/\JZ j) λ i j=>Í<|i * j:=dh1 a q^mul_int q^.of_bits a.1 a.2
def Qqa:P2 X aq1 Fg:=vT QmN λ i j h=>Eb h
#where
def uG:∀(ns:Ĥ)(x:Int),x∈ns->aH6<=PySem.W.WData.weightAll ah4
 |n::r,x,h=>by
  rw[Ba];ext PySem.W.WData.weightAll;obtain Y|h:=ny h
  .show Bi (az3<|show aH6=PySem.W.WData.weight cY0 by ext PySem.W.WData.weight;rfl) À
  .have:=uG r x h
   lia
def QlB{ns:Ĥ}(h:Ĭ^PySem.W.WData.layableAll [PySem.W.WData.list ah4]):∀x∈ns,JZ x:=λ x hx=>by
 let h1:Ĭ^PySem.W.WData.layable^.list ah4:=by unfold PySem.W.WData.layableAll at h;simpa using h
 unfold PySem.W.WData.layable at h1;let h2:=Eb (Bool.and_eq_true_iff.mp h1).2;unfold PySem.W.WData.weight at h2;show Bi (uG ns x hx) h2
#print D
namespace L2
open PySem PySem.Spec PyProof.Rows PySem.W
def Qk8{l:PySem.W.OpenLaw}{n k:V}{q:Program}{j:č}{E:(Eg)->bP0}{C:World->bP0}{d:DefRec}{K:Params->Aa}{CX:World->CXT}{sp:World->Sp}{x:Str}
  (hn:l.most>n) (hn2:Ĉ n) (hdf:d.params.defaults=[]) (hr:pB callerA)
  (hY:∀(w:World)(h:Heap),C w h->(t6).In h)
  (F:∀(w:World)(mg:Eg)(fa:Addr)(h:Heap),(t6).In h->cR9->mg d.name>↑fa ->
   ∃fd : FuncData, bX9 s u Value^bU5 s #[[u], []] [(x, u)] /\
    ∀O8:Heap,(t6).In O8->ad0 mg->zO l.prog w t6 mg O8 (CX w) k fa fd [x]^sp w)
  (hsp:∀(w:World)(H:Hp)(a:Addr)(ns:Ĥ),sj<=n->IQ x ns^D.JZ x->Nk H->tJ t6 a nz->sp w cJ3 H (λ v _=>v=Ő) wt)
  (hCX:∀(w:World)(H:Hp)(s:Shared)(e:Value)(s':Shared),CX w [] H s wt e s'->False) :
  PySem.W.WalkO q j E C l.row.toRowW d []^λ f vs=>PySem.call f vs:=by
 intro w s₀ s₁ mg mb G Y0 fa o pm cd doc dV kV ho hd hcd hD hmg hg args vals as hpre hlay hrd hwl hlo;obtain Y:dV=fE:=Dflts.none hD hdf;obtain Y:kV=fE:=Dflts.noKw hD;let(a,vs,ns,Y,Y,y,i,c):=Att.script_of hn hpre hwl;let z:=hY w _ Y0;let(fd,O,I):=F w mg fa _ z G.T.g hmg;apply enter_call^aA3 (Qjc z G.T.g G.T.b G.T.builtins G.T.nolimit hg y i (Bi c hn2) hr I O (λ H Y2 L=>hsp w H a ns c (D.QlB hlay) Y2 L) λ H e s'=>hCX w H s₁ e s') r s' hq;let(Y,h2,h3,h4):=hq;show#[ë #[af9,af9,[],Y,cJ7,af9,Att.post_true l _,λ_=>#[List.Pairwise.nil,λ_ P=>i7 P]],h2,h3,h4]
#print L2
namespace D
open PySem PySem.Spec PyProof.Rows L2
variable(_){X:Cx}
def Gf{h:Heap}{a:Addr}{out:ļ}{b:Addr}(c:b≠a)(e:bV7>o):(sortedHeap h a vs out).get? b>o:=by ext sortedHeap;rw[cs9 _ _ _ c];apply ce9 ?_;rw[cs9 _ _ _ c];show e
def gB{h:Heap}{a:Addr}{out:ļ}{xs:ļ}{n:V}(e:cd9>(bm6 xs n)):∃c,(sortedHeap h a vs out).get? a>(bm6 out c):=by ext sortedHeap;obtain⟨c1,g1⟩:∃c1,(h.update a^LD^λ_=>hZ).get? a>(bm6 hZ c1):=#[_,get?_update_seq e (λ_=>hZ)];show#[_,get?_update_seq (ce9 g1) λ_=>out]
def QcG{prog:Program}{w:World}{A:Around}{E:Ee}{s:Shared}{x:Value}{ns:Ĥ}{Q:Ee}(a:sj<64)
  (hc:∀(R:Ď->ϟ),(∀(h':Heap)(tk:V)(vs:Ď),am7 vs->Ĉ av6->(∀b o,aV0>o->aY0>o)->R vs aC8)->rj w A.in1 (collect x) R E s)
  (h:∀(h1 h':Heap) (tk:V) (out:Ď) (ns':Ĥ) (c:V),(∀b o,aV0>o->h1.get? b>o)->(∀b o,h1.get? b>o->aY0>o)->ζ h1.objs.size>(bm6 out.toArray c)->IntsAre out ns'->ns'.Perm ns->ns'.Pairwise (· <= ·)->cD8 h1.objs.size aC8) :
  rj w A (ae8 ct0 [x]) Q E s:=by
 apply Calls.call_function_entry kind_sorted plain_sorted entry_sorted (args_sorted1 _) ?_;ext Builtin.«sorted»;apply C6 (m:=checkCount ct0 1 1 _)^C9^C6^hc _^ba2 h1 tk vs hI hz k1;apply C6^wpAny_newList ?_ hz;let g:(h1.push^bm6 vs.toArray 0).get? h1.objs.size>(bm6 vs.toArray 0):=cj2;apply C6^iE^ad1 slot_list_sort #[_,g,Y] entry_list_sort (list_sort_tree g hI (İ hI.length) λ out ns' i o2 o3=>#[_,Y,?_])^args_list_sort _;let(c,g2):=gB (vs:=vs) (out:=out) g;apply C9 #[_,Y,h h1 _ tk out.toList ns' c k1 (λ b o e=>Gf bj5 ay7) (Æ Array.toArray_toList g2) i o2 o3]
def Qai(hc:dc):IL X ct0^λ xs H Q=>∃p ns,xs=[cc0]/\sj<64/\HL X.K H p ns/\∀l,Ŵ l->cD8 l^r6 l dc0:=by
 intro O9 s σ H xs us Q I r h;let(p,ns,Y,C,hq,q):=h;let hh:ų X.A.handled:=OO hc;let(u,Y,rx):=Yt r;cases rx;let hz:Ĉ sj:=by
  obtain hq|⟨kvs,hq,e⟩:=hq
  .have:=(cf2).choose_spec.2.2;simpa using this
  .let a:=(di4 hq).1;let b:=ay9 e;simp at b;lia
 apply QcG (ns:=ns) C (Ż R P) λ h1 h' tk out ns' c k1 k2 g o1 o2 o3=>?_
 .obtain hq|⟨kvs,hq,e⟩:=hq
  .let(v,r',pl,z):=cf2;let hI:=kj r';let hl:⇑v=sj:=by have:=⇑r';simpa using this.symm
   let R1:=P (cH7 (Ŗ^bm6 hZ 0).update (LD (· ++ v.toArray))) s.toks v hI À λ b o e=>by let F:Tj b:=xt;rw[cs9 _ _ _^Be F];show ay7
   show collect_list pl.isList R1 À
  .let(_,lo,vs,kv,hd):=di4 hq;let(ep,E):=hd.dictAt;let U:vs.map ţ=cY5 Sum.inl:=à (Qe0 kv) e;let G:av6=sj:=Ϯ^ay9 U
   apply PySem.W.kdu_collect (PySem.W.kdl_dict (knd:=am4) (kvs:=vs) (ep:=ep) lo) hh E À λ h1 tk acc k1 Y2=>P h1 tk acc.toList (So ?_ λ j u n a b=>?_) ?_ k1
   .rw[Cg,Y2.1,G]
   .let(k,x,e1,e2):=Y2.2 j u da1;have:k=nX n:=by let O:=x3 (λ l=>Iq l) U;simp[e1,b]at O;show O
    subst this;obtain⟨i,t,h1,h2⟩|⟨_,_,h1,_⟩:=JE (LH (vE (nX n) u) e2)
    .cases h1;show#[t,h2]
    .cases h1
   .rw[Cg,Y2.1];lia
 .obtain Y:=uu o2 o3;let L:Ε^cK s h1 tk:=I.kept k1;let y:bN9 bb6:=Æ (ur ns).length_eq hz
  show#[ã h1.objs.size,_,L.laid (t':=tk) k2 Ĕ (â (bT8 X.w _ h' _^Ù dc0) #[Ë y,out,c,yX o1,g]),Y,q _ (L.hok.fresh Ĕ)]
def KR:bP:=tX λ d=>do let ns <- Ob d;ag (sj<64);al9 dc0
def UZ(F:dc):aQ3 X ct0 KR:=by
 intro C s σ H xs us Q I r h;let(ρ,B,J,ds,d,hp',W,P,e,k):=h;let(x,Y,e):=yP e;let(ns,hp1,e1,i):=Ŧ;let(_,G,e9,i):=Qh i;let(c,Y):=QI e9;let c:=Eb c;let(Y,Y):=bY3;let(v,Y,u):=P.bL;let key:J=hp1/\∃p,v=cc0/\HL X.K H p ns:=by
  cases x with
  |lst zs=>let(h1,Y):=Kj e1;let(a,y,Y,_,U,l):=u.b_;show#[Y,a,Y,ë (U3 h1 l▸U)]
  |ref n =>
   let(o,hp2,E,j):=Qh (â ((LG >>= λ o=>(match o with|.lst ds=>rZ dj6|.aJ kvs=>rZ bz2|_=>failure:M Ĥ)) J>(ns,hp1)) e1);let(z,Y):=ZO E;cases o with
   |lst zs=>let(h1,Y):=Kj j;let(a,Y,_,y,h2,L):=tT u z;show#[Y,a,Y,ë (U3 h1 L▸SqL.of h2)]
   |aJ kvs=>let(h1,Y):=Kj j;let(a,Y,_,R):=tT u z;let(y,h2,O):=R.aJ;show#[Y,a,Y,ċ #[y,h2,à O.to.1 (vD h1)]]
   |ins _ _=>cases j
  |tup _=>cases e1
  |non=>cases e1
  |bl _=>cases e1
  |int _=>cases e1
  |str _=>cases e1
 let(Y,p,Y,Y2):=key;show Qai F C s σ H _ us Q I r #[p,ns,Y,c,Y2,qy W (QgA _) k]
variable{X:Cx}
def ZK{x:Str}{i:Int}{pos:Pos}(u:UG X.mg x i)(a:dr1:=by rfl)(hd:cT6:=by decide):ϓ ae0^ġ i:=let #[_,h]:=u.ex;QlP a h hd
variable{env aF:En}{J hp1:Hs}{f g:aN}{c:cH}{r:bB0 (Fl × En) Hs}
def Qo(h:i0>(ō aF,hp1))(k:g aF hp1=r):Qq f g env J=r:=à (GC h) k
def QtI(h:aS0>aE9)(k:bu6=r):aL c f g env J=r:=à (Hb h) k
def ZN(h:aS0>co8)(k:Κ hp1=r):aL c f g env J=r:=à (M3 h) k
def QX(h:aS0>aE9):bJ6 c f env J>(rr,hp1):=Hb h
def Zw{α:pZ}{xs:Fa}{i:V}{x:α}(h:bC3>x):i<ŧ:=bf2
def vg{α:pZ}{xs a:Fa}{i:V}{x:α}(h:bC3>x):Ů (xs++a)>x:=à (Ag^Zw h) h
variable{X:Cx}
def Xq:bP
 | [.int i]=>do ag (i.natAbs<Λ 200);ï (Õ^dp4 i)
 | [.str x]=>ï Ϭ
 |_=>failure
def QpQ{n:V}(h:n<Λ 200):n.log2<1920:=by
 by_cases z:n=0
 .subst z;decide
 .show(Nat.log2_lt z).mpr (Ay h^Nat.pow_le_pow_right Á Á)
def qj:bU4 X (ĥ pS) Xq:=by
 intro o s σ H xs us Q I r h;let(ρ,B,J,ds,d,hp',W,c,e,k):=h;unfold Xq at e;split at e
 .let(_,hp1,e1,i):=Ŧ;let(j,Y):=aL3;let(Y,Y):=bY3;let(v,Y,a):=c.bL;obtain Y:=a.bx;let(u,Y,t,Y):=Yt r;show PySem.P.str_of_int (QpQ^Eb j) #[Õ _,H,ω,IK,LP zD]
 .let(Y,Y):=Fn;let(v,Y,a):=c.bL;obtain Y:=a.bK;let(u,Y,t,Y):=Yt r;show PySem.P.str_of_str #[Õ _,H,I,IK,LP zD]
 .cases e
def vz:bP
 | [.str x]=>do
  ag (rk<=640)
  let n <- pq au5
  wX n
 |_=>failure
def Ii:bU4 X (ĥ ba6) vz:=by
 intro y s σ H xs us Q I r h;let(ρ,B,J,ds,d,hp',W,o,e,k):=h;unfold vz at e;split at e
 .let(_,hp1,e1,a):=Ŧ;let(j,Y):=aL3;let(n,hp2,c,i):=Qh a;let(hn,Y):=Uy c;let(Y,Y):=bY3;let(v,Y,x):=o.bL;obtain Y:=x.bK;let(u,Y,t,Y):=Yt r;show PySem.W.KIN.call_text hn (Eb j) #[Í _,H,ω,IK,aO6]
 .cases e
def Nb:DV->bS
 |.str x,.str y=>do ag (Ĉ<|rk+⇑y);ï (Õ<|x++y)
 |_,_=>failure
def Qp9:P2 X aq0 Nb:=by
 intro o s σ H x y v u Q I rx ry h;let(ρ,B,J,r,z,d,hp',W,i,j,e,k):=h;unfold Nb at e;split at e
 .let(_,hp1,e1,a):=Ŧ;let(c,Y):=aL3;let(Y,Y):=Qm a;obtain Y:=i.bK;obtain Y:=j.bK;let(t,Y):=rx;let(t',Y):=ry;show PySem.SB.add (λ t' C=>#[Õ _,H,ω,IK,LP zD]) (Eb c)
 .cases e
def rH:DV->bS
 |.str y,.str x=>fz^Txt.contains x y
 |_,_=>failure
def Qr7:PU X .In rH:=by
 intro i s σ H x y v u Q I rx ry h;let(ρ,B,J,j,o,d,hp',W,a,c,e,k):=h;unfold rH at e;split at e
 .let(Y,Y):=Fn;obtain Y:=a.bK;obtain Y:=c.bK;let(t,Y):=rx;let(t',Y):=ry;show PySem.SB.contains #[db2,H,I,Y,LP ig]
 .cases e
def M8:bP
 | [.str x]=>do ag (rk<aC4);wX rk
 |_=>failure
def Qo2:aQ3 X "len" M8:=by
 intro o s σ H xs us Q I r h;let(ρ,B,J,ds,d,hp',W,i,e,k):=h;unfold M8 at e;split at e
 .let(_,hp1,e1,c):=Ŧ;let(a,Y):=aL3;let(Y,Y):=Qm c;let(v,Y,j):=i.bL;obtain Y:=j.bK;let(u,Y,t,Y):=Yt r;let a:=Eb a;show PySem.P.len_str À #[Í _,H,ω,IK,aO6]
 .cases e
variable{prog:Program}{w:World}{A:Around}{E:Ee}{s:Shared}
def Qd2{x y:Str}{t u:Tok}{Q:Ee}(a:iN ⇑y 0)(hsz:Ĉ<|rk+2)
  (h:∀l k,l.map ţ=ap0 x y->Q ŋ^cK s (cC0^aA4 ct1) k) :
  rj w A (ae8 "str.split" [.str x t,.str y u]) Q E s:=by
 let hn:bN9^Builtin.Str.partsBetween x (bm7 x y 0<|rk+1) ⇑y:=by let e1:=StrLaws.occ_length_le x y 0 rk<|rk+1;rw[length_partsBetween];lia
 cases h1:(Af rk ⇑y||Af (Builtin.Str.strKind x) (Builtin.Str.strKind y))
 .cases hf:bY2<|bm7 x y 0<|rk+1
  .apply bS6 (bk7 _ _) (as4 _) (meets_str_split_sep x y t u h1 a hf À hn) ?_;have:=h (numbered s.toks _) (bx0 ⇑(Builtin.Str.partsBetween x (bm7 x y 0<|rk+1) ⇑y))^à (numbered_texts _ _) (à (az8 h1)^az8 hf).symm;rw[<- strsFrom_eq]at this;show this
  .show bS6 (bk7 _ _) (as4 _) (meets_str_split_not_found x y t u h1 a hf) (h [(x,t)] s.toks (à (az8 h1)^C8 hf).symm)
 .show bS6 (bk7 _ _) (as4 _) (meets_str_split_cannot_occur x y t u h1) (h [(x,t)] s.toks (C8 h1).symm)
variable{X:Cx}
def zA:DV->bP
 |.str x,[.str y]=>fz^Ms x y
 |_,_=>failure
def Qb6:dv0 X "str.startswith" zA:=by
 intro j s σ H x vs v us Q I rx rv h;let(ρ,B,J,o,es,d,hp',W,a,c,e,k):=h;unfold zA at e;split at e
 .let(Y,Y):=Fn;let(z,Y,i):=c.bL;obtain Y:=a.bK;obtain Y:=i.bK;let(u,Y,t,Y):=Yt rv;let(t',Y):=rx;show PySem.SC.startswith #[db2,H,I,Y,LP ig]
 .cases e
def jb:DV->bP
 |.str x,[.str y]=>do
  ag (0<⇑y/\Ĉ (rk+2)/\Ĉ^hF^ap0 x y)
  ï (pk (ap0 x y) PD)
 |_,_=>failure
def QhH:∀l:ŀ Tok,Vals (mr (l.map ţ) Y1.str) ct1:=by
 intro c;induction c with
 |nil=>show i9
 |cons e l a=>let(x,t):=e;show Φ (mi t) a
def Qhj{K:Aa}:∀l:č,me dk8 dk8:=by
 intro c;induction c with
 |nil=>ext au;rfl
 |cons x l a=>rw[Ba,Ba];ext au;show#[_,_,Y,zD,a]
def Rh:dv0 X "str.split" jb:=by
 intro r s σ H x vs v us Q I rx rv h;let(ρ,B,J,y,es,d,hp',W,i,j,e,k):=h;unfold jb at e;split at e
 .let(_,hp1,e1,a):=Ŧ;let(c,Y):=aL3;let(Y,Y):=Qm a;let(h1,h2,h3):=Eb c;let(z,Y,o):=j.bL;obtain Y:=i.bK;obtain Y:=o.bK;let(u,Y,t,Y):=Yt rv;let(t',Y):=rx;apply Qd2 (Ë^C0 h1) h2^ľ l tk hl;let hv:=QhH l;rw[hl]at hv;show#[ã _,_,I.lnew (t':=tk) hv (Æ Br h3),Y,qy W (Qhj _) k _ I.fresh]
 .cases e
variable{X:Cx}{e:Expr}{f:aD}{pos:Pos}
def J_(d:DV)(a hi:Ć):Ģ:=match d with
 |.str x=>do ag (Ĉ rk);ï (Õ^Txt.slice x a hi)
 |_=>failure
def FQ(f:aD)(a hi:mY):aD:=IP^bb5 d ϰ l bJ2 h (hi env)^J_ d l h
def QtB(K:Aa):Y1->Ć->Ć->Hp->B6:=λ x a hi H Q=>∃ρ B J d r hp',bR4/\dt2/\J_ d a hi J>cz0/\k_ K ρ B H r hp' Q
def Qsc:SlR X^QtB X.K:=by
 intro o s σ H x v vl vu lo hi sl Q I rx hs pl pu h;let(ρ,B,J,d,r,hp',W,z,e,k):=h;cases d with
 |str x =>
  let(_,hp1,e1,y):=Ŧ;let(hz,Y):=aL3;let(Y,Y):=Qm y;obtain Y:=z.bK;let(t,Y):=rx;let hz:=Eb hz;let a:∀t' c,EP X o σ Q (.str (Txt.slice x lo hi) t') (aN4 s c):=λ t' c=>#[Õ _,H,ω,IK,LP zD];apply#[pS, _,PySem.F.slot_str_getitem.lookup,bk7 _ _,?_];cases pl with
  |none =>
   cases pu with
   |none=>show wv l none u none st none hs Y #[bw5 x _ _ hz,a]
   |int j u=>show wv l none u (í (j,u)) st none hs Y #[bw5 x _ _ hz,a]
  |int i u =>
   cases pu with
   |none=>show wv l (í (i,u)) u none st none hs Y #[bw5 x _ _ hz,a]
   |int j C=>show wv l (í (i,u)) u (í (j,C)) st none hs Y #[bw5 x _ _ hz,a]
 |_=>cases e
def Qpc{c hi:S9}{j i:mY}(h:cl9)(hl:DO X c j)(hh:DO X hi i):ϓ (cx7 e^.Slice c hi none p2)^FQ f j i :=
 PY (vW Qsc h hl hh) (λ σ H Q r=>by let(Z,env,ρ,B,J,d,hp',S,e,k):=r;let(x,hp1,e1,e):=Ŧ;let(l,hp2,y,e):=Ŧ;let(u,a,z,e):=Ŧ;apply cG8 C^nU.run S1 y λ ρ2 B2 H2 g2 S2=>nU.run S2 z λ ρ3 o H3 g3 S3=>?_;show#[ρ3,o,a,x,d,hp',S3.wo,ϸ bY4 _ _ C,e,Fu cf4])
#print D
namespace L2
open PySem PySem.Spec PyProof.Rows
def Its(x:Str):It:=#[λ i _=>i<x.cps.size,λ i H v H'=>H'=H/\∃c,Ů x.cps>c/\v=cu1,λ i _=>x.cps.size<=i]
def QnM{h:Heap}{a:Addr}{x:Str}{t:Tok}{i:V}{T:String}(st:h.IsStrIter a T x t i):∃o,cd9>o/\∀v,o.data≠.cell v:=by let(o,e,c,d):=st;show#[o,e,λ v z=>į d z z]
def kP{w:World}{A:Around}(hh:lI)(I:Addr)(x:Str)(t:Tok):Walks prog w A I [I] [I] x.cps.size (SignAt x)^λ i h=>h.IsStrIter I ac2 x t i:=by
 cases ha:x.cps.all (· < 128)
 .let e:ac2 = "str_iterator" := my strIterType ha
  rw[e];show Walks.strWide hh I x t
 .let e:ac2 = cZ1 := my strIterType ha
  rw[e];show Walks.strAscii hh I x t
def QcK(x:Str):ac2 = "str_iterator" ∨ ac2 = cZ1 := by
 cases ha:x.cps.all (· < 128)
 .left;simp[strIterType,ha]
 .right;simp[strIterType,ha]
def Qk1{w:World}{K:Aa}(x:Str)(t:Tok)(a:Addr):sI P w K tg (Its x) [a] a^λ i h=>i<=x.cps.size/\h.IsStrIter a ac2 x t i where
 mem:=Ê
 obj:=λ i h st b j=>by
  let e:b=a:=da2
  subst e;show QnM st.2
 keep:=λ i h h' st k=>#[st.1,let #[o,ho,r]:=st.2;#[o,k a Ê o ho,r]]
 item:=by intro X R hw O U i O9 s σ H E I hf st hg;subst R hw O;let(C,F,f2,G,Y2,L):=hf a Ê;apply(kP (prog:=X.prog) (w:=X.w) (OO U) a x t).item i s _ _ hg st.2^ba2 v h' tk hv y kk;let(c,u,a9,Y):=hv;let I1:Ε aC8:=I.turned (λ b o j e=>kk b o da2 e) C F G Y2 L;let(o,e,c1,d):=id y;show#[_,Y,Df (s:=aC8) e c1 d (by obtain z|z:=QcK x<;>rw[z]<;>decide) #[cu1,H,I1,mi u,#[Y,c,a9,Y],#[hg,y],λ b j=>(hf b j).1]]
 done:=by intro X R hw O U i O9 s σ H E I hf st hg;subst R hw O;let(C,F,f2,G,Y2,L):=hf a Ê;let ei:i=x.cps.size:=Nat.le_antisymm st.1 hg;subst ei;show(kP (prog:=X.prog) (w:=X.w) (OO U) a x t).done s _ _ st.2 λ h' tk kk=>#[Y,I.turned (λ b o j e=>kk b o da2 e) C F G Y2 L]
 self:=λ A i s Q E st h=>by
  obtain z|z:=QcK x
  .show wpAny_pyIter_striter_wide (z▸st.2) h
  .show wpAny_pyIter_striter_ascii (z▸st.2) h
def Qs4(a:TE):TI:=λ σ H R=>a σ H λ v H1=>∃x,v=Ϭ/\R (Its x) H1
def Qqr(hl:a7 l tl):PI X tg l^Qs4 tl:=by
 intro i s σ H R I h;apply dv1 (hl i s σ H _ I h) v a y c r;let(x,e,q):=q1;subst e;let(t,Y):=r;apply wpAny_pyIter_strU ?_;apply#[a.heap.objs.size,[a.heap.objs.size],_,_,c,Y,I1.kept (t':=a.toks) λ b o e=>ay7,Qk1 x t _,#[Fm,_,cj2,Y,Y],Ż b j,q];let e:b=a.heap.objs.size:=da2
 subst e;show I1.fpOk Ĕ ab7
#print L2
namespace D
open PySem PySem.Spec PyProof.Rows L2
variable{X:Cx}{tg iter:Expr}{f:aD}
def uj(x:Str):Þ:=x.cps.toList.map λ c=>cu1
def QpC{K:Aa}{x:Str}:kW K ρ B H (uj x)^Its x:=λ ρ1 B1 H1 g _ _=>by
 apply#[ľ i d e,by exact x.cps.size<=_;simp[uj]];let hi:i<x.cps.size:=mm cQ7 uj
 apply#[hi,λ y H' #[a,c,hc,q]=>?_];subst a q;have:d=cu1:=by unfold uj at e;rw[Bt,Array.getElem?_toList,hc]at e;cases e;rfl
 subst this;show#[zD,ϊ]
def Qtq:DV->cK8
 |.str x=>ï^uj x
 |_=>failure
def rJ(f:aD):En->cK8:=IP<|do Qtq (<- ϰ)
def Qpf(h:cC2):DI X tg iter^rJ f:=(Qqr h).imp λ σ H R c=>by
 let(Z,env,ρ,B,J,ds,hp',S,e,k):=c;let(d,hp1,e1,a):=Ŧ;cases d with
 |str x=>let(Y,Y):=Qm a;apply cG9 i;obtain Y:=i.bK;show#[x,Y,cV9 QpC]
 |_=>cases a
#where
def oK(T:an3):ŀ PyData:=T.map λ p=>(ix,Í p.2)
def oI:Ć->DV
 |some i=>ft
 |none=>Ě
def vI:Ć->Y1
 |some i=>ft
 |none=>Ě
structure GN(K:Aa)(mg:Eg)(x:Str)(T:an3):ä where
 ex:∃a,mg x>Ű/\Ĭ^bm8 (λ b=>Ψ b) a ct2
def WT{K:Aa}{h:Heap}{x:Str}{a:Addr}{T:an3}(X:aO8)(G:cR9)(n:š K x>ay2)(l:Ψ a>o)(r:Ĭ^bm8 (λ_=>í o) a ct2):GN K mg x T :=
 #[_,Ix G n,by unfold KTD.tabLook at r ⊢;simp only[l];show r]
def QiH{k:Str}{P:ι Value}{c:ä}:∀{T:an3},(∀i t,P6 k>i->P bp2)->(ų^P6 k->c)->KTD.Each h k P c^LL ct2 p (ix,ax2 p):=by
 intro o;induction o with
 |nil=>intro _ h;show h Y
 |cons u r j =>
  let(a,b):=u;intro h1 h2;exact Ř (FC k a) (KTD.Opened h P^.flat ↥b)^KTD.Each h k P c^LL (oK r) p (ix,ax2 p)
  by_cases e:k=a
  .rw[C8^Ea e]
   apply KTD.opened_int λ t=>h1 b t ?_;rw[List.lookup_cons,LH (k==a)^aw3 e]
  .rw[C7 aP7]
   let z:((a,b)::r).lookup k=r.lookup k:=Ϗ List.lookup_cons^â (iN k a)^P5^λ z=>e^bx5 z
   show j (λ i t q=>h1 i t^z.trans q) λ q=>h2^z.trans q
def Qpy{k:Str}:∀{T:an3},KTD.inKeys k^LL ct2 p (ix,ax2 p)=p9^P6 k:=by
 intro i;induction i with
 |nil=>show Y
 |cons j r c =>
  let(a,b):=j;exact(FC k a||KTD.inKeys k (LL (oK r) p (ix,ax2 p)))=_;rw[c,List.lookup_cons];by_cases e:k=a
  .rw[LH (k==a)^aw3 e,Ea e];rfl
  .rw[â (iN k a)^P5^λ z=>e^bx5 z,Ec e];rfl
def Qs3(T:an3):bS
 |.str x=>ï^oI^P6 x
 |_=>failure
def G8(T:an3)(f:aD):aD:=IP<|do Qs3 T (<- ϰ)
def inJ(T:an3):bS
 |.str x=>fz^p9^P6 x
 |_=>failure
def V_(T:an3)(f:aD):aD:=IP<|do inJ T (<- ϰ)
variable{X:Cx}{x:Str}{T:an3}{e:Expr}{p pos apos:Pos}
def uz{a:Addr}{s:Shared}(I:Ϣ)(i:Ĭ^bm8 (λ b=>IE b) a ct2):KTD.Here s.heap s.heap a^LL ct2 p (ix,ax2 p):=by let c:KTD.TabOf (λ d v=>PyProof.V.Flat v d) s.heap a ct2:=KTD.tab_of_look (f6 KTD.flat_of_looks) (λ b o e=>I.kIn b o e) i;show#[c.text,λ_ _ e=>e]
def Qm0{ty:TE}(u:GN X.K X.mg x T)(hi:a7 e ty)(m:M1 X dq9 "get" apos e pos)(v:dr1)(hd:cT6):a7 (av3 dq9 "get" [e])^λ σ H Q=>ty σ H λ y c=>∃k,y=Õ k/\Q (vI^P6 k) c:=by
 let(a,z,o):=u.ex;intro r s σ H Q I h;apply wpAny_Call_method m.O8 m.few m.line PySem.F.plainAttrs_dict PySem.F.slot_dict_get PySem.F.type_dict_get^xf I v z ?_ hd;let j:=uz I o;apply#[j.typeIs,j.noDict,?_];rw[m.trees];apply bk8 Y^am6^NF^thn (hi r s σ H _ I h) λ C E #[y,c,I2,ry,k,ek,q2]=>ab4;subst ek;let(t,Y):=ry;apply KTD.get1_text (uz I2 o)^QiH (ľ i t q)^N1 q
 .show#[ft,c,I2.tok _,mi t,Ex q q2 q2]
 .show#[Ě,c,I2.tok _,Y,Ex q q2 q2]
def Rs(u:GN X.K X.mg x T)(o:cl9)(m:M1 X dq9 "get" apos e pos:=by show#[Y,Y,Y,Y])(r:dr1:=by rfl)(hd:cT6:=by decide):ϓ (av3 dq9 "get" [e])^G8 T f :=
 (Qm0 u o m r hd).imp λ σ H Q z=>by
  let(Z,env,ρ,B,J,d,hp',S,e1,k):=z;let(y,hp1,j,a):=Qh e1;apply tD.run S j λ v ρ1 B1 H1 g1 S1 C=>?_;cases y with
  |str c =>
   let(Y,Y):=Qm a;apply#[c,C.bK,cV9 ?_];cases P6 c with
   |some i=>show Jd
   |none=>exact aA _ _ _ _ Ě Ě;ext aA;rfl
  |_=>cases a
def Qqh{ty:TE}(u:GN X.K X.mg x T)(hi:a7 e ty)(j:dr1)(hd:cT6):a7 (du9 e [.In] [dq9])^λ σ H Q=>ty σ H λ y c=>∃k,y=Õ k/\Q (ŏ^p9^P6 k) c:=by let(a,o,r):=u.ex;intro i s σ H Q I h;apply wpAny_Compare1 (thn (hi i s σ H _ I h) λ v z #[y,c,I2,ry,k,ek,q2]=>xf I2 j o ?_ hd) Y;subst ek;let(t,Y):=ry;apply KTD.in_text (uz I2 r) ?_;rw[Qpy];show#[db2,c,I2.tok _,Y,q2]
def Qpa(u:GN X.K X.mg x T)(j:cl9)(o:dr1:=by rfl)(hd:cT6:=by decide):ϓ (du9 e [.In] [dq9])^V_ T f :=
 (Qqh u j o hd).imp λ σ H Q z=>by
  let(Z,env,ρ,B,J,d,hp',S,e1,k):=z;let(y,hp1,i,a):=Qh e1;apply tD.run S i λ v ρ1 B1 H1 g1 S1 r=>?_;cases y with
  |str c=>let(Y,Y):=Qm a;show#[c,r.bK,cV9 ig]
  |_=>cases a
#where
def pY:Þ->IN
 | []=>í []
 |.str b::r=>mr (pY r) (b :: ·)
 |_=>none
def QnT:∀a:č,pY^a.map PD>a:=by
 intro e;induction e with
 |nil=>show Y
 |cons i r c=>rw[Ba,pY,c];rfl
variable{X:Cx}
def QnU{K:Aa}:∀{ds:Þ}{bs:č}{c:ś}{a:Ď},pY ds>bs->oq c->Vals c a->∃l:ŀ Tok,a=ct1/\l.map ţ=bs:=by
 intro ds;induction ds with
 |nil=>intro bs c a h r v;cases h;unfold au at r;subst r;cases v;show#[[],Y,Y]
 |cons d ds i =>
  intro bs c a h r v;unfold au at r;let(y,C,Y,j,o):=r;cases v with
  |@cons _ u _ us x z =>
  cases d<;>first|(simp[pY]at h;done)|skip
  rename_i b;let h:mr (pY ds) (b :: ·)>bs:=h;let(e,h1,Y):=ba9 h;let(l,Y,Y):=i h1 o z;obtain Y:=j.bK;let(t,Y):=x;show#[(b,t)::l,Y,Y]
def js:DV->bP
 |.str x,[d]=>do
  let ds <- lV d
  let ys <- pq (pY ds)
  QE (JoinOk x ys)
  ï (Õ^CL x ys)
 |_,_=>failure
def Kf:dv0 X "str.join" js:=by
 intro O s σ H x vs v us Q I rx rv h;let(ρ,B,J,P,es,d,hp',W,F,G,e,k):=h;unfold js at e;split at e
 .let(ds,hp1,e1,e):=Ŧ;let(U,hp2,c,e):=Ŧ;let(i,Y):=Uy c;let(_,r,j,e):=Ŧ;let(o,Y):=QI j;let(Y,Y):=Fn;let(z,Y,L):=G.bL;let(Y,a,zs,Y,sa,C):=Rk W L e1;obtain Y:=F.bK;let(u,Y,Y2):=Yt rv;cases Y2;let(t',Y):=rx;let(y,E,pl,hz):=wq sa;let(l,Y,hl):=QnU i C E;show PySem.SC.join pl.isList hl o λ t' R=>#[Õ _,H,ω,IK,LP zD]
 .cases e
def Fj:bP
 | [.int i]=>wX^É (i<0) (-i) i
 |_=>failure
def Qrs:aQ3 X "abs" Fj:=by
 intro a s σ H xs us Q I r h;let(ρ,B,J,ds,d,hp',W,c,e,k):=h;unfold Fj at e;split at e
 .let(Y,Y):=Fn;show Qic a s σ H xs us Q I r #[_,c.ints1,aO6]
 .cases e
def jm:DV->bS
 |.str x,y=>Nb Ϭ y
 |x,y=>Ng x y
def VN:P2 X aq0 jm:=by
 intro a s σ H x y v u Q I rx ry h;let(ρ,B,J,o,c,d,hp',W,i,j,e,k):=h;unfold jm at e;split at e
 .show Qp9 a s σ H x y v u Q I rx ry #[ρ,B,J,_,c,d,hp',W,i,j,e,k]
 .show Qp8 a s σ H x y v u Q I rx ry #[ρ,B,J,_,c,d,hp',W,i,j,e,k]
def u_:bP
 | [.str x]=>M8 [Ϭ]
 |xs=>ZG xs
def Qo3:aQ3 X "len" u_:=by
 intro a s σ H xs us Q I r h;let(ρ,B,J,ds,d,hp',W,c,e,k):=h;unfold u_ at e;split at e
 .show Qo2 a s σ H xs us Q I r #[ρ,B,J,_,d,hp',W,c,e,k]
 .show ZF a s σ H xs us Q I r #[ρ,B,J,_,d,hp',W,c,e,k]
#where
def rA(f g:aN):aN:=λ env J=>match i0 with
 |some r=>í r
 |none=>bH0
variable{X:Cx}{st:Stmt}{f g:aN}
def QrJ(h:DS X st f)(h':DS X st g):DS X st^rA f g:=λ c s σ H D I q=>by
 let(Z,env,ρ,B,J,i,a,hp',S,e,k):=q;unfold rA at e;cases q:i0 with
 |some r=>rw[q]at e;cases e;show h c s σ H D I #[Z,env,ρ,B,J,i,a,hp',S,q,k]
 |none=>rw[q]at e;show h' c s σ H D I #[Z,env,ρ,B,J,i,a,hp',S,e,k]
variable{X:Cx}
def x_{t t':TE}(h:a7 e t)(h':a7 e t'):a7 e^λ σ H Q=>t σ H Q∨t' σ H Q:=λ a s σ H Q I q=>q.elim (h a s σ H Q I)^h' a s σ H Q I
variable{X:Cx}{E:XK}{e:Expr}{pos p:Pos}{g:fJ}
def QqE(h:RE X E e g)(a:Î [e]=cv8::Î []:=by rfl):PA X [e]^λ σ H _=>tR X.K E g σ H:=λ pos O9 s σ H Q I q=>Xn (t:=wt) h (EV z z.elim) a pos O9 s σ H Q I q
def QqG{x:Str}{T:String}(h:RE X E e g)(i:cj x)(hv:AI>bB7)(c:dr1:=by rfl)(hn:tI x := by decide)(a:cT6:=by decide)
  (he:Î [e]=cv8::Î []:=by rfl) (hpl:ÿ^(G6 []).any ţ:=by rfl):RE X E (bg8 x [e]) g :=
 PY (kD (r:=wt) (λ_ _ _ _ _ _ _ _ _ h=>h.elim) c i hv (QqE h he) hn a he hpl)^CA q q
variable{X:Cx}{E:XK}{o:Expr}{fo:aD}{pos apos:Pos}{c m:Str}
def Qkh{k j n:V}{G:Þ->Hs->bB2}{pl:aw1}(h:Dc X.prog X.w X.K X.mg X.O8 c m j n G)(hr:aQ1)(hj:j<=k)(hx:Y9 (iB X.prog X.w) X E)(ho:ϓ o fo)
  (ht:æ^av3 o m []=(do
   let ov <- bo1
   PR
   let (f,first) <- Fh [ov] ov m pl
   ak6 pos f (G6 []) bE4):=by rfl):RE X E (av3 o m [])^Vo c m n G fo Qk:=by
 let(C,g,fd,ps,nc,cl,hm,I,U):=h.ex;apply PY (Qch (pl:=pl) ho cl hm I (hr.mono hj) U i9 hx ht)^mo σ H Q q;let(Z,env,ρ,B,J,Y2,hp',S,e,k):=q;let(x,hp1,e1,e):=Y3 e;let(_,hp2,O,e):=Y3 e;let(ds,a9,P,r):=Y3 e;cases P;split at r
 .rename_i hl;apply IB S v y u ?_;let(i,fs,Y,w1,w2):=ju O;let(hn,Y):=QI w2;let(a,Y,_,ro):=aS7 u w1;let(C',L,xs,lH,R,rf):=ro.ins;obtain Y:=lH.uniq nc;let hx:ay5 m:=by
   obtain⟨_,z⟩|⟨_,_,z,_,_⟩:=rf.look m
   .show z
   .rw[z]at hn;cases hn
  apply#[a,L,xs,Y,R,hx,?_];apply#[?_,ρ1,y,_,_,Y2,hp',S1.wo,?_,r,λ F ρ3 B3 H3 Lg g3 W3=>k F ρ3 B3 H3 Lg (S1.gr.trans g3) W3]
  .rw[Bs];show hl
  .rw[Bs];show ah5 u (bJ5 au)
 .cases r
#where
structure Iv(X:Cx)(es:Ϡ)(f:cu):ä where
 h:DA X es f
variable{X:Cx}{e:Expr}{es:Ϡ}{f:aD}{g:cu}{pos:Pos}
def QlO:Iv X [] Qk:=#[Qi]
structure DEs(X:Cx)(e:Expr)(f:aD):ä where
 h:cl9
def Hj(ha:DEs X e f)(a:Iv X es g)(c:Ĭ^Le e:=by show(Y:Ĭ true)):Iv X (e::es)^Qc f g:=#[Qd ha.h a.h c]
def QlT(h:Iv X es g):ϓ (.List es pos)^JH g:=XI h.h
#where
def lE(f:aD):lZ:=λ env=>do
 match <- ϰ with
 |.tup ds=>ï x4
 |.lst ds=>ï x4
 |.ref n=>do
  match <- LG with
  |.lst _=>ï (fZ n)
  |_=>failure
 |_=>failure
variable{X:Cx}{tg iter:Expr}{f:aD}
def HX(h:cC2):DX X tg iter^lE f:=λ c s σ H R I i=>by
 let(Z,env,ρ,B,J,nxt,hp',S,e,k):=i;let(d,hp1,e1,a):=Ŧ;let l:=Xl (tg:=tg) h c s σ H R I;let t:=XO (U6 (tg:=tg) h) c s σ H R I;cases d with
 |tup ds=>show t #[Z,env,ρ,B,J,nxt,hp',S,by ext cM lK;exact((ϰ >>= gD) >>= _) J=_;rw[Qe (m:=ϰ >>= gD)^à L9 Y];show a,k]
 |lst ds=>show l #[Z,env,ρ,B,J,nxt,hp',S,hJ cQ L9 a,k]
 |ref n=>show l #[Z,env,ρ,B,J,nxt,hp',S,hJ cQ L9 a,k]
 |non=>cases a
 |bl _=>cases a
 |int _=>cases a
 |str _=>cases a
#print D
namespace L2
open PySem PySem.Spec PyProof.Rows
variable{X:Cx}{C SC:Addr}{sc:Str}{pos epos hpos np:Pos}{b₀:Stmt}{suite:EM}{tS:TS}{hs:Â ExceptHandler}{h₀:ExceptHandler}
def Qng(o:PE X.nox c t)(a:cG3 c none=EN:=by rfl):PS X (.Try [.Expr c epos] (h₀::hs) [] [] pos)^Nu t:=by intro j s σ H D I h;apply wpAny_Try_except^aO9^bk2 (Ϥ (o j s σ H _ dg5 h) (ľ v u z) z z.elim) a;let(x,e,i,r,q):=z;show aa7 (aa7 #[σ,e,i.unwish,q])
def Qnf{T:St->Hp->VK->ι XK}(hc:fD X c T)
  (hsg:L6 sc) (hsm:X.mg sc>↑SC) (hex:ca2 X.K ↑SC>true) (hX:dv4) (hf:aQ8)
  (hS:∀a i,i.cls=ã C->PSs (ck7 i) (b₀::suite) tS)
  (hsd:OW sc:=by decide) (hsw:cG3 c none=EN:=by rfl) :
  PS X (.Try [.Expr c epos] [.ExceptHandler (í^ķ sc np) none (b₀::suite) hpos] [] [] pos)
  ^λ D σ H=>T σ H Da λ cls _ r=>cls=ã C/\tS { nx:=λ σ' Q=>D.nx σ' Q,rt:=Da } σ r:=by
 intro F s σ H D I h;apply wpAny_Try_except^aO9^bk2 (Ϥ (hc F σ H s _ _ _ I h^ba2 H1 s1 v s' I1 cx) (ľ v s1 z) z z) hsw
 rotate_left
 .let(_,_,_,_,z):=z
  show z.elim
 let(a,cls,tt,r,B,Y,os,bare,y,hok,un,kB,tB,Y,hE):=cx;rw[hX]at y;apply wpAny_looks_onW (I1.ok.frames.trans^Ϻ hX) hf y^ľ h4 A_ RG;apply wpAny_landsW A_^ľ h5 El RD;let R:ų^r a:=by
  cases q:r a with
  |none=>rfl
  |some o=>let(u,z):=(hok a o q).there;rw[El.2.1]at z;cases z
 let nofr:∀{h:Heap},Heap.FlyingW B bw4 a bs0 ↑tt h->bL2 h->a∉dz:=λ{h} x up z=>by let(i,ws,j,_,e,_):=x.first;let fr:=y.2.2.1;rw[<- hX]at fr;let(_,o2,z2,nd):=fr.mem z;let(sl,z3):=up a o2 z2 nd;rw[j]at z3;cases z3;show nd _ e
 let hand:∀{h:Heap}(x:Heap.FlyingW B bw4 a bs0 ↑tt h)(up:bL2 h),∃i,i.cls=ã C/\î (ck7 i) F r^Υ s' h:=λ{h} x up=>by
  let(i,ws,j,E,e,_):=x.first;let nf:=nofr x up;apply#[i,E,(I1.land os bare hok un kB tB x.1 up).hand j R (λ q=>nf ?_) (λ q=>nf ?_) λ v q=>į e q q]
  .rw[hX]
   show ac6 #[X.env,Ê,Ϗ hf q]
  .rw[hX]
   let(env,m1,m2):=aR1 q;show ac6 #[env,bU0 m1,m2]
 let(Y2,a9,P):=hand El (RG.trans RD);let L:PySem.W.Looks at9 h5 (typeOf Ű) bs0:=mX.type El.there;apply wpAny_handleBy_cons (codeAny_handlers_test^xf (X:=ck7 Y2) P hsg hsm ?_ hsd) (by intro q;cases q);apply(PySem.W.exm_one P.kIn L hex).at ?_;apply codeAny_handlers_suite ?_;apply lands_againW El^ľ h6 G O;let(i,oc,U):=hand G (à (RG.trans RD) O);apply Ϥ (hS a i oc F _ _ r _ U hE) (ľ y s8 hs) z z.elim;cases y with
 |next=>let(σ',Q,I8,q):=hs;show#[_,_,I8.pX I.ok,q]
 |ret u=>let(_,_,_,_,_,z):=hs;show z.elim
 |brk=>let(_,_,_,z):=hs;show z.elim
 |cont=>let(_,_,_,z):=hs;show z.elim
#print L2
namespace D
open PySem PySem.Spec PyProof.Rows L2
structure UW(K:Aa)(mg:Eg)(c sc:Str):ä where
 ex:∃C SC,bN K c C/\mg sc>↑SC/\ca2 K ↑SC>true
def uw{K:Aa}{h:Heap}{c e:Str}{C a:Addr}(X:aO8)(G:cR9)(n:š K c>bs1)(i:š K e>ay2)(ex:ca2 K Ű>true):UW K mg c e :=
 #[C,a,n,Ix G i,ex]
def FZ(g:fJ)(c:Str)(r:V)(b:Bool):aN:=λ env J=>(bH0).bind λ z=>Dt z.1 c (ō^env.set r^Ü FH,z.2) none
variable{X:Cx}{c sc nr:Str}{pos epos hpos np p1 p2 p3:Pos}{j:V}{b:Expr}{hs:Â ExceptHandler}{h₀:ExceptHandler}
def Ql3(h:DE X.nox b f)(a:cG3 b none=EN:=by rfl):DS X (.Try [.Expr b epos] (h₀::hs) [] [] pos)^Zy f :=
 (Qng h a).imp λ D σ H o=>by let(Z,env,ρ,B,J,u,i,hp',S,e,k):=o;let(d,hp1,e1,r):=Ŧ;let(z,Y):=Qm r;cases z;show cG8 x (k σ ρ1 B1 H1 kx S1)
def Ql2(r:V){g:fJ}{v:Bool}(h:RX X b g)(u:UW X.K X.mg c sc)(E:X.N.Nodup)
  (hri:X.N[r]?>nr:=by rfl) (hlr:To nr>py:=by rfl) (hX:dv4:=by rfl) (hf:aQ8:=by rfl)
  (g0:L6 sc:=by rfl) (d1:OW sc:=by decide)
  (hsw:cG3 b none=EN:=by rfl)
  (hs1:eW (τ (xk v) j p1) (í^ķ nr p2) p3.line=EN:=by rfl) :
  DS X (.Try [.Expr b epos] [.ExceptHandler (í^ķ sc np) none [bj4 [ķ nr p2] (τ (xk v) j p1) p3] hpos] [] [] pos)^FZ g c r v:=by
 let(C,L,I,G,ex):=u.ex;let F:∀a o,o.cls=ã C->PSs (ck7 o) [bj4 [ķ nr p2] (τ (xk v) j p1) p3] _:=λ a o y=>BI^Ow (i:=r) E hri (ë hlr) Wl hs1^ċ hlr;apply bb4 (Qnf h g0 G ex hX hf F d1 hsw)^mo D σ H q;let(Z,env,ρ,B,J,O,x,hp',S,e,k):=q;let((c',hp2),z,e9):=Option.bind_eq_some_iff.mp e;split at e9
 .rename_i y;cases y;cases e9;apply#[Z,env,ρ,B,J,_,_,S,z,λ Y2 ρ2 B2' H2 Lh g2 W2=>bI0^Ϻ^Lh.uniq I];show k _ ρ2 B2' _ (g2.gs S.wo.rb) ((di7 g2 W2).set (i:=r) Z6)
 .cases e9
def Di(y z:Str)(f:aD):aD:=λ env=>do
 let l <- ϰ
 match l with
 |.lst (.str x::_)=>do
  ag (rk<=1048576)
  ï (Õ^Txt.replace x y z)
 |_=>failure
def QlW{y z:Str}{Y2 E G:V}{ps L o i:Pos}(ha:cl8 a)(R:iN y z:=by decide)(hz:bX0<=14:=by decide)
  (hbase:OP (xz a (τ ↥0 Y2 L) ps) "replace"^æ^xz a (τ ↥0 Y2 L) ps=æ^xz a (τ ↥0 Y2 L) ps:=by rfl)
  (hfew:((ş i [LJ y E p1,cT0 z G]).all (λ x=>hV x.1)&&(bE3 i).all (λ x=>p9 x.1)
   && Af (⇑([LJ y E p1,cT0 z G]:Ϡ)+⇑([]:ag2)+É (bY2 ([]:ag2)) 0 1) 30)=true:=by rfl)
  (hline:Ĭ<|o.endLine==i.line:=by rfl) (hst:ş i [LJ y E p1,cT0 z G]=[Ξ^LJ y E p1,Ξ^cT0 z G]:=by rfl) :
  ϓ (ES (xz a (τ ↥0 Y2 L) ps) "replace" o [LJ y E p1,cT0 z G] i)^Di y z f:=by
 intro O9 s σ H Q I h;let(Z,env,ρ,B,J,d,hp',S,e,k):=h;let(l,hp1,e1,P):=Ŧ;apply wpAny_Call_method_late hbase hfew hline Y^Subscript_^jc (ha O9 s σ H (λ v C=>∃ρ1 u,AC X.K B H ρ1 u C/\XP X.K Z ρ1 u hp1 C/\aA X.K ρ1 u C l v) I^Iz S v u C O U #[ρ1,u,g1,O,U]) v s1 q;let(x,C,I1,rx,ρ1,u,g1,O,U):=q;split at P
 .rename_i x0 ds;let(_,hp2,e3,e4):=Qh P;let(hs,Y):=QI e3;let(Y,Y):=Qm e4;let(a',xs,Y,n1,q1,l1):=U.b_;cases rx;unfold au at l1;let(v',vs,Y,rv,_):=l1;obtain Y:=rv.bK;apply wpAny_Constant_int ?_;let(aa,r,pl,a9):=(I1.tok<|s1.toks+1).list q1;cases r with
  |cons r0 rt =>
  let(t0,Y):=r0;apply item_listR (x:=.str x0 t0) pl.isList (Bo 0) Á ř ?_ Y;apply#[pS, "str.replace", PySem.F.plainAttrs_str,PySem.F.slot_str_replace,PySem.F.type_str_replace,bk7 _ _,(λ a h=>i7 h),?_];apply bk8 (ö hst) ?_;rw[hst];apply am6^NF^bI2^NF^bI2 ab4;apply PySem.SC.replaceW Ê Ê Ê R (Eb hs) hz^Ż t' kk;show#[Õ _,C,I1.tok _,IK,k _ ρ1 u C g1 O.wo zD]
 .cases P
#print D
namespace D
def qF{α β:pZ}{m:cq6}{k:α->M β}(h:ų^m J):ų^(m >>= k) J:=ĸ (ų^(m J).bind _) h
def Qpq(ds:Þ):∀(m i n:V)(env:En)(J:Hs),m+i=ê->m<n->jX x4 b n i env J=zW b bD2 env J:=by
 intro j La v;revert j La;induction v with
 |zero=>intro m i env J _ h;show Ė h E8
 |succ n c =>
  intro u i env J e h;cases u with
  |zero =>
   have:i=ê:=ic
   subst this;rw[jX,Qe^YI ds ê Ĕ J,Cw,bp8 ds[ê]?];rfl
  |succ m =>
   let a:i<ê:=ic
   rw[jX,Qe^YI ds i ic J,bs8,Bh a,zW];exact(b ds[i] env >>= _) J=(b ds[i] env >>= _) J;cases q:b ds[i] env J with
   |none=>rw[qF q,qF q]
   |some r=>let((o,aF),hp1):=r;rw[Qe q,Qe q];let c:=c m (i+1) aF hp1 ic ic;cases o<;>first|show c|rfl
def qD{f:mZ}{g:mj}{ds:Þ}{r:(Fl × En)× Hs}(h:i0>(ds,hp1))(h':zW (aF2 d (g d env) dj7) ds env hp1>r)(hl:ê<Ĺ):Xo (cM f) g body env J>r:=hJ Xo (Qe^VU h)^à (Qpq ds ê 0 Ĺ env hp1 Y hl) h'
def QlL(ds:Þ):∀(m i n:V)(J:Hs),m+i=ê->m<n->Je x4 t f n i J=Kx t f bD2 J:=by
 intro u La x;revert u La;induction x with
 |zero=>intro m i J _ h;show Ė h E8
 |succ n j =>
  intro v i J e h;cases v with
  |zero =>
   have:i=ê:=ic
   subst this;rw[Je,Qe^YI ds ê Ĕ J,Cw,bp8 ds[ê]?];rfl
  |succ m =>
   let a:i<ê:=ic
   rw[Je,Qe^YI ds i ic J,bs8,Bh a,Kx];exact(t ds[i] >>= _) J=(t ds[i] >>= _) J;cases q:t ds[i] J with
   |none=>rw[qF q,qF q]
   |some r =>
    let(c,hp1):=r;rw[Qe q,Qe q];cases c with
    |false=>show j m (i+1) hp1 ic ic
    |true =>
     exact(f ds[i] >>= _) hp1=(f ds[i] >>= _) hp1;cases o:f ds[i] hp1 with
     |none=>rw[qF o,qF o]
     |some z=>let(y,hp2):=z;rw[Qe o,Qe o];exact(Je x4 t f n (i+1) >>= _) hp2=(Kx t f (oT<|i+1) >>= _) hp2;let j:=j m (i+1) hp2 ic ic;exact(Je x4 t f n (i+1) hp2).bind _=(Kx t f (oT<|i+1) hp2).bind _;rw[j]
def Ud{f:mZ}{idx:ź}{t:cH}{e:aD}{ds out:Þ}(h:i0>(ds,hp1))(hl:ê<Ĺ)(c:Kx (λ d=>t aX6) (λ d=>e aX6) ds hp1>(out,hp2)):Zd false (cM f) idx t e env J>(Ù out,hp2):=by ext Zd;rw[Qe^VU h];let q:=à (QlL (t:=λ d=>t aX6) (f:=λ d=>e aX6) ds ê 0 Ĺ hp1 Y hl) c;rw[P9<|lim=Ĺ,Qe q];rfl
#print D
namespace L2
open PySem PySem.Spec PyProof.Rows
variable{X:Cx}{O9:Ef}{σ:L2.St}{Y2:ś->dC}{G:dC}
def Od(K:Aa)(a b l:Addr)(m:V)(Y2:ś->dC)(G:dC):ä :=
 ∀ts H,Y2 ts H->cG2 l ts->(ts.length<m/\(lY K a b).go ts.length H/\∀x H',(lY K a b).yld ts.length H x H'->Y2 (ts++[x])^upd H' l^aU5 ts [x])∨((lY K a b).stop ts.length H/\G H)
def Qoe{A:Around}{R:Result->ϟ}{z p o i j a b l:Addr}{m:V}(hh:lI)(D:ZA z p o i j a b)(hl:l∉[z,p,o,i,j])(hm:Ĉ m)(st:Od X.K a b l m Y2 G)(P:∀s' H',do6 s'->G H'->R (.ok^.ret res) s'):
  ∀(k:V)(s:Shared)(H:Hp)(ts:ś),m<=ts.length+k->Ϣ->IQ c [z,p,o,i,j]^Vx X O9 H c->ZU s.heap z p o i j a b ts.length->cG2 l ts->Y2 ts H ->
  codeAny at9 A (aE3 "list.extend.loop" #[[ã l,ã z,res],[]]) R s:=by
 intro k;induction k with
 |zero =>
  intro s H ts L I hf Z r E;apply cG6;rw[cG4];obtain⟨q,_⟩|⟨q,g⟩:=st ts H E r
  .show cB1 q L
  .show C6 (Pq (A:=A.in1) ce1 I D hf Z q λ s' I'=>C9^P s' H I' g)
 |succ k ih =>
  intro s H ts L I hf Z r E;apply cG6;rw[cG4];obtain⟨q,go,nx⟩|⟨q,g⟩:=st ts H E r
  .apply C6^Dp (A:=A.in1) I D hf Z go^ba2 g H' Q I1 Z1 C
   let J1:=nx _ _ Q;let(pp,x,y,hn,_,_,_,Y):=Q;let u:ez (upd H pp (õ [x,y]) l) ts:=ds5 r r
   let(zl,O,c,vl,U,e1):=I1.lstM u;let hz:Ĉ<|ts.length+1:=Bi q hm;let I2:=I1.lset (t':=s.toks) (its':=O++[ϒ]) (f:=(·.push ŋ)) u e1 Ê (vl.append^dp3^P9^RelV (Y1.ref s.heap.objs.size) aI5)^Æ Am hz;exact ű A.in1 (updateSeq l (·.push ŋ) >>= _) _ _ _;apply C6^wpAny_updateSeq (s:=bW0) e1 Y (C9 #[cz1,ih _ _ (ts++[ϒ]) ?_ I2 (λ c v=>#[?_,(C c v).2]) ?_ Zc J1]) ?_ ?_
   .rw[Am,Nat.add_assoc,Nat.add_comm _ k];show L
   .rw[Zb^â (c≠l)^λ e=>hl<|e▸v];show(C c v).1
   .rw[Am]
    show Z1.at λ c v q e=>rV _ _ (λ h:l=c=>hl<|h▸v) e
   .rw[<- Cg,<- U];show Nat.le_of_succ_le hz
   .rw[Array.size_push,<- Cg,<- U];show bK0 hz
  .show C6 (Pq (A:=A.in1) ce1 I D hf Z q λ s' I'=>C9^P s' H I' g)
def Qod{s:Shared}{E:Ee}{Q:Ee}{z p o i j a b:Addr}{m:V}(I:Ϣ)(v:dc)(D:ZA z p o i j a b)(Z:ZU s.heap z p o i j a b 0)(hf:∀c∈[z,p,o,i,j],Vx X O9 H c)(O:Ĉ m)
  (j0:Y2 []^at3 Ο) (st:Od X.K a b s.heap.objs.size m Y2 G) (q:∀s' H',do6 s'->G H'->Q ŋ s') :
  dm (call aI1 [ã z]) Q E s:=by
 let y:∀c∈[z,p,o,i,j],au2 c:=λ c v=>let #[_,e,_]:=Z.fp c v;bj5;apply callType_codes (Q₁:=λ obj s₁=>obj=ϒ/\s₁=RM^cC0 hZ) F.called_list (F.typeCall_list_1 _) F.entry_list_init
  (code_list_new _ rg)^ľ obj s₁ h₁
 let(Y,Y):=h₁;let r:aJ0 (cC0 hZ).get?>(bP1^ci3 hZ):=cj2;let kp:∀c u,Č c>u->(cC0 hZ).get? c>u:=λ c u e=>ay7;apply#[#[_,r,Y],F.args_list_init_2 _ _,?_];generalize cC0 hZ=h0 at r kp ⊢;apply bI5;ext Builtin.List.listItems;apply iA r Y E7;exact AM _ (ax3^λ_=>hZ) (λ_=>letGo (hZ:ļ).toList.reverse >>= λ_=>cE8 ↑z fE) _ _ _;apply C6^wpAny_updateSeq r Y ?_;let kp:∀c u,Č c>u->(cZ2^LD^λ_=>(hZ:ļ)).get? c>u:=λ c u e=>rV _ _ (Ņ bj5)^kp c u e;replace r:=aa1 (LD^λ_=>(hZ:ļ)) r Y;dsimp only at r kp ⊢;generalize cZ2 (LD^λ_=>(hZ:ļ))=h1 at r kp ⊢;apply aP0 ?_;let(U,R,P,sY):=Z.zz;let x:∀(s':Shared),s'.heap=h1->s'.TypeIs ↑z wS := λ s' e=>#[_,Æ e (kp _ _ P),Y];ext Builtin.List.listExtendWith;apply Sv (x _ Y) ?_;let e1:ÿ^Builtin.List.listSameRef ŋ ↑z:=my Builtin.List.listSameRef^Ņ^y z Ê
 let C:iN (PF wS)^PF Đ:=Á
 let L:iN (PF wS)^PF ŉ:=Á
 simp only[e1,C,L,Bool.or_false,Az,if_false];apply C6^cs0 (x _ Y)^ad1 F.slot_zip_iter (x _ Y) F.entry_zip_iter (C9 #[_,Y, wS, _,x _ Y,df2,?_]) cs1;apply C6 bf9;ext Builtin.List.listLengthHint;apply C6^wpAny_specialOf (x _ Y) Qec ?_;apply C6^wpAny_specialOf (x _ Y) QcV ?_;apply E7;exact wpAny _ _ (rule "list.extend.makes-room" >>= λ_=>Builtin.List.listTouch ŋ >>= λ_ =>
  again^aE3 "list.extend.loop" #[[ϒ,ã z,fE],[]]) _ _ _
 apply FI ?_;apply bI5;exact ű _ (ax3 (·.push fE) >>= λ_=>ax3 (·.pop)) _ _ _;apply C6^wpAny_updateSeq r Y ?_;let r₂:=aa1 (LD (·.push Value.none)) r Y;apply wpAny_updateSeq (hz:=by seq_fits) r₂ Y ?_;let r₃:=aa1 (LD (·.pop)) r₂ Y;let kp:∀c u,Č c>u->(cH7 (h1.update s.heap.objs.size (LD (·.push Value.none))).update (LD (·.pop))).get? c>u:=λ c u e=>by let ne:bv5 c:=Ņ bj5;show rV _ _ ne (rV _ _ ne^kp c u e)
 apply C9 #[cz1,Qoe (en^OO v) D (λ h=>y _ h Y) O st (λ s' H' I' g=>#[Y,q s' H' I' g]) m _ _ [] (bK9 _) (cL7 a o Ο t' s.toks kp Ĕ #[Fm,[],_,i9,r₃]) (λ c v=>#[?_,(hf c v).2]) (Z.at λ c v u e=>kp c u e) Zc j0];rw[Zb^y c v];show(hf c v).1
def Qm1{p p' pos c:Pos}(rK:L6 Đ)(r:cj Đ)(O:L6 wS)(P:cj wS)(L:dc)(ha:PA X [x,y] ta)
  (hs:Î [x,y]=[Ξ x,Ξ y]:=by rfl) (hs2:Î [y]=[Ξ y]:=by rfl) (hs3:Î [eS wS p' [x,y] c]=[Ξ^eS wS p' [x,y] c]:=by rfl) :
  PE X (bg8 Đ [eS wS p' [x,y] c])^λ σ H Q=>ta σ H λ vs e=>∃a b xs C m,vs=[Χ,da5]/\n4 X.K e a/\bI4 e b C/\m<=ŧ /\
   ∀l,ų^e l->ų^IE l->∃Y2,Y2 []^upd e l Ο/\Od X.K a b l m Y2^Q ↑l:=by
 intro O9 s σ H Q I h;apply NG^ja I rK r boot_list^dP ?_ hs3 Y;rw[hs3];apply NF^Call_^ja I O P boot_zip^dP (dv1 (ha c O9 s σ H _ I h) us s1 vs e r1) (Ϗ hs hs2)^ö hs2;let(a,b,xs,C,m,Y,v,qb,hz,q):=q1;cases W_ r1;apply y_ I1 v qb λ u z pp o i j I2 D Z hf=>ab4;let(Y2,R,st):=q u.heap.objs.size I2.fresh (by
  cases q:IE u.heap.objs.size with
  |none=>rfl
  |some o=>show bu1 (Ao^I2.kIn _ o q))
 let(_,_,_,U):=I2.tuple v;show Qod I2 L D Z hf (Bi hz U) R st λ s3 E F g=>#[ã u.heap.objs.size,E,F,Y,g]
#print L2
namespace D
open PySem PySem.Spec PyProof.Rows L2
variable{X:Cx}{f g:aD}
def QlV{p p' pos c:Pos}(z:cj Đ)(hm:cj wS)(hc:dc)(hx:cl8 x)(C:ϓ y g)(rK:L6 Đ := by rfl)(hg:L6 wS := by rfl)
  (hs:Î [x,y]=[Ξ x,Ξ y]:=by rfl) (hs2:Î [y]=[Ξ y]:=by rfl) (hs3:Î [eS wS p' [x,y] c]=[Ξ^eS wS p' [x,y] c]:=by rfl) :
  cl7 Đ [eS wS p' [x,y] c]^Hy f g :=
 L2.PE.imp (Qm1 rK z hg hm hc (Xn hx (cq8 C^ö hs2)^Ϗ hs hs2) hs hs2 hs3) λ σ H Q zz=>by
  let(Z,env,ρ,B,J,d,hp',S,e,k):=zz;let(ds,hp0,O,e):=Ŧ;cases e;apply QbY S O λ a b vs us ρ2 B2 H2 g2 W2 qa qb ln it=>#[a,b,vs,us,ê,Y,qa,qb,ln,λ l hn Y2=>#[λ ts H=>aR X.K (ρ2++[l]) (zP B2 l) (hp0++[Ù^aS2 ts.length]) H/\Gr X.K ρ2 B2 H2 (ρ2++[l]) (zP B2 l) H,#[W2.dY (v:=Ο) hn Y2 #[[],Zc,au.nil],Gr.dY hn Y2],mo ts H R hl]];let(W,gr):=R;let j:(ρ2++[l])[hp0.length]?>l:=ì W2.len List.getElem?_concat_length
  let(E,u,L):=W.obj _ l _ j List.getElem?_concat_length;cases u.symm.trans hl;let(go,stop):=it _ _ H (gr.gs W2.rb) W.rb W.bt;cases hd:ds[ts.length]? with
  |none =>
   let i:=al2 hd;let I:=⇑L;rw[A8]at I;rw[Cf i]at W;apply cQ4 ?_^k _ _ _ _ (g2.trans gr) W ?_
   .rw[<- I,ah7 i];show stop
   .ext aA
    show#[l,Y,j]
  |some d =>
   apply ë #[Ÿ hd,(go _ d hd).1,ľ x H' C];let(r,P):=(go _ d hd).2 x H' C;let U:aR X.K (ρ2++[l]) (zP B2 l) (hp0++[Ù^aS2 ts.length]) H'/\Gr X.K (ρ2++[l]) (zP B2 l) H (ρ2++[l]) (zP B2 l) H':=by
    obtain Y|⟨p,o,J,Y⟩:=P
    .show#[W,Gr.refl]
    .show#[W.laid J,aG7 J]
   let(F,g3):=U;let(E,u,_):=F.obj _ l _ j List.getElem?_concat_length;let(g4,G):=UR F j u (aE6 (bb0 W.rb g3 _ L) r);rw[ϲ _ Ĕ,Nat.sub_self]at G;apply#[?_,à (gr.trans g3) g4];rw[Am,List.length_singleton,List.take_add_one,hd];show G
#print D
namespace K73
open PySem PySem.Spec PyProof.Rows L2 D
def top (i:V):Stmt:=PySem.Challenge.pw_sidelink_k73_whole_from_text_to_answer.main.body.getD i^.Pass #[0,0,0,0]
def YL:bP:=No 1^cr au1
def Xg:bP:=Zf 2^oB û ı Û
def Jt:bP:=No 1^Ē è ab1
def Jl:bP:=No 1^Ē è bA1
def YX:bP:=cr4 2 (LT (iU (JM^zV Û)^JM^zV^FG Å aK1 2)^QG fY)^ù (FG Å aK1 2) 0
def xc:aN:=þ (N3 pE ß ě) (bg1 Ă ě)^QR 4^FG Å ě 4
def VZ:aN:=Xh (LE (cT4 ě)^LE (Jk d7 bV bG ě at5)^i4 Gd ě ß) xc Ĺ
def Vv:bP:=ar5 5 3 al1 4 Û^ϗ VZ Ă
def qh:aN:=Œ 5 (Qy 3 Vv^Ħ Å ě Ă) (bg1 ß Ń)^QR 4^W0 YX Å Ń
def xy:aN:=Xh (i4 d7 ce0^FG Å Û 0) qh Ĺ
def JQ:bP:=ar5 6 2 al1 3 zU^bO4 4 Û xy ß
def XT:bP:=No 1^ð Ez au1
def qB:aN:=bg0 Xm ß^Hy (FG Û Ă 1)^FG Û Ă 2
def jO:aN:=aA8 (cQ^ϖ (bQ9 JQ Û aP5 Jl Å) ar6) 3 qB
def JR:bP:=ar5 4 1 (bQ8 cN1 XT Å) 2 al1^ϗ jO ß
def Z2:bP:=Zf 2^cT3 (Jk d7 bV bG Û^cr au1) xJ
def Yh:bP:=Zf 2^Qq (Zy^υ è OF 2 Z2 Å Û)^oB è bA1 Û
def Xs:bP:=LF 2 (KL è LU V5 Å bn) (bg1 au1 Û)^QG^dr3^cr au1
def Xe:bP:=LF 3 (Zy^υ è OF 2 Z2 Å Û) (KL è LU V5 Å bn)^N3 ß au1 Û
def JG:bP:=LF 2 (oB è ab1 Û) (oB è "kept"^Yw^Ç^eC^õ [cF3,cc1,cc1,Ě,Ě])^þ (oB è bA1 bG) (oB è ac3 bG)^oB è LU bG
def xb:aN:=Zy^υ è "lay" 2 Xs ß Ă
def kX:aN:=aA8 (cQ^pQ Å (Zi bn) ZE) 3 xb
def Vu:bP:=Zf 4^Œ 2 (Yo è 2 JG dm5) (Zy^bJ7 è bL3 3 Xe ß bG mM)^cc6 kX (Zy^υ è bL4 2 Yh ß^dr3 at5) ß
def VI:aN:=eg 5 dd1 6 (Qg aV Ń cR2)^eg 7 (aA7 o6 fY^FG Û Ń 0) 8 (aA7 o6 fY^nB ß Ń)^bg1 Ă^ZL^EW Å (FG Û ě 1) (FG Û ě 2) ck Ts
def QcY:aN:=bl3 cR2 4 VI
def xP:bP:=Zf 9^bO4 3 al1 QcY Ă
def V7:aN:=eg 2 (Qg Fe (rh Û)^Qg YG Å Û) 3 (Qg X8 Å Û)^ϗ (hW (Pd eE Ă)^nB (bO ß ZE cY9)^JH^á (dr3 Û) bB6)^aA7 (Ò fu Ă 0) (bQ0 ß Ă) ß
def qq:bP:=Zf 4 V7
def GG:aD:=iS (cQ^N2 Å ě cL3) [] Xr mM
def q8:aN:=eg 6 (nB ě Ń) 7 GG^Qq (BX 3^PV (ù ck 0) (ð Kw^cB8 ck)^Dh^á (nB Û ě)^nB Û o6)^QR 4 o6
def GK:aN:=aA8 (cQ^W0 qq at5 ß) 5 q8
def qp:bP:=LF 8 (BZ 3) (QR 4 bG)^Qq GK^pL 3^QG Ă
def xO:aD:=iS (cQ ě) [] Xr au9
def GH:aD:=iS (cQ ě) [] Xr mM
def ze:aN:=eg 4 (pQ Å (Zi Ă)^Zi^nB Ă Û) 5 (ð Kw GH)^BX 2^PV bE9 Ń^ð Kw xO
def xS:aN:=aA8 (cM^E_^Ħ bG at5 Û) 3 ze
def jK:bP:=LF 6 (LT (JM^zV Å)^QG^rh^PV fY (ZL Qk)^ZL Qk) (BZ 2)^Qq xS^pL 2^QG ß
def VJ:aN:=þ (Ep 2 V5 bn) (QR 3^Qy 3 qp^Ħ Ă (Qg zi aO1 cR3)^aD9 Û)^bg0 Xm ě^Qy 3 xP^Ħ ß Ă aO1
def Vy:aN:=Xh (eB^Pd fu cR3) VJ Ĺ
def jl:bP:=ar5 5 2 bG 3 (W0 jK Å Û)^bO4 4 (Qy 3 xP^Ħ ß Ă bG) Vy^W0 Vu ě Û
def Y6:aD:=iS (cQ am3) [] Xr^au0 Å
def JC:bP:=No 1^KC (Qg aV (cd0 ap1)^cr cd1)^ð GQ Y6
abbrev zG:Stmt:=χ 66 4
def Z8:bP:=LF 1 (cT3 (cW7 ck8 JC) xJ) (oB Ę ı^bQ9 jl (om JR FM) an0 Jt FM)^ϗ (Zy^υ û aP6 2 Xg ON FM)^bQ8 O0 YL FM
def Yl:Þ->Hs->bB2:=B_ 1^Eh (gp^cW7 ck8 JC) (Hc bt5) Td
def za:aN:=Qq (QR 8^ϖ ě ck)^LT (iU (i4 nA ck^cr Ń)^iU (i4 Gd Ts Ă)^i4 cW (ϖ Ă Ts)^ϖ Ń ck)^bg1 o6^bR9 "kid" Å ck
def GL:aN:=bl3 aO1 7 za
def qr:bP:=ar5 9 4 dc6 5 (nB cg4^LX 1)^bO4 6 al1 GL o6
def qQ:bP:=No 1^aA7 (Ò aV mM 0) (cr au9)^aD9^cr au9
def qM:aD:=bp0 (lK ß) [3] Xr^Qg bV Å Û
def qN:aD:=bp0 (lK ß) [1] Xr^Qg d7 Û Å
def xN:aD:=bp0 (gb ß^cB8 ß) [] Xr^Qg bV mM au9
def jJ:bP:=ar5 4 2 au9 3 (Ş 3)^þ (cT3 (ð GQ xN) AD) (cy4 (cT4 Û) (gp^ð GQ qN) AD)^ϗ (cy4 (cT4 Ă) (gp^ð GQ qM) AD)^tV (au0 Û)^tV (au0 Ă)^Qg bV Û Ă
def XN:bP:=Zf 6^Œ 5 al1 (dd7 cW aK1 ß^bg1 Ń^cg2 bm9 Å)^þ (cT3 (W0 jJ Û Ă)^bg1 Ń^cg2 "order" Å) (dd7 cW (cr dc6) (om qQ Û)^bg1 Ń^cg2 "parts" Å)^ϗ (LT (iU (i4 cW (au0^LX 3)^au0^LX 4)^i4 cW (LX 4) ě)^bg1 Ń^cg2 "links" Å) Ń
def Vr:aN:=Qq (N3 Ă ß ě)^QR 3^FG Å ě 3
def Vn:aN:=aA8 (cQ Û) 4 Vr
def zn:bP:=ar5 5 2 zU 3 fY^ϗ Vn ß
def XY:aN:=eg 8 (ϖ Û ck) 9 (cw0 Ts)^Œ 10 (cU (i4 bV dd2 cR2) (ϖ Û dd2) fY) (bg0 Xm o6^Qy 5 XN^EW Ts Fs ß (ϖ ě Ts) by6)^bo4 (Ò fu ß 0)^bg0 Xm o6^Qy 4 qr^d5 Ts Fs (ϖ ě Ts) Ń
def K4:aN:=bl3 cR2 7 XY
def zM:bP:=ar5 11 4 (W0 zn Å Û) 5 (W0 zn Å Ă)^bO4 6 al1 K4 o6
def xa:aN:=eg 5 (Qg zi (dr3 ce0) ě) 6 (aA7 (Ò fu Ń 0) (ϖ ß dd1) aG8)^bg0 Xm Ă^Qy 4 zM^d5 Û (ϖ ß ě) Ń o6
def QcX:aN:=bl3 ce0 4 xa
def GJ:bP:=ar5 7 1 (bQ8 cN1 XT Å) 2 (bQ9 JQ Û aP5 Jl Å)^bO4 3 al1 QcX Ă
def X2:bP:=No 1^Qg aV (cS0 GJ) aG8
def K0:aD:=iS (lE Å) [] Xr^Qg jm (Ķ jm cS4 ":") cf5
def zN:bP:=cr4 1 (LT (JM^zV Å)^QG ad6)^bC5 js cc8 K0
def Jg:bP:=LF 1 (hW (au0 Å) ad6) (hW (Hz Å)^cS0 zN)^QG^Fc Å
def XM:bP:=LF 1 (cT3 cd5^QG fY) (EC (cu6 0) Š^ð Ez cv7)^QG cd6
def X0:aD:=iS (cQ^cd0 bL5) [] Xr^ak9 mM^bQ7 é gw XM au9
def JX:bP:=No 1 X0
def JF:bP:=cr4 2 (dd7 nA Û (AX K2) xJ)^Ζ ie Yp (ð Fz^cW7 bc6 JX) Û
def Xa:bP:=LF 3 (Ta ı Û) (Ta E2 ß)^þ (Ta "aim" aK0) (Ta cM1 bG)^þ (Ta m9 fY) (Ta dk1 zU)^þ (Ta E4 fY) (Ta IZ fY)^Qq (Ta ad3 al1)^Ta Ϙ nN
def J7:bP:=Zf 3^Œ 2 (cd0 ap1) (N3 (ak9 ß^Yo é 3 Xa^á (cd0 ı)^ϖ cd1 ß) am3 Û)^ϗ (KL û ap1 V5 Å bn)^bR9 bL6 Û ß
def YW:bP:=No 1 cd5
def JT:aD:=Zd true (cM^gb aK0^wm 2) [3,4] (eB^Jk d7 bV Û mM ß) Å
def Yk:bP:=ar5 6 3 (cu6 1) 4 (cu6 2)^Œ 5 JT (bg0 Xm cv7 Ń)^Qq (LT (iU (eB^au0^wm 3)^i4 nA (wm 3) ě)^ϗ (Ta Ϙ pE)^ZL^EW cQ3 Û (ð Kw Ń) fY fY)^cc6 (Ta "aim"^wm 3) (Ta m9^wm 4)^ZL^EW cQ3 Û (ð Kw Ń) at2 si
def jL:bP:=No 3^ZL^EW cg6 Û ß (aD3 3)^aD3 4
def Vc:aD:=bp0 (lK Å) [1] (i4 d7 Å Û) Å
def Z9:bP:=No 2^cr Vc
def KY:aD:=bp0 (lK Å) [1] (i4 bV Å Û) Å
def YN:bP:=No 2^cr KY
def jN:bP:=ar5 8 4 cg5 5 cU5^eg 6 (W0 YN ě Û) 7 (W0 Z9 ě Û)^QG^Qy 3 jL^Ħ Å (nB (nB (bO ě ZE cL3) ß)^bR6 ě ck)^nB (nB (bO Ń ZE cL3) Ă)^bR6 Ń ck
def US:bP:=No 2^Qy 4 jN^d5 Å Û (ZL Qk)^ZL Qk
def X6:bP:=ar5 4 2 cg5 3 (cT7 YN Û)^ϗ (cR6 eE Ă (cT7 Z9 Û) fY)^Qg bH cU5 Ă
def qO:bP:=LF 3 (Ta IZ de7) (bo4 (cT4 cd6)^Zy^bJ7 è bL3 3 Xe LZ Û^cT8 US)^ϗ (Ta Ϙ pE)^bR9 ed Û cd6
def VX:bP:=ar5 10 2 cg6 3 cg5^eg 4 cU5 5 (Ò YG (ð Ut Ă) 2)^eg 6 (Qg bH Ă Ń) 7 (aA7 (Ò eE ß 0) Ń^aD9 Ń)^eg 8 (ZL^EW ß (bO Ă ZE^Zi Ń) (bO ě ZE^Zi ck) o6 Û) 9 (ZL^EW ß (bR6 Ă ck) (bR6 ě ck) (aD3 3)^aD3 4)^QG^PV Ts Fs o6
def qE:bP:=No 2^Qg fu (ð Ut cg5) Û
def YM:bP:=LF 4 (cT3 (bQ9 qE ß an0 Jt LZ)^cc6 (Zy^bJ7 è bL3 3 Xe LZ Û ß) (Ta Ϙ pE) fY) (QR 3^bQ9 VX ß O0 YL LZ)^þ (Ta E4^υ è "lay" 2 Xs LZ^ù Ă 1) (Zy^bJ7 è bL3 3 Xe LZ Û^ù Ă 0)^þ (Ta "aim"^ù Ă 2) (Ta cM1^aD9 aq2)^ϗ (Ta m9^Ζ ie Yp aC3 Iy)^ŵ E4
def xQ:bP:=No 3^Qy 4 jN^d5 Å Û dc9 cg4
def Y7:bP:=LF 4 (Ta IZ de7) (QR 3^bJ7 é cs4 3 YM Å Û^Qy 3 xQ^Ħ ß si^cu6 2)^QG^ZL^d5 (Ċ dQ) Û cd6 Ă
def Yj:bP:=LF 3 (Ta IZ de7) (Ta Ϙ pE)^QG^bR9 d6 Û cd6
def qP:bP:=Zf 4^Œ 3 (cu6 0) (bR5 iW^bJ7 é bt1 3 Yj Å Û ß)^cc6 (bR5 dQ^bJ7 é ck6 3 Y7 Å Û ß) (bR5 ed^bJ7 é cM3 3 qO Å Û ß)^bJ7 é bt2 3 Yk Å Û ß
def jM:bP:=ar5 7 3 cg5 4 cU5^eg 5 (W0 Z9 Ă Û) 6 (aD9 Ń)^QG^Qy 3 jL^Ħ Å (nB (nB (bO Ă ZE^Zi Ń) dc9)^bR6 Ă Ń)^nB (nB (bO ě ZE cL3) cg4)^bR6 ě o6
def Yx:bP:=cr4 4 (QR 3^bJ7 é cs4 3 YM Å Û^Qy 3 jM^Ħ ß si^ŵ E4)^bR9 CH Û Ă
def Xz:bP:=cr4 4 (Ta m9 Ă)^PV Û ß Ă
def jk:bP:=No 2^Qg bH cU5^W0 Z9 cg5 Û
def ji:bP:=cr4 3 (QR 2^aD3 3)^KC (cT4 ß)^Qg nA Û ß
def J6:bP:=LF 4 (Zy^υ è OF 2 Z2 Å ß) (QR 3^aD9^FG au1 (Ē è bA1) 0)^ϗ (oB è bA1^υ è "lay" 2 Xs Å^ZL^EW Ă dc9 (ak9 (Ē è bA1) ß) fY fY)^Ē è bA1
def Ju:bP:=cr4 2 (Ta Ϙ pE)^bR9 TB Û^bJ7 è bt6 3 J6 LZ si^ŵ E4
def Yi:bP:=LF 2 (Zy^υ è OF 2 Z2 Å Û) (KL è ac3 V5 Å bn)^QG^ϖ au1 Û
def zj:bP:=LF 3 (hW cd5 fY) (QR 1^aA7 aE2 (bQ8 aP5 Jl LZ) at2)^Œ 2 (υ è iX 2 Yi LZ Û) (cy4 aE2 (i4 bV aq2 Iy)^QG^υ é aa8 2 Ju Å Û)^þ (hW (cT8 ji)^QO é bK3 4 Xz Å^Ħ (Ċ bs9) Û^wm 4) (dd7 fu aq2 Iy^ϗ (N3 Û aC3 aq2)^QO é bK3 4 Xz Å^Ħ (Ċ bt0) Û^cT8 jk)^ϗ (hW (Ò fu Iy 0)^bJ7 é bK4 3 Yx Å Û ß)^bJ7 é cM2 3 qP Å Û ß
def X1:bP:=ar5 5 2 (ϖ am3 Û) 3 aK0^bO4 4 (bQ7 é cM4 zj Ă) (bo4 (bQ7 é "over" YW Ă)^Qq (N3 fY am3 Û)^bg1 (cd0 bL5) ß)^nB (PV (ù ě 0) Û aq2)^cB8 ě
def Jm:bP:=Zf 2^Qq (cT3 (Jk d7 bV bG Û db5) xJ)^cc6 (hW (cT4^ϖ am3 Û)^υ û bL7 2 X1 Å Û) (cR6 bV (cd0 ap1) (cr cd1)^υ û bL8 2 J7 Å Û)^cg2 F7 Û
def Us:aN:=Qq (bg1 Û^υ û ww 2 Jm Å ß)^QR 2^Qg X8 cg7 db5
def VY:aN:=Xh (gp^cW6 ck8 JC Å) Us Ĺ
def XU:bP:=ar5 3 1 al1 2 bG^ϗ VY Û
def Yy:bP:=No 1^V_ [(iW, 1),(dQ, 2),(ed, 1),(Š, 2)] cg6
def JY:bP:=cr4 2 (bg1 cd1 Û)^dr3^cr cd1
def Xy:bP:=Zf 3^bO4 2 (υ û bL9 2 JY ON Û) (oB Ę K2 cg7) ß
def KZ:aD:=bp0 (rJ ß) [] Xr^Ķ rH Å EK
def YQ:bP:=Zf 3^Œ 2 (aA7 (bC5 zA Å ad6) (FQ Å (Zi bn) ZE) Å) (LT (iU (gp^Jk bV d7 bG (ð u_ ß) Û)^gp^ð GQ KZ) xJ)^ϗ (cy4 (bC5 zA ß^Ċ "0") (eB^Ķ DN Å "0") xJ)^ð vz Å
def qt:bP:=Zf 2^bO4 1 (W0 YQ Å^ġ 3) (bo4 (bn7 bV 0) xJ) Û
def YB:bP:=Zf 2^bO4 1 (W0 YQ Å^ġ 31) (dd7 fu (ð Fj Û) cb7 xJ) Û
def uO:aD:=bp0 (CQ Û) [] Xr^cS0 YB
def Yb:bP:=Zf 3^bO4 2 (nB (aw6 Å)^ð tO uO) (cy4 (Ķ eE Å Š) (i4 nA (Pd bH ß)^Ò bH ß 2) xJ) ß
def VW:aD:=bp0 (CQ Ă) [] Xr^cS0 qt
def Zu:bP:=ar5 4 1 (bC5 jb Å Ql) 2 (bn7 bH 0)^Œ 3 (cB8 Û) (cR6 eE (G8 [(iW, 1),(dQ, 2),(ed, 1),(Š, 2)] ß) (ð Ut Ă)^cT7 Yb Ă)^Qq (cR6 eE (G8 [(ww, 1),(TD, 0),(gw, 1),(fF, 0),(K3, 0),(cN2, 0)] ß) (ð Ut Ă)^nB cg4^ð tO VW) xJ
abbrev v8:Stmt:=χ 66 1
def jH:aD:=iS (lE^υ û ww 2 Jm ON aK0) [] Xr^cS0 Jg
def kT:aD:=iS (lE^υ û ww 2 Jm ON aK0) [] Xr^cS0 Jg
def QV:bP:=ar5 4 2 (om Zu Û) 3 aq2^þ (hW (om Yy ß)^Fc^υ Ę aT3 2 Xy Å ß) (bR5 ww^bC5 js Ql jH)^þ (bR5 TD^Fc^cr^cW7 TD XU) (bR5 gw^om Jg^υ Ę ai2 2 JF Å aK0)^cc6 (bR5 fF^om Jg^om JR FM) (bR5 K3^aA7 (om X2 FM) be4 cu7)^Fc^bQ7 Ę Lb Z8 Å
def YD:Þ->Hs->bB2:=B_ 4^vf (QR 2^om Zu Û)^vf (QR 3 aq2)^vf (hW (om Yy ß)^Fc^υ Ę aT3 2 Xy Å ß)^vf (bR5 ww^bC5 js Ql kT)^vf (bR5 TD^Fc^cr^cW7 TD XU)^vf (bR5 gw^om Jg^υ Ę ai2 2 JF Å aK0)^vf (bR5 fF^om Jg^om JR FM)^vf (bR5 K3^aA7 (om X2 FM) be4 cu7)^Vo Ę Lb 1 Yl Å Qk
def kU:aD:=iS (lE Å) [] Xr^Qg jm (Ķ jm cS4 ":") cf5
def ZY:bP:=LF 1 (hW (au0 Å) ad6) (hW (HB ba6 Å)^Fc Å)^ϗ (hW (Ò aV at5 0) ad6)^bC5 js cc8 kU
def qo:aD:=iS (cQ^ð KR ß) [4,5,2] (eB^Jk d7 bV Û Å ß)^ak9 Å^ϖ Ă Å
def X4:bP:=ar5 6 4 (Zo ie Yp Ă^á IJ^LX 1) 5 dc6^ϗ (bo4 (Ķ cW bV5 "-")^þ (cT3 (Jk bV bV ě (ð vz bV5) Ń) AD) (QR 5^ð vz bV5)^N3 Ń Ă IJ)^Qg aV TZ^om ZY qo
def YY:bP:=LF 1 (EC mM dQ^ly (Ş 5) "-") (EC mM CH^ly TZ "-")^ϗ (EC mM iX^ly bV5 "-")^Qg pG mM^bR9 d6 (Ċ ed)^Ċ TB
def X3:bP:=LF 6 (bo4 (cS0 YY)^N3 (bQ0 (Ķ aB ě Ϙ) IJ) ě^Ċ Ϙ) (cR6 Gd mM (ZL^d5 (Ċ d6) (Ċ dQ) (Ċ ed) cQ3) pE)^Œ 5 (ϖ Û^ð vz IJ) (bo4 (ly mM iX)^ϗ (bo4 (Ķ cW TZ "-")^N3 (bQ0 (Zo ie Yp ě^á IJ aG8) TZ) ě IJ)^KC (ly bE9 Š)^Qy 4 X4^d5 Å Ń ß Ă)^þ (LT (iU (i4 cW bE9^Di d6 iW Å)^i4 cW TZ^om ZY^Ζ ie Yp ß be3) AD) (N3 (rh TZ) ě IJ)^cc6 (bo4 (ly mM dQ)^N3 (be2 2) ß be3) (cy4 (ly mM ed) (i4 pG be3 ß)^tP ie Dl ß be3) pE
def zd:aN:=eg 9 (bC5 jb (bQ6^Qg jm bi2^Fc Ts) Ql) 7 (nB ck^ð EY^ly (ù Fs 0) F7)^LT (bf7 5 X3^EW Fs ß Ă ě Ń) AD
def xR:aN:=bl3 Û 8 zd
def yp:aN:=Œ 7 bG xR^cR6 aV ck Û pE
def GM:aN:=bl3 (ġ 2000) 6 yp
def XA:bP:=cr4 10 GM nN
def zL:aD:=iS (cQ^ð KR Û) [1] Xr^ak9 Å^ϖ Û Å
def Ya:bP:=Zf 5^Œ 3 pE (rA (Zy ci1)^FZ (Vo Ę "say" 2 YD Å^Ç NR) bt5 3 false)^cc6 (cR6 cW Ă ß nN) (QR 4^om ZY zL)^tV (Hx Ă)^KC (Qg aV (bQ6^Ċ fF) ě)^ly (bQ6^Ċ K3) "yes"
def jI:aD:=bp0 (lK^cB8 Å) [] Xr^Fc Å
def X5:bP:=No 1^bC5 js Ql^nB (rh cg6) jI
def QfV:aN:=Œ 1 (wC YG 6) (hW (Ò eE (wC X8 6) 0)^Qg zi (Qg X8 (Qg Fg Û^cb5 (ġ 1000000007) 3)^aD9^Qg su bB6 cb7) cb7)^ϗ (hW (Pd eE^wC X8 6)^Qg bH (JH^d5 cb7 cb8 (dr3 cb7)^Qg zi bn cb7)^bn7 X8 4)^Ò zi (bn7 X8 17) 5
def YA:bP:=Zf 2 QfV
def Qc6:aN:=eg 1 (wC X8 9) 2 (om YA^wC YG 9)^Qq (hW (bn7 eE 0)^cg2 iW ß)^þ (hW (bn7 bV 5)^bR9 dQ ß^om YA^wC YG 37) (hW (bn7 bV 7)^cg2 ed ß)^Œ 3 (om YA^wC YG 131) (dd7 eE Ă ß^QR 3^dr3 ß)^ϗ (dd7 bV Ă cb8^QR 3 cg7)^bR9 Š (QN Ew^á ß Ă)^QN Ey^á ß Ă
def Yz:bP:=Zf 4 Qc6
def Vm:aD:=Zd true (bl2^wC X8 24) [1] Xr^bR9 dQ (Ò zi (Ò X8 (Qg su Å Û) 47) 9)^nB (ġ 100) Å
def zo:bP:=cr4 2 (QR 1^ϖ (JH^EW (ġ 7) (ġ 11) (ġ 23) bn^ġ 46)^Ò X8 (wC YG 24) 5) Vm
def Jo:bP:=LF 3 (oB û ı Û) (oB û K1 al1)^þ (oB û ap1 bG) (oB û "held"^Qg CG (rh fY) ß)^oB û bL5 al1
def J9:bP:=LF 3 (oB Ę ı^Yo è 2 JG dm5) (oB Ę md^Yo û 3 Jo^á FM ß)^oB Ę K2 bG
def uP:aN:=ϗ (cR6 bV Û (ð Ut Å)^Qg bH Å Û) bG
def YO:bP:=Zf 2 uP
abbrev KM:Stmt:=top 79
def Sb:aD:=iS (cQ^ð KR Ń) [5] Xr^ak9 Å^ϖ Û Å
def Ro:aN:=Qq (QR 12^bC5 js cc8^Zo ie Yp ck^á cy2^rh ad6)^cR6 cW (bT5^Qg jm (Ċ cN3) cy2) (Qb 12) nN
def RY:aN:=bl3 aO1 10 Ro
def Rn:aN:=þ (cy4 (Ò aV (Ò X8 (Ò YG cw1 5) 16) 3) (bf7 3 Ya^Ħ Ă Ń^Qg aV (cr^Ķ aB ck Ϙ) aO1) AD) (bo4 (Ò bV Fs 20)^Qq (bg1 ě^om Yz cw1)^Zy^bT5^om X5^ϖ ě ar6)^Qq (QR 11^bC5 jb (bT5^Qg jm bi2^Fc^Qg X8 (Ò YG cw1 3) ß) Ql)^LT (bf7 5 X3^EW (Qb 11) ě Ń o6 ck) AD
def RU:aN:=bl3 at5 9 Rn
def SZ:aN:=Zy^bT5^om X5 Ts
def RR:aN:=aA8 (cQ ě) 8 SZ
def Qro:aN:=eg 1 (W0 YO Å bG) 2 (nB bn^bn7 X8 8)^eg 3 (Yo Ę 3 J9^á (nB bB6^Ò X8 (bn7 YG 8) 4) ß) 4 (om zo^bn7 YG 32)^eg 5 zU 6 zU^Œ 7 (N7 [(Ċ Ϙ,aG8)]) RR^þ (cy4 (Ò aV (Ò X8 (bn7 YG 768) 2) 0) (bf7 6 XA^Qc Ă^EW ß ě Ń o6 ck) AD) RU^cc6 (LT (iU (bf7 6 XA^Qc Ă^EW ß ě Ń o6 ck)^bf7 3 Ya^Ħ Ă Ń pE) AD) RY^Qg aV (bT5^Ċ fF)^om ZY Sb
def Dd:bP:=Zf 13 Qro
structure Al(K:Aa)(mg:Eg):ä where
 z0:aj0 "len"
 z1:aj0 Đ
 z2:aj0 wS
 z3:aj0 bp
 z4:aj0 ŉ
 z5:aj0 "all"
 z6:aj0 pS
 z7:aj0 EI
 z8:aj0 ie
 z9:aj0 ba6
 eX:aj0 "abs"
 fG:aj0 ct0
 iK:aj0 "max"
 z13:aj0 "min"
 g0:UG mg "PARTS" 2
 g1:UG mg "SIDE" 4
 g2:UG mg "LEVEL" 0
 g3:UG mg "KEYS" 1
 g4:UG mg "HIGH" 3
 t0:UT K mg "EMPTY_LEAF"^õ [cF3,cc1,cc1,Ě,Ě]
 d0:GN K mg "DEED_WORDS" [(iW, 1),(dQ, 2),(ed, 1),(Š, 2)]
 d1:GN K mg "OTHER_WORDS" [(ww, 1),(TD, 0),(gw, 1),(fF, 0),(K3, 0),(cN2, 0)]
 k0:YC K è "kept"
 k1:YC K û ı
 k2:YC K è ab1
 k3:YC K è bA1
 k4:YC K è LU
 k5:YC K è ac3
 k6:YC K û ap1
 k7:YC K û K1
 k8:YC K û "held"
 k9:YC K Ę ı
 k10:YC K Ę md
 k11:YC K é IZ
 k12:YC K é E2
 k13:YC K é ad3
 k14:YC K é Ϙ
 Lz:YC K û bL5
 Ly:YC K Ę K2
 wY:YC K é E4
 Lx:YC K é dk1
 pF:YC K é m9
 sV:YC K é cM1
 lJ:YC K é "aim"
 nu:YC K é ı
 u0:kb K è O0 "Shelf.pages" 39 8
 u1:kb K û aP6 "Weaver.change_shelf" 64 7
 u2:kb K è an0 "Shelf.room" 39 7
 u3:kb K è aP5 "Shelf.root" 39 4
 u4:E6 "first_kid" 30
 u5:E6 "side_run" 29
 u6:E6 "level_lists" 28
 u7:kb K è cN1 "Shelf.picture" 39 11
 u8:E6 "table_of" 27
 u9:kb K è OF "Shelf.check_number" 39 12
 u10:kb K è bL4 "Shelf.make_root" 39 5
 u11:kb K è "lay" "Shelf.lay" 39 3
 u12:kb K è bL3 "Shelf.write" 39 2
 u13:UI K mg è "Shelf.__init__"^χ 39 0
 u14:E6 "shelf_of" 46
 u15:E6 "linked" 45
 u16:E6 "kid_counts" 44
 u17:E6 "fork_fills" 43
 u18:E6 "leaf_fills" 42
 u19:E6 "packed" 41
 u20:kb K û ck8 "Weaver.idle" 64 8
 RK:UM K Ę Lb "Desk.pack_table" zG
 u22:E6 "kid_faults" 36
 u23:E6 "wanted_parts" 35
 u24:E6 "is_ordered" 34
 u25:E6 "page_faults" 33
 u26:E6 "begins_of" 31
 u27:E6 "list_faults" 32
 u28:E6 "faults" 25
 u29:E6 "is_sound" 26
 u30:E6 "shown_pairs" 57
 u31:E6 "shown" 56
 u32:kb K é gw "Walk.answer" 62 2
 u33:kb K û bc6 "Weaver.answers" 64 6
 u34:kb K Ę ai2 "Desk.answer_of" 66 3
 u35:UI K mg é "Walk.__init__"^χ 62 0
 u36:kb K û bL8 "Weaver.take_deed" 64 3
 u37:kb K é "over" "Walk.over" 62 1
 u38:kb K é bt2 "Walk.read_pairs" 62 9
 u39:E6 "refilled" 21
 u40:E6 "count_not_above" 23
 u41:E6 "count_below" 22
 u42:E6 "with_run" 20
 u43:E6 "without" 18
 u44:E6 "worth_of" 16
 u45:kb K é cM3 "Walk.cut_key" 62 8
 u46:E6 "parted" 60
 u47:E6 "is_full" 59
 u48:kb K é cs4 "Walk.settle" 62 12
 u49:E6 "with_pair" 17
 u50:kb K é ck6 "Walk.put_pair" 62 7
 u51:kb K é bt1 "Walk.find_worth" 62 6
 u52:kb K é cM2 "Walk.do_deed" 62 5
 u53:E6 "with_kid" 19
 u54:kb K é bK4 "Walk.tell_fork" 62 10
 u55:kb K é bK3 "Walk.go_on" 62 4
 u56:E6 "kid_for" 15
 u57:E6 "beyond" 14
 u58:kb K è bt6 "Shelf.raise_root" 39 6
 u59:kb K é aa8 "Walk.raise_root_over" 62 11
 u60:kb K è iX "Shelf.read" 39 1
 u61:kb K é cM4 "Walk.step" 62 3
 u62:kb K û bL7 "Weaver.step_walk" 64 4
 u63:kb K û ww "Weaver.move" 64 2
 u64:kb K û TD "Weaver.finish" 64 5
 u65:E6 "is_deed" 51
 u66:kb K û bL9 "Weaver.hand_in" 64 1
 u67:kb K Ę aT3 "Desk.note_deed" 66 2
 u68:E6 "read_number" 55
 u69:E6 "read_short" 54
 u70:E6 "read_key" 53
 u71:E6 "read_deed" 52
 u72:E6 "read_row" 50
 RJ:UM K Ę "say" "Desk.say" v8
 u74:E6 "_law_word" 73
 u75:E6 "_law_read" 74
 u76:E6 "_law_ended" 75
 u77:E6 "_law_fits" 76
 u78:E6 "_law_rested" 77
 u79:E6 "_law_packs" 78
 u80:E6 "_law_said" 72
 u81:E6 "_law_key" 69
 u82:E6 "_law_deed" 70
 u83:E6 "_law_ahead" 71
 u84:UI K mg û "Weaver.__init__"^χ 64 0
 u85:UI K mg Ę "Desk.__init__"^χ 66 0
 u86:E6 "_law_cell_at" 68
 x0:UX K mg bt5
 y0:UW K mg bt5 bt5
def VR:JO [dO] [dO]^Q0 zG:=kF
def cN:JO [dO, "row", CH, "word"] [dO, "row"]^Q0 v8:=kF
def mD:JO [ax4, "cell", "hands", "desk", K1, fF, "aims", CH, E2, "k", da, ct3, "due"] [ax4]^Q0 KM:=kF
variable{P:Program}{w:World}{K:Aa}{mg:Eg}{O8:Heap}(Z:Al K mg)
include Z
def xA:Pp P w K è O0 1 1 YL:=g8 [dO] 1 Z.u0 a^ô dt8
def jq:Pp P w K û aP6 1 2 Xg:=g8 [dO, ı] 2 Z.u1 a^Qn^nE Z.k1 Ŀ
def yf:Pp P w K è an0 1 1 Jt:=g8 [dO] 1 Z.u2 a^ô^Ś Z.k2
def qZ:Pp P w K è aP5 1 1 Jl:=g8 [dO] 1 Z.u3 a^ô cv3
def uV:Nd "first_kid" 1 2 YX:=LI [O0, bM0] 2 Z.u4^ff (eh (bc7 (Jw^HY Ŀ)^VA^Jw^HY^dq0^Ţ Ì^ς Ŀ) ZM)^ς^dq0^Ţ Ì^ς Ŀ
def QaD:Nd "side_run" 1 3 Vv:=LI [O0, "leftmost", "listed", bM0, da] 3 Z.u5^kw 3 s al5 4 s Ŀ^ff (bh8 Ĺ (ap2 (ε kz dw ZM)^zR (qV oX jf Qp dw cf1)^qw^QS (Oz FA) dw ŕ Ð)^ć (cW2 Xc ŕ dw) (bC0 Θ db0)^Qn^Qx 4 s^hL (Ţ Ì dw) Z.g1) Θ
def xD:Nd "level_lists" 2 2 JQ:=LI [O0, aP5, "lists", "listed", "leftmost", bM0] 2 Z.u6^kw 2 s al5 3 s xZ^Ū 4 s Ŀ (bh8 Ĺ (ε oX (wa nK)^bP4^Ţ Ì Ŀ)^Ū 5 s (dd5 (QaD Z)^Ó 4 TU) (bC0 ŕ bB9)^Qn^Qx 4 s^dd5 (uV Z) bB9)^ô ŕ
def zx:Pp P w K è cN1 1 1 XT:=g8 [dO] 1 Z.u7 a^ô^JJ M0 Z.z1 boot_list^oh Z.k0
def jY:Nd "table_of" 3 1 JR:=LI [ı, O0, fF, da] 1 Z.u8^Qf (Qx 1 s^cN6 (zx Z) Ì)^Ū 2 s al5 (bo6 Y (Xl^Ţ (iH (xD Z) 1^cN7 (qZ Z) Ì)^GX Qp) 3 s^Qn^Zr^sD jt ŕ^ü^QlV Z.z1 Z.z2 Y (dq1^Ţ Ŀ Θ)^dq0^Ţ Ŀ Θ)^ô ŕ
def Jz:Pp P w K è OF 1 2 Z2:=g8 [dO, da] 2 Z.u9 a^Qn^aW1 (Jw^qV oX jf Qp Ŀ dt8) YR
def Vg:Pp P w K è bL4 2 2 Yh:=g8 [dO, da] 2 Z.u10 a^aT4 (Zr^Sd (Jz Z) eI)^nE Z.k3 Ŀ
def zX:Pp P w K è "lay" 1 2 Xs:=g8 [dO, Mx] 2 Z.u11 a^ay3 (yJ Z.k4 Ì Qp) (bC0 cv2 eI)^fm jw dt8
def XX:Pp P w K è bL3 2 3 Xe:=g8 [dO, da, Mx] 3 Z.u12 a^ć (Zr^Sd (Jz Z) eI) (yJ Z.k4 Ì Qp)^Qn^cW2 ŕ cv2 Ŀ
def qY:sG P w K mg O8 è 1 2 JG:=hI [dO, an0] 2 Z.u13<|Ø e<|let #[_,c,a]:=Z.t0.ex;cn1 Z.k2 Ŀ Z.k0 (XB^ü^QlQ Y c a) (cn1 Z.k3 Qp Z.k5 Qp^Qn^nE Z.k4 Qp)
def QaC:Nd "shelf_of" 3 2 Vu:=LI [O0, an0, ı, Mx] 2 Z.u14^Ū 2 s (Ua (qY Z) a Á Qz eI) (dl0 (XX Z) ŕ^aS Qp Ϫ)^ay3 (bo6 Y (Xl^MW Ì (Z5 Qp) Jp) 3 s^Qn^dl0 (zX Z) ŕ TU) (dl0 (Vg Z) ŕ^ü^fm jw cf1) ŕ
def vt:Nd "linked" 1 3 xP:=LI [bm9, "fills", "first", O0, m9, "behind", "is_last", ck9, bs9] 3 Z.u15^Ū 3 s al5 (bo6 Y (ca5 Y^wa eI) 4 s^kw 5 s (cw4 dw) 6 s (br2 nC^wa eI)^kw 7 s (xY (JD au6) ZM^ς^Ţ Ŀ nC) 8 s (xY (JD au6) ZM^ax5 ŕ nC)^Qn^bH2 Θ^sA Ì^Qd (ς^Ţ Ŀ dw)^Qd (ς^Ţ Ŀ dw)^Ó 7^Ľ 8)^ô Θ
def vo:Nd "kid_counts" 1 2 qq:=LI ["kids", "most", "counts", F7] 2 Z.u16^kw 2 s (QC Qqb (XI eI)^QC xH Ì Ŀ) 3 s (QC qm Ì Ŀ)^ff (ew CM Θ Qp^ax5 (Ym ŕ Jp^Z5^GX Qp)^XI^aS (fm jw Ŀ) Qp)^xY (ε pO Θ Qp) (ax5 ŕ^XI TU) ŕ
def vm:Nd "fork_fills" 2 3 qp:=LI ["kids", "first", "most", "fills", "start", "count", "stop", "begins"] 3 Z.u17^ć (MU 3 s) (Qx 4 s Qp)^aT4 (bo6 Y (Xl^bf6 (vo Z) cf1 nK) 5 s^Ū 6 s (ax5 dw nC) (QbG 7 s (caps:=[]) (idx:=[]) #[Ð,È,Y,È,Y,Ġ,Ð,Ġ,Á] Y (Xl^aT5 Ì dw cZ3) (aw5 Jx)^aw5 Ϫ)^aT4 (HE 3^sA (ς TH)^aS (cz5 xT^ü^ch1 TH Qp)^QlX Z.z4 Z.z3 Y^aS (ax5 Ŀ dw)^ax5 Ŀ au6)^Qx 4 s au6)^HC 3^Qs Θ
def vq:Nd "leaf_fills" 1 2 jK:=LI [fF, an0, "fills", "start", ad3, aP4] 2 Z.u18^ć (eh (Jw^HY Ì)^XI^ü^sA ZM^aS (Zh Qi)^Zh Qi) (MU 2 s)^aT4 (bo6 Y (XO^Qgd Y Z.z3^Qd Qp^Qd cf1 eI) 3 s^kw 4 s (MW Ì (Z5 Θ)^Z5^ax5 Θ Ŀ) 5 s (cz5 xT^dr9 [] [] #[Ð,È,Y,È,Y,Ġ,Ð,Ġ,Á] Y (Xl dw) Ϫ)^Qn^HE 2^sA bf3^ai6 5^cz5 xT^dr9 [] [] #[Ð,È,Y,È,Y,Ġ,Ð,Ġ,Á] Y (Xl dw) Ϫ)^HC 2^Qs ŕ
def Qdn:Nd "packed" 4 2 jl:=LI [fF, an0, bm9, "fills", O0] 2 Z.u19^kw 2 s Qp 3 s (dd5 (vq Z) eI)^Ū 4 s (iH (vt Z) 2^ai6 3 Qp) (bh8 Ĺ (ε pO (wa TU) Qp)^ć (Qgh 2 s Qp) (Qx 3 s^iH (vm Z) 3^aS (QC jw db1^wa TU)^cw4 Ŀ)^Qn^Zr^sD jt dw^ü^iH (vt Z) 2^ai6 3 db1)^ô^iH (QaC Z) 4 eI
def qd:Pp P w K û ck8 1 1 JC:=g8 [dO] 1 Z.u20 a^ô^Ib (br2 (Ś Z.k6) dt9)^U4^dk9 (C_ Y) Z.z5^dr9 [] [] #[Ð,È,Y,È,Y,Ġ,Ð,Ġ,Á] Y (Xl bC2)^aM2 gk Ì ZM
def Vf:Pp P w K Ę Lb 5 1 Z8:=g8 [dO] 1 Z.RK a^ć (aW1 (Ps^cN6 (qd Z) TW) YR) (nE Z.k9^f7 (Qdn Z)^aS (f7 (jY Z) aV8)^cN6 (yf Z)^Ś Z.k9)^ff (dl0 (jq Z) TW aV8)^cN6 (xA Z)^Ś Z.k9
def ym:Dc P w K mg O8 Ę Lb 5 1 Yl:=SX Z.RK VR^EV a^Ko^Qst (Ps^cN6 (qd Z) TW) (Ko^Qkm Z.x0) QqO
def vp:Nd "kid_faults" 1 4 qr:=LI [da, Mx, dl1, "kid_begins", "kids", "wanted", CH, m9, "kid"] 4 Z.u22^Qf (Qx 4 s^dq0 Ŀ)^kw 5 s (ax5 (Zh nK)^dq1 Ŀ) 6 s al5^ff (bo6 Y (ca5 Y db1) 7 s^aT4 (Qx 8 s^Ţ dw TH)^aW1 (bc7 (ε CJ TH^wa bB9)^KB (QS (Oz FA) (Qa 8) Θ Ð)^VA^ε t7 (dp0 Θ 8)^Ţ nC TH)^bH2 au6^bp7^Qd Ì^Ľ 7) au6
def Kb:Nd "wanted_parts" 1 1 qQ:=cf8 [Mx] 1 Z.u23^xY (ε ħ (bP4 Ì) Qp) (wa^ü^dq1 Ì)^cw4^wa^ü^dq1 Ì
def vn:Nd "is_ordered" 1 2 jJ:=LI [Mx, dl1, aP4, ck9] 2 Z.u24^kw 2 s (dq1 Ì) 3 s (dq2 Ì)^ć (eh (Ps^dk9 (C_ Y) Z.z5^dr9 [] [] #[Ð,È,Y,È,Y,Ġ,Ð,Ġ,Á] Y (XO^Rc ř (en Z.z2) ŕ^ch1 ŕ Qp)^aM2 jf Ϫ Ϫ) Xc) (eh (bW2 (ε kz Ŀ ZM)^Ps^dk9 (C_ Y) Z.z5^dr9 [dl1] [1] #[Ð,È,Y,È,Y,cR4,Ð,cV1 Y ϊ IK,Á] Y (XO^U6 ŕ)^aM2 oX Ŀ Ì) Xc)^ff (eh (bW2 (ε kz Θ ZM)^Ps^dk9 (C_ Y) Z.z5^dr9 [ck9] [3] #[Ð,È,Y,È,Y,cR4,Ð,cV1 Y ϊ IK,Á] Y (XO^U6 ŕ)^aM2 jf Ì Ŀ) Xc)^N6 (aM2 gk Ŀ ZM)^N6 (aM2 gk Θ ZM)^U4^aM2 jf Ŀ Θ
def K9:Nd "page_faults" 2 5 XN:=LI [da, Mx, bm9, dl1, "follower", CH] 5 Z.u25^Ū 5 s al5 (bh2 t7 (bP4 Ŀ) ŕ^bH2 nC^ct5 QJ Ì)^ć (aW1 (Ps^iH (vn Z) 1 TU)^bH2 nC^ct5 QJ Ì) (bh2 t7 (wa^ü^dq0 Ŀ) (f7 (Kb Z) eI)^bH2 nC^ct5 QJ Ì)^ff (aW1 (bc7 (ε t7 (aM2 gk (dq2 Ŀ) ZM)^aM2 gk (hL Ŀ Z.g1) ZM)^VA^ε t7 (hL Ŀ Z.g1) dw)^bH2 nC^ct5 QJ Ì) nC
def Vp:Nd "begins_of" 1 2 zn:=LI [O0, bM0, "begins", dl1, da] 2 Z.u26^kw 2 s xZ 3 s ZM^ff (bo6 Y (Xl Ŀ) 4 s^aT4 (cW2 Θ ŕ dw)^Qx 3 s^dq2^Ţ Ì dw) ŕ
def K8:Nd "list_faults" 3 4 zM:=LI [O0, bM0, bm9, "beneath", "begins", "kid_begins", CH, m9, da, Mx, "follower"] 4 Z.u27^kw 4 s (dd5 (Vp Z) eI) 5 s (dd5 (Vp Z) TU)^Ū 6 s al5 (bo6 Y (ca5 Y^wa eI) 7 s^kw 8 s (Ţ Ŀ TH) 9 s (dp0 Ì 8)^Ū 10 s (xY (ε jf (cw4 TH)^wa eI) (Ţ Ŀ^cw4 TH) ZM) (Zr^sD jt au6^ü^iH (K9 Z) 8^bn8 9 2^Qd (dp0 dw 8)^Ľ 10)^Qn^bh2 pO ŕ Qp^Zr^sD jt au6^ü^iH (vp Z) 8^Ó 9^Qd (dp0 dw 8) bB9)^ô au6
def Qdm:Nd "faults" 4 1 GJ:=LI [ı, O0, "lists", CH, m9, bm9, "beneath"] 1 Z.u28^kw 1 s (cN6 (zx Z) Ì) 2 s (iH (xD Z) 1^cN7 (qZ Z) Ì)^Ū 3 s al5 (bo6 Y (ca5 Y^wa nK) 4 s^kw 5 s (QC jw (fm jw^wa nK) dw) 6 s (xY (ε pO nC Qp) (Ţ ŕ^cw4 dw)^XI Qi)^Qn^Zr^sD jt Θ^ü^iH (K8 Z) 1^Qd (Ţ ŕ dw)^Ó 5^Ľ 6)^ô Θ
def Uj:Nd "is_sound" 5 1 X2:=cf8 [ı] 1 Z.u29^br2 (f7 (Qdm Z) CS)^XI Qi
def Ga:Nd "shown_pairs" 1 1 zN:=LI [ad3] 1 Z.u30^ff (eh (Jw^HY Ì) QJ)^CY Kf QJ^dr9 [] [] #[Ð,È,Y,È,Y,Ġ,Ð,Ġ,Á] Y (HX Ì)^QC VN (QC VN dd0 QJ) dd0
def qJ:Nd "shown" 2 1 Jg:=LI ["part"] 1 Z.u31^ay3 (ew gk Ì ZM QJ) (eh (JD^QlS Z.z7 Z.z1 Z.z4 Ì)^f7 (Ga Z) CS)^az5 CS
def K5:Pp P w K é gw 1 1 XM:=g8 [dO] 1 Z.u32 a^ay3 (eh (Ps do7) ZM) (ce3 cd8^JJ M0 Z.z1 boot_list^oh Z.k13) do8
def VE:Pp P w K û bc6 2 1 JX:=g8 [dO] 1 Z.u33 a^ô^ap8 [] [] #[Ð,È,Y,È,Y,Ġ,Ð,Ġ,Á] Y (Xl^Ś Z.Lz) Jx^ct5 Ϫ^cN6 (K5 Z) Ϫ
def qW:Pp P w K Ę ai2 3 2 JF:=g8 [dO, da] 2 Z.u34 a^ff (bh2 CJ Ŀ (Ś Z.Ly) YR)^EU ca6 (JJ (QlE Y) Z.z8 boot_dict^cN7 (VE Z) TW) eI
def Uh:sG P w K mg O8 é 1 3 Xa:=hI [dO, ı, E2] 3 Z.u35^Ø a^cn1 Z.nu Ŀ Z.k12 ŕ^cn1 Z.lJ aO0 Z.sV Qp^cn1 Z.pF ZM Z.Lx xZ^cn1 Z.wY ZM Z.k11 ZM^aT4 (nE Z.k13 al5) cm3
def yi:Pp P w K û bL8 3 2 J7:=g8 [dO, "hand", da] 2 Z.u36 a^Ū 2 s (Ś Z.k6) (cW2 (Zh^ai6 2^Ua (Uh Z) a Á Qz^aS (Ś Z.k1)^Ţ (Ś Z.k7) ŕ) bC2 Ŀ)^ff (yJ Z.k6 Ì Qp)^cA8 1 nK
def uT:Pp P w K é "over" 1 1 YW:=g8 [dO] 1 Z.u37 a^ô do7
def Vi:Pp P w K é bt2 1 3 Yk:=g8 [dO, da, "leaf", "low", ck9, ad3] 3 Z.u38 a^kw 3 s cd8 4 s cd8^ć (QbG 5 s (caps:=["low", ck9]) (idx:=[3,4]) #[Ð,È,Y,È,Y,en #[Y,bh1],Ð,en #[Y,ϊ,IK,cU8,cV0 Y ϊ IK],Á] Y (XO^Rc ř (en Z.z2) (dq1 ŕ)^dq0 ŕ) (aw5^Gv^qV oX jf Ŀ Ϫ ŕ)^aw5 Ì) (Zr^sD jt (Ś Z.k13) bB9)^ć (Q2 (bc7 (ε gk (dq2 ŕ) ZM)^VA^ε CJ (dq2 ŕ) dw) (ff cm3^cA8 1^Qd (cz5 xT bB9)^aS ZM ZM) QA) (nE Z.lJ^dq2 ŕ)^ff (nE Z.pF^hL ŕ Z.g1)^cA8 1^Qd (cz5 xT bB9)^aS cv5 cv4
def Uo:Nd "refilled" 1 3 jL:=cf8 [Mx, aP4, "parts"] 3 Z.u39^sA (bg3 Z.g2)^bn8 1 2^aS ds9^bg3 Z.g1
def JV:Nd "count_not_above" 1 2 Z9:=cf8 [aP4, bA2] 2 Z.u40^wa^ap9 [bA2] [1] #[Ð,È,Y,È,Y,cR4,Ð,cV1 Y ϊ IK,Á] Y (XO^U6 Ì) (Gv^ε oX Ì Ŀ) Ì
def xC:Nd "count_below" 1 2 YN:=cf8 [aP4, bA2] 2 Z.u41^wa^ap9 [bA2] [1] #[Ð,È,Y,È,Y,cR4,Ð,cV1 Y ϊ IK,Á] Y (XO^U6 Ì) (Gv^ε jf Ì Ŀ) Ì
def Up:Nd "with_run" 2 4 jN:=LI [Mx, bA2, "new_keys", "new_worths", aP4, "worths", "start", "stop"] 4 Z.u42^kw 4 s bg4 5 s bh4^kw 6 s (iH (xC Z) 4 eI) 7 s (iH (JV Z) 4 eI)^ô^dd5 (Uo Z)^aS (ax5 (ax5 (Ym dw Jp cZ3) ŕ)^ch1 dw TH)^ax5 (ax5 (Ym nC Jp cZ3) Θ)^ch1 nC TH
def QbX:Nd "without" 3 2 US:=cf8 [Mx, bA2] 2 Z.u43^dd5 (Up Z)^Ó 1^aS (Zh Qi)^Zh Qi
def jZ:Nd "worth_of" 2 2 X6:=LI [Mx, bA2, aP4, m9] 2 Z.u44^kw 2 s bg4 3 s (iH (xC Z) 2 eI)^ff (ew CM Θ (iH (JV Z) 2 eI) ZM)^JS bh4 Θ
def U9:Pp P w K é cM3 4 3 qO:=g8 [dO, da, "leaf"] 3 Z.u45 a^bN8 Z.k11 (iH (jZ Z) 2 aV9) (bh2 kz do8 ZM^dl0 (XX Z) af5^ai6 1^iH (QbX Z) 2 aV9)^ff cm3^cA8 1^oh Z.k11
def Qdo:Nd "parted" 1 2 VX:=LI [Mx, da, bm9, aP4, "parts", "middle", bA2, ed, "old", "new"] 2 Z.u46^kw 2 s (bg3 Z.g2) 3 s bg4^kw 4 s bh4 5 s (dp8^ϙ gJ TU)^kw 6 s (JS Θ nC) 7 s (xY (ε CM ŕ Qp) nC^cw4 nC)^kw 8 s (Zh^Ó 2^Qd (Ym Θ Jp^Z5 nC)^Qd (Ym dw Jp^Z5 TH)^Ó 6 eI) 9 s (Zh^Ó 2^Qd (ch1 Θ TH)^Qd (ch1 dw TH)^aS ds9^bg3 Z.g1)^ô^Zh^bn8 8 9^Ľ 6
def QbV:Nd "is_full" 1 2 qE:=cf8 [Mx, an0] 2 Z.u47^aM2 pO (ϙ gJ^ü bg4) Ŀ
def xB:Pp P w K é cs4 3 3 YM:=g8 [dO, da, Mx, "halves"] 3 Z.u48 a^ć (Q2 (Ps^iH (QbV Z) 2^cN7 (yf Z) af5) (ay3 (dl0 (XX Z) af5^Ó 1 nK) cm3 ZM) QA) (Qx 3 s^iH (Qdo Z) 2^cN7 (xA Z) af5)^bN8 Z.wY (NU (zX Z) af5^ü^ς Θ) (dl0 (XX Z) af5^ai6 1^ς Θ)^cn1 Z.lJ (ς Θ) Z.sV (cw4 de0)^ff (nE Z.pF^EU ca6 (Ś Z.Lx)^oh Z.sV)^Ś Z.wY
def uZ:Nd "with_pair" 3 3 xQ:=cf8 [Mx, bA2, IZ] 3 Z.u49^dd5 (Up Z)^Ó 1^aS (Zh eI)^Zh nK
def Ui:Pp P w K é ck6 4 3 Y7:=g8 [dO, da, "leaf", E4] 3 Z.u50 a^ay3 (nE Z.k11^iH (jZ Z) 2 aV9) (Qx 3 s^Sd (xB Z)^ai6 1^iH (uZ Z) 2^aS cv4 cd8)^cA8 1^Qd do8 TU
def Vh:Pp P w K é bt1 3 3 Yj:=g8 [dO, da, "leaf"] 3 Z.u51 a^ay3 (nE Z.k11^iH (jZ Z) 2 aV9) cm3^cA8 1^oh Z.k11
def Ka:Pp P w K é cM2 5 3 qP:=g8 [dO, da, "leaf", "word"] 3 Z.u52 a^Ū 3 s cd8 (ce4^Sd (Vh Z)^Ó 1 nK)^ay3 (ce4^Sd (Ui Z)^Ó 1 nK) (ce4^Sd (U9 Z)^Ó 1 nK)^Sd (Vi Z)^Ó 1 nK
def QaE:Nd "with_kid" 2 3 jM:=LI [Mx, bA2, "kid", aP4, "kids", m9, "behind"] 3 Z.u53^kw 3 s bg4 4 s bh4^kw 5 s (iH (JV Z) 3 eI) 6 s (cw4 nC)^ô^dd5 (Uo Z)^aS (ax5 (ax5 (Ym Θ Jp^Z5 nC)^Zh eI)^ch1 Θ nC)^ax5 (ax5 (Ym dw Jp cZ3)^Zh nK)^ch1 dw au6
def VD:Pp P w K é bK4 4 3 Yx:=g8 [dO, da, "fork", E4] 3 Z.u54 a^ff (Qx 3 s^Sd (xB Z)^ai6 1^iH (QaE Z) 2^aS cv4^Ś Z.wY)^cA8 1 TU
def yg:Pp P w K é bK3 1 4 Xz:=g8 [dO, "word", da, "to"] 4 Z.u55 a^ff (nE Z.pF Θ)^Zh^bn8 1 2 TU
def QbW:Nd "kid_for" 2 2 jk:=cf8 [Mx, bA2] 2 Z.u56^JS bh4^bf6 (JV Z) bg4 eI
def Qdl:Nd "beyond" 1 2 ji:=LI [Mx, bA2, ck9] 2 Z.u57^ff (Qx 2 s ds9)^Ib (aM2 kz ŕ ZM)^U4^aM2 CJ Ŀ ŕ
def yd:Pp P w K è bt6 2 3 J6:=g8 [dO, bA2, da, bm9] 3 Z.u58 a^ć (Zr^Sd (Jz Z) nK) (Qx 3 s^cw4^bP4^Ţ cv2 cv3)^ff (nE Z.k3^Sd (zX Z)^ü^Zh^Ó 3^Qd (Zh eI)^Qd (sA cv3 nK)^aS ZM ZM) cv3
def zY:Pp P w K é aa8 3 2 Ju:=g8 [dO, da] 2 Z.u59 a^ff cm3^bp7^ai6 1^NU (yd Z) af5^aS cv4^Ś Z.wY
def vk:Pp P w K è iX 2 2 Yi:=g8 [dO, da] 2 Z.u60 a^ay3 (Zr^Sd (Jz Z) eI) (yJ Z.k5 Ì Qp)^Ţ cv2 Ŀ
def uU:Pp P w K é cM4 6 1 zj:=g8 [dO, da, Mx] 1 Z.u61 a^ć (eh (JD do7) ZM) (Qx 1 s^xY (ε gk cv5 ZM) (cN6 (qZ Z) af5) cv5)^Qf (Qx 2 s^NU (vk Z) af5 eI)^ć (eh (bW2 (ε gk cv5 ZM)^ε jf de0^Ś Z.sV)^Sd (zY Z) eI) (eh (JD^iH (Qdl Z) 2 aV9)^Sd (yg Z)^Qd QJ^ai6 1^hL ŕ Z.g1)^ay3 (Q2 (ε pO de0^Ś Z.sV) (ff (cW2 Ŀ (Ś Z.Lx) de0)^Sd (yg Z)^Qd QJ^ai6 1^iH (QbW Z) 2 aV9) QA) (ew pO (Ś Z.sV) Qp^Sd (VD Z)^Ó 1 nK)^Sd (Ka Z)^Ó 1 nK
def yh:Pp P w K û bL7 7 2 X1:=g8 [dO, "hand", "holding", "walk", CH] 2 Z.u62 a^kw 2 s (Ţ bC2 Ŀ) 3 s aO0^Ū 4 s (cN6 (uU Z) Θ) (Q2 (JD^cN6 (uT Z) Θ) (aT4 (cW2 ZM bC2 Ŀ)^bC0 (Ś Z.Lz) nK) QA)^ô^ax5 (sA (ς dw)^ai6 1 aO0)^ch1 dw Qp
def qf:Pp P w K û ww 8 2 Jm:=g8 [dO, "hand"] 2 Z.u63 a^ć (aW1 (Jw^qV oX jf Qp Ŀ^bR0 Z.k8) YR) (ew kz (Ţ bC2 Ŀ) ZM^Sd (yh Z) eI)^ff (ew jf (Ś Z.k6) dt9^Sd (yi Z) eI)^bp7 eI
def zy:Pp P w K û TD 9 1 XU:=g8 [dO, "rows", "hand"] 1 Z.u64 a^kw 1 s al5 2 s Qp^ff (bh8 Ĺ (Ps^cN6 (qd Z) Ì)^aT4 (bH2 Ŀ^Sd (qf Z) nK)^Qx 2 s^QC qm (cw4 ŕ)^bR0 Z.k8) Ŀ
def KF:Nd "is_deed" 1 1 Yy:=cf8 [CH] 1 Z.u65^Qpa Z.d0^JS Ì Qp
def VF:Pp P w K û bL9 1 2 JY:=g8 [dO, E2] 2 Z.u66 a^ff (bC0 (Ś Z.k7) eI)^fm jw dt9
def qX:Pp P w K Ę aT3 2 2 Xy:=g8 [dO, E2, da] 2 Z.u67 a^Ū 2 s (NU (VF Z) TW eI) (nE Z.Ly^cw4 ŕ)^ô ŕ
def xE:Nd "read_number" 1 2 YQ:=LI ["text", "most", "figures"] 2 Z.u68^Ū 2 s (xY (JD^ϋ Qb6 PySem.F.slot_str_startswith PySem.F.type_str_startswith Ì at1) (Qpc Ì (Z5 Qp) Jp) Ì) (aW1 (bc7 (Jw^qV jf oX Qp (ϙ Qo3 nK) Ŀ)^VA^Ps^dk9 (C_ Y) Z.z5^dr9 [] [] #[Ð,È,Y,È,Y,Ġ,Ð,Ġ,Á] Y (XO^Qpf ŕ)^Jj Qr7 Ì QJ Ð) YR)^ff (aW1 (bW2 (JD^ϋ Qb6 PySem.F.slot_str_startswith PySem.F.type_str_startswith ŕ at1)^ε (Qs9 a.units) Ì QJ) YR)^ct4 Ii Z.z9 CS
def vv:Nd "read_short" 2 1 qt:=LI ["text", da] 1 Z.u69^Ū 1 s (f7 (xE Z)^aS Ì Qp) (bh2 jf Ŀ Qp YR)^ô Ŀ
def QaB:Nd "read_key" 2 1 YB:=LI ["text", da] 1 Z.u70^Ū 1 s (f7 (xE Z)^aS Ì Qp) (bh2 pO (Q9 Qrs Z.eX boot_abs eI) (fm UA Qp) YR)^ô Ŀ
def uY:Nd "read_deed" 3 2 Yb:=LI ["word", "texts", E2] 2 Z.u71^Ū 2 s (ax5 (Zh CS)^cz5 P0^dr9 [] [] #[Ð,È,Y,È,Y,Ġ,Ð,Ġ,Á] Y (XO^Re Ŀ)^f7 (QaB Z) CS) (aW1 (bW2 (ε CM Ì QJ)^ε CJ (JS ŕ Qp)^JS ŕ Qp) YR)^ô ŕ
def Um:Nd "read_row" 4 1 Zu:=LI ["row", ct3, "word", "texts"] 1 Z.u72^kw 1 s (bC8 Rh Ì at1) 2 s (JS Ŀ Qp)^Ū 3 s (ch1 Ŀ Qp) (ew CM (Rs Z.d0 ŕ) (ϙ gJ TU)^iH (uY Z) 2 TU)^aT4 (ew CM (Rs Z.d1 ŕ) (ϙ gJ TU)^ax5 (Zh nK)^cz5 P0^dr9 [] [] #[Ð,È,Y,È,Y,Ġ,Ð,Ġ,Á] Y (XO^Re Θ)^f7 (vv Z) CS) YR
def Jy:Pp P w K Ę "say" 10 2 QV:=g8 [dO, "row", CH, "word"] 2 Z.RJ a^kw 2 s (f7 (Um Z) eI) 3 s aO0^ć (eh (JD^f7 (KF Z) nK)^az6^Sd (qX Z) nK) (ce4^CY Kf QJ^dr9 [] [] #[Ð,È,Y,È,Y,Ġ,Ð,Ġ,Á] Y (HX^NU (qf Z) TW da8)^f7 cZ4 CS)^ć (ce4^az6^wa^cN7 (zy Z) TW) (ce4^bo8 cZ4^Sd (qW Z) da8)^ay3 (ce4^bo8 cZ4^f7 (jY Z) aV8) (ce4^xY (JD^f7 (Uj Z) aV8) QJ QJ)^az6^cN6 (Vf Z) Ì
def ga:Dc P w K mg O8 Ę "say" 10 2 YD:=SX Z.RJ cN^EV a^Y4 (Qx 2 cN.nd^f7 (Um Z) eI)^Y4 (Qx 3 cN.nd aO0)^Y4 (eh (JD^f7 (KF Z) nK)^az6^Sd (qX Z) nK)^Y4 (ce4^CY Kf QJ^dr9 [] [] #[Ð,È,Y,È,Y,Ġ,Ð,Ġ,Á] Y (HX^NU (qf Z) TW da8)^f7 cZ4 CS)^Y4 (ce4^az6^wa^cN7 (zy Z) TW)^Y4 (ce4^bo8 cZ4^Sd (qW Z) da8)^Y4 (ce4^bo8 cZ4^f7 (jY Z) aV8)^Y4 (ce4^xY (JD^f7 (Uj Z) aV8) QJ QJ)^Ko^QqN^QqG (Qkh (ym Z) a Á Qsd Ì) Z.z6 boot_str
def qz:Nd "_law_word" 1 1 ZY:=LI ["part"] 1 Z.u74^ć (ew gk Ì ZM QJ) (eh (JD^QlR Z.z7 Z.z9 boot_int Á Ì)^az5 CS)^ff (ce2 cf1 Qp QJ)^CY Kf QJ^dr9 [] [] #[Ð,È,Y,È,Y,Ġ,Ð,Ġ,Á] Y (HX Ì)^QC VN (QC VN dd0 QJ) dd0
def QaA:Nd "_law_read" 2 4 X4:=LI [ct3, E2, fF, "aims", "low", ck9] 4 Z.u75^kw 4 s (EU ca6 Θ^aS Ϫ^ς Ŀ) 5 s (ς Ŀ)^ff (Q2 (ε t7 Ϫ QJ) (ć (eh (Jw^qV jf jf dw (ct4 Ii Z.z9 cc5) nC) Xc) (Qx 5 s^ct4 Ii Z.z9 cc5)^Qn^cW2 nC Θ Ϫ) QA)^br2 Ϫ^f7 (qz Z)^ap9 ["low", ck9, fF] [4,5,2] #[Ð,È,Y,È,Y,en #[Y,#[Y,bh1]],Ð,en #[Y,ϊ,IK,cU8,#[Y,ϊ,IK,cU8,cV0 Y ϊ IK]],Á] Y (Xl^Q9 (UZ Y) Z.fG boot_sorted nK) (Gv^qV oX jf Ŀ Ì ŕ)^ct5 Ì^Ţ Θ Ì
def uX:Nd "_law_ended" 1 1 YY:=LI [ct3] 1 Z.u76^ć (ce3 Ϫ^br2 Ϫ QJ) (ce3 Ϫ^br2 Ϫ QJ)^ff (ce3 Ϫ^br2 Ϫ QJ)^Jj (Wm FA) Ϫ (bp7^aS QJ QJ) Ð
def Uk:Nd "_law_fits" 3 5 X3:=LI [ct3, K1, fF, "aims", CH, E2] 5 Z.u77^ć (aW1 (JD^f7 (uX Z) CS)^cW2 (ax5 (Ţ dw QJ)^XI cc5) dw QJ) (eh (QS (Oz FA) Ϫ (bp7^Qd QJ^aS QJ QJ) Ð) Xc)^Ū 5 s (Ţ Ŀ^ct4 Ii Z.z9 cc5) (Q2 (ε ħ Ϫ QJ) (ff (bh2 t7 Ϫ QJ^cW2 (ax5 (EU ca6 dw^aS Ϫ^XI Qi)^XI cc5) dw Ϫ)^Ib (br2 bf3 QJ)^U4^dd5 (QaA Z)^bn8 5 2 TU) QA)^ć (eh (bc7 (ε t7 bf3^QlW Ì)^VA^ε t7 Ϫ^bo8 (qz Z)^EU ca6 ŕ^ü bf3) Xc) (cW2 (XI cc5) dw Ϫ)^ay3 (bh2 ħ Ϫ QJ^cW2 bf3 ŕ bf3) (aW1 (bW2 (ε ħ Ϫ QJ)^QS (Wm FA) bf3 ŕ Ð)^Zr^ni QpR PySem.F.slot_dict_pop PySem.F.type_dict_pop ŕ^ü bf3) Xc
def yk:Nd "_law_rested" 11 6 XA:=LI ["desk", "hands", K1, fF, "aims", CH, "turn", "rests", "hand", ct3] 6 Z.u78^ff (bo6 Y (ca5 Y Qp) 6 s^Ū 7 s Qp (bo6 Y (ca4 Y eI) 8 s^kw 9 s (bC8 Rh (Sd bA3^ü^QC VN QJ^az5^Ľ 8) at1) 7 s (ax5 TH^ct4 Qrt Z.z9^ü^br2 (ς^Qa 9) QJ)^Qn^eh (Ps^iH (Uk Z) 9^bn8 2 3^Ó 4 bB9) Xc)^Qn^ce2 TH Ŀ Xc) Xc
def Vq:Nd "_law_packs" 11 3 Ya:=LI ["desk", fF, "still", bL5, "due"] 3 Z.u79^Ū 3 s Xc (QrJ (Ql3^Sd bA3 at1)^Ql2 3 (Qn7 (ga Z) a Á Ì at1) Z.y0 s)^ay3 (ew t7 Θ ŕ Xc) (Qx 4 s^f7 (qz Z)^dr9 [fF] [1] #[Ð,È,Y,È,Y,cR4,Ð,cV1 Y ϊ IK,Á] Y (Xl^Q9 (UZ Y) Z.fG boot_sorted eI)^ct5 Ì^Ţ Ŀ Ì)^N6 (Qpb Θ)^U4^Ib (br2 (Sd bA3 at1) dw)^U4^br2 (Sd bA3 at1) QJ
def Ul:Nd "_law_said" 1 1 X5:=cf8 [E2] 1 Z.u80^CY Kf QJ^ü^ax5 (XI^ü^JS Ì Qp)^ap8 [] [] #[Ð,È,Y,È,Y,Ġ,Ð,Ġ,Á] Y (XO^U6^ch1 Ì Qp) Jx^az5 CS
def yj:Nd "_law_key" 1 1 YA:=LI [da, F7] 1 Z.u81^Ū 1 s dp9 (ew CM de6 Qp^QC jw (QC qm (QC Qqa Ŀ^fm UA Qp)^cw4^QC NP Qp^fm UA Qp)^fm UA Qp)^ff (ew CM de6 Qp^JS (QlT^Hj #[fm UA Qp]^Hj #[GX (fm UA Qp)]^Hj #[fm jw (fm UA Qp)]^Hj #[QC jw Qp (fm UA Qp)] QlO)^cR5 Ŀ)^fm jw^cR5 Ŀ
def Qaz:Nd "_law_deed" 2 1 Yz:=LI ["cell", "kind", bA2, "other"] 1 Z.u82^kw 1 s de6 2 s (bo8 (yj Z) dp9)^ć (ew CM Ŀ Qp^bp7 nK) (ew jf Ŀ Qp^bp7^ai6 2^bo8 (yj Z) dp9)^ć (ew jf Ŀ Qp^bp7 nK) (Qx 3 s^bo8 (yj Z) dp9)^ay3 (bh2 CM Θ ŕ^Qx 3 s^fm jw ŕ) (bh2 jf Θ (GX^fm UA Qp)^Qx 3 s^cw4 ŕ)^bp7^aS (Q9 (Qrw Y) Z.z13 boot_min^Ó 2 TU)^Q9 (Qrv Y) Z.iK boot_max^Ó 2 TU
def uW:Nd "_law_ahead" 1 1 zo:=LI ["cell", cM4] 1 Z.u83^ff (Qx 1 s^Ţ (XI^Qd Qp^Qd Qp^Qd Qp^aS Qp Qp)^cR5 dp9)^ap8 [cM4] [1] #[Ð,È,Y,È,Y,cR4,Ð,cV1 Y ϊ IK,Á] Y (ca5 Y de6) Jx^bp7^aS (fm jw^cR5^QC NP Ì Ŀ)^ax5 Qp Ì
def Vj:sG P w K mg O8 û 1 3 Jo:=hI [dO, ı, "hands"] 3 Z.u84^Ø a^cn1 Z.k1 Ŀ Z.k7 al5^cn1 Z.k6 Qp Z.k8 (QC Qqc (XI^ü ZM) ŕ)^Qn^nE Z.Lz al5
def Ug:sG P w K mg O8 Ę 3 3 J9:=hI [dO, an0, "hands"] 3 Z.u85^Ø a^cn1 Z.k9 (Ua (qY Z) a Á Qz eI) Z.k10 (Ua (Vj Z) a Á Qz^Qd (Ś Z.k9) nK)^Qn^nE Z.Ly Qp
def K7:Nd "_law_cell_at" 1 2 YO:=LI [ax4, "k"] 2 Z.u86^ff (ew jf Ŀ (ϙ gJ CS)^JS Ì Ŀ) Qp
def law_fn{g:Addr}{fd:FuncData}(F:Fun K dl2 dl2 KM g fd):zO P w K mg O8 CX0 12 g fd [ax4]^lR K 1 Dd:=QrM F mD<|cY1 a<|have s:=mD.nd;kw 1 s (f7 (K7 Z)^aS Ì Qp) 2 s (ax5 Qp^cR5 Ŀ) (kw 3 s (Ua (Ug Z) a Á Qz^Qd (ax5 Qp^cR5^dp8 Ŀ) nK) 4 s (bo8 (uW Z)^dp8 Ŀ)^kw 5 s xZ 6 s xZ^Ū 7 s (QlU^Ql1 QJ (XI Qi) Qpi) (bo6 Y (Xl dw) 8 s^Qn^dl0 bA3 Θ^ü^f7 (Ul Z)^Ľ 8)^ć (eh (bW2 (ε ħ (cR5^dp8 Ŀ) Qp)^Ps^iH (yk Z) 3^bn8 2 4^bn8 5 6^Ľ 7) Xc) (bo6 Y (ca5 Y cf1) 9 s^Qf (eh (bW2 (ε ħ (cR5^dp8^dp0 Ì 9) Qp)^Ps^iH (Vq Z) 3^ai6 5^br2 (wa^ü^Ţ TH QJ) db1) Xc)^ć (Q2 (ε jf (Qa 9) Qp) (aT4 (bH2 dw^bo8 (Qaz Z)^dp0 Ì 9)^dl0 bA3 Θ^ü^bo8 (Ul Z)^Ţ dw^GX Qp) QA) (Qx 11 s^bC8 Rh (NU bA3 Θ^ü^QC VN QJ^az6^QC qm (dp8^dp0 Ì 9) ŕ) at1)^Qn^eh (Ps^iH (Uk Z) 11^bn8 4 5^Ó 6^Ľ 7) Xc)^ay3 (eh (bc7 (Ps^iH (yk Z) 3^bn8 2 4^bn8 5 6^Ľ 7)^VA^Ps^iH (Vq Z) 3^ai6 5 Xc) Xc) (bo6 Y (ca5 Y db1) 10 s^aT4 (Qx 12 s^CY Kf QJ^ü^EU ca6 TH^aS (az5^Ľ 10)^XI at1)^ew t7 (NU bA3 Θ^ü^QC VN QJ^az5^Ľ 10) (Qa 12) Xc)^br2 (NU bA3 Θ at1)^f7 (qz Z)^dr9 [fF] [5] #[Ð,È,Y,È,Y,cR4,Ð,cV1 Y ϊ IK,Á] Y (Xl^Q9 (UZ Y) Z.fG boot_sorted bB9)^ct5 Ì^Ţ Ŀ Ì)
#where
def xU{g g':DV->bS}{fa e c:aD}{b a:Bool}(ha:cV2>(x,J))(i:br3>(y,J))(j:aS0>(z,J))(h1:g x y=fz b)(h2:g' y z=fz a):Jk g g' fa e c env J>(ŏ<|b&&a,J):=by
 ext Jk;rw[bZ1,Qe i,h1,Ed];exact((Ř b _ _:Ģ)) J=_;cases b with
 |false=>rfl
 |true=>exact(bI3 >>= λ w=>g' y w) J=_;rw[Qe j,h2];cases a<;>rfl
def Rv{e f g:aD}{w c:Hs}{a i:V}{ds:Þ}(o:aS8 w>(d,c))(hf:Κ c>(Χ,c))(ha:c[a]?>ū)(r:AS c>(ĕ i,c))(hl:i<ê):Yg e (cL f g) env w>(rr,c.set a (Ù^dj4 i)):=by
 apply yU o ?_;ext cL;rw[aH1,Qe r];have:tM Ű ↥A4 d c>((),c.set a (Ù^dj4 i)):=by exact(cL4 >>= _) c=_;rw[ů ha];exact(eG ↥A4 >>= λ k=>match ixN ê k with|some j=>VS a^Ù^dj4 j|none=>failure) c=_;rw[Qe (Y:eG ↥A4 c>(A4,c)),Qms hl];rfl
 rw[IU];rfl
def PL{c f:Str}{o e:aD}{J:Hs}{a:V}{fs:ER}{x y:Int}(r:cC5>(Χ,J))(h:J[a]?>aV3)(hf:cw6>cY0)(j:br3>(Í y,J))(hl:aQ6<ej):KL c f V5 o e env J>(rr,fS a (ŭ c^Xx f ↥(x+y) fs)):=by
 ext KL;let e1:tU c f Ű J>(Í x,J):=fT tU (xj h) hf
 let i:tH c f Ű ↥(x+y) J>((),fS a (ŭ c^Xx f ↥(x+y) fs)):=fT tH (xj h) cq3
 rw[Qe r,L9,Qe j,Qe (Y:V5 cY0 ↥y J>(Í<|x+y,J)),Qe i];rfl
def WM{e:aD}{fa:cu}{v:DV}(h:br3>(v,hp1))(h':aJ4 hp1>(ds,hp2)):cL8 e fa J>(v::ds,hp2):=fT Qc Tu^Qe h'
def aY(r:Int)(k:V)(t a b:Int):ER:=[(ab1, Í r),aG1 "kept" k,(bA1, Í t),(ac3, Í a),(LU, Í b)]
def QkF(r:Int)(k:V)(t a b:Int):ϑ ab1^aY r k t a b>(eD r):=ř
def Y5(r:Int)(k:V)(t a b:Int):ϑ "kept"^aY r k t a b>(Ty k):=ř
def PJ(r:Int)(k:V)(t a b:Int):ϑ bA1^aY r k t a b>(eD t):=ř
def Qsv(r:Int)(k:V)(t a b:Int):ϑ LU^aY r k t a b>(eD b):=ř
def Qsu(r:Int)(k:V)(t a b:Int):ϑ ac3^aY r k t a b>(eD a):=ř
def QkE(r:Int)(k:V)(t a b c:Int):Xx (đ LU) ↥c^aY r k t a b=aY r k t a c:=ř
def QcA(r:Int)(k:V)(t a b c:Int):Xx (đ ac3) ↥c^aY r k t a b=aY r k t c b:=ř
def QcB(r:Int)(k:V)(t a b c:Int):Xx (đ bA1) ↥c^aY r k t a b=aY r k c a b:=ř
def yW(r:Int)(k:V)(t a b:Int):gg OF^aY r k t a b:=ř
def Kq(r:Int)(k:V)(t a b:Int):gg "lay"^aY r k t a b:=ř
def Qd1(r:Int)(k:V)(t a b:Int):gg iX^aY r k t a b:=ř
def zH(r:Int)(k:V)(t a b:Int):gg bL3^aY r k t a b:=ř
def VT(r:Int)(k:V)(t a b:Int):gg aP5^aY r k t a b:=ř
def Qd0(r:Int)(k:V)(t a b:Int):gg bL4^aY r k t a b:=ř
def Qcy(r:Int)(k:V)(t a b:Int):gg bt6^aY r k t a b:=ř
def Qcz(r:Int)(k:V)(t a b:Int):gg an0^aY r k t a b:=ř
def KQ(r:Int)(k:V)(t a b:Int):gg O0^aY r k t a b:=ř
variable{r t a b:Int}{n k:V}{ps:Þ}{J:Hs}
def Qce(h1:YP>(i6 r k t a b))(h2:OM J k ps):YL [NO] J>(Í ϣ,J):=aN5 [bV8]^Jq (θ h1 bc9) h2
def Ru(h1:YP>(i6 r k t a b)):Jl [NO] J>(Í t,J):=aN5 [bV8]^θ h1^PJ ..
def BC(h1:YP>(i6 r k t a b)):Jt [NO] J>(Í r,J):=aN5 [bV8]^θ h1^QkF ..
def V8{i:Int}(h1:YP>(i6 r k t a b))(h2:OM J k ps)(c:0<=i)(e:i<ϣ):
  Z2 [NO,ft] J>(Ě,J) :=
 aM3 [bV8,tq]^QX^bg2 b^à (xU Y Ã (Jq (θ h1 bc9) h2) Y Y)^Ũ (Ea c)^Ea e
def RA{E:En}(c:E[0]?>(CO n))(h1:YP>(i6 r k t a b)):KL è LU V5 Å bn E J>(bC1,aO2 n r k t a (b+1)):=ĵ (PL (ak c) h1 (Qsv ..) Y<|fP<|(5:V)<ej) QkE
def Qnr{i:V}(h1:YP>(i6 r k t a b))(h2:OM J k ps)(c:n≠k)(hd:Ů ps>d):
  Yi [NO,ft] J>(d,aO2 n r k t (a+1) b):=by
 let e:i<ϣ:=bc5;let g:aO2 n r k t (a+1) b=fS n^ŭ è^Xx ac3 ↥(a+1)^aY r k t a b:=Ϻ QcA
 rw[g];apply EO [bV8,tq] (Zz^aE1 h1 (yW ..) ύ^V8 (i:=A4) h1 h2 À À) (PL Ã h1 (Qsu ..) Y<|fP<|(5:V)<ej)^Qt^Qj (θ (J5 _ _ _^ö h1)^à (x3 _^QcA ..) bc9) Ã^j7 (à (Zn _ _ _ _ c) h2) hd
def QaW{i:V}(h1:YP>(i6 r k t a b))(h2:OM J k ps)(c:i<ϣ):
  Yh [NO,ft] J>(Ě,aO2 n r k i a b) :=
 aM3 [bV8,tq]^Qo (Zz^aE1 h1 (yW ..) ύ^V8 (i:=A4) h1 h2 À À)^as7 (ZV Ã Ã h1<|fP<|(5:V)<ej) QcB
def UQ{i:V}{d:DV}(h1:YP>(i6 r k t a b))(h2:OM J k ps)(c:n≠k)(e:i<ϣ):
  Xe [NO,ft,d] J>(Ě,(aO2 n r k t a<|b+1).set k (Ù^ps.set i d)) :=
 aM3 [bV8,tq,! d]^Ļ (Zz^aE1 h1 (yW ..) ύ^V8 (i:=A4) h1 h2 À À) (RA Y h1)^Rv Ã (θ (J5 _ _ _^ö h1) bc9) (à (Zn _ _ _ _ c) h2) Ã e
def Ol{pg:DV}(h1:YP>(i6 r k t a b))(h2:OM J k ps)(c:n≠k)(hl:ϣ<99999):
  Xs [NO,pg] J>(Í ϣ,(aO2 n r k t a<|b+1).set k (aU5 ps [pg])):=by
 let g1:=à (Zn J n k (i6 r k t a<|b+1) c) h2;let g2:ID^aO2 n r k t a (b+1)>(i6 r k t a<|b+1):=J5 _ _ _^ö h1;apply EO [bV8,! pg] (RA Y h1) (Zz^YE (θ g2 bc9) g1 Ã À)^Qt^io (Jq (θ (à (Zn _ _ _ _ c.symm) g2) bc9)^J5 _ _ _^ö g1) ?_;exact í (eD<|dm8 (ps++[pg])-1,_)=_;rw[Am];simp
#where
def QdU{c:Int}{n i:V}{d:DV}(h:Ů^Yr c n>d):i<n/\d=Í (A4 * c):=by
 let hi:i<n:=mm (Zw h) Yr
 unfold Yr at h;rw[jA hi]at h;show#[hi,an9 h]
def Qnq{n m:V}(a:1<=m):dG (Ñ (aX0:V)) mG=TP.qn n m:=by
 ext dG TP.qn;have:Ñ (aX0:V)+mG-1=Ñ (aX0+m-1:V):=À
 rw[this,<- Int.natCast_ediv,Bz]
def cY(w:Hs)(T:DV)(rows:TP.Rw):ä:=T=OT rows∨∃n,T=NO/\ez (ID w) bK2
def cY.len{w:Hs}{T:DV}{rows:TP.Rw}(h:cY w T rows){f:aD}(hf:Κ w>(T,w)):wV ZG f env w>(ĕ rows.length,w):=by
 obtain Y|⟨n,Y,hn⟩:=h
 .rw[xg hf,YU]
 .rw[Jq hf hn,YU]
def cY.wj{w:Hs}{T:DV}{rows:TP.Rw}(h:cY w T rows){f:aD}(hf:Κ w>(T,w)):zV f env w>(hV rows.isEmpty,w):=by
 let e:bY2 bK2=rows.isEmpty:=Gw^YU rows;ext zV;rw[aH1];obtain Y|⟨n,Y,hn⟩:=h
 .exact í (hV^bY2 bK2,w)=_;rw[e]
 .exact(LG >>= _) w=_;rw[cd4];exact í (hV^bY2 bK2,w)=_;rw[e]
def Qps{x:Int × Int}{w:Hs}:AK Å bG (Ü^õ [cb3 x,Í x.2]::env) w>(cb3 x,w):=bn1 0 Y Y Y
def QqX{x:Int × Int}{w:Hs}:AK Å bn (Ü^õ [cb3 x,Í x.2]::env) w>(Í x.2,w):=bn1 1 Y Y Y
def Qik{w:Hs}{f:aD}{c:TP.Rw}(hf:Κ w>(OT c,w))(hl:bT6<Ĺ):Zd false (cQ f) [] Xr mM env w>(Ù^c.map λ r=>cb4,w):=by
 rw[yI (m:=M6) (nw:=false) (jF hf) an5 (λ x hx=>ca1 p F0 Qps)^Æ YU hl,BO];rfl
def Qil{w:Hs}{f:aD}{c:TP.Rw}(hf:Κ w>(OT c,w))(hl:bT6<Ĺ):Zd false (cQ f) [] Xr au9 env w>(Ù^c.map λ r=>Í r.2,w):=by
 rw[yI (m:=Qtp) (nw:=false) (jF hf) an5 (λ x hx=>ca1 p F0 QqX)^Æ YU hl,BO];rfl
def PB{w:Hs}{f:aD}(hf:Κ w>(ū,w)):wV Kw f env w>(rc,w):=oC hf Y
def sl3(f:V->DV):V->Sl
 |0=>ń
 |i+1=>Ü^f i
def Qig(rows:TP.Rw)(m:V)(fork:Bool)(k:V):ae5 ⇑(je m fork k):=by ext TP.Za;rw[A8,Bq];lia
def Qmv{w:Hs}{T:DV}{rows:TP.Rw}{m:V}(v:cY w T rows)(o:1<=m)(L:NC m)(hl:ag7 ej):jK [T,ĕ m] w>(Ù^IH m false,w):=by
 by_cases h0:rows=[]
 .subst h0;let q1:TP.qn 0 m=1:=by
   let(a,b,c):=TP.Jc (n:=0) o;unfold TP.qn at *;have:(aG3 0+m-1) / m<=1:=by apply Nat.le_of_lt_succ^(bV1).mpr À
   lia
  apply ā [! T,cP9,ń,ń,ń,ń]^rL (ZB^v.wj Ã) ?_;have:Jb [] m false=[õ [Ě,cc1,cc1]]:=by ext Jb;rw[P9<|hF ([]:TP.Rw)=0,q1];exact[XQ [] m false 0]=_;simp[XQ,oM,km,Km,TP.Za]
  rw[this];rfl
 let Q:ae5 1:=by cases rows with|nil=>show cu8 h0|cons _ _=>simp
 let P:aG3 rows.length=rows.length:=À
 let ne:ÿ rows.isEmpty:=by cases rows with|nil=>show cu8 h0|cons _ _=>rfl
 let U:ae5 Pe:=by let(a,b,c):=bA4 n o;have:(Pe-1) * 1<=(Pe-1) * m:=ż o;lia
 have q:=Pe
 have Y2:V->En:=λ i=>[! T,cP9,br4^cW5 i m,dt4<|A4 * m,bq7 cz4,bq7^õ^LL cz3 r cb4]
 let u:xS ai1 w>(MF q,w):=by
  let C:E_ (Ħ bG at5 Û) ai1 w>(Yr m q,w):=by ext E_;rw[Qe^J4 (Y:eC ↥0 ai1 w>(cF3,w)) (v.len Ã) (Ã:Qb 1 ai1 w>(Í m,w))];let e:=Qnq (n:=rows.length) o;rw[P]at e;let ok:Ĭ^Ld 0 (Ñ rows.length) mG:=Ea #[Y,À,À,À,À];exact(QE (Ld 0 (Ñ rows.length) mG) >>= λ_=>ï^Yr m^dG rows.length m:cK8) w=_;rw[ok,e];rfl
  let len:⇑(Yr mG q)=q:=Ğ Yr
  let j:=SE (b:=aM5 d 3 d (ze env')) Y2 w (Yr mG q) (λ i d hd=>by
   let(hi,I):=QdU hd;subst I;let hi:i<Pe:=hi;let cl:=TP.Qda (rows:=rows) o hi;let(_,c1):=TP.qG (rows:=rows) (fork:=false) o Ê Q hi;let c2:=Qig rows m false i;obtain⟨z,rs,F⟩:∃z rs,cz3=z::rs:=by
    cases e:cz3 with
    |nil=>rw[e]at c1;simp at c1
    |cons a b=>show#[a,b,Y]
   have E:En:=[! T,cP9,br4^cW5 i m,Ý<|A4 * m,bq7 cz4,bq7^õ^LL cz3 r cb4]
   have G:En:=[! T,cP9,br4^cW5 i m,Ý<|A4 * m,! cz4,bq7^õ^LL cz3 r cb4]
   have x:En:=[! T,cP9,br4^cW5 i m,Ý<|A4 * m,! cz4,sB^LL cz3 r cb4]
   exact ze E w=_;let O:(A4 * mG)=Ñ (i * m:V):=Ê
   let y:(A4 * mG+mG)=Ñ (i * m+m:V):=Ê
   let R:pQ Å (Zi Ă) (Zi^nB Ă Û) E w>(cz4,w):=by rw[QhB (a:=i * m) (b:=i * m+m) (d:=T) (ds:=bK2) Ã (ì O Ã) (ì y^Gk Ã Ã) À v,Qj2,Qj3,cl,Nat.add_sub_cancel_left]
   apply aO4 G w R;apply aO4 x w^PB^Qik Ã À;let fd:ZL (Ħ bE9 Ń^ð Kw xO) x w>(XQ rows m false i,w):=by apply ϔ^Z7 (ds:=[cb3 z,õ^LL cz3 r cb4,õ^LL cz3 r^Í r.2]) (bZ6 (bn1 0 Ã Y^ö F)^PB^Qil Ã À) Ê;ext XQ oM km Km;rw[F];rfl
   rw[HV fd (Y:x[2]?=_)^ah2 Br List.length_range];exact í (ba0 _,w)=_;congr 3;exact[_,_,Sl.acc<|cW5 i m++[XQ rows m false i],_,_,_]=Y2 (i+1);exact _=[_,_,Sl.acc^cW5 (i+1) m,_,_,_];rw[List.range_succ,List.map_append];rfl)
  rw[len]at j;show qD C j (ĩ len)
 apply aB9^(Y2 q).set 2^Ü^Ù^IH m false;apply Ļ (QX^Ũ (ZB^v.wj Ã) ne) (Y:BZ 2 _ w>(MF 0,w))^ϩ u;show cN8
def yM(rows:TP.Rw)(m:V)(fork:Bool):⇑ag0=Pe:=Ğ Jb
def jx(rows:TP.Rw)(m:V)(fork:Bool)(lv first:V):⇑(Xw rows m fork lv first)=Pe:=Ğ Xw
def Qcl{n i:V}{d:DV}(h:Ů cr2>d):i<n/\d=ĕ i:=xp h
def kt(w:Hs)(rows:TP.Rw)(m:V)(fork:Bool)(lv first:V)(hq:Pe<=ej):xP [ĕ lv,bB3,ĕ first] w>(aB7,w++[Ù^Xw rows m fork lv first]):=by
 have q:=Pe
 have e:=ag0
 have last:wP V:=λ i=>(A4+1==dm8 e)
 have hi:V->DV:=cI1 i (i+1) q Ě<|oM rows m fork<|i+1
 have sd:V->DV:=cI1 i (i+1) q Ě^ĕ (first+(i+1):V)
 have Y2:V->En:=λ i=>[Ý lv,ax6 e,an1,! Ĵ,bq7 ft,dt4<|A4+1,bq7 cl6,LW hi,LW sd]
 have W:V->Hs:=λ i=>w++[Ù^mx i^KJ rows m fork lv first]
 let z:⇑e=q:=yM rows m fork;let C:∀i,aH7=FC (i+1) q:=λ i=>by
  exact(A4+1==dm8 e)=_;rw[z];by_cases c:i+1=q
  .rw[Ea c];simp;lia
  .rw[Ec c];simp;lia
 let o:=QiS (b:=aM5 d 4 d (VI env')) Y2 W (cr1 q) (λ i d hd=>by
  let(r,G):=Qcl hd;subst G;let y:Ů e>(XQ rows m fork i):=jA r
  have u:Sl:=Ý<|A4+1
  have E:En:=[Ý lv,ax6 e,an1,! Ĵ,tq,dt4<|A4+1,bq7 cl6,LW hi,LW sd]
  have F:En:=[Ý lv,ax6 e,an1,! Ĵ,tq,u,bq7 cl6,LW hi,LW sd]
  have v:En:=[Ý lv,ax6 e,an1,! Ĵ,tq,u,! cl6,LW hi,LW sd]
  have x:En:=[Ý lv,ax6 e,an1,! Ĵ,tq,u,! cl6,!(hi i),LW sd]
  have e8:En:=[Ý lv,ax6 e,an1,! Ĵ,tq,u,! cl6,!(hi i),!(sd i)]
  exact VI E as2=_;let c1:(A4+1)=Ñ (i+1:V):=Ê
  apply aO4 F as2^Gk Ã Y;apply aO4 v as2^Ot Ã^xg Ã;apply aO4 x as2 ?_
  .let t:eB o6 v as2>(aH7,as2):=QK Ã;rw[C i]at t;by_cases c:i+1=q
   .rw[Ea c]at t;rw[KD t];exact _>(pH (i+1) q DV.non _,_);rw[C8 c];rfl
   .rw[Ec c]at t;rw[G9 t];exact _>(pH (i+1) q DV.non _,_);rw[C7 c];show bn1 0 (qg (i:=i+1) (d:=XQ rows m fork (i+1)) Ã (ì c1 Ã)<|jA<|mB<|i+1<q) Y Y
  apply aO4 e8 as2 ?_
  .let t:eB o6 x as2>(aH7,as2):=QK Ã;rw[C i]at t;by_cases c:i+1=q
   .rw[Ea c]at t;rw[KD t];exact _>(pH (i+1) q DV.non _,_);rw[C8 c];rfl
   .rw[Ec c]at t;rw[G9 t];exact _>(pH (i+1) q DV.non _,_);rw[C7 c];show jQ (j:=i+1) Ã (ì c1 Ã)
  let tp:ZL (EW Å (FG Û ě 1) (FG Û ě 2) ck Ts) e8 as2>(KJ rows m fork lv first i,as2) :=
   Z7 (GO Ã (bn1 1 (qg (i:=i) Ã Ã y) Y Y) (bn1 2 (qg (i:=i) Ã Ã y) Y Y) Ã Ã) å
  rw[Zz (YE (a:=ĳ) (ds:=mx i (KJ rows m fork lv first)) (d:=KJ rows m fork lv first i) Ã (U8 w _ []) tp^by rw[Br,List.length_range];have:i<Pe:=r;lia),Io];exact í (ba0 e8,w++[hH _])>(ba0<|Y2<|i+1,w++[hH^mx (i+1)^KJ rows m fork lv first]);rw[List.range_succ,List.map_append];rfl)
 rw[ZC]at o;apply aB9^Y2 q;apply aO3 ai1 bz8 Y^l7 ?_ Y;apply qD (ds:=cr1 q) (bM2 m q ?_<|mB<|Pe<=_) o (by rw[ZC];exact Pe<_;lia);rw[xg (ds:=e) Ã,z]
def Qf7{n m:V}(Y2:3<=m)(u:NC m)(hn:2<=n)(hl:n<=ej):qq [ĕ n,ĕ m]=ï^pk (TP.CN n m) (λ(k:V)=>eD fw):=by
 let o:YG ↥iq ↥mG=wX^Ñ (n / m:V):=ψ^Xd _ _ À À
 let v:X8 ↥iq ↥mG=wX^Ñ (n % m:V):=ψ^JP _ _ À
 let G:n / m<=n:=Nat.div_le_self _ _
 have R:Þ:=ă (n / m) ↥mG
 let C:Fe (Ù [ĕ m]) ↥(Ñ (n / m:V))=al9 R:=au3 ((ag (0<=Ñ (n / m:V)/\bR7 (n / m:V)<=Ĺ) >>= λ_=>af2^ă (bR7 (n / m:V)) ↥mG:Ģ)=_) (Ea #[Int.natCast_nonneg _,ĩ Bz]) Bz
 have c:En:=[Ý n,cP9,ax6 R,ņ (n % m:V)]
 let pre:∀r,(Qq (hW (Pd eE Ă)^nB (bO ß ZE cY9)^JH^á (dr3 Û) bB6)^QG^aA7 (Ò fu Ă 0) (bQ0 ß Ă) ß) c=r->V7 [Ý n,cP9,ń,ń]=r:=λ r h=>by apply LK d (Ù R)^XD (x:=Ù [ĕ m]) (y:=ĕ (n / m:V)) Y (ct6 x bG7 y m Y Y o) C;show à (wx d (ĕ (n % m:V))^ct6 x bG7 y m Y Y v) h
 let i:bT a b Þ<|a<=ej->⇑b<=5->Zm (bN6 a ↥mG)^Ù b=al9 (ă a ↥mG++b):=λ a b ha I=>ĸ ((ah6 (ă a^eD mG++b) >>= λ_=>af2 _:Ģ)=_)^Xf^ah2 Am List.length_replicate
 apply aT6 c^pre _ ?_;ext TP.CN;by_cases e:n % m=1
 .rw[PM];apply H0^à (W4^Hi^ct6 x (ĕ (n % m:V)) y 1 Y Y^as7 (qx _ _) e)^Ys ?_;let q1:1<=n / m:=by
   let j:=bK7 n;obtain z|z:=ac0 (n / m)
   .rw[z,Nat.mul_zero]at j;lia
   .show z
  let cut:Ve R none^í (-1)=ă (n / m-1) ↥mG:=by ext D.Ve;exact cC8 (R.drop 0) (É (Ñ (-1)<0) (OA<|Ñ (-1)+dm8 R)^min (bR7<|-1) ⇑R-0)=_;rw[C8 Á,List.drop_zero,Nat.sub_zero];let E:⇑R=n / m:=List.length_replicate;rw[E,List.take_replicate];congr 1;lia
  let F:bO ß ZE cY9 c=al9^ă (n / m-1) ↥mG:=by have:bO ß ZE cY9 c=al9^Ve R none^í (-1):=Y;rw[this,cut]
  apply ϔ^XD F (y:=Ù [Í<|mG-1,Í 2]) Y^i _ _ À å;rw[List.map_append,List.map_replicate];congr 3;simp;lia
 .rw[EF];let z:Ñ (n % m:V)≠1:=λ h=>e À;apply à (Ji^à (W7<|Hi<|ct6 x (ĕ (n % m:V)) y 1 Y Y<|ĵ (qx _ _)<|show iN (Ñ (n % m:V)) 1 by simpa using z) Y)^Ys ?_;let t:eB (Ò fu Ă 0) c=ï^Af 0^Ñ (n % m:V):=Hi Y;by_cases r:0<n % m
  .rw[C8 r];rw[ar3]at t;have:cU (eB^Ò fu Ă 0) (bQ0 ß Ă) ß c=Qg Zm ß (rh Ă) c:=dj5 cU t Ed pv
   rw[this];apply ϔ^XD (x:=Ù R) (y:=Ù [ĕ (n % m:V)]) Y Y^i _ _ À å;rw[List.map_append,List.map_replicate];rfl
  .rw[C7 r];rw[an8]at t;have:cU (eB^Ò fu Ă 0) (bQ0 ß Ă) ß c=Qb 2 c:=dj5 cU t Ed av7
   rw[this,List.map_replicate];rfl
def QnS{f g:aD}{w:Hs}{a b:V}(hf:Κ w>(ĕ a,w))(i:AS w>(ĕ b,w))(c:a<=b)(o:b<=10000):Dh (á f g) env w>(õ<|Zl a<|b-a,w):=by
 ext Dh;rw[Qe^ZP hf i];let e:Er [ĕ a,ĕ b] w>(Zl a<|b-a,w):=by exact(QE (jh (Ñ a)&&jh (Ñ b)) >>= λ_=>ï<|Zl a<|OA<|Ñ b-a:cK8) w=_;rw[Kt À,Kt À,ī<|OA (Ñ b-a)=b-a];rfl
 rw[Qe e];let j:do1<|Zl (Ñ a)<|b-a:=Xf aC1;rw[Qe (show QE (XS<|Zl (Ñ a)<|b-a) w>((),w)by rw[j];rfl)];rfl
def Qbx{rows:TP.Rw}{m:V}{fork:Bool}{k:V}(h:1<=⇑(je m fork k)):oM rows m fork k=Í^TP.YZ rows m fork k:=by
 ext oM TP.YZ;cases e:je m fork k with
 |nil=>rw[e]at h;simp at h
 |cons a b=>rfl
def Qgq{rows:TP.Rw}{m:V}{fork:Bool}(c:1<=m)(hf:bO2->3<=m)(hn:ae5 1)(first:V):mr ag0 M6=LL ci2 r cb4:=by ext Jb TP.xG;rw[List.map_map,List.map_map];apply bM3^Ż k a;exact oM rows m fork k=_;show Qbx (TP.qG c hf hn^bm4 a).2
def Qjy(rows:TP.Rw)(m:V)(fork:Bool)(first:V)(a b:V)(c:b<=Pe):LL (cC8 ((ci2).drop a)<|b-a) r^eD r.2=Zl (Ñ (first+a:V)) (b-a):=by
 refine List.ext_getElem?;intro i;rw[Bt,C4];by_cases h:i<b-a
 .rw[cC9,Ca];let l:a+i<Pe:=À
  ext TP.xG;rw[Bt,zu l];ext Zl;rw[jA h];simp only[Option.map_some];congr 2;lia
 .rw[df3,Cr aC1];rfl
def Qmf{w:Hs}{rows:TP.Rw}{m:V}{fork:Bool}{first M:V}(hm:1<=m)(hf:bO2->3<=m)(hn:ae5 1)(hM:3<=M)(F:NC M)(h2:2<=Pe)(hl:Pe<=ej)(a9:first<=2000):
  qp [bB3,ĕ first,ĕ M] w>(Ù^Jb ci2 M true,w):=by
 have N:=ci2
 let u:aZ1=Pe:=TP.Ki rows m fork first
 have n:=Pe
 let ql:aZ2 M<n:=Æ u^TP.BH À h2
 have q:=aZ2 M
 have K:=ag0
 let P:⇑K=n:=yM rows m fork
 have S:V->V:=TP.sx aZ1 M true
 let Q:S 0=0:=TP.UN À true;let z:∀i,i<q->S i<S (i+1):=λ i h=>TP.Nv À (λ_=>hM) À h;let v:∀i,i<=q->S i<=n:=λ i h=>by have:=TP.Nx (n:=aZ1) (m:=M) À true h À;show Bi this (az3 u)
 have C:Þ:=mx q^λ i=>ĕ (S (i+1)-S i:V)
 let cl:⇑C=q:=Ğ C
 let cn:mr (TP.CN n M) (λ(k:V)=>eD fw)=C:=by rw[TP.QlK hM h2,List.map_map];exact _=mx (aZ2 M) (λ i=>bP3 (TP.sx aZ1 M true (i+1)-TP.sx aZ1 M true i:V));rw[u];rfl
 have Y2:V->En:=λ i=>[ax6 K,an1,Ý M,br4^bP9 i N M true,Ý (S i:V),bq7^ĕ (S (i+1)-S i:V),dt4 (S (i+1):V),bq7^pk (aE8 N M i)^λ r=>cb4]
 let c:=vd (b:=aM5 d 5 d (q8 env')) Y2 (λ_=>w) C (by rw[cl];exact aZ2 M<_;lia) (λ i d hd=>by
  let hi:i<q:=bK5 bc5 cl
  let U:d=ĕ (S (i+1)-S i:V):=Ex (â (Ů C=_)^jA hi) hd^an9 hd
  subst U;let s1:=z i hi;let s2:=v (i+1) hi;let(_,c1):=TP.qG (rows:=N) (m:=M) (fork:=true) À (λ_=>hM) À hi;let L:aE8 N M i=cC8 (N.drop^S i) (S (i+1)-S i):=Y;obtain⟨G,rs,E⟩:∃G rs,aE8 N M i=G::rs:=by
   cases e:aE8 N M i with
   |nil=>rw[e]at c1;simp at c1
   |cons a b=>show#[a,b,Y]
  have I:Sl:=ņ (S (i+1)-S i:V)
  have A:Sl:=br4^bP9 i N M true
  have R:En:=[ax6 K,an1,Ý M,A,Ý (S i:V),I,dt4 (S (i+1):V),bq7^pk (aE8 N M i)^λ r=>cb4]
  have O:En:=[ax6 K,an1,Ý M,A,Ý (S i:V),I,Ý (S (i+1):V),bq7^pk (aE8 N M i)^λ r=>cb4]
  have o:En:=[ax6 K,an1,Ý M,A,Ý (S i:V),I,Ý (S (i+1):V),!(pk (aE8 N M i)^λ r=>cb4)]
  exact q8 R w=_;apply Ō aF O w (Qv (d:=Í (S (i+1):V)) ?_) ?_
  .rw[jQ (i:=S i) (j:=S (i+1)-S i) Ã Ã,ī<|S i+(S (i+1)-S i)=S (i+1)]
  apply aO4 o w ?_
  .let sl:bO Å (Zi ě) cL3 O w>(Ù<|cC8 (K.drop^S i)<|S (i+1)-S i,w):=QkH Ã Ã Ã À;apply ϔ (yI (m:=M6) (nw:=false) (jF sl) an5 aQ5^by rw[A8,Bq,P];exact _<Ĺ;have:n<=ej:=hl;lia)
   .let hx:=Cb^Bv hx;let(k,hk,Y):=F0;show bn1 0 Y Y Y
   .rw[List.map_take,List.map_drop,Qgq hm hf hn first,L,List.map_take,List.map_drop]
  let tp:ZL (Ħ (ù ck 0) (ð Kw^cB8 ck)^Dh^á (nB Û ě)^nB Û o6) o w>(XQ N M true i,w):=by let t1:AK ck bG o w>(cb3 G,w):=qg (i:=0) Ã Y^ö E;let t2:wV Kw (cB8 ck) o w>(õ^(LL (aE8 N M i) r^eD r.1).drop 1,w):=PB^QnP (a:=1) Ã Y;let t3:=QnS (a:=first+S i) (b:=first+S (i+1)) (w:=w) (env:=o) (jQ Ã Ã:Qg Zm Û ě o w=_) (jQ Ã Ã:Qg Zm Û o6 o w=_) À^A3 (n<=ej) hl;rw[Z7 (J4 t1 t2 t3) å];ext XQ km Km oM;rw[ī<|first+S (i+1)-(first+S i)=S (i+1)-S i,<- Qjy rows m fork first (S i) (S<|i+1) s2,<- List.map_drop];rw[E];rw[<- L,E];rfl
  apply ϩ (HV tp (Y:o[3]?=_)^by rw[Br,List.length_range];have:q<n:=ql;have:n<=ej:=hl;lia);apply ϔ^Qv Ã;exact í (ba0 [_,_,_,Sl.acc<|bP9 i N M true++[XQ N M true i],cZ5 ↥(S (i+1):V),_,_,_],w)>(ba0 [_,_,_,Sl.acc^bP9 (i+1) N M true,cZ5 ↥(S (i+1):V),_,_,_],w);rw[List.range_succ,List.map_append];rfl)
 rw[cl]at c;apply aB9^(Y2 q).set 3^Ü^Ù^Jb N M true;apply Qo (Y:BZ 3 _ w>(ō _,w))^Ō aF ai1 w (Qv (d:=Í (S 0:V))^ö Q)^Ō aF (Y2 q) w ?_^â (QG Ă ((Y2 q).set 3^Ü^Ù^Jb N M true) w=_) cN8;apply VQ (jF (f:=W0 qq at5 ß) (ds:=C) ?_) c;apply Qgi (x:=ĕ n) (y:=ĕ M) ?_ Ã^ZQ (ĵ (Qf7 hM F h2 hl) cn) w;rw[xg (ds:=K) Ã,P]
def Qi6{n:V}(h:1<=n):ixN n (-1)>(n-1):=by ext ixN;rw[C7 Á,aq9];congr 1;lia
def emp:DV:=õ [cF3,cc1,cc1,Ě,Ě]
def Qmo(r:Int)(J:Hs):JG [bo0,Í r] (J++[bO5 è])>(Ě,J++[i6 r (wp+1) 0 0 0,Ù df8]):=by
 have E:En:=[! eJ,Ý r]
 let st:∀{X:ER} {t t':Â OV} {f:Str} {e:aD} {v:DV},e E (J++ŭ è X::t)>(v,J++ŭ è X::t')->⇑X<ej->Zq è f Å e E (J++ŭ è X::t)>(bC1,J++ŭ è^Xx f v X::t'):=λ{X t t' f e v} a hl=>by apply ϔ^ZV a Ã (U8 ..) hl;rw[Io]
 let nl:Yw (Ç^eC^õ [cF3,cc1,cc1,Ě,Ě]) E (J++[ŭ è [(ab1, Í r)]])>(ã<|wp+1,J++ŭ è [(ab1, Í r)]::[Ù df8]):=au3 (í (Ty ⇑(J++[OV.ins è [(ab1, Í r)]]),(J++[_])++[hH df8])=_) Am A7
 show aM3 E (Qo (st (X:=[]) (t:=[]) (t':=[]) Ã Á)<|Ļ (st nl<|fP<|(1:V)<ej) (st Y<|en<|fP<|(2:V)<ej)<|Qo (st Y<|en<|fP<|(3:V)<ej)<|st Y<|en<|fP<|(4:V)<ej)
def dM(w:Hs)(O4 t b:Int)(ps:Þ):Hs:=w++[i6 O4 (ĳ+1) t 0 b,Ù ps]
def uh(w:Hs)(O4 t b:Int)(ps:Þ):(cO1 t b)[ĳ]?>(i6 O4 (ĳ+1) t 0 b):=Ğ dM
def Hh(w:Hs)(O4 t b:Int)(ps:Þ):OM (cO1 t b) (ĳ+1) ps:=fT dM aL1 Nat.add_sub_cancel_left
def D4(w:Hs)(O4 t b t' c:Int)(ps a:Þ):((cO1 t b).set ĳ^i6 O4 (ĳ+1) t' 0 c).set (ĳ+1)^Ù a=cO0 t' c a:=by ext dM;rw[ϲ _ Ĕ,Nat.sub_self,ϲ _ À,Nat.add_sub_cancel_left];rfl
def QkG(w:Hs)(O4 t b t' a:Int)(ps:Þ):(cO1 t b).set ĳ^i6 O4 (ĳ+1) t' 0 a=cO1 t' a:=fT dM (ϲ _ Ĕ) Nat.sub_self
def D6{w:Hs}{i:V}(h:i<ĳ)(O4 t b:Int)(ps:Þ):Ů^cO1 t b=Ů w:=Ag h
def QcE{r:Int}{fa:cu}{hp0 J:Hs}(ha:aJ4 hp0>([Í r],J)):Yo è 2 JG fa env hp0>(bo0,dM J r 0 0 df8):=by ext Yo;rw[bZ1];let a:XH (bO5 è) J>(bo0,J++[bO5 è]):=Y;let c:QE (FC (hF [eD r]+1) 2) J>((),J):=Y;rw[aP2,Qe a,Qe^Qmo r J];rfl
def QcC{w:Hs}{a O4:V}{ps:Þ}(ha:OM w a ps)(h1:1<=ϣ)(hl:ϣ<=5000):Vu [Χ,ĕ O4] w>(aB7,cO1 (Ñ (ϣ-1:V)) ϣ):=by
 let C:a<ĳ:=Zw ha;let j:∀t b r,OM (cO0 t b r) a ps:=λ t b r=>Æ (D6 C) ha
 obtain⟨c,pr,ep⟩:∃c pr,ps=c::pr:=by cases ps with|nil=>simp at h1|cons x y=>show#[x,y,Y]
 have e1:Sl->En:=λ z=>[! Ű,Ý O4,! Ĵ,z]
 apply aB9^e1^sl3 (λ i=>cZ6 i) pr.length;apply aO4 (e1 ń) (cO0 0 0 df8)^QcE ύ;apply Ō aF (e1 ń) (cO0 0 1 [c]) (Zz^QZ (a:=ĳ) Ã bM4 (zH ..) (ZP Y^zZ (i:=0) (d:=c) Ã (j _ _ _) Y^ö ep) Y^as7 (UQ (i:=0) (d:=c) bM4 (Hh ..) À Ê) D4) ?_
 have Y2:V->En:=λ i=>e1^bq7^cZ6 i
 have W:V->Hs:=λ i=>cO0 0 (Ñ (1+i:V))<|c::pr.take i
 let F:pr.length+1=ϣ:=ö ep
 let e:=vd (b:=aM5 d 3 d (xb env')) Y2 W pr À (λ i d hd=>by
  let hi:i<pr.length:=bc5;let u:cZ6 i=d:=Ũ Ck hd
  exact xb (e1 au7) as2>(ō^e1^Ü^cZ6 i,W (i+1));rw[u];let E:Xs [aB7,d] as2>(ĕ ⇑(c::pr.take i),W (i+1)):=à (Ol (pg:=d) bM4 (Hh ..) À^ah2 A9 A8) (by rw[D4];exact í (_,cO0 0 (Ñ (1+i:V)+1) (c::pr.take i++[d]))>(_,cO0 0 (Ñ (1+(i+1):V)) (c::pr.take (i+1)));rw[List.take_add_one,hd,ī<|(Ñ (1+i:V)+1)=Ñ (1+(i+1):V)];rfl)
  show Zz (QZ (a:=ĳ) Ã bM4 (Kq ..) ύ Y E))
 apply Ō aF bZ8 (cO1 0^Ñ (1+pr.length:V)) ?_ ?_
 .apply ϔ^VQ (jF (ds:=pr) ?_) e
  .have:=QkW (a:=1) (n:=a) (ds:=ps) (f:=Å) (g:=bn) (env:=ai1) (J:=bz8) Ã (j _ _ _) Y;show this.trans (ö ep)
  .exact í ((_,bZ8),cO0 0 _ (c::pr.take pr.length))=_;rw[List.take_length,<- ep]
 let o:=QaW (i:=ϣ-1) (J:=cO1 0 (Ñ (1+pr.length:V))) bM4 (Hh ..) À;rw[QkG]at o;apply Ō aF bZ8 (cO1 (Ñ (ϣ-1:V)) ϣ) (Zz<|QZ (a:=ĳ) Ã bM4 (Qd0 ..) (QL (v:=ĕ (ϣ-1:V)) ?_) Y<|o.trans<|Ϻ<|ī<|Ñ (1+pr.length:V)=Ñ ϣ) cN8;rw[GF (cO2 n a^j _ _ _) Y];congr 3;lia
def KH(M:V):V->TP.Rw->V->cH3 (V->V->Þ->Þ)
 |0,_,_,_,_,_,P=>P
 |k+1,rows,m,fork,lv,first,P=>É (Pe<=1) P<|KH M k ci2 M true (lv+1) ci7<|P++Xw ci2 M true (lv+1) ci7
def Nt{n m:V}(a:1<=m):TP.qn n m<=aX0:=by let(q1,c,e):=TP.Jc (n:=n) a;have:(TP.qn n m-1) * 1<=(TP.qn n m-1) * m:=ż a;lia
def VB{o:aD}{fa:cu}{J hp1:Hs}{a b:V}{ds es:Þ}(i:cC5>(Χ,J))(h:J[a]?>ū)(ha:cV2>([da5],hp1))(h1:hp1[a]?>ū)(e:OM hp1 b es)(hl:ê+cI3<=Ĺ):Zo Đ Xm o fa env J>(Ě,hp1.set a ch9):=by
 ext Zo;rw[Qe i];let c:jr Đ Ű J>((),J):=ĸ ((cL4 >>= _) J=_) aP9
 rw[aP2,bZ1];exact(cL4 >>= _) hp1=_;rw[ů h1];exact(Zv b >>= _) hp1=_;rw[ů e];exact(ag (ê+cI3<=lim) >>= λ_=>VS a ch9 >>= λ_=>ï DV.non) hp1=_;rw[LH (A6 (ê+cI3) lim) cq3];rfl
def Qck{rows:TP.Rw}{m:V}(a:1<=m)(h:¬ Pe<=1):ae5 1:=İ^ct7 n a
def Qg1{T:DV}{O4:V}(hr:2<=O4)(I:O4<=50)(w:Hs):∀(k:V)(rows:TP.Rw)(m:V)(fork:Bool)(lv first:V)(P:Þ)(t:Hs)(e:V),Pe<=k->k<e->1<=m->(bO2->3<=m)->ag7 ej->ci7=first+Pe->ci7+2 * Pe<=2000 ->
  ∃i fs t',Xh (eB^Pd fu cR3) VJ e [! T,ņ O4,ņ lv,ax6 ag0,! Ĵ] (w++Ù P::t)>(ō [! T,Ý O4,! i,! fs,! Ĵ],w++Ù^KH (O4+1) k rows m fork lv first P::t')/\hF^KH (O4+1) k rows m fork lv first P<=ci7+2 * Pe/\ci7<=⇑(KH (O4+1) k rows m fork lv first P):=by
 intro k;induction k with
 |zero =>
  intro rows m fork lv first P t e h1 h2 o
  have:=(bA4 n o).1;lia
 |succ k Y2 =>
  intro rows m fork lv first P t e hq G o hf hl hP F
  obtain⟨e,Y⟩:∃f,e=f+1:=#[e-1,À];let v:eB (Pd fu cR3) [! T,ņ O4,ņ lv,ax6 ag0,! Ĵ] (w++Ù P::t)>(Af 1 Pe,w++Ù P::t):=by
   apply ϔ^QK^vj (xg (ds:=ag0) Ã) Y;rw[yM];congr 2;by_cases c:1<Pe
   .rw[Ea c,ar3]
   .rw[Ec c,an8]
  ext KH;by_cases c:Pe<=1
  .rw[C8 c]
   apply#[Í lv,bB3,t,Qla (v.trans^Ϻ an8),À,Ĕ]
  .rw[C7 c]
   let O:=Qck o c;let R6:=ct7 n o
   have N:=ci2
   let z:aZ1=Pe:=TP.Ki rows m fork first
   let Sw:aZ2 (O4+1)<Pe:=Æ z^TP.BH À À
   let u:2 * aZ2 (O4+1)<=Pe+1:=by let(a1,a2,a3):=TP.Jc (n:=aZ1) (ī<|1<=O4+1);have:(aZ2 (O4+1)-1) * 2<=(aZ2 (O4+1)-1) * (O4+1):=ż À;lia
   have Q:=P++Xw N (O4+1) true (lv+1) ci7
   let C:⇑Q=ci7+aZ2 (O4+1):=Ϗ Am jx
   have E:DV->DV->En:=λ x y=>[! T,Ý O4,! x,! y,! Ĵ]
   let J:OM (w++Ù P::t) ĳ P:=U8 w _ t;let s1:Ep 2 V5 bn (E ↥lv bB3) (w++Ù P::t)>(ō^E ↥(Ñ lv+1) bB3,w++Ù P::t):=Y;let c1:(Ñ lv+1)=Ñ (lv+1:V):=Ê
   let s2:Qy 3 qp (Ħ Ă (Qg zi aO1 cR3)^aD9 Û) (E ↥(Ñ lv+1) bB3) (w++Ù P::t)>(Ù^Jb N (O4+1) true,w++Ù P::t):=by apply og (J4 Ã (v':=ĕ first) ?_^jQ (j:=1) Ã Y)^Qmf o hf O À À À À À;rw[GF (cO2 n ĳ J)^xg (ds:=ag0) Ã,yM];congr 3;lia
   let L:=kt (w++Ù P::t) N (O4+1) true (lv+1) ci7 À;let s3:Zo Đ Xm ě (Ç^Qy 3 xP^Ħ ß Ă aO1) (E ↥(Ñ lv+1)^Ù^Jb N (O4+1) true) (w++Ù P::t)>(Ě,w++Ù Q::(t++[Ù^Xw N (O4+1) true (lv+1) ci7])):=by
    let r:(w++Ù P::t)++[hH^Xw N (O4+1) true (lv+1) ci7]=w++Ù P::(t++[Ù^Xw N (O4+1) true (lv+1) ci7]):=Ê
    apply ĵ (VB (a:=ĳ) (b:=⇑(w++Ù P::t)) (ds:=P) (es:=Xw N (O4+1) true (lv+1) ci7) (hp1:=w++Ù P::(t++[Ù^Xw N (O4+1) true (lv+1) ci7])) Ã J (QL ?_) (U8 w _ _) ?_^ĩ jx) Io
    .apply og (bZ6 Ã^cO2 n ĳ J) ?_
     rw[c1,<- r];show L
    .rw[<- r,bh7,Nat.sub_self];rfl
   let step:VJ (E ↥lv bB3) (w++Ù P::t)>(ō^E ↥(Ñ (lv+1:V))^Ù^Jb N (O4+1) true,w++Ù Q::(t++[Ù^Xw N (O4+1) true (lv+1) ci7])):=ì c1^Ļ s1 (Qv s2)^Zz s3
   let(i,fs,t',R,U,r3):=Y2 N (O4+1) true (lv+1) ci7 Q (t++[Ù^Xw N (O4+1) true (lv+1) ci7]) e À À À bI7 À C À;apply#[i,fs,t',à (UO (v.trans^Ϻ ar3) step) R,Bi U À,Bi À r3]
def xI(rows:TP.Rw)(O4:V):Þ:=KH (O4+1) (Ā O4) rows O4 false 0 0^Xw rows O4 false 0 0
def kA{w:Hs}{T:DV}{rows:TP.Rw}{O4:V}(r:cY w T rows)(u:2<=O4)(j:O4<=50)(hl:ag7 300):∃t,jl [T,ĕ O4] w>(ã ⇑(w++t),cN9 (w++t) (Ñ (⇑ax9-1:V)) ⇑ax9 ax9)/\1<=⇑ax9/\hF ax9<=2000:=by let y:=ct7 n<|ī<|1<=O4;let q1:=(bA4 n<|ī<|1<=O4).1;let lf:=Qmv r (ī<|1<=O4) À À;let v:=kt w rows O4 false 0 0 À;let(o,fs,t',e,c,i):=Qg1 (T:=T) u j w (Ā O4) rows O4 false 0 0 (Xw rows O4 false 0 0) [] Ĺ Ĕ À À Ê À (ĩ jx) (ĩ jx);rw[jx]at c i;let c:⇑ax9<=Ā O4+2 * Ā O4:=c;let i:Ā O4<=⇑ax9:=i;apply#[Ù ax9::t',?_,À,À];let x:=QcC (w:=w++Ù ax9::t') (a:=ĳ) (O4:=O4) (ps:=ax9) (U8 w _ t') À À;apply aB9 [! T,Ý O4,! o,! fs,! Ĵ];apply aO4 [! T,Ý O4,ņ (0:V),ń,ń] w Y;apply aO4 [! T,Ý O4,ņ (0:V),ax6^IH O4 false,ń] w^Pi Ã lf;apply aO4 [! T,Ý O4,ņ (0:V),ax6^IH O4 false,! Ĵ] (w++[Ù^Xw rows O4 false 0 0])^og (bZ6 Ã Y) v;apply ϩ (show Vy _ _=_ by ext Vy;show e);show Qt (Pi Ã x)
def Z4(l:Int)(ks ps:Ĥ)(hi sd:Ć):DV:=õ [Í l,ee,dn5,opt hi,opt sd]
def SQ(hi:Ć)(k:Int):Bool:=match hi with
 |none=>false
 |some h=>A6 h k
def aM(ks:Ĥ)(k:Int):V:=⇑(aj9 x^A6 x k)
def aZ(ks:Ĥ)(k:Int):V:=⇑(aj9 x^Af x k)
def YF(ks:Ĥ)(k:Int):mh<=hU:=B9 _ _
def UY(ks:Ĥ)(k:Int):sT<=hU:=B9 _ _
def Qq6{f:aD}(hf:i0>(rc,J)):lK f env J>(ds,J):=fN lK hf
def MY{t:cH}{p:cm5}(ks:Ĥ)(k:Int)(hl:NC hU)(a:∀x J,t [Ý x,Ý k] J>(p x,J))(J:Hs):wV ZG (bp0 (lK Å) [1] t Å) [! ee,Ý k] J>(Í ⇑(ks.filter p),J):=by
 let q:Zd false (cM^lK Å) [1] t Å [! ee,Ý k] J>(Ù^mw^LL (ks.filter p) x x,J):=hJ Zd (Qe^VU^Qq6 (ds:=ē) Ã)^à (Qe^Qdb (p:=p) (g:=λ x=>x) ks (λ i hi=>YI ē i (Æ Br hi) J) (λ x=>a x J) (λ x=>Y) À) Y
 rw[oC q^Qb1 ..,Br,Br]
def Ig(ks:Ĥ)(k:Int)(hl:NC hU):Z9 [ee,Ll]=wX mh:=RF λ J=>aN5 [! ee,Ý k]^MY ks k hl an5 J
def WD(ks:Ĥ)(k:Int)(hl:NC hU):YN [ee,Ll]=wX sT:=RF λ J=>aN5 [! ee,Ý k]^MY ks k hl an5 J
def QfW(l:Int)(ks ps:Ĥ)(hi sd:Ć)(k:Int):ji [aN0,Ll]=fz^SQ hi k:=l3 hi
def QpL(l:Int)(ks ps:Ĥ)(hi sd:Ć)(k:Int)(hl:NC hU)(J:ϣ=hU+1):jk [aN0,Ll]=wX^ps.getD mh 0:=by
 let h:=YF ks k;let a:=Ra ps (i:=Ñ mh) À À;rw[Bz]at a;apply qC^Ys^ct6 x dn5 y mh Y (U7 (x:=ee) (y:=Ll) Y Y^Ig ks k hl) ?_<;>try show[]
 simp[bH,a]
def Qlh(l:Int)(ks ps:Ĥ)(hi sd:Ć)(k:Int)(hl:NC hU)(J:ϣ=hU):X6 [aN0,Ll]=ï^pH sT mh Ě^Í^ps.getD sT 0:=by
 let h:=YF ks k;let o:=UY ks k;apply aT6 [! aN0,Ý k,! ee,Ý sT] ?_;apply LK d ee Y;apply LK d (Í sT)^U7 (x:=ee) (y:=Ll) Y Y^WD ks k hl;let j:eB (Qg eE Ă^cT7 Z9 Û) [! aN0,Ý k,! ee,Ý sT]=ï^FC sT mh:=by apply Hi^ct6 x (Í sT) y mh Y (U7 (x:=ee) (y:=Ll) Y Y^Ig ks k hl) ?_;rw[qx];congr 2;rw[Bool.eq_iff_iff];simp only[beq_iff_eq,decide_eq_true_eq];lia
 by_cases c:sT=mh
 .rw[C8 c];show H0 (à (W4^j.trans^Ğ c)^Ys Y)
 .rw[C7 c];apply ϔ^Ji^à (W7^j.trans^Ğ c) Y;let e:sT<hU:=by
   have:sT<=mh:=by ext aZ aM;rw[<- List.countP_eq_length_filter,<- List.countP_eq_length_filter];show List.countP_mono_left λ x _ hx=>by simp at hx ⊢;lia
   lia
  let a:=Ra ps (i:=Ñ sT) À À;rw[Bz]at a;show Ys (ct6 x dn5 y sT Y Y^my bH a)
def Qbw{f:aD}{g:cu}{x:DV}(h:i0>(x,hp1))(h':bu6>(xs,hp2)):cL8 f g J>(x::xs,hp2):=fT Qc Tu^Qe h'
def Hn{F:Em}{f e a i:aD}(h:ϰ=cG0)(h':e env=ï y)(c:bJ2=ï z)(h3:i env=ï u)(j:F [x,y,z,u]=cl5):Qy 4 F (d5 f e a i) env=cl5:=by simp[Qy,Qc,Qk,h,h',c,h3,QE,j]
def KK(l:Int)(ks ps:Ĥ)(hi sd:Ć)(a b:DV):jL [aN0,a,b]=af3 [Í l,a,b,opt hi,opt sd]:=Y
def Qtk(ks ns:Ĥ)(a b:V)(h:hU<=ej)(hn:sj<=10):(bb5 x (lu ee none^wh a) y (Zm x^õ dA) d (lu ee (wh b) none) (Zm y d):Ģ)=af3^mw (LB a++ns++ad2 b):=by rw[uo,ul];simp only[Ed,Zm];rw[Xf Β];simp only[QE,if_true,Ed];rw[Xf Β];simp[List.map_take,List.map_drop]
def Wu{f g h q:aD}{ks ns:Ĥ}{a b:V}(hf:ϰ=ï ee)(e:ao3=wX^Ñ a)(hh:h env=wX^Ñ b)(hq:q env=af3 dA)(hl:hU<=ej)(hn:sj<=10):Qg Zm (nB (bO f ZE aJ3) q) (bR6 f h) env=af3^mw (LB a++ns++ad2 b):=by
 let e1:bO f ZE aJ3 env=lu ee none^wh a:=by simp only[bO,hf,e,ZE,Zi,eG,Ed]
 let c:bO f (Zi h) ZE env=lu ee (wh b) none:=by simp only[bO,hf,hh,ZE,Zi,eG,Ed]
 rw[<- Qtk ks ns a b hl hn];simp only[Qg,e1,c,hq,Ed,bind_assoc]
def KW(l:Int)(ks ps nk nw:Ĥ)(hi sd:Ć)(k:Int)(hl:NC hU)(J:NC ϣ)(h1:nk.length<=10)(h2:nw.length<=10):jN [aN0,Ll,õ^nk.map .int,õ^nw.map .int]=ï^aM7 l (LB sT++nk++cT9) (ps.take sT++nw++ps.drop mh):=by apply aT6 [! aN0,Ý k,sB^nk.map .int,sB^nw.map .int,! ee,sB ϫ,ņ sT,ņ mh] ?_;apply LK d ee Y;apply LK d dn5 Y;apply LK d (ĕ sT)^U7 (x:=ee) (y:=Ll) Y Y^WD ks k hl;apply LK d (ĕ mh)^U7 (x:=ee) (y:=Ll) Y Y^Ig ks k hl;show Ys (HA (x:=aN0) Y (Wu Y Y Y Y À h1) (Wu Y Y Y Y À h2)^KK l ks ps hi sd _ _)
def rT(ks:Ĥ)(c:V)(k:Int):Ĥ:=LB c++k::ad2 c
def QqV(ks:Ĥ)(c:V)(k:Int)(h:hU<=ej):(bb5 a (lu ee none^wh c) b (Zm a^õ [Ll]) d (lu ee (wh c) none) (Zm b d):Ģ)=af3^mw^rT ks c k:=by rw[uo,ul];simp only[Ed,Zm];rw[Xf Β];simp only[QE,if_true,Ed];rw[Xf Β];simp[rT,List.map_take,List.map_drop]
def SK{f g h:aD}{ks:Ĥ}{c:V}{k:Int}(hf:ϰ=ï ee)(a:ao3=wX aU4)(j:h env=wX k)(hl:hU<=ej):Qg Zm (nB (bO f ZE aJ3)^aw6 h) (bR6 f g) env=af3^mw^rT ks c k:=by
 let e1:bO f ZE aJ3 env=lu ee none^wh c:=by simp only[bO,hf,a,ZE,Zi,eG,Ed]
 let e:bO f aJ3 ZE env=lu ee (wh c) none:=by simp only[bO,hf,a,ZE,Zi,eG,Ed]
 let i:ZL (Ç h) env=af3 [Ll]:=by simp only[ZL,Qc,Qk,j,Ed];rfl
 rw[<- QqV ks c k hl];simp only[Qg,e1,e,i,Ed,bind_assoc]
def QgH(l:Int)(ks ps:Ĥ)(hi sd:Ć)(k kid:Int)(hl:NC hU)(J:ϣ<=ej):jM [aN0,Ll,Í kid]=ï^aM7 l (rT ks mh k)^rT ps (mh+1) kid:=by
 apply aT6 [! aN0,Ý k,Ý kid,! ee,sB ϫ,ņ mh,Ý<|Ñ mh+1] ?_;apply LK d ee Y;apply LK d dn5 Y;apply LK d (ĕ mh)^U7 (x:=ee) (y:=Ll) Y Y^Ig ks k hl;apply LK d (Í<|Ñ mh+1) Y;apply Ys^HA (x:=aN0) (y:=õ (mw^rT ks mh k)) (z:=õ (mw^rT ps (mh+1) kid)) Y ?_ ?_^KK l ks ps hi sd _ _
 .show SK Y Y Y À
 .show SK Y (AE ((ï (eD<|Ñ mh+1):Ģ)=_)<|ī<|(Ñ mh+1)=Ñ (mh+1:V)) Y J
def ZR(l:Int)(n:V):V:=pH l 0 (n / 2)<|n / 2+1
def NK(l:Int)(ks ps:Ĥ)(hi sd:Ć)(a:Int):DV :=
 õ [Z4 l dh4 (ps.take^ZR l hU) (í^ks.getD dh3 0)^í a,aM7 l (ad2^ZR l hU)^ps.drop^ZR l hU,Í^ks.getD dh3 0]
def Qg3(l:Int)(ks ps:Ĥ)(hi sd:Ć)(c:Int)(h3:3<=hU)(hl:NC hU):VX [aN0,Í c]=ï^NK l ks ps hi sd c:=by
 let E:(Ñ hU) / 2=Ñ (dh3:V):=À
 let a:=Ra ks (i:=Ñ (dh3:V)) À À;rw[Bz]at a;let r:pH l 0 (bP3 (dh3:V))^Í (Ñ (dh3:V)+1)=ĕ (ZR l hU:V):=bl7 ZR
 generalize v:ZR l hU=C at r;generalize z:ks.getD dh3 0=e at a;let u:cU (eB^Ò eE ß 0) Ń (aD9 Ń) [! aN0,Ý c,aJ8,! ee,sB ϫ,ņ (dh3:V),Ý e,ń,ń,ń]=wX^Ñ C:=by
  rw[<- r];by_cases q:l=0
  .simp[cU,eB,Qg,Qb,eC,qx,lO,q]
  .have:iN l 0:=Ë q
   simp[cU,eB,Qg,Qb,eC,qx,lO,q,this,QhW]
 ext NK;rw[v,z];apply aT6 [! aN0,Ý c,aJ8,! ee,sB ϫ,ņ (dh3:V),Ý e,ņ C,!(Z4 l dh4 bA5 bB4 cF5),!(aM7 l (ad2 C)^ps.drop C)] ?_;apply LK d (Í l) Y;apply LK d ee Y;apply LK d dn5 Y;apply LK d (ĕ (dh3:V)) ?_
 .apply ct6 x (ĕ hU) y 2 ?_ Y^ĵ (Xd _ 2 Á Á) E;exact(ï (bP3 ⇑(ks.map DV.int)):Ģ)=_;rw[Br]
 apply LK d (Í e)^XD (x:=ee) (y:=ĕ (dh3:V)) Y Y^Qmr a;apply LK d (ĕ C) u;apply LK d (Z4 l dh4 bA5 bB4 cF5) ?_
 .let j:=QbL (f:=Ă) (g:=Ń) (env:=[! aN0,Ý c,aJ8,! ee,sB ϫ,ņ (dh3:V),Ý e,ņ C,ń,ń]) (ds:=ē) (m:=dh3) Y Y;let o:=QbL (f:=ě) (g:=ck) (env:=[! aN0,Ý c,aJ8,! ee,sB ϫ,ņ (dh3:V),Ý e,ņ C,ń,ń]) (ds:=ϫ) (m:=C) Y Y;simp only[List.set_cons_succ,List.set_cons_zero,Ba,List.map_nil,A9,List.length_nil,List.cons_append,List.nil_append,List.replicate,ZL,Qc,Qk,j,o,Ed];simp only[Z4,List.map_take,opt];rfl
 apply LK d (aM7 l (ad2 C)^ps.drop C) ?_
 .let j:=QbK (f:=Ă) (g:=ck) (env:=[! aN0,Ý c,aJ8,! ee,sB ϫ,ņ (dh3:V),Ý e,ņ C,!(Z4 l dh4 bA5 bB4 cF5),ń]) (ds:=ē) (m:=C) Y Y;let o:=QbK (f:=ě) (g:=ck) (env:=[! aN0,Ý c,aJ8,! ee,sB ϫ,ņ (dh3:V),Ý e,ņ C,!(Z4 l dh4 bA5 bB4 cF5),ń]) (ds:=ϫ) (m:=C) Y Y;simp only[List.set_cons_succ,List.set_cons_zero,Ba,List.map_nil,A9,List.length_nil,List.cons_append,List.nil_append,List.replicate,ZL,Qc,Qk,j,o,Ed];simp only[Z4,List.map_drop];rfl
 show Ys Y
def YJ(p:TR.Pg):ũ=Z4 p.lv p.ks p.ps p.hi^bM5 n iq:=by ext aK Z4;cases p.sd<;>rfl
def Qg5(p:TR.Pg)(k:Int):ji [ũ,Ll]=fz^TR.JU p k:=by rw[YJ,QfW];ext SQ TR.JU;cases p.hi<;>rfl
def Qqp(p:TR.Pg)(k c:Int)(hl:cf9)(J:fA=μ+1)(a:p.ps[cZ7 k]?>c):jk [ũ,Ll]=wX c:=by rw[YJ,QpL _ _ _ _ _ _ hl J];rw[Ck,â (p.ps[TN]?>c) a];rfl
def QjX(p:TR.Pg)(k:Int)(hl:cf9)(J:fA=μ):X6 [ũ,Ll]=ï^opt^TR.Ze p k:=by
 rw[YJ,Qlh _ _ _ _ _ _ hl J];ext TR.Ze;by_cases h:sU=TN
 .rw[cC9,C8^â (bM6 k=cZ7 k) h];rfl
 .rw[df3,C7^â (¬ bM6 k=cZ7 k) h];let h1:=TR.P_ p.ks k;let h2:=TR.YF p.ks k;let h3:¬ bM6 k=cZ7 k:=h;rw[Ck,â (p.ps[sU]?>(p.ps[bM6 k]' À))^Ab _,Ab<|ī<|bM6 k<fA];rfl
def Qm5(p:TR.Pg)(k x:Int)(hl:cf9)(J:NC fA):xQ [ũ,Ll,Í x]=ï^aK^TR.Q7 p k x:=by let e:=KW p.lv p.ks p.ps [k] [x] p.hi (bM5 n iq) k hl J Ê Ê;rw[YJ,YJ];apply aT6 [!(Z4 p.lv p.ks p.ps p.hi^bM5 n iq),Ý k,Ý x]^Ys^Hn Y Y Y Y cK1;simp[TR.Q7,TR.aZ,TR.aM,aZ,aM]
def QdP(p:TR.Pg)(k:Int)(hl:cf9)(J:NC fA):US [ũ,Ll]=ï^aK^TR.without p k:=by let e:=KW p.lv p.ks p.ps [] [] p.hi (bM5 n iq) k hl J Ê Ê;rw[YJ,YJ];apply aT6 [!(Z4 p.lv p.ks p.ps p.hi^bM5 n iq),Ý k]^Ys^Hn Y Y Y Y cK1;simp[TR.without,TR.aZ,TR.aM,aZ,aM]
def QdO(p:TR.Pg)(k:Int)(c:V)(hl:cf9)(J:fA<=ej):jM [ũ,Ll,Í c]=ï^aK^TR.Zt p k c:=by rw[YJ,QgH _ _ _ _ _ _ _ hl J,YJ];rfl
def Qm4(p:TR.Pg)(O4:V):qE [ũ,Í O4]=fz^Af O4 μ:=by
 let e:Af (Ñ O4)^dm8 lS=Af O4 μ:=by rw[Br];congr 1;rw[eq_iff_iff];lia
 apply aT6 [! ũ,Ý O4]^Ys^ct6 x (ĕ ⇑lS) y O4 Y Y^ϔ^Qml _ _;rw[<- e]
def Qg6(p:TR.Pg)(n:V)(h3:3<=μ)(hl:cf9):VX [ũ,bG7]=af3 [aK^TR.Zk p n,aK^TR.Q6 p,Í^TR.XJ p]:=by
 rw[YJ,Qg3 _ _ _ _ _ _ h3 hl];ext NK;rw[YJ,YJ];let a:ZR p.lv μ=TR.ZR p:=by
  ext ZR TR.ZR TR.mid;by_cases h:aQ4
  .simp[h]
  .rw[df3,ec]
 rw[a];rfl
structure At(J:Hs)(n k a f q:V)(S:TR.Sh)(w:TR.Wk):ä where
 h1:YP>(i6 S.O4 k S.top S.rd S.wr)
 h2:OM J k δ
 h3:J[a]?>(fW n f q w)
 h4:J[f]?>(cS2 w.O5)
 h5:aD8 J q w.pairs
structure iJ(n k a f q:V):ä where
 nk:n≠k
 na:n≠a
 nf:n≠f
 nq:n≠q
 ka:k≠a
 kf:k≠f
 kq:k≠q
 af:a≠f
 aq:a≠q
 fq:f≠q
def Fr(J hp':Hs)(n k a f q:V):ä:=wp<=hp'.length/\∀i,i<wp->i≠n->i≠k->i≠a->i≠f->i≠q->Ů hp'=Ů J
variable{J hp' hp2:Hs}{n k a f q:V}{S S':TR.Sh}{w w':TR.Wk}
def Fr.refl:Fr J J n k a f q:=#[Ĕ,λ_ _ _ _ _ _ _=>Y]
def Fr.trans(x:Fr J hp' n k a f q)(y:Fr hp' hp2 n k a f q):Fr J hp2 n k a f q:=#[Bi x.1 y.1,λ i hi c e j o r=>à (y.2 i (Ay hi x.1) c e j o r)^x.2 i hi c e j o r]
def gs{n m:V}{Y0:Ï OV}(h:n≠m)(h':J[m]?=Y0):(fS n X)[m]?=Y0:=à (Zn _ _ _ _ h) h'
def fM{n:V}(h':YP>Y0):ID^fS n X>X:=J5 _ _ _^ö h'
def At.walk(A:At J n k a f q S w)(D:iJ n k a f q)(w':TR.Wk)(e1:w'.O5=w.O5)(e:az2):At (fS a^fW n f q w') n k a f q S w'/\Fr J (fS a^fW n f q w') n k a f q :=
 #[#[gs D.na.symm A.h1,gs D.ka.symm A.h2,fM A.h3,dl5 D.af e1 A.h4,dl5 D.aq e A.h5],Ê,λ i hi j o c r u=>dl3 _ _ _ _ c]
def At.shelf(A:At J n k a f q S w)(D:iJ n k a f q)(S':TR.Sh)(e:S'.O4=S.O4):At ((aO2 n S.O4 k S'.top S'.rd S'.wr).set k^Ù^S'.pg.map aK) n k a f q S' w/\Fr J ((aO2 n S.O4 k S'.top S'.rd S'.wr).set k^Ù^S'.pg.map aK) n k a f q :=
 #[#[dl5 D.nk.symm e (fM A.h1),fM (gs D.nk A.h2),gs D.ka (gs D.na A.h3),gs D.kf (gs D.nf A.h4),gs D.kq (gs D.nq A.h5)],Ê,λ i hi c j o r u=>à (dl3 _ _ _ _ j)^dl3 _ _ _ _ c]
def At.count(A:At J n k a f q S w)(D:iJ n k a f q)(S':TR.Sh)(e:S'.O4=S.O4)(j:S'.pg=S.pg):At (aO2 n S.O4 k S'.top S'.rd S'.wr) n k a f q S' w/\Fr J (aO2 n S.O4 k S'.top S'.rd S'.wr) n k a f q :=
 #[#[Æ e (fM A.h1),dl5 D.nk j A.h2,gs D.na A.h3,gs D.nf A.h4,gs D.nq A.h5],Ê,λ i hi c o r u v=>dl3 _ _ _ _ c]
def At.fork(A:At J n k a f q S w)(D:iJ n k a f q)(w':TR.Wk)(h:fW n f q w'=fW n f q w)(e:az2):At (fS f^cS2 w'.O5) n k a f q S w'/\Fr J (fS f^cS2 w'.O5) n k a f q :=
 #[#[gs D.nf.symm A.h1,gs D.kf.symm A.h2,dl5 D.af.symm h A.h3,fM A.h4,dl5 D.fq e A.h5],Ê,λ i hi j o r c u=>dl3 _ _ _ _ c]
def At.pair(A:At J n k a f q S w)(D:iJ n k a f q)(w':TR.Wk)(h:fW n f q w'=fW n f q w)(e:w'.O5=w.O5):At (fS q^OT w'.pairs) n k a f q S w'/\Fr J (fS q^OT w'.pairs) n k a f q :=
 #[#[gs D.nq.symm A.h1,gs D.kq.symm A.h2,dl5 D.aq.symm h A.h3,dl5 D.fq.symm e A.h4,fM A.h5],Ê,λ i hi j o r u c=>dl3 _ _ _ _ c]
def At.more(A:At J n k a f q S w)(x:OV):At (J++[x]) n k a f q S w/\Fr J (J++[x]) n k a f q:=by
 let c:bH3 i y OV<|Ů J>y->Ů (J++[x])>y:=λ{i y} h=>Æ (Ag^Zw h) h
 show#[#[c A.h1,c A.h2,c A.h3,c A.h4,c A.h5],Ê,λ i hi _ _ _ _ _=>Ag hi]
def ST(ps:bG6)(p:TR.Pg):ps.map aK++[ũ]=mr (ps++[p]) aK:=Ê
def map_set(ps:bG6)(i:V)(p:TR.Pg):(ps.map aK).set i ũ=mr (ps.set i p) aK:=Ϻ List.map_set
def bC(A:At J n k a f q S w){env:En}(h:co2 0>(Ü Ű)):QP é ı Å env J>(NO,J):=QT bc8 A.h3^QhJ ..
def kG(A:At J n k a f q S w)(D:iJ n k a f q){i:V}(hi:i<Ô)(P:TR.Pg)(h3:S.O4<ϕ->3<=ϕ)(L:NC ϕ)(hl:Ô<OG):
  ∃hp',YM [Χ,ft,cE7] J>(Tk^oN (cU4 w P).1)/\At hp' n k a f q (cU4 w P).2.1 (cU4 w P).2.2/\Fr J hp' n k a f q:=by
 let t0:Qy 2 qE (á ß^bQ8 an0 Jt LZ) [! Ű,tq,! cE7,ń] J>(do5 S.O4 ϕ,J) :=
  Pi (P7 (bC A Y) A.h1 (Qcz ..) Yv^BC A.h1)^ZQ (Qm4 P S.O4) J
 ext TR.QH;by_cases C:ϕ<=S.O4
 .rw[C8 C];let hd:ÿ^Af S.O4 ϕ:=an8;rw[hd]at t0;let u:JM (eB^bQ9 qE ß an0 Jt LZ) [! Ű,tq,! cE7,ń] J>co7:=IG b false t0;let wr:=UQ (d:=cE7) (i:=i) A.h1 A.h2 D.nk bA8;rw[map_set]at wr;let(e,o):=A.shelf D (ĝ S pg (sW i P) wr<|S.wr+1) Y;let(c,r):=e.walk D (dn7 w O7) Y Y;apply#[_,?_,c,o.trans r];apply ā [! Ű,tq,! cE7,ń]^f3 u ?_;apply ϩ^Zz^P7 (bC A Y) A.h1 (zH ..) cf7 wr;show Qo (cF4 v Ő Y e.h3 wl) (Qt (d:=Ě) Y)
 .rw[C7 C];let hd:Ĭ^Af S.O4 ϕ:=ar3;rw[hd]at t0;let u:JM (eB^bQ9 qE ß an0 Jt LZ) [! Ű,tq,! cE7,ń] J>(Ν J):=bg2 b t0;let pl:⇑δ=Ô:=Ê
  let O:=Qg6 P Ô (h3 À) L;let E:=Ol (pg:=aK ca7) A.h1 A.h2 D.nk^ĩ pl;rw[pl,ST]at E;let(e,o):=A.shelf D (ĝ S pg (AR [ca7]) wr<|S.wr+1) Y;let(c,r):=e.walk D (ø w O1^í Ô) Y Y;let wr:=UQ (d:=aK (TR.Zk P Ô)) (i:=i) c.h1 c.h2 D.nk Β;rw[map_set]at wr;let(x,F):=c.shelf D (ĝ S pg ((AR [ca7]).set i^TR.Zk P Ô) wr<|S.wr+1+1) Y;let(y,G):=x.walk D (ĝ w O1 (í Ô) aim ca8) Y Y;let(j,I):=y.walk D { w with O1:=í Ô,aim:=ca8,O6:=P.lv+1 } Y Y;let(z,Y2):=j.walk D { w with O1:=í Ô,aim:=ca8,O6:=P.lv+1,place:=TR.XE w.O5<|P.lv+1 } Y Y;apply#[_,?_,z,o.trans (di6^F.trans^G.trans^I.trans Y2)];apply aB9 [! Ű,tq,! cE7,sB [aK^TR.Zk P Ô,aK ca7,Í ca8]];apply bC9 u;let pg:=Qce A.h1 A.h2;rw[pl]at pg;apply cw2^Pi (P7 (bC A Y) A.h1 (KQ ..) Yv pg)^ZQ O J;apply ϩ^ZV (P7 (bC A Y) A.h1 (Kq ..) (QL^wn^R5 1 _) E) Ã e.h3 wl;apply ϩ^Zz^P7 (bC c Y) c.h1 (zH ..) (Iw^wn^R5 0 _) wr;apply ϩ^ZV (wn^R5 2 _) Ã x.h3 wl;apply ϩ^cF4 v (ĕ (P.lv+1:V)) (io (wn^MC P _) Y) y.h3 wl;let dg:Zo ie Yp aC3 (Ç Iy) [! Ű,tq,! cE7,sB [aK^TR.Zk P Ô,aK ca7,Í ca8]] _>(oN<|TR.XE w.O5<|P.lv+1,_) :=
   QlY (θ j.h3^kQ ..) j.h4^QL^θ j.h3^QcS ..
  apply ϩ^ZV dg Ã j.h3 wl;show Qt (θ z.h3^Pu ..)
#where
def gx{r a b:Int}{n k:V}{ps:Þ}{J:Hs}{t i:V}{key:Int}{l:Int}{ks o:Ĥ}{hi sd:Ć}(h1:YP>(i6 r k t a b))(h2:OM J k ps)(c:n≠k)(u:i<ϣ)(v:ps[t]?>(aM8 l o))(hl:ϣ<99999):
  J6 [NO,Í key,ft] J>(Í ϣ,(aO2 n r k ϣ a<|b+1).set k (aU5 ps [Z4 (l+1) [key] [Ñ t,A4] none none])):=by
 have pg:DV:=Z4 (l+1) [key] [Ñ t,A4] none none
 have j:Hs:=(aO2 n r k t a<|b+1).set k^aU5 ps [pg]
 let y:Xs [NO,pg] J>(Í ϣ,j):=Ol h1 h2 c hl;let g1:ID j>(i6 r k t a<|b+1):=à (Zn _ _ _ _ c.symm)^J5 _ _ _^ö h1;let g2:j.set n^i6 r k ϣ a (b+1)=(aO2 n r k ϣ a<|b+1).set k^aU5 ps [pg]:=by exact((fS n _).set k _).set n _=_;rw[List.set_comm _ _ c.symm,List.set_set]
 exact _>(_,(fS n _).set k (aU5 ps [pg]));rw[<- g2]
 have E:Sl->En:=λ z=>[bV8,Ý key,tq,z]
 let tp:∀z,QP è bA1 Å (E z) J>(Í t,J):=λ z=>θ h1^PJ ..;let lv:Qg Zm (FG au1 (Ē è bA1) 0) bn bV0 J>(Í<|l+1,J):=io (aD2 (aM8 l o) (Qj (θ h1 bc9) (tp _)^j7 h2 v) Y 0 J) Y
 have e:En:=E<|Ý<|l+1
 let C:ZL (EW Ă dc9 (ak9 (Ē è bA1) ß) fY fY) e J>(pg,J):=Z7 (ds:=[Í<|l+1,õ [Í key],õ [Í t,ft],Ě,Ě]) (WM Ã^WM (Z7 ύ å)^J4 (Z7 (ZP (tp _) Ã) å) Y Y) å;apply bo3 e (Zz^aE1 h1 (yW ..) ύ^V8 (i:=A4) h1 h2 À À)^P8 aF e lv^l7 (ĵ (ZV (aW9 h1 (Kq ..) C y) Ã g1<|fP<|(5:V)<ej) QcB)^θ (J5 _ _ _^ö g1)^PJ ..
def Qkf{n k a f q:V}{S:TR.Sh}{w:TR.Wk}(A:At J n k a f q S w)(D:iJ n k a f q){c:V}{key:Int}(j:c<Ô)(o:an2>r)(hl:Ô<OG):
  J6 [NO,Í key,Í c] J>(Í Ô,(aO2 n S.O4 k Ô S.rd<|S.wr+1).set k (pk (AR [(aZ8 (r.lv+1) [key] [mH,aU4]:TR.Pg)]) aK)):=by
 let u:δ[S.top]?>(Z4 r.lv r.ks r.ps r.hi^r.sd.map λ n=>iq):=by rw[Bt,o,Option.map_some,YJ]
 let e:=gx (key:=key) A.h1 A.h2 D.nk (i:=c) da2 u Β;rw[e,Br];rw[P9<|Z4 (Ñ r.lv+1) [key] [mH,aU4] none none=aK^aZ8 (r.lv+1) [key] [mH,aU4],ST]
def Qba(S:TR.Sh)(w:TR.Wk)(i:V)(P:TR.Pg):(cU4 w P).2.2.O3=w.O3:=au4 TR.QH
variable{J:Hs}{n k a f q:V}{S:TR.Sh}{w:TR.Wk}{i:V}{p:TR.Pg}
def QbU(A:At J n k a f q S w)(D:iJ n k a f q)(word:Str)(t:cP6):∃hp',Xz [Χ,Õ word,ft,oN t] J>(dr6 [Õ word,ft,oN t])/\At hp' n k a f q S^ø w place t/\Fr J hp' n k a f q:=by let(c,e):=A.walk D (ø w place t) Y Y;apply#[_,?_,c,e];apply aB9 [! Ű,bn0 word,tq,!(oN t)];show l7 (ZV Ã Ã A.h3 wl) (ax7^bZ6 Ã Ã)
def gq(A:At J n k a f q S w)(D:iJ n k a f q){c:V}(C:w.O1>c)(y:c<Ô)(z:an2>r)(hl:Ô<OG):∃hp',Ju [Χ,ft] J>(dr6 [Õ TB, ft,Í Ô])/\At hp' n k a f q { S with pg:=AR [cV7 (r.lv+1) [mH,aU4]],top:=Ô,wr:=S.wr+1 }^dn7 w O7/\Fr J hp' n k a f q:=by let(j,u):=A.walk D (dn7 w O7) Y Y;let e:=Qkf (key:=w.aim) j D y z hl;let(o,x):=j.shelf D { S with pg:=AR [cV7 (r.lv+1) [mH,aU4]],top:=Ô,wr:=S.wr+1 } Y;apply#[_,?_,o,u.trans x];apply aB9 [! Ű,tq];apply ϩ^cF4 v Ő Y A.h3 wl;apply cA1 Y^P7 (bC j Y) j.h1 (Qcy ..) (ZP (aC5 j.h3)^QT (d:=Í c) Ã j.h3^à (Pu ..)^ĸ (í^oN w.O1=_) C) e
def uJ(A:At J n k a f q S w)(D:iJ n k a f q){env:En}(c:co2 0>(Ü Ű))(o:co2 2>(Ü ũ))(h1:cf9)(h2:fA=μ):
  ∃hp',Zq é IZ Å de7 env J>(Tk rr)/\At hp' n k a f q S cc4/\Fr J hp' n k a f q:=by
 let(e,j):=A.walk D cc4 Y Y;show#[_,ZV (og (ZP (ak o)^QT (ak c) A.h3^zJ ..)^ZQ (QjX p w.aim h1 h2) J) (ak c) A.h3 wl,e,j]
def Qmb(A:At J n k a f q S w)(D:iJ n k a f q)(h1:cf9)(h2:fA=μ):
  ∃hp',Yj [Χ,ft,ũ] J>(dr6 [Õ d6, ft,opt vr])/\At hp' n k a f q S du7/\Fr J hp' n k a f q:=by
 let(hp1,e1,c,j):=uJ (env:=[! Ű,tq,! ũ]) A D Y Y h1 h2;let(e,o):=c.walk D du7 Y Y;apply#[_,?_,e,j.trans o];apply aB9 [! Ű,tq,! ũ];apply Ļ e1 (cF4 v Ő Y c.h3 wl) ?_;show cA1 Y dt7
def QqB(A:At J n k a f q S w)(D:iJ n k a f q)(hi:i<Ô){x y:Int}(hd:w.O2=.put y x)(h1:μ<=90)(h2:fA=μ)(h3:S.O4<cw5 p x->3<=cw5 p x)(h4:NC^cw5 p x)(hl:Ô<OG):
  ∃hp',Y7 [Χ,ft,ũ] J>(dr6 [Õ dQ, ft,opt vr,oN (cX5 p x).1])/\At hp' n k a f q (cX5 p x).2.1 (cX5 p x).2.2/\Fr J hp' n k a f q:=by
 let(hp1,e1,c,j):=uJ (env:=[! Ű,tq,! ũ,ń]) A D Y Y À h2;let(hp2,u,e,o):=kG c D hi (l8 p x) h3 h4 hl;apply#[hp2,?_,e,j.trans o];apply aB9 [! Ű,tq,! ũ,!(oN (cX5 p x).1)];apply ϩ e1;let r:cM5 bz6 2 hp1>(Í x,hp1):=cP1^R5 2 hp1
 apply cw2^aE1 c.h3 (v_ ..) (Iw^og (J4 Ã (aC5 c.h3)^io (θ c.h3^yE ..) r)^ZQ (Qm5 p w.aim x À À) hp1) u;apply az4^gE Y Ã (θ e.h3^ϔ^qL ..) Ã;rw[Qba]
def Qo5(A:At J n k a f q S w)(D:iJ n k a f q)(hi:i<Ô)(h1:cf9)(h2:fA=μ):
  ∃hp',qO [Χ,ft,ũ] J>(dr6 [Õ ed, ft,opt vr])/\At hp' n k a f q (Ř (p9 vr) (ĝ S pg (sW i^aJ5 p) wr<|S.wr+1) S) du7/\Fr J hp' n k a f q:=by
 let(hp1,e1,c,r):=uJ (env:=[! Ű,tq,! ũ]) A D Y Y h1 h2;let t:∀b:Bool,p9 vr=b->eB (cT4 cd6) [! Ű,tq,! ũ] hp1>(b,hp1):=λ b y=>Ω (bO8 c.h3) Y^Ũ QdI y;cases u:p9 vr with
 |true=>rw[pv];let wr:=UQ (d:=aK (aJ5 p)) (i:=i) c.h1 c.h2 D.nk bA8;rw[map_set]at wr;let(o,x):=c.shelf D (ĝ S pg (sW i^aJ5 p) wr<|S.wr+1) Y;let(e,j):=o.walk D du7 Y Y;apply#[_,?_,e,di6 (x.trans j)];apply aB9 [! Ű,tq,! ũ];apply ϩ e1;apply ϩ^ZN (t true u)^Zz^P7 (bC c Y) c.h1 (zH ..) (Iw^Pi (aC5 c.h3)^ZQ (QdP p w.aim À À) hp1) wr;apply ϩ^cF4 v Ő Y o.h3 wl;show cA1 Y dt7
 |false=>rw[av7];let(e,j):=c.walk D du7 Y Y;apply#[_,?_,e,di6 j];apply aB9 [! Ű,tq,! ũ];apply ϩ e1;apply bC9^t false u;apply ϩ^cF4 v Ő Y c.h3 wl;show cA1 Y dt7
def QnQ(A:At J n k a f q S w)(D:iJ n k a f q)(hi:i<Ô){c:V}(r:w.O1>c)(h1:μ<=90)(h2:NC fA)(h3:S.O4<gu^ab2 p c->3<=gu^ab2 p c)(h4:NC^gu^ab2 p c)(hl:Ô<OG):
  ∃hp',Yx [Χ,ft,ũ] J>(dr6 [Õ CH, ft,oN (cU4 w^ab2 p c).1])/\At hp' n k a f q (cU4 w^ab2 p c).2.1 (cU4 w^ab2 p c).2.2/\Fr J hp' n k a f q:=by
 let(hp2,o,e,j):=kG A D hi (ab2 p c) h3 h4 hl;apply#[hp2,?_,e,j];apply aB9 [! Ű,tq,! ũ,!(oN (cU4 w^ab2 p c).1)];let nw:QP é E4 Å [! Ű,tq,! ũ,ń] J>(Í c,J):=bC6^as7 (Pu ..) r;apply cw2^aE1 A.h3 (v_ ..) (Iw^og (J4 Ã (aC5 A.h3) nw)^ZQ (QdO p w.aim c À À) J) o;show cA1 Y Ã
variable{J:Hs}{n k a f q:V}{S:TR.Sh}{w:TR.Wk}{i:V}{p:TR.Pg}
def QjN(A:At J n k a f q S w){l h:Int}(hl:cf9):
  JT [! Ű,tq,! ũ,aJ8,TL,ń] J>(bo0,J++[dd6 l h]):=by
 let o:gb aK0 (wm 2) [! Ű,tq,! ũ,aJ8,TL,ń] J>(aU aa2,J):=by let e:AK ß bn [! Ű,tq,! ũ,aJ8,TL,ń] J>(as9,J):=wn^Qqn p J;let u:AK ß bB6 [! Ű,tq,! ũ,aJ8,TL,ń] J>(as8,J):=wn^Qqo p J;ext gb;rw[Qe e];exact(gD as9 >>= _) J=_;rw[P9<|gD as9=ï Ł,Ed,Qe u,P9<|gD as8=ï Ī,Ed,Qn9];rfl
 let e1:cM (gb aK0^wm 2) [! Ű,tq,! ũ,aJ8,TL,ń] J>(cJ^aU aa2,J):=fN cM o
 let hz:NC ⇑aa2:=ĩ List.length_zip
 let j:=Qf4 (J:=J) (t:=λ d=>eB (Jk d7 bV Û mM ß)^cE [3,4] [! Ű,tq,! ũ,aJ8,TL,ń] d) (f:=λ d=>Qb 0^cE [3,4] [! Ű,tq,! ũ,aJ8,TL,ń] d) (p:=Es l h) (aU aa2) (λ d hd=>by
   let(z,_,Y):=bK8 hd;let c:cE [3,4] [! Ű,tq,! ũ,aJ8,TL,ń]^õ [cb3 z,Í z.2]=[sB [cb3 z,Í z.2],aJ8,TL]:=Y;exact eB (Jk d7 bV Û mM ß) (cE [3,4] [! Ű,tq,! ũ,aJ8,TL,ń]^õ [cb3 z,Í z.2]) J=_;rw[c];let e:AK Å bG [sB [cb3 z,Í z.2],aJ8,TL] J>(cb3 z,J):=wn^R5 0 J;by_cases q1:l<=z.1
   .by_cases r:z.1<h<;>simp[eB,Jk,Qcr,Qcs,e,Qb,Rm,Ri,lO,Es,q1,r]
   .simp[eB,Jk,Qcr,Qcs,e,Qb,Rm,Ri,lO,Es,q1])
  (λ d hd=>Y)^ĩ YU
 rw[QdR]at j;ext JT Zd;rw[L9,Qe^â (Je _ _ _ lim 0 J=_) j];rfl
def gz(A:At J n k a f q S w)(D:iJ n k a f q){l h:Int}(hd:w.O2=Ϝ l h)(h1:cf9)(hw:aJ1<=50000)(P:(bO6/\bO7)∨∃x s,p.hi>x/\p.sd>s):
  ∃hp',Yk [Χ,ft,ũ] J>(Tk^v7 (bm2 w i p).1)/\At hp' n k a f q (bm2 w i p).2.1 (bm2 w i p).2.2/\Fr J hp' n k a f q:=by
 let d1:dv2 bz6 1>(Í l,J):=cP1^R5 1 J
 let d2:dv2 bz6 2>(Í h,J):=cP1^R5 2 J
 let(C,R):=A.more (dd6 l h);let(y,U):=C.pair D (ø w pairs ds7) Y Y;let pl:NC ⇑(nV l h):=ck5 TR.Zg^Bi (B9 _ _) ?_
 let gl:aD8 (J++[dd6 l h]) wp^nV l h:=Ê
 let ql:q≠wp:=λ e=>İ^Zw A.h5
 let ex:=Qgo (o:=cv7) (fa:=Ç Ń) (env:=[! Ű,tq,! ũ,aJ8,TL,! eJ]) (θ C.h3^kR ..) C.h5 ύ gl^ah2 YU YU;rw[BQ]at ex;let tw:∀{c:Hs}{env:En},aD8 c wp^nV l h->co2 5>(Ü eJ)->wV Kw Ń env c>(õ^aU^nV l h,c):=λ{c env} hx he=>wy QN (dj3^ak he) ((Zv wp >>= _) c=_) hx
 let Tc:aD8 ((J++[dd6 l h]).set q^bf8 ds7) wp^nV l h:=gs ql gl;let Y2:a≠wp:=λ e=>İ^Zw A.h3
 let start:∀(g:aN)(r:(Fl × En)× Hs),g [! Ű,tq,! ũ,aJ8,TL,! eJ]^(J++[dd6 l h]).set q^bf8 ds7>r ->
   Qq (QR 3^cu6 1) (eg 4 (cu6 2) 5 JT^Qq (bg0 Xm cv7 Ń) g) [! Ű,tq,! ũ,ń,ń,ń] J>r:=λ g r hg=>by
  apply cw2^io ch8 d1;apply cw2^io ch8 d2;apply cw2^QjN A h1;show Qo (Zz ex) hg
 let u:∃hp',Qq (Ta Ϙ pE) (QG^ZL^EW cQ3 Û (ð Kw Ń) fY fY) [! Ű,tq,! ũ,aJ8,TL,! eJ]^(J++[dd6 l h]).set q^bf8 ds7>(Tk (.rt^v7^bw0 i (nV l h) none,[! Ű,tq,! ũ,aJ8,TL,! eJ]))/\At hp' n k a f q S^cy8 w ds7/\Fr J hp' n k a f q:=by let(z,G):=y.walk D (cy8 w ds7) Y Y;apply#[_,?_,z,R.trans (bM7 G)];apply ϩ^cF4 v Ő Y y.h3 wl;show az4 (GO Y Ã (tw (gs Y2 Tc) Y) Y Y)
 let j:∀c:Hs,AK ß (ġ 3) [! Ű,tq,! ũ,aJ8,TL,! eJ] c>(aE,c):=λ c=>wn^Qqm p c;let Q:∀c:Hs,AK ß (ġ 4) [! Ű,tq,! ũ,aJ8,TL,! eJ] c>(ma,c):=λ c=>wn^MB p c;obtain⟨e1,L⟩|⟨x,s,e1,L⟩:=P
 .rw[QgM hd e1];let(hp',O,F,I):=u;apply#[hp',Qu (start _ _^Q5^ZN (hp1:=_) ?_ O),F,I];show Wv (Ω (j _) Y^Ũ Kk e1)
 .rw[Qje hd e1 L];by_cases hx:h<=x
  .rw[C8 hx];let(hp',O,F,I):=u;apply#[hp',Qu (start _ _^Q5^ZN (hp1:=_) ?_ O),F,I];show bn9 (II b^io (j _)^Ũ Kk e1) (Ω (j _) Ã^by rw[e1];exact nA cY0 ↥h _=_;rw[SA,Ea hx];rfl)
  .rw[C7 hx];let(z,G):=y.walk D (ĝ w pairs ds7 aim x) Y Y;let(E,F4):=z.walk D (bX5 w pairs ds7 aim place cu4) Y Y;apply#[_,ā [! Ű,tq,! ũ,aJ8,TL,! eJ] (start _ _ ?_),E,R.trans (bM7^G.trans F4)];apply bC9 (bn9 (II b^io (j _)^Ũ Kk e1)^II b^Qj (j _) Ã^by rw[e1];exact nA cY0 ↥h _=_;rw[SA,Ec hx];rfl);apply ϩ^cF4 v (Í x) (as7 (j _) e1) y.h3 wl;apply ϩ^cF4 v (Í s) (as7 (Q _) L) z.h3 wl;show az4 (GO Y Ã (tw (gs Y2^gs Y2 Tc) Y) (θ E.h3 cO4)^aC5 E.h3)
variable{J:Hs}{n k a f q:V}{S:TR.Sh}{w:TR.Wk}{i:V}{p:TR.Pg}
def yC:ĭ iW:=È
def UK:ĭ dQ:=È
def UJ:ĭ ed:=È
def xq:ĭ Š:=È
def GY:TR.aG->Str
 |.find _ => iW
 |.put _ _ => dQ
 |.cut _ => ed
 |.stretch _ _ => Š
def Qgc(d:TR.aG)(J:Hs):dv2 ng 0>(Õ^GY d,J):=bU9 d^R5 0 J
def Qdf(A:At J n k a f q S w)(D:iJ n k a f q)(hi:i<Ô)(h1:μ<=90)(h2:fA=μ)(h3:∀x,S.O4<cw5 p x->3<=cw5 p x)(h4:∀x,NC (cw5 p x))(hl:Ô<OG)(G:aJ1<=50000)(C:(bO6/\bO7)∨∃x s,p.hi>x/\p.sd>s):
  ∃hp',qP [Χ,ft,ũ] J>(Tk^v7 (bm2 w i p).1)/\At hp' n k a f q (bm2 w i p).2.1 (bm2 w i p).2.2/\Fr J hp' n k a f q:=by
 let z:QR 3 (cu6 0) [! Ű,tq,! ũ,ń] J>(ō [! Ű,tq,! ũ,bn0 bd1],J):=Qv^io ch8^Qgc w.O2 J;let c:∀(x:Str)(b:Bool),ĭ bd1->ĭ x->(bd1==x)=b->eB (ly Ă x) [! Ű,tq,! ũ,bn0 bd1] J>(b,J):=λ x b I o2 e=>Ω Ã Y^iu J I o2 e;let v:∀(nm:Str) (fn:Em) (d:DV) (hp':Hs),ų^List.lookup nm^dJ n f q bz6 ↥w.aim ↥w.O6 (oN w.place) (oN w.O1) (opt w.O3)^ŏ w.O7->fn [Χ,ft,ũ] J>Tm->QG (bJ7 é nm 3 fn Å Û ß) [! Ű,tq,! ũ,bn0 bd1] J>(Tk (.rt d,[! Ű,tq,! ũ,bn0 bd1])):=λ nm fn d hp' e1 F=>Qt^aE1 A.h3 e1 cf7 F;cases hd:w.O2 with
 |find y =>let(hp',e,j,o):=Qmb (i:=i) A D À h2;apply#[hp',?_,Æ (vH hd) j,o];rw[vH hd];let t:=c iW true (cP1 yC) yC<|li<|Ĭ<|đ iW==đ iW;show Qu (Qo z^f3 t^v _ _ _ _ (Qrf ..) e)
 |put y x =>let(hp',e,j,o):=QqB (i:=i) A D hi hd h1 h2 (h3 x) (h4 x) hl;apply#[hp',?_,Æ (kr hd) j,o];rw[kr hd];let r:=c iW false (cP1 UK) yC^db7 dQ iW;let u:=c dQ true (cP1 UK) UK<|li<|Ĭ<|đ dQ==đ dQ;show Qu (Ļ z (QX r)^f3 u^v _ _ _ _ (Qrg ..) e)
 |cut y =>let(hp',e,j,o):=Qo5 (i:=i) A D hi À h2;apply#[hp',?_,Æ (ko hd) j,o];rw[ko hd];let r:=c iW false (cP1 UJ) yC^db7 ed iW;let u:=c dQ false (cP1 UJ) UK^db7 ed dQ;let E:=c ed true (cP1 UJ) UJ<|li<|Ĭ<|đ ed==đ ed;show Qu (Ļ z (QX r)^Qo (QX u)^f3 E^v _ _ _ _ (Qrh ..) e)
 |stretch l h =>let(hp',e,j,o):=gz (i:=i) A D hd À G C;apply#[hp',?_,j,o];let r:=c iW false (cP1 xq) yC^db7 Š iW;let u:=c dQ false (cP1 xq) UK^db7 Š dQ;let E:=c ed false (cP1 xq) UJ^db7 Š ed;show Qu (Ļ z (QX r)^Ļ (QX u) (QX E)^v _ _ _ _ (Qri ..) e)
def QnK{r:TR.Row}(T:wB S)(W:TR.aR S bg w)(hr:S.O4<=50)(A:At J n k a f q S w)(D:iJ n k a f q)(hl:Ô<OG)(hf:⇑w.O5<5000)(hw:aJ1<=50000)(hs:TR.Xp S w>(r,S',w')):
  ∃hp',zj cJ3 J>(Tk dl6)/\At hp' n k a f q S' w'/\Fr J hp' n k a f q:=by
 cases he:w.O7 with
 |true=>unfold TR.Xp at hs;rw[C8 he]at hs;cases hs;apply#[J,?_,A,Fr.refl];show ā [! Ű,ń,ń] (f3 (QK^bC6^ĵ (yY ..) he)^Qt (d:=Ě) Y)
 |false =>
  let(p,u,v):=TR.xu he hs;clear hs;generalize I:ó=m at u v;let Y2:AH m∨cH6 m:=by
   cases e:w.place with
   |none=>rw[e]at I;show cQ4 Y I.symm
   |some z=>rw[e]at I;show ë (cf3 I)
  let ok:=mn m p u;let aa:m<Ô:=Zw u;let ar:NC fA:=by let a1:=ok.parts;let a2:=ok.few;split at a1<;>lia
  let a9:μ<=90:=by let a2:=ok.few;lia
  let r2:=T.bf
  have E:En:=[! Ű,cP9,! ũ]
  have h1:Hs:=aO2 n S.O4 k S.top dc3 S.wr
  let b6:ci0 cd5 (QG fY) [! Ű,ń,ń] J>(ō [! Ű,ń,ń],J):=(QX^QK^bC6^ĵ (yY ..) he);let ay:cU (eB aE2) (bQ8 aP5 Jl LZ) at2 [! Ű,ń,ń] J>(Í m,J):=by
   obtain e|⟨e,e2⟩:=Y2
   .show à (G9^II b^io (bC6 cO4)^Ũ vP e) (bC6^as7 cO4 e)
   .show à (KD^Ω (bC6 cO4) Y^Ũ vP e) (ĵ (P7 (bC A Y) A.h1 (VT ..) Yv^Ru A.h1) e2)
  let rd:=Qnr (i:=m) (d:=ũ) A.h1 A.h2 D.nk^Ũ Bt u;obtain⟨o,U⟩:At h1 n k a f q Id w/\Fr J h1 n k a f q:=A.count D Id Y Y;let b7:=Qv (i:=1) ay;let b8:QR 2 (υ è iX 2 Yi LZ Û) [! Ű,cP9,ń] J>(bC1,h1):=Qv^P7 (bC A Y) A.h1 (Qd1 ..) ύ rd;let Q:AK ß bG E h1>(AV,h1):=wn^MC p h1;let R8:eB aE2 E h1>(w.place.isNone,h1):=Ω (θ o.h3 cO4) Y^ö vP;let Mp:QP é cM1 Å E h1>(Í w.O6,h1):=θ o.h3^QcS ..;let P:∀x y:V,Af (Ñ x) y=Af x y:=λ x y=>ĩ decide_eq_decide
  let t1:Yu (eB aE2) (i4 bV aq2 Iy) E h1>(Ö cn6,h1):=by
   obtain e|⟨e,_⟩:=Y2
   .rw[Ec^λ h=>į e h h.1]
    show zS (R8.trans^ö e)
   .apply dn1 (R8.trans^ö e)^ϔ^Ω Q Mp Y
    rw[P,(decide_eq_decide (q:=cn6)).mpr #[λ h=>#[e,h],λ h=>h.2]]
  let go:∀(g:aN) (x:(Fl × En)× Hs),g E h1>x->Qq (hW cd5 fY) (eg 1 (aA7 aE2 (bQ8 aP5 Jl LZ) at2) 2 (υ è iX 2 Yi LZ Û) g) [! Ű,ń,ń] J>x:=λ g x u=>Ļ b6 b7^Qo b8 u;let t2:eB (cT8 ji) E h1>(TR.JU p w.aim,h1):=QK^Pi (aC5 o.h3)^ZQ (Qg5 p w.aim) _;let G:cI0->∀(g:aN) (x:(Fl × En)× Hs),g E h1>x->Qq (cy4 aE2 (i4 bV aq2 Iy)^QG^υ é aa8 2 Ju Å Û) g E h1>x:=λ z g x u=>Qo (QX^t1.trans^Ϻ^Ec z) u;let t3:eB (Qg fu aq2 Iy) E h1>(Af w.O6 p.lv,h1):=à (Ω Q Mp Y) (by rw[<- P]);let S_:de9^TR.JU p w.aim->¬ bs4->∀(g:aN) (x:(Fl × En)× Hs),g E h1>x->Qq (hW (cT8 ji)^QO é bK3 4 Xz Å^Ħ (Ċ bs9) Û^wm 4) (Qq (dd7 fu aq2 Iy^ϗ (N3 Û aC3 aq2)^QO é bK3 4 Xz Å^Ħ (Ċ bt0) Û^cT8 jk) g) E h1>x:=λ y z g x u=>Ļ (QX^dl7^P5 y) (QX^t3.trans^Ϻ^Ec z) u;let t4:eB (Ò fu Iy 0) E h1>(Af 0 w.O6,h1):=à (Ω Mp Y Y)^aH2 P;cases v with
  |raised j hn =>
   let ae:aK2 m:=by
    obtain e|⟨_,e⟩:=Y2
    .rw[j.1]at e;cases e
    .show e
   subst ae;let(c',z,L,R,_):=W.tell À;let b3:=Aj^hn.symm.trans L;subst b3;let(hp',e,C,F):=gq (i:=S.top) o D hn (Zw R) u hl;show#[hp',Qu (go _ _^rL (t1.trans^Ϻ^Ea j)^aE1 o.h3 (Qre ..) ύ e),C,bM7 F]
  |@side s j O aw =>let(hp',e,C,F):=QbU (i:=m) o D bs9 cu4;apply#[hp',?_,C,bM7 F];apply Qu^go _ _^G j _ _^rL (dl7 O)^aE1 o.h3 (We ..) (bZ6 Y^wn^MB p _) ?_;rw[aw];show e
  |@down c j O hd hc =>let pl:=ok.parts;rw[ec]at pl;let(c',z,L,R,_):=T.kid m p u À _ _ hc;subst L;let(A2,F2):=o.fork D (ø w O5^TR.xM w.O5 p.lv m) Y Y;let(hp',e,C,F):=QbU (i:=m) A2 D bt0 (í c');apply#[hp',?_,Æ Bz C,bM7 (F2.trans F)];let ke:=Qqp p w.aim c' À pl hc;let pt:Yg Û (cL aC3 aq2) E h1>(bC1,h1.set f (cS2^TR.xM w.O5 p.lv m)):=QqZ Ã (θ o.h3^kQ ..) Q o.h4 hf;apply Qu^go _ _^G j _ _^Qo (QX^dl7^P5 O)^f3 (t3.trans^Ϻ^Ea hd)^l7 pt^aE1 A2.h3 (We ..) (bZ6 Y^Pi (aC5 A2.h3)^ZQ ke _) ?_;rw[â (v7^TR.Row.down m^bR7 c'=õ [Õ bt0, Í m,Í c'])^ö Bz];show e
  |@told c j O hd h0 hn =>
   let b9:cI8:=by
    obtain e|⟨e,_⟩:=Y2
    .let(p',L,R,_):=W.at_ m e
     rw[Aj^u.symm.trans L];show R
    .show Cs λ h=>j #[e,h]
   let kl:=TR.KU ok (k:=w.aim) (c:=c);let(hp',e,C,F):=QnQ (i:=m) (p:=p) o D aa hn a9 ar (λ z=>A3 (S.O4<gu^ab2 p c) z) À hl;show#[hp',Qu (go _ _^G j _ _^S_ O hd _ _^rL (t4.trans^Ϻ^Ea h0)^aE1 o.h3 (Qrd ..) cf7 e),C,bM7 F]
  |leaf j O hd g0 hs' =>
   let hz:aQ4:=À
   let pl:=ok.parts;rw[C8 hz]at pl;let kl:∀x,cw5 p x<=S.O4+1:=λ x=>TR.UP ok;let(hp',e,C,F):=Qdf (i:=m) (p:=p) o D aa a9 À (λ x z=>A3 (S.O4<cw5 p x) z) (λ x=>İ^kl x) hl hw ((ar9 m u).imp id λ#[x,s,_,L,R,_]=>#[x,s,L,R]);rw[hs']at e C;show#[hp',Qu (go _ _^G j _ _^S_ O hd _ _^at6 (t4.trans^Ϻ an8)^aE1 o.h3 (Qrc ..) cf7 e),C,bM7 F]
#where
def Qlb(n:V)(d:TR.aG)(J:Hs):Xa [bo0,NO,ng] (J++[bO5 é])>(Ě,J++[fW n (wp+1) (wp+2) tf,Sc,Ο]):=by
 let st:∀(nm:Str) (e:aD) (v:DV) (fs:ER) (t t':Hs),e [! eJ,bV8,! ng] (J++cV5::t)>(v,J++cV5::t')->aQ6<ej->Zq é nm Å e [! eJ,bV8,! ng] (J++cV5::t)>(ō [! eJ,bV8,! ng],J++ŭ é^Xx nm v fs::t'):=λ nm e v fs t t' i hl=>Ϗ (ZV i Ã (U8 J _ _) hl) Io
 let a:∀fs,zU [! eJ,bV8,! ng] (J++cV5::[])>(ã<|wp+1,J++cV5::[Sc]):=λ fs=>bG2<|í (Ty ⇑(J++[OV.ins é fs]),(J++[OV.ins é fs])++[OV.aJ []])=_
 let c:∀fs,Yw Qk [! eJ,bV8,! ng] (J++cV5::[Sc])>(ã<|wp+2,J++cV5::[Sc,Ο]):=λ fs=>bG2<|í (Ty ⇑(J++[OV.ins é fs,OV.aJ []]),(J++[OV.ins é fs,OV.aJ []])++df9)=_
 apply aM3 [! eJ,bV8,! ng] ?_;apply ϩ^st ı _ ↑n [] [] [] Ã^Ź m 20 Fm bh9 Á;apply ϩ^st E2 _ ng _ [] [] Ã^Ź m 20 Fm bh9 Á;apply ϩ^st "aim" _ ↥d.key _ [] [] (wn^Qir d _)^Ź m 20 Fm bh9 Á;apply ϩ^st cM1 _ ↥0 _ [] [] Y^Ź m 20 Fm bh9 Á;apply ϩ^st m9 _ Ě _ [] [] Y^Ź m 20 Fm bh9 Á;apply ϩ^st dk1 _ ↑(wp+1) _ [] [Sc] (a _)^Ź m 20 Fm bh9 Á;apply ϩ^st E4 _ Ě _ [Sc] [Sc] Y^Ź m 20 Fm bh9 Á;apply ϩ^st IZ _ Ě _ [Sc] [Sc] Y^Ź m 20 Fm bh9 Á;apply ϩ^st ad3 _ ↑(wp+2) _ [Sc] [Sc,Ο] (c _)^Ź m 20 Fm bh9 Á;show st Ϙ _ ő _ [Sc,Ο] [Sc,Ο] Y (Ź m 20 Fm bh9 Á)
def Qle{n:V}{d:TR.aG}{fa:cu}{hp0 J:Hs}(ha:aJ4 hp0>([NO,ng],J)):Yo é 3 Xa fa env hp0>(bo0,J++[fW n (wp+1) (wp+2) tf,Sc,Ο]):=by ext Yo;rw[bZ1];let a:XH (bO5 é) J>(bo0,J++[bO5 é]):=Y;let c:QE (FC (hF [Ty n,ng]+1) 3) J>((),J):=Y;rw[aP2,Qe a,Qe^Qlb n d J];rfl
def QmQ{J:Hs}{n f q a:V}{w:TR.Wk}(h:J[a]?>(fW n f q w)):YW cJ3 J>(ŏ w.O7,J):=Qu^Qt^θ h^yY ..
def Qto{α:pZ}{d a:V}(i:d≠a){l:Fa}{x c y e:α}:(((dl8 x).set a y).set d c).set a e=(dl8 c).set a e:=by
 have:((dl8 x).set a y).set d c=(dl8 c).set a y:=Ϗ (â (((dl8 x).set a y).set d c=((dl8 x).set d c).set a y)^List.set_comm _ _^Ņ i) List.set_set
 rw[this,List.set_set]
def cZ(seen:ź):f8:=seen.map λ m:V=>(ë mG,Ő)
def QmB(k:V):∀seen:ź,ZT aT8 ai7=É (k∈seen) (í Ő) none:=by
 intro j;induction j with
 |nil=>show Y
 |cons x xs c =>
  let a:=c;unfold ZT at a ⊢;exact dr7 _ ((nX^Ñ x,aN1 true)::cZ xs)=_;rw[B0];by_cases h:x=k
  .subst h;simp
  .let i:¬ (nX (Ñ x):Key)=nX fw:=λ e=>h^al7 e e
   rw[Ec i];exact dr7 _^cZ xs=_;rw[a];by_cases m:k∈xs
   .rw[C8 m,C8^bU0 m]
   .rw[C7 m,C7 (λ z=>by obtain e|e:=ny z;show h e.symm;show m e)]
def QmA{seen:ź}{k:V}(h:k∉seen):XL aT8 ai7 Ő=cZ (seen++[k]):=by
 ext XL;rw[C7 dc7]
 .ext cZ;rw[List.map_append];rfl
 .rw[List.any_eq_true]at z;let(a,m,e):=z;let(x,hx,Y):=bK8 m;let e:=Eb e;have:x=k:=al7 e e
  show h (this▸hx)
def QpY{J:Hs}{d k:V}{seen:ź}(h:J[d]?>bD6):Gd ↥fw ↑d J>(be9<|Ö<|k∈seen,J):=by
 ext Gd;have:tZ ↥fw ↑d J>(Ö<|k∈seen,J):=by
  exact(Zv d >>= _) J=_;rw[aP9];exact í (p9^ZT aT8 ai7,J)=_;rw[QmB];by_cases m:k∈seen
  .rw[C8 m,Ea m];rfl
  .rw[C7 m,Ec m];rfl
 rw[IU];rfl
def QpS{e f g:aD}{J:Hs}{d k:V}{seen:ź}(a:br3>(Ő,J))(hf:i0>(ã d,J))(hd:J[d]?>bD6)(c:bH0>(ĕ k,J))(hn:k∉seen)(hl:co0<Ĺ):Yg e (cL f g) env J>(rr,fS d (NV<|seen++[k])):=by
 ext Yg;rw[Qe a];have:cL f g Ő env J>(env,fS d (NV<|seen++[k])):=by
  ext cL;rw[aH1,aP2];let q:tM ↑d ↥fw Ő J>((),fS d (NV<|seen++[k])):=by exact(Zv d >>= _) J=_;rw[ů hd];exact(ag (⇑aT8<lim) >>= λ_=>VS d^tF^XL aT8 ai7 Ő) J=_;rw[LH (Af ⇑aT8 lim)^Ea^hJ cZ Br hl,QmA hn];rfl
  rw[Qe q];rfl
 rw[IU];rfl
variable{S:TR.Sh}
def bZ(S:TR.Sh):DV:=Ù δ
def zC{n:V}(h:fI>p):ID δ>ũ:=Ũ Bt h
def QhA{d a:V}(F:d≠a)(lf:DV):∀{n:V}{r:ź},bt7 n r->∀(j:V)(seen done:ź)(J:Hs),mz<j->J[d]?>bD6->OM J a bZ2->IQ m r (m∉seen)->r.Nodup->co0+mz<Ĺ->done.length+mz<Ĺ ->
  Xh (LE (cT4 ě)^LE (Jk d7 bV bG ě at5)^i4 Gd ě ß) xc j [! cm,! lf,rq d,! Ű,ņ n] J =
   í (ō [! cm,! lf,rq d,! Ű,Ü Ě],(fS d<|NV<|seen++r).set a (Ù<|nD<|done++r)):=by
 let o:∀(n:V)(p:TR.Pg)(seen done:ź)(J:Hs),fI>p->J[d]?>bD6->OM J a bZ2->n∉seen->co0<Ĺ->done.length<Ĺ ->
   (Yu (eB^cT4 ě)^LE (Jk d7 bV bG ě at5)^i4 Gd ě ß) [! cm,! lf,rq d,! Ű,ņ n] J>co7 /\
   xc [! cm,! lf,rq d,! Ű,ņ n] J>(ō [! cm,! lf,rq d,! Ű,! ma],(fS d<|NV<|seen++[n]).set a (Ù<|nD<|done++[n])):=by
  intro n p seen done J hn hd ha y u v;let nl:n<Ô:=Zw hn
  have e:En:=[! cm,! lf,rq d,! Ű,ņ n]
  constructor
  .rw[zT^QK^nh (ĕ n) Ã Y Y,zT^QK^Qif (i:=iq) (n:=Ô) Y Ã (Ϗ (xg (ds:=δ) Ã) Br) À À]
   apply QK ?_;rw[Qj Ã Ã^QpY hd,Ec y];rfl
  .let G:OM (fS d<|NV<|seen++[n]) a bZ2:=Æ (Ak F) ha
   apply Ļ (QpS (d:=d) (k:=n) Y Ã hd Ã y u) (Zz^YE (a:=a) (ds:=bZ2) (d:=ĕ n) Ã G Ã^Æ xi v) ?_;rw[show bZ2++[eD iq]=nD (done++[n])by rw[<- QpW];rfl];show Qv (nG i 4 [AV,as9,as8,aE,ma] (qg (i:=n) (ds:=δ) (d:=ũ) Ã Ã^zC hn) Y Y)
 intro n r c;induction c with
 |@last n p hn y=>intro j seen done J hf hd ha E C u v;let u:co0+1<Ĺ:=u;let v:done.length+1<Ĺ:=v;let hf:1<j:=hf;let(I,Y2):=o n p seen done J hn hd ha (E n Ê) À À;obtain⟨f,Y⟩:∃f,j=f+2:=#[j-2,À];rw[UO I Y2,y];show Px (zS^QK^nh Ě Ã Y Y)
 |@next n p s r hn y c L =>
  intro j seen done J hf hd ha E C u v;let hf:mz+1<j:=hf;let u:co0+(mz+1)<Ĺ:=u;let v:done.length+(mz+1)<Ĺ:=v;let(I,Y2):=o n p seen done J hn hd ha (E n Ê) À À;obtain⟨f,Y⟩:∃f,j=f+1:=#[j-1,À];let P:d<wp:=bc5;let O:a<wp:=Zw ha;let(Q,nd):=Cp.mp C;rw[UO I Y2,y];apply ϔ^L f (seen++[n]) (done++[n]) _ À (Ϗ (iO F)^As P) (Ϻ^As^bA7 O) (ľ m h z) nd ac8 ac8
  .obtain z|z:=cS3
   .show E m (bU0 h) z
   .rw[aL6 z]at h;show Q h
  .rw[A7,A7,Qto F];rfl
def QcD{n d:V}{r:ź}(c:bt7 n r){seen:ź}{w:Hs}(hd:w[d]?>bD6)(o:∀m∈r,m∉seen)(e:r.Nodup)(h1:co0+mz<OG):
  Vv [cm,ĕ n,ã d] w>(aB7,cO5 d^NV (seen++r)++[Ù FX]):=by
 let i:d<ĳ:=bc5;let j:=QhA (S:=S) (d:=d) (a:=ĳ) À ↥iq c Ĺ seen [] (w++ci9) À (Æ (Ag i) hd) cV8 o e À Β;rw[List.nil_append,List.set_append_left _ _ i,ϲ _^bA7 Ĕ,List.length_set,Nat.sub_self]at j;apply aB9 [! cm,ņ n,rq d,! Ĵ,Ü Ě];apply aO3 [! cm,ņ n,rq d,! Ĵ,ń] (w++ci9) Y^cw2 Ã;show l7 (â (VZ _ _=_) j) Ã
def Qau{n c a:V}{r:ź}{p:TR.Pg}{w:Hs}(ha:OM w a<|nD<|n::r)(hn:fI>p)(j:p.ps[0]?>aU4):YX [cm,Χ] w>(ĕ c,w):=by
 have e:En:=[! cm,! Ű]
 let u:zV Û e w>co9:=wy zV (Qe (Ã:Qb 1 e w>(Χ,w))) ((cL4 >>= _) w=_) ha
 let x0:AK Û bG e w>(ĕ n,w):=dl9 i 0 ha Y Y;let x:AK Å aK1 e w>(ũ,w):=qg (i:=n) (ds:=δ) Ã x0^zC hn;let o:AK (cw0 aK1) bB6 e w>(as8,w):=bn1 2 x Y Y;let v:zV (FG Å aK1 2) e w>co9:=by
  ext zV;rw[Qe o];exact í (hV^bY2^p.ps.map DV.int,w)=_;cases h:p.ps with
  |nil=>rw[h]at j;cases j
  |cons _ _=>rfl
 apply ā e^at6 ?_^bn1 0 o Y^Ũ Bt j;show bn9 (ZB u) (ZB v)
def uS{n a:V}{r:ź}{w:Hs}(ha:OM w a<|nD<|n::r)(hn:fI>p):∃d,YX [cm,Χ] w>(d,w):=by
 cases h:p.ps with
 |cons x xs =>
  have e:En:=[! cm,! Ű]
  let j:zV Û e w>co9:=wy zV (Qe (Ã:Qb 1 e w>(Χ,w))) ((cL4 >>= _) w=_) ha
  let x0:AK Û bG e w>(ĕ n,w):=dl9 i 0 ha Y Y;let u:AK Å aK1 e w>(ũ,w):=qg (i:=n) (ds:=δ) Ã x0^zC hn;let c:AK (cw0 aK1) bB6 e w>(as8,w):=bn1 2 u Y Y;let o:zV (FG Å aK1 2) e w>co9:=fT zV aP2 h
  apply#[Í x,ā e (at6 ?_^bn1 0 c Y^ö h)];show bn9 (ZB j) (ZB o)
 |nil =>
  have e:En:=[! cm,! Ű]
  let j:zV Û e w>co9:=wy zV (Qe (Ã:Qb 1 e w>(Χ,w))) ((cL4 >>= _) w=_) ha
  let x0:AK Û bG e w>(ĕ n,w):=dl9 i 0 ha Y Y;let u:AK Å aK1 e w>(ũ,w):=qg (i:=n) (ds:=δ) Ã x0^zC hn;let c:AK (cw0 aK1) bB6 e w>(as8,w):=bn1 2 u Y Y;let o:zV (FG Å aK1 2) e w>(Ν w):=fT zV aP2 h
  apply#[Ě,ā e (rL ?_ Y)];show bn9 (ZB j) (ZB o)
variable{S:TR.Sh}{bg:TR.Bg}
def yz(b k:V):Þ:=mx k^λ i=>ã<|b+i
def yB(b k:V):⇑(yz b k)=k:=Ğ yz
def Qhi(b k:V):yz b k++[ã<|b+k]=yz b (k+1):=fT yz List.range_succ List.map_append
def yA{b k i:V}(h:i<k):Ů^yz b k>↑(b+i):=fT yz Bt^zu h
def Wk(w:Hs)(rs:aB6):Hs:=w++Ù^yz (ĳ+2) AG::NV rs.flatten::rs.map λ r=>Ù FX
def Pj(w:Hs)(rs:aB6):⇑bd3=ĳ+2+AG:=cr3 Wk
def Fq(w:Hs)(rs:aB6):OM bd3 ĳ^yz (ĳ+2) AG:=fT Wk bh7 Nat.sub_self
def QsU(w:Hs)(rs:aB6):bd3[ĳ+1]?>(NV rs.flatten):=fT Wk aL1<|ī<|ĳ+1-ĳ=1
def Fo{w:Hs}{rs:aB6}{i:V}{r:ź}(h:Ů rs>r):OM bd3 (ĳ+2+i) FX:=by ext Wk;rw[aL1,ī<|ĳ+2+i-ĳ=i+2];exact Ů (rs.map λ r=>hH FX)=_;rw[Bt,h];rfl
def HK{w:Hs}{rs:aB6}{i:V}(h:i<ĳ):Ů bd3=Ů w:=Ag h
def Qls(w:Hs)(rs:aB6)(r:ź):(List.set ((bd3).set (ĳ+1)^NV^co3 r++[hH FX]) ĳ (hH<|yz (ĳ+2) AG++[Ty ⇑bd3]):Hs)=Wk w (rs++[r]):=by
 let e1:(bd3).set (ĳ+1)^NV^co3 r=w++hH^yz (ĳ+2) AG::OV.aJ^cZ^co3 r::rs.map λ r=>hH FX:=fT Wk (ϲ _ À)<|ī<|ĳ+1-ĳ=1
 rw[Pj,Qhi,e1,A7,ϲ _ Ĕ,Nat.sub_self];ext Wk;rw[List.flatten_append,wT<|([r]:aB6).flatten=r,List.map_append,Am];rfl
def Row(S:TR.Sh)(n:V)(r:ź):ä:=∃p,fI>p/\bt7 n r/\r.Nodup/\∀m,m∈r↔∃q,TM>q/\q.lv=p.lv
inductive Rows(S:TR.Sh):ź->ι aB6
 |nil:Rows S [] []
 |cons {n:V} {r:ź} {ls:ź} {rs:aB6}:Row S n r->Rows S ls rs->Rows S (n::ls) (r::rs)
def Rows.len{a:ź}{rs:aB6}(h:Rows S a rs):AG=⇑a:=by
 induction h with
 |nil=>rfl
 |cons _ _ c=>simp[c]
def Rows.get{c:ź}{rs:aB6}(h:Rows S c rs):bH3 i n V<|Ů c>n->∃r,Ů rs>r/\Row S n r:=by
 induction h with
 |nil=>intro i n h;simp at h
 |cons a _ e =>
  intro i n h;cases i with
  |zero=>cases h;show#[_,Y,a]
  |succ i=>show e h
def jV{n:V}{r:ź}(c:bt7 n r):∃a,r=n::a:=by
 cases c with
 |last _ _=>show mi []
 |next _ _ _=>show IK
def Qdx(T:wB S)(top:V){R:V}{rt:TR.Pg}(ht:ú top>rt)(hR:rt.lv=R)(w:Hs)(hN:(R+1) * Ô<cO6):∀{n:V}{G:ź},TR.dU S bg n G->∀(p:TR.Pg)(rs:aB6)(j:V)(z5:Sl),fI>p->p.lv+AG=R->⇑G<j->(∀r∈rs,∀m∈r,∃q,TM>q/\p.lv<q.lv)->co1<=AG * Ô ->
  ∃(C : aB6)(P O : Sl), Rows S G C /\ Xh (i4 d7 ce0^FG Å Û 0) qh j [! cm, ņ top, Ü Ĵ, CO<|ĳ + 1, ņ n, z5] bd3 =
   í (ō [! cm,ņ top,! Ĵ,rq<|ĳ+1,P,O],Wk w (rs++C)):=by
 let o:∀(rs:aB6)(z4 z5:Sl),eB (Qg d7 ce0^FG Å Û 0) [! cm,ņ top,! Ĵ,rq<|ĳ+1,z4,z5] bd3>(A6 AG R,bd3):=λ rs z4 z5=>by
  apply QK ?_;rw[at0 (ĕ AG) y (ĕ R) (Ϗ (cO2 n ĳ^Fq w rs) yB) (ZZ (i:=0) (d:=ĕ R) (ds:=[Í rt.lv,õ^rt.ks.map .int,õ^rt.ps.map .int,opt rt.hi,oN rt.sd]) (qg (i:=top) (ds:=δ) (d:=aK rt) Ã Ã^zC ht) Y^ö hR) Y];exact í (aN1^A6 (Ñ AG)^Ñ R,_)=_;congr 3;by_cases c:AG<=R
  .rw[Ea c,ar3]
  .rw[Ec c,an8]
 let E:∀(n:V)(r:ź)(rs:aB6)(z5:Sl)(d:DV),Row S n r->AG<=R->(∀x∈rs,∀m∈x,m∉r)->co1<=AG * Ô->YX [cm,ã<|ĳ+2+AG]^Wk w (rs++[r])>(d,Wk w (rs++[r])) ->
   qh [! cm,ņ top,! Ĵ,rq<|ĳ+1,ņ n,z5] bd3>(ō [! cm,ņ top,! Ĵ,rq<|ĳ+1,! d,rq<|ĳ+2+AG],Wk w (rs++[r]))/\mz<=Ô:=by
  intro n r rs z5 d #[p,hn,c,nd,mem] hle dis Y2 fk;let rl:mz<=Ô:=Æ (TR.GB T nd mem)^Bi (B9 _ _) Ê
  let a9:co1+mz<OG:=by
   have:AG * Ô<=R * Ô:=bb hle;let e:(R+1) * Ô=R * Ô+Ô:=ab6
   lia
  let l1:1<=Ô:=İ^Zw hn
  let l2:R * 1<=R * Ô:=ż l1;let R9:R<Ĺ:=by
   let e:(R+1) * Ô=R * Ô+Ô:=ab6
   lia
  apply#[?_,rl];let sr:=QcD (S:=S) (d:=ĳ+1) c (seen:=rs.flatten) (QsU w rs) (λ m h z=>br9 x hx u (List.mem_flatten.mp z)^dis x hx m u h) nd a9
  let ap:OM ((bd3).set (ĳ+1)^NV^co3 r++[Ù FX]) ĳ^yz (ĳ+2) AG:=i3 (Ag^ah2 List.length_set Pj) (Ak À)^Fq w rs
  apply Ļ (Qv^og (bZ6 Ã Ã) sr) (Zz^YE (a:=ĳ) Ã ap Ã^Æ yB^Bx hle R9) ?_;rw[Qls,Pj];show Qv (Pi Ã fk)
 intro n G lf;induction lf with
 |@leaf n L hn h0 U =>
  intro p rs j z5 J hl hf v Y2;rw[hn]at J;cases J;let(r,c,nd,mem):=TR.Ov T hn U;let row:Row S n r:=#[L,hn,c,nd,mem];let(r',Q):=jV c;let wr:OM (Wk w<|rs++[r]) (ĳ+2+AG)<|nD<|n::r':=ì Q^Fo cV8
  let(d,fk):=uS (S:=S) wr hn;let(t1,_):=E n r rs z5 d row À (λ x hx m u z=>by let(q,q1,q2):=v x hx m u;let(I,F,q4):=(mem m).mp z;rw[q1]at F;cases F;lia) Y2 fk
  let hf:1<j:=hf;obtain⟨f,Y⟩:∃f,j=f+2:=#[j-2,À];let t0:=o rs (ņ n) z5;rw[ar3]at t0;let t2:=o (rs++[r]) au7<|CO<|ĳ+2+AG;rw[Ec ac8]at t2;show#[[r],! d,_,dp3 row,à (UO t0 t1) (Px t2)]
 |@fork n c0 L G hn h0 U hk lf ih =>
  intro p rs j z5 J hl hf v Y2;rw[hn]at J;cases J;let(r,c,nd,mem):=TR.Ov T hn U;let row:Row S n r:=#[L,hn,c,nd,mem];let(r',Q):=jV c;let wr:OM (Wk w<|rs++[r]) (ĳ+2+AG)<|nD<|n::r':=ì Q^Fo cV8
  let(t1,rl):=E n r rs z5 ↥(Ñ c0) row À (λ x hx m u z=>by let(q,q1,q2):=v x hx m u;let(I,F,q4):=(mem m).mp z;rw[q1]at F;cases F;lia) Y2 (Qau (S:=S) wr hn hk)
  let hf:⇑G+1<j:=hf;obtain⟨f,Y⟩:∃f,j=f+1:=#[j-1,À];let t0:=o rs (ņ n) z5;rw[ar3]at t0;let(cc,q,a1,a2,a3,a4):=dj8 n L h0 0 _ hk;have:c0=cc:=À
  subst this;let(C,P,O,h1,h2):=ih q (rs++[r]) f (CO<|ĳ+2+AG) a2 ac8 À (λ x hx m u=>by
   obtain h|h:=cx8
   .let(I,q1,q2):=v x h m u
    show#[I,q1,À]
   .rw[aL6 h]at u
    let(I,F,q4):=(mem m).mp u;show#[I,F,À]) (by rw[List.flatten_append,Am,Am,wT<|([r]:aB6).flatten=r,P9<|hF ([r]:aB6)=1,Nat.add_mul,Nat.one_mul];lia)
  show#[r::C,P,O,Φ row h1,à (UO t0 t1) (Ũ h2 A7)]
variable{S:TR.Sh}{bg:TR.Bg}
def yt(T:wB S){rt:TR.Pg}(c:an2>rt)(i:bS4 * Ô<cO6)(w:Hs):∃(a:ź)(rs:aB6),TR.dU S bg S.top a/\⇑a=bS4/\Rows S a rs/\JQ [cm,ĕ S.top] w>(aB7,bd3):=by
 let(a,h1,h2):=TR.Qb0 T rt.lv S.top rt Y c T.mO;let j:1<=Ô:=İ^Zw c
 let x:bS4 * 1<=bS4 * Ô:=ż j;let(rs,z4,z5,o,u):=Qdx T S.top c Y w i h1 rt [] Ĺ ń c Ê À (az7 r h h) Ê;apply#[a,rs,h1,h2,o,aB9 [! cm,ņ S.top,! Ĵ,rq<|ĳ+1,z4,z5]];let e:Wk w []=(w++ci9)++[Sc]:=Ą Wk A7
 let v:zU [! cm,ņ S.top,! Ĵ,ń,ń,ń] (w++ci9)>(ã<|ĳ+1,Wk w []):=by rw[e];exact í (Ty ⇑(w++df9),_)=_;rw[Am];rfl
 apply aO3 [! cm,ņ S.top,! Ĵ,ń,ń,ń] (w++ci9) Y^Ļ (Qv v) (Qv Ã) ?_;show l7 (â (xy _ _=_) u) Ã
def vY{J:Hs}{n k:V}{r t a b:Int}(h1:YP>(i6 r k t a b))(h2:OM J k δ):XT [NO] J>(cm,J):=by
 apply aN5 [bV8]^oC (QT (a:=n) Ã h1 bc9) ?_;exact((Zv k >>= λ o=>cH8 o ds cu5 failure cK8) >>= λ ds=>af2 ds) J=_;have:(Zv k >>= λ o=>cH8 o ds cu5 failure cK8) J>(δ,J):=ö^ů h2
 rw[IU];rfl
#where
def QiT{b:DV->aN}(Y2:V->En)(W:V->Hs)(a:V)(ds:Þ)(hl:ê<Ĺ)(ha:∀i,i<=ê->as2[a]?>ū)(c:∀(i:V) d,FL>d->b d bZ7 as2>(MF<|i+1,W (i+1))):jX (fZ a) b Ĺ 0 ai1 bz8>(dr2,W ê):=by
 have:=Gj (b:=b) (env:=ai1) (J:=bz8) (nxt:=fZ a) (Q:=λ r h=>r=dr2/\h=W ê) ds (λ i env h=>i<=ê/\env=bZ7/\h=as2) hl (λ i env h hi #[_,e1,e2]=>by
  subst e2;show VL (ha i hi) i) #[Fm,Y,Y] (λ i d hd env h #[_,e1,e2]=>by
  subst e1 e2;show WP.of (c i d hd) #[bc5,Y,Y])^λ env h #[_,e1,e2]=>#[cR1,e2]
 let(r,h,e,Y,Y):=this;show e
def CV(w:Hs)(d:DV)(ds:Þ):ä:=d=ū∨∃n,d=NO/\ID w>ū
def Qkt{f:aD}{g:mj}{a:aN}{J:Hs}{ds:Þ}(Y2:V->En)(W:V->Hs)(hf:i0>(d,J))(hx:CV J d ds)(hl:ê<Ĺ)(h0:ai1=env)(c:bz8=J)(keep:∀(i n:V),i<=ê->YP>(hH ds)->ID as2>(hH ds))
  (hs:∀(i:V) d,FL>d->(do let env' <- g d bZ7;a env':M (Fl × En)) as2>(MF<|i+1,W (i+1))):Xo (cQ f) g a env J>(dr2,W ê):=by
 subst h0 c;obtain Y|⟨n,Y,hn⟩:=hx
 .show VQ (jF hf) (vd Y2 W ds hl hs)
 .let x:cQ f ai1 bz8>(fZ n,bz8):=wy cQ aH1 ((LG >>= _) bz8=_) hn
  ext Xo;rw[Qe x];show QiT Y2 W n ds hl (λ i hi=>keep i n hi hn) hs
variable{S:TR.Sh}{bg:TR.Bg}
def gM{n:V}{r:ź}(c:bt7 n r):∀{i m:V},Ů r>m->∃p,TM>p/\p.sd=r[i+1]?:=by
 induction c with
 |@last n p hn a =>
  intro i m h;cases i with
  |zero=>cases h;show#[p,hn,a]
  |succ i=>simp at h
 |@next n p s r hn a c j =>
  intro i m h;cases i with
  |zero=>cases h;let(o,e):=jV c;show#[p,hn,Ũ a e]
  |succ i=>show j h
def fH(bg:TR.Bg)(r:ź):f8:=r.map λ m:V=>(ë mG,ae1 m)
def QlA{r:ź}{k:V}(h:k∉r):XL (aT9 r) ai7^ae1 k=aT9 (r++[k]):=by
 ext XL;rw[C7 dc7]
 .ext fH;rw[List.map_append];rfl
 .rw[List.any_eq_true]at z;let(a,m,e):=z;let(x,hx,Y):=bK8 m;let e:=Eb e;have:x=k:=al7 e e
  show h (this▸hx)
def Gn(k:V):∀{r:ź},k∈r->ZT (aT9 r) ai7>(ae1 k)
 |x::xs,h=>by
  ext ZT;exact dr7 _ ((nX^Ñ x,ae1 x)::aT9 xs)=_;rw[B0];by_cases e:x=k
  .subst e;simp
  .let a:¬ (nX (Ñ x):Key)=nX fw:=λ z=>e^al7 z z
   rw[Ec a];obtain z|z:=ny h
   .show Ė z.symm e
   .show Gn k z
def qS(bg:TR.Bg)(r:ź)(i:V):DV:=match Ů r with
 |some m=>ae1 m
 |none=>Ě
def Qnl{e f g:aD}{J:Hs}{d:V}{k:Int}{kvs:f8}(a:br3>(x,J))(hf:i0>(ã d,J))(hd:J[d]?>AA)(c:bH0>(Ll,J))(hl:gi<Ĺ):Yg e (cL f g) env J>(rr,fS d (bu5 q7 x)):=by
 ext Yg;rw[Qe a];have:cL f g x env J>(env,fS d (bu5 q7 x)):=by
  ext cL;rw[aH1,aP2];let q:tM ↑d ↥k x J>((),fS d (bu5 q7 x)):=sf ((Zv d >>= _) J=_) hd ((ag (gi<lim) >>= λ_=>VS d^bu5 q7 x) J=_)^LH (Af gi lim) cq3
  rw[Qe q];rfl
 rw[IU];rfl
def gF{r:ź}(F:∀{i m:V},Ů r>m->∃p,TM>p/\qS bg r (i+1)=aE)(h0:qS bg r 0=Ě)(u:r.Nodup)(hl:mz<OG){w:Hs}(hx:CV w d FX):zn [cm,d] w>(aB7,w++[cV4]):=by
 have Y2:V->En:=λ i=>[! cm,! d,! Ĵ,!(qS bg r i),match i with|0=>ń|j+1=>Ü<|match Iq r with|some m=>ĕ m|none=>Ě]
 have W:V->Hs:=λ i=>w++[aU0 ag1]
 let old:∀(i n:V)(ds:Þ),ID w>(hH ds)->ID as2>(hH ds):=λ i n ds h=>fh (ID (w++_)=_) (Ag^Zw h) h
 let v:CV bz8 d FX:=by
  obtain h|⟨n,h,hn⟩:=hx
  .show FE
  .show ċ #[n,h,old 0 n _ hn]
 let a:Vn ai1 bz8>(MF ⇑FX,W ⇑FX):=by
  apply Qkt Y2 W (Ã:Qb 1 ai1 bz8>(d,bz8)) v (ĩ xi) Y Y (mo i n hi hn)^ľ i x c
  .by_cases e:n=ĳ
   .subst e;have:bz8[ĳ]?>(aU0^r.take 0):=au3 ((w++_)[ĳ]?=_) bh7 Nat.sub_self
    rw[this]at hn;cases hn
   .let nl:n<ĳ:=by
     have:=Zw hn;let P:⇑bz8=ĳ+1:=Ğ W
     lia
    apply old i n _ ?_;have:ID bz8=ID w:=Ag nl;rw[<- this];show hn
  .let y:i<mz:=cR7 (Zw c) xi
   let o:Ů r>r[i]:=Ab y;rw[Ij o]at c;cases c;let(p,I,L):=F o;let bi:qS bg r i=ae1 r[i]:=hp qS o
   let wd:as2[ĳ]?>(aU0 ag1):=au3 ((w++_)[ĳ]?=_) bh7 Nat.sub_self
   have e:En:=[! cm,! d,! Ĵ,!(qS bg r i),ņ r[i]]
   exact Vr e as2=_;let C:r[i]∉ag1:=λ z=>by let(j,G,E):=Cm.mp z;rw[A8]at G;rw[List.getElem_take]at E;show(List.pairwise_iff_getElem.mp u j i À y À) E
   let st:(as2).set ĳ^tF^XL (aT9 ag1) (cu3 r[i])^qS bg r i=W (i+1):=by rw[bi,QlA C];exact(w++_).set ĳ _=w++_;rw[ϲ _ Ĕ,Nat.sub_self,ac4 y];rfl
   apply ϩ (Qnl (d:=ĳ) (k:=Ñ r[i]) Ã Ã wd Ã^by ext fH;rw[Br,A8];lia);rw[st];apply ϔ^Qv^ZZ (i:=3) (d:=aE) (ds:=[AV,as9,as8,aE,ma]) (qg (i:=r[i]) (ds:=δ) (d:=ũ) Ã Ã^zC I) Y Y;exact í (ba0 [_,_,_,cZ5 aE,_],_)>(ba0 [_,_,_,cZ5<|qS bg r<|i+1,cZ5<|match Ů r with|some m=>eD mG|none=>DV.non],_);rw[L,o]
 rw[xi]at a;let O:W mz=w++[cV4]:=AE (w++_=_) List.take_length
 rw[O]at a;apply aB9^Y2 mz;apply aO3 [! cm,! d,! Ĵ,ń,ń] (w++[Sc]) Y^Ō aF ai1 bz8 ?_^l7 a Ã;exact í (ba0 [_,_,_,cZ5 DV.non,_],_)>(ba0 [_,_,_,cZ5^qS bg r 0,_],_);rw[h0];rfl
#where
def Su{f g:aD}(hf:i0>(rc,J))(a:bH0>(õ es,J)):gb f g env J>(jG ds es,J):=by ext gb;rw[aH1,Qe (Y:gD rc J>(ds,J)),Qe a];rfl
def uA{f g:aD}{ds:Þ}{a:V}(hf:i0>(rc,J))(c:bH0>(ĕ a,J)):bO f aJ3 ZE env J>(õ dc1,J):=by
 ext bO Zi ZE;rw[aH1];let e1:(sQ i cY8 bu0:M Ć) J>(wh a,J):=ö aP2
 rw[L9,Qe (Y:(aU7:M Ć) J>(none,J)),<- xW ds a];rfl
def Oq{f:aD}(hf:i0>(rc,J)):lK f env J>(ds,J):=fN lK hf
def yL{f g:aD}{b:Bool}(h:i0>(FH,hp1)):tV f g env J=Ř b (í (Ő,hp1)) bu6:=aa5 tV b
def Qh7:∀ds:Þ,lX dc2>(pc ah0):=by
 intro c;induction c with
 |nil=>show Y
 |cons _ ds a=>exact mr (lX dc2) (true :: ·)=_;rw[a];rfl
def Ph{c:aD}{ds:Þ}(h:aS0>(Ù dc2,J)):wV GQ c env J>(Ő,J):=by apply oC h ?_;exact(pq (lX dc2) >>= λ bs=>ï^aN1 aT2) J=_;rw[Qh7,Qe (Y:pq (í^pc ah0) J>(pc ah0,J))];exact í (aN1^(pc ah0).all id,J)=_;congr 3;rw[List.all_eq_true];intro x hx;let(_,_,Y):=F0;rfl
def QdJ{O4:V}{b:Ć}(ok:TR.JL O4 b p)(E:NC O4)(J:Hs):jJ [ũ,LA] J>(Ő,J):=by
 let few:=ok.few
 have e:En:=[! ũ,! LA,sB Ł,! aE]
 let j:⇑lS<Ĺ:=cd3
 let o:∀x∈lS,∃k∈p.ks,x=Ll:=λ x hx=>by let(k,h,Y):=F0;show#[k,h,Y]
 let r:xN e J>(pk (jG Ł^(Ł).drop 1) aj4,J):=by apply yI (nw:=false) (m:=aj4) (VU^Su Ã^uA (a:=1) Ã Y) an5 aQ5^ĩ uL;let(i,hi):=Bu.mp hx;let(u,v,h1,h2,Y):=QcU hi;rw[Ca]at h2;rw[Bt]at h1 h2;let(k1,g1,Y):=ba9 h1;let(k2,g2,Y):=ba9 h2;let lt:=TR.zh ok.sorted g1 g2 À;apply ϔ^at0 (Í k1) y (Í k2) (nG i 0 [Í k1,Í k2] Ã Y Y) (nG i 1 [Í k1,Í k2] Ã Y Y) Y;exact í (aN1^Af k1 k2,J)=_;rw[Ea lt]
 let c2:∀v,b>v->qN e J>(pk lS aj4,J):=λ v hv=>by apply yI (nw:=false) (m:=aj4) (VU^Oq Ã) an5 aQ5 j;let(k,h,Y):=o x hx;have:=ok.low k h v hv;apply ϔ^at0 dm6 y Ll (ĸ (í (LA,J)=_) hv) Ã Y;exact í (aN1^A6 v k,J)=_;rw[Ea this]
 let c1:∀v,p.hi>v->qM e J>(pk lS aj4,J):=λ v hv=>by apply yI (nw:=false) (m:=aj4) (VU^Oq Ã) an5 aQ5 j;let(k,h,Y):=o x hx;have:=ok.high k h v hv;apply ϔ^at0 Ll y dm6 Ã (ĸ (í (aE,J)=_) hv) Y;exact í (aN1^Af k v,J)=_;rw[Ea this]
 apply aB9 e;apply Qo (Qv^nG i 1 [AV,as9,as8,aE,ma] Ã Y Y)^P8 aF e (nG i 3 [AV,as9,as8,aE,ma] Ã Y Y) ?_;apply bC9^ZB^QK^Ph r;let C:bJ6 (LE (cT4 Û)^gp^ð GQ qN) AD e J>(ō e,J):=by
  apply(QX ?_);cases c:b with
  |none=>show zS (QK^nh Ě (ĸ (í (LA,J)=_) c) Y Y)
  |some v=>show dn1 (QK^nh dm6 (ĸ (í (LA,J)=_) c) Y Y) (ZB^QK^Ph^c2 v c)
 let z:bJ6 (LE (cT4 Ă)^gp^ð GQ qM) AD e J>(ō e,J):=by
  apply(QX ?_);cases c:p.hi with
  |none=>show zS (QK^nh Ě (ĸ (í (aE,J)=_) c) Y Y)
  |some v=>show dn1 (QK^nh dm6 (ĸ (í (aE,J)=_) c) Y Y) (ZB^QK^Ph^c1 v c)
 apply Ļ C z^Qt ?_;cases c:b with
 |none=>show yL (b:=true) (nh Ě (ĸ (í (LA,J)=_) c) Y Y)
 |some v =>
  apply ϔ^yL (b:=false)^nh dm6 (ĸ (í (LA,J)=_) c) Y Y;cases hh:p.hi with
  |none=>show yL (b:=true) (nh Ě (ĸ (í (aE,J)=_) hh) Y Y)
  |some u=>apply ϔ^yL (b:=false)^nh (Í u) (ĸ (í (aE,J)=_) hh) Y Y;have:=ok.wide u hh v c;apply ϔ^at0 dm6 y (Í u) (ĸ (í (LA,J)=_) c) (ĸ (í (aE,J)=_) hh) Y;exact í (aN1^Af v u,J)=_;rw[Ea this]
def MQ(o:cP6):oN o=opt (o.map λ n:V=>iq):=l3 o
variable{bg:TR.Bg}
def QhI{O4:V}{b:Ć}{p:TR.Pg}(ok:TR.JL O4 b p)(J:Hs):qQ [ũ] J>(Í fA,J):=by
 have e:En:=[! ũ]
 let a:AK Å bG e J>(AV,J):=nG i 0 [AV,as9,as8,aE,ma] Ã Y Y;let c:wV ZG au9 e J>(Í μ,J):=ĵ (oC (nG i 1 [AV,as9,as8,aE,ma] Ã Y Y)^Uu _ J) Br;let pl:=ok.parts;apply aN5 e ?_;by_cases z:aQ4
 .rw[C8 z,Nat.add_zero]at pl;apply ϔ^KD (hp1:=J)^cO3 b ?_
  .show as7 (Ot a Y) z
  .show c.trans (Ϻ pl)
 .rw[C7 z]at pl;apply ϔ^G9 (hp1:=J)^II b ?_
  .apply ϔ^Ot a Y;congr 2;simp;lia
  .apply ϔ^Gk c Y;rw[pl];rfl
def vU{O4:V}{b:Ć}{p:TR.Pg}(ok:TR.JL O4 b p)(o:(bO6/\bO7)∨∃(x:Int)(s:V),p.hi>x/\p.sd>s)(r:NC O4)(w:Hs)(m:Int):XN [Í m,ũ,AV,LA,ma] w>(aB7,w++ci9):=by
 have e:En:=[cP9,! ũ,Ý p.lv,! LA,! ma,! Ĵ]
 have v:=w++df9
 let x0:AK Û bG e v>(AV,v):=nG i 0 [AV,as9,as8,aE,ma] Ã Y Y;let u:wV ZG dc6 e v>(Í fA,v):=ĵ (oC (nG i 2 [AV,as9,as8,aE,ma] Ã Y Y)^Uu _ v) Br;let c:AK Û (ġ 3) e v>(aE,v):=nG i 3 [AV,as9,as8,aE,ma] Ã Y Y;let a:AK Û (ġ 4) e v>(ma,v):=nG i 4 [AV,as9,as8,aE,ma] Ã Y Y;apply aB9 e;apply aO4 e v Y;apply bC9^Ω x0 Ã^T8 _ _;apply bC9^ZB^QK^Pi Ã^QdJ ok r v;apply bC9^Ω u (cf0^QhI ok v)^T8 _ _;apply at6 ?_ Ã;let j:Qg cW (au0^LX 3) (au0^LX 4) e v>(ő,v):=by
  obtain⟨h1,h2⟩|⟨x,s,h1,h2⟩:=o
  .show at0 Ő y Ő (nh Ě (Ũ c h1) Y Y) (nh Ě (Ũ a h2) Y Y) (T9 _ _)
  .show at0 ő y ő (nh (Í x) (Ũ c h1) Y Y) (nh (Í s) (Ũ a h2) Y Y) (T9 _ _)
 apply bn9 (QK j)^QK ?_;rw[MQ]at a;apply ϔ^Qj a (y:=opt (p.sd.map λ n:V=>iq)) (AE (í (ma,v)=_) MQ)^Sg _ _ _;simp;rfl
def gc{b:Ć}{p:TR.Pg}{r:ź}{a:V}{w:Hs}(E:w[a]?>cV4)(Q:fA=μ+1)(hl:cf9)(P:bT j x Int<|cy3>x->∃c:V,x=aU4/\c∈r/\bZ3=TR.JA b p.ks j)(m:Int):qr [Í m,ũ,LA,Χ] w>(aB7,w++ci9):=by
 have v:=w++df9
 let U:a<ĳ:=Zw E;let u:v[a]?>cV4:=fh ((w++_)[a]?=_) (Ag U) E
 have o:Þ:=LA::Ł
 have Y2:V->En:=λ i=>[cP9,! ũ,! LA,! Ű,sB Ī,sB o,! Ĵ,match i with|0=>ń|j+1=>ņ j,match i with|0=>ń|j+1=>Ü<|match cy3 with|some x=>Í x|none=>Ě]
 let e:=SE (b:=aM5 d 7 d (za env')) Y2 v (cr1 fA) (λ i d hd=>by
  let(hi,L):=xp hd;subst L;let hx:Ů p.ps>p.ps[i]:=bY6;let(c,C,z,G):=P i _ hx
  have z8:Sl:=match i with|0=>ń|j+1=>Ü<|match cy3 with|some x=>Í x|none=>Ě
  have I:En:=[cP9,! ũ,! LA,! Ű,sB Ī,sB o,! Ĵ,bG9,z8]
  have e8:En:=[cP9,! ũ,! LA,! Ű,sB Ī,sB o,! Ĵ,bG9,ņ c]
  let R:Y2 (i+1)=e8:=by exact[_,_,_,_,_,_,_,_,cZ5<|match Ů p.ps with|some x=>eD x|none=>DV.non]=_;rw[hx,C]
  rw[R];exact za I v=_;apply aO3 e8 v (nG i i Ī Ã Ã^by rw[Bt,hx,C];rfl)^QX ?_;let O:Qg nA ck (cr Ń) e8 v>(ő,v):=by apply ϔ^at0 (ĕ i) y (ĕ ⇑o) Ã (ZI ύ^Uu _ v) Y;exact í (aN1^A6 (dm8 o) A4,v)=_;rw[Ec (by exact ¬ (dm8 (LA::lS)<=A4);rw[A9,Br];lia)]
  let wi:Ů o>(opt^TR.JA b p.ks i):=by
   cases i with
   |zero=>rfl
   |succ i=>exact Ů lS>(opt^Ů p.ks);rw[Bt,Ab À];rfl
  apply bn9 (QK O)^bn9 (QK^at0 (ĕ c) y Χ Ã Ã^QmG u^Gn c z)^QK ?_;apply ϔ^at0 (ae1 c) y (ae1 c) (at0 Χ y (ĕ c) Ã Ã^HH u^Gn c z) (nG i i o Ã Ã^Ϗ wi G)^Sg _ _ _;simp)
 rw[ZC]at e;apply aB9^Y2 fA
 have F:En:=[cP9,! ũ,! LA,! Ű,sB Ī,ń,ń,ń,ń]
 apply aO4 F w^nG i 2 [AV,as9,as8,aE,ma] Ã Y Y;let s5:Qg Zm cg4 (LX 1) F w>(õ o,w):=aN2 (at0 (õ [LA]) y as9 (Z7 ύ å) (nG i 1 [AV,as9,as8,aE,ma] Ã Y Y) ?_) ((ah6 ([LA]++lS) >>= λ_=>af3<|[LA]++lS:Ģ) w=_) (Xf^by rw[Am,Br];simp;lia)
 apply Qo (Qv s5)^aO3 ai1 v Y^l7 (qD (ds:=cr1 fA) (bM2 m fA ?_ À) e aC1) Ã;show ĵ (ZI ύ^Uu Ī v) Br
variable{S:TR.Sh}{bg:TR.Bg}
def Qcq(T:wB S){n:V}{r:ź}(h:Row S n r)(u:ų Ų):(∀{i m:V},Ů r>m->∃p,TM>p/\qS bg r (i+1)=aE)/\qS bg r 0=Ě:=by
 let(C,hn,c,nd,mem):=h;apply bI0^λ{i m} v=>?_
 .let(p,h1,h2):=gM c v;apply#[p,h1,?_];ext qS;obtain⟨a,j⟩|⟨x,s,q,a,j,y,z,o⟩:=ar9 m h1
  .rw[<- h2,j,a];rfl
  .rw[<- h2,j,a];exact ae1 s=_;rw[o]
 .let(E,e):=jV c;ext qS;rw[e];exact opt Ų=_;rw[u];rfl
def Gx{w v:Hs}{o:aD}{fa:cu}{a x:V}(e:cs5 w>(Χ,w))(ha:w[a]?>Ο)(hf:aJ4 w>([ã x],v))(c:v[a]?>Ο)(hx:v[x]?>Ο):Zy (Zo Đ Xm o fa) env w>(rr,v):=by have:=VB e ha hf c hx Ê;rw[P9<|([]:Þ)++[]=[],HZ c]at this;show Zz this
def QW{w t:Hs}{i:V}(h:Ů w>x):Ů (w++t)>x:=Æ (Ag^Zw h) h
def zt(w:Hs)(x:OV):(w++[x])[ĳ]?>x:=cV8
def yu(T:wB S)(hr:NC S.O4){n:V}{r rb:ź}(row:Row S n r)(hb:ų Ų){lv:V}(mU:∀p,fI>p->IO lv)(a9:mz<cO6)(aa:rb.length<cO6)(Q:rb.Nodup)
  (hbe:(∀{i m:V},Ů rb>m->∃p,TM>p/\qS bg rb (i+1)=aE)/\qS bg rb 0=Ě) (Mf:0<lv->∀c q,ú c>q->q.lv+1=lv->c∈rb) {w:Hs} {a:V} {dB:DV} (ha:OM w a FX) (hB:CV w dB^nD rb) :
  ∃(t:Hs)(x:V),zM [cm,Χ,ĕ lv,dB] w>(ã x,w++t)/\(w++t)[x]?>Ο:=by
 let rB:=row;let(p0,hn,c,nd,mem):=row;let l0:=mU p0 hn;let(L,Y2):=Qcq T rB hb
 have o:=w++[bn3 r]
 have u:=o++[bn3 rb]
 have e:=u++df9
 let L1:⇑o=ĳ+1:=Ğ o
 let L2:⇑u=ĳ+2:=my u o
 let d1:e[ĳ]?>cV4:=bm0^zt w _;let d2:e[ĳ+1]?>(aU0 rb):=im (zt o^bn3 rb) L1^QW this
 let z:e[ĳ+2]?>Ο:=cR7 (zt u ce6) L2
 let a3:OM e a FX:=bm0^QW ha;let P:CV o dB^nD rb:=by
  obtain h|⟨k,h1,h2⟩:=hB
  .show FE
  .show ċ #[k,h1,QW h2]
 have E:Sl->Sl->Sl->Sl->En:=λ z7 z8 z9 eX=>[! cm,! Ű,ņ lv,! dB,! Ĵ,rq<|ĳ+1,rq<|ĳ+2,z7,z8,z9,eX]
 let(y,hp',e4,R,y7,y8,y9,U,Y,Y):=KE (b:=aF1 d y (aM4 7 d) (XY y)) (λ_ env J=>∃(t:Hs)(z7 z8 z9 eX:Sl),env=E z7 z8 z9 eX/\J=e++t) mz (E ń ń ń ń) e #[[],ń,ń,ń,ń,Y,Ê] (λ i hi env J aH=>by
  let(t,z7,z8,z9,eX,e1,e2):=aH;subst e1 e2;let hm:Ů r>r[i]:=bY6;let(p,C,p2):=gM c hm;let pl:IO lv:=by let(q,q1,q2):=(mem r[i]).mp (B7 hi);rw[C]at q1;cases q1;lia
  let ok:=mn r[i] p C;let lk:(bO6/\bO7)∨∃(x:Int)(s:V),p.hi>x/\p.sd>s:=by
   obtain h|⟨x,s,q,a1,a2,_⟩:=ar9 r[i] C
   .show FE
   .show ċ #[x,s,a1,a2]
  have v:=e++t
  have O:=E bG9 z8 z9 eX
  have e8:=E bG9 (ņ r[i]) z9 eX
  have e9:=E bG9 (ņ r[i]) (Ü ũ) eX
  have e10:=E bG9 (ņ r[i]) (Ü ũ)^Ü ma
  let G:OM v a FX:=QW a3;let s8:AK Û ck O v>(ĕ r[i],v):=dl9 i i G Ã^Ij hm;let s9:AK Å Ts e8 v>(ũ,v):=qg (i:=r[i]) (ds:=δ) Ã Ã^zC C;let n_:wV ZG Û e9 v>(Í mz,v):=Ϗ (cO2 n a G) xi
  let nx:Qg Zm ck bn e9 v>(ĕ (i+1:V),v):=jQ (i:=i) (j:=1) Ã Y;let Dy:cU (i4 bV dd2 cR2) (ϖ Û dd2) fY e9 v>(ma,v):=by
   by_cases q:i+1<mz
   .let h':r[i+1]?>r[i+1]:=Ab q;apply ϔ^KD (hp1:=v)^cO3 b^ĵ (Mc nx n_) ar3;rw[p2,h'];show dl9 i (i+1) G nx (Ij h')
   .apply ϔ^G9 (hp1:=v)^II b^ĵ (Mc nx n_) an8;rw[p2,Cr À];rfl
  let Tv:∀(v':Hs)(h:v'[ĳ]?>cV4),AK ě Ts e10 v'>(ae1 r[i],v'):=λ v' h=>Qj Ã Ã^HH h^Gn r[i]^B7 hi;let pf:XN [ĕ r[i],ũ,ĕ lv,ae1 r[i],ma] v>(ã ⇑v,v++ci9):=cR7 (vU ok lk hr v^Ñ r[i]) pl
  have v':=v++df9
  let x1:Zy (Ζ Đ Xm o6^Qy 5 XN^EW Ts Fs ß (ϖ ě Ts) by6) e10 v>(ō e10,v') :=
   Gx (a:=ĳ+2) (x:=⇑v) Ã (QW z) (QL^og (GO Ã Ã Ã (Tv v^QW d1) Ã) pf) (bm0 z)^zt v _
  by_cases lz:0<lv
  .let pp:=ok.parts;rw[ec]at pp;let kf:qr [ĕ r[i],ũ,ae1 r[i],ã<|ĳ+1] v'>(ã ⇑v',v'++ci9):=gc (r:=rb) (bm0 d2) pp (Bi ok.few hr) (λ j x hx=>by let(cc,q,I,F,b3,b4):=T.kid r[i] p C À j x hx;show#[cc,I,Mf lz cc q F À,b4]) _
   apply#[e10,v'++ci9,?_,t++ci9++ci9,_,_,_,_,Y,my v' v];exact XY O v=_;apply Ļ (Qv s8) (Qv s9)^Ļ (Qv Dy) x1^ZN (hp1:=v') (cO3 b ?_) ?_
   .show ĵ (vj (i:=Ñ lv) Ã Y) ar3
   .show Gx (a:=ĳ+2) (x:=⇑v') Ã (bm0 z) (QL^og (gE Ã Ã (Tv v'^bm0 d1) Ã) kf) (bm0^QW z) (zt v' _)
  .apply#[e10,v',?_,t++ci9,_,_,_,_,Y,my v' v];exact XY O v=_;apply Ļ (Qv s8) (Qv s9)^Ļ (Qv Dy) x1^QX (hp1:=v')^II b ?_;show ĵ (vj (i:=Ñ lv) Ã Y) an8)
 apply#[[bn3 r,bn3 rb,ce6]++R,ĳ+2,aB9 (E y7 y8 y9 U),by have:=QW (t:=R) z;simpa [e,u,o]using this];let I:=gF (S:=S) (bg:=bg) L Y2 nd À (w:=w) (d:=Χ)^ċ #[a,Y,ha];let F:=gF (S:=S) (bg:=bg) hbe.1 hbe.2 Q À (w:=o) (d:=dB) P;rw[L1]at F;apply aO4 [! cm,! Ű,ņ lv,! dB,! Ĵ,ń,ń,ń,ń,ń,ń] o^Pi Ã I;apply aO4 [! cm,! Ű,ņ lv,! dB,! Ĵ,rq<|ĳ+1,ń,ń,ń,ń,ń] u^Pi Ã F;let n3:Yw Qk [! cm,! Ű,ņ lv,! dB,! Ĵ,rq<|ĳ+1,ń,ń,ń,ń,ń] u>(ã<|ĳ+2,e):=AE (í (Ty ⇑u,_)=_) L2
 apply aO3 (E ń ń ń ń) e n3^l7 (qD (ds:=cr1 mz) (bM2 m mz (Ϗ (cO2 n a a3) xi) À) e4 aC1) ?_;exact í (Ty<|ĳ+2,e++R)=_;simp[e,u,o]
variable{S:TR.Sh}{bg:TR.Bg}
def Row.lt(T:wB S){n:V}{r:ź}(h:Row S n r):mz<=Ô:=by let(p,hn,c,nd,mem):=h;rw[TR.GB T nd mem];show Bi (B9 _ _) Ê
def Qgp(T:wB S)(hr:NC S.O4){rt:TR.Pg}(ht:an2>rt)(hN:bS4 * Ô<cO6){w:Hs}{n k:V}{rm a b:Int}(h1:ID w>(i6 rm k mH a b))(h2:OM w k δ):
  ∃(t:Hs)(x:V),GJ [NO] w>(ã x,w++t)/\(w++t)[x]?>Ο:=by
 let(C,rs,lf,ll,F,lv):=yt T ht hN w;let rl:=F.len;let l1:1<=Ô:=İ^Zw ht
 let pN:Ô<cO6:=A3 (1 * Ô<=bS4 * Ô)^bb À
 let R9:bS4<cO6:=A3 (bS4 * 1<=bS4 * Ô)^ż l1
 let lg:=lf.get T rt ht
 have Q:=bd3
 have o:=Q++df9
 have N:=⇑Q
 let G:OM o ĳ^yz (ĳ+2) AG:=QW^Fq w rs;let r2:bH3 i r ź<|Ů rs>r->OM o (ĳ+2+i) FX:=λ h=>QW^Fo h;let P:o[N]?>Ο:=zt Q _
 have E:Sl->Sl->Sl->En:=λ z4 z5 z6=>[bV8,! cm,! Ĵ,rq N,z4,z5,z6]
 let(y,hp',I,t4,y4,y5,y6,Y,Y):=KE (b:=aF1 d y (aM4 4 d) (xa y)) (λ_ env J=>∃(t:Hs)(z4 z5 z6:Sl),env=E z4 z5 z6/\J=o++t) AG (E ń ń ń) o #[[],ń,ń,ń,Y,Ê] (λ i hi env J aH=>by
  let(t,z4,z5,z6,e1,e2):=aH;subst e1 e2
  have v:=o++t
  let il:i<⇑C:=À
  let hl:Ů C>C[i]:=Ab il;let(r,O,row):=F.get hl;let(q,q1,q2,q3):=lg.2 i _ hl
  have lvl:=rt.lv-i
  let n_:∀e:En,Qb 2 e v>(aB7,v)->wV ZG ß e v>(Í AG,v):=λ e he=>Ϗ (Jq (n:=ĳ) he^QW G) yB
  have I:=E bG9 z5 z6
  have U:=E bG9 (ņ lvl) z6
  let s5:Qg zi (dr3 ce0) ě I v>(ĕ lvl,v):=by apply ϔ^GF (GF (n_ I Ã) Y) Ã;congr 3;exact Ñ AG-1-A4=Ñ (rt.lv-i:V);lia
  let g0:AK ß ě U v>(ã<|ĳ+2+i,v):=dl9 i i (QW G) Ã^yA hi;let w6:∀p,ú C[i]>p->IO lvl:=λ p J=>by rw[q1]at J;cases J;exact q.lv=rt.lv-i;lia
  by_cases z:0<lvl
  .let i1:i+1<⇑C:=by exact _;have:0<rt.lv-i:=z;lia
   let L:C[i+1]?>C[i+1]:=Ab i1;let(rb,ae,R):=F.get L;let(qb,wO,aw,ar):=lg.2 (i+1) _ L;let nb:rb.Nodup:=let #[_,_,_,nd,_]:=R;nd;let(t',x,f1,f2):=yu T hr row q3 w6 (Bx (row.lt T) pN) (Bx (R.lt T) pN) nb (Qcq T R ar) (λ_ c qc a9 aa=>by let(pb,Y2,_,_,Lk):=R;rw[wO]at Y2;cases Y2;show(Lk c).mpr #[qc,a9,A3 (qc.lv+1=rt.lv-i) aa]) (w:=v) (a:=ĳ+2+i) (dB:=ã (ĳ+2+(i+1))) (QW^r2 O) (ċ #[_,Y,QW (r2 ae)])
   let s6:cU (eB^Ò fu Ń 0) (ϖ ß dd1) aG8 U v>(ã<|ĳ+2+(i+1),v):=by apply ϔ^KD (hp1:=v)^cO3 b^ĵ (vj (i:=Ñ lvl) Ã Y) ar3;show dl9 i (i+1) (QW G) (jQ (i:=i) (j:=1) Ã Y) (yA À)
   apply#[E bG9 (ņ lvl) (CO<|ĳ+2+(i+1)),v++t',?_,t++t',_,_,_,Y,Ğ v];exact xa I v=_;apply Ļ (Qv s5) (Qv s6) ?_;show Gx (a:=N) (x:=x) Ã (QW P) (QL^og (gE Ã (dl9 i i (QW G) Ã^yA hi) Ã Ã) f1) (bm0 P) f2
  .let(t',x,f1,f2):=yu T hr (rb:=[]) row q3 w6 (Bx (row.lt T) pN) Ê List.nodup_nil (mi^λ{i m} h=>ED) (λ h=>Ė h z) (w:=v) (a:=ĳ+2+i) (dB:=Ο) (QW^r2 O) ϊ;let s6:cU (eB^Ò fu Ń 0) (ϖ ß dd1) aG8 U v>(Ο,v):=by apply à (G9 (hp1:=v)^II b^ĵ (vj (i:=Ñ lvl) Ã Y) an8) Y
   apply#[E bG9 (ņ lvl) (Ü Ο),v++t',?_,t++t',_,_,_,Y,Ğ v];exact xa I v=_;apply Ļ (Qv s5) (Qv s6) ?_;show Gx (a:=N) (x:=x) Ã (QW P) (QL^og (gE Ã (dl9 i i (QW G) Ã^yA hi) Ã Ã) f1) (bm0 P) f2)
 let wk:∃u,o++t4=w++u:=#[(hH^yz (ĳ+2) AG::OV.aJ^cZ rs.flatten::rs.map λ r=>hH FX)++df9++t4,by simp[o,Q,Wk]];let(u,eu):=wk;apply#[u,N,aB9 (E y4 y5 y6),ì eu (QW P)];rw[<- eu];apply aO4 [bV8,! cm,ń,ń,ń,ń,ń] w^QZ (a:=n) Ã h1 Y Yv Y^vY h1 h2;apply aO4 [bV8,! cm,! Ĵ,ń,ń,ń,ń] Q^Pi (QZ (a:=n) Ã h1 (VT ..) Yv Y^Ru h1) lv;apply aO3 (E ń ń ń) o Y^l7 (qD (ds:=cr1 AG) (bM2 m AG (Ϗ (cO2 n ĳ G) yB) À) I aC1) Ã
def QkL(T:wB S)(j:NC S.O4){rt:TR.Pg}(o:an2>rt)(i:bS4 * Ô<cO6){w:Hs}{n k:V}{rm a b:Int}(h1:ID w>(i6 rm k mH a b))(h2:OM w k δ):
  ∃t:Hs,X2 [NO] w>(Ő,w++t):=by
 let(t,x,c,e):=Qgp T j o i h1 h2;show#[t,aN5 [bV8] (at0 (ã x) y Ο (cf0 c) Y^QiK (n:=0) e (az7 d hd hd) Á)]
variable{S:TR.Sh}{bg:TR.Bg}
def Yq(S:TR.Sh)(m:V):da7:=match TM with
 |some p=>ay0
 |none=>[]
def Qlk:∀(a b:Ĥ),jG (a.map .int)^b.map .int=aU^a.zip b:=by
 intro i;induction i with
 |nil=>intro _;simp[jG,aU]
 |cons x xs e =>
  intro q1;cases q1 with
  |nil=>simp[jG,aU]
  |cons y c=>exact DV.tup [Í x,Í y]::jG (sF .int)^c.map .int=_;rw[e c];rfl
def QkU{row tb:V}(rt:row≠tb){r:ź}{M:V}(Y2:∀m∈r,∃p,TM>p/\hF ay0<=M)(hl:mz * M<OG)(R:mz<OG){w:Hs}(z:OM w row FX)(F:w[tb]?>Ο)(N:V):
  ∃(z3:Sl)(hp':Hs),jX (fZ row) (aF1 d c (aM4 3 d)^qB c) Ĺ 0 [rq N,! cm,rq tb,ń] w>(Tk^ō [rq N,! cm,rq tb,z3])/\aD8 hp' tb bA0/\∀i x,i≠tb->Ů w>x->Ů hp'>x:=by
 let E:∀i,i<=mz->⇑du4<=i * M:=by
  intro i;induction i with
  |zero=>intro _;simp
  |succ i ih =>
   intro hi;let v:i<mz:=À
   have:=ih À;let(p,C,p2):=Y2 r[i] (B7 v);rw[ac4 v,List.flatMap_append,Am];let e:du3 [r[i]]=ay0:=my Yq C
   rw[e,Nat.add_mul,Nat.one_mul];lia
 have:=Gj (b:=aF1 d c (aM4 3 d) (qB c)) (env:=[rq N,! cm,rq tb,ń]) (J:=w) (nxt:=fZ row) (Q:=λ q h=>FO=.nx/\∃z3:Sl,q.2=[rq N,! cm,rq tb,z3]/\aD8 h tb bA0/\∀i x,i≠tb->Ů w>x->Ů h>x)
  FX (λ i env h=>i<=mz/\∃z3:Sl,env=[rq N,! cm,rq tb,z3]/\aD8 h tb du4/\∀i x,i≠tb->Ů w>x->Ů h>x) (ĩ xi)
  (λ i env h hi #[_,z3,e1,u,y]=>VL (y row _ rt z) i) #[Fm,ń,Y,F,λ i x _ h=>h]
  (λ i d hd env h O=>by
   let(_,z3,e1,u,y):=O;subst e1;let v:i<mz:=cR7 bc5 xi
   let U:Ů r>r[i]:=Ab v;rw[Ij U]at hd;cases hd;let(p,C,p2):=Y2 r[i] (B7 v)
   have e:En:=[rq N,! cm,rq tb,ņ r[i]]
   let L:AK Û Ă e h>(ũ,h):=qg (i:=r[i]) (ds:=δ) Ã Ã^zC C;let zz:Hy (FG Û Ă 1) (FG Û Ă 2) e h>(ã ⇑h,h++[OT ay0]):=fT Hy (Qe^Su (ds:=Ł) (es:=Ī) (nG i 1 [AV,as9,as8,aE,ma] L Y Y)^nG i 2 [AV,as9,as8,aE,ma] L Y Y) Qlk
   let b:=E i À;let ml:i * M+M<=mz * M:=by have:=Nat.mul_le_mul_right M<|ī<|i+1<=mz;rw[Nat.add_mul,Nat.one_mul]at this;show this
   let ex:=VB (a:=tb) (b:=⇑h) (ds:=aU du4) (es:=aU ay0) (env:=e) (o:=ß) Ã u (QL zz) (QW u) (zt h _)^ah2 YU YU;let tl:tb<⇑h:=Zw u;apply WP.of (x:=ō e) (hp':=(h++[bf8 ay0]).set tb (hH<|aU du4++aU ay0)) ?_ #[À,_,Y,?_,mo j x I hx]
   .exact qB e h=_
    show Zz ex
   .rw[As^ĩ Am,BQ]
    congr 3;rw[ac4 v,List.flatMap_append];congr 1;simp[Yq,C]
   .rw[iO I]
    show QW (y j x I hx))^λ env h #[_,z3,e1,u,y]=>#[Y,z3,e1,by rw[xi,List.take_length]at u;show u,y]
 let((P,c),h',e,q1,z3,G,q3,q4):=this;let q1:P=.nx:=q1;let G:c=[rq N,! cm,rq tb,z3]:=G;subst q1 G;show#[z3,h',e,q3,q4]
def QkV(T:wB S)(C:NC S.O4){rt:TR.Pg}(E:an2>rt)(Q:bS4 * Ô<cO6)(hM:Ô * (S.O4+1)<OG){w:Hs}{n k:V}{rm a b:Int}(h1:ID w>(i6 rm k mH a b))(h2:OM w k δ):
  ∃(c:V)(r:ź)(hp':Hs),Row S c r/\ų bZ3/\(∀q,ú c>q->q.lv=0)/\JR [NO] w>(Tk aB7)/\aD8 hp' ĳ bA0/\bT i x OV (Ů w>x->Ů hp'>x):=by
 have j:=w++df9
 let L1:cI2=ĳ+1:=Ğ j
 let(F,rs,lf,ll,v,lv):=yt T E Q j;let rl:=v.len;let lg:=lf.get T rt E;let hl:F[rt.lv]?>(F[rt.lv]' À):=Ab _;let(r,z,row):=v.get hl;let(q,q1,q2,q3):=lg.2 rt.lv _ hl;let wK:=row.lt T;let rB:=row;let(pr,a9,_,_,Y2):=row
 have o:=bd2 j
 let tb:o[ĳ]?>Ο:=fh ((bd2 j)[ĳ]?=_) (HK À)^zt w _
 let I:OM o (cI2+2+rt.lv) FX:=Fo z;let r9:mz<OG:=A3 (Ô * 1<=Ô * (S.O4+1))^ż À
 let(z3,hp',L,O,P):=QkU (S:=S) (row:=cI2+2+rt.lv) (tb:=ĳ) À (r:=r) (M:=S.O4+1) (λ m R=>by let(p,G,p2):=(Y2 m).mp R;apply#[p,G,?_];let ok:=mn m p G;have:=ok.few;ext TR.prs;rw[List.length_zip];lia) (Bx (bb wK) hM) r9 (w:=o) I tb n
 apply#[_,r,hp',rB,q3,λ q' h'=>by rw[q1]at h';cases h';lia,aB9 [bV8,! cm,! Ĵ,z3],O,ľ i x hx]
 .apply aO4 [bV8,! cm,ń,ń] w^QZ (a:=n) Ã h1 Y Yv Y^vY h1 h2
  have e:En:=[bV8,! cm,! Ĵ,ń]
  apply aO3 e j Y^l7 ?_ Ã;let u:ID j>(i6 rm k mH a b):=QW h1;let cl:Qy 2 JQ (á Û^bQ8 aP5 Jl Å) e j>(ã cI2,o):=Pi (QZ (a:=n) Ã u (VT ..) Yv Y^Ru u) lv;let U:AK (bQ9 JQ Û aP5 Jl Å) ar6 e j>(ã<|cI2+2+rt.lv,o):=by
   apply Qj cl (y:=Í (-1)) Y ?_;exact(Zv cI2 >>= _) o=_;rw[ů^Fq j rs];exact(VM<|atI (yz (cI2+2) AG)<|-1) o=_;have:atI (yz (cI2+2) AG) (-1)>↑(cI2+2+rt.lv):=by ext atI;rw[yB,Qi6 À];exact(yz (cI2+2) AG)[AG-1]?=_;rw[yA À];congr 2;lia
   rw[this];rfl
  let x:cQ (ϖ (bQ9 JQ Û aP5 Jl Å) ar6) e j>(fZ<|cI2+2+rt.lv,o):=wy cQ (Qe U) ((Zv _ >>= _) o=_) I
  exact jO e j=_;ext jO Xo;rw[Qe x];show L
 .let il:i<ĳ:=Zw hx;apply P i x À ?_;exact Ů^bd2 j=_;rw[HK À];show QW hx
#where
def QjK{O4:V}{L:TP.Lv}(O:oP){k:V}(j:k<L.q):KJ L.rows L.m L.fork L.lv L.first k=aK^TP.ZX L k:=by
 let a:∀(c:TP.Rw)(f:Int × Int->Int),(c.map λ r=>eD^f r)=bP6^c.map f:=λ c f=>ö List.map_map
 ext KJ km Km;exact _=DV.tup [ĕ L.lv,õ (mw (ce8 ((TP.Za L.rows L.m L.fork k).drop^bn6 1 0))),õ (mw (bP8 (TP.Za L.rows L.m L.fork k))),opt<|dt5 (k+1)<|TP.YZ L.rows L.m L.fork<|k+1,oN<|dt5 (k+1)<|we<|k+1];rw[a,a];by_cases e:k+1=L.q
 .rw[C8^â (k+1=bz9 ϯ) e,C8^â (k+1=bz9 ϯ) e,PM,PM];rfl
 .let i:=O.mK (k:=k) À;let c:=(TP.qG (rows:=L.rows) (m:=L.m) (fork:=L.fork) O.m_pos O.m3 i (k:=k+1)^A3 (bz9 ϯ=L.q) Y).2;rw[C7^â (¬ k+1=bz9 ϯ) e,C7^â (¬ k+1=bz9 ϯ) e,EF,EF,Qbx c];rfl
def kC{O4:V}{L:TP.Lv}(O:oP):Xw L.rows L.m L.fork L.lv L.first=mr (TP.J8 L) aK:=by ext Xw TP.J8;rw[List.map_map];show bM3 (λ k a=>QjK O^bm4 a)
def QjJ{O4:V}:∀(k:V)(L:TP.Lv)(P:bG6),oP->ci7=we L.q->KH (O4+1) k L.rows L.m L.fork L.lv L.first^P.map aK=mr (TP.KI O4 k L P) aK:=by
 intro j;induction j with
 |zero=>intro L P O h;show Y
 |succ k e =>
  intro L P O h;ext KH TP.KI;let hq:bz9 ϯ=L.q:=Y;rw[hq];let q1:=O.q1;by_cases c:L.q<=1
  .rw[C8 c,C8 c]
  .rw[C7 c,C7 c]
   let a:=O.next À;let i:=e (TP.ZD O4 L) (P++TP.J8^TP.ZD O4 L) a (by rw[Am,h];simp[TP.J8];rfl);rw[<- i,List.map_append,<- kC a,Br,h];rfl
def cX(rows:TP.Rw)(O4:V):TP.Lv:=#[rows,O4,false,0,0]
def Xv(rows:TP.Rw)(O4:V):bG6:=TP.KI O4 (ao7).q ao7^TP.J8 ao7
def Mb{rows:TP.Rw}{O4:V}(c:2<=O4)(e:F3 a b<|a.1<b.1):(ao7).Ok O4 where
 bf:=c
 m1:=Y
 fk:=#[bF2,λ h=>bu1 h]
 rise:=e
 two:=bF2
def Qcd{rows:TP.Rw}{O4:V}(c:2<=O4)(e:F3 a b<|a.1<b.1):ax9=mr OS aK:=by let O:=Mb c e;ext Xv;rw[<- QjJ _ _ _ O^my TP.J8 cX,<- kC O];rfl
def Qg0{rows:TP.Rw}{O4:V}(c:2<=O4)(e:F3 a b<|a.1<b.1):∃bg L,TP.Pk O4 ao7 OS bg L/\L.q=1 :=
 TP.Pk.all _ (TP.Pk.O8 (Mb c e) Y Y) sk
def cD(s v:V)(t:Int):ER:=[cm9 s,aG1 K1<|v+1,(ap1, Í t),aG1 "held"<|v+2,aG1 bL5<|v+3]
def Qlj(s v:V)(t:Int):ϑ ı^cD s v t>(Ty s):=ř
def jE(s v:V)(t:Int):ϑ K1^cD s v t>(Ty<|v+1):=ř
def yF(s v:V)(t:Int):ϑ ap1^cD s v t>(eD t):=ř
def Va(s v:V)(t:Int):ϑ "held"^cD s v t>(Ty<|v+2):=ř
def DB(s v:V)(t:Int):ϑ bL5^cD s v t>(Ty<|v+3):=ř
def Qrj(s v:V)(t u:Int):Xx (đ ap1) ↥u^cD s v t=cD s v u:=ř
def QsH(s v:V)(t:Int):gg bL7^cD s v t:=ř
def QsI(s v:V)(t:Int):gg bL8^cD s v t:=ř
def QsJ(s v:V)(t:Int):gg ww^cD s v t:=ř
def WR(s v:V)(t:Int):gg ck8^cD s v t:=ř
def QsK(s v:V)(t:Int):gg bL9^cD s v t:=ř
variable{J:Hs}{s v t h:V}{hs ds:Þ}
def Qq4(h2:J[v]?>bq5)(h3:J[v+1]?>ū)(h4:OM J (v+2) hs)(hl:h<⇑hs){d:TR.aG}(hd:ds[t]?>ng):
  J7 [ã v,Í h] J>(õ [Õ bL6, Í h,Í t],((J++[fW s (wp+1) (wp+2) tf,Sc,Ο]).set (v+2)^Ù^dm0 h [Í t,bo0]).set v (bq4<|t+1)):=by
 have E:En:=[rq v,TL,Ý t]
 have c:Hs:=J++[fW s (wp+1) (wp+2) tf,Sc,Ο]
 let g:bH3 i o OV<|Ů J>o->Ů c>o:=λ{i o} e=>vg e
 have j:Hs:=c.set (v+2)^Ù^dm0 h [Í t,bo0]
 let a:j[v]?>bq5:=à (Zn _ _ _ _ À)^g h2;let mk:Yo é 3 Xa (á (cd0 ı)^ϖ cd1 ß) E J>(bo0,c):=Qle (d:=d)^ZP (θ h2^Qlj ..)^Qj ch2 Ã^j7 h3 hd;apply ā E^P8 aF E (θ h2 cO7) ?_;apply Ō aF E j (Rv (ax7^Iw mk) (aY2^g h2) (g h4) Ã hl) ?_;apply Ō aF E (j.set v<|bq4<|t+1) (ĵ (PL Ã a cO7 Y<|fP<|(5:V)<ej) Qrj) ?_;show cA1 Y Ã
#where
def Qdc{nxt:NX}{t:DV->OB}{f:bS}{g:DV->DV}(ds:Þ)(hx:∀i,i<=ê->nxt i J>(FL,J))(j:∀d∈ds,t d J>co7)(hf:∀d∈ds,f d J>(g d,J))(hl:ê<Ĺ):Je nxt t f Ĺ 0 J>(pc g,J):=by
 suffices h:∀(m i n:V),m+i=ê->m<n->Je nxt t f n i J>(mr bD2 g,J)by simpa using h ê 0 Ĺ Y hl
 intro m;induction m with
 |zero =>
  intro i n e c;obtain⟨n,Y⟩:∃k,n=k+1:=#[n-1,À];have:i=ê:=À
  subst this;let e1:=hx ê Ĕ;rw[bp8 ds[ê]?]at e1;rw[Je,L9,Cw];rfl
 |succ m o =>
  intro i n e c;obtain⟨n,Y⟩:∃k,n=k+1:=#[n-1,À];let a:i<ê:=À
  let e1:=hx i À;rw[bs8]at e1;rw[Je,L9];simp only;rw[Qe^j ds[i] bz5,Bh a];simp only[if_true];rw[Qe^hf ds[i] bz5,Qe^o (i+1) n À À];rfl
def Pr{f:aD}{J:Hs}{n:V}(h:i0>(NO,J))(hn:YP>ū):cQ f env J>(fZ n,J):=wy cQ Tu ((LG >>= _) J=_) hn
def VL{J:Hs}{n:V}{ds:Þ}(hn:YP>ū)(i:V):fZ n i J>(FL,J):=Ą fZ cd4
def QlC(p:wP DV):∀ds:Þ,lX^pc (λ d=>ŏ^p d)>(pc p):=by
 intro c;induction c with
 |nil=>show Y
 |cons d r a=>rw[Ba,lX,a];rfl
variable{J:Hs}{s v t h:V}{hs ds:Þ}{x:Int}
def Qpw(h2:J[v]?>bq5)(h3:J[v+1]?>ū)(h4:OM J (v+2) hs)(hl:⇑hs<ej):JC [ã v] J>(ŏ<|(Ñ t==Ñ ê)&&hs.all iT,J):=by
 have E:En:=[rq v]
 let a:Y6 E J>(Ù^hs.map λ d=>ŏ bl5,J):=by ext Y6 Zd;rw[Qe^Pr (aY2 h2) h4];let c:=Qdc (nxt:=fZ (v+2)) (t:=λ d=>Xr dv6) (f:=λ d=>Qg isD Å fY dv6) (g:=λ d=>ŏ bl5) (J:=J) hs (λ i _=>VL h4 i) (λ d _=>Y) (λ d _=>wn Y) À;rw[P9<|lim=Ĺ,aP2];rfl
 apply aN5 E ?_;rw[G4^Qj (θ h2 cO7) (Jq ch2 h3)^rM _ _ _];cases (Ñ t==Ñ ê)with
 |false=>rfl
 |true=>rw[pv];apply oC a ?_;exact(lV (Ù^hs.map λ d=>ŏ bl5) >>= _) J=_;rw[Qe (Y:lV (Ù^hs.map λ d=>aN1 bl5) J>(hs.map λ d=>ŏ bl5,J)),QlC];exact í (aN1^(hs.map iT).all id,J)=_;rw[List.all_map];rfl
def Qpu(h2:J[v]?>bq5)(h3:J[v+1]?>ū)(hl:ê<ej):JY [ã v,d] J>(dm7,fS (v+1) (bE5 [d])):=by let a:(fS (v+1)^bE5 [d])[v]?>bq5:=à (Zn _ _ _ _ À) h2;let c:OM (fS (v+1)^bE5 [d]) (v+1)<|ds++[d]:=J5 _ _ _^ö h3;apply ā [rq v,! d]^l7 (Zz^YE ch2 h3 Ã À)^io (Jq (aY1 a) c) ?_;exact í (eD<|dm8 (ds++[d])-1,_)=_;rw[Am];simp
def Qry(h2:J[v]?>bq5)(h4:OM J (v+2) hs):JM (eB^Jk d7 bV bG Û db5) [rq v,Ý x] J>(hV<|A6 0 x&&Af x ⇑hs,J) :=
 ZB^QK^xU Y Ã (Jq (aY2 h2) h4) Y Y
def Pb(h2:J[v]?>bq5)(h4:OM J (v+2) hs)(hl:h<⇑hs):JM (eB^Jk d7 bV bG Û db5) [rq v,TL] J>(Ν J):=by rw[Qry h2 h4,Ea (p:=da3<=h) À,Ea (p:=Ñ h<⇑hs) À];rfl
def Oa(h2:J[v]?>bq5)(h4:OM J (v+2) hs)(hd:hs[h]?>d):eB (cT4^ϖ am3 Û) [rq v,TL] J>(hV bl5,J) :=
 Ω (Qj (aY2 h2) Ã^j7 h4 hd) Y Y
def Wn(h2:J[v]?>bq5)(h4:OM J (v+2) hs)(hd:hs[h]?>d)(hn:ÿ bl5)(e:X1 [ã v,Í h] J>cz0):Jm [ã v,Í h] J>cz0 :=
 bo3 [rq v,TL] (QX^Pb h2 h4 bc5)^rL (as7 (Oa h2 h4 hd) hn)^aE1 h2 (QsH ..) ύ e
def QrW(h2:J[v]?>bq5)(h3:J[v+1]?>ū)(h4:OM J (v+2) hs)(hd:hs[h]?>d)(hn:Ĭ bl5)(a:t<ê)(e:J7 [ã v,Í h] J>cz0):Jm [ã v,Í h] J>cz0 :=
 EO [rq v,TL] (QX^Pb h2 h4 bc5) (QX^as7 (Oa h2 h4 hd) hn)^rL (Ω (θ h2 cO7) (Jq ch2 h3)<|show í (aN1^Af (Ñ t) ê,J)>(Ő,J)by rw[ar3])^aE1 h2 (QsI ..) ύ e
def QrV(h2:J[v]?>bq5)(h3:J[v+1]?>ū)(h4:OM J (v+2) hs)(hd:hs[h]?>d)(hn:Ĭ bl5)(a:¬ t<ê):Jm [ã v,Í h] J>(õ [Õ F7, Í h],J) :=
 EO [rq v,TL] (QX^Pb h2 h4 bc5) (QX^as7 (Oa h2 h4 hd) hn)^at6 (Ω (θ h2 cO7) (Jq ch2 h3)<|show í (aN1^Af (Ñ t) ê,J)>(ő,J)by rw[an8])^ax7^ZP Y Ã
#where
def hdD(v:TR.Wk)(n a:V):DV:=Ř v.O7 Ě^õ [bG7,Χ]
def M7(i n:V):DV->DV
 |.tup (x::xs)=>õ<|[x,ft,bG7]++xs
 |_=>Ě
def Wf(i:V):TR.Out->DV
 |.rest=>õ [Õ F7, ft]
 |.take n=>õ [Õ bL6, ft,bG7]
 |.did n r=>M7 i n dl6
abbrev Dn:=ç V<|V × TR.Wk
def nF(x:V × V × TR.Wk):DV:=õ [cb3 x,ã x.2.1]
def dH(Q:Dn):cU2:=Q.map λ x=>(x.1,x.2.2)
def m7(s v a:V):ä:=(a+2<s∨s+1<a)/\(a+2<v∨v+3<a)
structure WB(w:Hs)(s v:V)(ds:ϻ)(t:TR.St)(L:V->V)(Q:Dn):ä where
 h1:w[s]?>(i6 t.S.O4 (s+1) t.S.top t.S.rd t.S.wr)
 h2:OM w (s+1)^t.S.pg.map aK
 hv:w[v]?>dt3
 hd:OM w (v+1) aW0
 hh:∃hs,OM w (v+2) hs/\⇑hs=ag5/\cm1 i u (NB>u->Ů hs>(hdD u dc4 dh5))
 hn:OM w (v+3) bV2
 hq:⇑Q+dm1<=t.tk
 sv:s+1<v∨v+3<s
 ob:cm1 i u<|NB>u->FK->w[dh5]?>(fW s (dh5+1) (dh5+2) u)/\w[dh5+1]?>(cS2 u.O5)/\aD8 w (dh5+2) u.pairs/\m7 s v dh5
 dj:∀(i j:V)(u u':TR.Wk),i≠j->NB>u->FK->Iq t.ws>u'->ÿ u'.O7->dh5+2<L j∨L j+2<dh5
 od:∀x∈Q,(∃s',w[x.2.1]?>(fW s' (x.2.1+1) (x.2.1+2) x.2.2))/\aD8 w (x.2.1+2) x.2.2.pairs/\Ĭ x.2.2.O7/\m7 s v x.2.1/\cm1 i u (NB>u->FK->dh5+2<x.2.1∨x.2.1+2<dh5)
def Fp(s v:V)(t:TR.St)(L:V->V)(Q:Dn)(x:V):ä:=(s<=x/\x<=s+1)∨(v<=x/\x<=v+3)∨(∃i u,NB>u/\FK/\dh5<=x/\x<=dh5+2)∨∃q∈Q,q.2.1<=x/\x<=q.2.1+2
structure Fx(P:ι V)(w w':Hs)(P':ι V):ä where
 len:ĳ<=⇑w'
 old:∀x,x<ĳ->¬ P x->w'[x]?=w[x]?
 new:∀x,P' x->P x∨ĳ<=x
variable{P:ι V}{w:Hs}
def Fx.refl:Fx P w w P:=#[Ĕ,aR4,bq1]
#where
def Hv{v:TR.Wk}{n a:V}(h:Ĭ v.O7):hdD v n a=Ě:=hp hdD cC9
def Hw{v:TR.Wk}{n a:V}(h:af4):hdD v n a=õ [bG7,Χ]:=hp hdD^C7 db3
def QcJ{v v':TR.Wk}(a:af4)(h:TR.Xp S v>(Ě,S',v')):False:=by
 let(p,J,z):=TR.xu a h;cases z with
 |leaf _ _ _ _ e =>
  unfold TR.J0 at e;split at e
  .cases e
  .cases e
  .cases e
  .split at e
   .split at e<;>cases e
   .cases e
def Qkl{v v':TR.Wk}{r:TR.Row}(h:TR.Xp S v>(r,S',v'))(c:af4):∃x xs,dl6=õ (x::xs)/\ŧ<=10:=by
 cases r with
 |non=>show(QcJ c h).elim
 |side n t=>show#[_,_,Y,å]
 |down n t=>show#[_,_,Y,å]
 |found n t=>show#[_,_,Y,å]
 |put n t k=>show#[_,_,Y,å]
 |cut n t=>show#[_,_,Y,å]
 |read n ps t=>cases t with
  |none=>show#[_,_,Y,å]
  |some t=>let(t,a):=t;show#[_,_,Y,å]
 |told n k=>show#[_,_,Y,å]
 |raised n t=>show#[_,_,Y,å]
def Il{v v':TR.Wk}{ws:Â TR.Wk}{i:V}(h:aI2>v):TR.lc^zg v'+É af4 1 0=TR.lc ws+É (ÿ v'.O7) 1 0:=by have:=TR.yG TR.lf ws i v v' h;unfold TR.lf at this;ext TR.lc TR.lf;simpa using this
variable{w:Hs}{s v f:V}{pJ ds:ϻ}{t1 t t':TR.St}{L:V->V}{Q:Dn}{bg:TR.Bg}{b:V->V}{o:TR.Out}{i:V}
def WB.lw(A:WB w s v ds t L Q):s+1<ĳ/\v+3<ĳ:=#[Zw A.h2,Zw A.hn]
def WB.go(A:WB w s v ds t L Q){w':Hs}{u2:TR.Wk}{S2:TR.Sh}{ns':ź}{tk' l:V}{O hs':Þ}{Q':Dn}(hw:i<ag5)(k6:OM w (v+2) O)(len:ĳ<=⇑w')(old:∀x,x<ĳ->¬ (s<=x/\x<=s+1)->¬ (v<=x/\x<=v+3)->¬ (l<=x/\x<=l+2)->w'[x]?=w[x]?)(g1:w'[s]?>(i6 S2.O4 (s+1) S2.top S2.rd S2.wr))(g2:OM w' (s+1)^S2.pg.map aK)(gv:w'[v]?>(bq4 tk'))(gd:OM w' (v+1) aW0)(g6:OM w' (v+2) hs')(h6:hs'.length=⇑O)(Mg:Ů hs'>(hdD u2 (ns'.getD i 0) l))(D_:∀j,j≠i->Iq hs'=Iq O/\ns'.getD j 0=sX j)(g7:OM w' (v+3)^Q'.map nF)(hq:⇑Q'+TR.lc^F8 u2<=tk')(E:w'[l]?>(fW s (l+1) (l+2) u2)/\w'[l+1]?>(cS2 u2.O5)/\aD8 w' (l+2) u2.pairs)(ap:m7 s v l)(fr:cm1 j u<|j≠i->Iq t.ws>u->FK->l+2<L j∨L j+2<l)(fq:∀x∈Q,l+2<x.2.1∨x.2.1+2<l)(hQ:Q'=Q∨(Ĭ u2.O7/\∃n,Q'=Q++[(n,l,u2)]))(fl:∀x,l<=x->x<=l+2->Fp s v t L Q x∨ĳ<=x):WB w' s v ds #[S2,F8 u2,ns',tk'] (cI1 j j i l^L j) Q'/\Fx (Fp s v t L Q) w w'^Fp s v #[S2,F8 u2,ns',tk'] (cI1 j j i l^L j) Q':=by
 let(U,k0,aa,a9):=A.hh;let e0:U=O:=by rw[k6]at k0;cases k0;rfl
 subst e0;let kp:∀(y d:V)(z:OV),m7 s v y->l+2<y∨y+2<l->d<=2->w[y+d]?>z->w'[y+d]?>z:=λ y d z a1 a2 a3 h=>by have:=Zw h;unfold m7 at a1;show à (old _ this À À À) h
 apply#[#[g1,g2,gv,gd,#[hs',g6,bw2 h6 aa,ľ j u a],g7,hq,A.sv,mo j u a c,λ j j' u u' I a c F Y2=>?_,aQ5],#[len,ľ x hx R,aQ5]]
 .obtain⟨Y,r,_⟩|⟨ne,a⟩:=ct8
  .dsimp only;rw[r,pv];show Mg
  .dsimp only;rw[aZ3,(D_ j ne).1,(D_ j ne).2];show a9 j u a
 .obtain⟨Y,r,_⟩|⟨ne,a⟩:=ct8
  .rw[r,pv];show#[E.1,E.2.1,E.2.2,ap]
  .rw[aZ3];let z:=A.ob j u a c;let d:=fr j u ne a c;show#[kp _ 0 _ z.2.2.2 d Á z.1,kp _ 1 _ z.2.2.2 d Á z.2.1,kp _ 2 _ z.2.2.2 d Á z.2.2.1,z.2.2.2]
 .obtain⟨Y,r,_⟩|⟨ne,G⟩:=ct8
  .obtain⟨Y,e3,_⟩|⟨e,C⟩:=TR.Q4 F
   .show cu8 I
   .rw[pv,EF];show fr j' u' e C Y2
  .obtain⟨Y,e3,_⟩|⟨e,C⟩:=TR.Q4 F
   .rw[aZ3,pv];show(fr j u ne G c).symm
   .rw[aZ3,EF];show A.dj j j' u u' I G c C Y2
 .let ol:x∈Q->(∃s',w'[x.2.1]?>(fW s' (x.2.1+1) (x.2.1+2) x.2.2))/\aD8 w' (x.2.1+2) x.2.2.pairs/\Ĭ x.2.2.O7/\m7 s v x.2.1/\cm1 j u (Iq^F8 u2>u->FK->pH j i l^L j+2<x.2.1∨x.2.1+2<pH j i l^L j):=λ hx=>by
   let z:=dm2 x;let d:=fq x hx;apply#[z.1.imp λ s' p=>kp _ 0 _ z.2.2.2.1 d Á p,kp _ 2 _ z.2.2.2.1 d Á z.2.1,z.2.2.1,z.2.2.2.1,mo j u a c];obtain⟨Y,r,_⟩|⟨ne,a⟩:=ct8
   .rw[pv];show d
   .rw[aZ3];show z.2.2.2.2 j u a c
  obtain Y|⟨P,n,Y⟩:=hQ
  .show ol hx
  .obtain hx|hx:=cx8
   .show ol hx
   .rw[Aq]at hx;subst hx;apply#[#[s,E.1],E.2.2,P,ap,mo j u a c];obtain⟨Y,r,_⟩|⟨ne,a⟩:=ct8
    .rw[r,P]at c;cases c
    .dsimp only;rw[aZ3];show(fr j u ne a c).symm
 .apply old x hx (λ z=>R^ë z) (λ z=>R^aU9 z) dc7;obtain z|z:=fl x z.1 z.2
  .show R z
  .lia
 .let nl:l<=x/\x<=l+2->Fp s v t L Q x∨ĳ<=x:=λ z=>fl x z.1 z.2;obtain h|h|⟨j,u,a,c,h⟩|⟨q,hq,h⟩:=hx
  .show ë FE
  .show ë (ċ FE)
  .obtain⟨Y,r,_⟩|⟨ne,a⟩:=ct8
   .dsimp only at h;rw[pv]at h;show nl h
   .dsimp only at h;rw[aZ3]at h;show cQ1 (ë #[j,u,a,c,h])
  .obtain Y|⟨P,n,Y⟩:=hQ
   .show cQ1 (ċ #[q,hq,h])
   .obtain hq|hq:=CB hq
    .show cQ1 (ċ #[q,hq,h])
    .rw[Aq]at hq;subst hq;show nl h
def QpT(A:WB w s v ds t L Q)(R:TR.Rel f pJ t1 ds t)(Y0:TR.aX pJ t1 bg b)(hi:i<ag5)(BK:pJ.length<=60)(hb:b i<=6000)(Y2:bt4 t i>(o,t')):∃w' L' Q',Jm [ã v,ft] w>(Wf i o,w')/\WB w' s v ds t' L' Q'/\Fx (Fp s v t L Q) w w'^Fp s v t' L' Q'/\dH Q'=OH++TR.mW t t' i:=by
 let(hs,k6,b6,ay):=A.hh;let k7:=A.hn;let b7:=A.hq;let bc:=Y0.tk;let ba:=R.tk;let b9:=R.len;let b8:=R.nm;let be:=R.ln;let lw:=A.lw;let sv:=A.sv;let P:=bY6;generalize t.ws[i]=u at P;let F:=ay i u P;unfold TR.mv at Y2;rw[P]at Y2;dsimp only at Y2;cases C:u.O7 with
 |true =>
  rw[C,pv]at Y2;rw[Hv C]at F;cases hd:ds[t.tk]? with
  |none =>
   rw[hd]at Y2;cases Y2;let le:ê<=t.tk:=Ë hd
   show#[w,L,Q,QrV A.hv A.hd k6 F Y cd3,A,Fx.refl,Ϗ (TR.jo P C) Bs]
  |some d =>
   rw[hd]at Y2;cases Y2;let lt:t.tk<ê:=bc5;let e:=Qq4 (h:=i) A.hv A.hd k6 À (d:=d)^Ũ Bt hd;let U:=Il (v':=tf) P;rw[C7^ψ C,C8^P9^ÿ (tf).O7]at U
   have G:Hs:=w++[fW s (ĳ+1) (ĳ+2) tf,Sc,Ο]
   have w2:Hs:=(G.set (v+2)^Ù^dm0 i [Í t.tk,aB7]).set v<|bq4<|t.tk+1
   let lG:∀x,x≠v->x≠v+2->w2[x]?=G[x]?:=λ x n1 n2=>à (dl3 _ _ _ _ n1)^dl3 _ _ _ _ n2;let gap:∀j x,Iq [fW s (ĳ+1) (ĳ+2) tf,Sc,Ο]>x->w2[ĳ+j]?>x:=λ j x h=>à (lG _ À À)^à aL1^Æ Nat.add_sub_cancel_left h;let hh:(bS1).getD i 0=t.tk:=Ϗ (TR.vh À) pv
   let(b1,b2):=A.go (w':=w2) (u2:=tf) (S2:=t.S) (ns':=bS1) (tk':=t.tk+1) (l:=ĳ) (hs':=dm0 i [Í t.tk,aB7]) (Q':=Q) hi k6 (my w2 G) (λ x hx _ n2 _=>à (lG x À À)^Ag hx) (à (lG _ À À)^vg A.h1) (à (lG _ À À)^vg A.h2) (fM^gs À^vg A.hv) (à (lG _ À À)^vg A.hd) (gs À^fM^vg k6) Ê (i3 (Hw Y) hh^As À) (λ j ne=>#[iO ne,Ϗ (TR.vh À) aZ3]) (à (lG _ À À)^vg k7) À #[gap 0 _ Y,gap 1 _ Y,gap 2 _ Y] (aX8 m7) (λ j u _ hj hu=>ċ^Zw (A.ob j u hj hu).2.2.1) (λ x hx=>ċ^Zw (dm2 x).2.1) ϊ λ x h _=>ċ h;show#[w2,_,Q,QrW A.hv A.hd k6 F Y (Æ Br lt) e,b1,b2,Ϗ (TR.jo P C) Bs]
 |false =>
  rw[C,av7]at Y2;let Ml:Ů t1.ws>u:=by let g:=Ab (l:=t1.ws) (i:=i) À;let(a,b):=R.ws i _ u g P;rw[g,(b^a.trans C).1]
  let W:=Y0.A.ok i u Ml C;let T:=Y0.T;let rm:=Y0.rm;let pg:=Y0.pages;let fl:=(Y0.fk i u Ml C).len Y0.T;let pl:=Y0.pr i u Ml C;rw[R.S]at W T rm pg fl;cases es:TR.Xp t.S u with
  |none=>rw[es]at Y2;cases Y2
  |some q =>
   let(r,S2,c):=q;rw[es]at Y2;cases Y2;rw[Hw C]at F;let(o1,o2,o3,o4):=A.ob i u P C;let o5:=o4;unfold m7 at o5;let D:iJ s (s+1) dh5 (dh5+1)<|dh5+2:=#[À,À,À,À,À,À,À,À,À,À];let(G,e1,A1,F1):=QnK T W (av9 rm) #[A.h1,A.h2,o1,o2,o3] D À À À es;let(x,xs,ex,xl):=Qkl es C;let k:bH3 j z OV<|j≠s->j≠s+1->(j<dh5∨dh5+2<j)->Iq w>z->Iq G>z:=λ{j z} n2 n3 nL hj=>à (F1.2 j (Zw hj) n2 n3 À À À) hj;let aa:=k À À À A.hv;let Lw:=k À À À k6;let SJ:=k À À À k7
   have n:=dc4
   have Hd:DV:=õ [bG7,ã dh5]
   have E:Sl->Sl->Sl->En:=λ x y z=>[rq v,tq,x,y,z]
   have E5:En:=E cP7 (CO dh5)^Ü dl6
   let u1:QR 2 (ϖ am3 Û) (E ń ń ń) w>(ō^E cP7 ń ń,w):=Qv^Qj (aY2 A.hv) Ã^j7 k6 F;let u2:QR 3 aK0 (E cP7 ń ń) w>(ō^E cP7 (CO dh5) ń,w):=Qv^bS5 Hd Y 1 w;let u3:QR 4 (bQ7 é cM4 zj Ă) (E cP7 (CO dh5) ń) w>(ō E5,G):=Qv^aE1 o1 (Qn1 ..) Yv e1;let DG:eB (bQ7 é "over" YW Ă) E5 G>(c.O7,G):=QK^aE1 A1.h3 (Qn2 ..) Yv^QmQ A1.h3;let ar:∀w':Hs,QG (nB (PV (ù ě 0) Û aq2)^cB8 ě) E5 w'>((.rt^M7 i n dl6,E5),w'):=λ w'=>by
    let e0:Qb 4 E5 w'>(õ<|x::xs,w'):=ì ex Ã
    apply Qt^Qj (ax7^bZ6 (io e0^R5 0 w')^bS5 Hd Y 0 w') (uA (a:=1) e0 Y) ?_;rw[ex];exact(ah6 ([x,ft,bG7]++xs) >>= λ_=>ï<|DV.tup<|[x,ft,bG7]++xs) w'=_;rw[Xf Β];rfl
   let U:=Il (v':=c) P;rw[C8 C]at U;let ae:i<⇑hs:=À
   let dn:=TR.x9 (t:=t) (t':=ĝ t S S2 ws (F8 c)) P C dg2;let a9:∀(w':Hs)(hs':Þ)(Q':Dn),(Q'=Ř c.O7 (Q++[(n,dh5,c)]) Q)->⇑G<=⇑w'->(∀j,j≠v+2->j≠v+3->Iq w'=Iq G)->OM w' (v+2) hs'->hs'.length=⇑hs->(∀j,j≠i->Iq hs'=Iq hs)->Ů hs'>(hdD c n dh5)->OM w' (v+3)^Q'.map nF->∃L',WB w' s v ds (ĝ t S S2 ws^F8 c) L' Q'/\Fx (Fp s v t L Q) w w'^Fp s v (ĝ t S S2 ws^F8 c) L' Q'/\dH Q'=OH++TR.mW t (ĝ t S S2 ws^F8 c) i:=by
    intro w' hs' Q' I ll fr g6 aw D_ Mg g7;let(b1,b2):=A.go (w':=w') (u2:=c) (S2:=S2) (ns':=t.ns) (tk':=t.tk) (l:=dh5) (hs':=hs') (Q':=Q') hi k6 (Bi F1.1 ll) (λ x hx n1 n2 n3=>à (fr x À À)^F1.2 x hx À À À À À) (à (fr _ À À) A1.h1) (à (fr _ À À) A1.h2) (à (fr _ À À) aa) (à (fr _ À À)^k À À À A.hd) g6 aw Mg (λ j ne=>mi^D_ j ne) g7 (by
     cases h2:c.O7 with
     |true=>rw[h2,pv]at I;rw[C7^ψ h2]at U;rw[I];simp;lia
     |false=>rw[h2,av7]at I;rw[C8 h2]at U;rw[I];lia) #[à (fr _ À À) A1.h3,à (fr _ À À) A1.h4,à (fr _ À À) A1.h5] o4 (λ j u' ne hj hu=>A.dj i j u u' (Ņ ne) P C hj hu) (λ x hx=>(dm2 x).2.2.2.2 i u P C) (by
     cases h2:c.O7 with
     |true=>rw[h2,pv]at I;show ċ #[Y,n,I]
     |false=>rw[h2,av7]at I;show ë I) λ x h h'=>cQ1^ë #[i,u,P,C,h,h']
    apply#[_,b1,b2,?_];rw[dn,I];cases c.O7 with
    |false=>rw[av7,av7,Bs]
    |true=>rw[pv,pv];ext dH;rw[List.map_append];rfl
   cases O:c.O7 with
   |false =>
    rw[O]at DG;let I:Q=Ř c.O7 (Q++[(n,dh5,c)]) Q:=ö O
    let(L',b1,b2,b3):=a9 G hs Q I Ĕ aR4 Lw Y an5 (Æ (Hw O) F) SJ;show#[G,L',Q,Wn A.hv k6 F Y (EO E5 u1 u2^Ļ u3 (QX DG)^ar G),b1,b2,b3]
   |true =>
    rw[O]at DG;let I:Q++[(n,dh5,c)]=Ř c.O7 (Q++[(n,dh5,c)]) Q:=ö O
    have w2:Hs:=G.set (v+2)^Ù^hs.set i Ě
    let LR:w2[v]?>dt3:=gs À aa;let Sy:OM w2 (v+3) bV2:=gs À SJ
    have w3:Hs:=w2.set (v+3)^aU5 bV2 [Hd]
    let u4:ci0 (bQ7 é "over" YW Ă) (Qq (N3 fY am3 Û)^bg1 (cd0 bL5) ß) E5 G>(ō E5,w3):=ZN DG^Ō aF E5 w2 (Rv Y (aY2 aa) Lw Ã ae)^Zz^YE (θ LR^DB ..) Sy Ã cd3;let(L',b1,b2,b3):=a9 w3 (hs.set i Ě) (Q++[(n,dh5,c)]) I (bG2<|⇑G<=⇑((G.set (v+2) _).set (v+3) _)) (λ j n6 n7=>à (dl3 _ _ _ _ n7)^dl3 _ _ _ _ n6) (gs À^fM Lw) Ê (λ j hj=>iO hj) (Æ (Hv O)^As ae) (Æ List.map_append^fM Sy);show#[w3,L',Q++[(n,dh5,c)],Wn A.hv k6 F Y (EO E5 u1 u2^Ļ u3 u4^ar w3),b1,b2,b3]
#where
def Qlw{c:Þ}{ws:Â TR.Wk}(hl:bT6=⇑ws)(h:cm1 i v<|aI2>v->∃d,Ů c>d/\bl5=v.O7):c.all iT=ws.all (·.O7):=by
 rw[Bool.eq_iff_iff,List.all_eq_true,List.all_eq_true];constructor
 .intro a v hv;let(i,hi):=ak0 hv;let(d,h1,h2):=h i v hi;rw[<- h2];show a d (Aw h1)
 .intro a d hd;let(i,hi):=ak0 hd;let e:=Zw hi;let hv:aI2>ws[i]:=Ab À;let(d',h1,h2):=h i _ hv;rw[hi]at h1;cases h1;rw[h2];show a _ (Aw hv)
variable{w w':Hs}{s v:V}{ds:ϻ}{t:TR.St}{L:V->V}{Q:Dn}
def WB.lt(A:WB w s v ds t L Q){x:V}(h:Fp s v t L Q x):x<ĳ:=by
 let lw:=A.lw;obtain h|h|⟨i,u,hi,a,h⟩|⟨q,hq,h⟩:=h
 .lia
 .lia
 .have:=Zw (A.ob i u hi a).2.2.1;lia
 .have:=Zw (A.od q hq).2.1;lia
def WB.keep(A:WB w s v ds t L Q)(h:∀x,Fp s v t L Q x->w'[x]?=w[x]?):WB w' s v ds t L Q:=by
 let G:bH3 j z OV<|j<=1->w[s+j]?>z->w'[s+j]?>z:=λ{j z} l e=>à (h _^ë À) e;let o:bH3 j z OV<|j<=3->w[v+j]?>z->w'[v+j]?>z:=λ{j z} l e=>à (h _^aU9 À) e;let r:∀{i j:V}{u:TR.Wk}{z:OV},NB>u->FK->j<=2->w[dh5+j]?>z->w'[dh5+j]?>z:=λ{i j u z} hi c l e=>à (h _^wZ^ë #[i,u,hi,c,À]) e;let F:∀{q:V × V × TR.Wk}{j:V}{z:OV},q∈Q->j<=2->w[q.2.1+j]?>z->w'[q.2.1+j]?>z:=λ{q j z} hq l e=>à (h _^wZ^ċ #[q,hq,À]) e;let(a,I,c1):=A.hh;show#[G (j:=0) À A.h1,G À A.h2,o (j:=0) À A.hv,o À A.hd,#[a,o À I,c1],o À A.hn,A.hq,A.sv,λ i u hi c=>by
  let(y,C,E,Y2):=A.ob i u hi c;show#[r (j:=0) hi c À y,r hi c À C,r hi c À E,Y2],A.dj,λ x hx=>by
  let((s',y),C,E):=dm2 x;show#[#[s',F (j:=0) hx À y],F hx À C,E]]
def Ws(A:WB w s v ds t L Q)(hl:ag5<ej):JC [ã v] w>(ŏ bi5,w):=by
 let(o,k6,c,a):=A.hh;rw[Qpw A.hv A.hd k6 À,Qlw c λ i v hi=>#[_,a i v hi,by
  cases j:v.O7 with
  |true=>rw[Hv j];rfl
  |false=>rw[Hw j];rfl]]
 congr 2;ext TR.still;rw[Br];congr 1;have:(Ñ t.tk==Ñ ê)=FC t.tk ê:=by
  by_cases e:t.tk=ê
  .rw[e];simp
  .rw[Ec e,beq_eq_false_iff_ne];lia
 rw[this]
def Qpt(A:WB w s v ds t L Q)(d:TR.aG)(hl:ê<ej):∃w',JY [ã v,ng] w>(dm7,w')/\WB w' s v (ds++[d]) t L Q/\w'=cO5 (v+1)^pk (ds++[d]) QY:=by
 let sv:=A.sv;let e:=Qpu (d:=ng) A.hv A.hd^Æ Br hl;rw[Br]at e;let F:aW0++[ng]=mr (ds++[d]) QY:=ö List.map_append
 rw[F]at e;let g:bH3 j z OV<|j≠v+1->Iq w>z->Iq^cO5 (v+1)^pk (ds++[d]) QY>z:=λ{j z} n h=>gs (Ņ n) h;let(a,E,c1):=A.hh;show#[_,e,#[g À A.h1,g À A.h2,g À A.hv,fM A.hd,#[a,g À E,c1],g À A.hn,A.hq,sv,λ i u hi G=>by
  let(o,r,y,c):=A.ob i u hi G;let C:=c;unfold m7 at C;show#[g À o,g À r,g À y,c],A.dj,λ x hx=>by
  let((s',o),r,y,c,C):=dm2 x;let I:=c;unfold m7 at I;show#[#[s',g À o],g À r,y,c,C]],Y]
#where
def cC(S:TR.Sh)(bg:TR.Bg)(rows:TP.Rw):ä:=∃c r p,bt7 c r/\ú c>p/\aQ4/\ų bZ3/\r.Nodup/\(∀m,m∈r↔∃q,TM>q/\q.lv=0)/\rows=TR.xF S r
structure Sm(S:TR.Sh)(bg:TR.Bg):ä where
 T:wB S
 rm:S.O4<=8
 ln:Ô<=130
variable{S:TR.Sh}{bg:TR.Bg}{rows:TP.Rw}{w:Hs}{s:V}
def cC.sorted(T:wB S)(a:cB6 S):F3 a b<|a.1<b.1:=by let(c,r,p,h1,h2,h3,h4,_,_,h7):=a;rw[h7];show TR.Qaj T h1 h2 h3
def cC.len(T:wB S)(a:cB6 S):ag7 (ai3 S * S.O4)/\1<=ai3 S:=by let(c,r,p,h1,h2,h3,h4,h5,e,h7):=a;let l:=TR.GB T h5 e;rw[h7];apply#[?_,TR.QlI h2 h3];exact _<=ai3 S * _;ext TR.Jv;rw[<- l];show TR.QgL T r
def cC.qn(T:wB S)(a:cB6 S):Ā S.O4<=ai3 S:=by
 let(l,o):=a.len T;let c:=T.bf;ext TP.qn;have:(aG3 rows.length+S.O4-1) / S.O4<ai3 S+1:=by rw[bV1,Nat.succ_mul];have:1 * S.O4<=ai3 S * S.O4:=bb o;lia
 lia
def Sm.rt(M:Sm S bg):∃rt,an2>rt/\bS4 * Ô<cO6:=by let(rt,h1,_):=M.T.root;let l:=TR.WF M.T;rw[TR.Jn h1]at l;have:=M.ln;apply#[rt,h1,Bx (Mj (ī<|bS4<=131) M.ln) Á]
def Sm.hM(M:Sm S bg):Ô * (S.O4+1)<OG:=Bx (Mj M.ln^sg M.rm) Á
def Qqu:bt8=TR.Ge S:=by funext m;ext Yq TR.Ge;cases TM<;>rfl
def DL(M:Sm S bg)(h1:w[s]?>(i6 S.O4 (s+1) S.top S.rd S.wr))(h2:OM w (s+1) δ):∃rows w',cB6 S/\JR [ã s] w>(aB7,w')/\aD8 w' ĳ rows/\∀x,x<ĳ->w'[x]?=w[x]?:=by
 let(rt,g1,g2):=M.rt;let(c,r,w',row,b,lv,e,j,kp):=QkV M.T ds2 g1 g2 M.hM h1 h2;let(p,i,o,u,v):=row;let a:=lv p i;apply#[_,w',#[c,r,p,o,i,a,b,u,λ m=>Ϗ v a,Y],e,?_,aQ5]
 .rw[j,Qqu];rfl
 .have:=Ab hx;rw[this];show kp x _ this
def QnJ(M:Sm S bg)(h1:w[s]?>(i6 S.O4 (s+1) S.top S.rd S.wr))(h2:OM w (s+1) δ):∃g,X2 [ã s] w>(Ő,w++g):=br9 rt g1 g2 M.rt^QkL M.T ds2 g1 g2 h1 h2
#where
def cR(rows:TP.Rw)(O4:V):TR.Sh:=#[O4,OS,⇑OS-1,0,⇑OS]
def Qqe{rows:TP.Rw}{O4:V}(c:2<=O4)(o:O4<=8)(i:F3 a b<|a.1<b.1)(hl:ag7 300){w:Hs}{T:DV}(e:cY w T rows):∃n w',jl [T,ĕ O4] w>(NO,w')/\ĳ<=n/\n+1<⇑w'/\(∀x,x<ĳ->w'[x]?=w[x]?)/\ID w'>(i6 (Ff).O4 (n+1) (Ff).top (Ff).rd (Ff).wr)/\OM w' (n+1)^(Ff).pg.map aK:=by
 let(t,e1,j,q1):=kA e c À hl;let pp:=Qcd (rows:=rows) (O4:=O4) c i;let pl:⇑ax9=⇑OS:=Ϗ pp Br
 rw[pl]at e1 j q1;rw[pp]at e1;apply#[_,_,e1,Ê,by simp[dM];lia,aQ5,bM4,Hh ..];rw[D6^ĩ Am,Ag hx]
def txt(i:Int):Str:=dp4 i
def pt(a b:Int):Str:=txt a++đ ":"++txt b
def Hq(x y:Str):Bool:=Ö<|Ĉ<|rk+⇑y
variable{J:Hs}
def xw{i:Int}(h:i.natAbs<Λ 200):Xq [ft] J>(Õ aC,J):=ĸ ((ag (i.natAbs<Λ 200) >>= _) J=_)^Ea h
def kZ{x y:Str}(h:Ĭ^Hq x y):jm Ϭ bd9 J>(Õ<|x++y,J):=ĸ ((QE (Hq x y) >>= _) J=_) h
#where
def cl(x:Str):ź:=x.cps.toList
def Ih{x y:Str}(h:AL=cl y):x=y:=by let⟨a⟩:=x;let⟨b⟩:=y;congr 1;show Array.toList_inj.mp h
def Vz(x y:Str):cl (x++y)=AL++cl y:=ĸ ((x.cps++y.cps).toList=_) Array.toList_append
def Xt(x:Str):rk=⇑AL:=AE (x.cps.size=⇑x.cps.toList) Cg
def lj(c:V):č->ź
 | []=>[]
 | [x]=>AL
 |x::y::r=>AL++c::lj c (y::r)
def qu(c:V):∀ws:č,cl^Str.join AN ws=lj c ws
 | []=>Y
 | [x]=>Y
 |x::y::r=>by exact cl (x++AN++Str.join AN (y::r))=_;rw[Vz,Vz,qu c<|y::r,A7];rfl
def QlM{c:V}:∀(a b s t:ź),c∉a->c∉b->a++c::s=b++c::t->a=b/\s=t:=by
 intro o;induction o with
 |nil =>
  intro q1 s t _ e h;cases q1 with
  |nil=>show#[Y,by cases h;rfl]
  |cons y b=>cases h;simp at e
 |cons x a j =>
  intro q1 s t ha e h;cases q1 with
  |nil=>cases h;simp at ha
  |cons y b=>let(h1,h2):=List.cons.inj h;let(e1,i):=j b s t (λ z=>ha^bU0 z) (λ z=>e^bU0 z) h2;show#[Ϗ h1 e1,i]
def Mm{c:V}:∀(ws vs:č),ws≠[]->vs≠[]->IQ p ws (c∉cl p)->IQ p vs (c∉cl p)->lj c ws=lj c vs->ws=vs
 | [],_,h,_,_,_,_=>cu8 h
 |_,[],_,h,_,_,_=>cu8 h
 | [x],[y],_,_,_,_,h=>Ϻ^Ih h
 | [x],y::z::r,_,_,hx,_,h=>by
  have:c∈AL:=fh (c∈lj c [x]) h^Ai _ ž
  show Ė this (hx x ž)
 |x::z::r,[y],_,_,_,a,h=>by
  have:c∈cl y:=by exact c∈lj c [y];rw[<- h];show Ai _ ž
  show Ė this (a y ž)
 |x::i::r,y::j::q,_,_,hx,a,h=>by let(e1,e):=QlM AL (cl y) _ _ (hx x ž) (a y ž) h;rw[Ih e1,Mm (i::r) (j::q) Ê Ê (λ p J=>hx p^ſ J) (λ p J=>a p^ſ J) e]
def blank:Str:=l6 32
def QcH{x:Str}{ws:č}(hn:ws≠[])(hf:∀p∈ws,32∉cl p)(hx:AL=lj 32 ws)(h0:AL≠[]):cz8 x=ws:=by
 let j:=StrLaws.join_split x blank;let a:lj 32^cz8 x=AL:=ì qu^x3 cl j
 apply Mm _ _ (λ z=>h0 ?_) hn (λ p J=>StrLaws.split_free x 32 p J) hf^Ϗ a hx;rw[<- a,z];rfl
def cT(x:Str):Str:=Ř (Ms x "-") (Txt.slice x (í 1) none) x
def dg(x:Str):Bool:=(AL).all λ c=>cU1
def c1(x:Str)(m:V):Bool:=Af 0 bj2&&A6 bj2 m&&dg tj
def c2(x:Str):Bool:=Ms tj "0" && hV (x == "0")
def QoZ{α:pZ}(p:wP α):∀l:Fa,lX (l.map λ a=>ŏ^p a)>(l.map p):=by
 intro e;induction e with
 |nil=>show Y
 |cons a r c=>rw[Ba,lX,c];rfl
def yH{f:bS}{α:pZ}(h:α->DV)(g:α->DV):∀(l:Fa),IQ a l (f (h a) J>(g a,J))->Kx (λ_=>be0) f (l.map h) J>(l.map g,J):=by
 intro j;induction j with
 |nil=>intro _;show Y
 |cons a r i=>intro k;let e:=i λ b c=>k b^ſ c;exact((be0:OB) >>= _) J=_;rw[Qe (Y:(be0:OB) J>co7)];exact(f (h a) >>= _) J=_;rw[Qe^k a ž,Qe e];rfl
variable{J:Hs}{x:Str}{m:V}{n:Int}
def QrE(hl:rk<=600){env:En}(h:co2 2>cP8):wV GQ (bp0 (rJ ß) [] Xr^Ķ rH Å EK) env J>(ŏ^dg x,J):=by
 let c:Zd false (cM^rJ ß) [] Xr (Ķ rH Å EK) env J>(pk AL^λ c=>ŏ cU1,J):=by
  let s:rJ ß env J>(D.uj x,J):=fN rJ bc8
  apply Ud s (by ext D.uj;rw[Br];rw[Xt]at hl;show Bx hl Á) ?_;show yH (J:=J) (f:=λ d=>Qg rH Å (Ċ EK)^aX4 [] d) (λ c=>ap3 AN) (λ c=>aN1 cU1) AL λ c _=>nh cu1 Ã Y Y
 apply oC c ?_;exact(lV (Ù _) >>= _) J=_;rw[Qe (Y:lV (pk AL^λ c=>aN1 cU1) J>(_,J)),QoZ];exact í (aN1^(mr AL _).all id,J)=_;rw[List.all_map];rfl
def Qpl(hl:rk<=600){env:En}(h:co2 0>cP8):cU (eB^bC5 zA Å ad6) (FQ Å (Zi bn) ZE) Å env J>(Õ tj,J):=by
 let t:eB (bC5 zA Å ad6) env J>(Ms x "-", J):=by apply QK ?_;ext Zo;rw[Qe bc8];rfl
 ext cT;cases q:Ms x "-" with
 |true=>rw[q]at t;rw[KD t,pv];ext FQ;rw[Qe bc8];exact(J_ Ϭ (í 1) none) J=_;exact(ag (Ĉ rk) >>= _) J=_;rw[Ea^Bi hl È];rfl
 |false=>rw[q]at t;rw[G9 t,av7];show bc8
def neS{y:Str}(h1:ĭ x)(h2:ĭ y):DN Ϭ bd9 J>(be9<|x==y,J):=au3 ((QE (iI Ϭ&&iI bd9) >>= _) J=_) (zB h1)^zB h2
def QtF(hl:rk<=600){env:En}(h2:co2 2>(cb9 tj))(h1:co2 1>cP9)(hf:bj2<=600):iU (gp^Jk bV d7 bG (ð u_ ß) Û) (gp^ð GQ^bp0 (rJ ß) [] Xr^Ķ rH Å EK) env J>(hV^c1 x m,J):=by
 let ln:wV u_ ß env J>(Í bj2,J):=aN2 (oC (ak h2) ?_) ((ag (bj2<aC4) >>= _) J=_)^Ea^Bx hf Á
 let ch:eB (Jk bV d7 bG (ð u_ ß) Û) env J>(Af da3 da4&&A6 da4 mG,J):=QK^xU Y ln (ak h1) Y Y;let e1:(Af da3 da4&&A6 da4 mG)=(Af 0 bj2&&A6 bj2 m):=by
  congr 1
  .show bd4 À
  .show bd4 À
 rw[e1]at ch;ext c1;cases q:(Af 0 bj2&&A6 bj2 m)with
 |false=>rw[q]at ch;show Wv (ZB ch)
 |true=>rw[q]at ch;show bn9 (ZB ch) (ZB^QK^QrE hf h2)
def QtG{env:En}(h2:co2 2>(cb9 tj))(h0:co2 0>cP8)(a:ĭ x):Yu (eB^bC5 zA ß^Ċ "0") (eB^Ķ DN Å "0") env J>(c2 x,J):=by
 let t:eB (bC5 zA ß^Ċ "0") env J>(Ms tj "0", J):=by apply QK ?_;ext Zo;rw[Qe^ak h2];rfl
 ext c2;cases q:Ms tj "0" with
 |false=>rw[q]at t;show zS t
 |true=>rw[q]at t;show dn1 t (Ω (ak h0) Y^neS a È)
structure NT(x:Str):ä where
 l:rk<=600
 f:bj2<=600
 s:ĭ x
def W9(N:NT x)(h1:Ĭ^c1 x m)(h2:ÿ^c2 x)(hi:au5>n):YQ [Ϭ,Í m] J>(bG7,J):=by
 have E:En:=[! Ϭ,cP9,bn0 tj]
 apply ā E^P8 aF E (Qpl N.l Y) ?_;apply bC9^as7 (QtF (m:=m) N.l Y Y N.f) h1;apply at6 (ĵ (QtG Y Y N.s) h2)^ZI ύ ?_;exact(ag (rk<=640) >>= _) J=_;rw[Ea^av9 N.l];rw[Qe (Y:QE true J>((),J)),hi];rfl
#where
def big:V:=ą
structure KO(x:Str)(n:Int):ä where
 N:NT x
 h1:Ĭ^c1 x 31
 h2:ÿ^c2 x
 hi:au5>n
 ha:n.natAbs<=big
structure SO(x:Str)(n:Int):ä where
 N:NT x
 h1:Ĭ^c1 x 3
 h2:ÿ^c2 x
 hi:au5>n
 ha:0<=n
variable{J:Hs}{x y wd:Str}{m:V}{n:Int}
def QoT(env:En)(h:co2 1>(Ý n)):eB (Qg fu (ð Fj Û) cb7) env J>(Af big n.natAbs,J):=by apply QK^ϔ^Qj (oC bc8 Y) (io Y^ZQ Z_ J) Y;exact í (aN1<|Ö<|(É (n<0) (-n) n) >= ą,J)=_;congr 3;apply bd4 ?_;ext big;split<;>lia
def Qsq(K:KO x n):YB [Ϭ] J>(bG7,J):=by
 have E:En:=[! Ϭ,Ý n]
 show ā E (P8 aF E (Pi Y^W9 (m:=31) K.N K.h1 K.h2 K.hi)^at6 (ĵ (QoT E Y)^Ec^İ K.ha) Ã)
def Qss(K:SO x n):qt [Ϭ] J>(bG7,J):=by
 have E:En:=[! Ϭ,Ý n]
 show ā E (P8 aF E (Pi Y^W9 (m:=3) K.N K.h1 K.h2 K.hi)^at6 (Ω Ã Y<|show í (aN1^Af n 0,J)>(ő,J)by rw[Ec^İ K.ha]) Ã)
abbrev Tx:=an3
def o9(ts:Tx):Þ:=ts.map λ p=>Õ ix
def rE(ts:Tx):Þ:=ts.map λ p=>Í p.2
def Qmu{ts:Tx}(a:∀p∈ts,KO ix p.2)(hl:bH8 10):Zd false (cM^CQ Û) [] Xr (cS0 YB) [! ap4,ds3,ń] J>(Ù^rE ts,J):=by apply Ud (ds:=bM9) Y (by ext o9;rw[Br];lia) ?_;show yH (J:=J) (f:=λ d=>Qy 1 YB (Ç Å)^dv5 [! ap4,ds3,ń]) (λ p:Str × Int=>ap3 ix) (λ p=>eD p.2) ts λ p hp'=>cf0^Qsq^a p hp'
def DH{ts:Tx}(a:∀p∈ts,KO ix p.2)(hl:bH8 10):Qg Zm (aw6 Å) (ð tO^bp0 (CQ Û) [] Xr^cS0 YB) [! ap4,ds3,ń] J>(õ<|ap4::rE ts,J):=aN2 (Qj (ax7 ύ) (oC (Qmu a hl) Y) ?_) ((ah6 ([ap3 wd]++rE ts) >>= _) J=_)^Xf^cr3 rE
def U_(h1:ĭ x)(h2:ĭ y):eE Ϭ bd9 J>(ŏ<|x==y,J):=au3 ((QE (iI Ϭ&&iI bd9) >>= _) J=_) (zB h1)^zB h2
def Qso{ts:Tx}(a:∀p∈ts,KO ix p.2)(hl:bH8 10)(e:ĭ wd)(c:iN wd Š):Yb [ap4,Ù bM9] J>(õ<|ap4::rE ts,J):=by
 have E:En:=[! ap4,ds3,cx4 ap4^rE ts]
 show ā E (P8 aF E (DH a hl)^at6 (zS^QK^ĵ (wn^U_ e xq) c) Ã)
#where
def T1:an3:=[(iW, 1),(dQ, 2),(ed, 1),(Š, 2)]
def T2:an3:=[(ww, 1),(TD, 0),(gw, 1),(fF, 0),(K3, 0),(cN2, 0)]
structure RW(row wd:Str)(ts:č):ä where
 s:cz8 row=wd::ts
 l:row.length<=600
 t:bH8 10
variable{J:Hs}{x wd row:Str}{ts:č}{n:Int}{v:DV}
def E3(row wd:Str)(ts:č):En:=[! Ϟ,!(pk (wd::ts) PD),! ap4,ax6 bd5]
def RV(R:RW row wd ts):QR 1 (bC5 jb Å Ql) [! Ϟ,ń,ń,ń] J>(ō [! Ϟ,!(pk (wd::ts) PD),ń,ń],J):=by
 apply Qv (d:=pk (wd::ts) PD) ?_;ext Zo;rw[Qe^ak (d:=Ϟ) Y];exact(jb Ϟ [Õ blank]) J=_;exact(ag (0<blank.length/\Ĉ (row.length+2)/\Ĉ^hF^cz8 row) >>= λ_=>af2^mr (cz8 row) PD) J=_;let sz:Ĉ ej:=È
 let hl:=R.l;let a:=R.t;rw[R.s,Ea^â (0<blank.length/\Ĉ (row.length+2)/\Ĉ^hF (wd::ts)) #[Á,À,ĩ A9]];rfl
def ix0{E:En}(h:E[1]?>(Ü^pk (wd::ts) PD)):Qg bH Û bG E J>(ap4,J):=by apply io bc8 ?_;exact bH (Ù<|ap4::bd5) ↥(Ñ (0:V)) J=_;let a:atI (ap3 wd::bd5)^Ñ (0:V)>ap4:=jR Y;simp[bH,eG,VM]at a ⊢;rw[a];rfl
def TJ(R:RW row wd ts){f:aN}:Qq (QR 2^bn7 bH 0) (Qq (QR 3^cB8 Û) f) [! Ϟ,!(pk (wd::ts) PD),ń,ń] J=f cb1 J:=by apply aO3 [! Ϟ,!(pk (wd::ts) PD),! ap4,ń] J (ix0 Y)^GC (aF:=cb1) (hp1:=J)^Qv (d:=Ù bd5) ?_;exact(lu (pk (wd::ts) PD) (í 1) none) J=_;exact í (DV.lst _,J)=_;rw[P9<|wh 1>(Ñ (1:V)),xW];rfl
def Tt(T:an3):eB (Qg eE (G8 T ß)^ð Ut Ă) cb1 J>(Ö<|P6 wd>aJ7,J):=by
 let e1:G8 T ß cb1 J>(oI^P6 wd,J):=Y;let a:wV Ut Ă cb1 J>(ĕ ts.length,J):=AE (í (bP3 ⇑(ts.map DV.str),J)=_) Br
 apply Ω e1 a ?_;cases q:P6 wd with
 |none=>rfl
 |some j=>exact eE ↥j ↥aJ7 J=_;rw[ZQ (qx j aJ7) J];congr 3;rw[Bool.eq_iff_iff];simp
def QsY{T:an3}{c:V}(h:P6 wd≠wh c)(a:ts.length=c):eB (Qg eE (G8 T ß)^ð Ut Ă) cb1 J>(Ν J):=di3 Tt a^Ec h
def Wb{T:an3}{c:V}(h:P6 wd>aU4)(a:ts.length=c):eB (Qg eE (G8 T ß)^ð Ut Ă) cb1 J>co7:=di3 Tt a^Ea h
def Qth(R:RW row wd ts)(h:T1.lookup wd>aJ7)(hd:Yb [ap4,Ù bd5] J>(v,J)):Zu [Ϟ] J>(v,J):=by apply bo3 cb1 (RV R)^ϔ^TJ R;show rL (Wb (T:=T1) h Y) (Pi Ã hd)
def Qti(R:RW row wd [x])(h1:T1.lookup wd≠wh (1:V))(h2:T2.lookup wd>(Ñ (1:V)))(K:SO x n):Zu [Ϟ] J>(õ [ap4,bG7],J):=by
 apply bo3 (cb0 [x]) (RV R)^ϔ^TJ R;apply bC9^QsY (T:=T1) (c:=1) h1 Y;let a:VW (cb0 [x]) J>(Ù [bG7],J):=by
  apply Ud (ds:=[ap3 x]) Y (fP<|1<Ĺ) ?_;show yH (J:=J) (f:=λ d=>Qy 1 qt (Ç Å)^dv5^cb0 [x]) (λ p:Str=>ap3 p) (λ_=>eD n) [x] λ p hp'=>tm hp'^cf0^Qss K
 show rL (Wb (T:=T2) (c:=1) h2 Y) (Qj (ax7 ύ) (oC a Y) Y)
#where
def Ny(x:Str)(c:V):Ms x AN=Ö (AL[0]?>c):=by
 rw[Bool.eq_iff_iff];ext Txt.startswith
 rw[Bb,decide_eq_true_eq,decide_eq_true_eq];show StrLaws.subAt_one x c 0
def Qpm{x:Str}(h:AL[0]?≠í 45):tj=x:=by ext cT;rw[P9<|bi3=l6 45,Ny,Ec h];rfl
def Qs0:∀c:V,c<128->cU1=(A6 48 c&&A6 c 57):=È
def Tr(l:ź):Bool:=l.all λ c=>A6 48 c&&A6 c 57
def QrF{x:Str}(h:Ĭ^Tr AL):Ĭ^dg x:=by
 ext dg;rw[List.all_eq_true];intro c a;have:=aH9 h c a;let q:c<128:=by simp only[Bb,decide_eq_true_eq]at this;lia
 rw[Qs0 c q];show this
def NQ{x:Str}(h:∀c∈AL,c<128):ĭ x:=by ext PyData.strOk;rw[Array.all_eq_true'];intro c a;have:=h c^Array.mem_toList_iff.mpr a;show ar3
def QrG:∀d:V,d<10->OA^Nat.digitChar d=48+d:=Á
def Wz{n:V}(h:n<10):bP7^OI n=[48+n]:=by rw[Nat.toDigits_of_lt_base h,Ba,QrG n h];rfl
def Qrz{n:V}(h:10<=n):bP7^OI n=bP7^OI (n / 10)++[48+n % 10]:=by let t:OI (n / 10)++OI (n % 10)=OI (10 * (n / 10)+n % 10):=Nat.toDigits_append_toDigits Á À À;rw[Nat.div_add_mod]at t;rw[<- t,List.map_append,Wz (n:=n % 10) À]
def fU(n:V):ź:=bP7^OI n
def GU(n:V):cl bd=cl0:=PySem.W.KIN.signs_num n
def MZ(n:V):cl bG3=45::fU (n+1):=by exact(dp4 Lc).cps.toList=_;rw[PyProof.Rows.signs_ofString];exact("-" ++ Nat.repr (n+1)).toList.map Char.toNat=_;rw[String.toList_append,List.map_append,Nat.toList_repr];rfl
def zp(n:V):∀c∈cl0,48<=c/\c<=57:=λ c i=>by let(ch,a,e):=bK8 i;rw[<- e];show PyProof.Rows.digit_range (Nat.isDigit_of_mem_toDigits Á Á a)
def U5(n:V):cl0≠[]:=λ e=>by let h:=PySem.toDigits_len_ge 10 n;rw[List.map_eq_nil_iff.mp e]at h;show Ė h Á
def QrD(n:V):cl0[0]?>48->n=0:=by
 induction n using Nat.strongRecOn with
 |_ n a =>
  intro h;by_cases q:n<10
  .unfold fU at h
   rw[Wz q]at h;let e:=Aj h;lia
  .let l:0<⇑(fU<|n / 10):=aN3^U5 _
   let e:cl0=fU (n / 10)++[48+n % 10]:=Qrz À;rw[e,Ag l]at h;have:=a (n / 10) À h;lia
def PX{n k:V}(a:0<k)(h:n<cJ9 k):⇑cl0<=k:=by have:=PyProof.Rows.toString_length_le (v:=iq) À a^bK5 (Int.ofNat_lt.mpr h) Int.natCast_pow;rw[<- GU,<- Xt];show this
structure TQ(i:Int):ä where
 l:⇑aC<=32
 f:∀c∈ct9,c=45∨(48<=c/\c<=57)
 g:ct9≠[]
 n:NT aC
 k:KO aC i
def WL{x:Str}{n:V}(h:cl tj=cl0)(hn:n≠0∨x = "0"):ÿ^c2 x:=by
 ext c2;rw[P9<|đ "0"=l6 48,Ny,h];obtain hn|hn:=hn
 .rw[Ec λ z=>hn^QrD n z];rfl
 .rw[hn];have:Ĭ<|đ "0"==đ (l6 48):=È
  rw[this,Bool.not_true,Bool.and_false]
def Oh{x:Str}{n m k:V}(h:cl tj=cl0)(i:0<k)(hn:n<cJ9 k)(j:k<=m):Ĭ^c1 x m:=by
 let l:=PX i hn;let p:0<⇑cl0:=aN3^U5 n;let e:bj2=⇑cl0:=Ϗ Xt h
 ext c1;rw[ar3,ar3,QrF (by rw[h];ext Tr;rw[List.all_eq_true];intro c a;have:=zp n c a;rw[Ea this.1,Ea this.2];rfl)];rfl
def SI(n:V):cT bd=bd:=Qpm (by rw[GU];intro z;have:=zp n 45^Aw z;lia)
def Qma{x:Str}{l:ź}(h:AL=45::l):cl tj=l:=by
 let i:rk=⇑l+1:=Ũ Xt h
 ext cT;rw[P9<|bi3=l6 45,Ny,h,C8 Ê];let e:Builtin.Str.strSliceIndices (í 1) none 1 rk=Builtin.Str.strSliceIndices (wh (1:V)) (wh (rk:V)) 1 rk:=by
  let e1:É (Ñ (rk:V)<0) (Ñ (rk:V)+rk)^Ñ (rk:V)=rk:=ec;let c:max da3^min (Ñ (rk:V)) rk=rk:=À
  ext Builtin.Str.strSliceIndices sliceRange;simp[e1,c]
 ext Txt.slice;rw[e];let p:=StrLaws.sliced_plain x (a:=1) (b:=rk) À Ĕ;let q:=StrLaws.strSliceIndices_plain (a:=1) (b:=rk) (len:=rk) À Ĕ;rw[C7 (by rw[q,Br,List.length_range];simp;lia),p];exact(cC8 (x.cps.toList.drop 1)<|rk-1).toArray.toList=l;rw[â (x.cps.toList=45::l) h];simp[i]
def TQ.of{i:Int}(h:i.natAbs<=big):TQ i:=by
 let u:big<cJ9 31:=È
 cases i with
 |ofNat n =>
  exact TQ iq;let h:(iq).natAbs<=big:=h;let hn:n<cJ9 31:=A3 (n<=big) h
  let e:=GU n;let j:=SI n;let l:=PX Á hn;let v:⇑bd=⇑cl0:=Ϗ Xt e
  let o:NT bd:=#[À,ĩ j,NQ λ c a=>by rw[e]at a;have:=zp n c a;lia];apply#[mB (hF bd<=32),λ c a=>ċ^zp n c^ì e a,λ z=>U5 n^e.symm.trans z,o,o,Oh (Æ j e) Á hn Ĕ,WL (Æ j e) ?_,?_,h]
  .by_cases z:n=0
   .rw[z];show ċ È
   .show ë z
  .have:=PySem.intText_digits (x:=bd) (λ c a=>zp n c^ì e a) (λ z=>U5 n^e.symm.trans z) À
   rw[â ((bd).cps.toList=cl0) e]at this;unfold fU at this;rw[PySem.W.KIN.val_back]at this;show this
 |negSucc n =>
  let hn:n+1<cJ9 31:=A3 (n+1<=big) h
  let e:=MZ n;let j:=Qma e;let l:=PX Á hn;let v:⇑bG3=⇑(fU<|n+1)+1:=Ũ Xt e
  let y:⇑(cT bG3)=⇑(fU<|n+1):=Ϗ Xt j
  let r:∀c∈cl bG3,c=45∨(48<=c/\c<=57):=λ c a=>by
   rw[e]at a;obtain z|z:=ny a
   .show ë z
   .show ċ (zp _ c z)
  let o:NT bG3:=#[À,À,NQ λ c a=>İ^r c a];apply#[À,r,λ z=>į e z z,o,o,Oh j Á hn Ĕ,WL j (ë aH4),?_,h];have:=PySem.intText_neg (x:=bG3) e (λ c a=>zp _ c a) (U5 _) À;unfold fU at this;rw[PySem.W.KIN.val_back]at this;show this
def SO.of{i:Int}(h0:0<=i)(h:i<ej):SO aC i:=by let(n,Y):=Int.eq_ofNat_of_zero_le h0;let T:TQ iq:=TQ.of^aX8 big;show#[T.n,Oh (Æ SI^GU n) (k:=3) Á À Ĕ,T.k.h2,T.k.hi,h0]
def V9{nxt:NX}{t:DV->OB}{f:bS}(ds es:Þ)(r:cI3=ê)(hn:∀i,i<=ê->nxt i J>(FL,J))(u:∀d∈ds,t d J>co7)(hf:∀(i:V)(d e:DV),FL>d->Ů es>e->f d J>(e,J))(hl:ê<Ĺ):Je nxt t f Ĺ 0 J>(es,J):=by
 suffices h:∀(m i n:V),m+i=ê->m<n->Je nxt t f n i J>(es.drop i,J)by simpa using h ê 0 Ĺ Y hl
 intro m;induction m with
 |zero =>
  intro i n e j;obtain⟨n,Y⟩:∃k,n=k+1:=#[n-1,À];have:i=ê:=À
  subst this;let e1:=hn ê Ĕ;rw[bp8 ds[ê]?]at e1;rw[Je,L9,<- r,Cw];rfl
 |succ m v =>
  intro i n e j;obtain⟨n,Y⟩:∃k,n=k+1:=#[n-1,À];let c:i<ê:=À
  let a:i<cI3:=À
  let o:=Ab c;let e1:=hn i À;rw[o]at e1;let hi:=v (i+1) n À À;rw[Je,L9];simp only;rw[Qe^u ds[i]^B7 c,Bh a];simp only[if_true];rw[Qe^hf i _ _ o bs8,Qe hi];rfl
def pT(ps:Ei):Str:=cv1 "-"^CL ","^bW4 q FO q.2
def aO(x:Int):ä:=x.natAbs<=big
def aO.abs{x:Int}(h:aO x):x.natAbs<Λ 200:=Bx h È
def SeqAt(J:Hs)(D:DV)(ds:Þ):ä:=D=ū∨D=rc∨∃n,D=NO/\YP>ū
def Hl(a b:Int):cl^pt a b=cl^txt a++(58::cl^txt b):=by ext pt;rw[Vz,Vz,A7];rfl
def MS{a b:Int}(ha:aO a)(c:aO b):⇑(pt a b)<=65:=by let h1:=ay1 ha;let h2:=ay1 c;rw[Xt,Hl,Am,A9,<- Xt,<- Xt];lia
def GP{x y:Str}(h:rk+⇑y<=ej):Ĭ^Hq x y:=ϧ Hq^Ea^Bi h È
variable{J:Hs}{D:DV}{ds:Þ}{f:aD}{env:En}{ps:Ei}
def Qrk(h:bn4 D ds)(hf:i0>(D,J)):∃nxt,lE f env J>(nxt,J)/\∀i,i<=ê->nxt i J>(FL,J):=by
 obtain Y|Y|⟨n,Y,hn⟩:=h
 .show#[x4,fN lE hf,λ i hi=>Ą cJ bT7]
 .show#[x4,fN lE hf,λ i hi=>Ą cJ bT7]
 .apply#[fZ n,?_,λ i _=>VL hn i];ext lE;rw[aH1];exact(LG >>= _) J=_;rw[cd4];rfl
def Qq7(h:bn4 D ds)(hf:i0>(D,J)):zV f env J>(aI6,J):=by
 ext zV;rw[aH1];obtain Y|Y|⟨n,Y,hn⟩:=h
 .rfl
 .rfl
 .exact(LG >>= _) J=_;rw[cd4];rfl
def xg(h:bn4 D ds)(hf:i0>(D,J)):wV ZG f env J>(dm7,J):=by
 obtain Y|Y|⟨n,Y,hn⟩:=h
 .show oC hf Y
 .show oC hf Y
 .show Jq hf hn
def QpB(h:bn4 D ds)(hf:i0>(D,J)):Hz f env J>(Ő,J):=by
 ext Hz;rw[aH1];obtain Y|Y|⟨n,Y,hn⟩:=h
 .rfl
 .rfl
 .exact(LG >>= _) J=_;rw[cd4];rfl
def QpA(h:bn4 D ds)(hf:i0>(D,J)):HB ba6 f env J>(ő,J):=by
 ext HB;rw[aH1];obtain Y|Y|⟨n,Y,hn⟩:=h
 .rfl
 .rfl
 .exact(LG >>= _) J=_;rw[cd4];rfl
def Sn(h:bn4 D ds):isD D Ě J>(ő,J):=by obtain Y|Y|⟨n,Y,hn⟩:=h<;>rfl
def Gg:aD:=iS (lE Å) [] Xr^Qg jm (Ķ jm cS4 ":") cf5
def QmV{x y:Int}(hx:aO x)(a:aO y)(env:En)(h:co2 0>(Ü^õ [Í x,Í y])):Qg jm (Ķ jm cS4 ":") cf5 env J>(Õ^pt x y,J):=by
 let h1:=ay1 hx;let h2:=ay1 a;let c:⇑(dm3++đ ":")=⇑dm3+1:=by rw[Xt,Vz,Am,<- Xt];rfl
 show Qj (io (oC (io bc8^R5 0 J)^xw hx.abs)<|kZ<|GP<|mB<|hF dm3+1<=ej) (oC (io bc8^R5 1 J)^xw a.abs) (kZ^GP^ĩ c)
def Qg2(h:bn4 D as1)(u:∀q∈ps,aB4/\aO q.2)(hl:ϣ<=OG):Gg [! D] J>(Ù^aH3 q^Õ^pt FO q.2,J):=by
 let(nxt,e1,a):=Qrk (f:=Å) (env:=[! D]) h Ã;ext Gg Zd;rw[L9];let c:=V9 (nxt:=nxt) (t:=λ d=>Xr^dv5 [! D]) (f:=λ d=>Qg jm (Ķ jm cS4 ":") cf5^dv5 [! D]) (J:=J) as1 (aH3 q^Õ^pt FO q.2) (by ext aU;simp) a an5 (λ i d e hd j=>by
  unfold aU at hd;rw[Bt]at hd j;cases hq:Ů ps with
  |none=>rw[hq]at hd;cases hd
  |some q=>rw[hq]at hd j;let e1:=Aj hd;let a:=Aj j;rw[<- e1,<- a];let(o,r):=u q (Aw hq);show QmV o r _ Y) (by ext aU;rw[Br];lia)
 rw[P9<|lim=Ĺ,aP2];rfl
def WI{α:pZ}(f:α->V)(m:V):∀l:Fa,IQ a l (f a<=m)->(l.map f).sum<=⇑l * m:=by
 intro i;induction i with
 |nil=>intro _;show Fm
 |cons a r e=>intro h;let h1:=e λ b c=>h b^ſ c;let h2:=h a ž;rw[Ba,List.sum_cons,A9,Nat.succ_mul];lia
def Ht{xs:č}{m n:V}{c:V}(hx:∀x∈xs,rk<=m)(hn:ŧ<=n)(a:n * (m+1)<=10000000):be7 AN xs:=by apply joinOk_of ?_;let h1:=WI (λ x:Str=>rk) m xs hx;let h2:ŧ * (m+1)<=n * (m+1):=bb hn;rw[Nat.mul_succ]at h2;have:⇑(đ AN)=1:=Y;rw[this];lia
def Hu{c:V}{xs:č}{e:aD}(a:br3>(Ù bQ2,hp1))(i:be7 AN xs):Zo pS js (Ċ AN) (Ç e) env J>(Õ^CL AN xs,hp1):=by ext Zo;rw[Qe (Y:eC cu1 env J>(cu1,J)),Qe (Y:jr pS cu1 J>((),J)),dj3 a];exact(lV (Ù bQ2) >>= _) hp1=_;rw[Qe (Y:lV (Ù^sF DV.str) hp1>(bQ2,hp1)),QnT];rw[Qe (Y:pq (í xs) hp1>(xs,hp1)),i];rfl
def Wr(h:bn4 D as1)(i:∀q∈ps,aB4/\aO q.2)(hl:ϣ<=OG)(a:ÿ ps.isEmpty):Zo pS js cc8 (Ç Gg) [! D] J>(Õ oQ,J):=by
 let c:=Qg2 h i hl;let j:=Hu (c:=44) (xs:=bW4 q FO q.2) (e:=Gg) (env:=[! D]) (J:=J) (hp1:=J) (Ũ c List.map_map)^Ht (m:=65) (n:=OG) (λ x hx=>by let(q,hq,Y):=F0;let(o,r):=i q hq;show MS o r) (Æ Br hl) Á
 ext pT;rw[a,av7];show j
def Ks(h:bn4 D as1)(c:∀q∈ps,aB4/\aO q.2)(hl:ϣ<=OG):Jg [D] J>(Õ oQ,J):=by
 have E:En:=[! D]
 let a:bY2 as1=ps.isEmpty:=l3 ps
 let t:=Qq7 (f:=Å) (env:=E) h Ã;rw[a]at t;let sp:zN [D] J>(Õ oQ,J):=by
  cases q:ps.isEmpty with
  |true=>rw[q]at t;apply ā E^rL (ZB (b:=false) t) ?_;ext pT;rw[q,pv];rfl
  |false=>rw[q]at t;show ā E (at6 (ZB (b:=true) t)^Wr h c hl q)
 show bo3 E (QX^Ω Ã Y^Sn h) (rL (QK^QpB h Ã)^cf0 sp)
def kL:Jg [Ě] J>(Õ "-", J):=Y
def Qhz(x:Str):Jg [Ϭ] J>(Ϭ,J):=Y
def Qhy{i:Int}(h:aO i):Jg [ft] J>(Õ aC,J) :=
 EO [tq] (QX^II b Y) (QX^II b Y)^Qt^ZI ύ^xw h.abs
def uI(h:bn4 D as1)(a:∀q∈ps,aB4/\aO q.2)(hl:ϣ<=OG):ZY [D] J>(Õ oQ,J):=by
 have E:En:=[! D]
 let ln:=xg (f:=Å) (env:=E) h Ã;let pl:⇑as1=ϣ:=hp aU Br
 rw[pl]at ln;let t:eB (Ò aV at5 0) E J>(ps.isEmpty,J):=by
  apply ϔ^Ω ln Y^rM _ _ _;cases ps with
  |nil=>rfl
  |cons q r=>exact í (Ñ (mz+1:V)==0,J)=_;rw[ad À];rfl
 apply EO E (QX^Ω Ã Y^Sn h) (QX^QK^QpA h Ã) ?_;cases q:ps.isEmpty with
 |true=>rw[q]at t;apply rL t ?_;ext pT;rw[q,pv];rfl
 |false=>rw[q]at t;show at6 t (Wr h a hl q)
def Qlg:ZY [Ě] J>(Õ "-", J):=Y
def Qlf{i:Int}(h:aO i):ZY [ft] J>(Õ aC,J) :=
 bo3 [tq] (QX^II b Y)^rL (cO3 b Y)^ZI ύ^xw h.abs
#where
def iC(x:Str):ä:=∀c∈AL,c<128
def iC.ok{x:Str}(h:iC x):ĭ x:=NQ h
def Gm{i:Int}(h:aO i):iC aC:=λ c a=>İ^(TQ.of h).f c a
def QoX{a b:Int}(ha:aO a)(i:aO b):iC^pt a b:=λ c e=>by
 rw[Hl]at e;obtain h|h:=CB e
 .show Gm ha c h
 .obtain h|h:=ny h
  .lia
  .show Gm i c h
def HU{c:V}(a:c<128):∀{ws:č},IQ x ws^iC x->∀d∈lj c ws,d<128
 | [],_=>az7 d h h
 | [x],h=>h x ž
 |x::y::r,h=>λ d hd=>by
  obtain z|z:=CB hd
  .show h x ž d z
  .obtain z|z:=ny z
   .lia
   .show HU a (λ p J=>h p^ſ J) d z
def Qh1{c:V}(a:c<128)(h:∀x∈ws,iC x):iC^CL AN ws:=λ d hd=>Ex (â (cl^CL AN ws=lj c ws)^à (du cl _ ws)^qu c ws) hd^HU a h d hd
def UV{ps:Ei}(i:∀q∈ps,aB4/\aO q.2):iC oQ:=by
 ext pT;split
 .intro c j;have:c=45:=Ë^â (c∈[45]) j
  lia
 .apply Qh1 (c:=44) Á aQ5;let(q,hq,Y):=F0;let(a,e):=i q hq;show QoX a e
def bQ(d:DV)(x:Str):ä:=(d=Ě/\x = "-")∨(∃i,d=ft/\aO i/\x=aC)∨∃ps,d=õ as1/\IQ q ps (aB4/\aO q.2)/\ϣ<=8/\x=oQ
variable{J:Hs}{d:DV}{x:Str}
def bQ.shown(h:bQ d x):Jg [d] J>(Ϭ,J):=by
 obtain⟨Y,Y⟩|⟨i,Y,h,Y⟩|⟨ps,Y,h,l,Y⟩:=h
 .show kL
 .show Qhy h
 .show Ks (ċ ϊ) h À
def bQ.word(h:bQ d x):ZY [d] J>(Ϭ,J):=by
 obtain⟨Y,Y⟩|⟨i,Y,h,Y⟩|⟨ps,Y,h,l,Y⟩:=h
 .show Qlg
 .show Qlf h
 .show uI (ċ ϊ) h À
def Qio:iC "-" := λ c a=>by
 have:c=45:=Ë^â (c∈[45]) a
 lia
def bQ.asc(h:bQ d x):iC x:=by
 obtain⟨Y,Y⟩|⟨i,Y,h,Y⟩|⟨ps,Y,h,l,Y⟩:=h
 .show Qio
 .show Gm h
 .show UV h
def MI{ps:Ei}(e:∀q∈ps,aB4/\aO q.2):⇑oQ<=ϣ * 66+1:=by
 ext pT;split
 .show bK9 _
 .let h1:=StrLaws.join_length_le ","^bW4 q FO q.2;let h2:=WI (λ x:Str=>rk) 65 (bW4 q FO q.2) λ x hx=>by let(q,hq,Y):=F0;let(a,c):=e q hq;show MS a c
  let h3:⇑(đ ",")=1:=Y;rw[Br]at h1 h2;rw[h3]at h1;rw[â (CL ","^bW4 q FO q.2=Str.join ","^bW4 q FO q.2)^StrLaws.glued_eq_join _ _];lia
def bQ.len(h:bQ d x):rk<=600:=by
 obtain⟨Y,Y⟩|⟨i,Y,h,Y⟩|⟨ps,Y,h,l,Y⟩:=h
 .show(Á:(1:V)<=600)
 .have:=ay1 h;lia
 .have:=MI h;lia
def Kn{i:Int}(h:aO i):bQ bs5 aC:=aU9 #[i,Y,h,Y]
def jv(o:Ć):Str:=match o with
 |none => "-"
 |some i=>aC
def VO{o:Ć}(h:∀i,o>i->aO i):bQ (opt o)^jv o:=by
 cases o with
 |none=>show dn4
 |some i=>show Kn (h i Y)
def Qsg{o:cP6}(h:∀i,o>i->aO A4):bQ (oN o)^jv^o.map λ n:V=>iq:=by
 cases o with
 |none=>show dn4
 |some i=>show Kn (h i Y)
def YS{n N:V}(h:n<=N)(a:N<=ej):aO iq:=by exact n<=big;ext big;lia
#where
abbrev aQ(x:Str):ä:=x∈([F7, bL6, bs9, bt0, d6, dQ, ed, iX, CH, TB]:č)
def uH:∀x∈([F7, bL6, bs9, bt0, d6, dQ, ed, iX, CH, TB]:č),rk<=6/\Ĭ^(AL).all (λ c=>Af c 128):=È
def aQ.asc{x:Str}(h:aQ x):iC x:=λ c a=>Ϯ^aH9 (uH x h).2 c a
def dW:TR.aG->Str
 |.find _ => iW
 |.put _ _ => dQ
 |.cut _ => ed
 |.stretch _ _ => Š
def dN:TR.aG->Ĥ
 |.find k=>[k]
 |.put k x=>[k,x]
 |.cut k=>[k]
 |.stretch l h=>[l,h]
def Gp(d:TR.aG):ng=õ (cu2::mw TK):=l3 d
structure dI(d:TR.aG):ä where
 n:∀i∈TK,aO i
 s:∀l h,d=Ϝ l h->l<h
def Ie(d:TR.aG):⇑TK<=2:=bU9 d å
def tK(d:TR.aG):Str:=cx9<|Pc::db9
def Dj:∀x∈([iW, dQ, ed, Š, ww, gw]:č),rk<=7/\ĭ x/\Ĭ^(AL).all (λ c=>hV<|c==32)/\ÿ^bY2 AL:=È
def GW(d:TR.aG):Pc∈([iW, dQ, ed, Š, ww, gw]:č):=by
 cases d with
 |find _=>show ž
 |put _ _=>show ϡ
 |cut _=>show ir
 |stretch _ _=>show wD
def HW{i:Int}(h:aO i):32∉ct9:=λ z=>İ^(TQ.of h).f 32 z
variable{J:Hs}{d:TR.aG}{wd row:Str}{ns:Ĥ}
def W8(y:wd∈([iW, dQ, ed, Š, ww, gw]:č))(hn:∀i∈ns,aO i)(hl:sj<=2)(o:cl row=lj 32 (wd::cY5 txt)):RW row wd^cY5 txt:=by
 let(v,C,x,u):=Dj wd y;let fr:∀p∈wd::cY5 txt,32∉cl p:=λ p J=>by
  obtain Y|J:=ny J
  .intro z
   have:=aH9 x 32 z;simp at this
  .let(i,hi,Y):=bK8 J
   show HW (hn i hi)
 let c:row.length<=600:=by
  rw[Xt,o];let E:⇑(cl wd)<=7:=ì Xt v
  let a:∀i∈ns,⇑ct9<=32:=λ i hi=>ì Xt^ay1^hn i hi
  match ns,hl,a with
  | [],_,_=>exact hF^cl wd<=600;lia
  | [i],_,a=>exact hF (cl wd++32::ct9)<=600;have:=a i ž;rw[Am,A9];lia
  | [i,j],_,a=>exact hF (cl wd++32::(ct9++32::cl^txt j))<=600;have:=a i ž;have:=a j ϡ;rw[Am,A9,Am,A9];lia
  |_::_::_::_,h,_=>show Ė h Ê
 apply#[QcH Ê fr o ?_,c,cd3];rw[o];intro z;let e:cl wd≠[]:=λ q=>į q u u
 cases ns with
 |nil=>show e z
 |cons i r=>show e (Pm z)
def QlH(d:TR.aG):cl cZ8=lj 32 (Pc::db9):=à (du cl _ _)^qu 32 _
def WA(h:dI d):X5 [ng] J>(Õ cZ8,J):=by
 have E:En:=[! ng]
 let e:Qb 0 E J>(õ<|cu2::mw TK,J):=ĵ Ã Gp;let v:Qg bH Å bG E J>(cu2,J):=by apply io e ?_;let a:atI (ap3 Pc::bP6 TK)^Ñ (0:V)>cu2:=jR Y;simp[bH,eG,VM]at a ⊢;rw[a];rfl
 let u:bO Å (Zi bn) ZE E J>(õ^mw TK,J):=uA (a:=1) e Y;let j:jI E J>(pk db9 PD,J):=by let q:=yH (J:=J) (f:=λ d=>QN Xq (Ç Å) dv6) (λ i:Int=>eD i) (λ i=>ap3 aC) TK λ i hi=>ZI ύ^xw (h.n i hi).abs;rw[List.map_map];show Ud (Oq u) (by rw[Br];have:=Ie d;lia) q
 let r:Qg Zm (rh cg6) jI E J>(pk (Pc::db9) PD,J):=by
  let o:JH (Ç cg6) E J>(Ù [cu2],J):=fN JH^QL v
  apply Qj o j ?_;exact(ah6 ([ap3 Pc]++mr db9 PD) >>= _) J=_;rw[Xf^aL5^Ie d];rfl
 let ln:∀x∈Pc::db9,NC rk:=λ x hx=>by
  obtain Y|hx:=ny hx
  .have:=(Dj _^GW d).1;lia
  .let(i,hi,Y):=F0;have:=ay1^h.n i hi;lia
 show aN5 E (Hu (c:=32) r^Ht (m:=100) (n:=3) ln (aL5^Ie d) Á)
def QqF{ts:Tx}{x y:Str}{l u:Int}(k1:KO x l)(k2:KO y u)(h:l<u):Yb [Õ Š, Ù [Ϭ,bd9]] J>(õ [Õ Š, Í l,Í u],J):=by
 have ts:Tx:=[(x,l),(y,u)]
 let a:∀p∈ts,KO ix p.2:=λ p J=>by
  obtain Y|J:=ny J
  .show k1
  .obtain Y|J:=ny J
   .show k2
   .cases J
 have T:DV:=õ [Õ Š, Í l,Í u]
 have E:En:=[bn0 Š,ds3,! T]
 apply ā E^P8 aF E (DH (wd := Š) (ts:=ts) a<|bN0<|2<=10)^at6 (dn1 (QK^à (wn^U_ xq xq) ř)^QK^ϔ^Qj (nh T Ã Y Y) (nh T Ã Y Y) Y) Ã;exact í (aN1^Ö^GE.ge l u,J)=_;rw[an8]
def QqH(h:dI d):Zu [Õ cZ8] J>(ng,J):=by
 let R:=W8 (GW d) h.n (Ie d)^QlH d;let one:∀i∈TK,KO aC i:=λ i hi=>(TQ.of^h.n i hi).k;let a:=(Dj _^GW d).2.1;let go:∀(ts:Tx),db9=ts.map ţ->IQ p ts^KO ix p.2->bH8 10->iN Pc Š->ng=õ (cu2::rE ts)->Yb [cu2,pk db9 PD] J>(ng,J):=λ ts e k l ns de=>by rw[e,de,List.map_map];show Qso k l a ns
 apply Qth R ?_ ?_
 .cases d<;>rfl
 .cases d with
  |find k=>show go [(txt k,k)] Y (λ p J=>tm J^one k ž) Ê (bn5^ak2 iW Š) Y
  |cut k=>show go [(txt k,k)] Y (λ p J=>tm J^one k ž) Ê (bn5^ak2 ed Š) Y
  |put k x=>show go [(txt k,k),(dm3,x)] Y (λ p J=>by
   obtain Y|J:=ny J
   .show one k ž
   .rw[aL6 J];show one x ϡ) Ê (bn5^ak2 dQ Š) Y
  |stretch l u=>show QqF (ts:=[]) (one l ž) (one u ϡ) (h.s l u Y)
def D3{i:Int}(a:wd∈([ww, gw]:č))(h0:0<=i)(h1:i<ej)(e:cl row=cl wd++32::ct9):Zu [Ϟ] J>(õ [ap4,ft],J):=by
 let o:aO i:=by exact i.natAbs<=big;ext big;lia
 let R:RW row wd [aC]:=W8 (ns:=[i]) (by obtain Y|a:=ny a;decide +kernel;rw[aL6 a];decide +kernel) (λ j c=>tm c o) Ê e;apply Qti R ?_ ?_^SO.of h0 h1
 .obtain Y|a:=ny a
  .decide +kernel
  .rw[aL6 a];decide +kernel
 .obtain Y|a:=ny a
  .decide +kernel
  .rw[aL6 a];decide +kernel
#where
def fB(s v:V)(c:Int):ER:=[cm9 s,aG1 md v,(K2, Í c)]
def x8(s v:V)(c:Int):ϑ ı^fB s v c>(Ty s):=ř
def qH(s v:V)(c:Int):ϑ md^fB s v c>(Ty v):=ř
def Qiv(s v:V)(c:Int):ϑ K2^fB s v c>(eD c):=ř
def Qgf(s t v:V)(c:Int):Xx (đ ı) ↑t^fB s v c=fB t v c:=ř
def Qge(s v:V)(c d:Int):Xx (đ K2) ↥d^fB s v c=fB s v d:=ř
def QrH(s v:V)(c:Int):gg aT3^fB s v c:=ř
def QrI(s v:V)(c:Int):gg ai2^fB s v c:=ř
def NZ(s v:V)(c:Int):gg Lb^fB s v c:=ř
def x6(s v:V)(c:Int):gg "say"^fB s v c:=ř
def QsL(s v:V)(t:Int):gg bc6^cD s v t:=ř
def QsM(s v:V)(t:Int):gg aP6^cD s v t:=ř
def QhL(s u v:V)(t:Int):Xx (đ ı) ↑u^cD s v t=cD u v t:=ř
def nM:č:=[ww, TD, gw, fF, K3, cN2]
def TF:∀x∈nM,ĭ x:=È
def Tf{x y:Str}(hx:x∈nM)(a:y∈nM){b:Bool}(h:(x==y)=b)(J:Hs):aV Ϭ bd9 J>(FH,J):=iu J (TF x hx) (TF y a) h
variable{J:Hs}
def skip{E:En}{x y:Str}(h:E[3]?>cP8)(hx:x∈nM)(a:y∈nM)(hn:iN x y):ci0 (ly Ă y) f E J>(bC1,J):=QX^Ω bc8 Y^Tf hx a hn J
def hit{E:En}{x:Str}{f:aN}(h:E[3]?>cP8)(hx:x∈nM)(hf:f E J>(Tk (.rt v,E))):ci0 (ly Ă x) f E J>(Tk (.rt v,E)):=ZN (Ω bc8 Y^Tf hx hx Ê J) hf
#where
def WN:∀x∈nM,ÿ (p9^T1.lookup x):=È
def Oo(x:Str)(xs:Þ)(w:Hs):Yy [õ<|Ϭ::xs] w>(ŏ^p9^T1.lookup x,w):=by
 apply aN5 [cx5 Ϭ] ?_;let c:Qg bH Å bG [cx5 Ϭ] w>(Ϭ,w):=by apply wn ?_;let a:atI (ap3 x::xs)^Ñ (0:V)>Ϭ:=jR Y;simp[bH,eG,VM]at a ⊢;rw[a];rfl
 show à aP2 Y
structure Dk(w:Hs)(k s v:V)(ds:ϻ)(t:TR.St)(L:V->V)(Q:Dn):ä where
 A:WB w s v ds t L Q
 dk:w[k]?>(dp1 Ę s v ê)
 no:¬ Fp s v t L Q k
def Fd(k s v:V)(t:TR.St)(L:V->V)(Q:Dn)(x:V):ä:=x=k∨Fp s v t L Q x
variable{w w':Hs}{k s v:V}{ds:ϻ}{t t':TR.St}{L L':V->V}{Q Q':Dn}
def Dk.lt(D:Dk w k s v ds t L Q){x:V}(h:Fd k s v t L Q x):x<ĳ:=by
 obtain Y|h:=h
 .show Zw D.dk
 .show D.A.lt h
def Dk.keep(D:Dk w k s v ds t L Q)(h:∀x,Fd k s v t L Q x->w'[x]?=w[x]?):Dk w' k s v ds t L Q:=#[D.A.keep λ x hx=>h x^ċ hx,à (h k ϊ) D.dk,D.no]
def Dk.step(D:Dk w k s v ds t L Q)(a:WB w' s v ds t' L' Q')(F:Fx (Fp s v t L Q) w w'^Fp s v t' L' Q'):Dk w' k s v ds t' L' Q'/\Fx (Fd k s v t L Q) w w'^Fd k s v t' L' Q':=by
 let c:=Zw D.dk;apply#[#[a,à (F.old k c D.no) D.dk,dc7],F.len,λ x hx h=>F.old x hx λ z=>h^ċ z,aQ5]
 .obtain z|z:=F.new k z
  .show D.no z
  .lia
 .obtain Y|hx:=hx
  .show ë ϊ
  .obtain z|z:=F.new x hx
   .show ë (ċ z)
   .show ċ z
def Qtn:aN:=þ (bR5 ww^bC5 js Ql jH) (bR5 TD^Fc^cr^cW7 TD XU)^þ (bR5 gw^om Jg^υ Ę ai2 2 JF Å aK0) (bR5 fF^om Jg^om JR FM)^ϗ (bR5 K3^aA7 (om X2 FM) be4 cu7)^Fc^bQ7 Ę Lb Z8 Å
def UD{row x:Str}(rd:Zu [Ϟ] w>(õ<|Ϭ::xs,w))(hx:x∈nM)(h:Qtn [cS1,! Ϟ,cx5 Ϭ,! Ϭ] w>((.rt d,[cS1,! Ϟ,cx5 Ϭ,! Ϭ]),w')):QV [ã k,Ϟ] w>(d,w'):=by
 have T:DV:=õ<|Ϭ::xs
 have E:En:=[cS1,! Ϟ,! T,! Ϭ]
 let a:Yy [T] w>(ő,w):=ĵ (Oo x xs w)^WN x hx;apply ā E^P8 aF [cS1,! Ϟ,! T,ń] (cf0 rd) ?_;apply P8 aF E (bS5 T Y 0 w) ?_;show Qo (QX^QK^cf0 a) h
variable{w w':Hs}{k:V}{row:Str}{xs:Þ}{d:DV}
def Qky(rd:Zu [Ϟ] w>(õ<|Õ ww :: xs,w))(h:(QG^bC5 js Ql jH) [cS1,! Ϟ,cx6 ww,bn0 ww] w>((.rt d,[cS1,! Ϟ,cx6 ww,bn0 ww]),w')):QV [ã k,Ϟ] w>(d,w'):=by apply UD rd ž ?_;show Q5 (hit Y ž h)
def QdX(rd:Zu [Ϟ] w>(õ<|Õ gw :: xs,w))(h:(QG^om Jg^υ Ę ai2 2 JF Å aK0) [cS1,! Ϟ,cx6 gw,bn0 gw] w>((.rt d,[cS1,! Ϟ,cx6 gw,bn0 gw]),w')):QV [ã k,Ϟ] w>(d,w'):=by apply UD rd ir ?_;apply On Y ir ž È;apply On Y ir ϡ È;show Q5 (hit Y ir h)
def Qhu(rd:Zu [Ϟ] w>(õ<|Õ fF :: xs,w))(h:(QG^om Jg^om JR FM) [cS1,! Ϟ,cx6 fF,bn0 fF] w>((.rt d,[cS1,! Ϟ,cx6 fF,bn0 fF]),w')):QV [ã k,Ϟ] w>(d,w'):=by apply UD rd wD ?_;apply On Y wD ž È;apply On Y wD ϡ È;apply On Y wD ir È;show Q5 (hit Y wD h)
def Qht(rd:Zu [Ϟ] w>(õ<|Õ K3 :: xs,w))(h:(QG^aA7 (om X2 FM) be4 cu7) [cS1,! Ϟ,cx6 K3,bn0 K3] w>((.rt d,[cS1,! Ϟ,cx6 K3,bn0 K3]),w')):QV [ã k,Ϟ] w>(d,w'):=by apply UD rd af6 ?_;apply On Y af6 ž È;apply On Y af6 ϡ È;apply On Y af6 ir È;apply On Y af6 wD È;show Q5 (hit Y af6 h)
def Qkz(rd:Zu [Ϟ] w>(õ<|i8 :: xs,w))(h:(QG^Fc^bQ7 Ę Lb Z8 Å) [cS1,! Ϟ,cx5 i8,! i8] w>((.rt d,[cS1,! Ϟ,cx5 i8,! i8]),w')):QV [ã k,Ϟ] w>(d,w'):=by apply UD rd bu3 ?_;apply On Y bu3 ž È;apply On Y bu3 ϡ È;apply On Y bu3 ir È;apply On Y bu3 wD È;apply On Y bu3 af6 È;show h
#where
def Qn5{f:aD}(hf:i0>(rc,hp1)):lE f env J>(x4,hp1):=fN lE hf
def QpU{ds:ϻ}{t t':TR.St}{i n:V}{r:TR.Row}(h:bt4 t i>(bi9,t')):r≠Ě:=by
 intro e;subst e;unfold TR.mv at h;split at h
 .cases h
 .rename_i w c;split at h
  .split at h<;>cases h
  .rename_i a;let a:d9:=da1
   split at h
   .cases h
   .rename_i r S' w' es;cases h;show QcJ a es
variable{w w':Hs}{k s v i:V}{ds:ϻ}{t:TR.St}{L:V->V}{Q:Dn}{row:Str}
def QqT{f:aD}{a:Þ}{xs:č}(hf:f E w>(õ a,w'))(r:ŧ=⇑a)(hl:NC ⇑a)(u:∀(j:V)(d:DV)(x:Str),Iq a>d->cS7>x->Jg [d] w'>(Ϭ,w')):Zd false (lE f) [] Xr (cS0 Jg) E w>(Ù bQ2,w'):=by
 ext Zd;rw[Qe^Qn5 hf];let c:=V9 (nxt:=cJ a) (t:=λ d=>Xr dv6) (f:=λ d=>Qy 1 Jg (Ç Å) dv6) (J:=w') a bQ2 (Ϗ Br r) (λ i hi=>Ą cJ bT7) an5 (λ j d e hd hx=>by
  rw[Bt]at hx;cases hq:cS7 with
  |none=>rw[hq]at hx;cases hx
  |some x=>rw[hq]at hx;let o:=Aj hx;rw[<- o];show cf0 (u j d x hd hq)) À
 rw[P9<|lim=Ĺ,aP2];rfl
def QqQ(D:Dk w k s v ds t L Q)(rd:Zu [Ϟ] w>(õ [Õ ww, ft],w)){a:Þ}{xs:č}(e:Jm [ã v,ft] w>(õ a,w'))(o:ŧ=⇑a)(hl:NC ⇑a)(u:∀(j:V) (d:DV) (x:Str),Iq a>d->cS7>x->Jg [d] w'>(Ϭ,w'))(r:be7 " " xs):QV [ã k,Ϟ] w>(Õ cy0,w'):=by
 have T:DV:=õ [Õ ww, ft]
 apply Qky rd^Qt^Hu (c:=32) (xs:=xs) ?_ r;show QqT (P7 bh3 D.A.hv (QsJ ..) (QL^bS5 T Y 1 w) e) o hl u
def QnC(D:Dk w k s v ds t L Q)(M:Sm t.S bg):∃g,QV [ã k,Õ K3] w>(Õ "yes", w++g):=by
 let(g,e):=QnJ M D.A.h1 D.A.h2;let rd:Zu [Õ K3] w>(õ [Õ K3],w):=as3
 show#[g,Qht rd (Qt^à (KD^QK^at7 (bO9 D.dk) e) Y)]
def QnD(D:Dk w k s v ds t L Q)(M:Sm t.S bg)(X:TR.nJ aO t):∃rows w',cB6 t.S/\QV [ã k,Õ fF] w>(Õ^pT rows,w')/\(∀x,x<ĳ->w'[x]?=w[x]?)/\ĳ<=⇑w'/\IQ q rows (aB4/\aO q.2)/\ag7 1100:=by
 let(rows,w',a,e,o,kp):=DL M D.A.h1 D.A.h2;let rd:Zu [Õ fF] w>(õ [Õ fF],w):=as3
 let j:∀q∈rows,aB4/\aO q.2:=by let(c,r,p,h1,h2,h3,h4,h5,u,h7):=a;rw[h7];show X.leaf r λ m y=>(u m).mp y
 let hl:ag7 1100:=by
  let l:=(a.len M.T).1;let c:dr8<=⇑t.S.pg:=ϧ TR.Jv^Bi (B9 _ _)^Æ List.length_range Ĕ
  have:dr8 * t.S.O4<=130 * 8:=Mj (Bi c M.ln) M.rm;lia
 show#[rows,w',a,Qhu rd (Qt^at7 (at7 (bO9 D.dk) e)^Ks (wZ #[_,Y,o]) j À),kp,dE (Zw o),j,hl]
#where
def Vd(u:TR.Wk):DV:=Ř u.O2.far (OT u.pairs)^opt u.O3
def sH(u:TR.Wk):Str:=Ř u.O2.far (pT u.pairs)^jv u.O3
structure pU(u:TR.Wk):ä where
 b:TR.Bw aO u
 l:⇑u.pairs<=50000
def uR(P:cU2):Þ:=P.map λ x=>õ [Í (x.1:V),Vd x.2]
def yq(n:V)(acc:bd8)(P:cU2):bd8:=P.foldl (λ acc x=>Dt x.1 n x.2 acc) acc
def T5:bd8->Str
 |none => "-"
 |some u=>sH u
variable{w J:Hs}{u:TR.Wk}
def pU.shown(h:pU u):Jg [Vd u] J>(Õ^sH u,J):=by
 ext Vd sH;split
 .show Ks ϊ h.b.pairs (av9 h.l)
 .show(VO h.b.O3).shown
def pU.asc(h:pU u):iC^sH u:=by
 ext sH;split
 .show UV h.b.pairs
 .show(VO h.b.O3).asc
def QhY{a s f q:V}(h1:w[a]?>(fW s f q u))(h5:aD8 w q u.pairs)(o:bO3):XM cJ3 w>(Vd u,w):=by
 have E:En:=[! Ű]
 let e:JM (eB cd5) E w>(Ν w):=bg2 b^ĵ (θ h1^yY ..) o;let fd:QP é E2 Å E w>(QY u.O2,w):=θ h1^yE ..;rw[Gp]at fd;let j:∀b,(dW u.O2 == Š)=b->eB (ly (cu6 0) Š) E w>(b,w):=λ b c=>Ω (io fd^R5 0 w) Y^iu _ (Dj _^GW _).2.1 xq c;let wo:QP é IZ Å E w>(opt u.O3,w):=bO8 h1;let no:ÿ u.O2.far->iN (dW u.O2) Š->XM cJ3 w>(Vd u,w):=λ hf c=>cp0 Vd hf av7^EO E (QX e) (QX^j _ c)^Qt wo
 cases hd:u.O2 with
 |find k=>show no be1 (ac9 hd^ak2 iW Š)
 |put k x=>show no be1 (ac9 hd^ak2 dQ Š)
 |cut k=>show no be1 (ac9 hd^ak2 ed Š)
 |stretch l h =>
  let v:QP é ad3 Å E w>(ã q,w):=θ h1^kR ..;let r:wV Ez cv7 E w>(OT u.pairs,w):=by
   apply oC v ?_;let y:Eu ↑q w>(aU u.pairs,w):=ĸ ((Zv q >>= _) w=_)^ů h5
   exact(Eu ↑q >>= λ ds=>af2 ds) w=_;rw[Qe y];rfl
  ext Vd;rw[hd,LH (TR.aG.stretch l h).far Y,pv];show bo3 E (QX e) (rL (j true<|ac9 hd<|Ĭ<|đ Š==đ Š) r)
variable{w:Hs}{k s v:V}{ds:ϻ}{t:TR.St}{L:V->V}{Q:Dn}
def QfT(A:WB w s v ds t L Q)(hq:⇑Q<=ej):JX [ã v] w>(Ù cu0,w):=by
 have E:En:=[rq v]
 suffices h:X0 E w>(Ù cu0,w)from aN5 E h;let c:=V9 (nxt:=fZ (v+3)) (t:=λ d=>Xr dv6) (f:=λ d=>ZL (á mM^bQ7 é gw XM au9) dv6) (J:=w) bV2 cu0 (by ext uR dH;simp) (λ i _=>VL A.hn i) an5 (λ i d x hd hx=>by unfold uR dH at hx;rw[Bt]at hd;rw[Bt,Bt]at hx;let(y,e,Y):=ba9 hd;rw[e]at hx;let ex:=Aj hx;rw[<- ex];let((s',a),j,o,_):=A.od y cY4;let r:AK Å bG (dj2 E^nF y) w>(cb3 y,w):=bS5 (nF y) Y 0 w;let e1:AK Å bn (dj2 E^nF y) w>(ã y.2.1,w):=bS5 (nF y) Y 1 w;show ax7 (ZP r^P7 e1 a (Qn3 ..) Yv^QhY a j o)) cd3
 ext X0 Zd;rw[Qe^Pr (θ A.hv^DB ..) A.hn,Qe^â (Je _ _ _ lim 0 w=_) c];rfl
def Qnc:∀P:cU2,rC^uR P>(P.map λ x=>(cu3 x.1,Vd x.2)):=by
 intro c;induction c with
 |nil=>show Y
 |cons x r a=>exact(match Ub ↥(Ñ x.1),rC (uR r)with|some k,some ps=>í<|(k,Vd x.2)::ps|_,_=>none)=_;rw[a];rfl
def Qk7(n:V):∀(P:cU2)(kvs:f8)(acc:bd8),l4^ë iq=acc.map Vd->ZT (jd kvs^P.map λ x=>(cu3 x.1,Vd x.2))^ë iq=mr (yq n acc P) Vd:=by
 intro c;induction c with
 |nil=>intro kvs acc h;show h
 |cons x r a =>
  intro kvs acc h;apply a (aE7 (cu3 x.1)^Vd x.2) (Dt x.1 n x.2 acc) ?_;rw[jC];by_cases e:x.1=n
  .rw[PM,C8 aF0];rfl
  .rw[EF,C7^λ z=>e^İ^cn8 z,h]
def QgI(n:V):∀(P:cU2)(acc:bd8)(u:TR.Wk),yq n acc P>u->acc>u∨∃x∈P,x.2=u:=by
 intro i;induction i with
 |nil=>intro acc u h;show FE
 |cons x r c =>
  intro acc u h;obtain z|⟨y,a,e⟩:=c (Dt x.1 n x.2 acc) u h
  .split at z
   .show ċ #[x,ž,Aj z]
   .show ë z
  .show ċ #[y,ſ a,e]
def Qlx(D:Dk w k s v ds t L Q){m:V}(j:m<ê)(hq:⇑Q<=ej):∃g,JF [ã k,Í m] w>(r8 (mr (yq m none OH) Vd) Ě,w++g):=by
 have E:En:=[cS1,cP9]
 have ps:f8:=LL OH x (cu3 x.1,Vd x.2)
 have a:Hs:=w++[tF^jd [] ps]
 let c:wV Fz (cW7 bc6 JX) E w>(aB7,a):=by apply oC (P7 bh3 D.A.hv (QsL ..) Yv^QfT D.A hq) ?_;exact(lV (Ù cu0) >>= _) w=_;rw[Qe (Y:lV (Ù cu0) w>(cu0,w)),Qnc];rfl
 let g2:a[ĳ]?>(tF^jd [] ps):=Ğ a
 let i:Zo ie Yp (ð Fz^cW7 bc6 JX) dm5 E w>(r8 (mr (yq m none OH) Vd) Ě,a):=by
  ext Zo;rw[aP2];let e:jr ie Ĵ a>((),a):=ĸ ((Zv ĳ >>= _) a=_)^ů g2
  rw[Qe e,dj3^ak (d:=Í m) Y];exact(Zv ĳ >>= _) a=_;rw[ů g2];exact í (r8 (ZT (jd [] ps)^ë mG) Ě,a)=_;rw[Qk7 m OH [] none Y]
 show#[_,ā E (at6 (Ω Ã (θ D.dk^Qiv ..)<|show í (aN1^Ö^GE.ge mG^Ñ ê,w)>(ő,w)by rw[an8]) i)]
def QnB(D:Dk w k s v ds t L Q){m:V}{row:Str}(c:m<ê)(hq:⇑Q<=ej)(a:∀x∈OH,pU x.2)(rd:Zu [Ϟ] w>(õ [Õ gw, Í m],w)):∃g,QV [ã k,Ϟ] w>(Õ^T5^yq m none OH,w++g):=by
 let(g,e):=Qlx D c hq
 have T:DV:=õ [Õ gw, Í m]
 apply#[g,QdX rd (Qt^at7 (aW9 D.dk (QrI ..) (bS5 T Y 1 w) e) ?_)];cases h:yq m none OH with
 |none=>show kL
 |some u =>
  obtain z|⟨x,hx,e⟩:=QgI m OH none u h
  .cases z
  .show(e▸a x hx:pU u).shown
def Wp(D:Dk w k s v ds t L Q){d:TR.aG}(h:dI d)(hl:ê<900):∃w',QV [ã k,Õ cZ8] w>(Õ^txt (ê:V),w')/\Dk w' k s v (ds++[d]) t L Q/\Fx (Fd k s v t L Q) w w'^Fd k s v t L Q:=by
 let(a,e1,r,Y):=Qpt D.A d À;let nk:k≠v+1:=λ z=>D.no^aU9 À;let j:(cO5 (v+1)^pk (ds++[d]) QY)[k]?>(dp1 Ę s v ê):=gs (Ņ nk) D.dk
 have a:Hs:=cO5 (v+1)^pk (ds++[d]) QY
 have c:Hs:=a.set k^dp1 Ę s v (⇑(ds++[d]):V)
 let u:WB c s v (ds++[d]) t L Q:=r.keep λ x hx=>Zn _ _ _ _ λ z=>D.no<|z▸hx
 have E:Sl->En:=λ z=>[cS1,! ng,z]
 have e:En:=E^Ý ê
 let y:QR 2 (υ û bL9 2 JY ON Û) bV0 w>(ō e,a):=Qv^P7 bh3 D.A.hv (QsK ..) ύ e1;let C:Zq Ę K2 Å cg7 e a>(ō e,c):=by apply ϔ<|cF4 v (Í<|Ñ ê+1) (wn Y) j<|bN0<|3<ej;rw[Qge];exact _>(_,a.set k (OV.ins Ę^fB s v (⇑(ds++[d]):V)));rw[Am];rfl
 let o:Xy [ã k,ng] w>(dm7,c):=EO e y C^Qt Ã;apply#[c,?_,#[u,fM j,D.no],#[my c a,λ x _ hx=>?_,λ x hx=>ë hx]]
 .let rd:=QqH (J:=w) h;rw[Gp]at rd o
  have T:DV:=õ<|cu2::mw TK
  have F:En:=[cS1,bn0 cZ8,! T,bn0 Pc]
  apply ā F^P8 aF [cS1,bn0 cZ8,! T,ń] (cf0 rd) ?_;apply P8 aF F (bS5 T Y 0 w) ?_;apply rL (QK^cf0^à (Oo _ _ w)^l3 d)^oC (aE1 D.dk (QrH ..) ύ o)^xw ?_
  exact ê<Λ 200;show Ay hl È
 .exact((cO5 (v+1) _).set k _)[x]?=_;rw[Zn _ _ _ _^λ z=>hx^ë z.symm,Zn _ _ _ _^λ z=>hx^wZ^ë À]
variable{w:Hs}{k s v:V}{ds:ϻ}{t:TR.St}{L:V->V}{Q:Dn}{bg:TR.Bg}{S:TR.Sh}
def QqI(M:Sm S bg)(r:ai3 S * S.O4<=300){f:aD}(h1:w[s]?>(i6 S.O4 (s+1) S.top S.rd S.wr))(h2:OM w (s+1) δ)(hf:∀w':Hs,(∀x,x<ĳ->w'[x]?=w[x]?)->Κ w'>(ã s,w')):
  ∃rows n w',cB6 S/\Qy 2 jl (á (om JR f)^bQ8 an0 Jt f) env w>(NO,w')/\ĳ<=n/\n+1<⇑w'/\(∀x,x<ĳ->w'[x]?=w[x]?)/\ID w'>(i6 (bD0).O4 (n+1) (bD0).top (bD0).rd (bD0).wr)/\OM w' (n+1)^(bD0).pg.map aK:=by
 let(rows,c,a,e1,e,k1):=DL M h1 h2;let z:=Zw e;let(n,y,j,C,u,k2,g1,g2):=Qqe (w:=c) (T:=aB7) M.T.bf M.rm (a.sorted M.T) (Bi (a.len M.T).1 r) (ċ #[_,Y,e]);let o:=hf c k1;let i:c[s]?>(i6 S.O4 (s+1) S.top S.rd S.wr):=à (k1 s^Zw h1) h1;show#[rows,n,y,a,og (ZP (at7 (hf w an5) e1)^P7 o i (Qcz ..) Yv^BC i) j,À,u,λ x hx=>à (k2 x À)^k1 x hx,g1,g2]
def QqR(D:Dk w k s v ds t L Q)(M:Sm t.S bg)(hs:Ĭ bi5)(hw:ag5<=8)(hc:dr8 * t.S.O4<=300):
  ∃rows n w',cB6 t.S/\QV [ã k,i8] w>(Õ^txt (cs8 NS:V),w')/\Dk w' k n v ds (ø t S NS) L Q/\Fx (Fd k s v t L Q) w w'^Fd k n v (ø t S NS) L Q:=by
 let A:=D.A;let sv:=A.sv;let lw:=A.lw;let lk:=Zw D.dk;let st:=TR.qK hs;let nk:¬ (v<=k/\k<=v+3):=λ z=>D.no^aU9 z
 have E:En:=[cS1]
 let(rows,n,r,Y2,e,n1,n2,kp,g1,g2):=QqI (f:=FM) (env:=E) M hc A.h1 A.h2 λ w' h=>bO9^à (h k lk) D.dk;let R:r[k]?>(dp1 Ę s v ê):=à (kp k lk) D.dk
 have y:Hs:=r.set k^dp1 Ę n v ê
 have c:Hs:=y.set v^bq2 n v t.tk
 let g4:bH3 x z OV<|x≠k->x≠v->r[x]?>z->c[x]?>z:=λ{x z} h h' hz=>gs (Ņ h')^gs (Ņ h) hz;let o:bH3 x z OV<|x≠k->x≠v->w[x]?>z->c[x]?>z:=λ{x z} h h' hz=>g4 h h'^à (kp x^Zw hz) hz;let C:y[v]?>dt3:=gs À^à (kp v À) A.hv;let G:y[k]?>(dp1 Ę n v ê):=fM R;let P:c[k]?>(dp1 Ę n v ê):=gs À G;let F:=g4 À À g1;let O:=g4 À À g2;let cs:Xg [ã v,NO] y>(Ě,c):=by apply aM3 [rq v,bV8]<|ϔ<|ZV Ã Ã C<|bN0<|5<ej;rw[QhL];rfl
 let u1:bJ6 (gp^cW7 ck8 JC) xJ E w>(bC1,w):=(QX^bg2 b^ĵ (P7 bh3 A.hv (WR ..) Yv^Ws A À) hs);let u2:Zq Ę ı Å (bQ9 jl (om JR FM) an0 Jt FM) E w>(bC1,y):=by apply ϔ<|ZV e Ã R<|bN0<|3<ej;rw[Qgf]
 let pt:Z8 [ã k] w>(Í (cs8 NS:V),c):=by apply ā E^ϩ u1;apply ϩ u2;apply Ō aF E c (Zz^P7 (aY3 G) C (QsM ..) (QL^bO9 G) cs) ?_;apply Qt^ϔ^P7 (bO9 P) F (KQ ..) Yv^Qce F O;rw[Br]
 let no:bH3 i u TR.Wk<|NB>u->FK->False:=λ{i u} hi a=>ND (st.2 i u hi) a this
 let rd:Zu [i8] w>(õ [i8],w):=as3
 let I:∀x,Fd k n v (ø t S NS) L Q x->Fd k s v t L Q x∨ĳ<=x:=λ x hx=>by
  obtain h|h|h|⟨i,u,hi,a,_⟩|h:=hx
  .show ë FE
  .show ċ À
  .show cQ1 FE
  .show L4 hi a
  .show cQ1 (wZ h)
 let(hs',b1,c1):=A.hh;apply#[rows,n,c,Y2,Qkz rd (Qt^oC (aE1 D.dk (NZ ..) Yv pt)^xw ?_),#[#[F,O,fM C,o À À A.hd,#[hs',o À À b1,c1],o À À A.hn,A.hq,ċ À,λ i u hi a=>L4 hi a,λ i j u u' _ hi a=>L4 hi a,aQ5],P,dc7],#[?_,ľ x hx U,I]]
 .let e5:=(Zw g2);let l5:cs8 NS<=2000:=by have:=kA (w:=[]) (T:=OT rows) (rows:=rows) (O4:=t.S.O4) ϊ M.T.bf ds2^Bi (Y2.len M.T).1 hc;let(_,_,_,q):=this;rw[Qcd M.T.bf^Y2.sorted M.T,Br]at q;show q
  show Bx l5 È
 .let((s',p1),p2,p3,p4,p5):=dm2 x;let lx:=Zw p2;let p6:=p4;unfold m7 at p6;let nx:∀j,j<=2->x.2.1+j≠k:=λ j hj z=>D.no^wZ^ċ #[x,hx,À];show#[#[s',o (nx 0 À) À p1],o (nx 2 À) À p2,p3,#[ë À,p6.2],λ i u hi a=>L4 hi a]
 .obtain h|h|⟨i,u,hi,a,_⟩|h:=z
  .lia
  .show nk h
  .show no hi a
  .show D.no (wZ^ċ h)
 .exact ĳ<=⇑((r.set k _).set v _);rw[List.length_set,List.length_set];lia
 .exact((r.set k _).set v _)[x]?=_;rw[Zn _ _ _ _^λ z=>U^wZ^ë À,Zn _ _ _ _^λ z=>U^ë z.symm];show kp x hx
#where
def rW:TR.Row->Str
 |.non => "-"
 |.side _ _ => bs9
 |.down _ _ => bt0
 |.found _ _ => d6
 |.put _ _ _ => dQ
 |.cut _ _ => ed
 |.read _ _ _ => iX
 |.told _ _ => CH
 |.raised _ _ => TB
def nT(o:cP6):Str:=jv^o.map λ n:V=>iq
def rX:TR.Row->č
 |.non=>[]
 |.side n t=>[bd,txt t]
 |.down n t=>[bd,txt t]
 |.found n x=>[bd,jv x]
 |.put n x k=>[bd,jv x,nT k]
 |.cut n x=>[bd,jv x]
 |.read n ps none=>[bd,oQ, "-", "-"]
 |.read n ps (some (s,x))=>[bd,oQ,txt s,dm3]
 |.told n k=>[bd,nT k]
 |.raised n t=>[bd,txt t]
def XF(i:V):TR.Out->č
 |.rest=>[F7, aC]
 |.take n=>[bL6, aC,bd]
 |.did n r=>rW r::aC::bd::rX r
def bM(d:DV)(x:Str):ä:=bQ d x∨(d=Ϭ/\aQ x)
inductive cP:Þ->ι č
 |nil:cP [] []
 |cons {d:DV} {x:Str} {ds:Þ} {xs:č}:bM d x->cP ds xs->cP (d::ds) (x::xs)
def kS:∀x∈([F7, bL6, bs9, bt0, d6, dQ, ed, iX, CH, TB]:č),Ĭ^(AL).all (λ c=>hV<|c==32)/\ÿ^bY2 AL:=È
def Me{c d:V}:∀{ws:č},d∈lj c ws->d=c∨∃x∈ws,d∈AL
 | [],h=>ď h
 | [x],h=>ċ #[x,ž,h]
 |x::y::r,h=>by
  obtain h|h:=CB h
  .show ċ #[x,ž,h]
  .obtain h|h:=ny h
   .show FE
   .obtain h|⟨z,h1,h2⟩:=Me h
    .show FE
    .show ċ #[z,ſ h1,h2]
def Qmg{ps:Ei}(e:∀q∈ps,aB4/\aO q.2):32∉cl oQ:=by
 ext pT;split
 .intro h;have:32=45:=Ë^â (32∈[45]) h
  lia
 .intro h;let h:32∈lj 44^bW4 q FO q.2:=ì (qu 44)^(x3 (32 ∈ ·) (du cl (đ^l6 44) _)).mp h
  obtain h|⟨x,hx,h⟩:=Me h
  .lia
  .let(q,hq,Y):=F0;let(a,c):=e q hq;rw[Hl]at h;obtain h|h:=CB h
   .show HW a h
   .obtain h|h:=ny h
    .lia
    .show HW c h
variable{d:DV}{x:Str}{ds:Þ}{xs:č}{J:Hs}{i:V}{o:TR.Out}
def bM.free(h:bM d x):32∉AL:=by
 obtain(⟨_,Y⟩|⟨i,_,h,Y⟩|⟨ps,_,h,_,Y⟩)|⟨_,h⟩:=h
 .intro h;have:32=45:=Ë^â (32∈[45]) h
  lia
 .show HW h
 .show Qmg h
 .intro z;have:=aH9 (kS x h).1 32 z;simp at this
def bM.asc(h:bM d x):iC x:=by
 obtain h|⟨_,h⟩:=h
 .show h.asc
 .show h.asc
def bM.len(h:bM d x):rk<=600:=by
 obtain h|⟨_,h⟩:=h
 .show h.len
 .show av9 (uH x h).1
def bM.shown(h:bM d x):Jg [d] J>(Ϭ,J):=by
 obtain h|⟨Y,h⟩:=h
 .show h.shown
 .show Qhz _
def cP.len(h:cP ds xs):ŧ=ê:=by
 induction h with
 |nil=>rfl
 |cons _ _ a=>rw[A9,A9,a]
def cP.get(h:cP ds xs):∀{j:V}{d:DV}{x:Str},Iq ds>d->cS7>x->bM d x:=by
 induction h with
 |nil=>intro j d x h;cases h
 |cons p _ a =>
  intro j d x h1 h2;cases j with
  |zero=>rw[<- cI6,<- Aj h2];show p
  |succ j=>show a h1 h2
def cP.mem(h:cP ds xs):∀x∈xs,∃d,bM d x:=by
 induction h with
 |nil=>intro x h;cases h
 |cons p _ c =>
  intro y a;obtain Y|a:=ny a
  .show#[_,p]
  .show c y a
def Vt{r:TR.Row}(a:r≠Ě):aQ^rW r:=by
 cases r with
 |non=>show cu8 a
 |side n t=>show(È:aQ bs9)
 |down n t=>show(È:aQ bt0)
 |found n x=>show(È:aQ d6)
 |put n x k=>show(È:aQ dQ)
 |cut n x=>show(È:aQ ed)
 |read n ps t=>show(È:aQ iX)
 |told n k=>show(È:aQ CH)
 |raised n t=>show(È:aQ TB)
def Qnx{r:TR.Row}{N R:V}(e:r≠Ě)(h:TR.Ni aO N R r)(j:N<=ej)(v:R<=8):∃ds,dl6=õ (Õ^rW r::ds)/\aQ^rW r/\cP ds^rX r/\ê<=5:=by
 let a:∀{n:V},n<=N->bM ↥n bd:=λ h=>ë^Kn^YS h j;let u:∀{k:cP6},(∀c,k>c->c<=N)->bM (oN k)^nT k:=λ h=>ë^Qsg λ c y=>YS (h c y) j;let dd:bM Ě "-" := ë dn4;cases r with
 |non=>show cu8 e
 |side n t=>show#[_,Y,Vt e,cg1 h.1 (a h.2) i9,å]
 |down n t=>show#[_,Y,Vt e,cg1 h.1 (a h.2) i9,å]
 |found n x=>show#[_,Y,Vt e,cg1 h.1 (ë^VO h.2) i9,å]
 |put n x k=>show#[_,Y,Vt e,cg1 h.1 (ë^VO h.2.1) (dp3^u h.2.2),å]
 |cut n x=>show#[_,Y,Vt e,cg1 h.1 (ë^VO h.2) i9,å]
 |read n ps t =>
  let pp:bM (õ as1) oQ:=cQ1 #[ps,Y,h.2.1,Bi h.2.2.1 v,Y];cases t with
  |none=>show#[_,Y,Vt e,cg1 h.1 pp (aj1 dd dd i9),å]
  |some t=>let(s,x):=t;let q:=h.2.2.2 s x Y;show#[_,Y,Vt e,cg1 h.1 pp (cg1 FO (ë^Kn q.2) i9),å]
 |told n k=>show#[_,Y,Vt e,cg1 h.1 (u h.2) i9,å]
 |raised n t=>show#[_,Y,Vt e,cg1 h.1 (a h.2) i9,å]
def QmP{N R:V}(B:TR.Nj aO N R o)(hn:∀n r,o=bi9->r≠Ě)(y:N<=ej)(z:R<=8)(hi:i<=ej):∃a,Wf i o=õ a/\cP a^XF i o/\⇑a<=8:=by
 let c:bM bs5 aC:=ë^Kn^YS hi Ĕ;let j:∀{n:V},n<=60->bM ↥n bd:=λ h=>ë^Kn^YS (N:=60) h Á;cases o with
 |rest=>show#[_,Y,aj1 (cQ4 Y È) c i9,å]
 |take n=>show#[_,Y,aj1 (cQ4 Y È) c (dp3^j B),å]
 |did n r=>let(u,v):=B;let(ds,e,h1,h2,h3):=Qnx (hn n r Y) v y z;apply#[Õ^rW r::ft::Í (n:V)::ds,?_,aj1 (cQ4 Y h1) c (Φ (j u) h2),Β];exact M7 i n dl6=_;rw[e];rfl
def cP.joined(h:cP ds xs)(hl:ê<=8):be7 " " xs:=Ht (c:=32) (m:=600) (n:=8) (λ x hx=>aY9 d p (h.mem x hx) p.len) (İ h.len) Á
def cP.split{x0:Str}(h:cP ds xs)(hx:xs=x0::ys)(h0:aQ x0)(hl:ê<=8){f:aD}(hf:i0>(Õ cy0,hp1)):Zo pS jb f (Ç Ql) env J>(Ù bQ2,hp1):=by
 let c:cl cy0=lj 32 xs:=à (du cl _ _)^qu 32 _;let ne:lj 32 xs≠[]:=λ z=>by
  let e:cl x0≠[]:=λ q=>ND (kS x0 h0).2 q this
  rw[hx]at z;cases ys with
  |nil=>show e z
  |cons y r=>show e (Pm z)
 let sp:ap0 cy0 " " = xs:=QcH (ψ hx) (λ p J=>aY9 d q (h.mem p J) q.free) c^Æ c ne
 let len:∀{ws:č},IQ x ws (rk<=600)->⇑(lj 32 ws)<=⇑ws * 601:=λ{ws}=>by
  induction ws with
  |nil=>intro _;show Fm
  |cons x r j =>
   intro q;let a:=q x ž;rw[Xt]at a;cases r with
   |nil=>exact hF AL<=_;rw[A9];simp;lia
   |cons y r=>have:=j λ z hz=>q z^ſ hz;exact hF (AL++32::lj 32 (y::r))<=_;rw[Am,A9,A9,Nat.succ_mul];lia
 let u:=len (ws:=xs) λ x hx=>aY9 d p (h.mem x hx) p.len
 let v:=h.len;let C:ŧ * 601<=8 * 601:=bb À;ext Zo;rw[aH1,Qe (Y:jr pS (Õ cy0) hp1>((),hp1)),dj3 (Y:eC (Õ " ") env hp1>(Õ " ", hp1))];exact(QE _ >>= _) hp1=_;rw[Ea^â (0<⇑(đ " ")/\Ĉ (hF cy0+2)/\Ĉ^hF^ap0 cy0 " ") #[Á,?_,?_]]
 .rw[Qe (Y:QE true hp1>((),hp1)),sp];rfl
 .rw[Xt,c]
  show av9 (ī<|hF^lj 32 xs+2<=5000)
 .rw[sp]
  show av9 (ī<|ŧ<=8)
#where
abbrev Zs:=da7
def zK(z:Zs):Ĥ:=z.map ţ
def zE(z:Zs):f8:=z.map λ p=>(ë ix,Í p.2)
def eO(z:Zs):ä:=z.Pairwise λ p q=>ix<FO
def t_(z:Zs)(k:Int):Zs:=aB5 p^Af ix k
def tQ(z:Zs)(k:Int):Zs:=aB5 p^Af k ix
def oW(z:Zs)(k:Int)(n:Zs):Zs:=t_ z k++n++tQ z k
def eO.keys(h:eO z):(aU1).Pairwise eA:=List.pairwise_map.mpr h
def SS{z:Zs}{k:Int}{p:Int × Int}(h:p∈t_ z k):p∈z/\ix<k:=by have:=Bm.mp h;show#[this.1,Ë this.2]
def Qmy{z:Zs}{k:Int}{p:Int × Int}(h:p∈tQ z k):p∈z/\k<ix:=by have:=Bm.mp h;show#[this.1,Ë this.2]
def Qct(h:eO z)(k:Int)(hn:eO n)(e:∀p∈n,ix=k):eO^oW z k n:=by
 apply cZ9 #[cZ9 #[Ma h,hn,mo a ha b c],Ma h,mo a ha b c]
 .have:=(SS ha).2;have:=e b c;lia
 .let q:=(Qmy c).2;obtain w|w:=CB ha
  .have:=(SS w).2;lia
  .have:=e a w;lia
def QdM(z:Zs)(k:Int):(aB5 p cA0).Perm<|t_ z k++tQ z k:=by
 let e:=List.filter_append_perm (λ p:Int × Int=>Af ix k)^aB5 p cA0;rw[List.filter_filter,List.filter_filter]at e;let a:aB5 p (Af ix k&&cA0)=t_ z k:=List.filter_congr λ p _=>by rw[<- Bool.decide_and,decide_eq_decide];lia
 let b:aB5 p (hV (Af ix k)&&cA0)=tQ z k:=List.filter_congr λ p _=>by rw[<- decide_not,<- Bool.decide_and,decide_eq_decide];lia
 rw[a,b]at e;show e.symm
def Dz(kvs:f8)(z:Zs):ä:=kvs.Perm^zE z
def Dz.len{kvs:f8}{z:Zs}(d:da0 z):gi=bX0:=mm d.length_eq zE
def Dz.nodup{kvs:f8}(d:da0 z)(h:eO z):(dq8).Nodup:=by apply(d.map ţ).nodup_iff.mpr ?_;ext zE;rw[List.map_map];apply List.pairwise_map.mpr^h.imp^Ż q e;have:=cn8 e;lia
def Dz.drop(d:da0 z)(k:Int):Dz bH1^oW z k []:=by
 let e:AF (zE z) (λ a=>ap5 a.1 (nX k:Key))=zE^aB5 p cA0:=by ext zE;rw[List.filter_map];congr 1;refine List.filter_congr;intro p _;exact ap5 (nX ix:Key)^nX k=cA0;rw[decide_eq_decide];show#[λ h q=>h^Ϻ q,λ h q=>h^cn8 q]
 let p:=(List.Perm.filter (λ a:Key × DV=>ap5 a.1 (nX k:Key)) d);rw[e]at p;ext Dz Yc oW;rw[Bs];show p.trans (mr (QdM z k) _)
def Qhb:∀{kvs:f8},(dq8).Nodup->(aE7 k d).Perm ((k,d)::bz1 k):=by
 intro kvs h;ext XL;by_cases q:(Ĭ^bW5 c c.1 k)
 .rw[C8 q]
  induction kvs with
  |nil=>simp at q
  |cons p r j =>
   let(h1,h2):=Cp.mp h;by_cases e:ix=k
   .let i:∀x∈r,x.1≠k:=λ x hx y=>h1 (by exact ix∈_;rw[e,<- y];show List.mem_map_of_mem hx)
    let a:r.map^cI1 c c.1 k (c.1,d) c=r:=by
     conv=>rhs;rw[<- List.map_id r]
     show bM3 (λ x hx=>ö^C7^i x hx)
    let b:Yc (p::r) k=r:=by ext Yc;rw[al3 e,Co];intro x hx;simpa using i x hx
    rw[Ba,PM,a,b,e]
   .let o:Ĭ^r.any λ c=>FC c.1 k:=bl4 e q
    let b:Yc (p::r) k=p::Yc r k:=hp Yc^IV aP7
    rw[Ba,EF,b];show à ((j h2 o).cons p) (List.Perm.swap _ _ _)
 .rw[C7 q]
  let b:bz1 k=kvs:=by ext Yc;rw[Co];intro x hx;have:¬ x.1=k:=λ e=>q^bc2 #[x,hx,aP7];simpa using this
  rw[b];show List.perm_append_singleton _ _
def Dz.put(d:da0 z)(h:eO z)(k w:Int):Dz (aE7 q7 ↥w)^oW z k [(k,w)]:=by apply ϔ^Qhb^d.nodup h;let e:=(d.drop k).cons ((nX k:Key),eD w);apply cK1;ext oW zE;rw[Bs];rw[A7];show(List.perm_middle (a:=(k,w)) (l₁:=t_ z k) (l₂:=tQ z k)).symm.map (λ p=>((nX ix:Key),eD p.2))
def Qk5:∀{kvs:f8},(dq8).Nodup->(k,d)∈kvs->aY4>d:=by
 intro c;induction c with
 |nil=>intro _ h;cases h
 |cons p r a =>
  intro hn h;let(h1,h2):=Cp.mp hn;rw[XG];obtain e|e:=ny h
  .rw[<- e,pv]
  .rw[C7,a h2 e]
   intro q;show h1 (fh (ix∈_) q (bd6 ţ e))
def Dz.val(d:da0 z)(h:eO z){k w:Int}(a:(k,w)∈z):bD1>↥w :=
 Qk5 (d.nodup h)^d.mem_iff.mpr^bd6 (λ p:Int × Int=>((nX ix:Key),eD p.2)) a
def kI:Key->Int
 |.inl i=>i
 |.inr _=>0
def QgE:∀{kvs:f8},IQ p kvs (∃i,ix=ë i)->bz2>(FU^λ p=>kI ix):=by
 intro c;induction c with
 |nil=>intro _;show Y
 |cons j r a=>let(k,d):=j;intro h;let(i,e):=h (k,d) (List.mem_cons_self ..);cases e;exact mr (Ur r) (i :: ·)=_;rw[a λ p J=>bU1 p J];rfl
def Dz.keys(d:da0 z)(h:eO z):∃ns,bz2>ns/\bb6=aU1:=by
 apply#[_,QgE (Ż p J),(uu ?_^h.keys.imp λ q=>bb8 q).symm]
 .let(q,_,Y):=bK8 (d.mem_iff.mp J);show mi FO
 .let e:=(d.map λ p=>kI ix).symm;let a:LL (zE z) p^kI ix=aU1:=by ext zE zK;rw[List.map_map];rfl
  rwa [a]at e
def Si{n:V}{J:Hs}{k:Int}(h:YP>AA)(hd:bD1>d):dv2 ↑n k>(d,J):=by exact(LG >>= _) J=_;rw[aP9];exact(j8 ↥k >>= λ k=>VM aY4) J=_;rw[P9<|j8 ↥k=ï q7,Ed,hd];rfl
def Qqt{n:V}{J:Hs}{k:Int}{f g:aD}(hn:YP>AA)(hf:i0>(NO,J))(a:bH0>(Ll,J))(hd:bD1>d):Zo ie Dl f (Ç g) env J>(d,fS n (tF bH1)):=by
 ext Zo;rw[aH1];let e:jr ie ↑n J>((),J):=ĸ ((LG >>= _) J=_) cd4
 rw[Qe e,Qe^Qbw a Y];exact(LG >>= _) J=_;rw[cd4];exact(j8 ↥k >>= _) J=_;rw[P9<|j8 ↥k=ï q7,Ed,hd];rfl
def Qsp(k w:Int):eO [(k,w)]:=cM6 _
structure Tb(kvs:f8)(z:Zs)(F:Eo):ä where
 d:da0 z
 rise:eO z
 fn:∀k v,cI9>v↔(k,v)∈z
def BA{k:Int}{p:Int × Int}:p∈oW z k n↔(ix≠k/\p∈z)∨p∈n:=by
 ext oW t_ tQ;rw[Ah,Ah,Bm,Bm];simp only[decide_eq_true_eq];constructor
 .rintro((⟨a,b⟩|a)|⟨a,b⟩)
  .show ë #[À,a]
  .show ċ a
  .show ë #[À,a]
 .rintro(⟨a,b⟩|a)
  .obtain c|c:=(À:ix<k∨k<ix)
   .show ë (ë #[b,c])
   .show cQ4 b c
  .show ë (ċ a)
variable{kvs:f8}{z:Zs}{F:Eo}
def Tb.put(t:bh0)(k x:Int):Tb (aE7 q7 cY0) (oW z k [(k,x)])^TR.oJ F k x:=by
 apply#[t.d.put t.rise k x,Qct t.rise k (Qsp k x) (λ p J=>Ϻ^aL6 J),Ż j v];rw[BA];ext TR.oJ;by_cases e:j=k
 .rw[PM];subst e;simp only[Option.some.injEq,ne_eq,not_true_eq_false,false_and,false_or,Aq,Prod.mk.injEq,true_and];show eq_comm
 .rw[EF,t.fn];simp[e]
def Tb.cut(t:bh0)(k:Int):Tb bH1 (oW z k [])^TR.uB F k:=by
 apply#[t.d.drop k,Qct t.rise k List.Pairwise.nil (az7 p J J),Ż j v];rw[BA];ext TR.uB;by_cases e:j=k
 .rw[PM];subst e;simp
 .rw[EF,t.fn];simp[e]
def Tb.val(t:bh0)(k:Int):bD1=mw cI9:=by
 cases e:cI9 with
 |some v=>show t.d.val t.rise ((t.fn k v).mp e)
 |none =>
  cases hv:bD1 with
  |none=>rfl
  |some d =>
   exfalso;unfold ZT at hv;let(a,h1,h2):=ba9 hv;let m:=bG4;let q:a.1=(nX k:Key):=by have:=List.find?_some h1;show Eb this
   let c:=(List.Perm.mem_iff t.d).mp m;let(p,J,Y):=bK8 c;let q:(nX ix:Key)=nX k:=q;injection q with q;subst q;have:=(t.fn ix p.2).mpr J;rw[e]at this;cases this
#where
def QbB{t:DV->OB}{f:bS}(z:Zs)(p:wP<|Int × Int)(o:∀q∈z,t ↥FO J>(p q,J))(hf:∀q∈z,f ↥FO J>(õ [Í FO,Í q.2],J))(hl:bX0<Ĺ):Je (cJ aV7) t f Ĺ 0 J>(aU^z.filter p,J):=by
 let v:⇑(bP6 aU1)=bX0:=Ğ zK
 let j:∀i,Ů^bP6 aU1=mr (Ů z) (λ q:Int × Int=>eD FO):=λ i=>fT zK List.map_map Bt
 suffices h:∀(m i n:V),m+i=bX0->m<n->Je (cJ aV7) t f n i J>(aU^AF (z.drop i) p,J)by simpa using h bX0 0 Ĺ Y hl
 intro m;induction m with
 |zero =>
  intro i n e c;obtain⟨n,Y⟩:∃k,n=k+1:=#[n-1,À];have:i=bX0:=À
  subst this;let e1:=YI aV7 bX0 À J;rw[j,bp8 z[bX0]?]at e1;rw[Je,L9,Cw];rfl
 |succ m u =>
  intro i n e c;obtain⟨n,Y⟩:∃k,n=k+1:=#[n-1,À];let a:i<bX0:=À
  let e1:=YI aV7 i À J;rw[j,bs8]at e1;let r:=u (i+1) n À À;rw[Je,L9];exact(t (cb3 z[i]) >>= _) J=_;rw[Qe^o _ bz5,Bh a,Ar];cases hp':p z[i]with
  |false=>rw[av7];show r
  |true=>rw[pv,pv];exact(f (cb3 z[i]) >>= _) J=_;rw[Qe^hf _ bz5,Qe r];rfl
def Qpj{z:Zs}{F:Eo}(t:bh0){a e:Int}{ps:Ei}(R:TR.nH F a e ps):aB5 q (A6 a FO&&Af FO e)=ps:=by apply TR.UL (Ma t.rise) R.1^N1 x;rw[Bm];have:=R.2 x.1 x.2;rw[P9<|(x.1,x.2)=x]at this;rw[this,t.fn];simp
def QcF{z:Zs}(d:da0 z)(h:eO z)(hz:bX0<64){f:aD}{n:V}{J:Hs}(hf:i0>(NO,J))(hn:YP>AA):wV KR f env J>(Ù aV7,J):=by
 let(ns,e1,c):=d.keys h;let ln:sj=bX0:=by have:=ay9 c;rw[(ur ns).length_eq]at this;rw[this];ext zK;rw[Br]
 let a:cL8 f Qk J>([NO],J):=Qbw hf Y;ext QN;rw[Qe a];exact(Ob ↑n >>= λ ns=>ag (sj<64) >>= λ_=>af2 dc0) J=_;let b:Ob ↑n J>(ns,J):=sf ((LG >>= _) J=_) hn (rZ bz2 J=_) e1
 let e:QE (Af sj 64) J>((),J):=ö ar3
 rw[Qe b,Qe e,c];rfl
def G0{o g e:aD}{J hp1:Hs}{a:V}(u:cC5>(Χ,hp1))(h:hp1[a]?>AA)(j:bu6>(y,hp1))(r:j8 y=ï k)(i:aS8 hp1>(d,hp1)):Zo ie Yp o (á g e) env J>(r8 aY4 d,hp1):=by
 ext Zo;rw[Qe u];let c:jr ie Ű hp1>((),hp1):=ĸ ((cL4 >>= _) hp1=_) aP9
 rw[aP2,Qe^ZP j i];exact(cL4 >>= _) hp1=_;rw[aP9];exact(j8 y >>= _) hp1=_;rw[r,Ed];rfl
def Qit{o g:aD}{J:Hs}{a:V}{j:Int}(i:cC5>(Χ,J))(h:J[a]?>AA)(e:bH0>(bN3,J)):Zo ie Yp o (Ç g) env J>(r8 (l4^ë j) Ě,J):=by
 ext Zo;rw[Qe i];let c:jr ie Ű J>((),J):=ĸ ((cL4 >>= _) J=_) aP9
 rw[aP2,dj3 e];exact(cL4 >>= _) J=_;rw[aP9];rfl
def QgW:∀{l m:Ĥ},l.Nodup->IQ x l (x∈m)->⇑l<=⇑m:=by
 intro j;induction j with
 |nil=>intro m _ _;show Fm
 |cons x l i =>
  intro m h a;let(h1,h2):=Cp.mp h;let hx:=a x Ê;have:=i h2 λ y c=>by let ne:y≠x:=λ e=>h1<|e▸c;show(bL0).mpr (a y^bU0 c)
  rw[bL1]at this;have:=NM hx;rw[A9];lia
def Qq5{ds:ϻ}{s:TR.St}{F:Eo}{M:V->Ć}(N:TR.Nm ds s bg F M){z:Zs}(t:bh0):bX0<=ê:=by
 have:=QgW (l:=aU1) (m:=pc TR.Nq) (t.rise.keys.imp λ h=>Int.ne_of_lt h) λ k a=>by let(q,hq,Y):=bK8 a;let(d,h1,h2):=N.ky FO q.2 ((t.fn FO q.2).mpr hq);rw[<- h2];show List.mem_map_of_mem h1
 simpa [zK]using this
def QrT{w:Hs}{k:Int}{b:V}(h:w[b]?>AA):pG ↥k ↑b w>(ŏ^p9 bD1,w):=by
 let e:tZ ↥k ↑b w>(p9 bD1,w):=ĸ ((Zv b >>= _) w=_) aP9
 ext pG;rw[Qe e];rfl
def QlG(i:Int):ct9≠[45]:=by
 cases i with
 |ofNat n=>intro h;have:=zp n 45 (by rw[<- GU,P9<|txt iq=txt^Int.ofNat n,h];show ž);lia
 |negSucc n=>intro h;rw[MZ]at h;show U5 _ (List.cons.inj h).2
def uC(i:Int):af7 aC "-":=ad^λ h=>QlG i^ö h
def Md{c d:V}:∀{ws:č}{x:Str},x∈ws->d∈AL->d∈lj c ws
 | [],_,h,_=>ď h
 | [x],y,h,e=>Ex (aL6 h) e e
 |x::z::r,y,h,e=>by
  obtain Y|h:=ny h
  .show A0 _ e
  .show Ai _ (ſ^Md h e)
def Ho{ps:Ei}(h:ps≠[]):cl oQ=lj 44^bW4 q FO q.2:=hJ pT (C7^Ë h)^à (du cl _ _)^qu 44 _
def QmT{ps:Ei}(h:ps≠[]):af7 oQ "-":=beq_eq_false_iff_ne.mpr λ e=>by
 let(q,r,Y):=cF2 h;let m:58∈cl^pT (q::r):=by rw[Ho h];apply Md (bd6 (λ q:Int × Int=>pt FO q.2) ž) ?_;rw[Hl];show Ai _ ž
 rw[e]at m;have:58=45:=Ë^â (58∈[45]) m
 lia
def QnW{i j:Int}(hi:aO i)(c:aO j)(h:aC=txt j):i=j:=by let a:=(TQ.of hi).k.hi;rw[h,(TQ.of c).k.hi]at a;show an9 a
def QnV{i:Int}(hi:aO i):aC ≠ Ϙ := λ h=>İ^(TQ.of hi).f 101^Æ h ž
def HG{i j:V}(hi:i<=ej)(a:j<=ej)(h:i≠j):(ċ aC:Key)≠ċ^txt j:=λ e=>h^İ^QnW (YS hi Ĕ) (YS a Ĕ)^Sum.inr.inj e
def Rr{i:V}(hi:i<=ej):(ċ aC:Key)≠cc9 := λ e=>QnV (YS hi Ĕ)^Sum.inr.inj e
def Mn{c:V}:∀{a b:č},a≠[]->b≠[]->lj c (a++b)=lj c a++c::lj c b
 | [],_,h,_=>cu8 h
 | [x],[],_,h=>cu8 h
 | [x],y::r,_,_=>Y
 |x::y::r,b,_,e=>by have:=Mn (c:=c) (a:=y::r) (b:=b) Ê e;exact AL++c::lj c (y::r++b)=(AL++c::lj c (y::r))++c::lj c b;rw[this,A7];rfl
def SW:∀(cI:Â Ei),IQ ps cI (ps≠[])->lj 44 as5=lj 44 (cI.flatten.map λ q=>pt FO q.2)
 | [],_=>Y
 | [ps],h=>by rw[List.flatten_cons,List.flatten_nil,Bs];show Ho (h ps ž)
 |ps::a::r,h=>by
  let c:=SW (a::r) λ x hx=>h x^ſ hx;rw[List.flatten_cons,List.map_append,Mn (Ë^h ps ž) (by intro z;have:=List.map_eq_nil_iff.mp z;rw[List.flatten_cons]at this;show h a ϡ (Pm this)),<- c,<- Ho^h ps ž]
  rfl
def vC:IN->Str
 |none => "-"
 |some l=>CL "," l
structure lQ(g:IN)(u:TR.Wk):ä where
 far:Ĭ u.O2.far->∃cI:Â Ei,IQ ps cI (ps≠[])/\u.pairs=cI.flatten/\g=bq8 cI [] as5
 one:ÿ u.O2.far->0<u.O6∨bO3->g>[jv u.O3]
def lQ.join{g:IN}{u:TR.Wk}(h:lQ g u)(a:bO3):vC g=sH u:=by
 ext sH;cases hf:u.O2.far with
 |true =>
  rw[pv];let(cI,h1,h2,h3):=h.far hf;rw[h3,h2];by_cases e:cI=[]
  .rw[PM,e];rfl
  .rw[EF]
   apply Ih ?_;let(ps,r,Y):=cF2 e;rw[Ho^Æ List.flatten_cons^λ z=>h1 ps ž^Pm z,<- SW _ h1];show à (du cl _ _) (qu 44 _)
 |false=>rw[av7,h.one hf^ċ a];apply Ih ?_;show à (du cl (đ^l6 44) _) (qu 44 [jv u.O3])
def Vk(G:V->IN)(n:V)(l:č):V->IN:=λ m=>Dt m n l^G m
def sE(G:V->IN):TR.Out->V->IN
 |.did n (.found _ x)=>Vk G n [jv x]
 |.did n (.put _ x _)=>Vk G n [jv x]
 |.did n (.cut _ x)=>Vk G n [jv x]
 |.did n (.read _ ps _)=>cv1 G<|Vk G n<|bD4++[oQ]
 |_=>G
def Py{G:V->IN}{n m:V}(h:m≠n)(r:TR.Row):sE G bi9 m=G m:=by
 cases r with
 |found _ x=>show df3
 |put _ x _=>show df3
 |cut _ x=>show df3
 |read _ ps _ =>
  exact(if Ĭ ps.isEmpty then G else Vk G n (bD4++[oQ])) m=_;split
  .rfl
  .show df3
 |_=>rfl
def lQ.step{G:V->IN}{n:V}{v v':TR.Wk}{r:TR.Row}{F F':Eo}(h:lQ bb3 v)(I:af4)(hd:v'.O2=v.O2)(D:TR.Did F F' v v' r):lQ (sE G bi9 n) v':=by
 let C:∀l,Vk G n l n>l:=λ l=>pv;let one:∀{x:Ć},ÿ v.O2.far->v'.O3=x->lQ (Vk G n [jv x] n) v':=λ{x} hf E=>#[OX z hd hf z z,f6 (Ϗ C E)];let far:v'.pairs=v.pairs->Ĭ v'.O2.far->∃cI:Â Ei,IQ ps cI (ps≠[])/\v'.pairs=cI.flatten/\bb3=bq8 cI [] as5:=λ e z=>Æ e^h.far^ì hd z
 cases r with
 |non=>show D.elim
 |side a b=>let(_,c,i,j,o,_):=D;show#[far i,λ z q=>by rw[j,o]at q;rw[c];show h.one (ì hd z) (q.imp id^bv0 z z)]
 |down a b=>let(_,c,i,j,o,_):=D;show#[far i,λ z q=>by rw[j,o]at q;rw[c];show h.one (ì hd z) (q.imp id^bv0 z z)]
 |told a b=>let(d1,_,c,i,_):=D;show#[far i,λ z _=>Æ c^h.one (ì hd z)^ë d1]
 |raised a b=>let(d1,_,c,i,_):=D;show#[far i,λ z _=>Æ c^h.one (ì hd z)^ë d1]
 |found a x=>let(k,d1,c,_,j,_):=D;show one dn6 bn2
 |put a x b=>let(k,y,d1,c,_,j,_):=D;show one dn6 bn2
 |cut a x=>let(k,d1,c,_,j,_):=D;show one dn6 bn2
 |read a ps t =>
  let(l,hh,d1,_,i,j,_):=D;let u:Ĭ v.O2.far:=dn6
  let nf:∀{P:ä},ÿ v'.O2.far->P:=OX z hd u z z
  let(cI,h1,h2,h3):=h.far u;apply#[dg7,nf];exact ∃cI,_/\_/\(if Ĭ ps.isEmpty then G else Vk G n (bD4++[oQ])) n=_;by_cases e:ps=[]
  .subst e
   show#[cI,h1,i3 i Bs h2,h3]
  .apply#[cI++[ps],aQ5,?_,?_]
   .obtain z|z:=cx8
    .show h1 x z
    .rw[aL6 z];show e
   .rw[i,h2,List.flatten_append];simp
   .rw[C7 aP7,C,av7,List.map_append,h3]
    by_cases q:cI=[]
    .rw[C8 q,q];rfl
    .rw[C7 q];rfl
structure Tl(t:TR.St)(P:cU2)(G:V->IN):ä where
 nw:∀n,t.tk<=n->ų bb3
 ac:cm1 i u<|NB>u->FK->lQ (G dc4) u
 dn:∀x∈P,x.1<t.tk/\Ĭ x.2.O7/\lQ (G x.1) x.2/\cm1 i u (NB>u->FK->dc4≠x.1)
 cv:∀n,n<t.tk->(∃i u,NB>u/\FK/\dc4=n)∨∃x∈P,x.1=n
 ct:ci7+dm1=t.tk
variable{ds:ϻ}{t t':TR.St}{bg:TR.Bg}{F F':Eo}{M:V->Ć}{P:cU2}{G:V->IN}{i:V}{o:TR.Out}
def Tl.mv(T:Tl t P G)(N:TR.Nm ds t bg F M)(hl:⇑t.ns=ag5)(hi:i<ag5)(Y2:bt4 t i>(o,t'))(hd:∀v,NB>v->af4->∃r v',o=bi7 dc4 r/\t'=ĝ t S t'.S ws^F8 v'/\v'.O2=v.O2/\TR.Did F F' v v' r):Tl t' (P++TR.mW t t' i)^sE G o:=by
 let E:=bY6;generalize t.ws[i]=v at E;cases C:v.O7 with
 |true =>
  rw[TR.jo E C,Bs];unfold TR.mv at Y2;rw[E]at Y2;dsimp only at Y2;rw[C8 C]at Y2;cases hx:ds[t.tk]? with
  |none=>rw[hx]at Y2;cases Y2;show T
  |some d =>
   rw[hx]at Y2;cases Y2;let R:∀j,(bS1).getD j 0=pH j i t.tk^sX j:=λ j=>TR.vh À
   let old:bH3 j u TR.Wk<|Iq t.ws>u->FK->j≠i:=λ h1 h2 e=>by rw[e,E]at h1;cases h1;rw[C]at h2;cases h2
   apply#[λ n hn=>T.nw n (by let hn:t.tk+1<=n:=hn;lia),mo j u y z,aQ5,Ż n hn,?_]
   .exact lQ (G^(bS1).getD j 0) u
    rw[R];obtain⟨Y,e,_⟩|⟨ne,y⟩:=TR.Q4 y
    .rw[pv,e,T.nw _ Ĕ]
     show#[λ_=>#[[],FF (ď h),Y,Y],λ_ q=>by
      obtain q|q:=q
      .show Ė q (Cq 0)
      .cases q]
    .rw[aZ3];show T.ac j u y z
   .let(a,b,c,d'):=T.dn x hx
    apply#[Nat.lt_succ_of_lt a,b,c,mo j u y z];exact(bS1).getD j 0≠x.1;rw[R];obtain⟨Y,e,_⟩|⟨ne,y⟩:=TR.Q4 y
    .rw[pv];lia
    .rw[aZ3];show d' j u y z
   .let hn:n<t.tk+1:=hn
    by_cases e:n=t.tk
    .apply ë #[i,tf,dg2,Y,?_]
     exact(bS1).getD i 0=n;rw[R,pv,e]
    .obtain⟨j,u,a,b,c⟩|h:=T.cv n À
     .let ne:=old a b
      apply ë #[j,u,à (iO ne) a,b,?_];exact(bS1).getD j 0=n;rw[R,aZ3];show c
     .show ċ h
   .have:=Il (v':=tf) E
    rw[C7^Ğ C,C8 ř]at this;let ct:=T.ct;exact ci7+TR.lc^F8 tf=t.tk+1;lia
 |false =>
  let(r,v',Y,et,dd,D):=hd v E C;let w':t'.ws=F8 v':=Ϻ et
  let n':t'.ns=t.ns:=Ϻ et
  let U:t'.tk=t.tk:=Ϻ et
  let g':cv6>v':=Æ w' dg2
  rw[TR.x9 E C g'];let lt:=(N.lv i v E C).2.2.1;generalize hn:dc4=n at lt;let RL:lQ (sE G bi9 n) v':=lQ.step (ì hn^T.ac i v E C) C dd D;let O:bH3 j u TR.Wk<|Iq t'.ws>u->FK->(j=i/\u=v')∨(Iq t.ws>u/\sX j≠n):=λ{j u} y z=>by
   rw[w']at y;obtain⟨e,e2,_⟩|⟨ne,y⟩:=TR.Q4 y
   .show ë #[e,e2]
   .show cQ4 y (ì hn^N.un j i u v ne y z E C)
  let L:=Il (v':=v') E;rw[C8 C]at L;let new:∀x∈Ř v'.O7 [(n,v')] [],x=(n,v')/\Ĭ v'.O7:=λ x hx=>by
   by_cases e:(Ĭ v'.O7)
   .rw[PM]at hx;show#[aL6 hx,e]
   .rw[EF]at hx;cases hx
  apply#[Ż m I,mo j u y z,aQ5,Ż m I,?_]
  .rw[U]at I
   rw[Py À];show T.nw m I
  .rw[n']
   obtain⟨Y,Y⟩|⟨h1,h2⟩:=O y z
   .rw[hn];show RL
   .rw[Py h2];show T.ac j u h1 z
  .rw[U,n']
   obtain hx|hx:=cx8
   .let(a,b,c,d'):=T.dn x hx
    let ne:x.1≠n:=λ e=>d' i v E C^Ϗ hn e;apply#[a,b,Æ (Py ne) c,mo j u y z];obtain⟨Y,Y⟩|⟨h1,h2⟩:=O y z
    .rw[hn];show Ņ ne
    .show d' j u h1 z
   .let(Y,e):=new x hx
    apply#[lt,e,RL,mo j u y z];obtain⟨Y,Y⟩|⟨h1,h2⟩:=O y z
    .rw[e]at z;cases z
    .show h2
  .rw[U]at I
   obtain⟨j,u,a,b,c⟩|⟨x,h1,h2⟩:=T.cv m I
   .by_cases e:j=i
    .subst e
     rw[hn]at c;cases Q:v'.O7 with
     |true=>show ċ #[(n,v'),Ai _ (Æ pv ž),c]
     |false=>show ë #[j,v',g',Q,i3 n' hn c]
    .show ë #[j,u,Æ w' (à (iO e) a),b,Æ n' c]
   .show ċ #[x,A0 _ h1,h2]
  .let ct:=T.ct
   rw[U,w',Am];cases Q:v'.O7 with
   |true=>rw[Q,av7]at L;rw[pv,List.length_singleton];lia
   |false=>rw[Q,pv]at L;rw[av7,List.length_nil];lia
def Tl.idle(T:Tl t P G)(Y0:t.tk<=ê):bi5=FC ci7 ê:=by
 let ct:=T.ct;ext TR.still;let a:t.ws.all (·.O7)=FC dm1 0:=by
  ext TR.lc;generalize t.ws=ws;induction ws with
  |nil=>rfl
  |cons w r c=>rw[Cy,c,Ar];ext TR.lf;cases w.O7<;>simp
 rw[a,<- Bool.decide_and,decide_eq_decide];lia
def QgJ(n:V):∀(P:cU2)(acc:bd8),(∃x∈P,x.1=n)->∃u,yq n acc P>u/\(n,u)∈P:=by
 intro v;induction v with
 |nil=>intro _ h;let(x,h,_):=h;cases h
 |cons y r c =>
  intro acc h;exact ∃u,yq n (Dt y.1 n y.2 acc) r>u/\_;by_cases e:∃x∈r,x.1=n
  .let(u,h1,h2):=c (Dt y.1 n y.2 acc) e
   show#[u,h1,ſ h2]
  .let(x,hx,hn):=h
   obtain Y|hx:=ny hx
   .rw[C8 hn]
    apply#[x.2,?_,ì hn ž];have:∀(r:cU2)(a:bd8),(¬ ∃x∈r,x.1=n)->yq n a r=a:=λ r=>by
     induction r with
     |nil=>intro a _;rfl
     |cons z r j=>intro a q;exact yq n (Dt z.1 n z.2 a) r=a;rw[C7 λ e=>q #[z,ž,e]];show j a λ#[x,h1,h2]=>q #[x,ſ h1,h2]
    show this r _ e
   .show Ė #[x,hx,hn] e
def Tl.answer(T:Tl t P G)(j:Ĭ bi5){n:V}(hn:n<ê):T5^yq n none P=vC bb3:=by
 let(h1,h2):=TR.qK j;obtain⟨i,u,a,b,_⟩|h:=T.cv n À
 .rw[h2 i u a]at b;cases b
 .let(u,e,m):=QgJ n P none h;rw[e];let(_,c,d,_):=T.dn _ m;show(d.join c).symm
#where
def fL(l:č):DV:=Ù dk8
def Av(a:f8)(M:V->Ć):ä:=∀n:V,n<=ej->ZT a aN6=mw^M n
structure Bk(w:Hs)(ds:ϻ)(F:Eo)(M:V->Ć)(G:V->IN)(q c:V):ä where
 h7:OM w 7 aW0
 h8:∃kvs z,w[8]?>AA/\bh0
 h9:∃av,w[9]?>(tF av)/\Av av M/\av.length<=c
 hX:∃td es,w[10]?>(tF td)/\td.length<=c/\ZT td cc9>(fL es)/\cI3=q/\∀n:V,n<=ej->ZT td aN6=mr bb3 fL
structure Kp(w w':Hs):ä where
 len:⇑w'=ĳ
 old:∀x,x<7∨10<x->w'[x]?=w[x]?
def Kp.refl{w:Hs}:Kp w w:=#[Y,an5]
def Kp.trans{w c e:Hs}(a:Kp w c)(b:Kp c e):Kp w e:=#[b.len.trans a.len,λ x h=>à (b.old x h)^a.old x h]
def Kp.set{w:Hs}{n:V}(h:7<=n/\n<=10)(x:OV):Kp w^cO5 n x:=#[List.length_set,λ y a=>Zn _ _ _ _ À]
def Qhc{kvs:f8}(h:aY4>d):⇑(aE7 k d')=gi:=by unfold ZT at h;let(a,h1,_):=ba9 h;ext XL;rw[C8^bc2 #[a,bG4,List.find?_some h1],Br]
def eF(X:DV)(z5:Sl):En:=[! X,rq 7,rq 8,rq 9,rq 10,z5]
abbrev wL(xs:č):DV:=Ù bQ2
def X9:∀x∈([dQ, CH, iX, "-", d6, ed, Š, iW, F7, "yes"]:č),ĭ x:=È
def Oj{xs:Þ}{i:V}(h:bC3>d)(J:Hs):aB bN5 bs5 J>(d,J):=by exact bH bN5 bs5 J=_;simp only[bH,jR h];rfl
def tY{x y:Str}(J:Hs)(h1:ĭ x)(h2:ĭ y){b:Bool}(h:(x==y)=hV b):cW Ϭ bd9 J>(FH,J):=by
 ext cW;let e:Ue Ϭ bd9 J>(x==y,J):=ö^Uf (Gu 39 J x) (Gu 39 J y) (zB h1)^zB h2
 rw[Qe e];exact í (aN1<|hV<|x==y,J)=_;rw[h,Bool.not_not]
variable{w:Hs}{E:En}{xs:č}{x x0:Str}{ds:ϻ}{F:Eo}{M:V->Ć}{G:V->IN}{q c i n:V}
def J3(j:V)(h0:E[0]?>(Ü ώ))(h:cS7>x):AK Å (ġ bt9) E w>(Ϭ,w):=io (ak h0)^Oj (Ũ Bt h) w
def Rj{e:aD}(a:e E w>(d,w)):JH (Ç e) E w>(Ù [d],w):=fN JH^QL a
def HI{e:aD}{i:Int}(a:e E w>(Õ aC,w))(h:aO i):wV vz e E w>(ft,w):=by apply oC a ?_;exact(ag (⇑aC<=640) >>= _) w=_;rw[Ea^av9^ay1 h];rw[Qe (Y:QE true w>((),w)),(TQ.of h).k.hi];rfl
def inW(h:aQ x):pG Ϭ (õ [Õ d6, Õ ed, Õ TB]) w>(ŏ<|x == d6 || (x == ed || x == TB),w):=aJ6 aQ Bj Cc h h
def Wh(h:aQ x):Gd Ϭ (õ [Õ d6, Õ dQ, Õ ed, Õ iX]) w>(be9<|x == d6 || (x == dQ || (x == ed || x == iX)),w):=aJ6 aQ Bj Cc h h
def FJ(x0:Str)(xs:č):Ï Bool:=Ř (aZ0 dQ) (mr (cI5 5) (cP0))^Ř (aZ0 CH) (mr (cI5 4) (cP0))^Ř (aZ0 iX) (mr (cI5 6) (cP0))^í^cX9 d6^cX9 ed^aZ0 TB
def QiJ{b:Bool}(h0:cI5 0>x0)(v:aQ x0)(C:∀x∈xs,iC x)(o:FJ x0 xs>b):YY [ώ] w>(FH,w):=by
 have E:En:=[! ώ]
 let a:∀(y:Str)(b:Bool),ĭ y->aZ0 y=b->eB (ly mM y) E w>(b,w):=λ y b h1 h2=>aN9 0 Y h0 Y^iu w v.asc.ok h1 h2;let r:bT j b Bool<|mr cS7 (cP0)>b->Qg aV (Ş bt9) ad6 E w>(FH,w):=λ j b h=>br9 y z e (ba9 h)^io (J3 j Y z)^iu w (C y^Aw z).ok aq3 e
 unfold FJ at o;by_cases c1:(Ĭ^aZ0 dQ)
 .rw[C8 c1]at o;show ā E (rL (a _ _ aq3 c1)^r 5 b o)
 .rw[C7 c1]at o;let k1:=QX (f:=QG (ly (Ş 5) "-"))^a dQ false aq3^Ë c1;by_cases c2:(Ĭ^aZ0 CH)
  .rw[C8 c2]at o;show bo3 E k1 (rL (a _ _ aq3 c2)^r 4 b o)
  .rw[C7 c2]at o;let k2:=QX (f:=QG (ly TZ "-"))^a CH false aq3^Ë c2;by_cases u:(Ĭ^aZ0 iX)
   .rw[C8 u]at o;show EO E k1 k2 (rL (a _ _ aq3 u)^r 6 b o)
   .rw[C7 u]at o;let k3:=QX (f:=QG (ly bV5 "-"))^a iX false aq3^Ë u;rw[<- Aj o];show EO E k1 k2 (l7 k3^io (J3 0 Y h0)^inW v)
def FN:wP TR.Row
 |.found _ _=>true
 |.cut _ _=>true
 |.raised _ _=>true
 |.put _ _ k=>k.isNone
 |.told _ k=>k.isNone
 |.read _ _ t=>t.isNone
 |_=>false
def CT:wP TR.Out
 |.did _ r=>FN r
 |_=>false
def xK:TR.Out->Str
 |.rest => F7
 |.take _ => bL6
 |.did _ r=>rW r
def De(k:cP6):(nT k==bi3)=k.isNone:=by
 cases k with
 |none=>rfl
 |some k=>show uC k
def va{o:TR.Out}(hn:∀n r,o=bi9->r≠Ě):FJ bi0^XF i o>(CT o):=by
 cases o with
 |rest=>rfl
 |take n=>rfl
 |did n r =>
  cases r with
  |non=>show cu8 (hn n _ Y)
  |put a x k=>show cf3 (De k)
  |told a k=>show cf3 (De k)
  |read a ps t =>
   cases t with
   |none=>rfl
   |some t=>show cf3 (uC t.2)
  |_=>rfl
def PN{b:Bool}(K:E9 w F M G q c)(h0:cI5 0>x0)(h2:Ĭ b->∃a,cI5 2>a)(hw:aQ x0)(U:∀x∈xs,iC x)(R:FJ x0 xs>b)(hq:q<=ej)(hc:c<99000):∃w',ci0 (cS0 YY) (N3 (bQ0 (Ķ aB ě Ϙ) IJ) ě^Ċ Ϙ) (eF ώ ń) w>(ō^eF ώ ń,w')/\E9 w' F M G (q+Ř b 1 0) c/\cO9:=by
 let e:eB (cS0 YY) (eF ώ ń) w>(b,w):=QK^cf0^QiJ h0 hw U R;let(Y2,L,O,b3):=K.h9;let(v,es,d1,P,r,u,Q):=K.hX;cases b with
 |false=>show#[w,QX e,K,.refl]
 |true =>
  let(a,o):=h2 Y
  have j:=XL v cc9<|fL<|es++[a]
  have w':Hs:=cO5 10^tF j
  let I:Qg Zm (Ķ aB ě Ϙ) (rh IJ) (eF ώ ń) w>(fL<|es++[a],w):=by
   let i1:aB ↑10 dn0 w>(fL es,w):=sf ((Zv 10 >>= _) w=_) d1 (VM (ZT v cc9) w=_) r
   let l1:JH (Ç IJ) (eF ώ ń) w>(fL [a],w):=Rj^J3 2 Y o;apply Qj (wn i1) l1 ?_;exact(ah6 (es.map PD++[ap3 a]) >>= λ_=>af2<|es.map PD++[ap3 a]) w=_;let sh:do1<|es.map PD++[ap3 a]:=Ea (by rw[Am,Br,u];show av9 (sg hq));rw[sh];ext fL;rw[List.map_append];rfl
  let e10:w'[10]?>(tF j):=fM d1;apply#[w',ZN e (yU I ?_),#[cA6,?_,#[Y2,bd0 L,O,À],#[j,es++[a],e10,?_,?_,Ğ u,Ż n hn]],.set Á _]
  .ext cL
   rw[Qe^ak (d:=ã 10) Y,Qe (Y:eC dn0 (eF ώ ń) w>(dn0, w)),Qe^yx (d:=fL (es++[a])) d1 (P9<|Ub dn0>cc9) À];rfl
  .let(kvs,z,y,C):=K.h8
   show#[kvs,z,bd0 y,C]
  .rw[Qhc r];show P
  .rw[jC,pv]
  .rw[jC,C7^Rr hn];show Q n hn
#where
abbrev S2:aN:=cR6 Gd mM (ZL^d5 (Ċ d6) (Ċ dQ) (Ċ ed) cQ3) pE
abbrev S3:aN:=QR 5^ϖ Û^ð vz IJ
abbrev S4:aN:=bo4 (ly mM iX)^ϗ (bo4 (Ķ cW TZ "-")^N3 (bQ0 (Zo ie Yp ě^á IJ aG8) TZ) ě IJ)^KC (ly bE9 Š)^Qy 4 X4^d5 Å Ń ß Ă
abbrev S5:aN:=LT (iU (i4 cW bE9^Di d6 iW Å)^i4 cW TZ^om ZY^Ζ ie Yp ß be3) AD
abbrev S6:aN:=N3 (rh TZ) ě IJ
abbrev S7:aN:=bo4 (ly mM dQ)^N3 (be2 2) ß be3
abbrev S8:aN:=cy4 (ly mM ed) (i4 pG be3 ß)^tP ie Dl ß be3
def iY:ak1 d6 iW = đ iW/\ak1 dQ iW = đ dQ/\ak1 ed iW = đ ed:=È
variable{w:Hs}{E:En}{xs ys:č}{x0:Str}{ds:ϻ}{F:Eo}{M:V->Ć}{G:V->IN}{q c i n:V}{d:TR.aG}{k:Int}
def WG{e:aD}(K:E9 w F M G q c)(h4:E[4]?>(CO 10))(h0:E[0]?>(Ü ώ))(hx:cI5 2>bd)(hn:n<=ej)(P:c<99000)(I:e E w>(fL l,w)):∃w',Yg e (cL ě IJ) E w>(bC1,w')/\E9 w' F M (Vk G n l) q (c+1)/\cO9:=by
 let(r,u,v,L):=K.h9;let(kvs,z,j,o):=K.h8;let(Y2,es,d1,O,x,y,C):=K.hX;apply#[cO5 10 (tF^XL Y2 aN6^fL l),yU I ?_,#[cA6,#[kvs,z,bd0 j,o],#[r,bd0 u,v,À],#[_,es,fM d1,Bi (Qcj _ _ _) À,?_,y,Ż m a]],.set Á _]
 .ext cL;rw[Qe^ak h4];apply ϔ^Qe^J3 2 h0 hx;rw[Qe^yx (d:=fL l) d1 (P9<|Ub^Õ bd>aN6) À];rfl
 .rw[jC,C7^Ņ^Rr hn];show x
 .rw[jC];ext Vk;by_cases e:m=n
  .rw[C8 aF0,PM];rfl
  .rw[C7^HG a hn e,EF];show C m a
def vb{r:aN}(K:E9 w F M G q c)(h0:cI5 0>x0)(e:aQ x0)(a:Ĭ^cX9 d6^cX9 dQ^cX9 ed^aZ0 iX)(hx:cI5 2>bd)(hn:n<=ej)(hd:ID ds>d):Qq S2 (Qq S3 r) (eF ώ ń) w=r cA9 w:=by let j:S2 (eF ώ ń) w>(ō^eF ώ ń,w):=QX^aN9 0 Y h0 Y^as7 (Wh e) a;let o:S3 (eF ώ ń) w>(ō cA9,w):=Qv^Qj Ã (HI (i:=n) (J3 2 Y hx)^YS hn Ĕ)^j7 K.h7^Ũ Bt hd;show Qo j (GC o)
def Qgu{r:aN}(K:E9 w F M G q c)(h0:xs=x0::ys)(u:aQ x0)(O:iN x0 iX)(J:ak1 x0 iW = Pc)(h2:cI5 2>bd)(hn:n<=ej)(h4:cI5 4>cJ0)(I:∀x,cI9>x->aO x)(L:∀w,cM5 ng 1 w>(Ll,w))(Y2:c<99000):∃w',Qq S4 (þ S5 S6 r) cA9 w=r cA9 w'/\E9 w' F M (Vk G n [cJ0]) q (c+1)/\cO9:=by
 have E:En:=cA9
 let g0:cI5 0>x0:=ö h0
 let(kvs,z,y,t):=K.h8;let Q:S4 E w>(bC1,w):=QX^aN9 0 Y g0 Y^iu w u.asc.ok aq3 O;let dk:AK Ń bn E w>(Ll,w):=nh ng Ã Y^L w;let g:=Qit (o:=ß) (env:=E) (a:=8) Ã y dk;let C:r8 bD1 Ě=opt cI9:=bG5 t.val cI9
 rw[C]at g;let po:=VO I;let P:Di d6 iW Å E w>(cu2,w):=by ext Di;rw[Qe^ak (d:=ώ) Y,h0];exact(ag (⇑x0<=1048576) >>= λ_=>ï^ap3^ak1 x0 iW) w=_;rw[Ea^av9 (uH x0 u).1,J];rfl
 let j:ĭ Pc:=(Dj _^GW d).2.1;let w0:AK Ń bG E w>(cu2,w):=by apply nh ng Ã Y ?_;rw[Gp];show R5 0 w
 let R:S5 E w>(bC1,w):=QX^bn9 (Ω w0 P^tY w j j Ê)^aN9 4 Y h4 (at7 g po.word)^tY w po.asc.ok po.asc.ok Ê;let(w',U,v,kp):=WG (E:=E) (e:=rh TZ) (l:=[cJ0]) K Y Y h2 hn Y2 (Rj^J3 4 Y h4);show#[w',Ļ Q R (GC U),v,kp]
def QiP{y:Int}(K:E9 w F M G q c)(g0:cI5 0>(đ dQ))(hz:∀kvs z,bh0->bX0<=60):∃w',Qq S7 (ϗ S8 pE) (bq0^.put k y) w>((.rt Ő,bq0 (.put k y)),w')/\E9 w' (TR.oJ F k y) M G q c/\cO9:=by
 have E:En:=bq0^.put k y
 let(kvs,z,a,t):=K.h8;let Y2:=hz kvs z t;let I:=t.d.len
 have w':Hs:=cO5 8^bu5 q7 ↥y
 let u:S7 E w>(bC1,w'):=by apply ZN (aN9 0 Y g0 Y^iu w cS5 cS5 Y)^yU (bS5 (QY^.put k y) Y 2 w) ?_;ext cL;rw[Qe^ak (d:=ã 8) Y];apply ϔ^Qe^Qj (x:=QY (.put k y)) (y:=Í 1) (d:=Ll) (hp2:=w) Ã Y^R5 1 w;rw[Qe^yx (d:=Í y) a (P9<|Ub ↥k>q7) À];rfl
 let v:S8 E w'>(bC1,w'):=QX^zS^aN9 0 Y g0 Y^iu w' cS5 cS6 Y;let(e,j,o):=K.h9;let(C,es,d1,r):=K.hX;show#[w',Ļ u v cN8,#[cA6,#[_,_,fM a,t.put k y],#[e,bd0 j,o],#[C,es,bd0 d1,r]],.set Á _]
def QiO(K:E9 w F M G q c)(g0:cI5 0>(đ ed)):∃w',Qq S7 (ϗ S8 pE) (bq0^.cut k) w>((.rt Ő,bq0 (.cut k)),w')/\E9 w' (TR.uB F k) M G q c/\cO9:=by
 have E:En:=bq0^.cut k
 let(kvs,z,a,t):=K.h8
 have w':Hs:=cO5 8^tF bH1
 let y:S7 E w>(bC1,w):=QX^aN9 0 Y g0 Y^iu w cS6 cS5 Y;let dk:AK Ń bn E w>(Ll,w):=bS5 (QY^.cut k) Y 1 w;let j:Yu (eB^ly mM ed) (i4 pG be3 ß) E w>(p9 bD1,w):=dn1 (aN9 0 Y g0 Y^iu w cS6 cS6 Y)^Ω dk Ã^QrT a;let C:S8 E w>(bC1,w'):=by
  cases hv:bD1 with
  |some d=>rw[hv]at j;show ZN j (Zz^Qqt a Ã dk hv)
  |none =>
   rw[hv]at j;let e:bH1=kvs:=by ext Yc;rw[Co];intro p J;apply Ea^N1 e;unfold ZT at hv;have:=Option.map_eq_none_iff.mp hv;rw[List.find?_eq_none]at this;show this p J (Ea e)
   exact _>(ba0 E,cO5 8 (tF bH1));rw[e,HZ a];show QX j
 let(o,r,u):=K.h9;let(I,es,d1,v):=K.hX;show#[w',Ļ y C cN8,#[cA6,#[_,_,fM a,t.cut k],#[o,bd0 r,u],#[I,es,bd0 d1,v]],.set Á _]
def Qgs(g0:cI5 0>(đ d6)):Qq S7 (ϗ S8 pE) (bq0^.find k) w>((.rt Ő,bq0 (.find k)),w):=by
 have E:En:=bq0^.find k
 let a:S7 E w>(bC1,w):=QX^aN9 0 Y g0 Y^iu w (FB d6) cS5 Y;let e:S8 E w>(bC1,w):=QX^zS^aN9 0 Y g0 Y^iu w (FB d6) cS6 Y;show Ļ a e cN8
variable{w:Hs}{xs:č}{ds:ϻ}{F:Eo}{M M':V->Ć}{G:V->IN}{q c i n:V}
def eR(X D:DV)(z4 z5:Sl):En:=[! X,! D,rq 8,rq 9,z4,z5]
def QmW{l h:Int}{z:Zs}(h8:w[8]?>AA)(t:bh0)(hz:bX0<64){ps:Ei}(j:TR.nH F l h ps):qo (eR X D aJ8 TL) w>(OT ps,w):=by
 have E:En:=eR X D aJ8 TL
 let o:=QcF t.d t.rise hz (f:=ß) (env:=E) (n:=8) (J:=w) Ã h8;let a:cQ (ð KR ß) E w>(cJ aV7,w):=fN cQ o
 let e:=QbB (J:=w) (t:=λ d=>eB (Jk d7 bV Û Å ß)^cE [4,5,2] E d) (f:=λ d=>ZL (á Å^ϖ Ă Å)^cE [4,5,2] E d) z (λ q=>A6 l FO&&Af FO h) (λ q hq=>by let c:Jk d7 bV Û Å ß (cE [4,5,2] E ↥FO) w>(ŏ<|A6 l FO&&Af FO h,w):=xU (x:=Í l) (y:=Í FO) (z:=Í h) Ã Ã Ã Y Y;show QK c) (λ q hq=>ax7^Iw^at0 (ã 8) y (Í FO) Ã Ã^Si h8^t.d.val t.rise hq) À
 rw[Qpj t j]at e;ext qo Zd;rw[Qe a,Qe^â (Je _ _ _ lim 0 w=_) e];rfl
def Qcm{l h:Int}(K:E9 w F M G q c)(h2:cI5 2>bd)(hn:n<=ej):QR 4 (Zo ie Yp Ă^á IJ^LX 1) (eR ώ (IF l h) ń ń) w>(ō^eR ώ (IF l h) ch5 ń,w):=by
 let(j,r,u,_):=K.h9;let g:=G0 (o:=Ă) (g:=IJ) (e:=LX 1) (d:=Í l) (a:=9) (env:=eR ώ (IF l h) ń ń) (J:=w) Ã r (J3 2 Y h2) (k:=aN6) Y^bS5 (IF l h) Y 1 w;let e:r8 (ZT j aN6) ↥l=Í ch4:=bG5 (u n hn)^M n
 rw[e]at g;show Qv g
def Qcn{l h:Int}{ps:Ei}(K:E9 w F M G q c)(hz:∀kvs z,bh0->bX0<=60)(a:∀q∈ps,aB4/\aO q.2)(hl:ϣ<=8)(h4:cI5 4>oQ)(j:TR.nH F l h ps):QG (Qg aV TZ^om ZY qo) (eR ώ D aJ8 TL) w>((.rt Ő,eR ώ D aJ8 TL),w):=by let(kvs,z,e,t):=K.h8;have:=hz kvs z t;let ok:=(UV a).ok;show Qt (Qj (J3 4 Y h4) (at7 (QmW e t À j)^uI ϊ a À)^iu w ok ok Ê)
def Qhg{l h:Int}{ps:Ei}(K:E9 w F M G q c)(hz:∀kvs z,bh0->bX0<=60)(j:∀q∈ps,aB4/\aO q.2)(hl:ϣ<=8)(h2:cI5 2>bd)(hn:n<=ej)(h4:cI5 4>oQ)(a:cI5 6>bi3)(e:TR.nH F ch4 h ps):X4 [ώ,IF l h,ã 8,ã 9] w>(Ő,w):=by
 have E:En:=eR ώ (IF l h) ch5 TL
 let o:QR 5 dc6 (eR ώ (IF l h) ch5 ń) w>(bC1,w):=Qv^bS5 (IF l h) Y 2 w;show EO E (Qcm K h2 hn) o (Qo (QX^aN9 6 Y a Y^tY w aq3 aq3 Y)^Qcn K hz j hl h4 e)
def Qhh{l h x:Int}{ps:Ei}(K:E9 w F M G q c)(hz:∀kvs z,bh0->bX0<=60)(Q:∀q∈ps,aB4/\aO q.2)(hl:ϣ<=8)(h2:cI5 2>bd)(hn:n<=ej)(h4:cI5 4>oQ)(r:cI5 6>dm3)(hx:aO x)(hc:c<99000)(g1:ch4<x)(g2:x<h)(P:TR.nH F ch4 x ps):∃w',X4 [ώ,IF l h,ã 8,ã 9] w>(Ő,w')/\E9 w' F (λ j=>Dt j n x^M j) G q (c+1)/\cO9:=by
 have E:Int->En:=λ h'=>eR ώ (IF l h) ch5^Ý h'
 let R:QR 5 dc6 (eR ώ (IF l h) ch5 ń) w>(bu2 h,w):=Qv^bS5 (IF l h) Y 2 w;let v:∀h' w,wV vz bV5 (E h') w>(Í x,w):=λ h' w=>HI (J3 6 Y r) hx;let ch:JM (eB^Jk bV bV ě (ð vz bV5) Ń) (E h) w>(Ν w):=by let c:Jk bV bV ě (ð vz bV5) Ń (E h) w>(ŏ<|Af ch4 x&&Af x h,w):=xU (x:=Í ch4) (y:=Í x) (z:=Í h) Ã (v h w) Ã Y Y;rw[Ea g1,Ea g2]at c;show bg2 b c
 let(Y2,o,L,b3):=K.h9
 have w':Hs:=cO5 9^tF^XL Y2 aN6 cY0
 let sa:Yg Ń (cL Ă IJ) (E x) w>(bu2 x,w'):=by apply yU Ã ?_;ext cL;rw[Qe^ak (d:=ã 9) Y];apply ϔ^Qe^J3 2 Y h2;rw[Qe^yx (d:=Í x) o (P9<|Ub^Õ bd>aN6) À];rfl
 let a:E9 w' F (λ j=>Dt j n x^M j) G q<|c+1:=by
  let(kvs,z,C,I):=K.h8;let(U,es,d1,d2,O):=K.hX;apply#[cA6,#[kvs,z,bd0 C,I],#[_,fM o,Ż m u,Bi (Qcj _ _ _) À],#[U,es,bd0 d1,À,O]];rw[jC];dsimp only;by_cases e:m=n
  .rw[C8 aF0,PM];rfl
  .rw[C7^HG u hn e,EF];show L m u
 let xo:=(Gm hx).ok;apply#[w',EO (E x) (Qcm K h2 hn) R (Qo (ZN (aN9 6 Y r Y^tY w xo aq3^uC x)^Ļ (QX ch) (Qv^v h w) sa)^Qcn a hz Q hl h4 P),a,.set Á _]
def Qgt{l h:Int}{ps:Ei}{r:aN}{M':V->Ć}{c':V}(K:E9 w F M G q c)(g0:cI5 0>(đ iX))(h2:cI5 2>bd)(hn:n<=ej)(h4:cI5 4>oQ)(hb:∀q∈ps,aB4/\aO q.2)(hc:c<OG)(hg:∀l,bb3>l->⇑l<=OG)
  (rd:∀(w:Hs)(G:V->IN),E9 w F M G q (c+1)->∃w',X4 [ώ,IF l h,ã 8,ã 9] w>(Ő,w')/\E9 w' F M' G q c'/\cO9) :
  ∃w',Qq S4 r (bp9^IF l h) w>((.rt Ő,bp9 (IF l h)),w')/\E9 w' F M' (cv1 G<|Vk G n<|bD4++[oQ]) q c'/\cO9:=by
 have E:En:=bp9^IF l h
 let t4:eB (ly mM iX) E w>co9:=aN9 0 Y g0 Y^iu w aq3 aq3 Y;let ok:=(UV hb).ok;let ne:∀b:Bool,(oQ==bi3)=hV b->eB (Ķ cW TZ "-") E w>(b,w):=λ b h=>aN9 4 Y h4 Y^tY w ok aq3 h;obtain⟨j,s1,u,k1⟩:∃j,ci0 (Ķ cW TZ "-") (N3 (bQ0 (Zo ie Yp ě^á IJ aG8) TZ) ě IJ) E w>(bC1,j)/\E9 j F M (cv1 G<|Vk G n<|bD4++[oQ]) q (c+1)/\Kp w j:=by
  by_cases e:ps=[]
  .subst e;let(I,Y2,L,b3):=K.h9;let(v,es,d1,O,y):=K.hX;show#[w,QX (ne false Y),#[K.h7,K.h8,#[I,Y2,L,À],#[v,es,d1,À,y]],.refl]
  .let(v,es,d1,O,y,d4,P):=K.hX;let g:=G0 (o:=ě) (g:=IJ) (e:=aG8) (d:=fL []) (a:=10) (env:=E) (J:=w) Ã d1 (J3 2 Y h2) (k:=aN6) Y Y;let U:r8 (ZT v aN6)^fL []=fL bD4:=bG5 (P n hn) bb3
   rw[U]at g;let gl:⇑bD4<=OG:=by
    cases e:bb3 with
    |none=>show Fm
    |some l=>show hg l e
   let C:Qg Zm (Zo ie Yp ě^á IJ aG8) (rh TZ) E w>(fL<|bD4++[oQ],w):=by apply Qj g (Rj^J3 4 Y h4) ?_;exact(ah6 (mr bD4 PD++[ap3 oQ]) >>= λ_=>af2<|mr bD4 PD++[ap3 oQ]) w=_;let sh:do1<|mr bD4 PD++[ap3 oQ]:=Ea^i3 Am Br^av9^sg gl;rw[sh];ext fL;rw[List.map_append];rfl
   let(j,s,u,k1):=WG (E:=E) K Y Y h2 hn À C;show#[j,ZN (ne true^QmT e) s,Æ (C7 aP7) u,k1]
 let(w2,R,z,k2):=rd j _ u;let Q:Qg aV bE9 (Ċ Š) E j>(Ő,j):=io (bS5 (IF l h) Y 0 j)^iu j (FB Š) (FB Š) Y;apply#[w2,f3 t4 (l7 s1^ϔ^G4 Q),z,k1.trans k2];rw[pv];show og (gE Ã Ã Ã Ã) R
variable{w:Hs}{ds:ϻ}{F F':Eo}{M M':V->Ć}{G:V->IN}{q c i:V}{o:TR.Out}
def vS(i:V)(o:TR.Out):(XF i o)[0]?>bi0/\∃a,XF i o=bi0::a:=bU9 o #[Y,_,Y]
def Uz(hn:∀n r,o=bi9->r≠Ě):aQ bi0:=by
 cases o with
 |rest=>show(È:aQ F7)
 |take n=>show(È:aQ bL6)
 |did n r=>show Vt (hn n r Y)
def Fy(w:Hs)(ds:ϻ)(F:Eo)(M:V->Ć)(G:V->IN)(q c i:V)(o:TR.Out):ä:=∃w',X3 [OK i o,ã 7,ã 8,ã 9,ã 10] w>(Ő,w')/\E9 w' F M G (q+Ř (CT o) 1 0) (c+2)/\cO9
def Bk.up{c':V}(K:E9 w F M G q c)(h:c<=c'):E9 w F M G q c':=by let(a,e,j,r):=K.h9;let(x,es,d1,u,v):=K.hX;show#[K.h7,K.h8,#[a,e,j,Bi r h],#[x,es,d1,Bi u h,v]]
def OD(i:V)(o:TR.Out)(a:Ĭ^CT o):∃e,(XF i o)[2]?>e:=by
 cases o with
 |rest=>cases a
 |take n=>cases a
 |did n r=>show IK
def qI(K:E9 w F M G q c)(hn:∀n r,o=bi9->r≠Ě)(u:∀x∈XF i o,iC x)(hq:q<=ej)(z:c<89000)(e:ÿ<|bj0 d6 || (bj0 dQ || (bj0 ed || bj0 iX))):Fy w ds F M G q c i o:=by let g0:=(vS i o).1;let a:=Uz hn;let(y,v,j,k1):=PN K g0 (OD i o) a u (va hn) hq À;show#[y,bo3 (eF (OK i o) ń) v (rL (aN9 0 Y g0 Y^as7 (Wh a) e) Y),j.up À,k1]
def vc{n:V}{r:TR.Row}{d:TR.aG}{k:Int}{x0:Str}(K:E9 w F M G q c)(Q:r≠Ě)(P:∀x∈XF i bi9,iC x)(hq:q<=ej)(hc:c<89000)(hd:ID ds>d)(a:n<=ej)(I:rW r=x0)(ex:XF i bi9=x0::ys)(e1:Ĭ^cX9 d6^cX9 dQ^cX9 ed^aZ0 iX)(Y2:iN x0 iX)(L:ak1 x0 iW = Pc)(h2:(XF i bi9)[2]?>bd)(h4:(XF i bi9)[4]?>cJ0)(O:∀x,cI9>x->aO x)(v:∀w,cM5 ng 1 w>(Ll,w))(u:∀{j q c},E9 j F M (Vk G n [cJ0]) q c->∃w',Qq S7 (ϗ S8 pE) (EL (OK i bi9) ng) j>((.rt Ő,EL (OK i bi9) ng),w')/\E9 w' F' M (Vk G n [cJ0]) q c/\cO8 j):Fy w ds F' M (Vk G n [cJ0]) q c i bi9:=by
 let hn:∀m t,TR.Out.did n r=bi7 m t->t≠Ě:=λ m t e=>ah8 e Q
 let z:aQ x0:=I▸Uz hn;let(w1,R,y,k1):=PN K (vS i bi9).1 (OD i _) (Uz hn) P (va hn) hq À;let fr:=vb (r:=þ S4 S5 (þ S6 S7^ϗ S8 pE)) y (ö ex) z e1 h2 a hd;let(j,U,C,k2):=Qgu (r:=cc6 S7 S8 pE) y ex z Y2 L h2 a h4 O v À;let(w3,s3,E,k3):=u C;show#[w3,bo3 (EL (OK i bi9) ng) R (fr.trans^bM7 s3),E.up À,k1.trans (k2.trans k3)]
def SG{n a:V}{ps:Ei}{t:bB0 V Int}{l hh:Int}{c':V}(K:E9 w F M G q c)(E:∀x∈XF i (cH2 a t),iC x)(hq:q<=ej)(O:c<89000)(hd:ID ds>(Ϝ l hh))(j:n<=ej)(h4:(XF i^cH2 a t)[4]?>oQ)(z:∀q∈ps,aB4/\aO q.2)(C:∀l,bb3>l->⇑l<=OG)(h2:c'<=c+2)
  (rd:∀{q} w G,E9 w F M G q (c+1)->∃w',X4 [OK i^cH2 a t,IF l hh,ã 8,ã 9] w>(Ő,w')/\E9 w' F M' G q c'/\cO9):Fy w ds F M' (sE G^cH2 a t) q c i^cH2 a t:=by
 let hn:∀m r,TR.Out.did n^bw0 a ps t=bi7 m r->r≠Ě:=λ m r e=>ah8 e^bv2 h h
 let v:=Uz hn;let(P,I,u,k1):=PN K (vS i^cH2 a t).1 (OD i _) v E (va hn) hq À;let fr:=vb (x0 := iX) (r:=þ S4 S5 (þ S6 S7^ϗ S8 pE)) (xs:=XF i (cH2 a t)) u Y v Y Y j hd;let(L,Y2,y,k2):=Qgt (r:=þ S5 S6 (cc6 S7 S8 pE)) (ps:=ps) (h:=hh) (M':=M') (c:=c) (c':=c') (xs:=XF i (cH2 a t)) u Y Y j h4 z À C rd;show#[L,bo3 (EL (OK i^cH2 a t)^IF l hh) I (fr.trans Y2),y.up h2,k1.trans k2]
def Qpn(K:E9 w F M G q c)(hz:∀kvs z,bh0->bX0<=60)(h:TR.CW ds F M o F' M')(hn:∀n r,o=bi9->r≠Ě){N R:V}(B:TR.Nj aO N R o)(O:R<=8)(u:∀x∈XF i o,iC x)(hq:q<=ej)(j:c<89000)(P:∀n a ps t,o=cH2 a t->∀l,bb3>l->⇑l<=OG):Fy w ds F' M' (sE G o) q c i o:=by
 cases h with
 |rest=>show qI K hn u hq j Y
 |take n=>show qI K hn u hq j Y
 |@did n r d F' hd v =>
  let e:n<=ej:=av9 B.1;let rb:=B.2;let Y2:=hn n r Y;cases r with
  |non=>show v.elim
  |side a b=>cases v;show qI K hn u hq j Y
  |down a b=>cases v;show qI K hn u hq j Y
  |told a b=>cases v;show qI K hn u hq j Y
  |raised a b=>cases v;show qI K hn u hq j Y
  |found a x=>let(k,Y,Y,Y):=v;show vc K Y2 u hq j hd e Y Y Y Y iY.1 Y Y rb.2 (λ w=>R5 1 w) λ C=>#[_,Qgs Y,C,.refl]
  |put a x b=>let(k,y,Y,Y,Y):=v;show vc K Y2 u hq j hd e Y Y Y Y iY.2.1 Y Y rb.2.1 (λ w=>R5 1 w) λ C=>QiP C Y hz
  |cut a x=>let(k,Y,Y,Y):=v;show vc K Y2 u hq j hd e Y Y Y Y iY.2.2 Y Y rb.2 (λ w=>R5 1 w) λ C=>QiO C Y
  |read a ps t =>
   let L:ϣ<=8:=Bi rb.2.2.1 O;let E:=P n a ps t Y;cases t with
   |none=>let(l,hh,Y,Y,I):=v;show SG K u hq j hd e Y rb.2.1 E À λ w G K=>#[w,Qhg K hz rb.2.1 L Y e Y Y I,K,.refl]
   |some t=>let(s,x):=t;let(l,hh,Y,Y,I,R2,R3):=v;show SG K u hq j hd e Y rb.2.1 E Ĕ λ w G K=>Qhh K hz rb.2.1 L Y e Y Y (rb.2.2.2 s x Y).2 À I R2 R3
#where
structure Wd(w:Hs)(s v:V)(ds:ϻ)(t:TR.St)(L:V->V)(Q:Dn)(F:Eo)(M:V->Ć)(G:V->IN)(c:V):ä where
 D:Dk w 0 s v ds t L Q
 ox:∀x,7<=x->x<=10->¬ Fd 0 s v t L Q x
 K:E9 w F M G ⇑Q c
structure Pn(ds:ϻ)(t:TR.St)(Q:Dn)(H:V)(b:V->V)(F:Eo)(M:V->Ć)(G:V->IN):ä where
 Y0:∃bg,TR.aX ds t bg b
 N:∃bg,TR.Nm ds t bg F M
 X:TR.nJ aO t
 de:∀d∈ds,dI d
 an:∀x∈OH,pU x.2
 T:Tl t OH G
 hl:ag5=H
 rm:t.S.O4<=5
 h0:0<H
 h8:H<=8
 lM:ê<=43
def dI.Mz{d:TR.aG}(h:dI d):TR.Ry aO d:=by
 apply#[?_,ľ k x e]
 .cases d<;>show h.n _ ž
 .subst e;show h.n x ϡ
def dI.ok{d:TR.aG}(h:dI d):TR.HM d:=by
 cases d with
 |stretch l u=>show h.s l u Y
 |_=>show trivial
def QbO:∀{cI:Â Ei},IQ ps cI (ps≠[])->cI.length<=cI.flatten.length:=by
 intro c;induction c with
 |nil=>intro _;show Ĕ
 |cons ps r a=>intro h;have:=a λ x hx=>h x^ſ hx;have:=aN3^h ps ž;rw[List.flatten_cons,Am,A9];lia
variable{w w':Hs}{s v:V}{ds:ϻ}{t t':TR.St}{L L':V->V}{Q Q':Dn}{F:Eo}{M:V->Ć}{G:V->IN}{H c q i:V}{b:V->V}
def Bk.keep(K:E9 w F M G q c)(h:∀x,7<=x->x<=10->w'[x]?=w[x]?):E9 w' F M G q c:=by let(kvs,z,a,e):=K.h8;let(j,o,r):=K.h9;let(y,es,d1,u):=K.hX;show#[à (h 7 Á Á) K.h7,#[kvs,z,à (h 8 Á Á) a,e],#[j,à (h 9 Á Á) o,r],#[y,es,à (h 10 Á Á) d1,u]]
def Bk.len(K:E9 w F M G q c):10<ĳ:=by let(a,es,d1,_):=K.hX;show Zw d1
def Wd.one{s' v':V}{e:ϻ}(W:Wd w s v ds t L Q F M G c)(j:Dk w' 0 s' v' e t' L' Q')(X:Fx (Fd 0 s v t L Q) w w'^Fd 0 s' v' t' L' Q'):(∀x,7<=x->x<=10->¬ Fd 0 s' v' t' L' Q' x)/\∀x,7<=x->x<=10->w'[x]?=w[x]?:=by
 let l:=W.K.len;apply#[mo x h1 h2 z,λ x h1 h2=>X.old x À^W.ox x h1 h2];obtain a|a:=X.new x z
 .show W.ox x h1 h2 a
 .lia
def Wd.more(W:Wd w s v ds t L Q F M G c)(h:∀x,x<ĳ->w'[x]?=w[x]?):Wd w' s v ds t L Q F M G c:=by let l:=W.K.len;show#[W.D.keep λ x hx=>h x^W.D.lt hx,W.ox,W.K.keep λ x h1 h2=>h x À]
def Wd.book{M':V->Ć}{a:V->IN}{c':V}(D:Dk w 0 s v ds t L Q)(ox:∀x,7<=x->x<=10->¬ Fd 0 s v t L Q x)(K:E9 w' F' M' a ⇑Q c')(kp:cO9):Wd w' s v ds t L Q F' M' a c' :=
 #[D.keep λ x hx=>kp.old x (by
  by_cases h:x<7
  .show FE
  .show ċ (cs6^λ h2=>ox x À h2 hx)),ox,K]
def Pn.Mz(P:Pn ds t Q H b F M G):∀d∈ds,TR.Ry aO d:=λ d hd=>(P.de d hd).Mz
def Pn.hz(P:Pn ds t Q H b F M G):∀kvs z,bh0->bX0<=60:=λ kvs z tb=>by let(bg,N):=P.N;have:=Qq5 N tb;have:=P.lM;lia
def Pn.ql(P:Pn ds t Q H b F M G):⇑Q<=43:=by let ct:=P.T.ct;let(bg,Y0):=P.Y0;have:=Y0.tk;have:=P.lM;let e:⇑OH=⇑Q:=Br ..;lia
def Pn.sm(P:Pn ds t Q H b F M G):∃bg,Sm t.S bg/\dr8 * t.S.O4<=300/\TR.Nm ds t bg F M:=by let(bg,Y0):=P.Y0;let(a,N):=P.N;let pg:=Y0.pages;let tk:=Y0.tk;let d:=P.lM;let cn:=Y0.cn;have:dr8 * t.S.O4<=47 * 5:=Mj À P.rm;show#[a,#[N.T,Y0.rm,À],À,N]
def Ql0{F F':Eo}{v v':TR.Wk}{r:TR.Row}(D:TR.Did F F' v v' r):v'.O7=FN r:=by
 cases r with
 |non=>show D.elim
 |side a b=>show D.2.2.2.1
 |down a b=>show D.2.2.2.1
 |told a b=>show D.2.2.2.2.1
 |raised a b=>show D.2.2.2.2
 |found a x=>let(k,d1,o,u,z,e,j):=D;show j
 |put a x b=>let(k,y,d1,o,u,z,e,j,_):=D;show j
 |cut a x=>let(k,d1,o,u,z,e,j):=D;show j
 |read a ps t =>
  let(l,h,d1,o,u,z,e):=D;cases t with
  |none=>show e.2
  |some y=>show e.2.2.2.2.1
def QqM(i:V):cl (đ "move "++aC)=cl ww ++ 32::ct9:=ö Vz
def QqL(i:V):cl (đ cN3++aC)=cl gw ++ 32::ct9:=ö Vz
def Qph(e:i<ag5)(a:bt4 t i>(o,t'))(did:∀v,NB>v->af4->∃r v',o=bi7 dc4 r/\t'=ĝ t S t'.S ws^F8 v'/\v'.O2=v.O2/\TR.Did F F' v v' r):⇑(TR.mW t t' i)=Ř (CT o) 1 0:=by
 let j:=Ab e;generalize t.ws[i]=u at j;cases x:u.O7 with
 |true=>rw[TR.jo j x];unfold TR.mv at a;rw[j]at a;dsimp only at a;rw[C8 x]at a;split at a<;>cases a<;>rfl
 |false =>
  let(r,C,Y,z,_,y):=did u j x;let g':cv6>C:=Æ z^As e
  rw[TR.x9 j x g',Ql0 y];exact _=Ř (FN r) 1 0
  cases FN r<;>rfl
def SL(W:Wd w s v ds t L Q F M G c)(P:Pn ds t Q H b F M G)(hi:i<H)(hb:b i<=6000)(hc:c<89000):∃o Y2 U w2 t' L' Q' I M' G',bt4 t i>(o,t')/\QV [ã 0,Õ<|đ "move "++aC] w>(Õ^cx9^XF i o,U)/\cP Y2^XF i o/\⇑Y2<=8/\aQ bi0/\X3 [OK i o,ã 7,ã 8,ã 9,ã 10] U>(Ő,w2)/\Wd w2 s v ds t' L' Q' I M' G' (c+2)/\Pn ds t' Q' H (TR.o7 b i) I M' G':=by
 let(bg,Y0):=P.Y0;let(oG,N):=P.N;let lM:=P.lM;let h8:=P.h8;let y:i<ag5:=Æ P.hl hi
 let aw:=Y0.pages;let ay:=Y0.tk;let(o,t',aP,e,Y',l',tk',_):=TR.G_ Y0 y;let(X',ob,ae):=P.X.mv Y0 À P.Mz e;let(a9,I,M',N',told,did):=N.move (λ d hd=>(P.de d hd).ok) Y0.len y e;let(r1,r2,r3):=TR.QmF e;let nn:∀n r,o=bi9->r≠Ě:=λ n r h=>bJ1 h^QpU e
 let(U,L',Q',e5,A5,F5,q5):=QpT W.D.A (TR.Rel.refl (ds:=ds) (s:=t) Y0.len) Y0 y À hb e;let(D5,G5):=W.D.step A5 F5;let(ox,Ls):=W.one D5 G5;let(Y2,eT,C,tE):=QmP (i:=i) ob nn (ī<|⇑t.S.pg<=ej) (av9 P.rm) À;rw[eT]at e5;let sy:=QqQ W.D (D3 (wd := ww) ž À À^QqM i) e5 C.len À (λ j d x h1 h2=>(C.get h1 h2).shown)^C.joined tE;let E:=Ab y;generalize t.ws[i]=u at E;let aa:=Qph y e did;let(w2,e6,K6,ar):=Qpn (i:=i) (W.K.keep Ls) P.hz told nn ob (av9 P.rm) (λ x hx=>by
  let(d,p):=C.mem x hx;show p.asc) (İ P.ql) hc (λ n a ps tt eo l hl=>by
  subst eo;cases O:u.O7 with
  |true=>exfalso;unfold TR.mv at e;rw[E]at e;dsimp only at e;rw[C8 O]at e;split at e<;>cases e
  |false =>
   let(r,u',e1,_,_,DD):=did u E O;cases e1;let(l0,hh,d1,_):=DD;let(cI,p1,p2,R):=(P.T.ac i u E O).far dn6;rw[hl]at R;let pl:=Y0.pr i u E O;let fl:=QbO p1;rw[<- p2]at fl;split at R
   .cases R
   .have:=Aj R
    rw[this,Br];lia)
 let qe:⇑Q'=⇑Q+Ř (CT o) 1 0:=by have:=ay9 q5;rw[Am,aa]at this;simpa [dH]using this
 rw[<- qe]at K6;apply#[o,Y2,U,w2,t',L',Q',I,M',sE G o,e,sy,C,tE,Uz nn,e6,.book D5 ox K6 ar,#[#[aP,Y'],#[a9,N'],X',P.de,aQ5,Æ q5 (P.T.mv N Y0.len y e did),r2.trans P.hl,Æ r1 P.rm,P.h0,P.h8,P.lM]];rw[q5]at hx;obtain z|z:=cx8
 .show P.an x z
 .have:=TR.Qgg Y0 e x z
  show#[ae x z,À]
#where
def kc{i:V}{env:En}{a:aN}{r:(Fl × En)× Hs}(h:a aJ9 J>r):(do let env' <- aM4 i d;a env':M (Fl × En)) J>r:=by
 have:gN i d env J>(aJ9,J):=ř
 rw[IU];show h
def MP{x:Str}{i:V}{e:aD}{w:Hs}(a:aS8 w>(ft,w))(hx:rk<=10)(hi:i<=ej):Qg jm (Ċ x) (Fc e) env w>(Õ<|x++aC,w):=by let l:=YS hi Ĕ;have:=ay1 l;show Qj Y (oC a^xw l.abs) (kZ^GP À)
structure Ev(w:Hs)(s v:V)(ds:ϻ)(t:TR.St)(H:V)(b:V->V)(c:V):ä where
 ex:∃L Q F M G,Wd w s v ds t L Q F M G c/\Pn ds t Q H b F M G
variable{w:Hs}{s v:V}{ds:ϻ}{t:TR.St}{H c B:V}{b:V->V}
def Ev.mono(Y1:Ev w s v ds t H b c){a:V->V}{c':V}(h:∀i,b i<=a i)(z:c<=c'):Ev w s v ds t H a c':=by let(L,Q,F,M,G,W,P):=Y1.ex;let(bg,Y0):=P.Y0;let(e,j,o,x):=W.K.h9;let(u,es,d1,y,r):=W.K.hX;show#[L,Q,F,M,G,#[W.D,W.ox,#[W.K.h7,W.K.h8,#[e,j,o,À],#[u,es,d1,À,r]]],#[#[bg,Y0.mono λ i _=>h i],P.N,P.X,P.de,P.an,P.T,P.hl,P.rm,P.h0,P.h8,P.lM]]
def eQ(H:V)(z6 z7 z8 z9:Sl):En:=[rq 0,aP8,rq 7,rq 8,rq 9,rq 10,z6,z7,z8,z9]
structure Tn(ds:ϻ)(H:V)(t0 t:TR.St)(r j:V):ä where
 tr:TR.lq ds (H-j) j t=TR.lq ds H 0 t0
 le:r<=j
 rs:r=j->t=t0/\∀i,i<j->ê<=t0.tk/\∃u,Ů t0.ws>u/\bO3
 st:Ĭ^kd t0->r=j/\t=t0
def Tn.next{t0 t':TR.St}{o:TR.Out}{r j:V}(T:Tn ds H t0 t r j)(P:j<H)(hl:ag5=H)(a:bt4 t j>(o,t')):Tn ds H t0 t' (r+É bj1 1 0)<|j+1:=by
 let tr:TR.lq ds (H-(j+1)) (j+1) t'=TR.lq ds H 0 t0:=by rw[<- T.tr,ī<|H-j=(H-(j+1))+1];exact _=(bt4 t j).bind λ x=>TR.lq ds (H-(j+1)) (j+1) x.2;rw[a];rfl
 let E:j<ag5:=Æ hl P
 let y:=Ab E;generalize t.ws[j]=u at y;let F:o=.rest->t'=t/\ê<=t.tk/\bO3:=λ e=>by
  subst e;unfold TR.mv at a;rw[y]at a;dsimp only at a;split at a
  .rename_i O;cases hd:ds[t.tk]? with
   |none=>rw[hd]at a;cases a;show#[Y,Ë hd,O]
   |some d=>rw[hd]at a;cases a
  .split at a<;>cases a
 by_cases e:o=.rest
 .let G:(r+É bj1 1 0)=r+1:=ö e
  let(m1,I,m3):=F e;rw[G];apply#[tr,İ T.le,N1 h,N1 h]
  .let(C,z):=T.rs À;apply#[m1.trans C,Ż i hi];rw[C]at I y;by_cases q:i=j
   .show#[I,u,Æ q y,m3]
   .show z i À
  .let(C,z):=T.st h;show#[À,m1.trans z]
 .let ne:iN bi0 F7:=by
   cases o with
   |rest=>show cu8 e
   |take n=>rfl
   |did n r=>cases r<;>rfl
  let G:(r+É bj1 1 0)=r:=ö ne
  let le:=T.le;rw[G];apply#[tr,À,λ h=>Ė h À,N1 h];exfalso;let(C,z):=T.st h;let(Y2,L):=TR.qK h;rw[z]at a y;unfold TR.mv at a;rw[y]at a;dsimp only at a;rw[C8^L j u y,show ų ds[t0.tk]? by rw[Y2];simp]at a;cases a;show e Y
def Qpv{t0:TR.St}{r j:V}{z6 z8 z9:Sl}(Y1:Ev w s v ds t H b c)(u:j<H)(hb:b j<=6000)(hc:c<89000)(T:Tn ds H t0 t r j):∃w' t' e z,zd (eQ H z6 (Ý (r:V)) (Ý (j:V)) z9) w>(ō^eQ H z6 (Ý (e:V)) (Ý (j:V)) z,w')/\Ev w' s v ds t' H (TR.o7 b j) (c+2)/\Tn ds H t0 t' e (j+1):=by
 let(L,Q,F,M,G,W,P):=Y1.ex;let(o,dl,a,y,t',O,Q',I,M',Y2,em,sy,C,tE,x,ef,U,R):=SL W P u hb hc;let(g0,ys,gy):=vS j o
 have E:V->Sl->En:=λ r z=>eQ H z6 (Ý (r:V)) (Ý (j:V)) z
 let h8:=P.h8;let s1:QR 9 (bC5 jb (bQ6^Qg jm bi2^Fc Ts) Ql) (E r z9) w>(ō^E r^bN7 j o,a) :=
  Qv^C.split gy x tE^cV6 W.D.dk (MP Ã Á À) sy
 have e:V:=r+É bj1 1 0
 let s2:QR 7 (nB ck^ð EY^ly (ù Fs 0) F7) (E r^bN7 j o) a>(ō^E e^bN7 j o,a):=by let w0:AK Fs bG (E r^bN7 j o) a>(Õ bi0,a):=wn^Oj (i:=0) (Ũ Bt g0) a;apply Qv^Qj Ã (oC (io w0^iu a x.asc.ok aq3 Y) Y) ?_;exact í (eD<|Ñ r+Ř bj1 1 0,a)=_;exact _>(bP3 (r+Ř bj1 1 0:V),a);cases bj1<;>rfl
 let s3:bJ6 (bf7 5 X3^EW Fs ß Ă ě Ń) AD (E e^bN7 j o) a>(ō^E e^bN7 j o,y):=QX^bg2 b^og (GO Ã Ã Ã Ã Ã) ef;show#[y,t',e,_,Ļ s1 s2 s3,#[O,Q',I,M',Y2,U,R],T.next u P.hl em]
def Qq9(Y1:ai4 w s v ds t H B c)(I:B<=6000)(hc:c+16<89000):∃w' t' r u o,xR (eQ H z6 (Ý 0) z8 z9) w>(ō^eQ H z6 (Ý (r:V)) u o,w')/\ai4 w' s v ds t' H (B+1) (c+16)/\Tn ds H t t' r H:=by
 let(L,Q,F,M,G,W,P):=Y1.ex;let h8:=P.h8
 have E:V->V->V:=λ j i=>É (i<j) (B+1) B
 let C:WP (zW (aM5 d 8 d^zd env') (cr1 H)^eQ H z6 (Ý 0) z8 z9) w λ q w'=>∃t' r u o,q=ō^eQ H z6 (Ý (r:V)) u o/\ai4 w' s v ds t' H (B+1) (c+16)/\Tn ds H t t' r H:=by
  apply Gi (λ j env w'=>∃t' r u o,env=eQ H z6 (Ý (r:V)) u o/\Ev w' s v ds t' H (E j) (c+2 * j)/\Tn ds H t t' r j) (cr1 H) #[t,0,z8,z9,Y,Y1.mono (λ i=>fh (B<=É (i<0) (B+1) B) (C7 E8) Ĕ) À,#[Y,Ĕ,λ_=>#[Y,λ i hi=>Ė hi E8],λ_=>rg]] (ba2 j d Y2 env w' zz)^ľ env w' zz
  .let(t',r,u,o,Y,y,x):=zz;let(lj,Y):=xp Y2;let(U,R,O,z,e,V2,T2):=Qpv (z6:=z6) (z8:=u) (z9:=o) y lj (fh (É (j<j) (B+1) B<=6000) (C7 ac5) I) À x;apply#[_,U,kc e,R,O,_,z,Y,V2.mono (N1 i) À,T2];exact pH i j (É (j<j) (B+1) B+1)^É (i<j) (B+1) B<=É (i<j+1) (B+1) B
   rw[C7^Cq j];by_cases a:i=j
   .rw[C8 a,aq9];lia
   .rw[C7 a];by_cases q:i<j
    .rw[C8 q,aq9];lia
    .rw[C7 q,ec];lia
  .let(t',r,u,o,Y,y,x):=zz;rw[ZC]at y x;show#[t',r,u,o,Y,y.mono (λ i=>by exact É (i<H) (B+1) B<=B+1;split<;>lia) À,x]
 let(q,w',e,t',r,u,o,Y,h):=C;show#[w',t',r,u,o,qD (qA ύ À) e aC1,h]
def Qcp(Y1:ai4 w s v ds t H B c)(hB:B<=4000)(hc:c<=50000):∃w' t',XA [ã 0,Í (H:V),ã 7,ã 8,ã 9,ã 10] w>(Ő,w')/\ai4 w' s v ds t' H (B+2000) (c+32000)/\Ĭ^kd t':=by
 let R0:TR.iR ds H 1999 t:=by let(L,Q,F,M,G,W,P):=Y1.ex;let(bg,Y0):=P.Y0;let(lN,N):=P.N;show TR.Qnu Y0 P.hl P.lM P.h0 P.h8
 obtain⟨E,hN⟩:∃n,n=2000:=IK;let MM:WP (zW (aM5 d 6 d^yp env') (cr1 E)^eQ H ń ń ń ń) w λ q w'=>∃t' z6 z7 z8 z9,q=(.rt Ő,eQ H z6 z7 z8 z9)/\ai4 w' s v ds t' H (B+2000) (c+32000)/\Ĭ^kd t':=by
  apply Gi (λ k env w'=>k<=1999/\∃t' z6 z7 z8 z9,env=eQ H z6 z7 z8 z9/\ai4 w' s v ds t' H (B+k) (c+16 * k)/\TR.iR ds H (1999-k) t') (cr1 E) #[Fm,t,_,_,_,_,Y,Y1,R0] (ba2 k d hk env w' zz) (λ env w' zz=>by rw[ZC]at zz;lia);let(k9,t',z6,z7,z8,z9,Y,V',Y2):=zz;let(lk,Y):=xp hk
  have j:Sl:=Ý (k:V)
  let(C,I,r,lD,lC,e,V2,T2):=Qq9 (z6:=j) (z8:=z8) (z9:=z9) V' À À;let U:QR 7 bG (eQ H j z7 z8 z9) w'>(ō^eQ H j (Ý 0) z8 z9,w'):=Qv Y;let le:=T2.le;let o:eB (Qg aV ck Û) (eQ H j (Ý (r:V)) lD lC) C>(FC r H,C):=by
   let bq:(Ñ r==Ñ H)=FC r H:=by
    by_cases h:r=H
    .rw[h];simp
    .rw[Ec h]
     show ad (λ z=>h À)
   show QK (at0 (Í (r:V)) y (Í (H:V)) Ã Ã^ĵ (rM _ _ _) bq)
  by_cases h:r=H
  .let(O,R):=T2.rs h
   rw[Ea h]at o;apply#[_,C,kc (Ļ U e^ZN o cN8),I,_,_,_,_,Y,V2.mono bI7 À,?_];let(L,Q,F,M,G,W,P):=V2.ex;let(bg,Y0):=P.Y0;let tk:=Y0.tk;have:=(R 0 P.h0).1;rw[O]at tk ⊢;ext TR.still;rw[Ea<|ī<|t'.tk=ê,Bool.true_and,List.all_eq_true];intro u hu;let(i,hi):=ak0 hu;let hl:=P.hl;rw[O]at hl;let(_,u',h1,h2):=R i (ì hl^Zw hi);rw[hi]at h1;cases h1;show h2
  .rw[Ec h]at o
   apply#[_,C,kc (Ļ U e^QX o),?_];obtain⟨n,hn⟩:∃n,n=1999-k:=IK;rw[<- hn]at Y2;cases Y2 with
   |stop z=>show Ė (T2.st z).1 h
   |@go n _ t3 a b=>let tr:=T2.tr;rw[a,Nat.sub_self]at tr;let e3:I=t3:=Aj tr;subst e3;show#[À,I,_,_,_,_,Y,V2.mono bI7 À,Æ (ī<|1999-(k+1)=n) b]
 let(q,w',e,t',z6,z7,z8,z9,Y,h):=MM;show#[w',t',ā (eQ H z6 z7 z8 z9) (Q5^qD (bM2 m E (ö hN) À) e aC1),h]
#where
def BB{n:V}{g:fJ}{ds:Þ}{r:Str × Hs}(h:g (bQ1++ă (n-ê) ń) J>r):B_ n g ds J>r:=h
def QrO{c:cH}{g g':fJ}(h:aS0>co8):Eh c g g' env J=bu6:=Ą Eh^ve h
def zr{f:aN}{g:fJ}(h:i0>(ō aF,hp1)):vf f g env J=g aF hp1:=hp vf^ve h
def QbQ{c m:Str}{k n:V}{G:Þ->Hs->bB2}{a:aD}{fa:cu}{J hp1:Hs}{fs:ER}{ds:Þ}{r:Str × Hs}(o:a env J>(NO,J))(h:YP>aV3)(j:ų bi4)(ha:cV2>(ds,hp1))(hl:ê+1=k)(i:G (NO::ds) hp1>r):Vo c m k G a fa env J>r:=by
 ext Vo;let e:m_ c ↑n (λ_ fs=>QE bl8) J>((),J):=Ũ (xj h) j
 rw[ve o,ve e,ve ha,C8 hl];show i
def Qgv{O4:V}{a:TP.Lv}(O:a.Ok O4)(h0:a.lv=0){pg:bG6}(lf:∀k,k<a.q->pg[k]?>(TP.ZX a k)){S:TR.Sh}(c:S.pg=pg):∀k,k<=a.q->du3^ĉ k=a.rows.take^a.s k:=by
 intro i;induction i with
 |zero=>intro _;have:a.s 0=0:=TP.UN O.m_pos _;rw[this];rfl
 |succ k e =>
  intro h;rw[List.range_succ,List.flatMap_append,e À,<- TP.Qd5 O À];congr 1;have:Yq S k=TP.Za a.rows a.m a.fork k:=cp0 Yq c (lf k À)^TP.Qjf O h0 k
  simp[this]
def jS{α β:pZ}{m:cq6}{k:α->M β}(h:ų^m J):ų^(m >>= k) J:=ĸ (ų^(m J).bind _) h
def SR{c m:Str}{n a:V}{F:Em}{o:aD}{fa:cu}{J hp1:Hs}{fs:ER}{ds:Þ}(i:cC5>(Χ,J))(h:J[a]?>aV3)(e:ų bi4)(ha:cV2>(ds,hp1))(hn:ê+1=n):QO c m n F o fa env J=F (Χ::ds) hp1:=by
 ext QO;rw[Qe i];have:m_ c Ű (λ_ fs=>QE bl8) J>((),J):=Ũ (xj h) e
 rw[IU,bZ1,Ea hn];rfl
def QnG{rows:TP.Rw}{O4:V}(E:2<=O4)(z:F3 a b<|a.1<b.1){F:Eo}(u:∀k v,cI9>v↔(k,v)∈rows):∃bg,wB Ff/\TR.Fk Ff/\(∀n,n<cs8 Ff->n≠(Ff).top->TR.Kd Ff n)/\ai3 Ff<=Ā O4/\TR.Zero Ff bg/\TR.cB Ff F:=by
 let(bg,L,P,j):=Qg0 (rows:=rows) (O4:=O4) E z;let(T,I,Y2):=P.tree j;let i:=P.lf 0^Ay Á P.ok0.q1;apply#[bg,#[T.bf,T.root,T.mO,T.page,T.link,T.kid,T.dis,T.pred],P.ne,ľ s h1 h2,?_,#[ö i.2,TP.ZX ao7 0,i.1,Y],Ż k v]
 .let J:OS[s]?>OS[s]:=Ab h1;let(G,o):=P.pt.lvl s _ J;by_cases c:OS[s].lv<L.lv
  .show P.pt.told s _ J c
  .let b:=o À;let ln:=P.pt.len;let h2:s≠hF OS-1:=h2;let h1:s<⇑OS:=h1;lia
 .exact _<=(ao7).q;ext TR.Jv;have:=TR.YT (l:=AZ ⇑OS (TR.c7 Ff λ x=>FC x 0)) (m:=ĉ (ao7).q) (Ma List.nodup_range) λ x hx=>by let(h1,h2):=Bm.mp hx;let h1:x<⇑OS:=bm4 h1;let J:OS[x]?>OS[x]:=Ab h1;apply bh5^P.DQ x _ J ?_;unfold TR.c7 at h2;let hp':(Ff).pg[x]?>OS[x]:=J;rw[hp']at h2;simpa using h2
  rwa [List.length_range]at this
 .let e:bW7 (ĉ (ao7).q)^Yq Ff=rows:=by rw[Qgv P.ok0 P.cX (λ k y=>(P.lf k y).1) Y _ Ĕ,(ao7).s_end,List.take_length];rfl
  let r:(k,v)∈rows↔(k,v)∈bW7 (ĉ (ao7).q)^Yq Ff:=aF0
  rw[u,r,List.mem_flatMap];constructor
  .rintro⟨m,h1,h2⟩;let q1:=(P.lf m^bm4 h1).1;let q1:(Ff).pg[m]?>(TP.ZX ao7 m):=q1;unfold Yq at h2;rw[q1]at h2;show#[m,_,q1,Y,h2]
  .rintro⟨m,q,q1,C,h2⟩;apply#[m,bh5 (P.DQ m q q1 C),?_];ext Yq;rw[q1];show h2
variable{w:Hs}{s v:V}{ds:ϻ}{t:TR.St}{L:V->V}{Q:Dn}{F:Eo}{M:V->Ć}{G:V->IN}{H c q i:V}{b:V->V}{bg:TR.Bg}
def WX(N:TR.Nm ds t bg F M){rows:TP.Rw}(o:cB6 t.S)(tb:bh0):rows=z:=by let(r,c,_,e):=N.leaves tb.rise tb.fn;let(c',x,p',g1,g2,g3,g4,_,_,j):=o;let(z1,u,z2,z3):=N.Z;let a:=TR.QgN N.T g2 z2 À g4 z1;subst a;rw[j,TR.Qc8 g1 c,e]
def N8{z:Zs}(h8:w[8]?>AA)(tb:bh0)(hz:bX0<=60)(o:∀q∈z,aB4/\aO q.2){E:En}{j:V}(hv:Iq E>dc5):Qy 1 ZY (Ç^iS (cQ^ð KR^Qb j) [j] Xr^ak9 Å^ϖ Û Å) E w>(Õ^pT z,w):=by
 let r:=QcF tb.d tb.rise (ī<|bX0<64) (f:=Qb j) (env:=E) (n:=8) (J:=w) (ak hv) h8;let a:cQ (ð KR^Qb j) E w>(cJ aV7,w):=fN cQ r
 let u:∀d,(cE [j] E d)[1]?>dc5:=λ d=>by ext cE;simp[hv];rfl
 let e:=QbB (J:=w) (t:=λ d=>Xr^cE [j] E d) (f:=λ d=>ZL (á Å^ϖ Û Å)^cE [j] E d) z ah0 (λ q hq=>Y) (λ q hq=>ax7^Iw^at0 (ã 8) y (Í FO) (ak^u _) Ã^Si h8^tb.d.val tb.rise hq) À;rw[Co.mpr an5]at e;apply at7 ?_^uI (D:=OT z) ϊ o À;ext Zd;rw[Qe a,Qe^â (Je _ _ _ lim 0 w=_) e];rfl
def QmH(D:Dk w 0 s v ds t L Q)(hl:ag5<=8)(z:ÿ bi5):ų^QV [ã 0,i8] w/\YD [ã 0,i8] w>(đ bt5,w):=by
 have T:DV:=õ [i8]
 have E:En:=[rq 0,! i8,! T,! i8]
 let id:JM (eB^cW7 ck8 JC) [rq 0] w>co9:=IG b false^ĵ (P7 bh3 D.A.hv (WR ..) Yv^Ws D.A À) z;let rd:Zu [i8] w>(T,w):=as3
 let r:Yy [T] w>(ő,w):=ĵ (Oo cN2 [] w)^WN cN2 È;let e:QR 2 (om Zu Û) [rq 0,! i8,ń,ń] w>(ō [rq 0,! i8,! T,ń],w):=Qv^cf0 rd;let j:QR 3 aq2 [rq 0,! i8,! T,ń] w>(bC1,w):=Qv^bS5 T Y 0 w;let o:∀f:aN,ci0 (om Yy ß) f E w>(bC1,w):=λ f=>QX^QK^cf0 r;let a:∀{y:Str} {f:aN},y∈nM->iN (đ cN2) y->ci0 (ly Ă y) f E w>(bC1,w):=λ C hn=>skip Y È C hn;constructor
 .let pt:ų^Z8 [ã 0] w:=jS^jS^M3 id;let last:ų^QG (Fc^bQ7 Ę Lb Z8 Å) E w:=jS^jS^jS^à (SR Ã D.dk (NZ ..) Yv Y) pt;apply jS ?_;show Ļ e j (Ļ (o _) (a È Y)^Ļ (a È Y) (a È Y)^Ļ (a È Y) (a È Y) last)
 .let u:Yl [ã 0] w>(đ bt5,w):=BB (n:=1) (ds:=[ã 0])^à (QrO id) Y;apply BB (n:=4) (ds:=[ã 0,i8]) ?_;show dn2 e (dn2 j^dn2 (o _)^dn2 (a È Y)^dn2 (a È Y)^dn2 (a È Y)^dn2 (a È Y)^dn2 (a È Y)^QbQ Ã D.dk (NZ ..) Yv Y u)
def Pn.pack(P:Pn ds t Q H b F M G)(C:Ĭ bi5)(S:Sm t.S bg)(N:TR.Nm ds t bg F M){rows:TP.Rw}(x:cB6 t.S)(tb:bg9 rows):Pn ds (ø t S NS) Q H b F M G:=by
 let(a9,Y0):=P.Y0;let(z,y,Y2,I,e,O,E):=QnG S.T.bf (x.sorted S.T) tb.fn;let o:∀q∈rows,aB4/\aO q.2:=by let(c,r,p,a1,a2,a3,a4,a5,R,U):=x;rw[U];show P.X.leaf r λ m hm=>(R m).mp hm
 let no:bH3 i u TR.Wk<|NB>u->FK->False:=λ{i u} hi hu=>ND ((TR.qK C).2 i u hi) hu this
 apply#[#[z,Y0.pack C y Y2 I (av9 S.rm) (Bi e^x.qn S.T) _],#[z,#[y,#[λ i u h1 h2=>L4 h1 h2,λ i u c h1 h2=>L4 h1 h2,λ i j u u' c _ h1 _ h2=>L4 h1 h2],O,E,N.ky,λ i u h1 h2=>L4 h1 h2,N.un,N.nw]],#[?_,P.X.ws,P.X.ns],P.de,P.an,#[P.T.nw,P.T.ac,P.T.dn,P.T.cv,P.T.ct],P.hl,P.rm,P.h0,P.h8,P.lM];show TP.QmU (P:=aO) (â ((0:V)<=big) Fm) _ (ao6 t.S.O4) _ (λ r a=>(o r a).1) λ p J=>ca1 j (bK8 J)^TP.MH (â ((0:V)<=big) Fm) (λ r a=>(o r a).1) (λ_ r a=>(o r a).2) j
#where
def Db{f:aD}{b:Bool}(h:i0>(FH,hp1)):Hx f env J>(be9 b,hp1):=aa5 Hx b
variable{w w':Hs}{s v:V}{ds:ϻ}{t t':TR.St}{L:V->V}{Q:Dn}{F:Eo}{M:V->Ć}{G:V->IN}{H c q:V}{b:V->V}{bg:TR.Bg}
def Pn.zb(P:Pn ds t Q H b F M G)(tb:bh0):∀q∈z,aB4/\aO q.2:=λ q hq=>by let(bg,N):=P.N;let(r,_,_,_,mem,_,a):=TR.QbZ N.T N.tb N.Z;show P.X.leaf r mem q ((a FO q.2).mpr^(tb.fn FO q.2).mpr hq)
def DJ(W:Wd w s v ds t L Q F M G c)(P:Pn ds t Q H b F M G):∃kvs z w',w[8]?>AA/\bh0/\bX0<=60/\IQ q z (aB4/\aO q.2)/\QV [ã 0,Õ fF] w>(Õ^pT z,w')/\∀x,x<ĳ->w'[x]?=w[x]?:=by let(bg,S,o,N):=P.sm;let(kvs,z,a,tb):=W.K.h8;let(rows,w',j,e,kp,_):=QnD W.D S P.X;let i:=WX N j tb;subst i;show#[kvs,rows,w',a,tb,P.hz _ _ tb,P.zb tb,e,kp]
def eP(st:Bool)(z3 z4:Sl):En:=[rq 0,rq 8,!(ŏ st),z3,z4]
def BY(Y1:Ev w s v ds t H b c):∃w' s' t',Ya [ã 0,ã 8,ŏ bi5] w>(Ő,w')/\Ev w' s' v ds t' H b c/\kd t'=bi5:=by
 let(L,Q,F,M,G,W,P):=Y1.ex;let(bg,S,hc,N):=P.sm;let s0:∀st,QR 3 pE (eP st ń ń) w>(ō^ai5 st Ő ń,w):=λ st=>Qv Y;let ne:∀(st:Bool)(w:Hs),bJ6 (i4 cW Ă ß) AD (ai5 st (ŏ st) ń) w>(ō^ai5 st (ŏ st) ń,w):=λ st w=>QX^Ω Ã Ã^Qjw (Qsh 0 st) Á w;cases i:bi5 with
 |false =>
  let(n1,n2):=QmH W.D (Æ P.hl P.h8) i;let(kvs,z,C,tb):=W.K.h8;let tr:rA (Zy ci1) (FZ (Vo Ę "say" 2 YD Å^Ç NR) bt5 3 false) (br0 Ő ń) w>(ō^br0 ő ń,w):=by let a:ų^Zy ci1 (br0 Ő ń) w:=jS^à (SR Ã W.D.dk as6 (QL Y) Y) n1;let g:Vo Ę "say" 2 YD Å (Ç NR) (br0 Ő ń) w>(đ bt5,w):=QbQ Ã W.D.dk as6 (QL Y) Y n2;ext rA;rw[a];exact(Vo _ _ _ _ _ _ _ w).bind _=_;rw[g];rfl
  let I:QR 4 (om ZY zL) (br0 ő ń) w>(ō^br0 ő^cb9^pT z,w):=Qv^N8 (j:=1) C tb (P.hz _ _ tb) (P.zb tb) Y;apply#[w,s,t,EO (br0 ő^cb9^pT z) (s0 false) tr (Ļ (ne false w) I^Qt^à (yL^Db Ã) Y),Y1,i]
 |true =>
  let(rows,n,e,it,e1,O,F1):=QqR W.D S i (Æ P.hl P.h8) hc;let(a9,z0,a0,R):=W.K.h8;let er:=WX N it R;subst er;let r:=P.pack i S N it R;let(ox,Ls):=W.one O F1;let u:Wd e n v ds (ø t S NS) L Q F M G c:=#[O,ox,W.K.keep Ls];let(kvs,z,o,C,tb,hz,U,e2,Y2):=DJ u r;let y:=u.more Y2;let(aP,S',_):=r.sm;let(g,e3):=QnC y.D S';let W3:=y.more (w':=o++g) λ x hx=>Ag hx;let tr:rA (Zy ci1) (FZ (Vo Ę "say" 2 YD Å^Ç NR) bt5 3 false) (dc8 Ő ń) w>(ō^dc8 Ő ń,e):=by let a:Zy ci1 (dc8 Ő ń) w>(ō^dc8 Ő ń,e):=Zz^cV6 W.D.dk Y e1;ext rA;rw[a]
  have E:En:=dc8 Ő^cb9^pT z
  let I:QR 4 (om ZY zL) (dc8 Ő ń) e>(bC1,e):=Qv^N8 (j:=1) C tb hz U Y;let ok:=(UV U).ok;let q1:Qg aV (bQ6^Ċ fF) ě E e>(Ő,o):=Qj (cV6 u.D.dk Y e2) Ã^iu _ ok ok Ê;let q2:Qg aV (bQ6^Ċ K3) be4 E o>(Ő,o++g):=io (cV6 y.D.dk Y e3)^iu _ (FB "yes") (FB "yes") Y;apply#[o++g,n,ø t S NS,EO E (s0 true) tr (Ļ (ne true e) I^Qt^à (yL (b:=false)^Db (b:=true) Ã)^à (C7 Á)^à (G4 q1)^à pv q2),#[L,Q,F,M,G,W3,r],i]
#where
def Qs2{α:pZ}{J l:Fa}{j:V}{x:α}(h:Iq l>x):(J++l)[wp+j]?>x:=i3 aL1 Nat.add_sub_cancel_left h
def Dg{α:pZ}{J l:Fa}{x:α}:(J++x::l)[wp]?>x:=Qs2 (j:=0) Y
def jT{c k:Int}(h:JZ c)(a:0<k):JZ<|c / k:=QfZ (by
 have:=PySem.natAbs_fdiv_le c k
 rwa [bX6 _]at this) h
def QmD{x y:Int}(hx:JZ x)(a:JZ y):Fg cY0 ↥y=wX (x * y):=by have:Ĭ^WK x y:=Ea #[hx,a];simp[Fg,j6,this]
def Qta:jy ↥1000000007 ↥3=wX lp:=Y
def N_(c:Int)(h:JZ c)(J:Hs):∃k,YA [Í c] J>(Ll,J)/\aO k:=by
 let o:=dl4 c 6 Á Á J;let z:=cn0 c 6 J
 have E:En:=[Ý c,Ý<|c / 6]
 let e:QR 1 (wC YG 6) [Ý c,ń] J>(bC1,J):=Qv^wn o;let t:∀i:Int,eB (Ò eE (wC X8 6) i) E J>(c % 6==i,J):=λ i=>Ω (wn z) Y^ZQ (qx _ _) _;let j:Qg jy LY (ġ 30) E J>(Í ą,J):=io Y^ZQ Z_ _;cases h0:(c % 6==0)with
 |true =>
  let r:JZ^Ñ lp:=Á
  let m1:=ZQ (QmD (jT h (k:=6) Á) r) J;let x:=cn0 (c / 6 * lp) (2 * ą+1) J;let m3:=ZQ (WZ 2 ą Á Á) J;apply#[_,bo3 E e (rL (ĵ (t 0) h0)^Qj (Qj (Qj Ã (io Y^ZQ Qta _) m1) (io (Qj Y j m3) Y) x) j Y),?_];ext aO big;have:=IM (c / 6 * lp)<|fP<|Ñ (2 * ą+1)≠0;have:=t9 (c / 6 * lp)<|fP<|da3<2 * ą+1;generalize (c / 6 * lp) % (2 * ą+1)=q at *;lia
 |false =>
  cases h1:(c % 6==1)with
  |true =>
   let y:=cn0 (c / 6) 4 J;let g0:0<=c / 6 % 4:=IM _ Á;let g1:c / 6 % 4<4:=t9 _ Á;obtain⟨v,hv,lv⟩:∃v:Int,bH (Ù [Í ą,Í<|-ą,Í<|ą-1,Í<|1-ą]) ↥(c / 6 % 4) J>(dm6,J)/\aO v:=by obtain q|q|q|q:=(À:c / 6 % 4=0∨c / 6 % 4=1∨c / 6 % 4=2∨c / 6 % 4=3)<;>rw[q]<;>show#[_,Y,by ext aO big;decide]
   let u:JH (d5 cb7 cb8 (dr3 cb7)^Qg zi bn cb7) E J>(Ù [Í ą,Í<|-ą,Í<|ą-1,Í<|1-ą],J):=Y;show#[v,EO E e (QX^ĵ (t 0) h0) (rL (ĵ (t 1) h1)^Qj u (wn y) hv),lv]
  |false=>let a:=cn0 (c / 6) 17 J;apply#[_,EO E e (QX^ĵ (t 0) h0) (at6 (ĵ (t 1) h1)^io (wn a) Y),?_];ext aO big;lia
def Ww{d:TR.aG}{k:Int}(h:aO k)(e:TK=[k])(a:∀l h,d≠Ϝ l h):dI d:=#[λ i hi=>by rw[e]at hi;rw[aL6 hi];show h,λ l h z=>Ė z^a l h]
def N5{d:TR.aG}{k x:Int}(h:aO k)(h':aO x)(e:TK=[k,x])(a:∀l h,d=Ϝ l h->l<h):dI d:=#[λ i hi=>by
 rw[e]at hi;obtain Y|hi:=ny hi
 .show h
 .rw[aL6 hi];show h',a]
def Qpd(c:Int)(h:JZ c)(J:Hs):∃d,Yz [Í c] J>(ng,J)/\dI d:=by
 let P:=cn0 c 9 J;let Y2:=dl4 c 9 Á Á J;let(k,L,r):=N_ (c / 9) (jT h Á) J
 have E:Sl->En:=λ z=>[Ý c,Ý<|c % 9,Ý k,z]
 let v:QR 1 (wC X8 9) [Ý c,ń,ń,ń] J>(ō [Ý c,Ý<|c % 9,ń,ń],J):=Qv^wn P;let C:QR 2 (om YA^wC YG 9) [Ý c,Ý<|c % 9,ń,ń] J>(bu2 ń,J):=Qv^at7 (wn Y2) L;let t0:eB (bn7 eE 0) bV0 J>(c % 9==0,J):=Ω Ã Y^ZQ (qx _ _) _;let u:∀i:Int,eB (bn7 bV i) bV0 J>(Af (c % 9) i,J):=λ i=>Ω Ã Y Y;cases h0:(c % 9==0)with
 |true=>show#[.find k,EO bV0 v C (rL dd8^ax7^ZP Y Ã),Ww r Y λ_ _ z=>ď z]
 |false =>
  cases h5:Af (c % 9) 5 with
  |true=>let(x,xe,xl):=N_ (c / 37) (jT h Á) J;let F:=dl4 c 37 Á Á J;show#[.put k x,EO bV0 v C (Qo (QX dd8)^rL (ĵ (u 5) h5)^ax7^bZ6 Y^at7 (wn F) xe),N5 r xl Y λ_ _ z=>ď z]
  |false =>
   cases h7:Af (c % 9) 7 with
   |true=>show#[.cut k,EO bV0 v C (Ļ (QX dd8) (QX^ĵ (u 5) h5)^rL (ĵ (u 7) h7)^ax7^ZP Y Ã),Ww r Y λ_ _ z=>ď z]
   |false =>
    let(y,ye,yl):=N_ (c / 131) (jT h Á) J;let I:=dl4 c 131 Á Á J;let R:QR 3 (om YA^wC YG 131) bV0 J>(bu2^Ý y,J):=Qv^at7 (wn I) ye;obtain⟨o,U,Q,l1⟩:∃o:Int,bJ6 (i4 eE Ă ß) (QR 3^dr3 ß) (E^Ý y) J>(bu2^Ý o,J)/\o≠k/\(aO o∨o=k-1):=by
     let t:eB (Qg eE Ă ß) (E^Ý y) J>(y==k,J):=Ω Ã Ã^ZQ (qx _ _) _;cases e:(y==k)with
     |true=>show#[k-1,ZN aU2 (Qv^wn Y),À,cG1]
     |false=>show#[y,(QX aU2),λ z=>by rw[z]at e;simp at e,ë yl]
    obtain⟨j,s5,n2,G⟩:∃j:Int,bJ6 (i4 bV Ă cb8) (QR 3 cg7) (E^Ý o) J>(bu2^Ý j,J)/\j≠k/\aO j:=by
     let t:eB (Qg bV Ă cb8) (E^Ý o) J>(Af o<|-ą,J):=QK^Qj (y:=Í (-ą)) Ã Y Y;unfold aO big at *;cases e:Af o<|-ą with
     |true=>have:=Eb e;show#[k+1,ZN aU2 (Qv^wn Y),À,À]
     |false=>have:=of_decide_eq_false e;show#[o,(QX aU2),Q,À]
    let O:Ew [Ll,bN3]=wX^É (j<k) j k:=Y;let hi:Ey [Ll,bN3]=wX^É (j >= k) j k:=Y;apply#[Ϝ (É (j<k) j k) (É (j >= k) j k),EO (E^Ý j) v C (Ļ (QX dd8) (QX^ĵ (u 5) h5)^Ļ (QX^ĵ (u 7) h7) R^Ļ U s5^az4^J4 Y (ZI cf7^ZQ O _)^ZI cf7^ZQ hi _),N5 ?_ ?_ Y (ľ a b z)]
    .split
     .show G
     .show r
    .split
     .show G
     .show r
    .let(Y,Y):=TR.aG.stretch.inj z
     split<;>split<;>lia
def tG(st:Int)(n:V):ϻ:=mx n^λ j:V=>.put (bt9 * st % 47-9)<|100+j
def Qlu(c:Int)(J:Hs):∃ds:ϻ,ê<=23/\zo [Í c] J>(bo0,J++[Ù aW0])/\∀d∈ds,dI d:=by
 let a:=dl4 c 24 Á Á J;let G:=cn0 (c / 24) 5 J;let u:=cn0 c 24 J;let g0:0<=c / 24 % 5:=IM _ Á;let g1:c / 24 % 5<5:=t9 _ Á;let g2:0<=c % 24:=IM _ Á;let g3:c % 24<24:=t9 _ Á;let(n,hn):=WU g2;obtain⟨st,r,I,Y2⟩:∃st:Int,dv2 (Ù [Í 7,Í 11,Í 23,Í 1,Í 46]) (c / 24 % 5)>(Í st,J)/\0<=st/\st<=46:=by obtain q|q|q|q|q:=(À:c / 24 % 5=0∨c / 24 % 5=1∨c / 24 % 5=2∨c / 24 % 5=3∨c / 24 % 5=4)<;>rw[q]<;>show#[_,Y,Á,Á]
 have E:En:=[Ý c,Ý st]
 let u1:QR 1 (ϖ (JH^EW (ġ 7) (ġ 11) (ġ 23) bn^ġ 46)^Ò X8 (wC YG 24) 5) [Ý c,ń] J>(bC1,J):=Qv^Qj Y (io (wn a) G) r;let v:⇑(tG st n)=n:=by ext tG;simp
 let C:=V9 (J:=J) (nxt:=cJ cr2) (t:=λ d=>Xr^cE [1] E d) (f:=λ d=>ZL (Ħ (Ċ dQ) (Ò zi (Ò X8 (Qg su Å Û) 47) 9)^nB (ġ 100) Å)^cE [1] E d) cr2 (mr (tG st n) QY) (di3 Br v ZC) (λ i hi=>YI _ i hi J) (λ d _=>Y) (λ j d e hd o=>by let(lj,Y):=xp hd;unfold tG at o;rw[List.map_map,Bt,zu lj]at o;rw[<- Aj o];show ax7 (J4 Y (io (io (at0 (ĕ j) y (Í st) Y Y^ZQ (WZ bt9 st À À) J)^cn0 _ 47 J) Y)^io Y Y)) aC1
 apply#[tG st n,À,ā E (l7 u1 ?_),Ż d hd]
 .ext Vm Zd;rw[Qe^VU^bM2 m n (ĵ (wn u) hn) À,P9<|lim=Ĺ,Qe C];rfl
 .unfold tG at hd;let(j,F,Y):=bK8 hd;have:=bm4 F;apply N5 ?_ ?_ Y λ_ _ z=>ď z
  .ext aO big;have:=IM (bt9 * st)<|fP<|Ñ 47≠0;have:=t9 (bt9 * st)<|fP<|da3<47;lia
  .ext aO big;lia
def Qtm{α:pZ}(J l:Fa)(j:V)(x:α):(J++l).set (wp+j) x=J++l.set j x:=Ϗ (ϲ _ À) Nat.add_sub_cancel_left
def FW{α:pZ}(J l:Fa)(x y:α):(J++x::l).set wp y=J++y::l:=Qtm J (x::l) 0 y
def tW:TR.Wk:=#[.find 0,0,0,none,[],none,none,[],true]
def qk(S:TR.Sh)(H:V):TR.St:=#[S,ă H tW,ă H 0,0]
variable{w J:Hs}{s v H n r:V}{S:TR.Sh}
def QnZ(u:H<=8):Jo [bo0,ã s,Í H] (J++[bO5 û])>(Ě,J++[bq3 wp 0,Ο,dd9 H,Ο]):=by
 have E:En:=[! eJ,rq s,aP8]
 have n:=wp
 have w:ER->Hs->Hs:=λ fs t=>J++aV2 û::t
 let st:∀(nm:Str) (e:aD) (v:DV) (fs:ER) (t t':Hs),e E^w fs t>(v,w fs t')->aQ6<ej->Zq û nm Å e E^w fs t>(bC1,w (Xx nm v fs) t'):=λ nm e v fs t t' i hl=>Ϗ (ZV i Ã Dg hl) FW
 let c:∀(fs:ER)(t:Hs)(o:OV),XH o^w fs t>(ã<|n+(⇑t+1),w fs (t++[o])):=λ fs t o=>by exact í (Ty ⇑(J++_::t),(J++_::t)++[o])=_;simp[w,n]
 let nl:∀(fs:ER)(t:Hs),Yw Qk E^w fs t>(ã<|n+(⇑t+1),w fs (t++ci9)):=λ fs t=>c fs t Ο
 have a:ER:=[cm9 s,aG1 K1<|n+1,(ap1, cF3)]
 let j:Qg CG (rh fY) ß E^w a ci9>(ã<|n+2,w a [Ο,dd9 H]):=by apply at0 (Ù [Ě]) y (Í H) Y Ã ?_;ext CG;exact(ag (0<=Ñ H/\bR7 H<=Ĺ) >>= λ_=>XH^dd9^bR7 H:Ģ) _=_;rw[Ea #[À,À],Qe (Y:QE true^w a ci9>((),w a ci9))];show c a ci9 _
 apply aM3 E ?_;apply ϩ^st ı _ ↑s [] [] [] Ã Á;apply ϩ^st K1 _ ↑(n+1) [cm9 s] [] ci9 (nl _ []) å;apply ϩ^st ap1 _ ↥0 [cm9 s,aG1 K1<|n+1] ci9 ci9 Y å;apply ϩ^st "held" _ ↑(n+2) a ci9 [Ο,dd9 H] j å;show st bL5 _ ↑(n+3) [cm9 s,aG1 K1<|n+1,(ap1, cF3),aG1 "held"<|n+2] [Ο,dd9 H] [Ο,dd9 H,Ο] (nl _ [Ο,dd9 H]) å
def wg(s v H:V):Hs:=[bq4 0,Ο,dd9 H,Ο]
def Qn4(e:H<=8){fa:cu}(ha:fa E w>([ã s,Í H],w)):Yo û 3 Jo fa E w>(aB7,w++wg s ĳ H):=by ext Yo;rw[bZ1];let c:QE (FC (hF [Ty s,bP3 H]+1) 3) w>((),w):=Y;let a:XH (bO5 û) w>(aB7,w++[bO5 û]):=Y;rw[aP2,Qe a,Qe^QnZ e];rfl
def Qpe(y:H<=8){fa:cu}(ha:fa E w>([Í r,Í H],w)):Yo Ę 3 J9 fa E w>(aB7,w++([dp1 Ę (ĳ+1) (ĳ+3) 0,i6 r (ĳ+2) 0 0 0,Ù df8]++wg (ĳ+1) (ĳ+3) H)):=by
 have b:=ĳ
 have D:ER->OV:=λ fs=>aV2 Ę
 have Sh:OV:=i6 r (b+2) 0 0 0
 have a:Hs:=w++[D []]
 have j:ER:=[cm9<|b+1]
 have c:Hs:=w++[D j,Sh,Ù df8]
 have e:ER->Hs:=λ fs=>w++([D fs,Sh,Ù df8]++wg (b+1) (b+3) H)
 have F:En:=[rq b,Ý r,aP8]
 let o:⇑a=b+1:=my a b
 let z:bT6=b+3:=my c b
 let C:Zq Ę ı Å (Yo è 2 JG dm5) F a>(ō F,c):=by let sm:=QcE (r:=r) (J:=a) (hp0:=a) (env:=F) (fa:=dm5) ύ;unfold dM at sm;rw[o]at sm;apply ϔ^ZV sm Ã (fs:=[]) (à (Ag^Æ o^Cv b) Dg) Á;exact í (_,((w++[_])++[_,_]).set ĳ _)=_;rw[A7];exact í (_,(w++_::_).set ĳ _)=_;rw[FW];rfl
 let Y2:Yo û 3 Jo (á FM ß) F c>(ã<|b+3,e j):=by apply ϔ^Qn4 y^ZP (θ Dg Y) Ã;rw[z];exact í (Ty<|b+3,(w++[_,_,_])++_)=_;rw[A7]
 let G:Zq Ę md Å (Yo û 3 Jo^á FM ß) F c>(ō F,e [cm9<|b+1,aG1 md<|b+3]):=aN2 (ϔ^ZV Y2 Ã Dg å) (í (_,(w++_::_).set ĳ _)=_) FW
 let I:Zq Ę K2 Å bG F^e [cm9<|b+1,aG1 md<|b+3]>(ō F,e (fB (b+1) (b+3) 0)):=aN2 (ϔ^cF4 v cF3 Y Dg å) (í (_,(w++_::_).set ĳ _)=_) FW
 ext Yo;rw[bZ1];let x:QE (FC (hF [bP3 r,bP3 H]+1) 3) w>((),w):=Y;let u:XH (bO5 Ę) w>(aB7,a):=Y;let i:J9 [da5,Í r,Í H] a>(Ě,e (fB (b+1) (b+3) 0)):=aM3 F^Ļ C G I;rw[Qe x,Qe u,Qe i];rfl
def JW{i:V}{u:TR.Wk}(h:Ů (qk S H).ws>u)(a:FK):False:=į (F9^Aw h) a a
def Sr:TR.lc (qk S H).ws=0:=by
 exact TR.lc^ă H tW=0;ext TR.lc;rw[Cu.mpr^Ż v hv]
 .rfl
 .rw[F9 hv];decide
def WB.idle(h1:w[s]?>(i6 S.O4 (s+1) S.top S.rd S.wr))(h2:OM w (s+1) δ)(hv:∀j:V,j<4->w[v+j]?=Iq^wg s v H)(sv:s+1<v∨v+3<s):WB w s v [] (qk S H) aR6 []:=by
 apply#[h1,h2,hv 0 Á,hv 1 Á,#[ă H Ě,hv 2 Á,bG2 (_=⇑(ă H tW)),ľ i u hi],hv 3 Á,Æ Sr Ĕ,sv,λ i u hi a=>AB hi a,λ i j u e _ hi a=>AB hi a,cX3];let a:bO3:=ö^F9^Aw hi
 let c:i<H:=cR7 (Zw hi)^â ((qk S H).ws.length=H) List.length_replicate
 rw[Hv a,List.getElem?_replicate,C8 c]
def Sa{x:V}(h:Fp s v (qk S H) aR6 [] x):(s<=x/\x<=s+1)∨(v<=x/\x<=v+3):=by
 obtain h|h|⟨i,u,h1,h2,_⟩|⟨q,hq,_⟩:=h
 .show FE
 .show ċ h
 .show AB h1 h2
 .cases hq
#where
def QcM(r:V)(h:2<=r):TR.Tree #[r,[aZ8 0 [] []],0,0,0] pA:=by
 let one:bT n p TR.Pg<|ID ([aZ8 0 [] []]:bG6)>p->n=0/\p=aZ8 0 [] []:=λ n p J=>by
  match n,J with
  |0,J=>cases J;show rg
  |n+1,J=>simp at J
 apply#[h,#[_,Y,ľ n p J],Y,ľ n p J,ľ n p J,mo n p J h0,λ n m p q hn c _ e=>?_,λ n p J v hv=>ď hv]
 .rw[(one n p J).2];show Ĕ
 .rw[(one n p J).2];show#[List.Pairwise.nil,Fm,Y,az7 k a a,λ_ k a=>ď a,az7 k a a,az7 h hh hh]
 .rw[(one n p J).2];show dn4
 .rw[(one n p J).2]at h0;show Ė h0 Á
 .show Ė (à (one n p hn).1 (one m q c).1.symm) e
def p7(r:V):TR.Sh:=#[r,[aZ8 0 [] []],0,0,0]
def aX.idle{r H:V}(h2:2<=r)(h5:r<=5):TR.aX [] (qk (p7 r) H) pA aR6:=by
 apply#[QcM r h2,#[λ i v hv a=>dq6,λ i v c hv a=>dq6,λ i j v u c _ hv _ a=>dq6],mo n p J o,ľ n e y,av9 h5,bG2 (hF^ă H 0=⇑(ă H tW)),Fm,?_,λ i v hv a=>dq6,λ i v hv a=>dq6]
 .have:p=aZ8 0 [] []:=by
   match n,J with
   |0,J=>cases J;rfl
   |n+1,J=>simp[qk,p7]at J
  rw[this]at o;show Ė o Á
 .let x:n<1:=e;show Ė (ī<|n=0) y
 .let z0:TR.zc^ă H tW=0:=by
   ext TR.zc;rw[Cu.mpr^Ż v hv]
   .rfl
   .rw[F9 hv];decide
  exact ai3^p7 r+TR.zc^ă H tW<=1+0;rw[z0];show Ae 1
def nJ.idle{r H:V}:TR.nJ aO^qk (p7 r) H:=#[λ p J=>tm J #[az7 k c c,λ_ x hx=>ď hx,az7 h hh hh],λ i v hv a=>dq6,λ x hx=>Æ (F9 hx) Fm]
variable{w w':Hs}{s v:V}{ds:ϻ}{t t':TR.St}{L L':V->V}{Q Q':Dn}{F:Eo}{M:V->Ć}{G:V->IN}{H c q i j m B:V}{b:V->V}{ns:Ĥ}{a:Int}{e1 e8 e10 bW:Sl}
def eL(ns:Ĥ)(e1:Sl)(H:V)(e8 e9 e10 bW fQ:Sl):En:=[ax6 dA,e1,aP8,rq 0,rq 7,rq 8,rq 9,rq 10,e8,e9,e10,bW,fQ]
def MN{E:En}{ns:Ĥ}{j:V}{a:Int}(h0:E[0]?>(Ü^Ù dA))(h9:E[9]?>(Ý (j:V)))(e:Iq ns>a)(w:Hs):AK Å Fs E w>(Í a,w):=Qj (ak h0) (ak h9)^Oj (Ũ Bt e) w
def QpF{J:Hs}{a:V}{ds:Þ}(h:OM J a<|ds++[d]):dv2 Ű (-1)>(d,J):=by exact(cL4 >>= _) J=_;rw[aP9];have:atI (ds++[d]) (-1)>d:=Qh3 _ _;exact(VM<|atI (ds++[d])<|-1) J=_;rw[this];rfl
def QmI(Y1:Ev w s v ds t H b c)(hb:JZ a)(hk:Iq ns>a)(hl:ê<43):∃w' d,Qq (bg1 ě^om Yz cw1) (Zy^bT5^om X5^ϖ ě ar6) (cn3 H e8 (Ý (j:V)) ń) w>(ō^cn3 H e8 (Ý (j:V)) ń,w')/\Ev w' s v (ds++[d]) t H b c:=by
 let(L,Q,F,M,G,W,P):=Y1.ex;let(d,de,dk):=Qpd a hb w
 have E:=cn3 H e8 (Ý (j:V)) ń
 have o:Hs:=cO5 7^aU5 aW0 [ng]
 let Y2:Zy (Ζ Đ Jr ě^om Yz cw1) E w>(bC1,o):=Zz^YE Ã W.K.h7 (at7 (MN Y Y hk w) de) cd3;let y:OM o 7<|aW0++[ng]:=fM W.K.h7;let u:Dk o 0 s v ds t L Q:=W.D.keep λ x hx=>Zn _ _ _ _ λ e=>W.ox 7 Á Á<|e▸hx;let(r,e2,C,I):=Wp u dk À;let a9:=W.K.len;let kp:∀x,7<=x->x<=10->r[x]?=o[x]?:=λ x h1 h2=>I.old x (by exact x<⇑(cO5 7 _);rw[List.length_set];lia)^W.ox x h1 h2;let O:Zy (bT5^om X5^ϖ ě ar6) E o>(bC1,r):=Zz^cV6 u.dk (at7 (wn^QpF y)^WA dk) e2;let(bg,Y0):=P.Y0;let(lN,N):=P.N;let(kvs,z,k1,k2):=W.K.h8;let(R,U,b2):=W.K.h9;let(td,es,d1,d2):=W.K.hX;apply#[r,d,Qo Y2 O,L,Q,F,M,G,#[C,W.ox,#[?_,#[kvs,z,à (kp 8 Á Á) (bd0 k1),k2],#[R,à (kp 9 Á Á) (bd0 U),b2],#[td,es,à (kp 10 Á Á) (bd0 d1),d2]]],#[#[bg,Y0.more d],#[lN,N.more d],P.X,Ż e he,P.an,P.T,P.hl,P.rm,P.h0,P.h8,Β]]
 .rw[kp 7 Á Á,y,List.map_append];rfl
 .obtain z|z:=CB he
  .show P.de e z
  .rw[aL6 z];show dk
def QnL(W:Wd w s v ds t L Q F M G c)(P:Pn ds t Q H b F M G){E:En}(h7:E[7]?>(CO 10))(h4:E[4]?>cy1):Qg aV (cr^Ķ aB ck Ϙ) aO1 E w>(ŏ bi5,w):=by
 let(I,es,d1,Y2,r,u,_):=W.K.hX;let(bg,Y0):=P.Y0;let x:aB ↑10 dn0 w>(fL es,w):=sf ((Zv 10 >>= _) w=_) d1 (VM (ZT I cc9) w=_) r
 let y:wV ZG (Ķ aB ck Ϙ) E w>(Í (⇑Q:V),w):=by apply oC (io (ak h7) x) ?_;exact í (eD (⇑(es.map DV.str):V),w)=_;rw[Br,u]
 let C:wV ZG ě E w>(Í (ê:V),w):=ĵ (Jq (ak h4) W.K.h7) Br;apply Qj y C^ϔ^rM _ _ _;rw[P.T.idle Y0.tk];let e:⇑OH=⇑Q:=Br ..;rw[e];let o:(dm8 Q==Ñ ê)=FC ⇑Q ê:=by
  by_cases h:⇑Q=ê
  .rw[h];simp
  .rw[Ec h];show ad (λ z=>h À)
 rw[o]
def Qo4(Y1:ai4 w s v ds t H B c)(hB:B<=6000)(hc:c<89000)(Y2:Iq ns>a)(hb:JZ a)(hd:ê=m+min j 20)(hm:m<=23):∃w' s' r t' Mw,Rn (cn3 H e8 (Ý (j:V)) ń) w>(ō^cl3 H e8 (Ý (j:V)) Mw ń,w')/\ai4 w' s' v r t' H (B+1) (c+2)/\mz=m+min (j+1) 20:=by
 have E:Sl->En:=λ bW=>cn3 H e8 (Ý (j:V)) ń
 obtain⟨u,z,C,u1,I⟩:∃u z C,bJ6 (LE (Ò aV (Ò X8 (Ò YG cw1 5) 16) 3)^bf7 3 Ya^Ħ Ă Ń^Qg aV (cr^Ķ aB ck Ϙ) aO1) AD (E bW) w>(bu2 bW,u)/\ai4 u z v ds C H B c:=by
  let q:eB (Ò aV (Ò X8 (Ò YG cw1 5) 16) 3) (E bW) w>((a / 5 % 16==3),w):=Ω (io (io (MN Y Y Y2 w)^dl4 a 5 Á Á w)^cn0 _ 16 w) Y^rM _ _ _;cases h:(a / 5 % 16==3)with
  |false=>rw[h]at q;show#[w,s,t,QX (zS q),Y1]
  |true=>rw[h]at q;let(u,z,C,e,I,_):=BY Y1;let(L,Q,F,M,G,W,P):=Y1.ex;show#[u,z,C,QX (dn1 q^bg2 b^og (bZ6 Ã^QnL W P Y Y) e),I]
 obtain⟨y,r,u2,V2,dl⟩:∃y r,ci0 (Ò bV Fs 20) (Qq (bg1 ě^om Yz cw1)^Zy^bT5^om X5^ϖ ě ar6) (E bW) u>(bu2 bW,y)/\ai4 y z v r C H B c/\mz=m+min (j+1) 20:=by
  let tt:eB (Ò bV Fs 20) (E bW) u>(Af bt9 20,u):=QK^nh (ĕ j) Ã Y Y;by_cases h:j<20
  .rw[ar3]at tt
   let(y,d,e2,V2):=QmI (e1:=e1) (e8:=e8) (e10:=e10) (bW:=bW) I hb Y2 À;show#[y,ds++[d],ZN tt e2,V2,Β]
  .rw[an8]at tt
   show#[u,ds,QX tt,I,À]
 let(L,Q,F,M,G,W,P):=V2.ex;let h0:=P.h0;let h8:=P.h8;let g0:0<=a / 3 % (Ñ H):=IM _ À;let g1:a / 3 % (Ñ H)<H:=t9 _ À;let(i,hi):=WU g0;rw[hi]at g1;let R:=aT7 (a / 3) (Ñ H) À y;rw[hi]at R;let(o,a9,U,O,t',L',Q',F',M',G',em,sy,AW,tE,ow,ef,W',P'):=SL W P (i:=i) À hB hc;let(o0,ys,oy):=vS i o;let u3:QR 11 (bC5 jb (bT5^Qg jm bi2^Fc^Qg X8 (Ò YG cw1 3) ß) Ql) (E bW) y>(bu2^bN7 i o,U) :=
  Qv^AW.split oy ow tE^cV6 W.D.dk (MP (Qj (io (MN Y Y Y2 y)^dl4 a 3 Á Á y) Ã R) Á À) sy
 let u4:bJ6 (bf7 5 X3^EW (Qb 11) ě Ń o6 ck) AD (E^bN7 i o) U>(bu2^bN7 i o,O):=QX^bg2 b^og (GO Ã Ã Ã Ã Ã) ef;let V4:Ev O z v r t' H (TR.o7 (λ_=>B) i)<|c+2:=#[L',Q',F',M',G',W',P'];apply#[O,z,r,t',_,Ļ u1 u2 (Qo u3 u4),V4.mono (N1 k) Ĕ,dl];exact pH k i (B+1) B<=B+1;split<;>lia
#where
def Qts:∀{cI:Â Ei},(∀ps∈cI,∀q∈ps,aB4/\aO q.2)->(mr as5^λ x:Str=>rk).sum<=cI.flatten.length * 66+cI.length:=by
 intro c;induction c with
 |nil=>intro _;show Ĕ
 |cons ps r a=>intro h;let h1:=a λ x hx=>h x^ſ hx;let h2:=MI^h ps ž;rw[List.flatten_cons,Am,A9,Nat.add_mul];simp only[Ba,List.sum_cons];lia
def lQ.joins{g:IN}{u:TR.Wk}(h:lQ g u)(i:bO3)(A:pU u):be7 ","^g.getD ["-"]/\CL ","^g.getD ["-"]=vC g:=by
 let a:be7 "," (["-"]:č)/\CL "," (["-"]:č)=bi3:=È
 cases hf:u.O2.far with
 |true =>
  let(cI,h1,h2,h3):=h.far hf;rw[h3];by_cases e:cI=[]
  .rw[PM];show a
  .rw[EF]
   apply mi^joinOk_of ?_;let s:=Qts (cI:=cI) λ ps J q hq=>A.b.pairs q^Æ h2^List.mem_flatten.mpr #[ps,J,hq];let f:=QbO h1;let l:=A.l;rw[h2]at l;exact(mr as5^λ x:Str=>rk).sum+⇑as5 * 1<=16777216;rw[Br];lia
 |false=>rw[h.one hf^ċ i];show mi (Ht (c:=44) (m:=600) (n:=1) (λ x hx=>tm hx (VO A.b.O3).len) Ĕ Á)
variable{w w':Hs}{s v:V}{ds:ϻ}{t t':TR.St}{L:V->V}{Q:Dn}{F:Eo}{M:V->Ć}{G:V->IN}{H c q i j m:V}{b:V->V}{ns:Ĥ}{a:Int}{e1 e8 e9 e10 bW fQ:Sl}
def QhZ(W:Wd w s v ds t L Q F M G c)(P:Pn ds t Q H b F M G)(st:Ĭ bi5)(hi:i<ê):∃w' z,Ro (eL ns e1 H e8 e9 (Ý (i:V)) bW fQ) w>(ō^eL ns e1 H e8 e9 (Ý (i:V)) bW z,w')/\Wd w' s v ds t L Q F M G c:=by
 let lM:=P.lM;let(td,es,d1,d2,d3,d4,I):=W.K.hX;let r:i<=ej:=À
 let U:=YS r Ĕ
 have E:Sl->En:=λ z=>eL ns e1 H e8 e9 (Ý (i:V)) bW z
 let an:=P.T.answer st hi;obtain⟨x,hx,hn⟩:∃x∈OH,x.1=i:=by
  let(h1,h2):=TR.qK st;obtain⟨k,u,a,b,_⟩|h:=P.T.cv i À
  .rw[h2 k u a]at b;cases b
  .show h
 let(_,xe,y,_):=P.T.dn x hx;rw[hn]at y;let(O,R):=y.joins xe (P.an x hx);let g:=G0 (o:=ck) (g:=cy2) (e:=rh ad6) (d:=fL ["-"]) (a:=10) (env:=E fQ) (J:=w) Ã d1 (ZI ύ^xw U.abs) (k:=ċ aC) Y Y;let Y2:r8 (ZT td^ċ aC)^fL ["-"]=fL^r8 (G i) ["-"]:=bG5 (I i r)^G i
 rw[Y2]at g;let u1:QR 12 (bC5 js cc8^Zo ie Yp ck^á cy2^rh ad6) (E fQ) w>(bu2^cb9^vC^G i,w):=Qv^à (Hu (c:=44) (xs:=r8 (G i) ["-"]) g O)^aH2 R;let(C,e):=QnB W.D (row:=đ cN3++aC) hi (İ P.ql) P.an (D3 (wd := gw) ϡ À À^QqL i);rw[an]at e;let ok:ĭ^vC^G i:=Æ (y.join xe) (P.an x hx).asc.ok
 let u2:bJ6 (i4 cW (bT5^Qg jm (Ċ cN3) cy2)^Qb 12) AD (E^cb9^vC^G i) w>(bu2^cb9^vC^G i,w++C):=QX^Ω (cV6 W.D.dk (MP Ã Á r) e) Ã^tY _ ok ok Ê;show#[w++C,_,Qo u1 u2,W.more λ x hx=>Ag hx]
def QfU(W:Wd w s v ds t L Q F M G c)(P:Pn ds t Q H b F M G)(st:Ĭ bi5):∃w' eX iK,RY (cn3 H e8 e9 fQ) w>(ō^eL ns e1 H e8 e9 eX bW iK,w')/\Wd w' s v ds t L Q F M G c:=by
 let lM:=P.lM;let r:WP (zW (aM5 d 10 d^Ro env') (cr1 ê)^cn3 H e8 e9 fQ) w λ q w'=>∃eX iK,q=ō^eL ns e1 H e8 e9 eX bW iK/\Wd w' s v ds t L Q F M G c:=by
  apply Gi (λ j env w'=>∃eX iK,env=eL ns e1 H e8 e9 eX bW iK/\Wd w' s v ds t L Q F M G c) (cr1 ê) #[_,_,Y,W] (ba2 j d x env w' zz)^ľ env w' zz
  .let(eX,iK,Y,o):=zz;let(lj,Y):=xp x;let(y,z,e,u):=QhZ (ns:=ns) (e1:=e1) (e8:=e8) (e9:=e9) (bW:=bW) (fQ:=iK) o P st lj;show#[_,y,kc e,_,z,Y,u]
  .let(eX,iK,Y,o):=zz;show#[eX,iK,Y,o]
 let(q,w',e,eX,iK,Y,h):=r;show#[w',eX,iK,qD (qA (QL^ĵ (Jq Ã W.K.h7) Br) À) e aC1,h]
def QlF(Y1:ai4 w s v ds t H 2000 32001)(h:sj<=63)(C:∀x∈ns,JZ x)(I:ê<=23):∃w' s' o t' z9 fG,RU (cn3 H e8 e9 ń) w>(ō^cl3 H e8 z9 fG ń,w')/\ai4 w' s' v o t' H 2063 32127:=by
 let y:WP (zW (aM5 d 9 d^Rn env') (cr1 sj)^cn3 H e8 e9 ń) w λ q w'=>∃s' o t' z9 fG,q=ō^cl3 H e8 z9 fG ń/\ai4 w' s' v o t' H 2063 32127:=by
  apply Gi (λ j env w'=>∃s' o t' z9 fG,env=cl3 H e8 z9 fG ń/\ai4 w' s' v o t' H (2000+j) (32001+2 * j)/\⇑o=ê+min j 20) (cr1 sj) #[s,ds,t,_,_,Y,Y1,À] (ba2 j d E env w' zz)^ľ env w' zz
  .let(s',o,t',z9,fG,Y,r,hd):=zz;let(lj,Y):=xp E;let(R,Y2,P,O,z,e,V2,u):=Qo4 (e1:=e1) (e8:=e8) (e10:=e10) (bW:=fG) r À À (Ab lj) (C _^B7 lj) hd I;show#[_,R,kc e,Y2,P,O,_,z,Y,V2,u]
  .let(s',o,t',z9,fG,Y,r,hd):=zz;rw[ZC]at r;show#[s',o,t',z9,fG,Y,r.mono bI7 À]
 let(q,w',e,s',o,t',z9,fG,Y,h'):=y;apply#[w',s',o,t',z9,fG,qD (bM2 m sj (ZI ύ ?_) À) e aC1,h'];exact í (eD (⇑af0:V),w)=_;rw[Br]
#where
def Qrx(ns:Ĥ)(J:Hs):∃x,YO [Ù dA,cF3] J>(Í x,J):=by
 cases ns with
 |nil=>show mi 0
 |cons a r =>
  have E:En:=[ax6<|mw<|a::r,Ý 0]
  let ln:wV Ut Å E J>(ĕ (mz+1:V),J):=ZI ύ^ĸ (í (eD (⇑(bP6<|a::r):V),J)=_) Br
  let t:eB (Qg bV Û^ð Ut Å) E J>co7:=by apply ϔ^QK^nh cF3 Ã ln Y;rw[Ea<|ī<|da3<Ñ (mz+1:V)]
  show#[a,ā E (rL t^at0 (Ù<|mw<|a::r) y cF3 Ã Ã^by let b:=jR (xs:=bP6 (a::r)) (j:=0) (v:=Í a) Y;simp only[bH,eG,Ed];rw[P9<|da3=Ñ (0:V),b];rfl)]
variable{w:Hs}{H r:V}{ds:ϻ}{ns:Ĥ}{e1 e9 e10 bW fQ:Sl}
def Qks{f:lZ}{g:mj}{r:(Fl × En)× Hs}(h:i0>(nxt,hp1))(h':jX nxt (aF2 d (g d env) dj7) Ĺ 0 env hp1>r):Xo f g body env J>r:=hJ Xo Tu h'
def Qc3{s v:V}{t:TR.St}{L:V->V}{Q:Dn}(D:Dk w 0 s v [] t L Q)(ox:∀x,7<=x->x<=10->x<ĳ/\¬ Fd 0 s v t L Q x)(h7:OM w 7 aW0)(hd:∀d∈ds,dI d)(hl:ê<=23):∃w' z,RR (cn3 H ń e9 fQ) w>(ō^cn3 H z e9 fQ,w')/\Dk w' 0 s v ds t L Q/\∀x,7<=x->x<=10->w'[x]?=w[x]?:=by
 let o:WP (jX (fZ 7) (aM5 d 8 d^SZ env') Ĺ 0^cn3 H ń e9 fQ) w λ q w'=>∃z,q=ō^cn3 H z e9 fQ/\Dk w' 0 s v ds t L Q/\∀x,7<=x->x<=10->w'[x]?=w[x]?:=by
  apply Gj aW0 (λ i env w'=>∃z,env=cn3 H z e9 fQ/\Dk w' 0 s v (aS2 i) t L Q/\ĳ<=⇑w'/\∀x,7<=x->x<=10->w'[x]?=w[x]?) cd3 (λ i env w' _ zz=>?_) #[_,Y,D,Ĕ,aR4] (ba2 i d hi env w' zz)^ľ env w' zz
  .let(z,_,_,_,kp):=zz;show VL (à (kp 7 Á Á) h7) i
  .let(z,Y,a,C,kp):=zz;rw[Bt]at hi;let(x,hx,Y):=ba9 hi;let F:=Zw hx;let dk:=hd x^Aw hx;let(E,u,c,j):=Wp a dk (ĩ A8);let tk:aS2 i++[x]=aS2 (i+1):=Ũ List.take_succ hx
   rw[tk]at c;apply#[_,E,kc (Zz^cV6 a.dk (cf0^WA dk) u),_,Y,c,Bi C j.len,ľ y h1 h2];let(G,o2):=ox y h1 h2;show à (j.old y À o2) (kp y h1 h2)
  .let(z,Y,a,_,kp):=zz;rw[Br,List.take_length]at a;show#[z,Y,a,kp]
 let(q,w',e,z,Y,h):=o;show#[w',z,Qks (Pr Ã h7) e,h]
def Nm.idle(h2:2<=r):TR.Nm ds (qk (p7 r) H) pA pA pA:=by
 apply#[QcM r h2,#[λ i v hv a=>dq6,λ i v c hv a=>dq6,λ i j v u c _ hv _ a=>dq6],#[Y,_,Y,Y],λ k v=>#[bF2,λ#[n,p,h1,_,h3]=>?_],λ k v h=>ď h,λ i v hv a=>dq6,λ i j v u _ hv a=>dq6,an5];have:p=aZ8 0 [] []:=by
  match n,h1 with
  |0,h1=>cases h1;rfl
  |n+1,h1=>simp[qk,p7]at h1
 rw[this]at h3;cases h3
#where
def Qjd(ns:Ĥ)(h:sj<=63)(hb:∀x∈ns,JZ x):∃J,Dd [Ù dA] []>(Ő,J):=by
 let(a,e0):=Qrx ns [];let g0:0<=a % 8:=IM _ Á;let g1:a % 8<8:=t9 _ Á;obtain⟨H,hn,n1,n8⟩:∃n:V,1+a % 8=iq/\1<=n/\n<=8:=#[OA (1+a % 8),À,À,À];let q0:0<=a / 8 % 4:=IM _ Á;let q1:a / 8 % 4<4:=t9 _ Á;obtain⟨r,hr,r2,r5⟩:∃n:V,2+a / 8 % 4=iq/\2<=n/\n<=5:=#[OA (2+a / 8 % 4),À,À,À]
 have X:Sl:=Ü^Ù dA
 have C:Sl:=Ý a
 have E:Sl->Sl->Sl->Sl->Sl->Sl->En:=λ z2 z3 z4 z5 z6 z7=>[X,C,z2,z3,z4,z5,z6,z7,ń,ń,ń,ń,ń]
 let s1:QR 1 (W0 YO Å bG) [X,ń,ń,ń,ń,ń,ń,ń,ń,ń,ń,ń,ń] []>(ō^E ń ń ń ń ń ń,[]):=Qv^Pi Y e0;let s2:QR 2 (nB bn^bn7 X8 8) (E ń ń ń ń ń ń) []>(ō^E aP8 ń ń ń ń ń,[]):=Qv (Qj Y (wn^cn0 a 8 _)<|show í (eD<|1+a % 8,([]:Hs))>(Í H,[])by rw[hn])
 have O:Hs:=[]++([dp1 Ę 1 3 0,i6 r 2 0 0 0,Ù df8]++wg 1 3 H)
 let s3:QR 3 (Yo Ę 3 J9^á (nB bB6^Ò X8 (bn7 YG 8) 4) ß) (E aP8 ń ń ń ń ń) []>(ō^E aP8 bV9 ń ń ń ń,O) :=
  Qv^Qpe (w:=[]) (r:=r) n8^ZP (Qj Y (io (wn^dl4 a 8 Á Á _)^cn0 _ 4 _)<|show í (eD<|2+a / 8 % 4,([]:Hs))>(Í r,[])by rw[hr]) Ã
 let(ds,dl,ea,hd):=Qlu (a / 32) O
 have w8:Hs:=O++[Ù aW0]
 have w9:Hs:=w8++[Sc]
 have wA:Hs:=w9++[Sc]
 have R:Hs:=wA++[tF [(cc9, Ο)]]
 have o:Sl->Sl->Sl->Sl->Sl->En:=λ z8 z9 eX fG iK=>eL ns C H z8 z9 eX fG iK
 let s4:QR 4 (om zo^bn7 YG 32) (E aP8 bV9 ń ń ń ń) O>(ō^E aP8 bV9 cy1 ń ń ń,w8):=Qv^at7 (wn^dl4 a 32 Á Á _) ea;let s5:QR 5 zU (E aP8 bV9 cy1 ń ń ń) w8>(ō^E aP8 bV9 cy1 dc5 ń ń,w9):=Y;let s6:QR 6 zU (E aP8 bV9 cy1 dc5 ń ń) w9>(ō^E aP8 bV9 cy1 dc5 (CO 9) ń,wA):=Y;let s7:QR 7 (N7 [(Ċ Ϙ,aG8)]) (E aP8 bV9 cy1 dc5 (CO 9) ń) wA>(ō^o ń ń ń ń ń,R):=Y
 have S:=p7 r
 let B1:WB R 1 3 [] (qk S H) aR6 []:=WB.idle Y Y (λ j hj=>by
  match j,hj with
  |0,_=>rfl
  |1,_=>rfl
  |2,_=>rfl
  |3,_=>rfl
  |j+4,hj=>lia) Á
 let D0:Dk R 0 1 3 [] (qk S H) aR6 []:=#[B1,Y,λ z=>by obtain z|z:=Sa z<;>lia]
 let lB:⇑R=11:=Y;let ox:∀x,7<=x->x<=10->¬ Fd 0 1 3 (qk S H) aR6 [] x:=λ x h1 h2 z=>by
  obtain z|z:=z
  .lia
  .have:=Sa z
   lia
 let(y,z8,e8,D1,kp):=Qc3 (ns:=ns) (H:=H) (e1:=C) (e9:=ń) (e10:=ń) (bW:=ń) (fQ:=ń) D0 (λ x h1 h2=>#[À,ox x h1 h2]) ř hd dl;let a9:(qk S H).ws.length=H:=List.length_replicate;let c:=aX.idle (r:=r) (H:=H) r2 r5;let V0:ai4 y 1 3 ds (qk S H) H 0 1:=by apply#[_,[],pA,pA,pA,#[D1,ox,#[à (kp 7 Á Á) Y,#[[],[],à (kp 8 Á Á) Y,#[List.Perm.refl _,List.Pairwise.nil,λ k v=>#[bF2,bF2]]],#[[],à (kp 9 Á Á) Y,an5,Fm],#[_,[],à (kp 10 Á Á) Y,Ĕ,Y,Y,Ż n hn]]],#[#[_,#[c.T,c.A,c.K,c.D,c.rm,c.len,Fm,c.cn,c.fk,λ i u h1 h2=>AB h1 h2]],#[_,Nm.idle r2],nJ.idle,hd,cX3,#[an5,λ i u h1 h2=>AB h1 h2,cX3,λ n hn=>Ė hn E8,AE (0+TR.lc (qk S H).ws=0) Sr],a9,r5,n1,n8,À]];rw[XG,C7^Ņ^Rr hn];rfl
 obtain⟨I,Y2,u1,V1⟩:∃I Y2,bJ6 (LE (Ò aV (Ò X8 (bn7 YG 768) 2) 0)^bf7 6 XA^Qc Ă^EW ß ě Ń o6 ck) AD (o z8 ń ń ń ń) y>(ō^o z8 ń ń ń ń,I)/\ai4 I 1 3 ds Y2 H 2000 32001:=by
  let q:eB (Ò aV (Ò X8 (bn7 YG 768) 2) 0) (o z8 ń ń ń ń) y>((a / 768 % 2==0),y):=Ω (io (wn^dl4 a 768 Á Á _)^cn0 _ 2 _) Y^rM _ _ _;cases hq:(a / 768 % 2==0)with
  |false=>rw[hq]at q;show#[y,_,QX (zS q),V0.mono (λ_=>Á) Á]
  |true=>rw[hq]at q;let(I,Y2,e,V1,_):=Qcp V0 Á Á;show#[I,Y2,QX (dn1 q^bg2 b^og (WQ Ã Ã Ã Ã Ã Ã) e),V1]
 let(wE,s',aa,t',z9,fG,e9,V2):=QlF (e1:=C) (e8:=z8) (e9:=ń) (e10:=ń) (bW:=ń) V1 h hb dl;let(wF,t3,e10,V3,st):=Qcp V2 Á Á;let(wG,ae,t4,bW,V4,wu):=BY V3;rw[st]at bW wu;let(L,Q,F,M,G,W,P):=V4.ex;let(wH,eX,iK,fQ,W5):=QfU (ns:=ns) (e1:=C) (e8:=z8) (e9:=z9) (e10:=ń) (bW:=fG) (fQ:=ń) W P wu;let(kvs,z,wI,a1,tb,hz,SM,Mv,wW):=DJ W5 P
 have U:En:=o z8 z9 eX fG iK
 let u2:bJ6 (iU (bf7 6 XA^Qc Ă^EW ß ě Ń o6 ck)^bf7 3 Ya^Ħ Ă Ń pE) AD (o z8 z9 ń fG ń) wE>(ō^o z8 z9 ń fG ń,wG):=QX^bn9 (bg2 b^og (WQ Ã Ã Ã Ã Ã Ã) e10)^bg2 b^og (bZ6 Ã Y) bW;let ok:=(UV SM).ok;let W6:=W5.more wW;let a8:wI[8]?>AA:=à (wW 8^Zw a1) a1;let u3:QG (Qg aV (bT5^Ċ fF)^om ZY Sb) U wH>((.rt Ő,U),wI):=Qt^Qj (cV6 W5.D.dk Y Mv) (N8 (j:=5) a8 tb hz SM Y)^iu _ ok ok Ê;show#[wI,EO U s1 s2 (Ļ s3 s4^Ļ s5 s6^Ļ s7 e8^Ļ u1 e9^Ļ u2 fQ u3)]
def gC{K:Aa}{e a c:Addr}{d0 d1 i:Nw}{u v x:V}{y z C:av5}{E:Tok}(j:Ψ e>#[aC0, d0,.seq ⟨lT 0 E,Χ,ã c,fE,fE⟩ u,y])(r:Ψ c>#[aC0, i,.seq hZ x,C])(o:Ψ a>#[aC0, d1,.seq hZ v,z]):cg K (õ [cF3,cc1,cc1,Ě,Ě]) ↑e:=(Om (xs:=[cF3,Χ,ã c,Ě,Ě]) j å (aj1 IK Y^aj1 Y Y^dp3 Y)^yo QpM^yo (Om (xs:=[]) o å i9 Rp)^yo (Om (xs:=[]) r å i9 Rp)^yo Mo^yo Mo Rp)
def QpN{P:Program}{w:World}{K:Aa}{h:Heap}{mg:Eg}{fa f:Addr}{o kV i j a ct:Value}{od an:Nw}{r:av5}(X:aO8)(G:cR9)(e:mg dl2 = í ↑fa)(Z:Al K mg)(n:š K dl2 = í aZ5)(l:Ψ f>#[o,od,.func (PySem.W.fnOf dl2 dl2 (Xi KM) (Jh KM) (Q0 KM) fE kV i j an a ct),r])(c:EQ K a dl2)(k:db6 K):∃fd:FuncData,bX9 s v Value^bU5 s #[[v],[]] [(ax4, v)]/\∀O8:Heap,K.In O8->ad0 mg->zO P w K mg O8 CX0 12 fa fd [ax4]^lR K 1 Dd:=ah8 (e.symm.trans^Ix G n) #[PySem.W.fnOf dl2 dl2 (Xi KM) (Jh KM) (Q0 KM) fE kV i j an a ct,λ s v=>.of_eq Y,λ O8 _ _=>law_fn Z^HS l c k]
def walk{l:PySem.W.OpenLaw}{q:Program}{c:č}{j:(Eg)->bP0}{i:World->bP0}{d:DefRec}{K:Params->Aa}(hn:l.most>63)(e:d.params.defaults=[])
  (hY:∀(w:World)(h:Heap),i w h->(t6).In h)
  (F:∀(w:World)(mg:Eg)(fa:Addr)(h:Heap),(t6).In h->cR9->mg d.name>↑fa ->
   ∃fd:FuncData,bX9 s u Value^bU5 s #[[u],[]] [(ax4, u)]/\∀O8:Heap,(t6).In O8->ad0 mg->zO l.prog w t6 mg O8 CX0 12 fa fd [ax4]^lR t6 1 Dd) :
  PySem.W.WalkO q c j i l.row.toRowW d []^λ f vs=>PySem.call f vs :=
 L2.Qk8 (n:=63) (k:=12) (x := ax4) (CX:=λ_=>CX0) (sp:=λ w=>lR t6 1 Dd) hn Á e #[Y,Á,Á] hY F (λ w _ a ns hl r _ o=>QpO (Qjd ns hl r) o) λ_ _ _ _ _ z=>z
#print K73
namespace PySem.W.Fast
theorem tw:True:=trivial
theorem tw5919258895453397009:True:=trivial
#print PySem.W.Fast
end
open PySem PySem.W PyProof.Rows
open D in
set_option maxRecDepth 100000 in
set_option maxHeartbeats 0 in
theorem PySem.Challenge.cw_sidelink_k73_whole_from_text_to_answer_holds : PySem.Challenge.rw_sidelink_k73_whole_from_text_to_answer.Holds := by
 w_on;o_law;k_head;(case hw=>w_witness2)
 k_fill
 refine K73.walk (l:=PySem.Challenge.rw_sidelink_k73_whole_from_text_to_answer) rfl rfl (fun w h Y=>PySem.W.kIn_of Y) ?F
 case F =>
  intro w mg fa h KX G hmg;have c0:UC _ "Shelf" := uc KX (by k_is) (by k_is) (by k_is) (by k_is) (by k_is);have c1:UC _ "Weaver" := uc KX (by k_is) (by k_is) (by k_is) (by k_is) (by k_is);have c2:UC _ "Desk" := uc KX (by k_is) (by k_is) (by k_is) (by k_is) (by k_is);have c3:UC _ "Walk" := uc KX (by k_is) (by k_is) (by k_is) (by k_is) (by k_is);exact K73.QpN KX G hmg (by constructor;(case x0=>(refine' ux KX G ?ua ?ub ?uc ?ud ?ue;(case ua=>k_is);(case ub=>k_is);(case uc=>kernel_rfl);(case ud=>k_is);(case ue=>kernel_rfl)));(case y0=>(refine' uw KX G ?ua ?ub ?uc;(case ua=>k_is);(case ub=>k_is);(case uc=>kts_exm)));all_goals first|exact PySem.W.mg_none_of KX G (by k_is)|exact uf KX G (by k_is) (by k_is) (by k_is) (by k_is)|exact ug KX G (by k_is)|exact WT KX G (by k_is) (by k_is) (by first|rfl|with_unfolding_all rfl)|exact WT KX G (by k_is) (by k_is) (by first|rfl|with_unfolding_all rfl)|exact ut KX G (by k_is) (K73.gC (by k_is) (by k_is) (by k_is))|exact uk KX c0 (by k_is) (by k_is)|exact um KX c0 (by k_is) (by k_is) (by k_is) (by k_is) (by k_is) (by k_is)|exact uk KX c1 (by k_is) (by k_is)|exact um KX c1 (by k_is) (by k_is) (by k_is) (by k_is) (by k_is) (by k_is)|exact uk KX c2 (by k_is) (by k_is)|exact um KX c2 (by k_is) (by k_is) (by k_is) (by k_is) (by k_is) (by k_is)|exact uk KX c3 (by k_is) (by k_is)|exact um KX c3 (by k_is) (by k_is) (by k_is) (by k_is) (by k_is) (by k_is)|exact ui KX G (by k_is) (by k_is) (by k_is) (by k_is) (by k_is) (by k_is) (by k_is) (by k_is)) (by k_is) (by k_is) (by k_is) (by k_is)

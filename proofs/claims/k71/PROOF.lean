import PyProof.Rows.All
import Wide.All
import OpenK.AllK
import Wide.FinOn
import Lean
import PyProof.EqAt
import PyProof.EqKinds
import PyProof.TupleCall
import PySem.Challenge.RW_sidelink_k71_rows_answered
set_option compiler.extract_closed false
theorem an2{A B G:Prop}(h:A/\B)(k:A->B->G):G:=k h.1 h.2
theorem an3{A B C G:Prop}(h:A/\B/\C)(k:A->B->C->G):G:=k h.1 h.2.1 h.2.2
theorem an4{A B C D G:Prop}(h:A/\B/\C/\D)(k:A->B->C->D->G):G:=k h.1 h.2.1 h.2.2.1 h.2.2.2
theorem an5{A B C D E G:Prop}(h:A/\B/\C/\D/\E)(k:A->B->C->D->E->G):G:=k h.1 h.2.1 h.2.2.1 h.2.2.2.1 h.2.2.2.2
theorem an6{A B C D E F G:Prop}(h:A/\B/\C/\D/\E/\F)(k:A->B->C->D->E->F->G):G:=k h.1 h.2.1 h.2.2.1 h.2.2.2.1 h.2.2.2.2.1 h.2.2.2.2.2
theorem an7{A B C D E F H G:Prop}(h:A/\B/\C/\D/\E/\F/\H)(k:A->B->C->D->E->F->H->G):G:=k h.1 h.2.1 h.2.2.1 h.2.2.2.1 h.2.2.2.2.1 h.2.2.2.2.2.1 h.2.2.2.2.2.2
theorem an8{A B C D E F H I G:Prop}(h:A/\B/\C/\D/\E/\F/\H/\I)(k:A->B->C->D->E->F->H->I->G):G:=k h.1 h.2.1 h.2.2.1 h.2.2.2.1 h.2.2.2.2.1 h.2.2.2.2.2.1 h.2.2.2.2.2.2.1 h.2.2.2.2.2.2.2
theorem an9{A B C D E F H I J G:Prop}(h:A/\B/\C/\D/\E/\F/\H/\I/\J)(k:A->B->C->D->E->F->H->I->J->G):G:=k h.1 h.2.1 h.2.2.1 h.2.2.2.1 h.2.2.2.2.1 h.2.2.2.2.2.1 h.2.2.2.2.2.2.1 h.2.2.2.2.2.2.2.1 h.2.2.2.2.2.2.2.2
theorem ex1{A:Sort _}{P:A->Prop}{G:Prop}(h:∃a,P a)(k:∀a,P a->G):G:=by obtain⟨a,h⟩:=h;exact k a h
theorem ex2{A:Sort _}{B:Sort _}{P:A->B->Prop}{G:Prop}(h:∃a b,P a b)(k:∀a b,P a b->G):G:=by obtain⟨a,b,h⟩:=h;exact k a b h
theorem ex3{A:Sort _}{B:Sort _}{C:Sort _}{P:A->B->C->Prop}{G:Prop}(h:∃a b c,P a b c)(k:∀a b c,P a b c->G):G:=by obtain⟨a,b,c,h⟩:=h;exact k a b c h
theorem ex4{A:Sort _}{B:Sort _}{C:Sort _}{D:Sort _}{P:A->B->C->D->Prop}{G:Prop}(h:∃a b c d,P a b c d)(k:∀a b c d,P a b c d->G):G:=by obtain⟨a,b,c,d,h⟩:=h;exact k a b c d h
theorem ex5{A:Sort _}{B:Sort _}{C:Sort _}{D:Sort _}{E:Sort _}{P:A->B->C->D->E->Prop}{G:Prop}(h:∃a b c d e,P a b c d e)(k:∀a b c d e,P a b c d e->G):G:=by obtain⟨a,b,c,d,e,h⟩:=h;exact k a b c d e h
theorem ex6{A:Sort _}{B:Sort _}{C:Sort _}{D:Sort _}{E:Sort _}{F:Sort _}{P:A->B->C->D->E->F->Prop}{G:Prop}(h:∃a b c d e f,P a b c d e f)(k:∀a b c d e f,P a b c d e f->G):G:=by obtain⟨a,b,c,d,e,f,h⟩:=h;exact k a b c d e f h
theorem ex7{A:Sort _}{B:Sort _}{C:Sort _}{D:Sort _}{E:Sort _}{F:Sort _}{H:Sort _}{P:A->B->C->D->E->F->H->Prop}{G:Prop}(h:∃a b c d e f i,P a b c d e f i)(k:∀a b c d e f i,P a b c d e f i->G):G:=by obtain⟨a,b,c,d,e,f,i,h⟩:=h;exact k a b c d e f i h
open Lean in
local macro_rules(kind:=Lean.Parser.Command.mutual)|s=>do
 let c:=s[1].getArgs
 let e:=c[0]!
 let M:=e[0].rewriteBottomUp (·.setInfo .none)
 if e[1].getKind != `Lean.Parser.Command.example then Macro.throwUnsupported
 let rec sub(p:Array Name)(a:Array Syntax):Nat→Syntax→Syntax
  |n+1,s=>match s with
   |.node i k b=>.node i k (b.map (sub p a n))
   |.ident _ _ x _=>(p.idxOf? x).elim s λi=>a[i]!
   |s=>s
  |_,s=>s
 let nl:=λa=>Syntax.node .none `null a
 let id:=λ(s:String)=>Syntax.ident .none s.toRawSubstring (.mkSimple s) []
 let m:=(e.find? (·.isOfKind `Lean.Parser.Term.matchAlts)).get![0].getArgs
 let fs:=λ(x:Syntax)=>(x.find? (·.isOfKind `Lean.Parser.Tactic.first)).get!
 let k:=fs m[0]!
 let R:=fs m[1]!
 let G:=R[1][0]
 let P:=G[1][0][0][0]
 let Z:=P[1][0][0].getArgs
 let A:=Z[0]![1]
 let F:=A[1][1]
 let sq:=λ(s t:Syntax)=>s.setArg 1 (s[1].setArg 0 (s[1][0].setArg 0 t))
 let ap:=λf xs=>(A.setArg 0 f).setArg 1 (nl xs)
 let fn:=λxs b=>F.setArg 1 ((F[1].setArg 0 (nl xs)).setArg 3 b)
 let an:=λ(r:Array Syntax)(z:Syntax)(xs:Array Syntax)(b:Syntax)=>ap (id s!"an{r.size}") #[z,fn xs b]
 let V:=(c[1]!.find? (·.isOfKind `Lean.Parser.Command.declSig)).get![0].getArgs.map (·[3][0][2])
 let rec o(s:Syntax):Syntax:=
  let t:=s[3][1][0]
  if t.isIdent&&(s[1].find? (·.getId==t.getId)).isSome then s else
  let u:=s[1][0][0][0]
  let p:=u[1].getSepArgs
  let y:=λx:Syntax=>x[0][0][0]
  let h:=λx:Syntax=>(y x).isOfKind `Lean.Parser.Tactic.rcasesPat.one&&(y x)[0].getId != `rfl
  let g:=λx:Syntax=>(y x).isOfKind `Lean.Parser.Tactic.rcasesPat.ignore
  let j:=p.findIdx (λx=>!(h x||g x))+1
  let j:=if j+1=p.size then j+1 else j
  let ob:=λ(a i:Syntax)=>s.setArgs #[s[0],a,s[2],s[3].setArg 1 (nl #[i])]
  let (q,f):=(p.extract 0 j).foldl (λ(q,f) x=>if h x then (q.push (y x)[0],f) else if g x then (q.push ((y x).setKind `Lean.Parser.Term.hole),f) else let i:=id s!"z{q.size}";(q.push i,f.push (ob (nl #[x[0]]) i))) (#[],if t.isIdent then #[sub #[`z_9] #[t] 99 Z[2]!] else #[])
  let (q,f):=if j<p.size then (q.push (id "zR"),f.push (ob (s[1].setArg 0 (s[1][0].setArg 0 (s[1][0][0].setArg 0 (u.setArg 1 (nl (u[1].getArgs.extract (2*j) u[1].getNumArgs)))))) (id "zR"))) else (q,f)
  let n:=q.size
  let B:=λ(r:Array Syntax)(z:Syntax)=>if r.size<2 then F[1][3] else if r.size<10 then an r z r F[1][3] else let r2:=r.extract 8 n;an (r.extract 0 9) z ((r.extract 0 8).push (id "y_9")) (an r2 (id "y_9") r2 F[1][3])
  R.setArg 1 (nl (((Array.range (min 8 n)).map λe=>
   let r:=q.extract e n
   sq G (nl #[sq P (nl (f.foldl (λx y=>(x.push Z[1]!).push y) (Z.set! 0 (Z[0]!.setArg 1 (if e=0 then B r t else ap (id s!"ex{e}") #[t,if r.size<2 then fn q F[1][3] else fn ((q.extract 0 e).push (id "z_9")) (B r (id "z_9"))])))))])).push (sq G (nl #[s]))))
 let rec go(T:NameMap (Array Name×Syntax))(U:Array Syntax):Nat→Syntax→Syntax
  |n+1,s=>
   let s:Syntax:=match s with
    |.node _ k b=>Syntax.node .none k (b.map (go T U n))
    |s=>s.setInfo .none
   let (n,a):=if s.isIdent then (s.getId,#[]) else if s[0].isIdent&&s.isOfKind `Lean.Parser.Term.app then (s[0].getId,s[1].getArgs) else (s.getKind,s.getArgs)
   match T.find? n with
   |some (p,b)=>if a.size=p.size then sub p a 999 b else s
   |_=>if n=`Lean.Parser.Command.where||n=`Lean.Parser.Command.print then s.setKind `Lean.Parser.Command.end|>.setArgs #[s[0],nl (if a.size<2 then #[] else #[s[1],nl #[]])] else
   if n=`Lean.Parser.Tactic.cases then if s[1].getNumArgs=1&&s[1][0][0].getNumArgs=0&&s[1][0][1].isIdent&&s[2].getNumArgs+s[3].getNumArgs=0 then sub #[`x] #[s[1][0][1]] 99 k else s else
   if n=`Lean.Parser.Tactic.obtain then if s[2].getNumArgs=0&&s[1][0][0].getNumArgs=1&&s[1][0][0][0].isOfKind `Lean.Parser.Tactic.rcasesPat.tuple&&s[1][0][0][0][1].getNumArgs>6&&s[3][1].getNumArgs=1 then o s else s else
   if n=`Lean.Parser.Term.explicitBinder then (U.findIdx? (· == s[3][0][2])).elim s λi=>s.setArgs #[s[0],s[1],nl #[s[2][0],ap (id "autoParam") #[s[2][1],Syntax.ident .none "".toRawSubstring (.mkStr `At s!"_auto_{i+1}") []]],nl #[],s[4]] else
   if n=`Lean.Parser.Command.declaration&&(s[0].find? (·.isAtom)).isNone&&(s[1].isOfKind `Lean.Parser.Command.definition||s[1].isOfKind `Lean.Parser.Command.abbrev) then s.setArg 0 M else s
  |_,s=>s
 let T:=(m.extract 2 m.size).foldl (λT x=>let h:=x[1][0][0];let (n,a):=if h.isIdent then (h.getId,#[]) else if h[0].isIdent&&h.isOfKind `Lean.Parser.Term.app then (h[0].getId,h[1].getArgs) else (h.getKind,h.getArgs);T.insert n (a.map (·.getId),go T #[] 999 x[3])) {}
 return nl #[c[1]!,go T (go T #[] 99 (nl V)).getArgs 9999 (nl (c.extract 2 c.size))]
set_option Elab.async false
set_option linter.all false
set_option maxRecDepth 100000
noncomputable section
mutual
noncomputable example:=λ
|Zq9=>(by first|(replace x:=Option.some.inj x;subst x)|(exfalso;injection x;done)|cases x)
|Zq8=>(by first|(refine f t λa=>?_;(try clear z_9);(try clear y_9)))
|a>=b=>a=some b
|↥x=>.int x
|↑x=>.ref x
|⇑x=>(x).length
|!x=>.val x
|À=>by lia
|Á=>ak rfl
|Â=>by decide
|Ã a=>List a
|Ä=>Qb 0
|Å a b c=>Qh a b (eC c)
|Æ a b=>by rw[a];exact b
|Ç a b=>Qc (Qb a) b
|È=>by decide +kernel
|É a b c=>if a then b else c
|Ê=>by simp
|Ë a=>by simpa using a
|Ì a=>.int a
|Í a b=>Qd (Qa a) b
|Î a=>(a:Int)
|Ï a=>starEach a X.env
|Ð a=>.lst a
|Ñ=>Qa 0
|Ò a=>Qc a Qj
|Ó a=>.val a
|Ô a=>Ó ↥a
|Õ a b=>λ s _ _ _ _ _ _ _ a=>b
|Ö a b c d e f g=>wpAny (model a b) c d e f g
|Ø=>Nat.le_of_ble_eq_true rfl
|Ù=>by with_unfolding_all rfl
|Ú=>⇑S.pg
|Û=>Ã DV
|Ü a=>.str a
|Ý=>Option Int
|Þ a b c=>Å a b ↥c
|ß a=>decide a
|à a b=>(a).trans b
|á=>"Shelf"
|â a b=>Ã (a × b)
|ã=>⇑ds
|ä a=>eval a X.env
|å=>"Walk"
|æ a=>.ref a
|ç=>Prop
|è=>"Weaver"
|é a b=>show a from b
|ë a=>.inl a
|ì a=>.tup a
|í a=>some a
|î a=>pure a
|ï a b c d=>Inv a b σ c d
|ð a b=>by rw[<- a];exact b
|ñ=>w.place.getD S.top
|ò a b c=>Þ a (Qb b) c
|ó a=>Qn (Qt a)
|õ a b=>by unfold a;rw[b];rfl
|ö a b=>List.replicate a b
|ø a=>S.pg[a]?
|ù a=>TP.qn rows.length a
|ú a b c=>Qr (QP a b) c
|û a=>Ç a Qj
|ü a b c=>({ a with b:=c })
|ý a b=>Qu (env:=a) b
|þ=>1000000000000000000000000000000
|ÿ a=>by rw[a];rfl
|Ā a b c=>Qf a (Qf b c)
|ā a=>⟨rfl,a⟩
|Ă a=>a<=sizeLine
|ă a=>Qd a Qi
|ą a=>List.range a
|Ć a=>Ì (Î a)
|ć a=>a=false
|Ĉ a=>.inr a
|ĉ=>"list"
|Ċ=>Ã Nat
|ċ=>ks.map .int
|Č a b c=>Qw a b (Qp c)
|č a b=>s.heap.get? a>=b
|Ď a b=>QN a b Ä
|ď a=>Option a
|Đ=>Ã Value
|đ=>Ae _
|Ē a b=>QK a (Ò b)
|ē a=>(by cases a)
|Ĕ a b c d e=>Z4 a PySem.F.plainAttrs_list b c d e
|ĕ a=>s.heap.objs.size+a
|ė=>Qb 1
|Ę=>.non
|ę a=>Í a Qi
|Ě a=>eC ↥a
|ě=>by exact trivial
|Ĝ a b=>absurd a b
|ĝ a=>eC (Ü a)
|Ğ=>"Desk"
|ğ a b c=>ï a O9 b c
|Ġ=>"shelf"
|ġ=>M DV
|Ģ a=>by simp[a]
|ģ a b=>a>=(Ð b)
|Ĥ=>⇑w
|ĥ=>QD _
|Ħ a b c d e=>({ a with b:=c,d:=e })
|ħ a b c d=>Qr (aN a b c) d
|Ĩ=>p.ps.map .int
|ĩ a b=>Qk a rfl b
|Ī a b=>à a (by rw[b])
|ī a=>by have:=a;lia
|Ĭ a=>(a : Str)
|ĭ=>ë rfl
|Į=>↑w.length
|į a=>.type a
|İ a b=>⟨a,b⟩
|ı a b c=>(by rw[a]at b;cases c)
|ĳ=>Qb 2
|Ĵ a b=>.Name a b
|ĵ a b c=>λ a b c=>?_
|Ķ a=>aM p.ks a
|ķ a=>Ô (Î a)
|ĸ a=>by rw[a];lia
|Ĺ=>↑s.heap.objs.size
|ĺ=>p.ks.map .int
|Ļ a=>â Str a
|ļ=>.un
|Ľ a b=>X.env.cells.lookup a>=b
|ľ a b=>by unfold a;exact b
|Ŀ a b=>Qo (Q8 a) b
|ŀ=>100000
|Ł a=>Ne.symm a
|ł a b c=>by show a=b;rw[c];rfl
|Ń=>"tuple"
|ń=>Qa 1
|Ņ a b=>⟨a,rfl,b⟩
|ň a b c d e=>Qo (a:=b) (hp1:=c) d e
|ŉ=>by simp;lia
|Ŋ=>"self"
|ŋ=>Array Value
|Ō a=>s.heap.push a
|ō a b=>X.env.scope.names.lookup a>=b
|Ŏ=>"number"
|ŏ a b c d e f=>k a b c d Gr.refl e f
|Ő a=>show a by lia
|ő=>Ã Str
|Œ a b c d=>∀(a:Nat)(b:c),d
|œ a=>a=true
|Ŕ a=>œ (PyData.strOk a)
|ŕ=>by rfl
|Ŗ=>Ã Int
|ŗ a=>â Key a
|Ř a b c d e=>Ā (Qx a b c) d e
|ř a b c d=>envOfC a b s.heap.objs.size c d
|Ś a b=>Qc a (Ò b)
|ś=>Qa 2
|Ŝ a=>λ_ _ _ _=>a
|ŝ=>⇑xs
|Ş a b c d e=>wpAny _ a b c d e
|ş=>↑a
|Š=>Qb 3
|š a=>QH a Ñ
|Ţ a=>Tree a bg
|ţ a=>(Ac.mp a).1
|Ť a b c d=>thn a (ĵ b c d)
|ť=>aK p
|Ŧ a b c d e=>(Bs (a:=b) (by repeat (first|exact c|refine d)) e)
|ŧ a b c d=>ħ (eB a) b c d
|Ũ a b=>by rw[a,b];rfl
|ũ=>Qb 4
|Ū=>Qg e
|ū a b=>ğ X a b
|Ŭ a=>(.nx,a)
|ŭ a b=>.ins a b
|ů a=>Ď å a
|Ű a=>a[i]?
|ű a b=>QK a (û b)
|ų=>"stretch"
|Ŵ a b=>backTo a (Ï b)
|ŵ a b=>by unfold a;rw[b]
|Ŷ a b c d e=>Ö X.prog X.w a b c d e
|ŷ a b=>sIx items.size a b
|Ÿ=>QG Á
|Ź a=>Builtin.SmallTypes.nextOf ↑a
|ź a=>(false,a)
|Ż a=>ź (ä a)
|ż a b=>λ a b=>?_
|Ž a b=>upd H a b
|ž a b=>h'.get? a>=b
|ſ a=>.tail _ a
|Α=>Ã Expr
|Β a b=>Ç a (Ò b)
|Δ a=>Nat.mul_le_mul_left _ a
|Ε=>S.pg.map aK
|Ζ a=>.bl a
|Η=>Ζ true
|Θ=>Ζ false
|Ι a b=>QO Á a b
|Λ a b=>s.heap.IsTuple a b
|Μ=>bg n
|Ν a=>a=none
|Ξ a=>Ν (H a)
|Ο a b=>QW a rfl b
|Υ a=>Str.ofString a
|Φ a=>Qe (Zb a)
|Χ a=>Nat.mul_le_mul_right _ a
|Ψ=>Ü row
|Ω a b=>Zk (top a) b
|γ a=>ū H a
|δ a=>K.lookup a
|ε a b=>PySem.W.nsIn a mainGlobals b
|ζ=>XB a.units
|η=>Ã V
|θ a=>a->ç
|ι a b=>List.lookup (a : Str) b
|μ=>(·.1)
|ν=>æ a
|ξ=>Ν w.place
|ο a=>f env a
|π a b c=>É (œ a) b c
|τ=>æ s.heap.objs.size
|υ a b=>⟨a,b,rfl⟩
|χ a b c=>QV a b c ĥ
|ψ a b c d=>Ŷ X.A a b c d
|ω a=>à a ?_
|ϊ a=>.builtin a
|ό=>.head _
|ύ=>ſ ό
|ώ a b=>Zf a Z.z0 PySem.boot_len b
|Ϗ a=>Value.ref a
|ϑ a b c=>QE a b Â Qy c
|ϒ a b c=>.Attribute a b c
|ϓ a b=>by rw[a,b]
|ϕ a b=>ò aB a b
|ϖ=>⇑p.ks
|ϗ a b=>.cons a b
|Ϙ a=>by unfold a;rfl
|ϙ a b=>hp.set a b
|Ϛ a b c d e=>QT a b c d rfl e
|ϛ a b c=>ψ a b X.xe c
|Ϝ a=>by rw[a];simp
|ϝ a b=>Þ a Ä b
|ϟ a b=>DE X a b
|Ϡ=>"finish"
|ϡ=>txt i
|Ϣ a b=>ü a heap b
|ϣ b c=>QB (QM a) b c
|Ϥ a b=>Ű a>=b
|ϥ a=>g1.trans a
|Ϧ a b=>h.get? a>=b
|ϧ=>Ü x
|Ϩ=>⇑P.ks
|ϩ=>I.tok _
|Ϫ a=>compareOp a
|ϫ=>ps.map .int
|Ϭ a b c=>by unfold a;rw[b];exact c
|ϭ a=>!↑a
|ϯ a b c=>Qo a (Qo b c)
|ϰ=>⇑L.rows
|ϱ=>Qa 3
|ϲ=>θ Shared
|ϳ a b c=>{ a:=b, data:=c }
|ϵ a b=>ϳ cls (į a) b
|ϸ a b c d=>aA.grow S1.wo.rb a b c d
|Ϲ=>ns.map .int
|ϻ=>opt p.hi
|ag=>γ s
|aC a b=>Ç a (û b)
|aE=>ο hp
|aI a=>ë (Î a)
|aS=>"range"
|aT=>œ X.calm
|a0=>⇑ps
|bb=>f env
|bd=>Qm e2
|bn=>Qa 4
|bp=>Ě 0
|bE a b c=>by unfold a;rw[b,c];rfl
|bG=>Ð []
|bI a=>Ó ↑a
|bP a=>RelV a u
|bS=>Ě 1
|bT a=>İ a rfl
|bX=>bR S
|b5 a=>a->ġ
|cf=>b5 Û
|ck=>b5 DV
|cm a b c=>PySem.W.findIn a ↑b c
|cq=>Cy rfl
|cr a b=>PE X a b
|cv a b c d=>Qk (a:=b) c rfl d
|cw a=>assignEach a X.env
|cx a b=>Qh aB a b
|cy a b c=>by unfold a at b;exact c
|cz a=>QI (ß a)
|cS a=>p.ks.drop (Ķ a)
|c4 a=>Ν (X.mg a)
|da a=>env.set i a
|db a=>by have:=a;simpa using this
|dc a b=>œ (PySem.W.keepIn a b)
|df a b c=>PyProof.Rows.callWith_type1 a b c
|dm a=>by show a;lia
|dq a=>bV rows a
|dr a b c d=>⟨a,b,c,rfl,d⟩
|dt a b=>tD.run a e1 b
|du a b=>List.set_append_right _ a b
|dz=>Ì i
|dA a=>Qo a ?_
|dC=>ì ċ
|dE a b c d e=>ú a b (ú c d e)
|dL a b=>Qz a b Qq
|dO=>eC Ę
|dQ=>⇑kvs
|dS a=>X.s₀.heap.objs.size<=a
|d4 a=>I.tuple a
|d6 a=>â Nat a
|d9 a=>Nat->a
|ec a=>show a by decide
|ed=>ā rfl
|ee a b c=>Å a b (Ü c)
|eg=>θ Hp
|en a b c=>Ħ a heap b toks c
|et=>d9 Nat
|ey=>.none
|ez a=>OV.lst a
|eA=>"answer"
|eD=>"weaver"
|eE a b=>Ν (ι a b)
|eH a b c=>ģ a[b]? c
|eI=>⇑hp
|eK a=>Nat.le_of_lt a
|eM a=>(a).length
|eP=>ę 1
|eQ a b c d=>ZP a b c (Ò d)
|eR=>"page"
|eS=>Ã TR.aJ
|eW a=>beq_eq_false_iff_ne.mpr a
|fg=>ZC O4 L
|fh a b c=>⟨a,b,rfl,c⟩
|fm b c=>ϣ b (ZN c)
|ft=>⇑ks
|fw=>Cw À
|fx a b c=>Cv (wpAny_seqItems a b c)
|fy=>g1.gs S.wo.rb
|fz a=>î (Ζ a)
|fA a b=>by simp[a,b]
|fD a=>a≠X.env.locals
|fE=>1000
|fF a=>binaryOp a
|fI a=>(by cases a<;>rfl)
|fJ a=>by rw[<- a];simp
|fN a=>by rw[a]
|fP a b=>Æ (Q0 a) b
|fR=>ſ ύ
|fS=>ϭ hp.length
|fT a=>Loc X.env.scope a
|fY a b c d e=>Z4 a PySem.F.plainAttrs_str b c d e
|f3=>wpAny_holding ?_
|f4 a=>DV.int a
|f7 a b=>Qf a (ó b)
|f8 a=>(a).ks.length
|ga a b c d e=>ŭ á (aV a b c d e)
|gd a=>Vals a us
|gg=>û 1
|gu=>ć w.O7
|gv a b c d e=>QC a b c d e Qj
|gL a b c d e=>λ a b=>do let c <- d;e
|gQ a b c d=>.Call a b c d
|g8 a b=>Zt (QG a) b
|hF a b c=>TP.Zm rows a b c
|hH=>zq a.units
|hL a b=>õ a (Qe b)
|hU=>ø n
|hV=>Ð ds
|hW a b c d e=>(λ a=>by rw[b,c]at d;cases e)
|hX=>1000000021000000147000000343
|hZ a b c d=>à (Heap.get?_update_other a b c) d
|h7=>ŗ DV
|h9 a b c=>SqT a H b c
|ic a b c d e f=>QC a b c d e (Ò f)
|ie=>p.ks.map DV.int
|ig a b=>Zc a (ó b) QF
|ik a b c d=>ig (χ a b c) d
|im=>λ_ _=>rfl
|io a b c d e f g h i=>thn a λ b c ⟨d,e,f,g,h⟩=>i
|iq a b c=>au a ρ B H b c
|ir a b c=>by have:=a;rw[b]at this;exact c
|iw a b=>TR.Zj a w.aim b
|ix a b c d=>Þ a (cx b c) d
|iA a b=>.int a b
|iE=>oN p.sd
|iF a=>TR.fresh a
|iH=>Î n
|iL a=>í (Î a)
|iN a b c d e f g=>Ř a b c (Qx d e f) g
|iO=>d6 TR.Wk
|iP=>⇑p.ps
|iS a=>by simp at a
|iX=>(·.2)
|i0 a=>⟨#[a]⟩
|i3 a=>by exact a
|i4 a b=>iq K a b
|i6 a=>nomatch a
|i7 a=>not a
|i8=>Qb 5
|i9=>Qb 6
|jc a=>by rw[hd];show a;decide
|je=>Î S.top
|kb a=>Ak (Ł a)
|kd a=>ă (š a)
|kw a b=>eH hp a b
|ky=>"place"
|lr a b c d e f=>Z6 (a:=b) (ds:=c) d e f
|ly=>Ō PySem.W.emptyDict
|lI=>Ν A.handled
|lP=>⇑r
|lS=>.nil
|lT a b=>Qh Zq a b
|l3 a b=>Zs a Ñ b
|l6 a b=>Ze (Jf a b)
|l7 a b=>Int.emod_lt_of_pos a b
|l8 a b=>ć (a==b)
|l9=>ę 2
|ma=>Ķ aim
|me a b=>TR.Zl p a b
|mf a b=>Ĉ (İ a b)
|mh a=>PySem.W.instObj a s.heap.objs.size
|mi a=>Around.under_plainId a _
|mm a=>Ĉ (ë a)
|mr a b c=>aA a ρ B H b c
|mw a b c d e=>ic a "say" b c d e
|mx a=>i4 ds a
|my a=>fs.lookup a
|mz a=>PySem.mem_of_lookup a
|mB a b=>wpAny_setField_rec a Ê b
|mE=>L.Ok O4
|mG=>"pages"
|mI a b=>Ō (ϵ a b)
|mM=>ď Value
|mP=>SqL.of h1
|mS a b=>Zo (Qd a b)
|mT a=>!(ì a)
|mY a b=>⟨a,b,?_⟩
|m2 a b c d=>by unfold a;rw[Qe b];show c;rw[d];rfl
|m4=>Ŭ env
|m5 a=>I.hok.fresh a
|m9 a=>ds.drop a
|ng a=>ĩ Á a
|ni a b c=>ŧ a (QR b) Zg c
|nj a=>xs.map a
|np a b=>by unfold a PyData.depth;exact b
|nr=>"table"
|nt=>Ô i
|nv a=>é a rfl
|ny=>ì ds
|nz a b=>mr K a b
|nB a b c=>eB (Qh a b c)
|nE=>.local
|nI=>"zip"
|nK a=>scope.names.lookup a
|nN a b c=>HT.sIx a b c
|nS a b=>Z0 (Qc a b)
|nV a=>SeqAt.shaped (toP a)
|nX a=>TR.Tree a bg
|n5 a b c d e f=>Ş a (b >>= c) d e f
|n8 a b c d e=>(by obtain⟨a,b,c⟩:=d;exact e)
|og b=>ϣ b Qq
|oh a=>.fields a
|om a=>Ad _ a
|oq a=>p.ks.take a
|or=>Qa 5
|ot=>Ĉ rfl
|ow=>ů "aim"
|oA a b c=>Ĕ a PySem.F.slot_list_extend PySem.F.type_list_extend b c
|oB=>p.1
|oC a=>(a).objs.size
|oE a b c=>do let a <- b;î c
|oP=>aM ks k
|oS=>"move"
|oT=>cJ x
|o6=>λ_ _=>False
|pc a=>qn a m
|pe=>K w.params
|ph=>TR.Zr p w.aim
|pv a=>ώ ZF a
|pw a=>Bi.mp a
|py a=>wpAny_truthy_bool a
|pE a=>(L.first+a)
|pM a b c d=>λ a b c d=>?_
|pS a b c d=>wpAny_mono a b λ_ _ c=>d
|pV a b=>by have:=a;simpa [b]using this
|p9 a b c=>Jl (Jt (a:=b) c)
|qs=>Ü wd
|qv=>Ţ S
|q7 a b=>Ž a (Ð b)
|rc=>ſ fR
|re=>i0 c
|rg a=>↥(Î a)
|rh a b c=>SqL a H b c
|rj a b c=>by show a;rw[b];exact c
|rk a=>Xy w.O5 a
|rp a b c d e f=>Ö prog a b c d e f
|rq=>⇑x
|rr a b c d e f g=>λ a ρ1 b c d e f=>g
|rN a b c d e f g h i=>wpAny_getItem_str_slice (a:=b) (c:=d) (e:=f) g h (post_val_or_str i)
|rO a=>Ē ZD a
|rS=>pc n
|rV=>Type
|rX a b c d=>aP a ρ b c d
|r0=>"deed"
|r6 a b c=>sl3 (λ a=>b) c
|r8 a b=>Æ (Aq.mp a) b
|sf=>Ì p.lv
|sg a=>ż a hx
|sh a=>ϥ (g2.trans a)
|si a=>.aL a
|sj a=>S.rd+a
|sn a b=>by have:a:=b;lia
|so a b=>Room a (A.deeper b)
|ss a=>Xn (eB a)
|sw=>Nat.le_succ _
|sA a=>h.Ns mainGlobals a
|sB=>bw Q
|sC a b=>Int.emod_nonneg a b
|sD=>û 2
|sF a=>Ĵ x a
|sK=>Cz ?_
|sL a b c=>Builtin.Range.rangeSize a b c
|sM=>"str"
|sQ a b=>Qd a (ă b)
|sR a=>!(Ð a)
|sT=>mx xs
|s0 a=>w.place>=a
|tf a=>a≠s.heap.objs.size
|tj a b=>λ_ a=>ë b
|tm a=>(a).isSome
|tq a=>Au a rfl
|tr a b c d e f g=>bN a b env c d e f g
|tz a b c d e=>PySem.W.kia_one a I.kIn b c d e
|tF a b c d e=>by rw[a];intro b c;have:=h1 d e;simp;lia
|tI=>"find"
|tJ a=>codeAny_builtin a ?_
|tK=>"room"
|tN=>mF a.units
|tP a b=>(a).map b
|tS a b=>tP (ą a) b
|tT a b c=>tP a (λ b=>c)
|tY a=>a ≠ "__name__"
|t6 a b c d=>⟨a,b,rfl,c,d⟩
|t7 a b c=>swapsWith a b c X.env
|t9 a=>wpAny_passesOwn hp a
|up=>Bb _
|vr=>by simp only[An]<;>lia
|wa a b c d e f=>Gr a ρ b c d e f
|wb=>"isinstance"
|wc=>ZQ d
|we=>by rw[Am];simp;lia
|wf=>"0123456789"
|wh=>"sound"
|wm a b c d=>zg PassesOwn.never a b c d
|wn a b c=>œ (PySem.W.codeIn a b c)
|wp=>θ VK
|wq=>dq t'.S.O4
|wt a b=>UF K mg a b
|wu a b c d=>∃(a:Nat)(b:c),d
|wv a=>k.after a
|ww a=>tP a .int
|wx a b=>λ_ _ _ a=>b
|wy a=>I.list a
|wA a b c=>by unfold a at h;unfold b;exact c
|wC=>"new_page"
|wJ a b=>ć (behindInMarks a b)
|wL a b c d=>Qr (Zu a b Ä c) d
|wP a b=>l6 a (Qv b)
|wS a b c d=>(by obtain⟨a,b⟩:=c;exact d)
|wT a=>Cv (wpAny_rule a)
|w8 a=>X.A.units+a
|xk a b=>Qr a (QR b)
|xz=>"put"
|x3 a=>œ (X.fn a)
|x4 a b c=>rX a b hp c
|x5 a=>.bool a
|zu a b=>a>=(si b)
|zw=>ns.map V.int
|Af a=>ds.map a
|AA a=>ZS Á a
|AB a b c d=>Qo (a:=b) (Qs c) d
|AC a=>ϝ aB a
|AD a b c d=>gv a b 1 c d
|AE=>"worth"
|AF=>ą Ú
|AG a b=>JC a Z.z6 boot_str b
|AH=>⇑os
|AI=>(· < ·)
|AJ=>bootBuiltins x
|AL a=>Builtin.Tuple.tupleExact a
|AM=>"dict"
|AN=>Qb 7
|AO=>nD r
|AQ=>ks.Pairwise AI
|AR a b c=>T.page a b c
|AS a b c=>rows.Pairwise (λ a b=>c)
|AT a b c d e f=>PySem.W.kia_tup a I.kIn b c d e f
|AU=>Ã α
|AW a=>Ē JD a
|AX=>Ļ DV
|AY a=>Ϥ a x
|AZ=>ϭ k
|A0=>â Addr Obj
|A4=>sg x
|A6 a=>Ah.mp a
|B6 a b c d=>Qh aB a b c d
|Cl a b c d e f g h=>Xc (caps:=a) (b:=c) d e f g h
|CA a=>İ a ?_
|CB=>ů "goal"
|CC a b c=>⟨a,b,c,none,none⟩
|CD a b=>(a).filter b
|CF a=>⇑(l.filter a)
|CH=>Qm e
|CI=>eC Θ
|CJ a b=>aA.bO W a b
|CL a=>JM kvs a
|CM a b=>Je rows a b
|CO a=>DV.bl (ß a)
|CS a=>List.eq_of_mem_replicate a
|CU a b=>Å a b Ę
|CY a b c d=>É (a=b) c d
|C1=>ę 0
|Da a b=>h9 a b xs
|D1=>ps.zip us
|D2=>"cut"
|Eg a=>List.getElem?_range a
|Ex=>Ao e
|EA a b=>OpR X a b
|EB=>1073741824
|EC=>by omega
|ED a b=>wpAny_newObj_type a b
|EE a b=>by unfold a at h ⊢;exact b
|EF=>Qe this
|EG a=>bF a k
|EH=>EG ks
|EI=>EG p.ks
|EJ a=>ws.set i a
|EK=>"ended"
|EL=>"deed_count"
|EM a b=>QS (a:=false) b
|EN=>Int.negSucc n
|EO=>Ã Key
|EQ a b c d=>Č a [b, c] d
|ER a=>Ď Ğ a
|ET=>ĕ 1
|EU a=>İ a À
|EV a=>Ŭ (J a)
|EW b c d=>hf b c (Õ a d)
|EX a b c d=>gQ (Ĵ a b) c [] d
|EZ b c d=>Q7 b a Â Qy c d
|E1=>opt b
|E4 a=>tP a .str
|E6 a b c d=>∀{a:Nat}{b:c},d
|E7=>⇑S'.pg
|E8 a=>a<=100
|E9 a b c=>au.gs a _ b c
|Fa=>Qg e2
|Fc a b c=>bK a (Zh b) c
|Ff=>cN ds
|Fh a b=>by show a;rw[b]
|Fm=>Cs.mp hx
|Fn=>Qa 6
|Fs a b=>Ð (a++b)
|Fu=>ę 3
|FA a b c d=>Ϛ Á a b c d
|FC a=>S.pg++a
|FD=>Sem Value
|FE=>"write_count"
|FF=>"answers"
|FH=>Ě 10
|FI a=>İ a []
|FK=>Ŝ JT
|FL=>ů Ġ
|FM=>AA Á
|FO a=>Value->a
|FP a=>λ env=>a
|FS a=>False.elim a
|FT a=>X.K.lookup a
|FU a b=>S.pg.set a b
|FX=>cl x
|FY a b=>ß (a=b)
|F0 a b c=>Œ a b Pg c
|F6 a b c=>ω (p9 a b c)
|F7=>si []
|F8=>⇑ns
|F9 a b=>⇑(CD a b)
|G1 a=>a[j]?
|G6=>Ã Stmt
|Hg=>ER Ġ
|Hj a=>wpAny_Call_Name_kw a
|Hr=>Qp stm
|Hu a=>List.take_of_length_le a
|Hw a b=>Txt.startswith a b
|HX a=>Nat.toDigits 10 a
|Ib a b=>ß (a<=b)
|Ic a=>ű ZD a
|Iq a b c d=>Has P w K mg O8 a b c d
|Ix=>pc rows.length
|Iy=>relabel scope X.env
|IB=>ü S rd (sj 1)
|IC a b=>.BoolOp a b pos
|ID a b c=>by rw[a]at b;exact c
|IE=>Qe e1
|IF=>! ş
|IG a=>ŷ items.size a
|IH a=>l8 a sysModules
|II a b c d e=>(by rcases a with b|c;exact d;exact e)
|IJ=>λ_=>0
|IL a=>(a).toNat
|IM a b c d e f g=>J4 a scope b c d e f g
|IN a b c d=>QA a b (Ç c d)
|IO a b=>ds.mapM (dw a b)
|IP=>"check_number"
|IQ=>cT seen
|IR=>Ã Env
|IS=>Î k
|IT=>ì xs
|IU=>Ζ b
|IV a b c d=>gL a env b c d
|IW a=>a->Bool
|IX a b=>⟨o,a,b⟩
|IY=>H a
|IZ a b c=>JR a (ϊ b) c
|Lc a b c=>attributeBase a b X.env c
|Lm a=>ks.take a
|Lq=>Xq rows O4
|Lu a=>î ↥a
|LA a=>Ν (δ a)
|LD a b c d e f=>dt a (rr b c H1 g1 d e f)
|LE a b c d e=>LD a b c S1 d e
|LG=>⇑s.ws
|LH=>a.names.lookup x
|LI a=>Obj.mapSeq a
|LJ a b=>QA 2 a b
|LL a b c=>LJ a (Β b c)
|LM=>ZK n
|LN=>Zn P
|LO a b=>W.kept a f b
|LP=>"pairs"
|LS a b=>Í a (ă b)
|LT=>Î i
|LU a b=>ß (a<b)
|LW a b c=>fY a PySem.F.slot_str_join PySem.F.type_str_join b c
|LY a b c=>ŏ a ρ B H b c
|LZ a b=>LY _ a b
|L4 a=>LZ W a
|L7=>tq _
|L8 a b c=>(by cases a<;>first|rfl|exact Ĝ b c)
|My a b c d e f g h=>Xa a b c mg O8 d e f g h
|MM=>90000
|Na=>"key"
|Nd a b=>nN items.size a b
|Nf b c d=>EZ b c (ă d)
|Nl a=>Value.type a
|Nn a b=>ø a>=b
|No a=>Nn a q
|NB a b c=>Heap.SameBut a b c
|NC=>λ_ _=>true
|ND a=>Gl X a
|NE a=>g env a
|NF a=>List.prefix_append _ a
|NG a=>DV.ref a
|NH a=>Builtin.SmallTypes.ownedTupleIsFree ↑a
|NI a=>ii.extBut a D.iz
|NJ=>XE P
|NL a=>List.getElem?_of_mem a
|NM a=>T.lookup a
|NN=>Ì k
|NO=>ù m
|NR a b=>Ŀ a (Qv b)
|NS a=>Ŵ pos a
|NU a=>ϓ a Nat.one_mul
|NV a b c=>CY a b none c
|NW a b c d e=>⟨a,b,c,d,rfl,e⟩
|NY a b=>Cv (wpAny_typeOf a b)
|N0 a b c=>Qc a (Ś b c)
|N1 a b c d=>by have:=a;unfold b at this ⊢;rw[c,d];rfl
|N2 a b=>ë (İ a b)
|N3 a b c d=>dr (Ζ a) b c d
|N4 a b c=>⟨a,?_,b,c⟩
|N9 a=>a<s.heap.objs.size
|Of a=>I.ok.hd a
|On a b c d=>(by subst a;rw[b]at c;cases d)
|Op a=>!(Ü a)
|Os=>dN d
|Oy=>í v
|OA b c d=>ϑ b a (Í c d)
|OC a=>CU isD a
|OE a b=>holding a b
|OF=>ns.map DV.int
|OG a b c d e f g=>k3.extBut a b c (k2.extBut d e f g)
|OH=>p.ks.zip p.ps
|OI=>"deeds"
|OK a b=>Qz Z9 a b
|OL=>ď Addr
|OM a b=>nS (ĝ a) b
|ON a b=>tupleKind (Jk a b)
|OO a=>a<w.O6
|OP a b=>congrArg a b
|OQ=>λ_ _ _=>False
|OR a b c=>Heap.get?_update_self a b c
|OS=>M Bool
|OT a b c d=>Z5 false a b c d
|OU a=>p.ps.take a
|OW a b=>ZO a w.aim b
|OX a b=>aP a bg b
|OY a b=>TR.ZO a w.aim b
|OZ=>Ã Keyword
|O0=>æ n
|Pa a=>î (ì a)
|Pc a b c=>œ (PySem.W.plainGet a b c)
|Pd a=>ϕ a 0
|Pe a b=>hF a false b
|Pf a=>nz d a
|Pi a=>YO L.rows L.m L.fork a
|Pm a b=>rh a b xs
|Pp a b=>a>=((b,hp'))
|Ps a b c=>(∀a∈b,c)
|Pv a b c=>by rw[a,b];exact c
|Pw a b c=>P2 a (Ϫ b) c
|Py a b=>Qr (ZV a) b
|Pz a b=>L2.PE.imp a b
|PD=>"page_room"
|PF a b=>QS (ĩ a b)
|PH a=>.acc a
|PK a=>hp[a]?
|PM a=>w.pairs++a
|PQ=>Xj Qj
|PR a=>opt (bg a)
|PU=>Z3 P
|PX a=>List.mem_iff_getElem?.mp a
|PY a b=>é (œ a) b
|PZ=>ì Ĩ
|P3=>Ķ w.aim
|P7=>ſ rc
|P8=>dq O4
|P9=>og Ñ
|Ql=>sF pos
|Q1=>AC 0
|Rb=>Ď è "held"
|Rn a b c=>FP (do if <- a then b else c)
|Rq a=>DV->a
|Rt=>Rq ck
|Rz a=>Vis X.env.scope a
|RB a=>show a by simp
|RD a=>plainId_quiet a _
|Sc a=>TR.JF a 0
|S0=>ì ĺ
|S6 a b c=>İ a (ľ b c)
|Ta a=>da (Ó a)
|Tb a b c d=>ň aH a b (Qs c) d
|Th a b=>a s.heap.objs.size b
|Tk a b c=>λ a b=>ē c
|Tl=>⇑j
|Tm=>⇑ys
|To=>g env
|Ts a=>tupleKind_room_in1 a
|Ty=>"raise_root_over"
|TB=>"read_count"
|TC a b=>Qo a (Qv b)
|TD=>æ Ĥ
|TH=>î false
|TK=>Ļ Int
|TL=>bT _
|TM a b=>l8 a (Ĭ b)
|TU=>om e
|TW a b c d e f=>tr a b σ c d e f
|T0=>NU Nat.add_mul
|Wd=>OO p.lv
|XP a b c d e f g h=>(by unfold a at b;obtain⟨c,d,rfl,e,f⟩:=g;exact h)
|X2=>F.args_zip_next_1 _
|YP a=>ZB a Ú
|Y1=>YP P
|Y2 a b c=>(a).set b c
|aa0 a b c d=>(by obtain⟨a,b,_⟩:=c;exact d)
|aa1 a=>by have:=a;simp at this;lia
|aa2=>Nat.sub_add_cancel q1
|aa3=>strIterType x
|aa4 a=>List.take_succ_eq_append_getElem a
|aa5 a=>List.drop_of_length_le a
|aa6=>P.ks.drop PU
|aa7 a b c d=>KA PassesOwn.never a b c d
|aa8 a=>O8.Ns mainGlobals a
|aa9=>λ_=>none
|ab0 a b=>(by cases w;simp only at a;subst b;rfl)
|ab1 a b=>by unfold a;rw[b];simp
|ab2 a b c=>(by obtain⟨a,_,rfl⟩:=b;exact c)
|ab3 a b=>PySem.W.mg_of X a b
|ab4 a b=>œ (TR.still a b)
|ab5 a=>beq_iff_eq.mpr a
|ab6 a b c d=>(by rw[a]at b;cases c;exact d)
|ab7 a b c=>œ (Builtin.Range.small a b c)
|ab8 a=>a<=rows.length
|ab9 a=>X.env.kindOf a
|ac0 a=>by unfold a;split<;>rfl
|ac1 a b c=>by refine a;unfold b;rw[Qe c];rfl
|ac2 a b=>by rw[a];show b;decide +kernel
|ac3=>š Z.mq
|ac4=>Υ "__next__"
|ac5=>x5 true
|ac6=>"__init__"
|ac7=>r.take i
|ac8 a b c=>ZR (a:=b) (QS c)
|ac9 a b=>œ (PySem.W.hasDictIn a b)
|ad0 b c d=>⟨b,c,a.pairs,d⟩
|ad1=>Paired.length r
|ad2 a=>rows.length<=a
|ad3=>fs.map μ
|ad4=>standAt apos.atName
|ad5 a=>assign a X.env
|ad6=>"type.__call__"
|ad7=>ns.map PySem.W.WData.int
|ad8=>"StopIteration"
|ad9 a=>p.ps.drop a
|ae0 a b=>by unfold a;rw[b];lia
|ae1 a=>(a).pg.length
|ae2=>"hand_in"
|ae3 a b c d=>Z6 (a:=b) c rfl d
|ae4 a b=>œ (PySem.W.isFn a b)
|ae5=>nj .str
|ae6 a b c=>Y2 (FC a) b c
|ae7=>Ci _
|ae8 a b c d e f g=>let ⟨a,b,c⟩:=d;⟨e,f,g⟩
|ae9=>λ_=>Η
|af0 a=>λ_ _ _ _ _ _ _ q=>a
|af1=>wpAny_onRaise ?_
|af2 a b=>ks.filter λ a=>b
|af3 a b=>Nat.mul_le_mul a b
|af4 a=>a=s.heap.objs.size
|af5 a b=>(a).names.lookup b
|af6 a b c=>by subst a;rw[b]at mu;exact c
|af7 a b=>isTrue a X.env b
|af8 a b=>getMethod a b pl
|af9 a b c d=>wpAny_call_entry a b c ?_ d
|ag0=>Qp st
|ag1 a b=>by simp[a,Bv,b]
|ag2=>Qb 11
|ag3 a b=>lY s.heap a b
|ag4=>Qe h
|ag5=>Int.le_refl _
|ag6 a=>by unfold a;lia
|ag7 a=>by unfold a PyData.canLay0;rfl
|ag8 a b=>Builtin.List.listExtendWith Ĺ a b
|ag9 a=>List.getElem?_zip_eq_some.mp a
|ah0=>Nat.succ_pos _
|ah1 a=>Bool.eq_false_iff.mpr a
|ah2=>Xi Qi
|ah4 a b=>(by injection a with b;lia)
|ah5=>Ó ş
|ah6 a=>â a Value
|ah7=>ϊ "object.__setattr__"
|ah8=>ϥ g2
|ah9=>ER eD
|ai0 a=>Nn S.top a
|ai1 a b c d e f g=>I.turned (a:=s.toks) b c d e f g
|ai2=>"pack_table"
|ai3=>"script"
|ai4 a=>t.ws.set i a
|ai5=>(Ô first)
|ai6 a=>Sum.inl a
|ai7=>c.val k
|ai8 a b=>au.cons a b
|ai9 a=>QI (Yl a)
|aj0 a b=>by simp only[a,b,C6]
|aj1 a b=>(by unfold a;rw[ag4];cases b<;>rfl)
|aj2 a=>ks.drop a
|aj4=>(fg).rows.length
|aj6 a=>Txt.split a blank
|aj7=>"taken"
|aj8=>Qa 7
|aj9=>A.take i
|ak0=>ā trivial
|ak1 a=>Ĉ (Ĉ a)
|ak3=>ď Expr
|ak4 a=>Ν (mg a)
|ak5=>fF .Add
|ak6=>fF .Mult
|ak7 a b c=>IV a env' b c
|ak8 a b c d=>call_meetsIn PySem.F.slot_dict_get a PySem.F.entry_dict_get b c d
|al0=>I.mod.glob.keeps I.bk
|al1 a b c d e f g=>by intro a b σ c d e f;exact g
|al2=>Ap À
|al3=>Or.inl rfl
|al4=>ds.all X6
|al5=>aQ ps
|al6=>aQ rows
|al8=>W i
|al9=>"keys"
|am0=>by kernel_rfl
|am1 a=>updateSeq s.heap.objs.size a
|am2 a=>PySem.F.args_str_split_2 _ a
|am3=>"numbers"
|am4 a=>î (Ð a)
|am5=>ď Nat
|am6=>ĝ "-"
|am7=>ĝ " "
|am8=>ů ky
|am9 a=>Ž s.heap.objs.size a
|an0 a b c=>ϗ a (ϗ b c)
|an1=>Ϙ aA
|an3 a b=>ϙ a (si b)
|an4=>dq t.S.O4
|an5 a b c d e f=>gQ (ϒ a b c) d e f
|an6=>rO Ä
|an7=>model X.prog X.w
|an8=>Ď á "kept"
|an9 a b=>by rw[a,b];lia
|ao0 a=>Room k a
|ao1 a=>by unfold a;simp;lia
|ao2 a=>fV X.K a
|ao3 a=>still ds a
|ao4=>PySem.intText? x
|ao5 a=>Ü (txt a)
|ao6=>û 3
|ao8=>Zm L.rows L.m L.fork k
|ao9=>AC 1
|ap0=>C5 À
|ap1=>Array mM
|ap3 a b=>(qj a b).elim
|ap4=>K.In s.heap
|ap6=>J 0
|ap7 a b=>bindArgs a (FI b)
|ap8 a b=>s.TypeIs ↑a b
|ap9 a b c=>by rw[<- a,<- ⇑b];exact c
|aq0=>C0 À
|aq1=>h1.symm.trans e
|aq2 a b=>au.append a b
|aq3 a=>ds.take a
|aq4 a=>Gr.laid a
|aq5 a b c d e f=>Gr.laid (a:=b) (ρ:=c) (d:=e) f
|aq6 a b=>qV (eB a) b
|aq7 a=>jj.extBut a D.jz
|aq8 a b c d=>QK a (Ò b) c d
|aq9=>L.s k
|ar0 a=>KTD.Dat.flat a.2
|ar1 a b=>Txt.join a b
|ar2=>"level"
|ar3=>"answer_of"
|ar4=>("first")
|ar6=>xu rows O4
|ar7=>TR.prs p
|ar8=>txt n
|ar9=>dW d
|as0 a b=>XA a none b
|as1=>Î m
|as2 a=>Ü (zY a)
|as3 a b c=>Ā a b (ó c)
|as4=>ć w'.O7
|as5=>Ļ Value
|as6 a b c=>ł (í a) b c
|as7 a b c=>cv a b c rfl
|as8=>i7 xs.isEmpty
|at0=>NS es
|at1 a b c=>E (Ó a) b c
|at2 a b c d e f g=>(by obtain⟨a,b⟩:=c;obtain⟨d,e⟩:=f;exact g)
|at3 a=>Calls.spliced_cons a
|at4=>"told"
|at5 a=>Nat.eq_zero_or_pos a
|at6=>"rest"
|at7=>"pack"
|at8 a b c d e f=>Qk (x:=a) (b:=c) d e f
|at9 a=>Æ List.length_set a
|au0=>d6 Nat
|au1=>AY X.N
|au2 a=>Cw (ne_true_of_eq_false a)
|au3 a=>s.heap.objs.size<=a
|au4=>λ_=>rfl
|au5 a=>Calls.spliced_nil a
|au6 a=>(a).toArray
|au7=>Jr st
|au8 a=>kvs.map a
|au9 a b=>fW.run a e1 b
|av0 a b c d e=>by have:=a;rw[b]at this;rw[<- c,<- d];exact e
|av1 a b=>eG a (bg b)
|av2 a=>J5 (Xd a)
|av5=>ts.map .str
|av6=>Ã Ċ
|av7=>í NJ
|av8 a=>ý a ?_
|av9 a=>Ĝ rfl a
|aw0=>į Ń
|aw1=>œ L.fork
|aw2=>ů "forks"
|aw3 a=>Ι a (zF ..)
|aw4 a=>ϝ bB a
|aw5=>ϭ v2
|aw6=>bI 0
|aw7=>kd Z.lA
|aw8 a=>kw a ds
|aw9 a=>l8 a (Ĭ "__debug__")
|ax0=>sF px
|ax1 a b c=>tT a b (Ì c)
|ax2 a b=>t7 a b pos.line
|ax3=>EJ w'
|ax4=>FO FD
|ax7=>Pd 2
|ax8=>PH es
|ax9 a b c d e=>an5 a b c d e pos
|ay0=>Cw e
|ay1=>Jr stm
|ay2 a b c=>TP.Zm a b true c
|ay3 a b=>SeqAt hp a b
|ay4=>š Z.k10
|ay5=>ź hp1
|ay6 a b=>backToKw a (keywordEach b X.env)
|ay9 a b c=>k a ρ1 b H1 g1 S1.wo c
|az0 a=>Vals xs a
|az1=>⇑w1
|az2 a b=>(a, æ b)
|az3=>frs X.stack
|az4=>AllBare s'.gens
|az5 a b c=>PassesOwn a b X.env c
|az6 a=>max 1 a
|az7 a b=>Builtin.Slice.slicePlaces a b 1
|az8 a b c=>s.heap.IsSliceOf a b c ey
|az9 a b c d=>wpAny_callSpecial?_slot (name:=a) b c d
|aA0 a=>Builtin.List.listTooLong a
|aA1 a b c d=>au.grow a b _ c d
|aA3=>"read"
|aA4=>aQ u.pairs
|aA5=>Nat.succ_ne_zero _
|aA6 a=>bs.getD a false
|aA7=>Builtin.Int.intBits x
|aA8=>"root"
|aA9 a b=>Qf a (Qn b)
|aB0 a b c=>X5 a (Z1 b) c
|aB1=>last i
|aB3 a b c d=>ZT (Jw a b c) d
|aB4 a=>StrLaws.glued_eq_join _ a
|aB5 a=>Î ⇑a
|aB6=>æ a.heap.objs.size
|aB7=>ć u.O7
|aB8=>į ĉ
|aB9=>Ļ Addr
|aC0 a=>Ι a (xh ..)
|aC1=>Ϗ s.heap.objs.size
|aC2=>aI k
|aC3 a=>da (PH a)
|aC4=>i7 ds.isEmpty
|aC5 a b=>zu (PK a) b
|aC6=>CM m fork
|aC7 a b=>TM (Ĭ a) b
|aC8=>aw9 x
|aC9 a=>a s.heap.objs.size
|aD0 a b=>.builtin a b
|aD1=>⇑w.pairs
|aD2 a=>RelV a v
|aD3 a=>Cv (wpAny_letGo a)
|aD4=>Zh g
|aD5 a=>Nat.min_eq_right a
|aD6 a b c d e f=>by show a;have:=ok.parts;rw[b,c];unfold d e;split at f<;>split<;>simp_all<;>lia
|aD7 a=>TR.without a w.aim
|aD8=>QM a
|aD9=>ď TR.Wk
|aE0=>Pd 1
|aE1=>⇑vs
|aE2=>Cy À
|aE3=>Cw Ê
|aE4 a=>(Fl.nx,a)
|aE5 a=>List.mem_append_left _ a
|aE6 a b=>Cv (wpAny_updateSeq_pair a b)
|aE7 a b=>call (ϊ a) b
|aE8 a b c=>PySem.W.methodCall_KW (pl:=a) b c
|aE9 a b=>Calls.callWith_builtin a (Calls.evalArgs_plain b)
|aF1 a b=>tD.run S1 a b
|aF2=>QJ e1
|aF3=>QR CI
|aF5 a b=>by simpa [a,q]using b
|aF6 a=>by have:=a;simp;lia
|aF7 a b=>X8 kvs a b
|aF8 a=>by unfold a;split<;>simp
|aF9 a=>Jj a Ê
|aG0 a b c=>aF9 (Xb a b c)
|aG1 a b=>qm (env:=a) b
|aG2 a=>by show a;simp
|aG3 a=>eU bg a
|aG4=>aG3 r
|aG5 a b c=>by refine a;show b;rw[c];rfl
|aG6 a=>(TQ.of a).l
|aG7=>Ã Wk
|aG8=>Ô ã
|aG9 a b=>à a (ÿ b)
|aH0 a b=>ü a toks b
|aH1 a b=>ý a (Qv b)
|aH2 a b c d e=>Č a [b, c, d] e
|aH4 a b=>Ο (QG a) b
|aH5 a b c d e f=>ϙ a (ga b c d e f)
|aH6 a=>Ϥ ds a
|aH7 a b=>en a h' b
|aH8 a=>aH7 s a
|aH9=>aH8 t'
|aI0=>aH8 tk
|aI1 a b c=>ni a b (QR c)
|aI3 a b=>EA (Ϫ a) b
|aI4=>NE hp
|aI5 a b=>at1 a b ļ
|aI6=>aH6 d
|aI8 a b c=>by simpa [oU,a,b]using c
|aI9 a=>Nat.succ_le_succ a
|aJ0=>"change_shelf"
|aJ1 a=>à a rfl
|aJ2=>θ Int
|aJ3=>θ Nat
|aJ4=>bI 7
|aJ5=>fN e
|aJ6=>model prog w
|aJ7 a=>a=S.top
|aJ8=>⇑fs
|aJ9=>⇑w'
|aK0 a=>KV kvs a
|aK1=>aK0 vs
|aK2 a b c d e=>ObjOk P a b c d e
|aK4=>.cell
|aK5=>X.O8.get? b
|aK6 a=>Bh a Â
|aK7 a=>s.heap.FunFrames X.O8 a
|aK8 a=>wpAny_execs_nil a
|aK9 a=>Cv (Cv a)
|aL0 a=>λ_=>î a
|aL1=>Data.cell v
|aL2 a b c=>by rw[a,<- b];exact c
|aL3 a b c=>eB (ò a b c)
|aL4 a=>by simp[a]at h
|aL5 a=>ForInStep.yield a
|aL6 a b=>field ↑a b
|aL7 a=>Nat.min_eq_left a
|aL8 a=>List.nodup_append.mpr a
|aL9 a b=>Zj a w.aim b
|aM0 a=>W.at_ n a
|aM1 a b=>T.link a p b
|aM2 a=>UE ok.sorted a
|aM3 a b c=>sx rows.length a b c
|aM4=>more.take i
|aM5=>bs.all id
|aM6=>Zx hd
|aM7 a b=>zt (env:=a) b
|aM8 a=>Sl.val a
|aM9=>TR.Zd c
|aN0 a=>DV.str a
|aN1=>t.trans aJ5
|aN2 a b c=>é (Λ a b) c
|aN3=>í ş
|aN4=>Ķ k
|aN5 a b=>œ (JoinOk a b)
|aN6=>Υ T
|aN8 a b=>ig (DW.pt a) b
|aN9 a=>tP a iX
|aO0 a=>aN9 (cw a)
|aO1 a b c=>wL å a b c
|aO2 a b c=>AD á a b c
|aO3=>bV d t'.S.O4
|aO4=>OC am8
|aO6 a b=>⟨a,iter,ifs,b⟩
|aO7=>az6 n
|aO8 a b=>⟨a,b,À⟩
|aO9 a=>a<sizeLine
|aP0 a=>σ.set i a
|aP1=>by rw[rangeSize_one];split<;>lia
|aP2 a b=>cE a env b
|aP3 a=>aP2 idx a
|aP4=>aP3 d
|aP5=>F.args_tuple_iterator_next_1 _
|aP6 a b c d=>by unfold a;rw[b,c,d]
|aP7 a=>(by repeat' (first|exact trivial|refine a))
|aP8 a b=>gN a b env
|aP9 a=>Parts a xs
|aQ0 a=>ö n.toNat a
|aQ1 a=>Ι a (jB ..)
|aQ2 a=>Ι a (qt ..)
|aQ3=>Zr p w.aim
|aQ4 a=>env[a]?
|aQ5 a b=>⟨_,a,b⟩
|aQ6=>.function
|aQ7 a=>a::rest
|aQ8=>aQ7 b
|aQ9=>X.s₀.heap.get? b
|aR0=>As hl
|aR1=>Sem Bool
|aR2=>truthy v
|aR3=>X.wish E
|aR4=>Cv ?_
|aR5=>λ_=>true
|aR6 a=>A.units+a
|aR7 a=>wpAny_pyIter_list a ?_
|aR8 a b=>A.under (aD0 a b)
|aR9 a=>Nat.le_of_eq a
|aS0 a b=>items.toList.drop (ŷ a b)
|aS1=>xs.all zh
|aS3=>c env hp
|aS4=>Xv st
|aS6=>M Û
|aS7=>zs.map some
|aS8 a b c d e f g=>do let a <- b;let c <- d;let e <- f;g
|aS9 a=>Aq.mp a
|aT0=>List.getElem?_eq_none_iff.mp q
|aT1 a=>e env a
|aT2=>aT1 hp
|aT3=>.ellipsis
|aT4 a b c d=>by show a;rw[Φ b];show c;rw[d];rfl
|aT5 a=>Option.map _ a
|aT6 a b=>TP.qn a b
|aT7=>am_miss_of_fast È
|aT8=>"dict.update.loop"
|aT9=>ak h
|aU0=>YU ..
|aU1 a b c=>QS (Qk a b c)
|aU3 a b c=>Ja a b c hi sd
|aU4 a b=>aU3 a ks b
|aU6=>aU4 l ps
|aU7=>vV w.O2
|aU8 a=>decide_eq_decide.mpr a
|aU9=>Gh ..
|aV0=>ë h
|aV1 a=>í ↑a
|aV2=>ÿ hd
|aV3=>ā (by simp;omega)
|aV4 a b c d=>Ĉ ⟨a,b,c,d⟩
|aV5 a b=>œ (PySem.W.plainOver a b)
|aV7=>ţ h
|aV9 a=>Ϥ ws a
|aW0 a b=>ee bM a b
|aW1 a=>aW0 Š a
|aW2 a=>ez (aQ a)
|aW3=>gd xs
|aW4=>iF d
|aW5=>mm À
|aW6 a=>mS Q4 a
|aW8 a b=>dA (skip rfl a b È)
|aW9 a=>JJ Ñ (ZN a)
|aX0=>aW9 Z.g3
|aX1 a=>IC .And a
|aX2=>L4 Js
|aX3 a b c d=>ak7 a (aP8 b c) d
|aX6=>aK6 M.rm
|aX7=>aQ2 D.dk
|aX8=>aV1 f
|aX9=>aW9 Z.g0
|aY0=>Cy e
|aY1 a b c d e f=>callWith a b c d (ay6 e f)
|aY2=>P.zip vs
|aY3=>h1.trans z
|aY4 a=>fa env a
|aY5 a b c=>Uu a PassesOwn.never b c
|aY6=>XJ ?_
|aY7=>Î c
|aY8=>ä o
|aY9=>ď V
|aZ0 a b c=>ni (aW1 a) b c
|aZ1=>rg m
|aZ2 a b=>Zv (Ĕ JL PySem.F.slot_list_append PySem.F.type_list_append a b)
|aZ3 a b=>aZ2 a (ă b)
|aZ4 a=>Value.int i a
|aZ5=>⇑N
|aZ6 a=>p.hi>=a
|aZ7 a b=>IsTup s.heap a b
|ba0 a=>(é False a).elim
|ba1 a b c=>(by have:=a;rw[b]at this;cases c)
|ba2=>[w.aim]
|ba3=>IsRange.new ..
|ba4 a b c d=>λ a b ⟨c,d⟩=>?_
|ba5 a=>PySem.W.lookIn name a
|ba6 a=>PySem.W.plainGet_of a
|ba7=>Ap đ
|ba8=>Or.inr rfl
|ba9=>g3.trans g4
|bb0=>iB d
|bb1 a b=>Nat.le_total a b
|bb2=>ZY e1
|bb3=>Qe hf
|bb4 a b=>ps.map λ a=>b
|bb5 a b=>Bc (Ao a) b
|bb6 a=>QX (QX a)
|bb7 a=>Yx p.ks a
|bb8 a b=>Chain S a b
|bb9 a b c=>TR.J0 S a b c
|bc0 a b c=>by unfold a b;exact c
|bc1 a=>Ca.mp a
|bc2 a b c d=>Builtin.Str.occurrences a b c rq d
|bc3 a b c=>KTD.tabLook KTD.flatLooks a b c
|bc4=>"begin"
|bc5 b c d=>Zv (EZ b c d)
|bc8 b c=>ZM b a Â Qy c
|bc9 b c=>ă (bc8 b c)
|bd0=>mU ts
|bd1=>pT ps
|bd2=>Ã Pg
|bd3 a b c d e f=>∀(a:Nat)(b:c)(d:e),f
|bd4 a b=>É L.fork a b
|bd5=>Ü ϡ
|bd6 a b=>à (yd a) b
|bd7=>î none
|bd8 a=>î (Ŭ a)
|be0 a=>ò Zq a 1
|be1 a b c=>ý a (Ŀ b c)
|be2=>ą h.objs.size
|be3 a=>ŭ a fs
|be4=>be3 c
|be5 a=>ž s.heap.objs.size a
|be6 a b=>Ο (AA a) b
|be7=>Φ hn
|be8=>θ Heap
|be9 a=>Ϥ t.ws a
|bf0 a b c=>fP (Jh a b) c
|bf1 a b c=>ix aB a b c
|bf3=>m5 đ
|bf4 a b=>Zc a (Qn b) QF
|bf5 a b c d=>bf4 (χ a b c) d
|bf6 a b c=>IZ a b (ao2 c)
|bf7=>L4 Jn
|bf8 b c=>Nf (ZW Z) b c
|bf9 a b=>.ListComp a b scope pos
|bg0 a=>bf9 elt a
|bg1 a b=>ae6 a b Y1
|bg2 a b c=>(bg1 a b)[c]?
|bg3=>ao0 X.A
|bg4 a b=>ay9 _ a b
|bg5 a=>bg4 B1 a
|bg6=>aJ7 S'.top
|bg7 a b c d=>(by have a:b:=c;cases d)
|bg8 a b c=>by show a;rw[b,c];rfl
|bg9=>"find_worth"
|bh0=>"read_pairs"
|bh1=>unsupported "internal:collect"
|bh2=>"raise_root"
|bh3=>"leaf"
|bh4 a b=>TR.Chain S a b
|bh5=>í i
|bh6 a=>Ĝ a ae7
|bh7 a b=>œ (av1 a b)
|bh8=>Ζ aB1
|bh9 a=>Ϥ env a
|bi0 a=>iA a t
|bi1=>bi0 i
|bi2 a b c d=>ax9 a b apos c d
|bi3=>az0 c.toList
|bi4 a=>AG X4 (ă a)
|bi5 a b c d e=>((match a with|.lst b=>c|_=>d:e))
|bi7=>Jk X.prog X.w
|bi8 a=>w.O1>=a
|bi9 a=>a × Value
|bj1 a=>s.heap.objs.size≠a
|bj2 a=>a<=1000000
|bj3 a b=>PySem.W.methodObj ↑a b
|bj4 a=>a<p.lv
|bj5=>bj4 0
|bj6=>bj4 w.O6
|bj9=>.free
|bk0 a b c d=>Bh (Txt.slice_le a b c) d
|bk1 a b c d=>do let a <- b;standAt c;d
|bk2 a=>Cv (wpAny_standAt a)
|bk3 a=>s.toks+a
|bk4=>bk3 1
|bk5 a=>pyNext ↑a
|bk6 a b=>λ_ _ _ _ _ a h=>b
|bk7 a=>beq_iff_eq.mp a
|bk8=>I1.hok.fresh đ
|bk9 a=>Ap (by rw[<- a];lia)
|bl0 a=>atI a i
|bl1=>bl0 ds
|bl2=>eqU x
|bl3=>"int"
|bl4 a=>jy kvs a
|bl5=>bl4 k
|bl6=>eC Η
|bl7 a b c d=>Qh a b (ű c d)
|bl8=>C4 hl
|bl9 a=>cl.lookup a
|bm0=>lookup_relabel_local S.hx
|bm1=>KC bS
|bm2=>"tuple_iterator"
|bm3 a=>without a w.aim
|bm4 a b=>xs.filter (λ a=>b)
|bm5 a b c=>zW a bg b c
|bm8=>bm5 S S' aR
|bm9=>ZQ w.O2
|bn0=>fK fs
|bn1=>W 0
|bn2=>fresh d
|bn3 a b c=>aY ds a b c
|bn5=>E ļ
|bn6=>"top"
|bn7 a b c=>JG a b c ĥ
|bn8 a b=>TP.Jm (a:=rows.length) b
|bn9=>ps.take C
|bo0 a=>by show a;decide +kernel
|bo2 a=>Æ a True.intro
|bo3=>Ë hi
|bo4=>Ì n
|bo5 a b c d e f=>Xx (a:=b) (c:=d) rfl e f
|bo6=>Ï es
|bo7 a=>Ð (aQ a)
|bo8=>Ð aC6
|bo9 a=>â EO a
|bp0=>æ eI
|bp1=>ć v.O7
|bp2=>ę 5
|bp3=>Ě 2
|bp4 a b=>œ (PySem.W.makesIn a b)
|bp5 a=>œ (tm a)
|bp6 a=>œ (ao3 a)
|bp7=>ŗ V
|bp8=>š Z.k8
|bp9 a=>Ι A.h3 a
|bq1 a=>Ϣ s a
|bq2=>bq1 h'
|bq3=>bI 9
|bq4 a=>cr a ta
|bq5=>dq S.O4
|bq6=>d9 En
|bq7=>ez []
|bq8=>m9 i
|bq9 b c d=>EW b c (ó d)
|br0 a b c=>ŭ è (cD a b c)
|br1 a b=>br0 s a b
|br2 a=>br1 v a
|br3=>br2 t
|br4 a b=>Fc a b Zy
|br6=>Ic 4
|br7 a=>TM a "__classdict__"
|br9=>ai4 F
|bs0 a b=>EX a p b pos
|bs1 a=>aT6 aZ5 a
|bs2=>aV9 w
|bs3=>bo9 (bi9 Addr)
|bs4=>⇑s'.ws
|bs5 a=>λ_ _ q=>a
|bs6 a b=>xI kvs a b
|bs7 a b=>by unfold a;refine b;rw[List.length_zip];lia
|bs8=>txt EN
|bt0 a=>E3 row wd a
|bt1=>bt0 ts
|bt2 a b=>A.getD a b
|bt3=>Ô h
|bt4=>ķ i
|bt5 b=>Ž a b
|bt6=>Φ h
|bt7 a b=>h9 X.K a b
|bt8=>ng rfl
|bt9=>sF p
|bu3 a b=>ac8 a true b
|bu4 a b=>aB0 a b Jq
|bu5 a b c=>ZV (eQ ĉ a b c)
|bu6 a b=>aN2 a ia.toArray b
|bu7 a b=>aN2 a ib.toArray b
|bu8 a b=>aW6 (Í a b)
|bu9 a=>.find a
|bv1 a=>λ a=>?_
|bv2 a b=>λ a=>i6 b
|bv3 a=>(Aj a).symm
|bv4 a=>Value.bool a
|bv5 a=>Vals ys a
|bv6=>⇑a
|bv7=>⇑env
|bv8 a=>(Bj.mp a).2
|bv9 a=>ts.length<=a
|bw0 a=>PySem.W.instObj C a
|bw1 a b c d=>⟨a, b,PyProof.Rows.slot_tuple_getitem.lookup,c,d⟩
|bw2 a b c d e f g h=>⟨a,b,c,d,rfl,e,f,g,h⟩
|bw8 a b=>bw2 Ù È rfl È a Ù b Â
|bx0=>bw8 ě ě
|bx1 a b c d e f=>⟨a,b,c,rfl,d,e,f⟩
|bx2=>K.In h
|bx3 a b c d=>by unfold a;rw[b,c];exact d
|bx5 a b c d e f=>λ a b c d e f=>?_
|bx6 a=>Cv (wpAny_holding a)
|bx7 a b c=>letOwnedTupleGo a b c
|bx9=>ã-s.tk
|by1 a=>Cls a C
|by2=>a env
|by3 a b c d=>codeAny_mono a (ĵ b c d)
|by4 a=>B9.mp a
|by7 a b c d=>Gs a ρ B H b c d
|by8 a b c=>by7 K a b c
|bz1=>by8 ρ' B' H'
|bz2 a b c=>bH.gs a (Q0 b) c
|bz3 a=>g2.trans a
|bz4=>Ab a
|bz5=>Qe c
|bz6 a b=>eB a b hp
|bz7 a b c d e=>QC a b c d Ä e
|bz8 a b=>JE a Μ b
|bz9 a b=>(by cases a;exact b)
|bA0=>List.nodup_range.filter _
|bA1=>"go_on"
|bA2=>"tell_fork"
|bA3 a b=>by have:=a;rwa [b]at this
|bA4=>"tuple.__new__"
|bA5 a=>Nat.div_add_mod a m
|bA6 a b=>Jm (n:=a) b
|bA7=>"write"
|bA8=>"make_root"
|bA9=>"step_walk"
|bB0=>"take_deed"
|bB1=>"note_deed"
|bB2=>"hand"
|bB3=>"desk"
|bB4=>km ..
|bB5 a b=>p.sd.map λ a=>b
|bB6 a=>TR.bF p.ks a
|bB7 a b=>w.set a b
|bB8=>xw S
|bB9=>r.flatMap bB8
|bC0=>J.sorted M.T
|bC1 a b c d=>TR.Rel.refl (a:=b) (c:=d) Y.len
|bC2 a b c=>by rw[a,b];unfold c;rw[List.foldl_append];rfl
|bC3=>Ã aJ
|bC4 a b c d=>Æ (bo a b c) d
|bC5=>Î ts.length
|bC6 a b=>Ð (ö a b)
|bC7=>Ü y
|bC8 a b c d e f=>à (Za a b c d e) f
|bC9=>û 5
|bD0 a b c d=>ý a (ϯ b c d)
|bD1=>ď NameKind
|bD2 a=>œ (zh a)
|bD3=>œ fork
|bD4 a b c d e=>Ř a b c d (ó e)
|bD5 a=>ŭ a []
|bD6=>Ű ds
|bD7 a=>Ι a (qy ..)
|bD8=>Ν p.hi
|bD9=>Ν p.sd
|bE0 b c=>ϣ b (Qa c)
|bE1 a=>ϵ ĉ a
|bE2 a b=>ϵ a (oh b)
|bE3 a=>pv (kd a)
|bE4 a=>tP a Char.toNat
|bE5 a b c d=>tS a (XH b c d)
|bE6 a b c=>wu a b Pg c
|bE7 a b=>bE6 a q b
|bE8 a b=>x4 K a b
|bE9 a=>bE8 B a
|bF0=>bE9 H
|bF1 a b c=>AD è a b c
|bF2 a b c d=>CY a b (í c) d
|bF3=>FO ax4
|bF4 a=>IL (Î a)
|bF5=>NI k1.extBut
|bF6 a b=>NV a L.q b
|bG1 a=>TW a Z ρ B hp H
|bG2=>bG1 K
|bG3=>rt.lv+1
|bG4 a b=>as7 x a b
|bG5 a b c d=>bG4 a (as6 b c d)
|bG6=>aD2 x
|bG7 a b=>aG0 rfl a b
|bG9=>aI5 T ah5
|bH0 a=>aO6 ax0 a
|bH1 b=>ad0 a.aim b a.O2
|bH3=>bv2 z z
|bH4 a b c d=>bz7 å a b c d
|bH5 a b c=>HOk X.prog a b c
|bH6=>↥i
|bH7=>"dict_reverseitemiterator"
|bH8 a b c d=>∀(a:Shared)(b:c),d
|bH9=>Ch.mp nd
|bI0=>Qb 8
|bI1=>Heap.SameBut.update ..
|bI2=>h.filter _
|bI3 a=>Ji L a
|bI4=>bI3 k
|bI5=>Nat.div_lt_iff_lt_mul À
|bI6=>Q.map nu
|bI7=>qh A
|bI8=>Ì j
|bI9=>Ô l
|bJ0=>Ü ar9
|bJ1=>í e
|bJ2=>ĝ "yes"
|bJ3=>į T
|bJ4=>į "method_descriptor"
|bJ5 a b c=>ř a scope b c
|bJ6=>Ű env
|bJ7 a=>ž b a
|bJ8 a b c d e=>Cv (wpAny_field a b (c:=d) rfl e)
|bJ9 a=>υ _ a
|bK0=>ϭ n
|bK1 a b=>QA 1 a (Ò b)
|bK3 a b c=>AW (rO (bF1 a b c))
|bK4=>CL k
|bK5 a=>E4 (xs.take a)
|bK6 a=>IC .Or a
|bK7=>RD F.plain_extend_loop
|bK8 a b=>S6 a toP b
|bK9 a=>az2 Ġ a
|bL0 a=>mI aS (oh a)
|bL1 a b=>bF6 a (í b)
|bL2 a=>.seq a
|bL3 a b=>mI a (bL2 b)
|bL6 a b=>.stretch a b
|bL8 a=>(List.of_mem_zip a).1
|bL9 a b c d=>⟨a,b,c,d,trivial⟩
|bM1 a b=>HOk P w a b
|bM2 a=>bM1 H a
|bM3=>bM2 h
|bM4 a b=>by rw[a,b];simp
|bM5=>λ_ _ _=>rfl
|bM6 a b c d e f=>({ a with b:=c,d:=x,e:=f })
|bM7 a b=>Cz (Ņ a b)
|bM8 a=>Int.fdiv_eq_ediv_of_nonneg a À
|bM9 a b=>NoAttr a C b
|bN0 a b=>by have:=a;show b;lia
|bN1 a=>Builtin.Tuple.tupleItemsOf ↑a
|bN3 a=>I a env hp
|bN4=>M Unit
|bN5 a b=>XQ a pa_nil b
|bN6=>YY ao6
|bN7 a b=>QR (OM a b)
|bN8=>Ab hn
|bN9 a b=>Gr.banned a b
|bO0=>nD done
|bO1 a b=>Heap.ExtBut a s.heap b
|bO2 a b c d e=>aW a b c d kvs e
|bO3 a b c d=>bO2 a b c d xs
|bO4 a b=>dw a hp b
|bO5 a=>bO4 40 a
|bO6=>List.filter_cons_of_pos q
|bO7 a=>Builtin.«zip.__next__» (FI a)
|bO8=>mid P
|bO9=>bg c
|bP0 a b=>jX (a:=b) À
|bP1=>QG rfl
|bP2 a=>(by cases d<;>exact a)
|bP3 a b=>Qk a b rfl
|bP6 a b c=>Z4 a PySem.F.plainAttrs_dict PySem.F.slot_dict_get PySem.F.type_dict_get b c
|bP7=>BJ rfl
|bP8 a b=>by refine ω a;rw[b]
|bP9=>TR.Zn P
|bQ0=>TR.XE P
|bQ1 a b c=>gs a (gs b c)
|bQ2=>bw Q2
|bQ4=>Ã TR.Pg
|bQ5=>Ë h1
|bQ6=>Ò Ä
|bQ7 a b=>Þ jl a b
|bQ9=>bQ7 FH 30
|bR0=>KC bQ9
|bR2=>â κ V
|bR3=>æ k
|bR4=>æ p
|bR5 a b c=>é (a≠b) c
|bR6=>ì []
|bR7=>î true
|bR8=>Ă more.length
|bR9 a=>Ď è a
|bS0=>bR9 OI
|bS1 a b c=>Ĝ (é a b) c
|bS2=>Ŝ an1
|bS3=>ů AE
|bS4=>ů EK
|bS5=>ſ P7
|bS6 a=>Ι a (xZ ..)
|bS7 a=>Ο Ÿ a
|bS8=>θ η
|bS9 a=>dL Z9 a
|bT0 a=>d9 (d9 a)
|bT1 b=>fm b Z.g2
|bT2=>fN e1
|bT3=>i3 hh
|bT4=>i7 kvs.isEmpty
|bT6 a b c d=>lr a b c d rfl rfl
|bT7=>og ś
|bT8=>og (š Z.k12)
|bT9=>pv C1
|bU0=>sh g3
|bU1=>wv g1
|bU2=>AW ao9
|bU3=>AY xs
|bU4=>E8 ϖ
|bU6 a b=>Ħ w a b O7 true
|bU7 a=>bU6 pairs a
|bU8 a=>bU6 O3 a
|bU9=>bU8 ph
|bV0 a b=>.Subscript a b pos
|bV1=>PH ds
|bV2=>Rq aF
|bV3 a b c=>Tb a b c ?_
|bV4 a b=>JC a Z.z4 boot_tuple b
|bV5=>aw4 1
|bV6=>aw4 0
|bV9 a b c d=>call_meets PySem.F.slot_str_split a PySem.F.entry_str_split b c d
|bW0=>aQ1 h2
|bW1=>aV1 C
|bW3 a=>IM X cl C a s₀ H₀ ex
|bW4=>be0 2
|bW5 a b=>bf4 (DW.pt a) b
|bW6=>λ_ h=>h
|bW7 a=>bn3 s bg a
|bW8=>bp9 (yF ..)
|bX1=>wa K B H ρ' B' H'
|bX2=>iF (bu9 0)
|bX3=>bv1 z
|bX4 a b=>bL3 a (au6 b)
|bX5 a b=>bM7 a (Cz b)
|bX6=>(TP.xt rows m fork first)
|bX7=>List.mem_filterMap.mp hp
|bX8=>[bG]
|bX9 a=>eval a env
|bY0 a b c=>λ_ _ _ H _ a b=>c
|bY1=>by simp only[An];lia
|bY2 a b c=>BindsTo a fd b c
|bY3 a=>vY I.hok a
|bY4=>"dict.get"
|bY5=>V.ref s.heap.objs.size
|bY6 a b c=>by unfold a at b;subst c;simp;exact au.nil
|bY7 a=>List.filter_cons_of_neg (Ģ a)
|bY9 a=>Int.le_of_lt a
|bZ0=>"put_pair"
|bZ1=>"done"
|bZ2 a b=>w1.set a b
|bZ3=>fu n
|bZ4 a=>List.length_pos_iff.mpr (vX a)
|bZ5 a=>by show a;decide
|bZ6=>Ã Out
|bZ7=>Î j
|bZ8=>î x
|bZ9 a b=>ü w a b
|ca0 a=>bZ9 O3 a
|ca1=>ca0 ph
|ca3=>bZ9 O7 true
|ca4 b c=>ϑ b a c
|ca5 b c=>ca4 b (ă c)
|ca7=>l3 Z.k14 Yn
|ca8 a=>oC (bL0 a)
|ca9 a b c=>pS a b c h'.elim
|cb0=>IW Int
|cb2=>Ta d
|cb3 a=>ak1 (Ĉ a)
|cb4 a=>aJ1 (Qe a)
|cb5=>aM0 hp
|cb6=>aY4 hp
|cb7 a=>.seq c.toArray a
|cb8 a b c=>bO3 a ρ b c
|cb9 a b c=>bT6 a b c Á
|cc0 a=>a=more.length
|cc1 a=>Sum.inr a
|cc2 a=>Value.str x a
|cc3 a b c=>⟨_,a,b,c⟩
|cc4=>⇑t.ws
|cc5=>⇑seen
|cc6=>⇑oT
|cc7=>H' b
|cc8 a b c=>.Assign a b c
|cd0 a b=>.ins C a b
|cd1 a b c d=>upd a b (cd0 c d)
|cd2 a=>cd0 a fs
|cd3 b c=>bt5 (cd0 b c)
|cd4=>cd2 dx
|cd5=>[bq7]
|cd6=>"itertools.zip_longest"
|cd7 a=>Data.fields a
|cd8=>Ae s.heap.objs.size
|cd9=>"__setattr__"
|ce0=>J pr.length
|ce1 a=>Option.isSome_iff_exists.mp a
|ce2=>Av e
|ce3=>"__getitem__"
|ce4 b c=>a.heap.push (bE2 b c)
|ce5 a=>seqIndex_neg À a
|ce6 a b=>s.heap.update a b
|ce7 a=>(a).isEmpty
|ce8=>"list.append"
|ce9=>C0 hl
|cf0 a=>DecidableEq a
|cf1 a=>valueAt a k
|cf2 a=>atKey a k
|cf3 a=>merged [] a
|cf4=>newList []
|cf5=>Ab hi
|cf6=>toP d
|cf7 a b c=>xa a (eZ b c)
|cf8=>Qe ha
|cf9=>Qe e2
|cg0=>g0.trans g1
|cg1 a=>xs.lookup a
|cg2 a b c=>k1.extBut _ a b c
|cg3=>F.args_zip_iter_1 _
|cg5=>Bx a
|cg6=>P.ps.take PU
|cg7 a b=>iK.still T a b
|cg8=>"found"
|cg9=>"raised"
|ch0=>"settle"
|ch1 a=>bJ a S'.top
|ch2 a=>E (Ô a)
|ch3 a=>t.ns.getD i a
|ch5=>iy rows O4
|ch6=>strValues l
|ch7=>nG T
|ch8 a=>(by first|exact ĭ|exact a)
|ch9 a b c d e=>ZT (JX a b c d) e
|ci0 a=>bA a rfl
|ci1=>ci0 A
|ci2 a b c d e=>Z2 (a:=b) c Á d e
|ci3=>Z.trans F
|ci5 a b c=>List.all_eq_true.mp a b c
|ci6=>pX d
|ci7=>qh sB
|ci9=>Ë h2
|cj0=>Ð Ϲ
|cj1=>Ô H
|cj2=>Ü re
|cj3=>í s
|cj4=>î d
|cj5=>î ds
|cj6 a b c d=>Ā a (l3 b c) d
|cj7 a=>Ĉ (mm a)
|cj8 a=>č b a
|cj9=>cj8 o
|ck0 a b c=>ħ a b Zg c
|ck1=>š Z.k0
|ck2=>š Z.k3
|ck3=>š Z.oH
|ck4 a b c d=>ŭ a (d7 b c d)
|ck5 a=>Ŵ cpos a
|ck6=>Ξ b
|ck7 a=>Ω 62 a
|ck8 a b=>ϗ (ā a) b
|ck9 a=>ϟ a f
|cl0=>ck9 e
|cl1=>ϥ G
|cl2=>ϭ v
|cl3=>aI n
|cl4 a b=>f8 (iw a b)
|cl5=>kd Z.k9
|cl6=>my f
|cl7 a b=>mT (a :: b)
|cl9 a=>cl7 (Ü a) xs
|cm0 a b=>nN ŝ a b
|cm1=>bJ S S.top
|cm2=>Af ZQ
|cm3=>A6 hx
|cm4=>G1 p.ps
|cm5 a b c=>LJ a (aC b c)
|cm6=>OO 0
|cm7=>Pf v
|cm8 a=>cσs idx σ a
|cm9=>Rq OS
|cn0 a=>af7 a whole
|cn1=>ah6 κ
|cn2 b c d=>an0 (a b) c d
|cn4=>aq3 i
|cn5=>aq4 hn
|cn6=>aq4 hp'
|cn7=>aw8 n
|cn9=>aL0 DV.non
|co1=>aQ4 k
|co2=>aX1 aQ8
|co3 b=>bf8 b Q4
|co4=>co3 bn
|co5=>bi8 k
|co6=>bq4 a
|co7 a=>br4 a bS
|co8=>bs5 q
|co9 a b c=>.Compare a b c pos
|cp0=>(n-L.first)
|cp1=>by1 X.K
|cp2=>bE1 (bL2 vs.toArray)
|cp4=>bK6 aQ8
|cp5=>Xh p w.aim
|cp6 a=>bZ9 place a
|cp7=>ck9 iter
|cp8=>aH0 s bk4
|cp9=>⇑P
|cq0 a b=>⟨a,Ê,b⟩
|cq1 a=>X.s₀.heap.FunFrames X.O8 a
|cq2=>[Ŋ]
|cq3 a b=>Č a cq2 b
|cq4 a=>cq3 cq2 a
|cq5 a b c=>Calls.Name_function_global I.ok.kind a b c
|cq6=>rawInt d.objs.size
|cq7=>H1 a.heap.objs.size
|cq8 a=>PySem.F.args_tuple_add_2 _ a
|cq9 a b=>IsPart a b
|cr0 a b=>typeIs_str _ a b
|cr1=>kV k
|cr2=>aK P
|cr3 a=>bJ S a
|cr4=>cr3 m
|cr5 a=>p.lv=a
|cr6=>cr5 0
|cr7 a b c d=>UM K a b c d
|cr8 a b c=>cr7 å a b c
|cr9 a b c d e f=>KB (a:=b) (c:=d) rfl e f
|cs0=>va r
|cs1 a=>Wk w a
|cs2=>cs1 a
|cs3=>í c
|cs4=>Ż e
|cs5 a=>ϓ a Nat.add_sub_cancel_left
|cs6 a b c=>ϟ (bs0 a b) c
|cs7 a b=>Jb (i:=a) rfl b
|cs8 a=>cs7 a hp
|cs9 a b c d e=>cv a b c (cs7 d e)
|ct0 b c d=>hM b c (Õ a d)
|ct1=>mi F.plain_extend_loop
|ct2=>tJ F.entry_extend_loop
|ct3=>x5 false
|ct4 a=>Da K a
|ct5=>ct4 a
|ct6=>No m
|ct7 a b c d=>Y2 (l.set a b) c d
|ct8 a b=>aq2 a (au.one b)
|ct9 a b=>Binds a fd ps b
|cu0 a b=>bf1 Ä a b
|cu3=>bW3 (x::caps)
|cu4 a b c=>ck0 a b (QR c)
|cu5 a=>Bool->a
|cu6=>cu5 eg
|cu7 a=>a==items.size
|cu8=>⇑i
|cu9 a=>⇑(ws.filter a)
|cv0=>⇑j.flatten
|cv1=>Cy h
|cv2=>Cw ne
|cv3=>Aj h1
|cv4=>↑f
|cv5 a b c=>.Tuple a b c
|cv6=>Bc Ex
|cv7 a=>Ca.mpr a
|cv8=>env.kindOf x
|cv9 a b c d=>Inv a b σ' c d
|cw0 a b c=>I.O8.there a b c hx
|cw1 a=>I.pin p a
|cw2=>[emp]
|cw3=>[ν]
|cw4 a b=>Q ↑a b
|cw5 a=>wpAny_pyIter_rangeiter st a
|cw6 a=>seqIndex_of h0 a
|cw7 a=>s₁.heap.get? a
|cw8=>ks.map kV
|cw9 a=>PySem.F.args_dict_get_2 _ a
|cx0 a b c=>cP (eB a) b c
|cx1=>SqT.of Q9
|cx2=>Z0 sD
|cx3 a b=>idx.map λ a=>b
|cx4=>QR dO
|cx5=>"bool"
|cx6=>Zh i9
|cx7 a b c d e f g h=>I.laid (a:=s.heap.objs.size) (b:=c) (d:=e) f g h
|cx8 a b=>wpAny_pyIter_slot a F.slot_zip_iter b
|cx9=>"goal"
|cy0=>"side"
|cy1=>"down"
|cy2=>"do_deed"
|cy3=>"cut_key"
|cy4=>"step"
|cy5 a=>Cs.mp a
|cy6=>Ud T
|cy7 a b=>by have:=a;have:=b;lia
|cy8 a b c d e f=>Run ds a b c d e f
|cz0 a=>L.s (a+1)
|cz1=>cz0 k
|cz2 a=>List.mem_or_eq_of_mem_set a
|cz3=>"picture"
|cz4=>"idle"
|cz5=>"kid_begins"
|cz6=>"word"
|cz7=>"cell"
|cz8 a b c=>Zf a b boot_all c
|cz9=>QS ?_
|cA0 a b c=>JA (a:=b) Á c
|cA1 a b=>Mf (a:=rows.length) b
|cA2 a b c d e f=>Fr hp a b c d e f
|cA3 a b c d e=>cA2 hp' a b c d e
|cA4 a b=>QS (a:=true) b
|cA5=>jA ..
|cA6=>80000
|cA7=>yG ..
|cA8=>cl ϡ
|cA9=>K3 h.b.O3
|cB0 a b=>É a b failure
|cB1=>Î 0
|cB4=>Ï (e::es)
|cB5 a b=>Ð (tP a b)
|cB6=>Ó ϧ
|cB7=>Ô m
|cB8=>Ü at6
|cB9=>ë ed
|cC0=>ì ys
|cC1 a b c=>ï X a b c
|cC2 a b=>cC1 a H b
|cC3 a=>cC2 a s
|cC4=>cC3 a
|cC5=>Ă c.size
|cC6 a b c=>İ a (λ b=>c)
|cC7=>ĸ Bm
|cC8 a=>ō a nE
|cC9 a=>Ζ (i7 a)
|cD0=>Ν o.dict
|cD1=>Ξ p
|cD2=>θ Hs
|cD3=>ϊ id
|cD4 a b c=>ϛ (ä a) b c
|cD5=>ϭ pa
|cD6 a=>dA (Qs a)
|cD7 a=>dL Yo a
|cD8 a b c=>eH a b (aQ c)
|cD9=>rO Rb
|cE0 a=>tP a μ
|cE1=>AW Q1
|cE2=>A6 z
|cE3 a=>CU V0 a
|cE4 a b=>aq6 (cE3 a) b
|cE5 b c d e f g h i j=>EW b c (iN d e f g h i j)
|cE6 a=>Fs ds a
|cE7=>cE6 es
|cE8=>FT s.heap.objs.size
|cE9=>FT O.heap.objs.size
|cF0 a=>F9 AF a
|cF1=>G1 env
|cF2=>NE hp1
|cF3 a=>OX S a
|cF4=>cF3 w
|cF5 a b c=>ae3 a b c rfl
|cF6 a b c=>af9 PyProof.Rows.slot_tuple_getitem a b c
|cF7=>Txt.contains wf re
|cF8 a b=>TR.QU S a i b
|cF9=>aw4 2
|cG0=>nM s₁.heap H
|cG1=>foldedSetIterable iter X.env x
|cG2=>aP9 ds
|cG3 a b c=>kvs.any λ a=>FY b c
|cG4=>Ũ ba7 Nat.sub_self
|cG5=>aZ6 h
|cG6 a b=>.Constant a b pos
|cG7=>be3 å
|cG8=>bq1 g
|cG9 b c=>bt5 (b c)
|cH1=>cG9 .own x
|cH2=>bt5 o
|cH3 a b c=>bE5 a rows b c
|cH4 a b=>cH3 a b false
|cH5=>bJ7 u
|cH6=>bJ7 o
|cH7=>bW7 b
|cH8=>W.ox x hx
|cH9 a b c d e=>cj6 (l3 a b) c d e
|cI0=>bE1 (cb7 n)
|cI1 a=>cw4 p a
|cI2=>cC8 x
|cI4 a b=>cF8 ca1 (iw a b)
|cI5 a=>a∈P.ps
|cI6 a=>g.get? a
|cI7 a=>(true,a)
|cI8=>cI7 hp
|cI9=>cI7 hp1
|cJ0=>cI7 w
|cJ1 a b=>I.cell a c b
|cJ2 a b c d=>thn a λ_ b c=>d
|cJ3 a b=>assign a X.env b
|cJ4 a b=>I.kept (t':=a) b
|cJ5=>"itertools.pairwise"
|cJ6=>ns.map WData.int
|cJ7 a=>IntsAre vs a
|cJ8=>Qm h
|cJ9 a=>Zi aZ5 a
|cK0 a=>dH (<- a)
|cK1=>cK0 To
|cK2=>Zh bm1
|cK3 a b=>g.old a b h1
|cK4 a b=>by unfold cU;rw[a];simpa using b
|cK5 a=>Nat.pos_of_ne_zero (bv1 a)
|cK6 a b=>TR.mv ds a b
|cK7=>"str_ascii_iterator"
|cK8 a b=>Qv (bG7 a b)
|cK9 a b c d=>yP (a:=b) (QG c) d
|cL0 a=>pr.getD a Ę
|cL1 a=>TR.aM p.ks a
|cL2 a b=>kP (as0 a b)
|cL3=>Ì 0
|cL4=>Ó d
|cL5=>æ v
|cL6=>æ b
|cL7=>ë k
|cL8=>ę 4
|cL9 a b=>Ĝ (PY false a) b
|cM0=>bP y
|cM1 a=>dc a cv4
|cM2 a b c d=>fP (bR5 a b c) d
|cM3 a b=>jc (aC7 a b)
|cM4=>my m
|cM5=>m9 a
|cM6=>pv cL8
|cM7=>rg k
|cM8=>rg i
|cM9=>sj 1
|cN1=>tP Os txt
|cN2 a=>zu a kvs
|cN3=>Af ae9
|cN4=>Ic 2
|cN5 a b c=>LE S a B1 b c
|cN6 a b=>cN5 v a b
|cN7 a=>cN6 a ?_
|cN8 a=>Pp a d
|cN9=>PK n
|cO0 a b c d e f=>a>=(ga b c d e f)
|cO1 a b c d e=>cO0 cN9 a b c d e
|cO2 a b=>PyData.eqv (toP a) (toP b)
|cO3 a b c=>aB3 a b Â c
|cO4=>aB5 oT
|cO5=>aG3 rb
|cO6 a b c d=>aH2 a Ŋ b c d
|cO7=>aP0 Oy
|cO8 a b=>aW2 (me a b)
|cO9=>aW6 C1
|cP0=>bi4 P9
|cP1=>Ax Ex I.ok.above
|cP2=>t0.trans (fN h0)
|cP3 a b c d e=>ϛ a (EP b c σ d) e
|cP4 a=>bt7 a ys
|cP5 a b=>bu5 Jg a b
|cP6 a=>bC6 a Ę
|cP7 a=>bK1 a Ä
|cP8 a=>bK1 a Hg
|cP9=>cP8 Jd
|cQ0 a=>ϵ Ń (bL2 a)
|cQ1=>bT1 ś
|cQ2=>cf2 xs
|cQ3 a=>JB Μ p.ks a
|cQ4 a=>cu a bg rows
|cQ6=>cm0 0 lo
|cQ7 a=>aO2 aA8 Jp a
|cQ8=>cQ7 Ä
|cQ9=>co3 Ñ
|cR0=>cD7 Ñ
|cR1 a=>ts.length=a
|cR3=>apos.endLine==cpos.line
|cR4 a b c d e=>λ a b c d e=>?_
|cR5 a b c d e f g=>eV.run a b (cR4 c d e f g)
|cR6=>⇑ws
|cR7=>⇑es
|cR9=>p.sd>=s
|cS1=>Fl × En
|cS2=>(F.slot_zip_next).1
|cS3=>Cy c
|cS4=>Aj hx
|cS5 a=>w.O6<=a
|cS6=>cS5 p.lv
|cS7=>(·.isSome)
|cS8=>(·.O7)
|cS9 a=>a<pg.length
|cT0 a b c d=>⟨a,b,c,d,q⟩
|cT1 a b c d=>cT0 (Ì a) b c d
|cT2 a=>Aw _ a
|cT3 a b=>h a (cT2 b)
|cT4 a=>by rw[a];decide
|cT5 a b=>storeName X.env a b
|cT6 a=>D.nx σ a
|cT7 a b=>Cv (wpAny_load a b)
|cT8 a=>(N.first+a)
|cT9=>"dict_itemiterator"
|cU0 a=>a * Ú
|cU1=>cU0 bG3
|cU2 a b c=>opI λ_ _ _ _ _ _ _ a b=>c
|cU4=>ft / 2
|cU5=>Lm cU4
|cU6 a b=>by subst a;exact b
|cU7 a b c=>JR a b (ao2 c)
|cU8 a=>e.trans a
|cV0=>start N vs
|cV1=>"slice"
|cV2 a b c=>by unfold a;rw[b,c];lia
|cV3=>by rw[An]<;>lia
|cV4 a=>h'.push (cQ0 a)
|cV5=>ns.map txt
|cV6=>pre_splitW hpre
|cV7=>k.map kV
|cV8 a=>KL I.hok a
|cV9 a=>sZ I.hok a
|cW0=>g.gs W.rb
|cW1 a=>j.trans a
|cW3 a=>QI true a
|cW4=>QJ e3
|cW5=>L i
|cW6 a b=>by rw[<- a,b]
|cW7 a=>nJ (Ò a)
|cW8=>Ab hl
|cW9 a b=>cE [] a b
|cX0 a b=>by simpa [a]using b
|cX1 a=>Zi 2 a
|cX2 a b=>aA.bO S1.wo a b
|cX3 a=>by rw[<- a];rfl
|cX4 a=>ds.set a d
|cX5 a=>iT (lB a)
|cX6=>cX5 Ä
|cX7=>body env'
|cX9 a=>old À À a
|cY0 a b c d e f=>T.kid a b hn c d e f
|cY1=>QY hn
|cY2 a=>hh.trans a
|cY3=>QX I
|cY4 a b c=>W.none_ hp a b c
|cY5 a=>o env a
|cY6=>cY5 hp
|cY7=>"forks"
|cY8 a b=>by unfold sx;rw[a,b]
|cY9=>(fg).rows
|cZ0=>N.s k
|cZ1=>"fills"
|cZ2=>"hands"
|cZ3=>"law"
|cZ4 a b c=>Qo a (Ŀ b c)
|cZ5 a b c d=>cX a O4 b c d
|cZ6 a b c=>cZ5 w a b c
|cZ7 a b=>cZ6 a b ps
|cZ8 a b c=>gs a (Æ b c)
|cZ9 a=>t2.trans (fN a)
|da0 a b=>hs.set a (ì b)
|da3 a b c d=>WB a s v ds b c d
|da4 a b c=>da3 a b L c
|da6 a=>da4 a t Q
|da7=>da6 w
|da8=>Ã Addr
|da9 a=>Æ hd a
|db0=>Ì v
|db1=>Ì ã
|db2=>Î 1
|db3=>Ð xs
|db5 a=>Þ aB (ů r0) a
|db6=>ì ϫ
|db7 a b c=>ì (ax1 a b c)
|db8 a=>î (rg a)
|db9=>Ă ŝ
|dc0 a b=>ģ (H a) b
|dc1=>į nI
|dc2=>ĸ decide_eq_decide
|dc3=>Ļ V
|dc4 a b=>Ņ a (fJ b)
|dc5 a b c=>Œ a b TR.Wk c
|dc6=>š Z.k14
|dc7=>š Z.k11
|dc8=>ţ e
|dc9 a b c d=>ŭ a (Xs b c d)
|dd0=>ů LP
|dd1 a b=>Ζ (LU a b)
|dd2=>Ξ s.heap.objs.size
|dd3 a=>Υ (toString a)
|dd4=>Χ À
|dd5 a=>Ω 39 a
|dd6 a=>ϟ a fa
|dd7=>dd6 a
|dd8=>bP v
|dd9 a b=>cr a (tC b)
|de0 a=>dL jh a
|de1=>de0 Ñ
|de2=>d9 Hs
|de3 a b=>eH w a b
|de4=>eK ln
|de5 b=>fm b Z.g3
|de6 b=>fm b Z.g4
|de8 a=>NameKind.noConfusion (Aj (é (í NameKind.cell>=NameKind.local) a))
|df0=>iA hi u
|df1 a b c=>r6 a (Ì b) c
|df2 a b=>ss (Ē a b)
|df3=>Af .val
|df4 a=>CJ a e3
|df5=>CL cl3
|df6=>EV ã
|df7 b c=>EZ b Ñ c
|df8 a b=>F6 a b rfl
|df9 a=>Nd items.size a
|dg0 a b=>NB a s.heap b
|dg1 a=>OP some a
|dg2 a=>RB (Ν a)
|dg5 a b=>mw Ğ 2 QL a (ĝ b)
|dg6 a=>dg5 ũ a
|dg7=>dg6 Ϡ
|dg8=>ae1 aO3
|dh0 a b=>af9 F.slot_tuple_iterator_next a F.entry_tuple_iterator_next b
|dh1=>P.ks.take (mid P)
|dh2 a b=>QA 1 a (û b)
|dh3=>aB5 e
|dh5=>PM (me l h)
|dh6 a b=>aT5 (List.find? a b)
|dh7 a=>aT6 a L.m
|dh8=>aW9 Z.g4
|dh9 a b=>bf1 ė a b
|di0=>bh9 bV1
|di1=>bo9 V
|di2=>br2 t.tk
|di3=>by1 K
|di4=>bE3 Z.k0
|di5=>bE3 Z.k7
|di6 a=>lu f kvs a
|di7=>bU7 dh5
|di8 a b=>cc8 a b pos
|di9=>(no hi a).elim
|dj0=>cs1 j
|dj1=>cs8 0
|dj2 b c d=>ct0 b c (ó d)
|dj3 b=>cG9 .dK b
|dj4=>cJ9 body
|dj5=>S.grow g W
|dj6 a=>cW9 a d
|dj7=>dj6 E
theorem At(a:1=1:=by rfl)(b:1=1:=by decide)(c:1=1:=by intro _;rfl)(d:1=1:=by first|exact .inl rfl|exact .inr rfl|assumption)(e:1=1:=by first|exact Or.inl rfl|exact Or.inr rfl)(f:1=1:=by with_unfolding_all rfl)(g:1=1:=by intro s _ _ _ _ _ _ _ l;trivial)(h:1=1:=by intro _ _ _ _ _ _ us e;rcases us with _|⟨_,_|⟨_,_|⟨_,_|⟨_,_|⟨_,_|⟨_,_⟩⟩⟩⟩⟩⟩<;>first|rfl|cases e)(i:1=1:=by intro _ _;rfl)(j:1=1:=by first|exact Or.inl rfl|exact o2 rfl|exact o3 rfl):True:=trivial
section
open PySem PySem.Spec PyProof.Rows
abbrev Aa:=PySem.W.Frag
def Ab:=@List.getElem?_eq_getElem
def Ac:=@List.getElem?_eq_some_iff
def Ad:=@Heap.get?_push_of_some
def Ae:=@Nat.le_refl
def Ag:=@List.getElem?_append_left
def Ah:=@List.mem_append
def Ai:=@List.mem_append_right
def Aj:=@Option.some.inj
def Ak:=@List.getElem?_set_ne
def Am:=@List.length_append
def An:=@List.size_toArray
def Ao:=@Heap.lt_size
def Ap:=@List.getElem?_append_right
def Aq:=@List.mem_singleton
def Ar:=@List.filter_cons
def As:=@List.getElem?_set_self
def Au:=@Heap.get?_push_size
def Av:=@List.mem_of_getElem?
def Aw:=@List.mem_cons_of_mem
def Ax:=@Nat.lt_of_lt_of_le
def Ay:=@Bool.false_eq_true
def Az:=@List.append_assoc
def A7:=@List.length_take
def A8:=@List.length_cons
def A9:=@List.map_cons
def Ba:=@Bool.and_eq_true
def Bb:=@Nat.zero_le
def Bc:=@Nat.ne_of_lt
def Be:=@Nat.lt_or_ge
def Bf:=@List.drop_eq_getElem_cons
def Bh:=@Nat.le_trans
def Bi:=@List.mem_cons
def Bj:=@List.mem_filter
def Bk:=@List.length_drop
def Bm:=@List.length_map
def Bo:=@List.append_nil
def Bq:=@List.getElem?_map
def Br:=@List.mem_of_mem_take
def Bs:=@Nat.lt_of_le_of_lt
def Bt:=@Bool.false_ne_true
def Bu:=@Int.toNat_natCast
def Bv:=@List.find?_cons
def Bx:=@List.getElem_mem
def By:=@List.getElem?_take_of_lt
def Bz:=@List.length_filter_le
def B0:=@List.getElem?_drop
def B7:=@List.mem_of_mem_drop
def B8:=@List.not_mem_nil
def B9:=@Option.map_eq_some_iff
def Ca:=@List.mem_range
def Cb:=@List.prefix_rfl
def Cc:=@Heap.size_push
def Cd:=@List.pairwise_cons
def Ce:=@List.getD_eq_getElem?_getD
def Cf:=@List.mem_iff_getElem
def Cg:=@List.any_cons
def Ch:=@List.nodup_cons
def Ci:=@Nat.lt_irrefl
def Cj:=@List.getElem?_eq_none
def Ck:=@Nat.le_of_not_lt
def Cm:=@List.filter_eq_nil_iff
def Cn:=@Nat.lt_succ_self
def Co:=@List.drop_length
def Cp:=@List.all_cons
def Cq:=@Nat.zero_add
def Cr:=@Nat.ne_of_gt
def Cs:=@List.mem_map
def Cu:=@Nat.le_add_right
def Cv:=@wpAny_bind
def Cw:=@if_neg
def Cy:=@if_pos
def Cz:=@wpAny_pure
def C0:=@decide_eq_true
def C4:=@of_decide_eq_true
def C5:=@decide_eq_false
def C6:=@pure_bind
abbrev C7:=Value->Shared->Prop
abbrev C8:=List (Addr×Obj)
abbrev C9:=Str->Option Value
abbrev Eb:=List (Int×Int)
abbrev Ec:=Addr->Prop
abbrev Ed:=List Addr
#where
namespace L2
open PySem PySem.Spec PyProof.Rows
abbrev Key:=Sum Int Str
def sX:Key->FO Bool
 |.inl k,v=>Value.isInt k v
 |.inr x,v=>Value.isStrOf x v
def QtB(w:World):Key->Int
 |.inl k=>hashInt k
 |.inr x=>hashStr w x
def JK:∀{k:Key}{v:Value},œ (sX k v)->(∃i t,k=ai6 i/\v=aZ4 t)∨(∃x t,k=cc1 x/\v=cc2 t)
  |.inl i,v,h=>wS t e (Value.isInt_shape (k:=i) (v:=v) h) (ë (fh i t e))
  |.inr x,v,h=>wS t e (Value.isStrOf_shape (x:=x) (v:=v) h) (Ĉ (fh x t e))
def QiS(i:Int)(t:Tok):œ (sX (ë i) bi1):=fA sX Value.isInt
def QiT(x:Str)(t:Tok):œ (sX (Ĉ x) (.str x t)):=fA sX Value.isStrOf
def Qql(a b:Int):FY (ai6 a:Key) (ai6 b)=(a==b):=by
 by_cases e:a=b
 ·subst e;simp
 ·have h:¬ (ai6 a:Key)=ai6 b:=λ q=>e (Sum.inl.inj q);rw[C5 h];exact(eW e).symm
def Qqo(a b:Str):FY (cc1 a:Key) (cc1 b)=FY a b:=by
 by_cases e:a=b
 ·subst e;simp
 ·have h:¬ (cc1 a:Key)=cc1 b:=λ q=>e (Sum.inr.inj q);rw[C5 h,C5 e]
def Qqm(a:Int)(b:Str):ć (FY (ai6 a:Key) (cc1 b)):=C5 (bv2 q q)
def Qqn(a:Str)(b:Int):ć (FY (cc1 a:Key) (ai6 b)):=C5 (bv2 q q)
def Jk(prog:Program)(w:World):PySem.KeyKind prog w Key where
 is:=sX
 hash:=QtB w
 inj:=λ v a b ha c=>by
  rcases JK ha with ⟨i,t,rfl,rfl⟩|⟨x,t,rfl,rfl⟩
  ·rcases JK c with ⟨j,u,rfl,e⟩|⟨y,u,rfl,e⟩
   ·injection e with e1 _;rw[e1]
   ·exact i6 e
  ·rcases JK c with ⟨j,u,rfl,e⟩|⟨y,u,rfl,e⟩
   ·exact i6 e
   ·injection e with e1 _;rw[e1]
 byValue:=λ k v h=>by rcases JK h with ⟨i,t,rfl,rfl⟩|⟨x,t,rfl,rfl⟩<;>rfl
 pyHash:=λ hv h=>by
  rcases JK hv with ⟨i,t,rfl,rfl⟩|⟨x,t,rfl,rfl⟩
  ·exact wpAny_pyHash_int h
  ·exact wpAny_pyHash_str h
 eqBool:=λ d hv h=>by
  rcases JK d with ⟨i,t,rfl,rfl⟩|⟨x,t,rfl,rfl⟩
  ·rcases JK hv with ⟨j,u,rfl,rfl⟩|⟨y,u,rfl,rfl⟩
   ·rw[Qql]at h;exact wpAny_eqBool_int h
   ·rw[Qqm]at h;exact SeqAt.EqAt.int_str i t y u _ _ _ _ h
  ·rcases JK hv with ⟨j,u,rfl,rfl⟩|⟨y,u,rfl,rfl⟩
   ·rw[Qqn]at h;exact SeqAt.EqAt.str_int x t j u _ _ _ _ h
   ·rw[Qqo]at h;exact wpAny_eqBool_str h
 «strs»:=λ k x t v h=>by
  rcases JK h with ⟨i,u,rfl,e⟩|⟨y,u,rfl,e⟩
  ·exact i6 e
  ·injection e with e1 _;subst e1;cases v<;>rfl
def Qd6(prog:Program)(w:World)(i:Int)(t:Tok):œ ((Jk prog w).is (ë i) bi1):=QiS i t
def Qd7(prog:Program)(w:World)(x:Str)(t:Tok):œ ((Jk prog w).is (Ĉ x) (.str x t)):=QiT x t
inductive V where
 |non|bl (b:Bool)|int (i:Int)|str (x:Str)|byt (b:Array UInt8)|flt (b:UInt64)|ref (a:Addr)|ty (n:String)
 deriving DecidableEq
def RelV:V->θ Value
 |.non,u=>u=Value.none
 |.bl b,u=>u=bv4 b
 |.int i,u=>∃t,u=aZ4 t
 |.str x,u=>∃t,u=cc2 t
 |.byt b,u=>∃t,u=Value.bytes b t
 |.flt b,u=>∃t,u=Value.float b t
 |.ref a,u=>u=Ϗ a
 |.ty n,u=>u=Nl n
abbrev Vals:η->θ Đ:=Paired RelV
def Vals.length{xs:η}{us:Đ}(r:aW3):ŝ=⇑us:=ad1
def Vals.get:∀{xs:η}{us:Đ}{i:Nat}{x:V},aW3->bU3->∃u,Ϥ us u/\bP x
  |_,_,_,_,.nil,e=>iS e
  |_,_,0,_,.cons r _,e=>by simp at e;subst e;exact Ņ _ r
  |_,_,i+1,x,.cons _ t,e=>n8 u h1 h2 (Vals.get (i:=i) (x:=x) t (Ë e)) ⟨u,bQ5,h2⟩
def Vals.set(r:bP x):∀{xs:η}{us:Đ}(i:Nat),aW3->Vals (xs.set i x) (us.set i u)
 |_,_,_,.nil=>lS
 |_,_,0,.cons _ t=>ϗ r t
 |_,_,i+1,.cons q t=>ϗ q (Vals.set r i t)
def Vals.append:∀{xs ys:η}{us ws:Đ},aW3->bv5 ws->Vals (xs++ys) (us++ws)
 |_,_,_,_,.nil,s=>s
 |_,_,_,_,.cons r t,s=>ϗ r (Vals.append t s)
def Vals.take:∀{xs:η}{us:Đ}(n:Nat),aW3->Vals (xs.take n) (us.take n)
 |_,_,0,_=>lS
 |_,_,_+1,.nil=>lS
 |_,_,n+1,.cons r t=>ϗ r (Vals.take n t)
def Vals.drop:∀{xs:η}{us:Đ}(n:Nat),aW3->Vals (xs.drop n) (us.drop n)
 |_,_,0,r=>r
 |_,_,_+1,.nil=>lS
 |_,_,n+1,.cons _ t=>Vals.drop n t
def RelO:aY9->θ mM
 |some v,some u=>dd8
 |none,none=>True
 |_,_=>False
def KV{κ:rV}:bR2->θ cn1:=Paired λ(p:κ × V)(q:κ × Value)=>oB=q.1/\RelV p.2 q.2
def kV:Key->V
 |.inl i=>dz
 |.inr x=>ϧ
inductive HO where
  |lst (xs:η)
  |tup (xs:η)
  |dK (kvs:bp7)|dT (kvs:di1)
  |set (S:cb0) (n:Nat)
  |ins (C dx:Addr) (fs:dc3)
  |own (x:Addr)
  |xd (fs:dc3)
  |met (f x:Addr)
  |rng (lo hi:Int)
  |frz (o:Obj) (u:HO)
  |tbl (ps:ŋ)
  |ext (φ:be8)
abbrev Hp:=Addr->ď HO
def upd(H:Hp)(a:Addr)(o:HO):Hp:=λ b=>bF2 b a o (H b)
def Q9{a:Addr}:upd H a o a>=o:=ŵ upd cq
def Q0{H:Hp}{a b:Addr}(h:b≠a):upd H a o b=H b:=ŵ upd (Cw h)
def QsB{H:Hp}{a b:Addr}{o u:HO}(h:IY>=o)(h':H b>=u)(d:o≠u):a≠b:=by intro e;subst e;rw[h]at h';exact d (Aj h')
def Jh{H:Hp}{a b:Addr}(h:IY>=o)(h':ck6):a≠b:=by intro e;subst e;rw[h]at h';cases h'
section
variable(P:Program)(w:World)
def ObjOk(H:Hp)(h:Heap)(a:Addr):θ HO
 |.lst xs=>db9/\∃(c:Đ) (n:Nat),az0 c/\Ϧ a cI0
 |.tup xs=>db9/\∃c:Đ,az0 c/\IsTup h a c.toArray
 |.dK kvs=>Ă dQ/\IH a/\∃vs,aK1/\h.DictOf (Jk P w) a vs
 |.dT kvs=>Ă dQ/\IH a/\∃xs:bs3,
   Paired (λ(p:List Key × V)(q:List Key × Addr × Value)=>oB=q.1/\H q.2.1>=(ì (tP oB kV))/\RelV p.2 q.2.2) kvs xs /\
   ∃o es i,Ϧ a o/\o.ExactDict/\o.data=.dict es i/\es.toList=nj (entryOfKey (ON P w))/\(nj μ).Nodup
 |.set S n=>h.SetOf (intKind P w) a S n
 |.ins C e fs=>H e>=(.own a)/\aJ8<=fE/\e≠a/\Ϧ a (bw0 e) /\
   ∃d,h.Ns1 e d/\(∀f,RelO cl6 (d f))/\PySem.Within d (ad3)
 |.own _=>∃o,Ϧ a o
 |.xd fs=>∃d,h.Ns1 a d/\∀f,RelO cl6 (d f)
 |.rng j hi=>∃t u v,Ϧ a (bE2 aS #[bi0 j,df0,iA 1 v])
 |.frz o u=>Ϧ a o/\ObjOk H h a u
 |.tbl ps=>Ϧ a (ϳ cls ey (oh ps))
 |.met f x=>Ϧ a (bj3 f ↑x)
 |.ext φ=>φ h/\(∃o,Ϧ a o)/\∀h1 h2:Heap,φ h1->(∀o,h1.get? a>=o->h2.get? a>=o)->φ h2
def HOk(H:Hp)(h:Heap):ç:=∀a o,IY>=o->aK2 w H h a o
#where
section
variable{P:Program}{w:World}{H H':Hp}{h h':Heap}{a:Addr}{o:HO}
def ObjOk.lt(x:aK2 w H h a o):a<h.objs.size:=by
 cases o with
 |lst xs=>obtain⟨_,_,_,_,e⟩:=x;exact Ex
 |tup xs=>obtain⟨_,_,_,p⟩:=x;exact p.lt
 |dK kvs=>obtain⟨_,_,_,_,o,_,_,e,_⟩:=x;exact Ex
 |dT kvs=>obtain⟨_,_,_,_,o,_,_,e,_⟩:=x;exact Ex
 |set S n=>obtain⟨o,_,_,_,e,_⟩:=x;exact Ex
 |ins C c fs=>obtain⟨_,_,_,e,_⟩:=x;exact Ex
 |own y=>obtain⟨_,e⟩:=x;exact Ex
 |xd fs=>obtain⟨_,⟨_,_,_,e,_⟩,_⟩:=x;exact Ex
 |rng d hi=>obtain⟨_,_,_,e⟩:=x;exact Ex
 |frz ob u=>obtain⟨e,_⟩:=x;exact Ex
 |tbl ps=>exact Ao (é (Ϧ a _) x)
 |met f y=>exact Ao (é (Ϧ a _) x)
 |ext φ=>obtain⟨_,⟨_,e⟩,_⟩:=x;exact Ex
def Paired.mapP{α β:rV}{F G:α->θ β}:∀{l₁:AU}{l₂:Ã β},Paired F l₁ l₂->(∀a b,F a b->G a b)->Paired G l₁ l₂
 |_,_,.nil,_=>lS
 |_,_,.cons r t,f=>ϗ (f _ _ r) (Paired.mapP t f)
def ObjOk.stay(x:aK2 w H h a o)(k:∀b u,(b=a∨H b>=(.own a))->Ϧ b u->cH5)
    (ho:∀b,H b>=(.own a)->cc7>=(.own a)) (ht:∀b xs,H b>=IT->cc7>=IT):aK2 w H' h' a o:=by
  induction o with
  |lst xs=>obtain⟨z,j,n,r,e⟩:=x;exact⟨z,j,n,r,k _ _ ĭ e⟩
  |tup xs=>obtain⟨z,j,r,ob,e,c⟩:=x;exact⟨z,j,r,ob,k _ _ ĭ e,c⟩
  |dK kvs=>obtain⟨z,y,vs,r,ob,es,i,e,c⟩:=x;exact⟨z,y,vs,r,ob,es,i,k _ _ ĭ e,c⟩
  |dT kvs=>obtain⟨z,y,xs,r,ob,es,i,e,c⟩:=x;exact⟨z,y,xs,Paired.mapP r λ p q z=>⟨z.1,ht _ _ z.2.1,z.2.2⟩,ob,es,i,k _ _ ĭ e,c⟩
  |set S n=>obtain⟨ob,es,i,t,e,c⟩:=x;exact⟨ob,es,i,t,k _ _ ĭ e,c⟩
  |ins C G fs=>obtain⟨d,z,ne,e,E,⟨od,es,i,e2,c⟩,r⟩:=x;exact⟨ho _ d,z,ne,k _ _ ĭ e,E,⟨od,es,i,k _ _ (Ĉ d) e2,c⟩,r⟩
  |own y=>obtain⟨ob,e⟩:=x;exact İ ob (k _ _ ĭ e)
  |xd fs=>obtain⟨E,⟨od,es,i,e,c⟩,r⟩:=x;exact⟨E,⟨od,es,i,k _ _ ĭ e,c⟩,r⟩
  |rng I hi=>obtain⟨t,u,v,e⟩:=x;exact⟨t,u,v,k _ _ ĭ e⟩
  |frz ob u F=>obtain⟨e,q⟩:=x;exact İ (k _ _ ĭ e) (F q)
  |tbl ps=>have e:Ϧ a (ϳ cls ey (oh ps)):=x;show ž a (ϳ cls ey (oh ps));exact k a _ ĭ e
  |met f y=>have e:Ϧ a (bj3 f ↑y):=x;show ž a (bj3 f ↑y);exact k a _ ĭ e
  |ext φ=>obtain⟨p,⟨o,e⟩,st⟩:=x;exact⟨st _ _ p λ o q=>k _ _ ĭ q,İ o (k _ _ ĭ e),st⟩
def HOk.lt(x:bM3)(e:IY>=o):a<h.objs.size:=(x a o e).lt
def HOk.fresh(x:bM3)(e:h.objs.size<=a):Ξ a:=by
 cases q:IY with
 |none=>rfl
 |some u=>exact bh6 (Ax (x.lt q) e)
def HOk.kept(x:bM3)(k:∀b u,Ϧ b u->cH5):bM2 h':=λ a o e =>
 (x a o e).stay (λ b u _ q=>k b u q) (λ_ q=>q) co8
def HOk.laid(x:bM3)(k:∀b u,Ϧ b u->cH5)(hp:h.objs.size<=a)(new:aK2 w cH2 h' a o):bM1 cH2 h':=λ b u e=>by
 have hn:=x.fresh hp;by_cases d:b=a
 ·subst d;rw[Q9]at e;cases e;exact new
 ·rw[Q0 d]at e;exact(x b u e).stay (λ c v _ q=>k c v q) (λ c q=>bf0 q hn q) λ c xs q=>bf0 q hn q
#where
def Rd(H:Hp)(a:Addr)(u:HO):ç:=IY>=u∨∃o,IY>=(.frz o u)
def Rd.ok{w:World}{a:Addr}(r:Rd H a u)(x:bM3):aK2 w H h a u:=by
 rcases r with r|⟨o,r⟩
 ·exact x a u r
 ·obtain⟨_,q⟩:=x a _ r;exact q
def Mut:θ (ď HO)
 |some (.lst _)=>True
 |some (.dK _)=>True
 |some (.dT _)=>True
 |some (.set _ _)=>True
 |some (.ins _ _ _)=>True
 |some (.ext _)=>True
 |_=>False
section
variable{P:Program}{w:World}{H:Hp}{h h':Heap}{x e:Addr}{o':HO}
def HOk.write(ok:bM3)(mu:Mut (H x))(E:e=x∨H e>=(.own x))(k:∀b u,b≠e->Ϧ b u->cH5)(C:∃u,ž e u)
  (new:aK2 w (Ž x o') h' x o'):bM1 (Ž x o') h':=λ b u q=>by
 have d:∀c y,H c>=(.own y)->c≠x:=λ c y r z=>af6 z r mu
 have i:∀c xs,H c>=IT->c≠x:=λ c xs r z=>af6 z r mu
 by_cases j:b=x
 ·subst j;rw[Q9]at q;cases q;exact new
 ·rw[Q0 j]at q;by_cases a:b=e
  ·have F:H b>=(.own x):=by
    rcases E with z|z
    ·exact Ĝ (a.trans z) j
    ·rw[a];exact z
   rw[q]at F;cases F;obtain⟨v,hv⟩:=C;exact İ v (Æ a hv)
  ·refine(ok b u q).stay (λ c v o r=>k c v ?_ r) (λ c r=>fP (d c b r) r) λ c xs r=>fP (i c xs r) r
   rcases o with rfl|o
   ·exact a
   ·rintro rfl;rcases E with z|z
    ·exact d c b o z
    ·rw[o]at z;cases z;exact j rfl
#where
structure Un(fs ex:Ed)(H H':Hp)(h h':Heap):ç where
 keep:∀b o,Ϧ b o->ck6->b∉fs->b∉ex->cH6
 slot:∀b o,Ϧ b o->ck6->b∈fs->b∉ex->∃sl,bJ7 (ü o slots sl)
 free:∀b o,Ϧ b o->ck6->b∉ex->Ν cc7
 there:∀b o,Ϧ b o->b∉ex->∃o',bJ7 o'
 tups:∀b xs,H b>=IT->cc7>=IT
 frzs:∀b o u,H b>=(.frz o u)->cc7>=(.frz o u)
 tbls:∀b ps,H b>=(.tbl ps)->∃more,cc7>=(.tbl (ps++more))
section
variable{fs fs' ex ex':Ed}{H H1 H2:Hp}{h h1 h2 h':Heap}{a x e:Addr}{o:HO}
def Un.any(u:Un fs ex H H1 h h1){b:Addr}{ob:Obj}(q:Ϧ b ob)(n:ck6)(hx:b∉ex):∃d,h1.get? b>=(ü ob slots d):=by
 by_cases c:b∈fs
 ·exact u.slot b ob q n c hx
 ·exact İ ob.slots (u.keep b ob q n c hx)
def Un.kept(k:∀b u,Ϧ b u->cH5):Un fs ex H H h h' :=
 ⟨λ b ob q _ _ _=>k b ob q,λ b ob q _ _ _=>İ ob.slots (k b ob q),λ_ _ _ n _=>n,λ b ob q _=>İ ob (k b ob q),co8,wx q q,λ_ ps q=>İ #[] (Ϝ q)⟩
def Un.refl:Un fs ex H H h h:=Un.kept co8
def Un.laid(k:∀b u,Ϧ b u->cH5)(hp:h.objs.size<=a)(hn:Ξ a):Un fs ex H cH2 h h' where
 keep:=λ b u q _ _ _=>k b u q
 slot:=λ b u q _ _ _=>İ u.slots (k b u q)
 free:=λ b u q n _=>fP (Bc (Ax (Ao q) hp)) n
 there:=λ b u q _=>İ u (k b u q)
 tups:=λ b xs q=>bf0 q hn q
 frzs:=λ b u xs q=>bf0 q hn q
 tbls:=λ b ps q=>İ #[] (bM4 (Q0 (Jh q hn)) q)
def Un.write(mu:Mut (H x))(v:e=x∨H e>=(.own x))(k:∀b u,b≠e->Ϧ b u->cH5)(d:∃u,ž e u):Un fs ex H (Ž x o) h h':=by
 have hx:∀b,ck6->b≠x:=λ b n z=>af6 z n mu
 have j:∀b,ck6->b≠e:=λ b n z=>by
  subst z;rcases v with r|r
  ·exact hx b n r
  ·rw[n]at r;cases r
 have i:∀b u,H b>=u->¬ Mut (í u)->b≠x:=λ b u q nm z=>af6 z q (nm mu)
 refine⟨λ b u q n _ _=>k b u (j b n) q,λ b u q n _ _=>İ u.slots (k b u (j b n) q),λ b u q n _=>fP (hx b n) n,λ b u q _=>?_,
  λ b xs q=>fP (i b _ q λ z=>z) q,λ b u xs q=>fP (i b _ q λ z=>z) q,λ b ps q=>İ #[] (bM4 (Q0 (i b _ q λ z=>z)) q)⟩
 by_cases c:b=e
 ·subst c;exact d
 ·exact İ u (k b u c q)
#where
def trk(h:Heap)(H:Hp):da8:=CD be2 (λ a=>tm IY)
def nM(h:Heap)(H:Hp):Heap:=PySem.W.hideAll h (trk h H)
def QiO(h:Heap)(H:Hp):oC (nM h H)=h.objs.size:=PySem.W.hideAll_size _ _
def QkG{h:Heap}{H:Hp}{b:Addr}(e:Ϧ b o)(n:ck6):(nM h H).get? b>=o :=
 PySem.W.hideAll_get _ e λ a=>by have q:bp5 (H b):=bv8 a;rw[n]at q;simp at q
def Qn2{h:Heap}{H:Hp}{b:Addr}(e:(nM h H).get? b>=o):Ϧ b o/\ck6:=by
  have a:Ϧ b o:=PySem.W.of_hideAll (trk h H) e;refine CA a;cases q:H b with
  |none=>rfl
  |some x=>have c:b∈trk h H:=Bj.mpr (İ (cv7 (Ao a)) (Ģ q));have z:Ν ((nM h H).get? b):=PySem.W.hideAll_none (trk h H) c;rw[z]at e;cases e
def Ou(g h:Heap)(L:Addr):A0:=(be2).filterMap λ a=>É (a=L∨bp5 (cI6 a)) none (tT (h.get? a) o (a,o))
def uP{g h:Heap}{L:Addr}{p:Addr × Obj}(hp:p∈Ou g h L):oB≠L/\Ν (cI6 oB)/\Ϧ oB p.2:=by
  obtain⟨b,_,e⟩:=bX7;split at e
  . cases e
  . rename_i hn
    cases q:h.get? b with
    |none=>rw[q]at e;simp at e
    |some u =>
      rw[q]at e;simp only[Option.map_some,Option.some.injEq]at e;subst e;refine⟨λ z=>hn (ë z),?_,q⟩;show Ν (cI6 b);cases r:cI6 b with
      |none=>rfl
      |some v=>exact(hn (Ĉ (Ģ r))).elim
def rest(g h:Heap)(L d:Addr):A0:=CD (Ou g h L) (λ p=>ß (oB≠d))
def Qla{L:Addr}:News g L h (Ou g h L):=λ p hp=>ae8 a b c (uP hp) c a b
structure Mod(K:Aa)(mg:C9)(O8:Heap):ç where
 kin:K.In O8
 glob:aa8 mg
 blt:∃mb,O8.Ns builtinsNs mb/\∀x:Str,tY x -> mb x=AJ
 nolimit:O8.NoLimit
structure Cx where
 prog:Program
 w:World
 K:Aa
 mg:Str->mM
 O8:Heap
 A:Around
 N:ő
 s₀:Shared
 H₀:Hp
 env:Env
 outer:IR
 stack:IR
 ex:da8
 fn:IW Str
 calm:Bool
 pn:A0
 xe:FO ϲ
def frs(l:IR):da8:=l.filterMap (·.frame)
abbrev Cx.fs(X:Cx):da8:=frs X.outer
def Vis(a:Scope)(x:Str):ç:=LH>=nE∨LH>=aK4∨LH>=bj9
def Loc(a:Scope)(x:Str):ç:=LH>=nE∨LH>=aK4
def Qtm(env:Env)(h:Heap)(m:C9)(x:Str)(u:Value):ç :=
 (cv8>=nE/\m x>=u)∨((cv8>=aK4∨cv8>=bj9)/\∃c,env.cells.lookup x>=c/\h.IsCell c (í u))
structure Cx.Ok(X:Cx):ç where
 mod:Mod X.K X.mg X.O8
 kind:X.env.scope.kind=aQ6
 glob:X.env.globals=mainGlobals
 blt:X.env.builtins=builtinsNs
 above:dS X.env.locals
 inj:∀x y c,Ľ x c->Ľ y c->x=y
 has:∀x,(ab9 x>=aK4∨ab9 x>=bj9)->∃c,Ľ x c
 cab:∀x c,x3 x->Ľ x c->dS c
 hd:aT->Ν X.A.handled
 frames:X.A.frames>=X.stack
 stk:X.stack=X.outer∨(X.stack=X.env::X.outer/\X.env.frame>=X.env.locals)
 exf:∀b∈X.ex,fD b/\∀x c,Ľ x c->c≠b
 bs:∀b o,aK5>=o->aQ9>=o/\Ν (X.H₀ b)
 bsz:X.O8.objs.size<=X.s₀.heap.objs.size
 noex:∀b o,aK5>=o->b∉X.ex
 exfs:∀b∈X.ex,b∉X.fs
 funs:cq1 X.outer
 frf:∀b∈X.fs,Ν (X.H₀ b)
structure Inv(X:Cx)(O9:C8)(σ:Ã aY9)(H:Hp)(s:Shared):ç where
 ok:X.Ok
 os:s.os=X.s₀.os
 bare:AllBare s.gens
 O8:Un X.fs X.ex X.H₀ H X.s₀.heap s.heap
 loc:∃m,s.heap.Ns X.env.locals m/\bd3 i x Str v V (au1->Ϥ σ Oy->Rz x->∃u,dd8/\Qtm X.env s.heap m x u)
 cell:∀x c,Ľ x c->∃v,s.heap.IsCell c v
 free:Ξ X.env.locals
 freeC:∀x c,Ľ x c->Ξ c
 pin:∀p∈X.pn++O9,č oB p.2/\Ξ oB/\fD oB/\oB∉X.fs/\∀v,p.2.data≠.cell v
 hok:bH5 X.w H s.heap
 len:⇑σ=⇑X.N
section
variable{X:Cx}{O9:C8}{σ:Ã aY9}{H H':Hp}{s:Shared}{h':Heap}
def Cx.Ok.nofr(ok:X.Ok){b:Addr}(e:aK5>=o):b∉X.fs:=λ a=>ba1 (ok.funs.mem a).1 e this
def Inv.bs(I:ag):∀b o,aK5>=o->cj9/\ck6:=λ b o e =>
 İ (I.O8.keep b o (I.ok.bs b o e).1 (I.ok.bs b o e).2 (I.ok.nofr e) (I.ok.noex b o e)) (I.O8.free b o (I.ok.bs b o e).1 (I.ok.bs b o e).2 (I.ok.noex b o e))
def Inv.bk(I:ag):∀b o,aK5>=o->cj9:=λ b o e=>(I.bs b o e).1
def Inv.mod(I:ag):Mod X.K X.mg X.O8:=I.ok.mod
def Inv.kIn(I:ag):X.K.In s.heap:=I.ok.mod.kin.keeps I.bk
def Inv.fr(I:ag):∃m,Fr X.O8 X.env.locals s.heap m :=
 let ⟨m,hn,_⟩:=I.loc
 ⟨m,hn,I.bk,Bh I.ok.bsz I.ok.above⟩
def Inv.lt(I:ag):N9 X.env.locals:=let ⟨_,hn,_⟩:=I.loc;hn.lt
def Inv.sz(I:ag):dS s.heap.objs.size:=Bh I.ok.above (eK I.lt)
def Inv.nofs(I:ag){a:Addr}(h:au3 a):a∉X.fs:=λ c=>by obtain⟨_,o,d,_⟩:=I.ok.funs.mem c;exact bh6 (Ax (Ao d) (Bh I.sz h))
def Inv.cne(I:ag):∀x c,Ľ x c->fD c:=λ x c e z=>by obtain⟨v,o,i,hd⟩:=cJ1 x e;obtain⟨m,⟨o',es,j,d,a,_⟩,_⟩:=I.loc;rw[z,d]at i;cases i;rw[a]at hd;cases hd
def Inv.funs(I:ag):aK7 X.outer:=by
  have all:∀(l:IR),Ps b (frs l) (b∈X.fs)->cq1 l->aK7 l:=by
    intro l;induction l with
    |nil=>intro _ _;trivial
    |cons env r v=>intro d hl;obtain⟨i,⟨L,o,hf,hn,j,hd⟩,u⟩:=hl;have a:L∈X.fs:=d L (bx3 frs List.filterMap_cons hf List.mem_cons_self);obtain⟨x,e⟩:=I.O8.slot L o j (I.ok.frf L a) a λ z=>I.ok.exfs L z a;exact⟨i,⟨L,_,hf,hn,e,hd⟩,v (λ b c=>d b (bx3 frs List.filterMap_cons hf (cT2 c))) u⟩
  exact all X.outer (λ_ c=>c) I.ok.funs
def Inv.stack(I:ag):aK7 X.stack:=by
 rcases I.ok.stk with e|⟨e,hf⟩
 ·rw[e];exact I.funs
 ·rw[e];obtain⟨m,hn,_⟩:=I.loc;refine .cons (cT4 I.ok.kind) hf hn ?_ I.funs;exact Heap.get?_none_of_le (Bh I.ok.bsz I.ok.above)
def Inv.stkSub(I:ag):∀b∈az3,b∈X.env.locals::X.fs:=λ b a=>by
 rcases I.ok.stk with e|⟨e,hf⟩
 ·rw[e]at a;exact cT2 a
 ·rw[e]at a;unfold frs at a;rw[List.filterMap_cons,hf]at a;exact a
def Inv.stkFree(I:ag):∀b∈az3,ck6:=λ b a=>by
 rcases pw (I.stkSub b a)with e|a
 ·rw[e];exact I.free
 ·obtain⟨_,o,c,_⟩:=I.ok.funs.mem a;exact I.O8.free b o c (I.ok.frf b a) λ z=>I.ok.exfs b z a
def Inv.step{g':Array GenState}{t':Nat}{d':Drawn}{ch:Ed}(I:ag)
  (hch:∀b∈ch,(b∈X.ex∨dS b)/\fD b/\(∀x c,Ľ x c->c≠b)/\∀p∈X.pn++O9,oB≠b)
  (keep:∀b o,fD b->b∉X.fs->b∉ch->cj9->ck6->cH6)
  (slot:∀b o,fD b->b∈X.fs->b∉ch->cj9->ck6->∃F,bJ7 (ü o slots F)) (free:∀b o,b∉ch->cj9->ck6->Ν cc7)
  (there:∀b o,b∉ch->cj9->∃o',bJ7 o')
  (tups:∀b xs,H b>=IT->cc7>=IT) (frzs:∀b o u,H b>=(.frz o u)->cc7>=(.frz o u)) (tbls:∀b ps,H b>=(.tbl ps)->∃more,cc7>=(.tbl (ps++more)))
  (ns:∀m,s.heap.Ns X.env.locals m->h'.Ns X.env.locals m) (hok:bH5 X.w H' h') (hg:AllBare g') :
  ū H' { s with heap:=h',gens:=g',drawn:=d',toks:=t' }:=by
 have E:∀b o,aQ9>=o->fD b:=λ b o e=>Bc cP1;have j:∀b o,aQ9>=o->b∉X.ex->b∉ch:=λ b o e hx y=>by
  rcases(hch b y).1 with z|z
  ·exact hx z
  ·exact bh6 (Ax Ex z)
 have cellK:∀x c,Ľ x c->∀v,s.heap.IsCell c v->h'.IsCell c v:=λ x c e v ⟨o,C,hd⟩=>by
  have a:c∉ch:=λ z=>(hch c z).2.2.1 x c e rfl;by_cases J:c∈X.fs
  ·obtain⟨F,q⟩:=slot c o (I.cne x c e) J a C (I.freeC x c e);exact aQ5 q hd
  ·exact IX (keep c o (I.cne x c e) J a C (I.freeC x c e)) hd
 refine⟨I.ok,I.os,hg,⟨bx5 b o e n y hx,bx5 b o e n y hx,cR4 b o e n hx,pM b o e hx,λ b xs e=>tups b xs (I.O8.tups b xs e),λ b o xs e=>frzs b o xs (I.O8.frzs b o xs e),ĵ b ps e⟩,?_,ĵ x c e,?_,ĵ x c e,ż p hp,hok,I.len⟩
 ·exact keep b o (E b o e) y (j b o e hx) (I.O8.keep b o e n y hx) (I.O8.free b o e n hx)
 ·obtain⟨F,e1⟩:=I.O8.slot b o e n y hx;obtain⟨G,e2⟩:=slot b _ (E b o e) y (j b o e hx) e1 (I.O8.free b o e n hx);exact İ G e2
 ·obtain⟨o',e1⟩:=cw0 b o e;exact free b o' (j b o e hx) e1 (I.O8.free b o e n hx)
 ·obtain⟨o',e1⟩:=cw0 b o e;exact there b o' (j b o e hx) e1
 ·obtain⟨m1,e1⟩:=I.O8.tbls b ps e;obtain⟨L,e2⟩:=tbls b _ e1;exact İ (m1++L) (ϓ e2 Array.append_assoc)
 ·obtain⟨m,hn,hl⟩:=I.loc;refine⟨m,ns m hn,bx5 i x v e1 e2 e3⟩;obtain⟨u,r,l⟩:=hl i x v e1 e2 e3;refine mY u r;rcases l with l|⟨k,c,e,z⟩
  ·exact ë l
  ·exact aV4 k c e (cellK x c e _ z)
 ·obtain⟨v,z⟩:=cJ1 x e;exact İ v (cellK x c e v z)
 ·obtain⟨m,⟨o,_,_,C,_⟩,_⟩:=I.loc;exact free _ o (λ z=>(hch _ z).2.1 rfl) C I.free
 ·obtain⟨v,o,C,hd⟩:=cJ1 x e;exact free c o (λ z=>(hch c z).2.2.1 x c e rfl) C (I.freeC x c e)
 ·obtain⟨e,n,ne,nf,d⟩:=cw1 hp;have a:oB∉ch:=λ z=>(hch oB z).2.2.2 p hp rfl;exact⟨keep oB p.2 ne nf a e n,free oB p.2 a e n,ne,nf,d⟩
def Inv.un{t':Nat}(I:ag)(u:Un X.fs [] H H' s.heap h')(hok:bH5 X.w H' h'):ū H' aH9:=by
 obtain⟨m,⟨o,es,C,j,r⟩,_⟩:=id I.loc;obtain⟨F,v⟩:=u.any j I.free Ê;exact I.step (g':=s.gens) (d':=s.drawn) (ch:=[]) (λ_ z=>i6 z) (λ b o _ i _ e n=>u.keep b o e n i Ê) (λ b o _ i _ e n=>u.slot b o e n i Ê) (λ b o _ e n=>u.free b o e n Ê) (λ b o _ e=>u.there b o e Ê) u.tups u.frzs u.tbls (λ E x=>by obtain⟨o',d,c,a,y⟩:=x;rw[j]at a;cases a;exact⟨_,d,c,v,y⟩) hok I.bare
def Inv.call{g':Array GenState}{t':Nat}{d':Drawn}(I:ag)(u:Un az3 ch H H' s.heap h')(hok:bH5 X.w H' h')(E:AllBare g')
  (hch:∀b∈ch,(b∈X.ex∨dS b)/\fD b/\(∀x c,Ľ x c->c≠b)/\∀p∈X.pn++O9,oB≠b) :
  ū H' { s with heap:=h',gens:=g',drawn:=d',toks:=t' }:=by
 obtain⟨m,⟨o,es,J,y,r⟩,_⟩:=id I.loc;obtain⟨O,v⟩:=u.any y I.free λ z=>(hch _ z).2.1 rfl;exact I.step (ch:=ch) hch (λ b o v C a e n=>u.keep b o e n (λ z=>(pw (I.stkSub b z)).elim v C) a) (λ b o _ _ a e n=>u.any e n a) (λ b o a e n=>u.free b o e n a) (λ b o a e=>u.there b o e a) u.tups u.frzs u.tbls (λ L F=>by obtain⟨o',j,i,d,G⟩:=F;rw[y]at d;cases d;exact⟨_,j,i,v,G⟩) hok E
def Inv.turned{t':Nat}{a:Addr}(I:ag)(k:∀b o,b≠a->cj9->cH6)(hn:Ξ a)(j:fD a)
  (h1:a∈X.ex∨dS a) (h2:∀x c,Ľ x c->c≠a) (h3:∀p∈X.pn++O9,oB≠a):γ aH9:=by
 have i:∀b u,H b>=u->b≠a:=λ b u e z=>by rw[z,hn]at e;cases e
 refine I.step (g':=s.gens) (d':=s.drawn) (ch:=[a]) (ż b C) (λ b o _ _ d e _=>k b o (λ z=>d (Ģ z)) e) (λ b o _ _ d e _=>İ o.slots (k b o (λ z=>d (Ģ z)) e)) (λ_ _ _ _ n=>n)
  (λ b o d e=>İ o (k b o (λ z=>d (Ģ z)) e)) (λ_ _ e=>e) (wx e e) (λ b ps e=>İ #[] (Ϝ e)) (ż m E) (ĵ b u e) I.bare
 ·have e:b=a:=Ë C
  subst e;exact⟨h1,j,h2,h3⟩
 ·obtain⟨o,es,y,F,r⟩:=E;exact⟨o,es,y,k _ o (Ł j) F,r⟩
 ·refine(I.hok b u e).stay (λ c v d q=>k c v ?_ q) (λ_ q=>q) co8;rcases d with z|z
  ·rw[z];exact i b u e
  ·exact i c _ z
def Inv.tok(I:ag)(t:Nat):γ (aH0 s t):=I.un (h':=s.heap) (t':=t) Un.refl I.hok
def Inv.kept{t':Nat}(I:ag)(k:∀b u,cj8 u->cH5):γ aH9:=I.un (Un.kept k) (I.hok.kept k)
def Inv.laid{a:Addr}{t':Nat}(I:ag)(k:∀b u,cj8 u->cH5)(hp:au3 a)(new:ObjOk X.prog X.w cH2 h' a o):
  ū cH2 aH9:=I.un (Un.laid k hp (m5 hp)) (I.hok.laid k hp new)
def Inv.write{x e:Addr}{o:HO}{t':Nat}(I:ag)(mu:Mut (H x))(c:e=x∨H e>=(.own x))(k:∀b u,b≠e->cj8 u->cH5)(a:∃u,ž e u)
  (new:ObjOk X.prog X.w (Ž x o) h' x o):ū (Ž x o) aH9:=I.un (Un.write mu c k a) (I.hok.write mu c k a new)
def Inv.pins_of(I:ag)(h:∀p∈pins',č oB p.2/\Ξ oB/\fD oB/\oB∉X.fs/\∀v,p.2.data≠.cell v):cC3 pins' :=
 ⟨I.ok,I.os,I.bare,I.O8,I.loc,I.cell,I.free,I.freeC,λ p hp=>(A6 hp).elim (λ z=>cw1 (aE5 z)) (h p),I.hok,I.len⟩
def SE{N:ő}(c:N.Nodup){i j:Nat}{x:Str}(a:AY N)(b:G1 N>=x):i=j:=at2 h1 e1 (Ac.mp a) h2 e2 (Ac.mp b) ((List.getElem_inj c).mp (e1.trans e2.symm))
def SR{M:Model}{A:Around}{E:C7}{i:Nat}{x:Str}{Q:Unit->ϲ}(I:ag)(hN:X.N.Nodup)(hi:au1)(hx:fT x)(r:dd8)
  (h:∀s',Inv X O9 cO7 H s'->(∃a,dg0 a s'.heap/\(a=X.env.locals∨Ľ x a))->Q () s') (hf:x3 x∨cI2:=by first|exact ĭ|exact ot|assumption):wpAny M A (cT5 x u) Q E s:=by
 obtain⟨m,hn,hl⟩:=id I.loc;have a8:ć (X.env.scope.kind==.class||(X.env.scope.kind==.module&&X.env.locals != X.env.globals)):=ÿ I.ok.kind
 have hiσ:i<⇑σ:=Æ I.len (ţ hi)
 have cne:=I.cne;have tracked:∀{a:Addr}{h':Heap},(∃o,č a o/\Ξ a)->dg0 a h'->bH5 X.w H h':=λ{a h'} ha C b ob e=>by
  obtain⟨_,_,G⟩:=ha;refine(I.hok b ob e).stay (λ c w' F q=>à (C.2 c ?_) q) (λ_ q=>q) co8;rintro rfl;rcases F with rfl|F
  ·rw[G]at e;cases e
  ·rw[G]at F;cases F
 rcases hx with J|J
 ·refine wpAny_storeName_local J hn (ĵ h' ac C) a8;obtain⟨oL,_,_,ad,_⟩:=id hn;refine h _ ⟨I.ok,I.os,I.bare,⟨bx5 b o e n L hx,bx5 b o e n L hx,I.O8.free,pM b o e hx,I.O8.tups,I.O8.frzs,I.O8.tbls⟩,aQ5 ac (bx5 j y v' e1 e2 e3),ĵ y c e,I.free,I.freeC,ż p hp,tracked ⟨oL,ad,I.free⟩ C,Ë I.len⟩ (aQ5 C ĭ)
  ·exact à (C.2 b (Bc cP1)) (I.O8.keep b o e n L hx)
  ·obtain⟨sl,e1⟩:=I.O8.slot b o e n L hx;exact İ sl (à (C.2 b (Bc cP1)) e1)
  ·obtain⟨o',e1⟩:=cw0 b o e;exact İ o' (à (C.2 b (Bc cP1)) e1)
  ·by_cases P:j=i
   ·subst P;rw[hi]at e1;cases e1;rw[As hiσ]at e2;cases e2;exact⟨u,r,N2 J Ê⟩
   ·rw[kb P]at e2;obtain⟨u',r',q⟩:=hl j y v' e1 e2 e3;refine mY u' r';rcases q with ⟨k,e⟩|⟨k,c,e,z⟩
    ·refine ë (CA k);have:y≠x:=λ e=>P (SE hN e1 (e▸hi));simp[this,e]
    ·exact aV4 k c e (z.sameBut C (cne y c e))
  ·obtain⟨w',z⟩:=cJ1 y e;exact İ w' (z.sameBut C (cne y c e))
  ·obtain⟨e,n,ne,nf,d⟩:=cw1 hp;exact⟨à (C.2 oB ne) e,n,ne,nf,d⟩
 ·have O:x3 x:=by
   rcases hf with z|z
   ·exact z
   ·rw[z]at J;cases J
  obtain⟨c,F⟩:=I.ok.has x (ë J);obtain⟨w',z⟩:=cJ1 x F;refine wpAny_storeName_cell I.ok.kind J F z (ĵ h' U C);obtain⟨oc,a9,ab⟩:=id z;refine h bq2 ⟨I.ok,I.os,I.bare,⟨bx5 b o e n L hx,bx5 b o e n L hx,I.O8.free,pM b o e hx,I.O8.tups,I.O8.frzs,I.O8.tbls⟩,⟨m,hn.sameBut C (Ł (cne x c F)),bx5 j y v' e1 e2 e3⟩,ĵ y c' e,I.free,I.freeC,ż p hp,tracked ⟨oc,a9,I.freeC x c F⟩ C,Ë I.len⟩ ⟨c,C,Ĉ F⟩
  ·exact à (C.2 b (Bc (Ax Ex (I.ok.cab x c O F)))) (I.O8.keep b o e n L hx)
  ·obtain⟨sl,e1⟩:=I.O8.slot b o e n L hx;exact İ sl (à (C.2 b (Bc (Ax Ex (I.ok.cab x c O F)))) e1)
  ·obtain⟨o',e1⟩:=cw0 b o e;exact İ o' (à (C.2 b (Bc (Ax Ex (I.ok.cab x c O F)))) e1)
  ·by_cases P:j=i
   ·subst P;rw[hi]at e1;cases e1;rw[As hiσ]at e2;cases e2;exact⟨u,r,aV4 (ë J) c F U⟩
   ·rw[kb P]at e2;obtain⟨u',r',q⟩:=hl j y v' e1 e2 e3;refine mY u' r';rcases q with q|⟨k,c',e,z'⟩
    ·exact ë q
    ·refine aV4 k c' e (z'.sameBut C ?_);rintro rfl;exact P (SE hN e1 (I.ok.inj _ _ _ e F▸hi))
  ·by_cases Z:c'=c
   ·subst Z;exact İ _ U
   ·obtain⟨w2,z2⟩:=I.cell y c' e;exact İ w2 (z2.sameBut C Z)
  ·obtain⟨e,n,ne,nf,d⟩:=cw1 hp;refine⟨à (C.2 oB ?_) e,n,ne,nf,d⟩;intro q;rw[q,a9]at e;have q':oc=p.2:=Aj e;exact d w' (ð q' ab)
def kB{M:Model}{A:Around}{E:C7}{i:Nat}{x:Str}{Q:Unit->ϲ}(I:ag)(a:X.N.Nodup)(hi:au1)(hx:fT x)(r:dd8)
  (h:∀s',Inv X O9 cO7 H s'->Q () s') (hf:x3 x∨cI2:=by first|exact ĭ|exact ot|assumption):wpAny M A (cT5 x u) Q E s :=
 SR I a hi hx r (λ s' I' _=>h s' I') hf
def Inv.call'{s':Shared}(I:ag)(d:s'.os=s.os)(u:Un az3 ch H H' s.heap s'.heap)(hok:bH5 X.w H' s'.heap)(a:az4)
  (hch:∀b∈ch,(b∈X.ex∨dS b)/\fD b/\(∀x c,Ľ x c->c≠b)/\∀p∈X.pn++O9,oB≠b):ū H' s':=by
 obtain⟨h',g',d',t',o'⟩:=s';have e:o'=s.os:=d;subst e;exact I.call (g':=g') (t':=t') (d':=d') u hok a hch
#where
abbrev XK:=FO (OL->eg)
abbrev St:=Ã aY9
abbrev VK:=V->eg
abbrev TE:=St->Hp->wp
abbrev TT:=St->Hp->θ cu6
abbrev TA:=St->Hp->θ (η->eg)
structure vA where
 nx:St->eg
 rt:VK
 bk:St->eg:=o6
 ct:St->eg:=o6
abbrev TS:=vA->St->eg
def EP(X:Cx)(a:C8)(σ:St)(Q:VK)(u:Value)(s':Shared):ç:=∃v H',cC1 a H' s'/\dd8/\Q v H'
def TP(X:Cx)(c:C8)(σ:St)(Q:cu6)(b:Bool)(s':Shared):ç:=∃a,cC1 c a s'/\Q b a
def AP(X:Cx)(a:C8)(σ:St)(Q:η->eg)(us:Đ)(s':Shared):ç:=∃vs H',cC1 a H' s'/\gd vs/\Q vs H'
def SP(X:Cx)(a:C8)(D:vA)(f:Flow)(s':Shared):ç :=
 match f with
 |.next=>∃σ' H',cv9 X a H' s'/\D.nx σ' H'
 |.brk=>∃σ' H',cv9 X a H' s'/\D.bk σ' H'
 |.cont=>∃σ' H',cv9 X a H' s'/\D.ct σ' H'
 |.ret u=>∃v σ' H',cv9 X a H' s'/\dd8/\D.rt v H'
def PE(X:Cx)(e:Expr)(t:TE):ç :=
 ∀(a:C8)(s:Shared)(σ:St)(H:Hp)(Q:VK),cC4->t σ H Q->cP3 (ä e) X a Q s
def PT(X:Cx)(e:Expr)(t:TT):ç :=
 ∀(O9:C8)(s:Shared)(σ:St)(H:Hp)(Q:cu6),ag->t σ H Q->ϛ (af7 e (ä e)) (TP X O9 σ Q) s
def PW(X:Cx)(e:Expr)(t:TT):ç :=
 ∀(whole:FD)(O9:C8)(s:Shared)(σ:St)(H:Hp)(Q:cu6),ag->t σ H Q->ϛ (cn0 e) (TP X O9 σ Q) s
def PA(X:Cx)(es:Α)(t:TA):ç :=
 ∀(pos:Pos)(O9:C8)(s:Shared)(σ:St)(H:Hp)(Q:η->eg),ag->t σ H Q->ϛ (spliced at0) (AP X O9 σ Q) s
def PS(X:Cx)(st:Stmt)(t:TS):ç :=
 ∀(a:C8)(s:Shared)(σ:St)(H:Hp)(D:vA),cC4->t D σ H->ϛ (exec st X.env) (SP X a D) s
def PSs(X:Cx)(st:G6)(t:TS):ç :=
 ∀(a:C8)(s:Shared)(σ:St)(H:Hp)(D:vA),cC4->t D σ H->ϛ (execs st X.env) (SP X a D) s
def thn{α:rV}{t:Sem α}{Q Q':α->ϲ}(h:wpAny M A t Q E s)(c:∀a s,Q a s->Q' a s):wpAny M A t Q' E s:=pS h c x x
section
variable{X:Cx}
def bin{j tb:TE}(ha:cr a j)(z:cr b tb){R:V->V->eg}(I:ag)(h:j σ H λ x e=>tb σ e λ y c=>R x y c)
  {α:rV} {Q:α->ϲ} {f:FO (FO (Sem α))}
  (hf:∀v u d x y c,ū c d->bG6->cM0->R x y c->ϛ (f v u) Q d) :
  cD4 a (λ v s₁=>cD4 b (λ u s₂=>ϛ (f v u) Q s₂) s₁) s:=by
 refine Ť (ha O9 s σ H _ I h) v G i;obtain⟨x,e,o,E,q1⟩:=i;refine Ť (z O9 G σ e _ o q1) u d i;obtain⟨y,c,r,F,C⟩:=i;exact hf v u d x y c r E F C
def Qt7(i:Nat):TE:=λ σ H Q=>∃v,Ϥ σ Oy/\Q v H
def tC(v:V):TE:=λ_ H Q=>Q v H
def T8{i:Nat}{x:Str}{pos:Pos}(C:au1)(hv:Rz x)(hd:aC8:=by decide)(o:br7 x:=by decide):cr Ql (Qt7 i):=by
 intro z s σ H Q I h;obtain⟨v,e,h⟩:=h;obtain⟨m,hn,hl⟩:=I.loc;obtain⟨u,r,l⟩:=hl i x v C e hv;have d:EP X z σ Q u s:=⟨v,H,I,r,h⟩;rcases l with ⟨j,E⟩|⟨j,c,y,a⟩
 ·exact wpAny_Name (wpAny_loadName_local I.ok.kind j hn E d) hd
 ·rcases j with j|j
  ·exact wpAny_Name (wpAny_loadName_cell I.ok.kind j y a d) hd
  ·exact wpAny_Name (wpAny_loadName_free I.ok.kind j y a d o) hd
def QqV{i j pos}:dd9 (cG6 bH6 j) bH6:=bY0 I h (wpAny_Constant_int ⟨dz,H,ϩ,TL,h⟩)
def QsN{b j pos}:dd9 (cG6 (x5 b) j) IU:=bY0 I h (Constant_bool (dr IU H I h))
def QqW{j pos}:dd9 (cG6 ey j) Ę:=bY0 I h (Constant_none (dr Ę H I h))
def QqY{x j pos}:dd9 (cG6 ϧ j) ϧ:=bY0 I h (Calls.Constant_str ⟨ϧ,H,ϩ,TL,h⟩)
def Gl(X:Cx)(x:Str):ç:=ab9 x>=.globalImplicit
def UH{E:C7}{x:Str}{pos:Pos}{Q:C7}(I:ag)(a:ND x)(c:X.mg x>=u)(h:Q u s)
  (hd:aC8:=by decide):ψ (ä Ql) Q E s :=
 cq5 a (Calls.loadGlobal_global (Æ I.ok.glob al0) c h) hd
def zP{E:C7}{x:Str}{pos:Pos}{Q:C7}(I:ag)(a:ND x)(c:c4 x)(hv:AJ>=u)(h:Q u s)
  (hn:tY x := by decide) (hd:aC8:=by decide):ψ (ä Ql) Q E s:=by
 obtain⟨d,h1,h2⟩:=I.mod.blt;exact cq5 a (Calls.loadGlobal_builtin (Æ I.ok.glob al0) c (Æ I.ok.blt (h1.keeps I.bk)) (à (h2 x hn) hv) h) hd
def HG{x:Str}{pos:Pos}(a:ND x)(c:X.mg x>=u)(r:dd8)(hd:aC8:=by decide):dd9 Ql v :=
 bY0 I h (UH I a c ⟨v,H,I,r,h⟩ hd)
def Ob{x:Str}{pos:Pos}(a:ND x)(c:c4 x)(hv:AJ>=u)(r:dd8)(hn:tY x := by decide)(hd:aC8:=by decide):dd9 Ql v :=
 bY0 I h (zP I a c hv ⟨v,H,I,r,h⟩ hn hd)
variable{a b:Expr}{ta tb:TE}{pos:Pos}
def PC(X:Cx)(d:CmpOp)(a b:Expr)(t:TE):ç :=
  ∀(c : A0)(s : Shared)(σ : St)(H : Hp)(Q : VK), cC3 c -> t σ H Q ->
    cD4 a (λ v s₁=>cD4 b (λ u s₂=>cP3 (compareOp d v u) X c Q s₂) s₁) s
def Qlc(b:Expr){c:CmpOp}(h:c≠.In)(h2:c≠.NotIn):wJ c b:=by
 have e1:l8 c CmpOp.In:=L8 c rfl h
 have e2:l8 c CmpOp.NotIn:=L8 c rfl h2
 cases b<;>simp[behindInMarks,e1,e2]
def tB(t:TE):TT:=λ σ H Q=>t σ H λ x H1=>∃c,x=Ζ c/\Q c H1
def QtH{e:CmpOp}(h:PC X e a b t)(h1:wJ e b:=by first|exact Qlc _ Â Â|rfl):PT X (co9 a [e] [b]) (tB t):=by intro o s σ H Q I hw;refine wpAny_isTrue_Compare1 (thn (h o s σ H _ I hw) λ v z h1=>thn h1 λ u C h2=>Ť h2 c E r) h1;obtain⟨x,i,j,y,q1⟩:=r;obtain⟨d,rfl,q⟩:=q1;cases y;exact py ⟨i,j,q⟩
def Qrd{e:Expr}(h:cr e t)(r:∀whole,cn0 e=bk1 v whole e.pos (OE [v] aR2):=by intro _;rfl):PT X e (tB t):=by intro j s σ H Q I hw;refine isTrue_plain (Ť (h j s σ H _ I hw) v y o) (r _);obtain⟨x,c,i,u,q1⟩:=o;obtain⟨d,rfl,q⟩:=q1;cases u;exact py ⟨c,i,q⟩
variable{tA tB':TT}{rest:Α}
def QtW(t u:TT):TT:=λ σ H Q=>t σ H λ c H1=>π c (u σ H1 Q) (Q false H1)
def tOr(t u:TT):TT:=λ σ H Q=>t σ H λ c H1=>π c (Q true H1) (u σ H1 Q)
def Qt1(t:TT):TT:=λ σ H Q=>t σ H λ c H1=>Q (i7 c) H1
def Qox(ha:PT X a tA):PW X (aX1 [a]) tA:=by
 intro i O9 s σ H Q I h;refine isTrue_and (Ť (ha O9 s σ H Q I h) c d e);cases c with
 |true=>exact isTrue_and_nil e
 |false=>exact e
def Qrg(ha:PT X a tA):PW X (bK6 [a]) tA:=by
 intro i O9 s σ H Q I h;refine isTrue_or (Ť (ha O9 s σ H Q I h) c d e);cases c with
 |false=>exact isTrue_or_nil e
 |true=>exact e
def Qrf(ha:PT X a tA)(j:PW X co2 tB'):PW X (aX1 (a::aQ8)) (QtW tA tB'):=by
 intro r O9 s σ H Q I h;refine isTrue_and (Ť (ha O9 s σ H _ I h) c o i);obtain⟨d,e,q1⟩:=i;cases c with
 |true=>exact j r O9 o σ d Q e q1
 |false=>exact⟨d,e,q1⟩
def QsS(ha:PT X a tA)(j:PW X cp4 tB'):PW X (bK6 (a::aQ8)) (tOr tA tB'):=by
 intro r O9 s σ H Q I h;refine isTrue_or (Ť (ha O9 s σ H _ I h) c o i);obtain⟨d,e,q1⟩:=i;cases c with
 |true=>exact⟨d,e,q1⟩
 |false=>exact j r O9 o σ d Q e q1
def Qrc(ha:PT X a tA):PT X (.UnaryOp .Not a pos) (Qt1 tA):=al1 d s H Q I h (isTrue_not (ha d s σ H (λ c H1=>Q (i7 c) H1) I h))
def Qs5(ta tb:TE):TE:=λ σ H Q=>ta σ H λ x H1=>∃c,x=Ζ c/\π c (tb σ H1 Q) (Q Θ H1)
def Qt2(ta tb:TE):TE:=λ σ H Q=>ta σ H λ x H1=>∃c,x=Ζ c/\π c (Q Η H1) (tb σ H1 Q)
def QqX{op}(h:cr a t):cr (IC op [a]) t:=λ c s σ H Q I d=>BoolOp_one (h c s σ H Q I d)
def QqS(ha:co6)(o:cr co2 tb):cr (aX1 (a::aQ8)) (Qs5 ta tb):=by
 intro i s σ H Q I h;refine BoolOp_and (Ť (ha i s σ H _ I h) v u j);obtain⟨x,d,e,r,q1⟩:=j;obtain⟨c,rfl,q1⟩:=q1;cases r;refine py ?_;cases c with
 |true=>exact o i u σ d Q e q1
 |false=>exact dr Θ d e q1
def QsP(ha:co6)(o:cr cp4 tb):cr (bK6 (a::aQ8)) (Qt2 ta tb):=by
 intro i s σ H Q I h;refine BoolOp_or (Ť (ha i s σ H _ I h) v u j);obtain⟨x,d,e,r,q1⟩:=j;obtain⟨c,rfl,q1⟩:=q1;cases r;refine py ?_;cases c with
 |false=>exact o i u σ d Q e q1
 |true=>exact dr Η d e q1
def tIf(t:TT)(ta tb:TE):TE:=λ σ H Q=>t σ H λ c H1=>π c (ta σ H1 Q) (tb σ H1 Q)
def Qlv(v:PT X c tA)(ha:co6)(u:cr b tb):cr (.IfExp c a b pos) (tIf tA ta tb):=by
 intro e s σ H Q I h;refine wpAny_IfExp (Ť (v e s σ H _ I h) d o r);obtain⟨i,j,q1⟩:=r;cases d with
 |true=>exact ha e o σ i Q j q1
 |false=>exact u e o σ i Q j q1
#where
def SqL(K:Aa)(H:Hp)(a:Addr)(xs:η):ç :=
 Rd H a db3 ∨
  ∃(o:Obj) (c:ŋ) (n:Nat),δ a>=o/\o.cls=aB8 /\ cD0/\o.data=.seq c n/\cC5/\bi3
def SqT(K:Aa)(H:Hp)(a:Addr)(xs:η):ç :=
 Rd H a IT ∨
  ∃(o:Obj) (c:ŋ) (n:Nat),δ a>=o/\o.cls=aw0 /\ o.data=.seq c n/\cC5/\bi3
def Qtp:FO aY9
 |.none=>í Ę
 |.bool b=>í IU
 |.int i _=>í bH6
 |.str x _=>í ϧ
 |.bytes b _=>í (.byt b)
 |.float b _=>í (.flt b)
 |.ref a=>aN3
 |.type n=>í (.ty n)
 |_=>none
def RelV.abs(r:bP x):Qtp u>=x:=by
 cases x with
 |non=>cases r;rfl
 |bl _=>cases r;rfl
 |int _=>obtain⟨t,rfl⟩:=r;rfl
 |str _=>obtain⟨t,rfl⟩:=r;rfl
 |byt _=>obtain⟨t,rfl⟩:=r;rfl
 |flt _=>obtain⟨t,rfl⟩:=r;rfl
 |ref _=>cases r;rfl
 |ty _=>cases r;rfl
def RelV.inj{x y:V}(r:bP x)(q:cM0):x=y:=Aj (r.abs.symm.trans q.abs)
def Vals.inj:∀{xs ys:η}{us:Đ},aW3->gd ys->xs=ys
 |_,_,_,.nil,.nil=>rfl
 |_,_,_,.cons r t,.cons a t'=>ϓ (r.inj a) (Vals.inj t t')
section
variable{X:Cx}{O9:C8}{σ:St}{H:Hp}{s:Shared}{a:Addr}{xs ys:η}
def SqL.of{K:Aa}(h:ģ IY xs):Pm K a:=ë aV0
def SqT.of{K:Aa}(h:IY>=IT):ct5:=ë aV0
def Inv.list(I:ag)(h:Pm X.K a):∃c:Đ,az0 c/\PlainL s.heap a c.toArray/\db9:=by
 rcases h with h|⟨o,c,n,i,d,hd,j,hz,r⟩
 ·obtain⟨z,c,n,r,e⟩:=h.ok I.hok;exact⟨c,r,NW _ n e rfl rfl,z⟩
 ·refine⟨c.toList,r,⟨o,n,I.kIn a o i,d,hd,Ë j⟩,?_⟩;have e:=lP;simp only[Array.length_toList]at e;lia
def Inv.tuple(I:ag)(h:Da X.K a):∃c:Đ,az0 c/\aZ7 a c.toArray/\db9:=by
 rcases h with h|⟨o,c,n,i,d,j,hz,r⟩
 ·obtain⟨z,c,r,p⟩:=h.ok I.hok;exact⟨c,r,p,z⟩
 ·refine⟨c.toList,r,⟨o,I.kIn a o i,d,n,Ë j⟩,?_⟩;have e:=lP;simp only[Array.length_toList]at e;lia
def Inv.list_inj(I:ag)(h:Pm X.K a)(h':rh X.K a ys):xs=ys:=by
 obtain⟨c,r,⟨o,n,e,_,_,d⟩,_⟩:=wy h;obtain⟨its',j,⟨o',u,i,_,_,d'⟩,_⟩:=wy h';rw[e]at i;cases i;rw[d]at d';injection d' with d1 _;have:c=its':=Ë (OP Array.toList d1)
 subst this;exact r.inj j
def Inv.tuple_inj(I:ag)(h:Da X.K a)(h':cP4 a):xs=ys:=by
 obtain⟨c,r,⟨o,e,_,n,d⟩,_⟩:=d4 h;obtain⟨its',j,⟨o',i,_,u,d'⟩,_⟩:=d4 h';rw[e]at i;cases i;rw[d]at d';injection d' with d1 _;have:c=its':=Ë (OP Array.toList d1)
 subst this;exact r.inj j
#where
abbrev Cx.wish(X:Cx)(E:C7):Cx:=ü X xe E
abbrev Cx.nox(X:Cx):Cx:=X.wish o6
def Cx.Ok.wish{X:Cx}(ok:X.Ok)(E:C7):(aR3).Ok :=
 ⟨ok.mod,ok.kind,ok.glob,ok.blt,ok.above,ok.inj,ok.has,ok.cab,ok.hd,ok.frames,ok.stk,ok.exf,ok.bs,ok.bsz,ok.noex,ok.exfs,ok.funs,ok.frf⟩
def Cx.Ok.unwish{X:Cx}(ok:(aR3).Ok):X.Ok :=
 ⟨ok.mod,ok.kind,ok.glob,ok.blt,ok.above,ok.inj,ok.has,ok.cab,ok.hd,ok.frames,ok.stk,ok.exf,ok.bs,ok.bsz,ok.noex,ok.exfs,ok.funs,ok.frf⟩
section
variable{X:Cx}{O9:C8}{σ:St}{H:Hp}{s:Shared}{E:C7}
def Inv.wish(I:ag)(E:C7):ğ aR3 H s:=⟨I.ok.wish E,I.os,I.bare,I.O8,I.loc,I.cell,I.free,I.freeC,I.pin,I.hok,I.len⟩
def Inv.unwish(I:ğ aR3 H s):ag:=⟨I.ok.unwish,I.os,I.bare,I.O8,I.loc,I.cell,I.free,I.freeC,I.pin,I.hok,I.len⟩
def SP.unwish{D:vA}{f:Flow}(h:SP aR3 O9 D f s'):SP X O9 D f s':=by
 cases f with
 |next=>obtain⟨σ',a,I,q⟩:=h;exact⟨σ',a,I.unwish,q⟩
 |brk=>obtain⟨σ',a,I,q⟩:=h;exact⟨σ',a,I.unwish,q⟩
 |cont=>obtain⟨σ',a,I,q⟩:=h;exact⟨σ',a,I.unwish,q⟩
 |ret u=>obtain⟨v,σ',a,I,r,q⟩:=h;exact⟨v,σ',a,I.unwish,r,q⟩
def PSs.nox{st:G6}(h:PSs X.nox st t):PSs X st t:=λ O9 s σ H D I a =>
 pS (h O9 s σ H D (I.wish _) a) (bs5 q.unwish) z (FS z)
#where
section
variable{X:Cx}{st:Stmt}{rest:G6}{t u:TS}{e:Expr}{te:TE}{pos:Pos}
def Qs9:TS:=λ D σ H=>cT6 H
def RL(t u:TS):TS:=λ D σ H=>t (ü D nx (u D)) σ H
def pss_nil:PSs X [] Qs9:=λ_ _ σ H _ I h=>aK8 ⟨σ,H,I,h⟩
def QlK(h1:PS X st t)(h2:PSs X rest u):PSs X (aQ7 st) (RL t u):=by
  intro a s σ H D I h;refine wpAny_execs_cons (Ť (h1 a s σ H (ü D nx (u D)) I h) f i q);cases f with
  |next=>obtain⟨σ',c,d,q⟩:=q;exact h2 a i σ' c D d q
  |ret v=>exact q
  |brk=>exact q
  |cont=>exact q
def Qos(h1:PS X st t):PSs X [st] t:=by
 intro a s σ H D I h;refine wpAny_execs_cons (Ť (h1 a s σ H D I h) f c q);cases f with
 |next=>exact aK8 q
 |ret v=>exact q
 |brk=>exact q
 |cont=>exact q
def Inv.quiet(I:ag):ć (interactive X.env):=fA interactive I.ok.kind
def SJ(te:TE):TS:=λ D σ H=>te σ H λ_ H1=>cT6 H1
def He(c:cr e te)(d:ax2 e none=TH:=by rfl):PS X (.Expr e pos) (SJ te):=al1 a s H D I h (wpAny_Expr_any (io (c a s σ H _ I h) v i x H1 I1 r1 q1 ⟨σ,H1,I1,q1⟩) I.quiet d)
def Qt5(te:TE):TS:=λ D σ H=>te σ H D.rt
def Qrb(c:cr e te):PS X (.Return bJ1 pos) (Qt5 te):=al1 a s H D I h (wpAny_Return_some (io (c a s σ H _ I h) v d x H1 I1 r1 q1 ⟨x,σ,H1,I1,r1,q1⟩))
def QtZ(c:TT)(t u:TS):TS:=λ D σ H=>c σ H λ b H1=>π b (t D σ H1) (u D σ H1)
def QsR{a b:G6}{v:TT}(z:PT X c v)(ha:PSs X a t)(y:PSs X b u):PS X (.If c a b pos) (QtZ v t u):=by
 intro i s σ H D I h;refine wpAny_If (Ť (z i s σ H _ I h) d r x);obtain⟨j,o,q1⟩:=x;cases d with
 |true=>exact ha i r σ j D o q1
 |false=>exact y i r σ j D o q1
def QrB:TS:=OQ
def QlH:PS X st QrB:=λ_ _ _ _ _ _ h=>h.elim
#where
abbrev TG:=V->St->Hp->θ (St->eg)
abbrev TGs:=η->St->Hp->θ (St->eg)
def PG(X:Cx)(target:Expr)(t:TG):ç :=
  ∀(O9 : A0)(s : Shared)(σ : St)(H : Hp)(v : V)(u : Value)(Q : St -> eg), ag -> dd8 -> t v σ H Q ->
    ϛ (cJ3 target u) (λ_ s'=>∃σ' H',cv9 X O9 H' s'/\Q σ' H') s
def PGs(X:Cx)(ts:Α)(t:TGs):ç :=
  ∀(O9 : A0)(s : Shared)(σ : St)(H : Hp)(vs : η)(us : Đ)(Q : St -> eg), ag -> gd vs -> t vs σ H Q ->
    ϛ (assignInOrder (aO0 ts) us) (λ_ s'=>∃σ' H',cv9 X O9 H' s'/\Q σ' H') s
abbrev DR:=V->V->V->Hp->θ eg
def D_(X:Cx)(t:DR):ç :=
  ∀(O9 : A0)(s : Shared)(σ : St)(H : Hp)(o i v : V)(ov iv u : Value)(Q : eg), ag -> RelV o ov -> RelV i iv -> dd8 -> t o i v H Q ->
    ϛ (setItem ov iv u) (λ_ s'=>∃a,ū a s'/\Q a) s
abbrev TIp:=V->V->Hp->wp
def PIp(X:Cx)(c:Operator)(t:TIp):ç :=
  ∀(a : A0)(s : Shared)(σ : St)(H : Hp)(x y : V)(v u : Value)(Q : VK), cC4 -> bG6 -> cM0 -> t x y H Q ->
    cP3 (inplaceOp c v u) X a Q s
section
variable{X:Cx}{pos:Pos}
def sY(i:Nat):TG:=λ v σ H Q=>Q cO7 H
def Oa{i:Nat}{x:Str}(c:X.N.Nodup)(hi:au1)(hx:fT x)(hf:x3 x∨cI2:=by first|exact ĭ|exact ot|assumption):PG X Ql (sY i):=by intro d s σ H v u Q I r h;exact wpAny_assign_Name (kB I c hi hx r (λ s' a=>cc3 H a h) hf)
def Qtu:TGs:=λ vs σ H Q=>vs=[]/\Q σ H
def Qsq(t:TG)(u:TGs):TGs:=λ vs σ H Q=>∃v r,vs=v::r/\t v σ H λ σ' H'=>u r σ' H' Q
def Qoj:PGs X [] Qtu:=by intro a s σ H vs us Q I r h;obtain⟨e,h⟩:=h;subst e;cases r;exact assignInOrder_nil ⟨σ,H,I,h⟩
def QlC{es:Α}{u:TGs}(h1:PG X e t)(h2:PGs X es u)
    (hs:aO0 (e::es)=ad5 e::aO0 es:=by rfl):PGs X (e::es) (Qsq t u):=by
  intro a s σ H vs us Q I r h;obtain⟨v,x,e1,h⟩:=h;subst e1;cases r with
  |cons r j=>rw[hs];refine assignInOrder_cons (cJ2 (h1 a s σ H _ _ _ I r h) o i ?_);obtain⟨σ1,c,d,q1⟩:=i;exact h2 a o σ1 c _ _ Q d j q1
def Qtw(K:Aa)(n:Nat)(t:TGs):TG:=λ v σ H Q=>∃a xs,v=ν/\ct5/\ŝ=n/\t xs σ H Q
def Qq4{es:Α}{k:Nat}{t:TGs}{n:Nat}(x:aT)(h:PGs X es t)
  (hn:⇑(cw es)=n:=by rfl) (hst:Ν ((cw es).findIdx? μ):=by rfl):PG X (cv5 es k pos) (Qtw X.K n t):=by
 intro d s σ H v u Q I r c;obtain⟨a,xs,e1,hq,hl,c⟩:=c;subst e1;cases r;obtain⟨z,i,y,hz⟩:=d4 hq;refine assign_Tuple_tuple (Of x) y (by simp[hn,<- hl,cu8]) hst (sg h');have j:cC2 d bq2:=cJ4 s.toks (λ b o e=>hx b o cv6 e);exact h d _ σ H xs _ Q j (Ë i) c
def Qtv(to c:TE)(t:DR):TG:=λ v σ H Q=>to σ H λ o H1=>c σ H1 λ i H2=>t o i v H2 λ a=>Q σ a
def Qq3{t:DR}(J:cr o to)(hi:cr i ti)(L:D_ X t)
  (ha:∀v,cJ3 (bV0 o i) v=(do
   let a <- OE [v] aY8
   let d <- OE [v,a] (ä i)
   standAt pos
   OE [v,a,d] (setItem a d v)
   release [v,a,d] []):=by intro _;rfl):PG X (bV0 o i) (Qtv to ti t):=by
 intro e s σ H v u Q I r h;rw[ha];refine bx6 (Ť (J e s σ H _ I h) a s1 c);obtain⟨x,j,E,U,q1⟩:=c;refine bx6 (Ť (hi e s1 σ j _ E q1) d s2 c);obtain⟨y,z,F,Z,O⟩:=c;refine bk2 (bx6 (cJ2 (L e s2 σ z x y v a d u _ F U Z r O) s3 c ?_));obtain⟨C,G,P⟩:=c;exact wpAny_release ⟨σ,C,G,P⟩
def Di(te:TE)(g:TG):TS:=λ D σ H=>te σ H λ x H1=>g x σ H1 D.nx
def Qq8(j:cr e te)(o:PG X tg g)(r:swapsWithSole [tg] e pos.line X.env=TH:=by rfl)(u:swappedStores [tg] e X.env=bd7:=by rfl)
  (h1:aO0 [tg]=[ad5 tg]:=by rfl):PS X (di8 [tg] e) (Di te g):=by
 intro a s σ H D I h;refine wpAny_Assign_stores (Ť (j a s σ H _ I h) v z i) r u;obtain⟨x,c,d,y,q1⟩:=i;rw[h1];exact cJ2 (o a z σ c x v _ d y q1) C q q
def Wj{i:Nat}{x:Str}(r:X.N.Nodup)(hi:au1)(hx:fT x)(u:cr e te)(z:ax2 e (í (sF pos'))=TH:=by rfl)(hf:x3 x∨cI2:=by first|exact ĭ|exact ot|assumption):
  PS X (di8 [sF pos'] e) (Di te (sY i)):=by
 intro j s σ H D I h;refine wpAny_Assign_Name (Ť (u j s σ H _ I h) v E o) z;obtain⟨y,a,c,C,q1⟩:=o;exact kB c r hi hx C (λ F d=>cc3 a d q1) hf
def R5(i:Nat)(te:TE)(a:TIp):TS:=λ D σ H=>∃x,Ϥ σ (í x)/\te σ H λ y H1=>a x y H1 λ z H2=>D.nx (aP0 (í z)) H2
def Qq9{i:Nat}{x:Str}{E:Operator}{F:TIp}{j:Pos}(Q:X.N.Nodup)(hi:au1)(hx:fT x)(Z:cr e te)(ho:PIp X E F)(hf:x3 x∨cI2:=by first|exact ĭ|exact ot|assumption):
  PS X (.AugAssign (sF j) E e pos) (R5 i te F):=by
 intro o s σ H D I h;obtain⟨v,e1,h⟩:=h;obtain⟨m,hn,hl⟩:=I.loc;have vis:Rz x:=II hx k k cL7 (mm k)
 obtain⟨u,r,l⟩:=hl i x v hi e1 vis;refine wpAny_AugAssign_Name ?_;have go:cD4 e (λ w s₂=>ϛ (inplaceOp E u w) (λ r s₃=>ϛ (cT5 x r) (λ_=>SP X o D .next) s₃) s₂) s:=by refine Ť (Z o s σ H _ I h) w s1 C;obtain⟨y,G,L,r1,q1⟩:=C;refine Ť (ho o s1 σ G v y u w _ L r r1 q1) z s2 C;obtain⟨zv,J,O,r2,q2⟩:=C;exact kB O Q hi hx r2 (λ s3 P=>cc3 J P q2) hf
 rcases l with ⟨a,hm⟩|⟨a,c,U,d⟩
 ·exact wpAny_loadName_local I.ok.kind a hn hm go
 ·rcases a with a|a
  ·exact wpAny_loadName_cell I.ok.kind a U d go
  ·rcases hx with k|k
   ·have:ō x bj9:=a;rw[k]at this;cases this
   ·have:ō x bj9:=a;rw[k]at this;cases this
def ipI(f:Int->Int->Int):TIp:=λ x y H Q=>∃i j,x=dz/\y=bI8/\Q ↥(f i j) H
def Qqe:PIp X .Add (ipI λ i j=>i+j):=by intro a s σ H x y v u Q I r1 r2 h;obtain⟨i,j,e1,e2,q⟩:=h;subst e1;subst e2;obtain⟨t,rfl⟩:=r1;obtain⟨t',rfl⟩:=r2;exact iadd_int (cT1 _ H ϩ TL)
#where
section
variable{X:Cx}{pos:Pos}
def QrC(c:TT)(tb:TS):TS:=λ D σ H=>∃W:d9 (St->eg),(∃m,W m σ H)/\∀m σ H,W m σ H ->
 c σ H λ b H1=>π b (∃N:St->eg,(∀σ' H',N σ' H'->∃a,a<m/\W a σ' H')/\tb { D with nx:=N,ct:=N,bk:=D.nx } σ H1) (cT6 H1)
def QlJ{a:G6}{F:TT}(hp:az5 an7 X.A X.xe)(L:PT X c F)(J:PSs X a tb):PS X (.While c a [] pos) (QrC F tb):=by
  intro o s σ H D I h;obtain⟨W,⟨O,U⟩,turn⟩:=h;refine wpAny_While (codeAny_whileLoop (λ n s'=>∃σ' H',cv9 X o H' s'/\W n σ' H') ?_ O ⟨σ,H,I,U⟩);rintro n P ⟨σ1,H1,I1,w1⟩;refine t9 (Ť (L o P σ1 H1 _ I1 (turn n σ1 H1 w1)) b Q G);obtain⟨z,C,e⟩:=G;cases b with
  |true =>
    obtain⟨N,E,e⟩:=e;rw[cq];refine t9 (Ť (J o Q σ1 z _ C e) f Z i);cases f with
    |next=>obtain⟨σ3,d,j,x⟩:=i;obtain⟨u,r,y⟩:=E σ3 d x;exact⟨u,r,σ3,d,j,y⟩
    |cont=>obtain⟨σ3,d,j,x⟩:=i;obtain⟨u,r,y⟩:=E σ3 d x;exact⟨u,r,σ3,d,j,y⟩
    |brk=>exact i
    |ret v=>exact i
  |false=>rw[Cw Bt];exact aK8 ⟨σ1,z,C,e⟩
#where
structure It where
 go:d9 eg
 yld:d9 (Hp->V->eg)
 stop:d9 eg
def GS(X:Cx)(a:C8)(H:Hp)(b:Addr):ç :=
 ck6/\fD b/\b∉X.fs/\(b∈X.ex∨dS b)/\(∀x c,Ľ x c->c≠b)/\∀p∈X.pn++a,oB≠b
def Inv.fpOk{H H':Hp}{s:Shared}{b:Addr}(I:ag)(a:au3 b)(hn:Ν cc7):GS X O9 H' b:=by
 refine⟨hn,Cr (Ax I.lt a),I.nofs a,Ĉ (Bh I.sz a),pM x c e z,ĵ p hp z⟩
 ·obtain⟨v,q⟩:=cJ1 x e;exact bh6 (Ax q.lt (Æ z a))
 ·exact bh6 (Ax (Ao (cw1 hp).1) (Æ z a))
structure pZ(P:Program)(w:World)(K:Aa)(tg:Expr)(J:It)(fp:Ed)(it:Addr)(tn:d9 be8):ç where
 mem:it∈fp
 obj:∀i h,tn i h->∀b∈fp,∃o,Ϧ b o/\∀v,o.data≠.cell v
 keep:∀i h h',tn i h->Ps b fp (∀o,Ϧ b o->cH6)->tn i h'
 item:∀(X:Cx),X.prog=P->X.w=w->X.K=K->aT->∀(i:Nat)(O9:C8)(s:Shared)(σ:St)(H:Hp)(E:C7),ag->Ps b fp (GS X O9 H b)->tn i s.heap->J.go i H ->
  wpAny (model P w) X.A (bk5 it) (λ r s1=>∃u,r>=u /\
   Ö P w X.A (bx7 tg ↑it u) (λ_ s2=>∃x H',ū H' s2/\bP x/\J.yld i H x H'/\tn (i+1) s2.heap/\∀b∈fp,Ν cc7) E s1) E s
 done:∀(X:Cx),X.prog=P->X.w=w->X.K=K->aT->∀(i:Nat)(O9:C8)(s:Shared)(σ:St)(H:Hp)(E:C7),ag->Ps b fp (GS X O9 H b)->tn i s.heap->J.stop i H ->
  Ö P w X.A (bk5 it) (λ r s1=>Ν r/\γ s1) E s
 self:∀(A:Around)(i:Nat)(s:Shared)(Q:C7)(E:C7),tn i s.heap->cw4 it s->Ö P w A (pyIter ↑it) Q E s
abbrev TI:=St->Hp->θ (It->eg)
def PIE(X:Cx)(c:C8)(σ:St)(tg:Expr)(R:It->eg)(a:Value)(d:Shared):ç :=
 ∃(it:Addr)(fp:Ed)(tn:d9 be8)(J:It)(H':Hp),a=æ it/\cC1 c H' d/\pZ X.prog X.w X.K tg J fp it tn/\tn 0 d.heap/\Ps b fp (GS X c H' b)/\R J H'
def PI(X:Cx)(tg a:Expr)(d:TI):ç :=
  ∀(O9 : A0)(s : Shared)(σ : St)(H : Hp)(R : It -> eg), ag -> d σ H R ->
    cD4 a (λ v c=>ϛ (pyIter v) (PIE X O9 σ tg R) c) s
def A_{M:Model}{A:Around}{E:C7}{s:Shared}{tg:Expr}{a:Addr}{u:Value}{o:Obj}{n:String}{vs:ŋ}{Q:Unit->ϲ}(d:č a o)(c:o.cls=į n)(hd:o.data=oh vs)
    (hn:ć (["enumerate", nI, cT9, bH7, "odict_iterator", cd6, cJ5].contains n)) (hQ:Q () s):wpAny M A (bx7 tg ş u) Q E s:=by
  unfold letOwnedTupleGo;cases tg<;>first
    |exact Cz hQ
    | (cases u<;>first
        |exact Cz hQ
        | (refine cT7 d ?_
           rw[c,hd];show wpAny M A (π (["enumerate", nI, cT9, bH7, "odict_iterator", cd6, cJ5].contains n&&vs[0]?==í (rawInt _)) _ _) Q E s;rw[Cw (by intro h;rw[hn,Bool.false_and]at h;cases h)];exact Cz hQ))
def Itl(K:Aa)(a:Addr):It :=
 ⟨λ i H=>∃xs x,Pm K a/\bU3,λ i H x H'=>H'=H/\∀xs,Pm K a->bU3,λ i H=>∃xs,Pm K a/\ŝ<=i⟩
def Itt(K:Aa)(a:Addr):It :=
 ⟨λ i H=>∃xs x,ct5/\bU3,λ i H x H'=>H'=H/\∀xs,ct5->bU3,λ i H=>∃xs,ct5/\ŝ<=i⟩
def Itr(a:Int)(n:Nat):It:=⟨λ i _=>i<n,λ i H x H'=>H'=H/\x=Ì (a+i),λ i _=>n<=i⟩
def QjE{w:World}{K:Aa}(a r:Addr):pZ P w K tg (Itl K a) [r] r (λ i h=>h.IsListIter r a i) where
 mem:=Ê
 obj:=λ i h st b j=>by
  have e:b=r:=Ë j
  subst e;obtain⟨o,e,c,d⟩:=st;exact IX e (λ v z=>ı d z z)
 keep:=λ i h h' st k=>st.at λ o e=>k r Ê o e
 item:=by intro X Q U O hc i O9 s σ H E I hf st hg;subst Q U O;obtain⟨xs,x,hq,hx⟩:=hg;obtain⟨Z,rv,p,hz⟩:=wy hq;obtain⟨u,hu,ru⟩:=rv.get hx;obtain⟨C,F,f2,G,J,L⟩:=hf r Ê;refine wpAny_pyNext_list_item st p.isList (x:=u) (Ë hu) (ĵ h' y sb);have I1:γ bq2:=ai1 t' (λ b o j e=>à (sb.2 b j) e) C F G J L;obtain⟨o,e,c,d⟩:=id y;exact Ņ u (A_ (s:=bq2) e c d Â ⟨x,H,I1,ru,ā (λ ys hy=>Æ (I.list_inj hy hq) hx),y,λ b j=>(hf b j).1⟩)
 done:=by intro X Q U O hc i O9 s σ H E I hf st hg;subst Q U O;obtain⟨xs,hq,hx⟩:=hg;obtain⟨Z,rv,p,hz⟩:=wy hq;obtain⟨C,F,f2,G,J,L⟩:=hf r Ê;have hl:=rv.length;exact wpAny_pyNext_list_end (Of hc) st p.isList ŉ λ h' eb=>ā (ai1 t' (λ b o j e=>eb b o j e) C F G J L)
 self:=bk6 st (wpAny_pyIter_listiter st h)
def QgE{w:World}{K:Aa}(a r:Addr):pZ P w K tg (Itt K a) [r] r (λ i h=>h.IsTupleIter r a i) where
 mem:=Ê
 obj:=λ i h st b j=>by
  have e:b=r:=Ë j
  subst e;obtain⟨o,e,c,d⟩:=st;exact IX e (λ v z=>ı d z z)
 keep:=λ i h h' st k=>st.at λ o e=>k r Ê o e
 item:=by intro X U Z Q hc i O9 s σ H E I hf st hg;subst U Z Q;obtain⟨xs,x,hq,hx⟩:=hg;obtain⟨y,rv,p,hz⟩:=d4 hq;obtain⟨u,hu,ru⟩:=rv.get hx;obtain⟨F,G,f2,J,L,O⟩:=hf r Ê;refine wpAny_pyNext_tuple_item st (aN2 a y.toArray p) (x:=u) (Ë hu) (ĵ h' C sb);have I1:γ bq2:=ai1 t' (λ b o j e=>à (sb.2 b j) e) F G J L O;obtain⟨o,e,c,d⟩:=id C;exact Ņ u (A_ (s:=bq2) e c d Â ⟨x,H,I1,ru,ā (λ ys hy=>Æ (I.tuple_inj hy hq) hx),C,λ b j=>(hf b j).1⟩)
 done:=by intro X U Z Q hc i O9 s σ H E I hf st hg;subst U Z Q;obtain⟨xs,hq,hx⟩:=hg;obtain⟨y,rv,p,hz⟩:=d4 hq;obtain⟨F,G,f2,J,L,O⟩:=hf r Ê;have hl:=rv.length;exact wpAny_pyNext_tuple_end (Of hc) st (aN2 a y.toArray p) ŉ λ h' eb=>ā (ai1 t' (λ b o j e=>eb b o j e) F G J L O)
 self:=bk6 st (wpAny_pyIter_tupleiter st h)
def QgD{w:World}{K:Aa}(a:Addr)(j:Int)(n:Nat):pZ P w K tg (Itr j n) [a] a (λ i h=>IsRangeIter h a (j+(i:Nat) * 1) (iH-(i:Nat)) 1) where
 mem:=Ê
 obj:=λ i h st b c=>by
  have e:b=a:=Ë c
  subst e;exact aQ5 st (λ v z=>bg7 z' (cd7 _=aL1) z z')
 keep:=λ i h h' st k=>k a Ê _ st
 item:=by intro X G L F J i O9 s σ H E I hf st hg;subst G L F;obtain⟨r,u,U,x,y,C⟩:=hf a Ê;have W:=Walks.range (prog:=X.prog) (w:=X.w) (Of J) a j 1 n;refine W.item i s _ _ hg st (bx5 v h' tk hv d Z);obtain⟨t,rfl⟩:=hv;have O:γ aI0:=I.turned (λ b o c e=>Z b o (Ë c) e) r u x y C;refine Ņ _ (A_ (s:=aI0) (n := "range_iterator") d rfl rfl Â ⟨Ì (j+i),H,O,CA t,ed,d,λ b c=>(hf b c).1⟩);rw[Int.mul_one]
 done:=by intro X G L F J i O9 s σ H E I hf st hg;subst G L F;obtain⟨r,u,U,x,y,C⟩:=hf a Ê;exact wpAny_pyNext_range_end (Of J) st (sn (n<=i) hg) λ h' Q=>ā (ai1 t' (λ b o c e=>Q b o c e) r u x y C)
 self:=bk6 st (cw5 h)
section
variable{X:Cx}{tg:Expr}
def Qsr(K:Aa)(c:TE):TI:=λ σ H R=>c σ H λ x H1=>∃a,x=ν/\(∃xs,SqL K H1 a xs)/\R (Itl K a) H1
def QtA(K:Aa)(c:TE):TI:=λ σ H R=>c σ H λ x H1=>∃a,x=ν/\(∃xs,SqT K H1 a xs)/\R (Itt K a) H1
def HE(hl:cr l tl):PI X tg l (Qsr X.K tl):=by
 intro j s σ H R I h;refine Ť (hl j s σ H _ I h) v d r;obtain⟨x,i,c,z,q1⟩:=r;obtain⟨a,e,⟨xs,hq⟩,q⟩:=q1;subst e;cases z;obtain⟨y,C,p,hz⟩:=c.list hq;refine aR7 p.isList;refine⟨d.heap.objs.size,[d.heap.objs.size],_,_,i,rfl,c.kept (t':=d.toks) λ b o e=>TU,QjE a _,fh _ L7 rfl,ż b u,q⟩;have e:b=d.heap.objs.size:=Ë u
 subst e;exact c.fpOk đ (c.hok.fresh đ)
def Qq6(hl:cr l tl):PI X tg l (QtA X.K tl):=by
 intro r s σ H R I h;refine Ť (hl r s σ H _ I h) v c u;obtain⟨x,j,d,z,q1⟩:=u;obtain⟨a,e,⟨xs,hq⟩,q⟩:=q1;subst e;cases z;obtain⟨i,C,p,hz⟩:=d.tuple hq;refine wpAny_pyIter_tuple (é (c.heap.IsTuple a i.toArray) p) ?_;refine⟨c.heap.objs.size,[c.heap.objs.size],_,_,j,rfl,d.kept (t':=c.toks) λ b o e=>TU,QgE a _,fh _ L7 rfl,ż b y,q⟩;have e:b=c.heap.objs.size:=Ë y
 subst e;exact d.fpOk đ (d.hok.fresh đ)
def QlT{R:It->eg}{E:C7}{a hi:Int}{t u v:Tok}{tk:Nat}(I:ag)(h1:-(2 ^ 62)<=a)(h2:a<2 ^ 62)(h3:-(2 ^ 62)<=hi)(h4:hi<2 ^ 62)
  (q:R (Itr a (IL (hi-a))) H):ψ (pyIter Ĺ) (PIE X O9 σ tg R) E (en s (bL0 #[bi0 a,df0,iA 1 v]) tk):=by
 refine wpAny_pyIter_range ba3 (small_one h1 h2 h3 h4) ?_;have c:γ (en s (bL0 #[bi0 a,df0,iA 1 v]) tk):=I.kept λ b o e=>TU;refine⟨ca8 #[bi0 a,df0,iA 1 v],[ca8 #[bi0 a,df0,iA 1 v]],_,_,H,rfl,
  c.kept (t':=tk) λ b o e=>TU,QgD _ a (IL (hi-a)),?_,ż b d,q⟩
 ·have e1:a+Î (0:Nat) * 1=a:=Ê
  have e2:Î (IL (hi-a):Nat)-Î (0:Nat)=sL a hi 1:=aP1
  show IsRangeIter _ _ (a+Î (0:Nat) * 1) (Î (IL (hi-a):Nat)-Î (0:Nat)) 1;rw[e1,e2];exact L7
 ·have e:b=ca8 #[bi0 a,df0,iA 1 v]:=Ë d
  subst e;exact c.fpOk đ (c.hok.fresh đ)
def Qss(a:TA):TI:=λ σ H R=>a σ H λ vs H1=>∃j:Int,vs=[bI8] /\ -(2 ^ 62)<=j/\j<2 ^ 62/\R (Itr 0 j.toNat) H1
def Qje{p pos:Pos}(o:ND aS)(u:c4 aS)(ha:PA X [a] ta)(v:Ï [a]=[Ż a]:=by rfl):PI X tg (bs0 aS [a]) (Qss ta):=by
  intro d s σ H R I h;refine Call_ (zP I o u boot_range (df (Ť (ha pos d s σ H _ I h) us E i) v rfl));obtain⟨vs,C,c,y,q1⟩:=i;obtain⟨j,e,q1,x,q⟩:=q1;subst e;cases y with
  |cons r z=>cases z;obtain⟨t,rfl⟩:=r;exact call_range_1 (QlT c À À q1 x (Ë q))
def QtY(c:TI)(g:TG)(tb:TS):TS:=λ D σ H=>c σ H λ J H1=>∃W:bT0 (St->eg),(∃m,W 0 m σ H1)/\∀i m σ H,W i m σ H ->
 (J.stop i H/\cT6 H)∨(J.go i H/\∃N:St->eg,(∀σ' H',N σ' H'->∃a,a<m/\W (i+1) a σ' H')/\∀x H',J.yld i H x H'->g x σ H' λ σ2 H2=>tb { D with nx:=N,ct:=N,bk:=D.nx } σ2 H2)
def gc(a:Ed)(h:Heap):A0:=a.filterMap λ b=>tT (h.get? b) o (b,o)
def j6{h:Heap}{b:Addr}(a:b∈fp)(e:Ϧ b o):(b,o)∈gc fp h:=List.mem_filterMap.mpr ⟨b,a,ÿ e⟩
def Qi3{a:Ed}{h:Heap}{p:Addr × Obj}(hp:p∈gc a h):oB∈a/\Ϧ oB p.2:=by
  obtain⟨b,d,e⟩:=bX7;cases q:h.get? b with
  |none=>rw[q]at e;cases e
  |some o=>rw[q]at e;have c:(b,o)=p:=Aj e;subst c;exact İ d q
def Inv.pinned{a:C8}{s:Shared}(I:cC4)(hf:∀b∈fp,GS X a H b)(x:∀b∈fp,∃o,cj9/\∀v,o.data≠.cell v):cC3 (a++gc fp s.heap) :=
 I.pins_of λ p hp=>(A6 hp).elim (λ z=>cw1 (Ai _ z)) λ z=>by obtain⟨i,e⟩:=Qi3 z;obtain⟨j,r,u,_⟩:=hf oB i;obtain⟨o,c,d⟩:=x oB i;rw[e]at c;cases c;exact⟨e,j,r,u,d⟩
def Inv.unpinned{a pl:C8}(I:cC3 (a++pl)):cC4:=I.pins_of λ p hp=>cw1 (Ai _ (aE5 hp))
def Wl{C:G6}{pos:Pos}(hp:az5 an7 X.A X.xe)(hc:aT)(hi:PI X tg iter wi)(hg:PG X tg g)(j:PSs X C tb)
  (hs:∀x,cG1=bZ8:=by intro _;rfl):PS X (.For tg iter C [] pos) (QtY wi g tb):=by
 intro F s σ H D I h;refine wpAny_For (thn (hi F s σ H _ I h) λ v s1 h1=>Ť h1 a9 s2 h2) hs;obtain⟨it,L,tn,J,H2,e,I2,T,a8,f2,W,⟨m0,w0⟩,turn⟩:=h2;subst e;have y:∀{z:Hp},Ps b L (Ν (z b))->∀b∈L,GS X F z b:=λ hn b j=>İ (hn b j) (f2 b j).2;refine codeAny_forLoop_any (λ n s'=>∃i σ' z,cv9 X F z s'/\tn i s'.heap/\Ps b L (Ν (z b))/\W i n σ' z) ?_ m0 ⟨0,σ,H2,I2,a8,λ b j=>(f2 b j).1,w0⟩;rintro n s3 ⟨i,σ3,H3,I3,st3,fr3,w3⟩;rcases turn i n σ3 H3 w3 with ⟨stop,qn⟩|⟨go,N,hN,step⟩
 ·refine t9 (thn (T.done X rfl rfl rfl hc i F s3 σ3 H3 X.xe I3 (y fr3) st3 stop) (ba4 r s4 Z I4));subst Z;exact aK8 ⟨σ3,H3,I4,qn⟩
 ·refine t9 (thn (T.item X rfl rfl rfl hc i F s3 σ3 H3 X.xe I3 (y fr3) st3 go) λ r s4 ⟨u,Z,h4⟩=>?_);subst Z;refine t9 (cJ2 h4 s5 Q ?_);obtain⟨x,H5,I5,r5,y5,G,U⟩:=Q;have P:=I5.pinned (y U) (T.obj _ _ G);refine t9 (cJ2 (hg _ s5 σ3 H5 x u _ P r5 (step x H5 y5)) s6 Q ?_);obtain⟨σ6,H6,I6,q6⟩:=Q;refine t9 (Ť (j _ s6 σ6 H6 _ I6 q6) f s7 E);have again:∀{σ7:St}{a:Hp},Inv X (F++gc L s5.heap) σ7 a s7->N σ7 a->∃m,m<n/\∃i σ' z,cv9 X F z s7/\tn i s7.heap/\Ps b L (Ν (z b))/\W i m σ' z:=λ{σ7 a} c O=>by obtain⟨m',hm,w7⟩:=hN σ7 a O;refine⟨m',hm,i+1,σ7,a,c.unpinned,T.keep _ _ _ G λ b j o e=>(c.pin (b,o) (Ai _ (Ai _ (j6 j e)))).1,ż b j,w7⟩;obtain⟨o,e,d⟩:=T.obj _ _ G b j;exact(c.pin (b,o) (Ai _ (Ai _ (j6 j e)))).2.1
  cases f with
  |next=>obtain⟨σ7,a,c,O⟩:=E;exact again c O
  |cont=>obtain⟨σ7,a,c,O⟩:=E;exact again c O
  |brk=>obtain⟨σ7,a,c,E⟩:=E;exact⟨σ7,a,c.unpinned,E⟩
  |ret v=>obtain⟨x7,σ7,a,c,r7,E⟩:=E;exact⟨x7,σ7,a,c.unpinned,r7,E⟩
#where
abbrev R2:=V->V->Hp->wp
def OpR(X:Cx)(f:bF3)(r:R2):ç :=
  ∀(a : A0)(s : Shared)(σ : St)(H : Hp)(x y : V)(v u : Value)(Q : VK), cC4 -> bG6 -> cM0 -> r x y H Q ->
    cP3 (f v u) X a Q s
def UnR(X:Cx)(f:ax4)(r:V->Hp->wp):ç :=
  ∀(a : A0)(s : Shared)(σ : St)(H : Hp)(x : V)(v : Value)(Q : VK), cC4 -> bG6 -> r x H Q ->
    cP3 (f v) X a Q s
def JR(X:Cx)(f:Value)(r:η->Hp->wp):ç :=
  ∀(a : A0)(s : Shared)(σ : St)(H : Hp)(xs : η)(us : Đ)(Q : VK), cC4 -> aW3 -> r xs H Q ->
    cP3 (call f us) X a Q s
def Qtn(X:Cx)(r:V->Hp->θ cu6):ç :=
  ∀(O9 : A0)(s : Shared)(σ : St)(H : Hp)(x : V)(v : Value)(Q : cu6), ag -> bG6 -> r x H Q ->
    ϛ aR2 (TP X O9 σ Q) s
def tOp(r:R2)(a tb:TE):TE:=λ σ H Q=>a σ H λ x H1=>tb σ H1 λ y H2=>r x y H2 Q
def tUn(r:V->Hp->wp)(a:TE):TE:=λ σ H Q=>a σ H λ x H1=>r x H1 Q
def rI(C:Int->aJ2)(g:Int->Int->V):R2:=λ x y H Q=>∃i j,x=dz/\y=bI8/\C i j/\Q (g i j) H
def rI0(g:Int->Int->V):R2:=λ x y H Q=>∃i j,x=dz/\y=bI8/\Q (g i j) H
def rU(g:Int->V):V->Hp->wp:=λ x H Q=>∃i,x=dz/\Q (g i) H
section
variable{X:Cx}{a b c:Expr}{ta tb tc:TE}{pos:Pos}
def Lf(ha:co6)(z:cr b tb){R:V->V->eg}(I:ag)
  (h:ta σ H λ x i=>tb σ i λ y d=>R x y d) {Q:C7} {f:bF3}
  (hf:∀v u e x y d,ū d e->bG6->cM0->R x y d->ϛ (f v u) Q e) :
  cD4 a (λ v s₁=>cD4 b (λ u s₂=>ϛ (f v u) Q s₂) s₁) s:=by
 refine Ť (ha O9 s σ H _ I h) v G j;obtain⟨x,i,o,E,q1⟩:=j;refine Ť (z O9 G σ i _ o q1) u e j;obtain⟨y,d,r,F,C⟩:=j;exact hf v u e x y d r E F C
def QsO{d:Operator}{r:R2}(j:EA (fF d) r)(ha:co6)(i:cr b tb):cr (.BinOp a d b pos) (tOp r ta tb):=al1 e s H Q I h (wpAny_BinOp (Lf ha i I h λ v u C x y H2 I2 o z q=>j e C σ H2 x y v u Q I2 o z q))
def QsQ{e:UnaryOp}{r:V->Hp->wp}(i:UnR X (unaryOp e) r)(ha:co6):cr (.UnaryOp e a pos) (tUn r ta):=al1 d s H Q I h (UnaryOp_ (io (ha d s σ H _ I h) v j x H1 I1 r1 q1 (i d j σ H1 x v Q I1 r1 q1)))
def opI{f:bF3}{C:Int->aJ2}{g:Int->Int->Int}
  (rule:∀(i j:Int)(t u:Tok)(s:Shared)(Q:C7)(E:C7),C i j->Q (iA (g i j) s.toks) cp8->ψ (f bi1 (iA j u)) Q E s) :
  EA f (rI C λ i j=>Ì (g i j)):=by
 intro e s σ H x y v u Q I rx ry h;obtain⟨i,j,rfl,rfl,d,q⟩:=h;obtain⟨t,rfl⟩:=rx;obtain⟨t',rfl⟩:=ry;exact rule i j t t' s _ _ d (cT1 (g i j) H ϩ TL)
def R0{f:bF3}{g:Int->Int->Int}
  (rule:∀(i j:Int)(t u:Tok)(s:Shared)(Q:C7)(E:C7),Q (iA (g i j) s.toks) cp8->ψ (f bi1 (iA j u)) Q E s) :
  EA f (rI0 λ i j=>Ì (g i j)):=by
 intro d s σ H x y v u Q I rx ry h;obtain⟨i,j,rfl,rfl,q⟩:=h;obtain⟨t,rfl⟩:=rx;obtain⟨t',rfl⟩:=ry;exact rule i j t t' s _ _ (cT1 (g i j) H ϩ TL)
def DK{f:bF3}{g:Int->cb0}
  (rule:∀(i j:Int)(t u:Tok)(s:Shared)(Q:C7)(E:C7),Q (x5 (g i j)) s->ψ (f bi1 (iA j u)) Q E s) :
  EA f (rI0 λ i j=>Ζ (g i j)):=by
 intro d s σ H x y v u Q I rx ry h;obtain⟨i,j,rfl,rfl,q⟩:=h;obtain⟨t,rfl⟩:=rx;obtain⟨t',rfl⟩:=ry;exact rule i j t t' s _ _ (N3 (g i j) H I q)
def Qtj(i j:Int):ç:=0<j/\j<EB
def Qtk(i j:Int):ç:=0<=j/\bj2 j/\i.natAbs<2 ^ 64
def CMul(i j:Int):ç:=(-(2 ^ 64)<i/\i<2 ^ 64)∨(-(2 ^ 64)<j/\j<2 ^ 64)
def CMul.ok{i j:Int}(h:CMul i j):IntMulOk i j:=by
 rcases h with ⟨h1,h2⟩|⟨h1,h2⟩
 ·exact .of_left (intBits_le_64 h1 h2)
 ·exact .of_right (intBits_le_64 h1 h2)
def QqD:EA ak5 (rI0 λ i j=>Ì (i+j)):=R0 (af0 (add_int q))
def QqI:EA (fF .Sub) (rI0 λ i j=>Ì (i-j)):=R0 (af0 (sub_int q))
def QqG:EA ak6 (rI CMul λ i j=>Ì (i * j)):=cU2 d q (mul_int q d.ok)
def Qn5:EA (fF .FloorDiv) (rI Qtj λ i j=>Ì (i / j)):=opI λ i j _ _ _ _ _ d q=>by have h1:cB1<j:=d.1;have h2:j<EB:=d.2;exact floordiv_int À (Æ (bM8 i) q) (ë (PyProof.noPylong_small À))
def QqF:EA (fF .Mod) (rI (λ_ j=>0<j) λ i j=>Ì (i % j)):=opI λ i j _ _ _ _ _ d q=>by have h1:cB1<j:=d;exact mod_int' À (Æ (Int.fmod_eq_emod_of_nonneg i À) q)
def QqH:EA (fF .Pow) (rI Qtk λ i j=>Ì (i ^ j.toNat)):=cU2 d q (pow_int_small d.1 d.2.1 d.2.2 q)
def unI{f:ax4}{g:Int->Int}
  (rule:∀(i:Int)(t:Tok)(s:Shared)(Q:C7)(E:C7),Q (iA (g i) s.toks) cp8->ψ (f bi1) Q E s) :
  UnR X f (rU λ i=>Ì (g i)):=by
 intro d s σ H x v Q I rx h;obtain⟨i,rfl,q⟩:=h;obtain⟨t,rfl⟩:=rx;exact rule i t s _ _ (cT1 (g i) H ϩ TL)
def QrI:UnR X (unaryOp .USub) (rU λ i=>Ì (-i)):=unI λ_ _ _ _ _ q=>neg_int q
#where
section
variable{X:Cx}{a b c:Expr}{ta tb tc:TE}{pos:Pos}
def Wq{Q:VK}{k d:Bool}(I:ag)(q:Q (Ζ k) H)(e:k=d):EP X O9 σ Q (x5 d) s:=cU6 e (N3 k H I q)
def QsG:aI3 .Lt (rI0 λ i j=>dd1 i j):=DK (af0 (lt_int q))
def QsF:aI3 .LtE (rI0 λ i j=>Ζ (Ib i j)):=DK (af0 (le_int q))
def QsE:aI3 .Gt (rI0 λ i j=>dd1 j i):=DK (af0 (gt_int q))
def QsD:aI3 .GtE (rI0 λ i j=>Ζ (Ib j i)):=DK (af0 (ge_int q))
def QqE:aI3 .Is (λ x y H Q=>y=Ę/\Q (Ζ (FY x Ę)) H):=by
 intro d s σ H x y v u Q I rx ry h;obtain⟨rfl,q⟩:=h;cases ry;refine is_none_gen (Wq I q ?_);cases x<;>first
  | (cases rx;rfl)
  | (obtain⟨t,rfl⟩:=rx;rfl)
def Qn7:aI3 .IsNot (λ x y H Q=>y=Ę/\Q (cC9 (FY x Ę)) H):=by
 intro d s σ H x y v u Q I rx ry h;obtain⟨rfl,q⟩:=h;cases ry;refine isnot_none_gen (Wq I q ?_);cases x<;>first
  | (cases rx;rfl)
  | (obtain⟨t,rfl⟩:=rx;rfl)
def QD(b:Expr){d:CmpOp}(h:d≠.In:=by decide)(h2:d≠.NotIn:=by decide):wJ d b:=by
 have e1:l8 d CmpOp.In:=L8 d rfl h
 have e2:l8 d CmpOp.NotIn:=L8 d rfl h2
 cases b<;>simp[behindInMarks,e1,e2]
def Qoc{d:CmpOp}{r:R2}(o:aI3 d r)(ha:co6)(i:cr b tb)(j:wJ d b):cr (co9 a [d] [b]) (tOp r ta tb):=al1 e s H Q I h (wpAny_Compare1 (Lf ha i I h λ v u E x y H2 I2 z C q=>o e E σ H2 x y v u Q I2 z C q) j)
def Sy(t:TE):TT:=λ σ H Q=>t σ H λ x H'=>∃k,x=Ζ k/\Q k H'
def Qot{i:CmpOp}{r:R2}(C:aI3 i r)(ha:co6)(j:cr b tb)(o:wJ i b):PT X (co9 a [i] [b]) (Sy (tOp r ta tb)):=by
 intro d s σ H Q I h;refine wpAny_isTrue_Compare1 (thn (ha d s σ H _ I h) λ v E ⟨x,H1,I1,r1,q1⟩=>thn (j d E σ H1 _ I1 q1) λ u F ⟨y,H2,I2,r2,q2⟩ =>
  thn (C d F σ H2 x y v u _ I2 r1 r2 q2) λ c G ⟨z,H3,I3,r3,k,e,q3⟩=>?_) o
 subst e;cases r3;exact py ⟨H3,I3,q3⟩
def TX(r d:R2)(ta tb tc:TE):TE:=λ σ H Q=>ta σ H λ x H1=>tb σ H1 λ y H2=>r x y H2 λ z H3=>∃k,z=Ζ k /\
 π k (tc σ H3 λ w' H4=>d y w' H4 Q) (Q Θ H3)
def QlL{C i:CmpOp}{r E:R2}(U:aI3 C r)(o:aI3 i E)(ha:co6)(O:cr b tb)(P:cr c tc)
    (hm:ć (lastMarks [C,i] [b,c]):=by with_unfolding_all rfl):PT X (co9 a [C,i] [b,c]) (Sy (TX r E ta tb tc)):=by
  intro j s σ H Q I h;refine isTrue_chain (thn (ha j s σ H _ I h) λ v s1 ⟨x,H1,I1,r1,q1⟩=>test_link (thn (O j s1 σ H1 _ I1 q1) λ u s2 ⟨y,H2,I2,r2,q2⟩ =>
    thn (U j s2 σ H2 x y v u _ I2 r1 r2 q2) λ d s3 ⟨z,H3,I3,r3,k,e,q3⟩=>?_)) hm
  subst e;cases r3;refine py ?_;cases k with
  |false=>obtain⟨k',L,Z⟩:=q3;cases L;exact ite_ff ⟨H3,I3,Z⟩
  |true=>refine ite_tt (test_last (io (P j s3 σ H3 _ I3 q3) w' s4 z' H4 I4 r4 q4 (Ť (o j s4 σ H4 y z' u w' _ I4 r2 r4 q4) d' s5 J)));obtain⟨z2,F,G,r5,k2,e2,q5⟩:=J;subst e2;cases r5;exact py ⟨F,G,q5⟩
def Li(K:Aa)(x:V)(H:Hp)(k:Bool):ç :=
 match x with
 |.non=>ć k
 |.bl b=>k=b
 |.int i=>k=(i != 0)
 |.str y=>Ă ⇑y/\k=((aB5 y) != 0)
 |.byt y=>Ă y.size/\k=((Î y.size) != 0)
 |.ref p=>(∃xs,Pm K p/\k=as8)∨(∃xs,ct4 p/\k=as8)∨∃kvs,H p>=(.dK kvs)/\k=bT4
 |_=>False
def QfW{κ:rV}{kvs:bR2}{vs:cn1}(r:aK1):i7 vs.isEmpty=bT4:=fI r
def uy{xs:η}{d:Đ}(r:az0 d):i7 d.toArray.isEmpty=as8:=by cases r<;>simp
def uG:(sizeLine:Nat)<2 ^ 63:=cT4 sizeLine_eq
def QrG:Qtn X (λ x H Q=>∃k,Li X.K x H k/\Q k H):=by
  intro C s σ H x v Q I rx h;obtain⟨k,e,q⟩:=h;have hl:=uG;have E:sizeLine=16777216:=sizeLine_eq;cases x with
  |non=>cases rx;have d:ć k:=e;subst d;exact truthy_none ⟨H,I,q⟩
  |bl b=>cases rx;have d:k=b:=e;subst d;exact py ⟨H,I,q⟩
  |int i=>obtain⟨t,rfl⟩:=rx;have d:k=(i != 0):=e;subst d;exact PySem.P.truthy_int ⟨H,I,q⟩
  |str y=>obtain⟨t,rfl⟩:=rx;obtain⟨z,d⟩:Ă ⇑y/\k=((aB5 y) != 0):=e;subst d;exact PySem.P.truthy_str À ⟨H,ϩ,q⟩
  |byt y=>obtain⟨t,rfl⟩:=rx;obtain⟨z,d⟩:Ă y.size/\k=((Î y.size) != 0):=e;subst d;exact PySem.W.truthy_bytes À ⟨H,ϩ,q⟩
  |ref p =>
    cases rx;have d:(∃xs,Pm X.K p/\k=as8)∨(∃xs,Da X.K p/\k=as8)∨∃kvs,H p>=(.dK kvs)/\k=bT4:=e;rcases d with ⟨xs,hx,d⟩|⟨xs,hx,d⟩|⟨kvs,hx,d⟩
    . subst d
      obtain⟨o,r,pl,hz⟩:=wy hx;have j:=lP;exact wpAny_truthy_list pl.isList bY1 ⟨H,ϩ,Æ (uy r) q⟩
    . subst d
      obtain⟨o,r,pl,hz⟩:=d4 hx;have j:=lP;exact truthy_tuple pl bY1 ⟨H,ϩ,Æ (uy r) q⟩
    . subst d
      obtain⟨hz,u,vs,r,m⟩:Ă dQ/\IH p/\∃vs,aK1/\s.heap.DictOf bi7 p vs:=I.hok p _ hx;have j:dQ=aE1:=ad1;exact wpAny_truthy_dict u m À ⟨H,ϩ,Æ (QfW r) q⟩
  |_=>exact ba0 e
def QlN(ha:co6)(e:∀whole,cn0 a=bk1 v whole a.pos (OE [v] aR2)):
  PT X a (λ σ H Q=>ta σ H λ x H'=>∃k,Li X.K x H' k/\Q k H'):=by
 intro d s σ H Q I h;exact isTrue_plain (io (ha d s σ H _ I h) v i x H1 I1 r1 q1 (QrG d i σ H1 x v Q I1 r1 q1)) (e _)
def qT{us:Đ}(r:gd [x]):∃u,us=[u]/\bP x:=by
 cases r with
 |cons d e=>cases e;exact Ņ _ d
def kI{us:Đ}(r:gd [x,y]):∃u w',us=[u,w']/\bP x/\RelV y w':=by
  cases r with
  |cons d e =>
    cases e with
    |cons i j=>cases j;exact t6 _ _ d i
def Qj2:IZ X "abs" (λ xs H Q=>∃i,xs=[dz]/\Q ↥(É (i<0) (-i) i) H):=by intro d s σ H xs us Q I r h;obtain⟨i,rfl,q⟩:=h;obtain⟨u,rfl,t,rfl⟩:=qT r;exact call_abs_int λ u tk=>cT1 (É (i<0) (-i) i) H ϩ TL
def Qir(e:aT):IZ X "max" (λ xs H Q=>∃i j,xs=[dz,bI8]/\Q ↥(É (j > i) j i) H):=by
 intro o s σ H xs us Q I r h;obtain⟨i,j,rfl,q⟩:=h;obtain⟨u,w',rfl,⟨t,rfl⟩,⟨t',rfl⟩⟩:=kI r;refine max_two_ints (Of e) λ h' tk k=>cT0 _ H (I.kept k) ?_;by_cases d:j > i
 ·rw[Cy d,Cy d];exact TL
 ·rw[Cw d,Cw d];exact TL
def Qis(e:aT):IZ X "min" (λ xs H Q=>∃i j,xs=[dz,bI8]/\Q ↥(É (j<i) j i) H):=by
 intro o s σ H xs us Q I r h;obtain⟨i,j,rfl,q⟩:=h;obtain⟨u,w',rfl,⟨t,rfl⟩,⟨t',rfl⟩⟩:=kI r;refine min_two_ints (Of e) λ h' tk k=>cT0 _ H (I.kept k) ?_;by_cases d:j<i
 ·rw[Cy d,Cy d];exact TL
 ·rw[Cw d,Cw d];exact TL
#where
structure ObjM(h:Heap)(x dx C:Addr)(mA:C9):ç where
 obj:Ϧ x (bw0 dx)
 ns:h.Ns1 dx mA
 ne:dx≠x
def Qi0{h:Heap}{d:Addr}{i:C9}(n:h.Ns1 d i):∃od,Ϧ d od/\∀name,ba5 od>=(i name):=by
 obtain⟨o,es,C,v,hd,r,_,u⟩:=n;refine IX v (bv1 name);have e:=u name;unfold nsFind findBy at e;rw[<- Array.find?_toList]at e;unfold PySem.W.lookIn;rw[hd];dsimp only;split
 ·rename_i y q;rw[q]at e;exact dg1 e
 ·rename_i q;rw[q]at e;have a:ć (es.toList.any (·.refKey)):=by rw[List.any_eq_false];intro y x;obtain⟨z,t,c⟩:=r y (Array.mem_toList_iff.mp x);simp[DictEntry.refKey,c]
  have j:¬ œ (es.toList.any (·.refKey)):=Æ a Bt
  rw[Cw j];exact dg1 e
def ObjM.look{x a C:Addr}{c:C9}(I:ObjM h x a C c):∃od,PySem.W.InstAt h x (bw0 a) C (í od)/\∀name,ba5 od>=(c name) :=
 let ⟨od,d,hl⟩:=Qi0 I.ns
 ⟨od,fh I.obj rfl d,hl⟩
section
variable{prog:Program}{w:World}{A:Around}{E:C7}{s:Shared}{K:Aa}{x dx C f:Addr}{mA:C9}{name:Str}{v:Value}
def QnA{a:Bool}{Q:C7}(X:ap4)(I:ObjM s.heap x dx C mA)(c:Pc K C name)(hh:ac9 K C)
  (ha:cm K C name>=none) (hv:mA name>=v) (hv':œ (PySem.W.handedIn v)) (h:Q v cp8) :
  rp w A (getAttr ↑x name a) Q E s:=by
 obtain⟨od,J,hl⟩:=I.look;exact PySem.W.get_value X J (ba6 c).1 (PySem.W.findObj_own hh ha rfl (ϓ hl hv)) hv' h
def QkE{pl:aR1}{Q:Value × Đ->ϲ}(X:ap4)(I:ObjM s.heap x dx C mA)(a:Pc K C name)
  (hf:cm K C name>=aX8) (ht:ae4 K cv4) (hv:Ν (mA name)) (h:Q (æ f,[æ x]) s) :
  rp w A (af8 ↑x name) Q E s:=by
 obtain⟨od,J,hl⟩:=I.look;exact PySem.W.method_fn X J (ba6 a).1 (ba6 a).2 hf (bk7 ht) (bg8 (tP (ba5 od) cS7>=false) hl hv) h
def QoM{ns:ő}{Q:Unit->ϲ}(X:ap4)(I:ObjM s.heap x dx C mA)
  (hs:cm K C cd9 = í (í ah7)) (hp:aV5 K C) (ht:PySem.W.takerIn K C name>=none) (hh:ac9 K C)
  (hw:PySem.Within mA ns) (hsz:Ă F8)
  (h:∀h',ObjM h' x dx C (λ y=>CY y name Oy (mA y))->dg0 dx h'->Q () (aH8 (bk3 2))) :
  rp w A (setAttr ↑x name v) Q E s:=by
 obtain⟨od,J,hl⟩:=I.look;refine PySem.W.set_plain X J hs (PySem.W.osa_open (s:=cp8) (r:=none) X J hp ht (bv1 b));obtain⟨F,z,i⟩:=PySem.W.any_some hh;have hx:č x ⟨æ C,í dx,.plain,#[]⟩:=I.obj;refine Cv (Cz (aK9 (wpAny_loadPart hx (Cv (PySem.W.Looks.here (s:=cp8) (PySem.W.looks_clsIn X z) ?_)))));rw[i];refine Cz (a:=í dx) (Cv (Cz aR4));refine wpAny_nsSet1 (s:=cp8) I.ns (ĵ h' c d);obtain⟨G,u,o,j,hdD,e⟩:=c.count (PySem.Within.cons name v hw);refine Cv (wpAny_lookBehind j (Æ hdD (pastItsLine_dict (Bh e (ĸ A8)))) ?_);exact Cz (h _ ⟨à (d.2 _ (Ł I.ne)) I.obj,c,I.ne⟩ d)
def Qk4{R:Result->ϲ}{vs:Đ}{a:as5}(X:ap4)(c:bp4 K C)
  (hi:cm K C ac6 = í aX8) (hf:PySem.W.typeIn K cv4>=(į "function"))
  (h:codeAny aJ6 (aR8 ad6 (İ (æ C::vs) a)) (.call cv4 (İ (æ ET::vs) a)) (PySem.W.InitBack ET R)
   (bq1 ((ly).push (mh C)))) :
  codeAny aJ6 A (.call ↑C (İ vs a)) R s:=by
 obtain⟨hh,g,d,t,os⟩:=s;exact PySem.W.make_core (PySem.W.makes_of X c) (PySem.W.looks_findIn X hi) (λ self=>PySem.W.bind_fn X self hf) ĭ h
#where
def zS(f:Str)(v:V):dc3->dc3
 | []=>[(f,v)]
 | (g,x)::r=>CY g f ((g,v)::r) ((g,x)::zS f v r)
def Gq(f g:Str)(v:V):∀fs:dc3,(zS f v fs).lookup g=CY g f Oy (my g)
  | []=>by
    show List.lookup g [(f,v)]=_;by_cases h:g=f
    . have a:œ (g==f):=ab5 h
      simp only[List.lookup,a,cv1]
    . have a:l8 g f:=eW h
      simp only[List.lookup,a,Cw h]
  | (k,x)::r=>by
    have d:=Gq f g v r;rw[nv (zS f v ((k,x)::r)=CY k f ((k,v)::r) ((k,x)::zS f v r))];by_cases c:k=f
    . rw[cS3]
      by_cases h:g=k
      . have a:œ (g==k):=ab5 h
        simp only[List.lookup,a,Cy (h.trans c)]
      . have a:l8 g k:=eW h
        simp only[List.lookup,a,Cw (λ e:g=f=>h (cU8 c.symm))]
    . rw[Cw c]
      by_cases h:g=k
      . have a:œ (g==k):=ab5 h
        simp only[List.lookup,a,Cw (λ e:g=f=>c (h.symm.trans e))]
      . have a:l8 g k:=eW h
        simp only[List.lookup,a];exact d
def KM(f:Str)(v:V):∀fs:dc3,f∈cE0 (zS f v fs)/\∀g,g∈ad3->g∈cE0 (zS f v fs)
  | []=>İ (Ģ zS) (λ g h=>iS h)
  | (k,x)::r=>by
    obtain⟨c,d⟩:=KM f v r;rw[nv (zS f v ((k,x)::r)=CY k f ((k,v)::r) ((k,x)::zS f v r))];by_cases a:k=f
    . rw[Cy a]
      subst a;exact İ Ê (λ g h=>Ë h)
    . rw[Cw a]
      refine İ ?_ (ż g h)
      . rw[A9]
        exact cT2 c
      . rw[A9]at h ⊢
        rcases pw h with e|e
        . exact Bi.mpr (ë e)
        . exact cT2 (d g e)
def Gp(f:Str)(v:V):∀fs:dc3,⇑(zS f v fs)<=aJ8+1
  | []=>Ģ zS
  | (k,x)::r=>by
    have c:=Gp f v r;rw[nv (zS f v ((k,x)::r)=CY k f ((k,v)::r) ((k,x)::zS f v r))];by_cases a:k=f
    . rw[Cy a,A8,A8];lia
    . rw[Cw a,A8,A8];lia
def RelO.some_of{o:mM}(r:RelO Oy o):∃u,o>=u/\dd8:=by
 cases o with
 |none=>exact ba0 r
 |some u=>exact Ņ u r
def RelO.none_of{o:mM}(r:RelO none o):Ν o:=by
 cases o with
 |none=>rfl
 |some u=>exact ba0 r
def QiN(r:dd8):œ (PySem.W.handedIn u):=by
 cases v with
 |non=>cases é (u=Value.none) r;rfl
 |bl b=>cases é (u=bv4 b) r;rfl
 |int i=>obtain⟨t,e⟩:=é (∃t,u=aZ4 t) r;cases e;rfl
 |str x=>obtain⟨t,e⟩:=é (∃t,u=cc2 t) r;cases e;rfl
 |byt b=>obtain⟨t,e⟩:=é (∃t,u=Value.bytes b t) r;cases e;rfl
 |flt b=>obtain⟨t,e⟩:=é (∃t,u=Value.float b t) r;cases e;rfl
 |ref a=>cases é (u=Ϗ a) r;rfl
 |ty n=>cases é (u=Nl n) r;rfl
section
variable{P:Program}{w:World}{H H':Hp}{h h':Heap}{a C dx:Addr}{fs fs':dc3}
def Nz(hok:bM3)(e:IY>=cd4):∃c,ObjM h a dx C c/\(∀f,RelO cl6 (c f))/\PySem.Within c (ad3)/\aJ8<=fE/\H dx>=(.own a):=by obtain⟨d,z,ne,ob,c,n,r,q⟩:=é (aK2 w H h a cd4) (hok a _ e);exact⟨c,⟨ob,n,ne⟩,r,q,z,d⟩
#where
structure Cls(K:Aa)(C:Addr):ç where
 pg:Pc K C Str.empty
 hd:ac9 K C
 po:aV5 K C
 sa:cm K C cd9 = í (í ah7)
def Cls.get{K:Aa}{C:Addr}(c:di3)(f:Str):Pc K C f:=c.pg
def NoAttr(K:Aa)(C:Addr)(f:Str):ç:=cm K C f>=none
def NoAttr.taker{K:Aa}{C:Addr}{f:Str}(n:bM9 K f):PySem.W.takerIn K C f>=none:=õ PySem.W.takerIn (é (cm K C f>=none) n)
structure p7(K:Aa)(C:Addr)(m:Str)(f:Addr):ç where
 at_:cm K C m>=aX8
 fn:ae4 K cv4
 kp:cM1 K
section
variable{X:Cx}{O9:C8}{σ:St}{H:Hp}{s:Shared}{a C dx:Addr}{fs:dc3}{f:Str}{v:V}{A:Around}{E:C7}
def ub{b:Bool}{Q:C7}(I:ag)(e:IY>=cd4)(c:cp1)(n:bM9 X.K f)(l:cl6>=v)
  (h:∀u s',γ s'->dd8->Q u s'):Ŷ A (getAttr ş f b) Q E s:=by
 obtain⟨j,O,r,_,_,_⟩:=Nz I.hok e;obtain⟨u,i,d⟩:=RelO.some_of (v:=v) (o:=j f) (ð l (r f));exact QnA I.kIn O (c.get f) c.hd n i (QiN d) (h u _ ϩ d)
def VW{m:Str}{g:Addr}{pl:aR1}{Q:Value × Đ->ϲ}(I:ag)(e:IY>=cd4)(c:cp1)(k:p7 X.K C m g)(l:Ν cM4)
  (h:Q (æ g,cw3) s):Ŷ A (af8 ş m) Q E s:=by
 obtain⟨d,O,r,_,_,_⟩:=Nz I.hok e;have hn:Ν (d m):=RelO.none_of (ð l (r m));exact QkE I.kIn O (c.get m) k.at_ k.fn hn h
def kj{Q:Unit->ϲ}(I:ag)(e:IY>=cd4)(c:cp1)(n:bM9 X.K f)(hl:aJ8<fE)(L:cM0)
  (h:∀s',ū (cd3 dx (zS f y fs)) s'->Q () s'):Ŷ A (setAttr ş f u) Q E s:=by
 obtain⟨i,O,r,j,_,d⟩:=Nz I.hok e;have hz:Ă ⇑(ad3):=an9 Bm sizeLine_eq
 refine QoM I.kIn O c.sa c.po n.taker c.hd j hz λ h' O' P=>h _ ?_;have hd:∃o,ž dx o:=let ⟨o,_,_,F,_⟩:=O'.ns;İ o F;refine I.write (x:=a) (e:=dx) (bo2 e) (Ĉ d) (λ b q G z=>à (P.2 b G) z) hd ?_;refine⟨fP O.ne d,?_,O.ne,O'.obj,_,O'.ns,bv1 g,ż g J⟩
 ·have:=Gp f y fs;lia
 ·show RelO ((zS f y fs).lookup g) (bF2 g f u (i g));rw[Gq];by_cases q:g=f
  ·rw[Cy q,Cy q];exact L
  ·rw[Cw q,Cw q];exact r g
 ·by_cases q:g=f
  ·rw[q];exact(KM f y fs).1
  ·refine(KM f y fs).2 g (j g λ z=>J ?_);show Ν (bF2 g f u (i g));rw[Cw q];exact z
def Inv.made(I:ag):Inv X O9 σ (cd1 (am9 (.own ET)) ET s.heap.objs.size [])
  (bq1 ((ly).push (mh C))):=by
 have e1:aC9 (ly).get?>=PySem.W.emptyDict:=tq s.heap;have e2:((ly).push (mh C)).get? ET>=(mh C):=by
  have:=Au ly (o:=mh C) rfl
  rwa [Cc]at this
 have e3:Th (ly).Ns aa9:=⟨PySem.W.emptyDict,#[],_,e1,rfl,(λ e d=>Ĝ d Ê),au4⟩;have c:=I.laid (a:=s.heap.objs.size) (o:=.own ET) (h':=ly) (t':=s.toks) (λ b u q=>om q) đ (İ _ e1);refine c.laid (a:=ET) (o:=cd0 s.heap.objs.size []) (t':=s.toks) (λ b u q=>om q) (aR9 (Cc _ _)) ?_;have ne:bj1 ET:=Bc (Cn _);refine⟨ϓ (Q0 ne) Q9,up,ne,e2,aa9,(Heap.Ns1.of_empty e3).at λ o q=>om q,λ_=>True.intro,λ y i=>av9 i⟩
def Qm4{prog:Program}{w:World}{f:Str}{pos:Pos}{s:Shared}{Q:C7}(c:attributeBase e f env (bX9 e)=bX9 e)
  (h:rp w A (bX9 e) (λ o s₁=>rp w A (getAttr o f true) Q E s₁) E s):rp w A (bX9 (ϒ e f pos)) Q E s :=
 Attribute_any_ h (ϓ arm_eval_Attribute c)
#where
def QtX(K:Aa)(d:TE)(f:Str):TE:=λ σ H Q=>d σ H λ x H1=>∃a C c fs v,x=ν/\H1 a>=(cd2 c)/\di3/\bM9 K f/\cl6>=v/\Q v H1
def QtQ(K:Aa)(d e:TE)(f:Str):TS:=λ D σ H=>e σ H λ y H1=>d σ H1 λ x H2=>∃a C c fs,x=ν/\H2 a>=(cd2 c)/\di3/\bM9 K f/\aJ8<fE /\
 cT6 (cd1 H2 a c (zS f y fs))
def Sg(X:Cx)(c:Operator)(rd:V->V->Hp->wp):ç :=
 ∀(a:C8)(s:Shared)(σ:St)(H:Hp)(x y:V)(u v:Value)(Q:VK),cC4->bP x->aD2 y->rd x y H Q->cP3 (inplaceOp c u v) X a Q s
def QoH(K:Aa)(j o:TE)(rd:V->V->Hp->wp)(f:Str):TS:=λ D σ H=>j σ H λ x H1=>∃a C i fs v,x=ν/\H1 a>=(cd2 i)/\di3/\bM9 K f/\cl6>=v /\
 o σ H1 λ y H2=>rd v y H2 λ z e=>∃d c,e a>=(cd0 d c)/\⇑c<fE/\cT6 (cd1 e a d (zS f z c))
section
variable{X:Cx}{o e value:Expr}{f:Str}{pos pos' tpos:Pos}{ta tv:TE}
def QqT(F:bq4 e)(E:Lc e f (ä e)=ä e):cr (ϒ e f pos) (QtX X.K ta f):=by intro r s σ H Q I h;refine Qm4 E (Ť (F r s σ H _ I h) u O y);obtain⟨x,d,i,J,a,C,L,fs,v,ex,z,c,n,l,q⟩:=y;subst ex;obtain rfl:u=Ϗ a:=J;exact ub i z c n l λ U P j G=>cT0 v d j G
def Qra(ha:bq4 o)(hv:cr value tv)(z:ax2 value (í (ϒ o f pos'))=TH):PS X (di8 [ϒ o f pos'] value) (QtQ X.K ta tv f):=by intro d s σ H D I h;refine plainObj_wpAny_Assign_Attribute (io (hv d s σ H _ I h) u J y H1 I1 ry q (Ť (ha d J σ H1 _ I1 q) E P r)) z;obtain⟨x,L,i,G,a,C,O,fs,ex,v,c,n,l,F⟩:=r;subst ex;obtain rfl:E=Ϗ a:=G;exact kj i v c n l ry λ Q j=>⟨σ,_,j,F⟩
def Qjg{E:Operator}{rd:V->V->Hp->wp}(ha:bq4 o)(hv:cr value tv)(r:Sg X E rd):PS X (.AugAssign (ϒ o f tpos) E value pos) (QoH X.K ta tv rd f):=by intro d s σ H D I h;refine wpAny_AugAssign_AttributeAny (Ť (ha d s σ H _ I h) Z s1 i);obtain⟨x,F,G,rx,a,C,dx,fs,v,ex,P,c,n,l,q⟩:=i;subst ex;obtain rfl:Z=Ϗ a:=rx;refine ub G P c n l λ u s2 I2 ru=>io (hv d s2 σ F _ I2 q) w3 s3 y H2 I3 ry q3 (Ť (r d s3 σ H2 v y u w3 _ I3 ru ry q3) w4 s4 i);obtain⟨z,H3,J,rz,O,Q,j,U,q4⟩:=i;exact kj J j c n U rz λ s5 L=>⟨σ,_,L,q4⟩
def QtI:V->V->Hp->wp:=λ x y H Q=>∃i j,x=dz/\y=bI8/\Q ↥(i+j) H
def Qqc:Sg X .Add QtI:=by rintro a s σ H x y u v Q I rx ry ⟨i,j,rfl,rfl,q⟩;obtain⟨t,rfl⟩:=é (∃t,u=aZ4 t) rx;obtain⟨t',rfl⟩:=é (∃t',v=Value.int j t') ry;exact PyProof.Rows.iadd_int (cT1 (i+j) H ϩ TL)
def Qpl{pl:aR1}{m:Str}{d:Pos}{args:Α}{Q:C7}(E:cr e te)(I:ag)
  (h:te σ H λ x j=>∃a C v fs g,x=ν/\j a>=(cd2 v)/\cp1/\p7 X.K C m g/\Ν cM4 /\
   ∀i,ū j i->ϛ (aY1 pos ↑g cw3 (NS args) pos []) Q i)
  (ht:ä (ax9 e m d args [])=(do
   let ov <- ä e
   standAt d.atName
   let (f,first) <- OE [ov] (af8 ov m)
   aY1 pos f first (NS args) pos [])) :
  cD4 (ax9 e m d args []) Q s:=by
 refine aE8 pl (Ť (E O9 s σ H _ I h) u i y) ht;obtain⟨x,j,r,F,a,C,v,fs,g,ex,z,c,k,l,q⟩:=y;subst ex;obtain rfl:u=Ϗ a:=F;exact VW r z c k l (q i r)
#where
section
variable{X:Cx}{O9:C8}{σ:St}{H:Hp}{s:Shared}{A:Around}{E:C7}{Q:C7}{c:Value}{b:Bool}
#where
structure Room(k:Nat)(A:Around):ç where
 hd:lI
 dp:A.depth+3 * k+5<recursionLimit
 un:aR6 (16 * k)+200<cLine
def Room.mono{j k:Nat}(r:ao0 A)(h:j<=k):Room j A:=⟨r.hd,ī r.dp,ī r.un⟩
def Room.deeper{k:Nat}{A:Around}(r:Room (k+1) A)(env:Env):so k env :=
 ⟨r.hd,bN0 r.dp (A.depth+1+3 * k+5<_),bN0 r.un (aR6 3+16 * k+200<_)⟩
def Qf4{A:Around}{C:Addr}{a:as5}:(aR8 ad6 (İ (æ C::us) a)).depth=A.depth+1:=by
 first|rfl|simp[Around.under,Code.weight,Code.isCreation,Code.isGuard,Code.isCaller,Code.frames,Code.isFrame,guardIds]
def Qf5{A:Around}{C:Addr}{a:as5}:(aR8 ad6 (İ (æ C::us) a)).units=aR6 1:=by
 first|rfl|simp[Around.under,Code.cUnits,Code.frames,Code.isFrame]
def Room.make{k:Nat}{A:Around}(r:Room (k+1) A)(C:Addr)(us:Đ)(a:as5):ao0 (aR8 ad6 (İ (æ C::us) a)) :=
 ⟨r.hd,by have:=r.dp;rw[Qf4];lia,by have:=r.un;rw[Qf5];lia⟩
def Room.depth{k:Nat}{A:Around}(r:ao0 A):A.depth<recursionLimit:=ī r.dp
def Room.units{k:Nat}{A:Around}(r:ao0 A):aR6 64<cLine:=ī r.un
def RM:TA:=λ_ H Q=>Q [] H
def Qs8(a:TE)(c:TA):TA:=λ σ H Q=>a σ H λ x H1=>c σ H1 λ xs H2=>Q (x::xs) H2
section
variable{X:Cx}{e:Expr}{es:Α}{te:TE}{t:TA}{pos:Pos}
def pa_nil:PA X [] RM:=λ_ _ _ _ H Q I h=>au5 ⟨[],H,I,lS,h⟩
def XQ(ha:cr e te)(i:PA X es t)(j:cB4=cs4::bo6:=by rfl):PA X (e::es) (Qs8 te t):=by intro pos O9 s σ H Q I h;rw[j];show Ş _ (spliced (cs4::at0)) _ _ s;refine at3 (Ť (ha O9 s σ H _ I h) u r d);obtain⟨x,a,c,o,q1⟩:=d;exact io (i pos O9 r σ a _ c q1) us v xs H2 I2 r2 q2 ⟨x::xs,H2,I2,ϗ o r2,q2⟩
def Qt6(t:TA):TE:=λ σ H Q=>t σ H λ xs a=>db9/\∀p,Ν (a p)->cI1 (upd a p IT)
def Qt0(t:TA):TE:=λ σ H Q=>t σ H λ xs a=>db9/\∀p,Ν (a p)->cI1 (upd a p db3)
def T9{x1}(h:PA X es t):cr (cv5 es x1 pos) (Qt6 t):=by intro c s σ H Q I hq;refine wpAny_Tuple_spliced (thn (h pos c s σ H _ I hq) λ us a ⟨xs,H1,I1,r,z,q⟩=>CA (ð lP z));have hf:Ν cq7:=bk8;refine dr aB6 (upd H1 a.heap.objs.size IT) (I1.laid (t':=a.toks) (λ b u e=>TU) đ ?_) (q _ hf);exact⟨z,us,r,t6 _ L7 _ rfl⟩
def Mx(h:PA X es t):cr (.List es pos) (Qt0 t):=by intro c s σ H Q I hq;refine wpAny_List_spliced (thn (h pos c s σ H _ I hq) λ us a ⟨xs,H1,I1,r,z,q⟩=>CA (ð lP z));have hf:Ν cq7:=bk8;refine dr aB6 (upd H1 a.heap.objs.size db3) (I1.laid (t':=a.toks) (λ b u e=>TU) đ ?_) (q _ hf);exact⟨z,us,0,r,L7⟩
#where
abbrev Sp:=η->Hp->VK->θ XK
abbrev CXT:=IR->Hp->Shared->XK->FO ϲ
structure Env0(P:Program)(w:World)(K:Aa)(mg:C9)(O8:Heap)(A:Around)(outer:IR)(s:Shared)(H:Hp):ç where
 frames:A.frames>=outer
 mod:Mod K mg O8
 bs:∀b o,O8.get? b>=o->cj9/\ck6
 bsz:O8.objs.size<=s.heap.objs.size
 funs:s.heap.FunFrames O8 outer
 frf:∀b∈frs outer,ck6
 hok:bM2 s.heap
 bare:AllBare s.gens
def CE(outer:IR)(P:Program)(w:World)(H:Hp)(s:Shared)(Q:VK)(u:Value)(s':Shared):ç :=
 ∃v H',s'.os=s.os/\az4/\Un (frs outer) [] H H' s.heap s'.heap/\bM1 H' s'.heap/\dd8/\Q v H'
def CR(CX:CXT)(outer:IR)(P:Program)(w:World)(H:Hp)(s:Shared)(Q:VK)(E:XK)(r:Result)(s':Shared):ç :=
 match r with
 |.ok (.ret u)=>CE outer P w H s Q u s'
 |.ok _=>False
 |.error e=>CX outer H s E e s'
structure xQ(P:Program)(w:World)(K:Aa)(mg:C9)(O8:Heap)(CX:CXT)(k:Nat)(f:Addr)(fd:FuncData)(ps:ő)(sp:Sp):ç where
 len:∀vs H Q E,sp vs H Q E->aE1=a0
 run:∀(A:Around)(outer:IR)(s:Shared)(H:Hp)(args:Args)(us:Đ)(vs:η)(Q:VK)(E:XK),ao0 A->Env0 P w K mg O8 A outer s H->bY2 s args D1->gd vs->sp vs H Q E ->
  codeAny (model P w) A (.call cv4 args) (CR CX outer P w H s Q E) s
def Env0.make{w:World}{K:Aa}(e:Env0 P w K mg O8 A outer s H)(C:Addr)(us:Đ)(a:as5):
  Env0 P w K mg O8 (aR8 ad6 (İ (æ C::us) a)) outer s H:=⟨by first|exact e.frames|(simpa [Around.under,Code.envs,Code.isFrame,pushEnvs]using e.frames),e.mod,e.bs,e.bsz,e.funs,e.frf,e.hok,e.bare⟩
section
variable{X:Cx}{O9:C8}{σ:St}{H:Hp}{s s':Shared}
def Inv.env0(I:ag):Env0 X.prog X.w X.K X.mg X.O8 X.A X.stack s H :=
 ⟨I.ok.frames,I.ok.mod,I.bs,Bh I.ok.bsz I.sz,I.stack,I.stkFree,I.hok,I.bare⟩
def Inv.after(I:ag)(h:CE X.stack X.prog X.w H s Q u s'):EP X O9 σ Q u s':=by obtain⟨v,c,os,bare,un,hok,r,q⟩:=h;obtain⟨hh,g,d,t,a⟩:=s';obtain rfl:a=s.os:=os;exact cT0 v c (I.call (h':=hh) (g':=g) (d':=d) (t':=t) (ch:=[]) un hok bare (λ b z=>Ĝ z Ê)) r
#where
def Qs7(sp:Sp)(a:η)(E:XK)(t:TA):TE:=λ σ H Q=>t σ H λ vs H1=>sp (vs++a) H1 Q E
def Lr(C:Addr)(m:Str)(sp:Sp)(c:η)(E:XK)(e:TE)(t:TA):TE:=λ σ H Q=>e σ H λ x H1=>∃a d fs,x=ν/\H1 a>=(cd2 d)/\Ν cM4 /\
 t σ H1 λ vs H2=>sp (x::(vs++c)) H2 Q E
def Binds(K:Aa)(fd:FuncData)(ps:ő)(ds:Đ):ç :=
 bH8 s us Đ (ap4->⇑(us++ds)=a0->bY2 s (FI us) (ps.zip (us++ds)))
def Binds.all{K:Aa}{ps:ő}(h:∀us:Đ,⇑us=a0->ap7 fd us=î D1):ct9 K []:=λ s us _ hl=>by rw[Bo]at hl ⊢;exact .of_eq (h us hl)
def zI(CX:CXT)(X:Cx)(E:XK):ç:=∀(a:C8)(σ:St)(H:Hp)(s:Shared)(e:Value)(s':Shared),cC4->CX X.stack H s E e s'->X.xe e s'
section
variable{X:Cx}{CX:CXT}{k:Nat}{f C:Addr}{fd:FuncData}{ps:ő}{sp:Sp}{dvs:η}{ds:Đ}{E:XK}{x m:Str}{p pos apos:Pos}{e o:Expr}{es:Α}{ta:TE}{t:TA}
def Mw{a:C8}{σ:St}{H:Hp}{s:Shared}{Q:VK}{us:Đ}{vs:η}(F:xQ X.prog X.w X.K X.mg X.O8 CX k f fd ps sp)(j:bg3)(i:ct9 X.K ds)(hd:Vals dvs ds)(hx:zI CX X E)
    (I:cC4) (r:gd vs) (h:sp (vs++dvs) H Q E):cP3 (call cv4 us) X a Q s:=by
  have c:Vals (vs++dvs) (us++ds):=r.append hd;have hl:⇑(us++ds)=a0:=ð ⇑c (F.len _ _ _ _ h)
  refine wpAny_call (by3 (F.run X.A X.stack s H (FI us) (us++ds) (vs++dvs) Q E j I.env0 (i s us I.kIn hl) c h) r s' hq);cases r with
  |error e=>exact hx a σ H s e s' I hq
  |ok d =>
    cases d with
    |ret u=>exact I.after hq
    |next=>exact FS hq
    |brk=>exact FS hq
    |cont=>exact FS hq
def Qob(F:xQ X.prog X.w X.K X.mg X.O8 CX k f fd ps sp)(u:bg3)(d:ND x)(j:X.mg x>=cv4)(i:cM1 X.K)(c:ct9 X.K ds)(hd:Vals dvs ds)(hx:zI CX X E)
  (ha:PA X (e::es) t) (hdb:aC8:=by decide) (he:cB4=cs4::bo6:=by rfl) (hpl:ć ((at0).any μ):=by rfl) :
  cr (bs0 x (e::es)) (Qs7 sp dvs E t):=by
 intro a s σ H Q I h;refine Hj (UH I d j ?_ hdb);refine PySem.W.callWith_K (h₀:=X.O8) I.ok.mod.kin i (io (ha pos a s σ H _ I h) us v vs H1 I1 r q (CA I1.kIn)) he hpl;exact Mw F u c hd hx I1 r q
def Qof{pl:aR1}(J:bq4 o)(c:cp1)(j:p7 X.K C m f)(F:xQ X.prog X.w X.K X.mg X.O8 CX k f fd ps sp)(L:bg3)(G:ct9 X.K ds)(hd:Vals dvs ds)(hx:zI CX X E)(ha:PA X (e::es) t)
  (hst:cB4=cs4::bo6:=by rfl) (hpl:ć ((at0).any μ):=by rfl)
  (ht:ä (bi2 o m (e::es) [])=(do
   let ov <- aY8
   ad4
   let (f,first) <- OE [ov] (af8 ov m)
   aY1 pos f first (NS (e::es)) pos []):=by rfl) :
  cr (bi2 o m (e::es) []) (Lr C m sp dvs E ta t):=by
 intro i s σ H Q I h;refine aE8 pl (Ť (J i s σ H _ I h) u P y) ht;obtain⟨x,v,d,O,a,U,fs,ex,z,l,q⟩:=y;subst ex;obtain rfl:u=Ϗ a:=O;refine VW d z c j l ?_;refine PySem.W.callWith_K (first:=cw3) (h₀:=X.O8) I.ok.mod.kin j.kp (io (ha pos i P σ v _ d q) us Z vs H2 I2 r q2 (CA I2.kIn)) hst hpl;exact Mw (us:=ν::us) (vs:=ν::vs) F L G hd hx I2 (ϗ rfl r) q2
def Qlw{pl:aR1}(z:bq4 o)(c:cp1)(i:p7 X.K C m f)(F:xQ X.prog X.w X.K X.mg X.O8 CX k f fd ps sp)(G:bg3)(y:ct9 X.K ds)(hd:Vals dvs ds)(hx:zI CX X E)
  (ht:ä (bi2 o m [] [])=(do
   let ov <- aY8
   ad4
   let (f,first) <- OE [ov] (af8 ov m)
   aY1 pos f first (NS []) pos []):=by rfl) :
  cr (bi2 o m [] []) (Lr C m sp dvs E ta RM):=by
 intro j s σ H Q I h;refine aE8 pl (Ť (z j s σ H _ I h) u P r) ht;obtain⟨x,L,d,J,a,O,fs,ex,v,l,q⟩:=r;subst ex;obtain rfl:u=Ϗ a:=J;refine VW d v c i l ?_;exact PySem.W.callWith_K0 (first:=cw3) d.kIn i.kp (Mw (us:=cw3) (vs:=cw3) F G y hd hx d (ϗ rfl lS) q)
structure Mk(K:Aa)(C f:Addr):ç where
 makes:bp4 K C
 init:cm K C ac6 = í aX8
 fn:ae4 K cv4
 kp:dc K ↑C
#where
section
variable{X:Cx}{CX:CXT}{k:Nat}{f C:Addr}{fd:FuncData}{ps ks:ő}{sp:Sp}{E:XK}{x m:Str}{p pos apos kpos:Pos}{e o:Expr}{es:Α}{kws:OZ}{te ta:TE}{t tk:TA}{nm:ď Str}
variable{g:Đ->Đ->Đ}{gV:η->η->η}
#where
structure Qw(N P:ő)(sc:Scope):ç where
 kind:sc.kind=aQ6
 co:ć sc.isCoroutine
 gen:ć sc.isGenerator
 nd:N.Nodup
 pre:N.take cp9=P
 par:∀x∈P,sc.names.lookup x>=nE∨sc.names.lookup x>=aK4
 nofree:∀y∈sc.names,y.2≠bj9
def QaT{kindOf:Str->bD1}{x:Str}:∀{binds:as5}{m:C9},(∀v,(x,v)∉binds)->bindL kindOf binds m x=m x
  | [],_,_=>rfl
  | (n,v)::r,m,h=>by
    unfold bindL;rw[QaT λ w a=>cT3 w a];split
    . have:x≠n:=by rintro rfl;exact h v List.mem_cons_self
      simp[this]
    . rfl
def QaR{kindOf:Str->bD1}{x:Str}:∀{binds:as5}{m:C9},(∀v,(x,v)∉binds)->bindC kindOf binds m x=m x
  | [],_,_=>rfl
  | (n,v)::r,m,h=>by
    unfold bindC;rw[QaR λ w a=>cT3 w a];split
    . rfl
    . have:x≠n:=by rintro rfl;exact h v List.mem_cons_self
      simp[this]
def QaS{kindOf:Str->bD1}{x:Str}:∀{P:ő}{vs:Đ}{i:Nat}{m:C9},P.Nodup->AY P->Ϥ vs v->kindOf x>=nE ->
    bindL kindOf aY2 m x>=v
  | [],_,_,_,_,h,_,_=>iS h
  |_::_,[],_,_,_,_,h,_=>iS h
  |p::P,w::vs,0,m,nd,h1,h2,a=>by simp at h1 h2;subst h1;subst h2;show bindL kindOf ((p,w)::aY2) m p=_;unfold bindL;rw[QaT λ v hv=>bH9.1 (bL8 hv),Cy a];simp
  |p::P,w::vs,i+1,m,nd,h1,h2,a=>by show bindL kindOf ((p,w)::aY2) m x=_;unfold bindL;exact QaS (i:=i) bH9.2 bQ5 ci9 a
def QaQ{kindOf:Str->bD1}{x:Str}:∀{P:ő}{vs:Đ}{i:Nat}{m:C9},P.Nodup->AY P->Ϥ vs v->kindOf x≠í nE ->
    bindC kindOf aY2 m x>=v
  | [],_,_,_,_,h,_,_=>iS h
  |_::_,[],_,_,_,_,h,_=>iS h
  |p::P,w::vs,0,m,nd,h1,h2,a=>by simp at h1 h2;subst h1;subst h2;show bindC kindOf ((p,w)::aY2) m p=_;unfold bindC;rw[QaR λ v hv=>bH9.1 (bL8 hv),Cw a];simp
  |p::P,w::vs,i+1,m,nd,h1,h2,a=>by show bindC kindOf ((p,w)::aY2) m x=_;unfold bindC;exact QaQ (i:=i) bH9.2 bQ5 ci9 a
def start(N:ő)(vs:η):St:=vs.map some++ö (aZ5-aE1) none
def GZ(CX:CXT)(P:Program)(w:World)(K:Aa)(mg:C9)(O8:Heap)(N:ő)(a:Str)(scope:Scope)(f:Addr)(d:Value)(A:Around)(outer:IR)(s:Shared)(H:Hp)(E:XK):Cx where
 prog:=P
 w:=w
 K:=K
 mg:=mg
 O8:=O8
 A:=A.deeper (bJ5 a f d)
 N:=N
 s₀:=s
 H₀:=H
 env:=bJ5 a f d
 outer:=outer
 stack:=bJ5 a f d::outer
 ex:=[]
 calm:=true
 fn:=aR5
 pn:=[]
 xe:=λ e s'=>Ö P w (A.deeper (bJ5 a f d)) (leaving (bJ5 a f d) e) (λ_ c=>CX outer H s E e c) (λ i c=>CX outer H s E i c) s'
def Sz{a:Scope}{n:Nat}{x:Str}(h:LH>=aK4):∃c,(cellsFrom n a.names []).lookup x>=c:=by have q:=PySem.W.cellsFrom_some a.names n [] aV0;exact ce1 q
def QiQ{CX:CXT}{P:Program}{w:World}{K:Aa}{mg:C9}{O8:Heap}{N ps:ő}{d:Str}{scope:Scope}{f:Addr}{F:Value}{A:Around}{outer:IR}{s J:Shared}{H:Hp}{E:XK}{us:Đ}{vs:η}
  (S:Qw N ps scope) (hd:lI) (e0:Env0 P w K mg O8 A outer s H) (hl:aE1=a0) (r:gd vs)
  (x:InCallC s s.heap.objs.size (bindL (bJ5 d f F).kindOf D1 aa9) (cellsFrom ET scope.names []) (bindC (bJ5 d f F).kindOf D1 aa9) J) :
  Inv (GZ CX P w K mg O8 N d scope f F A outer s H E) [] cV0 H J:=by
 have L:a0<=aZ5:=by have:=OP List.length S.pre;rw[A7]at this;lia
 obtain⟨h1,tk,rfl,G⟩:=x.done;have o:∀b:Addr,b∉(GZ CX P w K mg O8 N d scope f F A outer s H E).ex:=λ b z=>bS1 (b∈([]:Ed)) z Ê;refine⟨⟨e0.mod,S.kind,rfl,rfl,đ,cR4 y z c h1 h2,ż y j,λ y c _ h=>?_,λ_=>hd,Around.frames_deeper e0.frames,Ĉ ed,λ b z=>Ĝ z (o b),e0.bs,e0.bsz,λ b _ _=>o b,λ b z=>Ĝ z (o b),e0.funs,e0.frf⟩,
  rfl,e0.bare,Un.kept G,aQ5 x.toInCall.ns (bx5 i y v h1 h2 h3),λ y c h=>İ _ (x.cell y c h),e0.hok.fresh đ,ĵ y c h,λ p hp=>bS1 (p∈([]:C8)) hp Ê,e0.hok.kept G,?_⟩
 ·exact name_of_addr x.apart (mz h1) (mz h2)
 ·have j:nK y>=aK4∨nK y>=bj9:=j;rcases j with j|j
  ·exact Sz j
  ·exact av9 (S.nofree _ (mz j))
 ·exact eK (x.above y c (mz h))
 ·have hi:i<aE1:=by
   unfold start at h2;by_cases hi:i<aE1
   ·exact hi
   ·rw[Ap bo3]at h2;rw[List.getElem?_replicate]at h2;split at h2<;>cases h2
  have ha:Ϥ vs v:=by
   unfold start at h2;rw[Ag bo3,Bq]at h2;cases e:Ű vs with
   |none=>rw[e]at h2;cases h2
   |some a=>rw[e]at h2;cases h2;rfl
  obtain⟨u,I,O⟩:=r.get ha;have hp:Ϥ ps y:=by rw[<- S.pre,By À];exact h1
  have C:ps.Nodup:=ð S.pre (S.nd.sublist (List.take_sublist _ _))
  refine mY u O;rcases S.par y (Av hp)with k|k
  ·exact N2 k (QaS C hp I k)
  ·obtain⟨c,e⟩:=Sz (n:=ET) k;refine aV4 cL7 c e ?_;have q:=x.cell y c e;rw[QaQ C hp I (by show nK y≠_;rw[k];decide)]at q;exact q
 ·exact e0.hok.fresh (eK (x.above y c (mz h)))
 ·unfold start;show _=aZ5;rw[Am,Bm,List.length_replicate];lia
def Qsn{CX:CXT}{P:Program}{w:World}{K:Aa}{mg:C9}{O8:Heap}{k:Nat}{f:Addr}{name a:Str}{params:Arguments}{d:G6}{scope:Scope}{Z kV C pm c ct oc:Value}{an od:OL}
    {osl:ap1} {N ps:ő} {sp:Sp} (lk:δ f>=⟨oc,od,.func (PySem.W.fnOf name a params d scope Z kV C pm an c ct),osl⟩) (hcd:wn K c a) (S:Qw N ps scope)
    (len:∀vs H Q E,sp vs H Q E->aE1=a0)
    (hbody:∀(A:Around)(outer:IR)(s:Shared)(H:Hp)(vs:η)(Q:VK)(E:XK),so k (bJ5 a f c)->sp vs H Q E ->
      ∃t,PSs (GZ CX P w K mg O8 N a scope f c A outer s H E) d t/\t { nx:=λ_ i=>Q Ę i,rt:=Q } cV0 H) :
    xQ P w K mg O8 CX (k+1) f (PySem.W.fnOf name a params d scope Z kV C pm an c ct) ps sp:=by
  refine İ len (λ A outer s H args us vs Q E L e0 hb r G=>?_);have hl:=len _ _ _ _ G;have U:ap4:=e0.mod.kin.keeps λ b o e=>(e0.bs b o e).1;have lim:s.heap.NoLimit:=e0.mod.nolimit.keeps λ b o e=>(e0.bs b o e).1;have j:∀y∈D1,nK y.1>=nE∨(nK y.1>=aK4/\bp5 ((cellsFrom ET scope.names []).lookup y.1)):=λ⟨n,v⟩ hy=>by
    rcases S.par n (bL8 hy) with q|q
    . exact ë q
    . exact mf q (PySem.W.cellsFrom_some _ _ _ (ë q))
  refine codeAny_call_function L.depth (U _ _ lk) rfl S.co S.gen rfl (PySem.W.codeRec_of U hcd) (hb _ _ _ _ ?_);refine wpAny_newFunctionEnv_cells S.kind j (pM env he s1 x);subst he;refine İ (lim.keeps x.toInCall.keep) (codeAny_func ?_);obtain⟨t,ht,hq⟩:=hbody A outer s H vs Q E (L.deeper _) G;have I:Inv (GZ CX P w K mg O8 N a scope f c A outer s H E) [] cV0 H s1:=QiQ S L.hd e0 hl r x;refine wpAny_mono (ht [] s1 cV0 H _ I hq) (ĵ fl s' z) λ e s' z=>z;have F:∀{σ':St}{i:Hp}{v:V}{u:Value},cv9 (GZ CX P w K mg O8 N a scope f c A outer s H E) [] i s'->dd8->Q v i->CE outer P w H s Q u s' :=
    λ{σ' i v u} J O q=>⟨v,i,J.os,J.bare,J.O8,J.hok,O,q⟩
  cases fl with
  |ret u=>obtain⟨v,σ',i,J,O,q⟩:=z;exact F J O q
  |next=>obtain⟨σ',i,J,q⟩:=z;exact F (v:=V.non) (u:=Value.none) J rfl q
  |brk=>obtain⟨_,_,_,q⟩:=z;exact FS q
  |cont=>obtain⟨_,_,_,q⟩:=z;exact FS q
section
variable{X:Cx}{x:Str}{p pos:Pos}{e:Expr}{es:Α}{t:TA}{id T:String}{r:η->Hp->wp}
def tCB(r:η->Hp->wp)(t:TA):TE:=λ σ H Q=>t σ H λ vs H1=>r vs H1 Q
def uX(d:IZ X id r)(i:ND x)(j:c4 x)(hv:AJ>=cD3)(ha:PA X (e::es) t)(hn:tY x := by decide)(a:aC8:=by decide)
  (he:cB4=cs4::bo6:=by rfl) (hpl:ć ((at0).any μ):=by rfl):cr (bs0 x (e::es)) (tCB r t):=by
 intro c s σ H Q I h;refine Hj (zP I i j hv ?_ hn a);exact PyProof.Rows.callWith_builtin1 (io (ha pos c s σ H _ I h) us o vs H1 I1 r1 q1 (d c o σ H1 vs us Q I1 r1 q1)) he hpl
def Qi9(d:JR X bJ3 r)(i:ND x)(j:c4 x)(hv:AJ>=bJ3)(ha:PA X (e::es) t)(hn:tY x := by decide)(a:aC8:=by decide)
  (he:cB4=cs4::bo6:=by rfl) (hpl:ć ((at0).any μ):=by rfl):cr (bs0 x (e::es)) (tCB r t):=by
 intro c s σ H Q I h;refine Hj (zP I i j hv ?_ hn a);exact df (io (ha pos c s σ H _ I h) us o vs H1 I1 r1 q1 (d c o σ H1 vs us Q I1 r1 q1)) he hpl
#where
#print L2
namespace HT
open PySem PyProof.Rows
section
open PySem.SeqAt
open PySem.AutoSeq1 (wpAny_loadPart')
open PySem.MeetsSeq PySem.MeetsSeq2 PySem.MeetsSeq3
#where
section
variable{prog:Program}{w:World}{A:Around}{E:C7}{s:Shared}
def cat_tup{t b:Addr}{vs ws:Đ}{Q:C7}(G:aZ7 t vs.toArray)(C:aZ7 b ws.toArray)(hv:vs≠[])
  (h1:ws=[]->cw4 t s) (h2:ws≠[]->Q Ĺ (bq1 (bX4 Ń (vs++ws))))
  (hsz:Ă (aE1+cR6)):rp w A (binaryOp .Add ↑t ↑b) Q E s:=by
 obtain⟨⟨cls,v,data,z⟩,o,x,n,hd⟩:=id G;obtain⟨⟨u,c,data2,j⟩,a,d,y,i⟩:=id C;simp only at x hd d i;subst x hd d i;have e:vs.toArray++ws.toArray=au6 (vs++ws):=Ê
 by_cases r:ws=[]
 ·exact concat_meets (bJ9 o) (bJ9 a) noFill_tuple_add seq_tuple_add PySem.F.slot_tuple_add PySem.F.entry_tuple_add (cq8 _)
   (tuple_addW1 t b vs.toArray ws.toArray n y v c z j (Ë hv) (Ģ r)) (IX a (h1 r))
 ·refine concat_meets (bJ9 o) (bJ9 a) noFill_tuple_add seq_tuple_add PySem.F.slot_tuple_add PySem.F.entry_tuple_add (cq8 _)
   (tuple_addW2 t b vs.toArray ws.toArray n y v c z j (Ë hv) (Ë r) (Pv An An hsz)) (mY o a)
  rw[e];exact h2 r
def sIx(n d:Nat):Ý->Nat
 |none=>d
 |some v=>É (v<0) (IL (v+iH)) (min v.toNat n)
def sIx_nat(n d k:Nat):sIx n d (iL k)=min k n:=by show É (IS<0) (IL (IS+iH)) (min (IL IS) n)=min k n;rw[fw,Bu]
def Qrm(n d:Nat)(hd:d<=n)(o:Ý):sIx n d o<=n:=by
  cases o with
  |none=>exact hd
  |some v =>
    show É (v<0) (IL (v+iH)) (min v.toNat n)<=n;by_cases hv:v<0
    . rw[Cy hv];lia
    . rw[Cw hv];exact Nat.min_le_right _ _
def BF(v:Int)(n d:Nat):É (v<0) (max (v+iH) 0) (min v iH)=Î (sIx n d Oy:Nat):=by
 show É (v<0) (max (v+iH) 0) (min v iH)=Î (É (v<0) (IL (v+iH)) (min v.toNat n):Nat);by_cases hv:v<0
 ·simp only[Cy hv];lia
 ·simp only[Cw hv];lia
def Qfh(a hi:Ý)(n:Nat):Builtin.Slice.sliceAdjust a hi 1 iH=(Î (sIx n 0 a:Nat),Î (sIx n n hi:Nat)):=by
 have h1:¬ (db2<0):=À
 unfold Builtin.Slice.sliceAdjust;simp only[h1,if_false];refine Prod.ext ?_ ?_
 ·cases a with
  |none=>rfl
  |some v=>exact BF v n 0
 ·cases hi with
  |none=>rfl
  |some v=>exact BF v n n
def Qgh(i j:Nat):az7 LT bZ7=j-i:=by
 unfold Builtin.Slice.slicePlaces;have h1:db2 > 0:=À
 simp only[h1,if_true,Int.ediv_one];split<;>lia
def ku{o:Ý}{Q:Ý->ϲ}(p:cq9 v o)(h:Q o s):rp w A (Builtin.Slice.slicePartIndex v) Q E s:=by
 cases p with
 |none=>exact slicePart_none h
 |int i t=>exact slicePart_int h
def sliceApplied_gen{e:Addr}{a hi:Ý}{n:Nat}{Q:Int × Int × Nat->ϲ}(j:az8 e vl vu)(pl:cq9 vl a)(o:cq9 vu hi)
  (h:Q (Î (sIx n 0 a:Nat),1,sIx n n hi-sIx n 0 a) s):rp w A (Builtin.Slice.sliceApplied ↑e (î iH)) Q E s:=by
 obtain⟨os,d,i,c⟩:=id j;unfold Builtin.Slice.sliceApplied Builtin.Slice.sliceFields;refine Cv (bJ8 d c x vl (bJ8 d c x vu (bJ8 d c x ey sK)));refine Cv (slicePart_none ?_);show Ş _ (π (db2==0) _ _) _ _ s;rw[Cw Â];refine Cv (ku pl (Cv (ku o (Cv sK))));show Ş _ (match Builtin.Slice.sliceAdjust a hi 1 iH with|(a,hi)=>î (a,db2,az7 a hi)) _ _ s;rw[Qfh a hi n];show Ş _ (î (Î (sIx n 0 a:Nat),db2,az7 (Î (sIx n 0 a:Nat)) (Î (sIx n n hi:Nat)))) _ _ s;rw[Qgh];exact Cz h
def QlD(xs:ŋ)(i k:Nat):au6 ((ą k).filterMap λ(m:Nat)=>xs[IL (LT+as1 * 1)]?)=au6 ((xs.toList.drop i).take k):=by
 have e:(λ(m:Nat)=>xs[IL (LT+as1 * 1)]?)=λ m=>xs[i+m]?:=by
  funext m;have:IL (LT+as1 * 1)=i+m:=À
  rw[this]
 rw[e];have:=pick_run xs i k;rw[List.filterMap_map]at this;have e2:((λ x=>xs[x]?)∘λ x=>i+x)=λ m=>xs[i+m]?:=rfl;rw[e2]at this;rw[this]
def getItem_tuple_cut{t r:Addr}{items:ŋ}{c hi:Ý}{Q:C7}(d:aZ7 t items)(u:az8 r vl vu)(pl:cq9 vl c)(x:cq9 vu hi)
  (hw:¬ (ŷ 0 c=0/\IG hi=items.size))
  (h:Q Ĺ (bq1 (bX4 Ń ((aS0 0 c).take (IG hi-ŷ 0 c)))))
  (hsz:Ă items.size):rp w A (getItem ↑t ↑r) Q E s:=by
 have a:sizeOk (bL2 (au6 ((aS0 0 c).take (IG hi-ŷ 0 c)))):=by show Ă ((aS0 0 c).take (IG hi-ŷ 0 c)).toArray.size;rw[An,A7,Bk,Array.length_toList];omega
 have y:IG hi<=items.size:=Qrm _ _ đ hi;obtain⟨os,o,i,v⟩:=id u;have e:ap8 r cV1 := ⟨os,o,i⟩;unfold getItem
 try with_reducible refine f3
 first|refine Cv sK|skip
 refine Cv (wpAny_sequenceKey d.typeIs Â ?_);refine Cv (wpAny_callSpecial?_slot (name:=Υ ce3) d.typeIs PyProof.Rows.slot_tuple_getitem
  (cF6 d.typeIs entry_tuple_getitem (args_tuple_getitem _ _)))
 show n5 _ (bN1 t) _ _ _ s;refine Cv (tupleItemsOf_ d ?_);refine NY e ?_;rw[Cy Â];refine Cv (sliceApplied_gen u pl x ?_);have j:¬ œ (Î (ŷ 0 c:Nat)==0&&db2==1&&cu7 (IG hi-ŷ 0 c)):=by intro q;rw[Ba,Ba]at q;have q1:Î (ŷ 0 c:Nat)=0:=eq_of_beq q.1.1;have z:IG hi-ŷ 0 c=items.size:=eq_of_beq q.2;exact hw (İ EC EC)
 show Ş _ (π (Î (ŷ 0 c:Nat)==0&&db2==1&&cu7 (IG hi-ŷ 0 c)) _ _) _ _ s;rw[Cw j,QlD]
 first
  |exact Cv (m:=AL _) (ED (bX5 _ h) a)
  |exact Cv (m:=AL _) (ED (Cv (Cz (bX5 _ h))) a)
  |exact Cv (Cv (m:=AL _) (ED (Cz (bX5 _ h)) a))
  |exact Cv (Cv (m:=AL _) (ED (bX5 _ h) a))
#where
#print HT
namespace L2
open PySem PySem.Spec PyProof.Rows
abbrev TO:=St->Hp->θ (Ý->eg)
def PO(X:Cx)(e:ak3)(t:TO):ç :=
  ∀(O9 : A0)(s : Shared)(σ : St)(H : Hp)(Q : Ý -> eg), ag -> t σ H Q ->
    ϛ (evalPart e X.env) (λ u s'=>∃o H',ū H' s'/\cq9 u o/\Q o H') s
def QoT:TO:=λ_ H Q=>Q none H
def Qtb(t:TE):TO:=λ σ H Q=>t σ H λ x H1=>∃i,x=dz/\Q bh5 H1
section
variable{X:Cx}{e:Expr}{te:TE}{lo hi:ak3}{tl th:TO}{pos p2:Pos}
def Qon:PO X none QoT:=by intro a s σ H Q I h;rw[evalPart_none];exact Cz ⟨none,H,I,ey,h⟩
def Qoo(h:cr e te):PO X bJ1 (Qtb te):=by intro d s σ H Q I hw;rw[evalPart_some];refine Ť (h d s σ H _ I hw) u r j;obtain⟨x,a,c,o,q1⟩:=j;obtain⟨i,rfl,q⟩:=q1;obtain⟨t,rfl⟩:=o;exact cT0 bh5 a c bi1
def SlR(X:Cx)(r:V->Ý->Ý->Hp->wp):ç :=
  ∀(a : A0)(s : Shared)(σ : St)(H : Hp)(x : V)(v d i : Value)(lo hi : Ý)(c : Addr)(Q : VK), cC4 -> bG6 -> az8 c d i -> cq9 d lo -> cq9 i hi -> r x lo hi H Q ->
    ∃T id,typeLookup bJ3 ce3 = î (í cD3)/\s.TypeIs v T/\cP3 (getItem v ↑c) X a Q s
def tSl(r:V->Ý->Ý->Hp->wp)(te:TE)(tl th:TO):TE:=λ σ H Q=>te σ H λ x H1=>tl σ H1 λ l H2=>th σ H2 λ u H3=>r x l u H3 Q
def uY{r:V->Ý->Ý->Hp->wp}(L:SlR X r)(G:cr e te)(hl:PO X lo tl)(P:PO X hi th):cr (bV0 e (.Slice lo hi none p2)) (tSl r te tl th):=by intro c s σ H Q I h;refine Subscript_ (Ť (G c s σ H _ I h) v s1 j);obtain⟨x,y,z,r1,q1⟩:=j;refine wpAny_Slice (io (hl c s1 σ y _ z q1) d s2 l H2 I2 pl q2 (Ť (P c s2 σ H2 _ I2 q2) i a j));obtain⟨u,o,C,U,Z⟩:=j;rw[evalPart_none];refine sK;have E:cC1 c o (Ϣ a (ce4 cV1 #[d,i,ey])):=C.kept (t':=a.toks) λ b ob q=>om q;obtain⟨T,id,F,O,J⟩:=L c (Ϣ a (ce4 cV1 #[d,i,ey])) σ o x v d i l u a.heap.objs.size Q E r1 (Heap.IsSliceOf.new ..) pl U Z;show cP3 (subscriptTail e (.Slice lo hi none p2) v ↑a.heap.objs.size) X c Q (Ϣ a (ce4 cV1 #[d,i,ey]));exact tail_any (ops:=[aB6,v]) O F J Ù
def o7(xs:η)(lo hi:Ý):η:=(xs.drop cQ6).take (cm0 ŝ hi-cQ6)
def Gg(xs:η)(lo hi:Ý):⇑(o7 xs lo hi)<=ŝ:=cV2 o7 A7 Bk
def QtN(K:Aa):V->Ý->Ý->Hp->wp:=λ x lo hi H Q=>∃a xs,x=ν/\ct5 /\
 ¬ (cQ6=0/\cm0 ŝ hi=ŝ)/\∀p,cD1->cI1 (Ž p (ì (o7 xs lo hi)))
def Qrt:SlR X (QtN X.K):=by
 intro u s σ H x v vl vu lo hi sl Q I rx hs pl pu h;obtain⟨a,xs,rfl,hx,j,q⟩:=h;cases rx;obtain⟨d,r,i,hz⟩:=d4 hx;have c:d.toArray.size=ŝ:=Æ An r.length.symm
 refine bw1 Ń _ i.typeIs ?_;refine HT.getItem_tuple_cut i hs pl pu (Æ c j) ?_ (Æ c hz);rw[c];refine dr τ _ (I.laid (t':=s.toks) (o:=ì (o7 xs lo hi)) (λ b ob q=>om q) đ ?_) (q _ bf3);exact⟨Bh (Gg xs lo hi) hz,_,(r.drop cQ6).take (cm0 ŝ hi-cQ6),IsTup.new _ _⟩
def QsT(K:Aa):R2:=λ x y H Q=>∃a b xs ys,x=ν/\y=cL6/\ct5/\h9 K b ys/\xs≠[]/\Ă (ŝ+Tm) /\
 (ys=[]->Q ş H)/\(ys≠[]->∀p,cD1->cI1 (Ž p (ì (xs++ys))))
def Vals.nil_iff{xs:η}{us:Đ}(r:aW3):us=[]↔xs=[]:=by
 cases r with
 |nil=>simp
 |cons _ _=>simp
def Qn4:EA ak5 (QsT X.K):=by intro F s σ H x y v u Q I rx ry h;obtain⟨a,b,xs,ys,rfl,rfl,ha,j,hx,hz,q1,E⟩:=h;cases rx;cases ry;obtain⟨r,d,C,_⟩:=d4 ha;obtain⟨i,c,p2,_⟩:=d4 j;refine HT.cat_tup C p2 (λ z=>hx (d.nil_iff.mp z)) (λ z=>dr ν H I (q1 (c.nil_iff.mp z))) bX3 (ap9 ⇑d c hz);refine dr τ _ (I.laid (t':=s.toks) (o:=ì (xs++ys)) (λ b ob q=>om q) đ ?_) (E (λ w=>z (c.nil_iff.mpr w)) _ bf3);exact⟨Æ Am hz,_,d.append c,IsTup.new _ _⟩
#where
def ixN(n:Nat)(i:Int):am5:=É (0<=i) (É (i<n) (í i.toNat) none) (É (-iH<=i) (í (IL (i+n))) none)
def atI{α:rV}(xs:AU)(i:Int):ď α:=(ixN ŝ i).bind λ j=>G1 xs
def Me{n:Nat}{i:Int}{j:Nat}(h:ixN n i>=j):seqIndex? i n>=j/\j<n /\ -iH<=i/\i<n:=by
 unfold ixN at h;by_cases h0:0<=i
 ·rw[Cy h0]at h;by_cases h1:i<n
  ·rw[Cy h1]at h;have e:i.toNat=j:=Aj h;exact⟨ϓ (cw6 h1) e,À,À,h1⟩
  ·rw[Cw h1]at h;cases h
 ·rw[Cw h0]at h;by_cases h1:-iH<=i
  ·rw[Cy h1]at h;have e:IL (i+n)=j:=Aj h;exact⟨ϓ (ce5 h1) e,À,h1,À⟩
  ·rw[Cw h1]at h;cases h
def BI{α:rV}{xs:AU}{i:Int}{v:α}(h:bl0 xs>=v):∃j,seqIndex? i ŝ>=j/\G1 xs>=v/\j<ŝ /\ -(Î ŝ)<=i/\i<ŝ:=by
  unfold atI at h;cases e:ixN ŝ i with
  |none=>rw[e]at h;cases h
  |some j=>rw[e]at h;obtain⟨h1,h2,h3,h4⟩:=Me e;exact⟨j,h1,h,h2,h3,h4⟩
def jM{α:rV}{xs:AU}{j:Nat}{v:α}(h:G1 xs>=v):atI xs bZ7>=v:=by
 have a:j<ŝ:=aV7;have e:ixN ŝ bZ7>=j:=by unfold ixN;rw[aE2,aE2];simp
 unfold atI;rw[e];exact h
def Ox(b:Expr):ç:=∀o i,subscripted b false o i=operate [o,i] (getItem o i)
def IxR(X:Cx)(r:R2):ç :=
  ∀(value slice : Expr)(a : A0)(s : Shared)(σ : St)(H : Hp)(x y : V)(v u : Value)(Q : VK), cC4 -> bG6 -> cM0 -> r x y H Q ->
    subscripted slice false v u=operate [v,u] (getItem v u)->cP3 (subscriptTail value slice v u) X a Q s
def MtR(X:Cx)(id:String)(r:V->η->Hp->wp):ç :=
  ∀(a : A0)(s : Shared)(σ : St)(H : Hp)(x : V)(xs : η)(v : Value)(us : Đ)(Q : VK), cC4 -> bG6 -> aW3 -> r x xs H Q ->
    cP3 (aE7 id (v::us)) X a Q s
section
variable{X:Cx}{a b:Expr}{ta tb:TE}{pos:Pos}
def S_{r:R2}(e:IxR X r)(ha:co6)(d:cr b tb)(i:Ox b):cr (bV0 a b) (tOp r ta tb):=al1 c s H Q I h (Subscript_ (Lf ha d I h λ v u z x y H2 I2 j o q=>e a b c z σ H2 x y v u Q I2 j o q (i _ _)))
def QtK(K:Aa):R2:=λ x y H Q=>∃p xs i v,x=bR4/\y=dz/\Pm K p/\bl0 xs>=v/\Q v H
def QtL(K:Aa):R2:=λ x y H Q=>∃p xs i v,x=bR4/\y=dz/\ct4 p/\bl0 xs>=v/\Q v H
def Md:IxR X (QtK X.K):=by
 intro value slice O9 s σ H x y v u Q I rx ry h hs;obtain⟨p,xs,i,z,rfl,rfl,hq,E,q⟩:=h;cases rx;obtain⟨t,rfl⟩:=ry;obtain⟨e,r,pl,hz⟩:=wy hq;obtain⟨j,h1,h2,h3,h4,h5⟩:=BI E;obtain⟨w,C,o⟩:=r.get h2;have hl:=lP;have hn:=uG;have c:EP X O9 σ Q w s:=cT0 z H I o;by_cases h0:0<=i
 ·have d:i.toNat=j:=ID (cw6 h5) h1 cv3
  exact item_listR pl.isList h0 À (by rw[d];simpa using C) c hs
 ·have d:IL (i+Î e.toArray.size)=j:=by rw[ce5 h4]at h1;rw[An,<- hl];exact cv3
  exact subscriptTail_builtinR (x:=w) pl.isList.typeIs slot_list_getitem.lookup
   (wpAny_getItem_list_neg (Q:=λ r s'=>r=w/\EP X O9 σ Q r s') pl.isList À cV3 À (by rw[d];simpa using C) (ā c)) hs
def Qqk:IxR X (QtL X.K):=by
 intro value slice O9 s σ H x y v u Q I rx ry h hs;obtain⟨p,xs,i,z,rfl,rfl,hq,o,q⟩:=h;cases rx;obtain⟨t,rfl⟩:=ry;obtain⟨C,r,pl,hz⟩:=d4 hq;obtain⟨j,h1,h2,h3,h4,h5⟩:=BI o;obtain⟨w,e,d⟩:=r.get h2;have hl:=lP;have hn:=uG;have c:EP X O9 σ Q w s:=cT0 z H I d;exact subscriptTail_builtinR (x:=w) pl.typeIs slot_tuple_getitem.lookup
  (getItem_tuple (j:=j) (Q:=λ r s'=>r=w/\EP X O9 σ Q r s') pl À À (aL2 An hl h1) (Ë e) (ā c)) hs
def Qf6(c:Đ)(n j:Nat)(u:Value):Obj.mapSeq (·.setIfInBounds j u) cI0=bE1 (.seq (au6 (c.set j u)) n):=Ģ Obj.mapSeq
def Inv.lst{H:Hp}{p:Addr}(I:ag)(h:dc0 p xs):
  ∃(c:Đ) (n:Nat),az0 c/\č p cI0/\db9:=by
 obtain⟨z,c,n,r,e⟩:=I.hok p _ h;exact⟨c,n,r,e,z⟩
def Inv.lstUpd{H:Hp}{p:Addr}{xs ys:η}{c its':Đ}{n d:Nat}{f:Obj->Obj}(I:ag)(h:dc0 p xs)
  (ho:č p cI0) (hf:f cI0=bE1 (.seq its'.toArray d)) (r:bv5 its') (hz:Ă Tm) (t:Nat) :
  ū (q7 p ys) (en s (ce6 p f) t):=by
 have e:(ce6 p f).get? p>=(bE1 (.seq its'.toArray d)):=ϓ (OR f ho (by rw[hf]<;>rfl)) hf
 refine I.write (x:=p) (e:=p) (by rw[h];trivial) ĭ (λ b u i q=>hZ _ _ (Ł i) q) (İ _ e) ?_;exact⟨hz,its',d,r,e⟩
def QsW:V->V->V->Hp->θ eg:=λ o i v H Q=>∃p xs k j,o=bR4/\i=NN/\dc0 p xs/\ixN ŝ k>=j/\Q (q7 p (xs.set j v))
def Qmc:D_ X QsW:=by
 intro y s σ H o i v ov iv u Q I ro ri rv h;obtain⟨p,xs,k,j,rfl,rfl,hp,z,q⟩:=h;cases ro;obtain⟨t,rfl⟩:=ri;obtain⟨c,n,r,e,hz⟩:=I.lst hp;obtain⟨h1,h2,h3,h4⟩:=Me z;have hl:=lP;have hn:=uG;have x:cC1 y (q7 p (xs.set j v)) (bq1 (ce6 p (LI (·.setIfInBounds j u)))) :=
  I.lstUpd hp e (Qf6 c n j u) (r.set rv j) (at9 hz) s.toks
 by_cases h0:0<=k
 ·have d:k.toNat=j:=ID (cw6 h4) h1 cv3
  exact PySem.W.ki_setAt e h0 À (aL2 An hl h4) (Æ d (aQ5 x q))
 ·have d:IL (k+Î c.toArray.size)=j:=by rw[ce5 h3]at h1;rw[An,<- hl];exact cv3
  exact PySem.W.ki_setBack e À (aL2 An hl h3) À (Æ d (aQ5 x q))
def Qda(c hi:Ý)(n:Nat):(sliceBounds c hi none n).1=Î (nN n 0 c:Nat)/\(sliceBounds c hi none n).2.1=Î (nN n n hi:Nat)/\(sliceBounds c hi none n).2.2=1:=by
  refine υ ?_ ?_
  . cases c with
    |none=>simp[sliceBounds,HT.sIx]
    |some i =>
      simp only[sliceBounds,HT.sIx,Option.getD_none,ec (db2 > 0),if_true];by_cases h:i<0
      . simp only[h,if_true]<;>lia
      . simp only[h,if_false]<;>lia
  . cases hi with
    |none=>simp[sliceBounds,HT.sIx]
    |some i =>
      simp only[sliceBounds,HT.sIx,Option.getD_none,ec (db2 > 0),if_true];by_cases h:i<0
      . simp only[h,if_true]<;>lia
      . simp only[h,if_false]<;>lia
def QaK(c:Đ)(d hi:Ý):slicePick c.toArray d hi none=au6 ((c.drop (nN ⇑c 0 d)).take (nN ⇑c ⇑c hi-nN ⇑c 0 d)):=by obtain⟨h1,h2,h3⟩:=Qda d hi c.toArray.size;unfold slicePick;rw[h1,h2,h3];simp only[sliceRange_one,pick_run,An]<;>rfl
def QtM(K:Aa):V->Ý->Ý->Hp->wp:=λ x c hi H Q=>∃a xs,x=ν/\Pm K a/\∀p,cD1->cI1 (q7 p (o7 xs c hi))
def HR:SlR X (QtM X.K):=by
 intro i s σ H x v vl vu lo hi sl Q I rx hs pl pu h;obtain⟨a,xs,rfl,hx,q⟩:=h;cases rx;obtain⟨e,r,d,hz⟩:=wy hx;have c:=lP;refine⟨ĉ, _,slot_list_getitem.lookup,d.isList.typeIs,?_⟩;refine wpAny_getItem_list_slice d.isList hs pl pu ey Ê ?_ cV3
 rw[QaK,<- c];refine dr τ _ (I.laid (t':=s.toks) (o:=Ð (o7 xs lo hi)) (λ b ob q=>om q) đ ?_) (q _ bf3);exact⟨Bh (Gg xs lo hi) hz,_,0,(r.drop cQ6).take (cm0 ŝ hi-cQ6),L7⟩
def zh:IW V
 |.non=>true
 |.bl _=>true
 |.int _=>true
 |.str _=>true
 |_=>false
def eqV:V->IW V
 |.non,.non=>true
 |.bl a,.bl b=>a==b
 |.bl a,.int b=>É a 1 0==b
 |.int a,.bl b=>a==É b 1 0
 |.int a,.int b=>a==b
 |.str a,.str b=>a==b
 |_,_=>false
def Qp0(e:cM0)(c:bG6)(i:bD2 y)(d:bD2 x):SeqAt.EqAt A s u v (eqV y x):=by
  cases y with
  |non =>
    cases e;cases x with
    |non=>cases c;exact SeqAt.EqAt.same _
    |bl b=>cases c;exact SeqAt.EqAt.none_bool b
    |int b=>obtain⟨t,rfl⟩:=c;exact SeqAt.EqAt.none_int b t
    |str b=>obtain⟨t,rfl⟩:=c;exact SeqAt.EqAt.none_str b t
    |_=>exact cL9 d Bt
  |bl a =>
    cases e;cases x with
    |non=>cases c;exact SeqAt.EqAt.bool_none a
    |bl b=>cases c;exact SeqAt.EqAt.bool_bool a b
    |int b=>obtain⟨t,rfl⟩:=c;exact SeqAt.EqAt.bool_int a b t
    |str b=>obtain⟨t,rfl⟩:=c;exact SeqAt.EqAt.bool_str a b t
    |_=>exact cL9 d Bt
  |int a =>
    obtain⟨t',rfl⟩:=e;cases x with
    |non=>cases c;exact SeqAt.EqAt.int_none a t'
    |bl b=>cases c;exact SeqAt.EqAt.int_bool a t' b
    |int b=>obtain⟨t,rfl⟩:=c;exact SeqAt.EqAt.int_int a t' b t
    |str b=>obtain⟨t,rfl⟩:=c;exact SeqAt.EqAt.int_str a t' b t
    |_=>exact cL9 d Bt
  |str a =>
    obtain⟨t',rfl⟩:=e;cases x with
    |non=>cases c;exact SeqAt.EqAt.str_none a t'
    |bl b=>cases c;exact SeqAt.EqAt.str_bool a t' b
    |int b=>obtain⟨t,rfl⟩:=c;exact SeqAt.EqAt.str_int a t' b t
    |str b=>obtain⟨t,rfl⟩:=c;exact SeqAt.EqAt.str_str a t' b t
    |_=>exact cL9 d Bt
  |_=>exact cL9 i Bt
def eqU(x:V)(u:Value):Bool:=match u with
 |.none=>eqV Ę x
 |.bool b=>eqV IU x
 |.int i _=>eqV bH6 x
 |.str z _=>eqV (Ü z) x
 |_=>false
def Wr(r:cM0)(f:bD2 y):eqU x u=eqV y x:=by
 cases y with
 |non=>cases r;rfl
 |bl b=>cases r;rfl
 |int i=>obtain⟨t,rfl⟩:=r;rfl
 |str z=>obtain⟨t,rfl⟩:=r;rfl
 |_=>exact cL9 f Bt
def Ot:∀{xs:η}{us:Đ},aW3->œ aS1->us.any bl2=xs.any λ y=>eqV y x
  |_,_,.nil,_=>rfl
  |y::xs,u::us,.cons r t,f=>by rw[Cp,Ba]at f;rw[Cg,Cg,Wr r f.1,Ot t f.2]
def uM(e:bG6)(d:bD2 x):∀{xs:η}{us:Đ},aW3->œ aS1->∀u∈us,SeqAt.EqAt A s u v (eqU x u)
  |_,_,.nil,_=>Tk u c c
  |y::xs,u::us,.cons r t,f=>λ i c=>by
    rw[Cp,Ba]at f;rcases pw c with rfl|c
    . rw[Wr r f.1];exact Qp0 r e f.1 d
    . exact uM e d t f.2 i c
def inV(x:V)(xs:η):Bool:=xs.any λ y=>eqV y x
def rIn(K:Aa)(c:Bool):R2:=λ x y H Q=>∃p xs,y=bR4/\(Pm K p∨ct4 p)/\bD2 x/\œ aS1/\Q (Ζ (É c (i7 (inV x xs)) (inV x xs))) H
def QcL:aI3 .NotIn (rIn X.K true):=by
 intro i s σ H x y v u Q I rx ry h;obtain⟨p,xs,rfl,hq,e,fs,q⟩:=h;cases ry;rcases hq with hq|hq
 ·obtain⟨c,r,pl,hz⟩:=wy hq;refine SeqAt.notIn_listAt bl2 pl.isList (λ w d=>uM rx e r fs w (Ë d)) (N3 _ H I ?_);rw[RB (c.toArray.any bl2=c.any bl2),Ot r fs];exact q
 ·obtain⟨c,r,pl,hz⟩:=d4 hq;refine SeqAt.notIn_tupleAt bl2 pl (λ w d=>uM rx e r fs w (Ë d)) (N3 _ H I ?_);rw[RB (c.toArray.any bl2=c.any bl2),Ot r fs];exact q
def jQ:IZ X "len" (λ xs H Q=>∃p ys,xs=[bR4]/\(rh X.K p ys∨cP4 p)/\Q ↥Tm H):=by
 intro j s σ H xs us Q I r h;obtain⟨p,ys,rfl,hq,q⟩:=h;obtain⟨u,rfl,i⟩:=qT r;cases i;have hn:=uG;rcases hq with hq|hq
 ·obtain⟨d,e,pl,hz⟩:=wy hq;have c:=⇑e;exact Calls.call_len_list pl.isList vr (cT1 Tm H ϩ (İ bk4 (ϓ An c)))
 ·obtain⟨d,e,pl,hz⟩:=d4 hq;have c:=⇑e;exact len_tuple pl vr (cT1 Tm H ϩ (İ bk4 (ϓ An c)))
def Qb1:JR X aB8 (λ xs H Q=>∃p ys,xs=[bR4]/\(rh X.K p ys∨cP4 p)/\∀l,Ξ l->cw4 l (q7 l ys)):=by
 intro z s σ H xs us Q I r h;obtain⟨p,ys,rfl,hq,q⟩:=h;obtain⟨u,rfl,C⟩:=qT r;cases C;have j:∀(c:Đ),bv5 c->Ă Tm->∀(h':Heap)(d:Nat),(∀b o',cj8 o'->bJ7 o') ->
   be5 { cls:=aB8, dict:=none,data:=cb7 d,slots:=#[] }->EP X z σ Q Ĺ bq2:=λ c i hz h' d kp e =>
  dr τ _ (I.laid (t':=s.toks) kp đ (é (ObjOk X.prog X.w _ h' _ (Ð ys)) ⟨hz,c,d,i,e⟩)) (q _ bf3)
 rcases hq with hq|hq
 ·obtain⟨c,i,pl,hz⟩:=wy hq;have v:=cu8;obtain⟨o,y,x,n,hd⟩:=pl.isList;exact call_list_seq p ĭ y x hd (λ h' d kp e=>j c i hz h' d kp e) vr
 ·obtain⟨c,i,pl,hz⟩:=d4 hq;have v:=cu8;obtain⟨o,y,x,n,hd⟩:=pl;exact call_list_seq p ot y x hd (λ h' d kp e=>j c i hz h' d kp e) vr
def zJ:JR X aw0 (λ xs H Q=>∃p ys,xs=[bR4]/\((rh X.K p ys/\∀l,Ξ l->cw4 l (Ž l cC0))∨(cP4 p/\cI1 H))):=by
 intro j s σ H xs us Q I r h;obtain⟨p,ys,rfl,h⟩:=h;obtain⟨u,rfl,y⟩:=qT r;cases y;rcases h with ⟨hq,q⟩|⟨hq,q⟩
 ·obtain⟨c,d,pl,hz⟩:=wy hq;have v:=⇑d;refine call_tuple_list pl.isList (ż h' kp) vr
  have i:cC2 j bq2:=cJ4 s.toks kp;have x:cC1 j (Ž h'.objs.size cC0) (bq1 (cV4 c.toArray)) :=
   i.laid (t':=s.toks) (λ b o e=>TU) đ (é (ObjOk X.prog X.w _ _ _ cC0) ⟨hz,c,d,IsTup.new _ _⟩)
  exact dr (æ h'.objs.size) _ x (q _ (i.hok.fresh đ))
 ·obtain⟨c,d,pl,hz⟩:=d4 hq;exact call_tuple_same pl (dr bR4 H I q)
def tyV(K:Aa)(T:String)(x:V)(H:Hp):ç:=match x with
 |.str _=>T = sM
 |.int _=>T = bl3
 |.ref p=>(T = ĉ /\ ∃xs,Pm K p)∨(T = Ń /\ ∃o,δ p>=o/\o.cls=aw0 /\ cD0) ∨
   (T = AM /\ ((∃kvs,H p>=(.dK kvs))∨∃kvs,H p>=(.dT kvs)))∨(T = "set" /\ ∃S n,H p>=(.set S n))
 |_=>False
def QrH{T:String}(I:ag)(r:bG6)(ty:tyV X.K T x H):
    s.TypeIs v T/\∀a,v=ν->∃ob,č a ob/\Ν ob.dict:=by
  cases x with
  |str z =>obtain⟨t,rfl⟩:=r;cases é (T = sM) ty;exact İ (typeIs_str s z t) (λ_ e=>i6 e)
  |int i =>obtain⟨t,rfl⟩:=r;cases é (T = bl3) ty;exact İ (typeIs_int s i t) (λ_ e=>i6 e)
  |ref p =>
    cases r;rcases ty with ⟨rfl,xs,hq⟩|⟨rfl,o,d,j,hd⟩|⟨rfl,d⟩|⟨rfl,S,n,d⟩
    . obtain⟨u,_,pl,_⟩:=wy hq
      refine İ pl.isList.typeIs (ż a e);cases e;obtain⟨o,n,e,c,hd,_⟩:=pl;exact IX e hd
    . refine İ (IX (I.kIn p o d) j) (ż a e)
      cases e;exact IX (I.kIn _ o d) hd
    . have z:∃o,č p o/\o.ExactDict:=by
        rcases d with ⟨kvs,d⟩|⟨kvs,d⟩
        . obtain⟨_,_,_,_,o,_,_,e,ex,_⟩:=I.hok p _ d
          exact IX e ex
        . obtain⟨_,_,_,_,o,_,_,e,ex,_⟩:=I.hok p _ d
          exact IX e ex
      obtain⟨o,e,ex⟩:=z;refine İ (IX e ex.1) (ż a e2);cases e2;exact IX e ex.2.1
    . obtain⟨o,_,_,_,e,ex,_⟩:=I.hok p _ d
      refine İ (IX e ex.1) (ż a e2);cases e2;exact IX e ex.2.1
  |_=>exact FS ty
def tBM(K:Aa)(T:String)(r:V->η->Hp->wp)(to:TE)(t:TA):TE:=λ σ H Q=>to σ H λ x H1=>tyV K T x H1/\t σ H1 λ xs H2=>r x xs H2 Q
variable{o e:Expr}{es:Α}{to:TE}{t:TA}{name:Str}{apos cpos:Pos}{T id:String}{r:V->η->Hp->wp}
def Tc(F:PlainAttrs T)(slot:Slot T name id)(d:typeOf cD3=î bJ4)(C:MtR X id r)(E:cr o to)(ha:PA X (e::es) t)
  (hbase:Lc o name aY8=aY8:=by rfl)
  (hfew:((ck5 (e::es)).all (λ x=>i7 x.1)&&(ay6 cpos []).all (λ x=>tm x.1)
   && LU (⇑(e::es)+⇑([]:OZ)+É (ce7 ([]:OZ)) 0 1) 30)=true:=by rfl)
  (hline:œ cR3:=by rfl) (hs:cB4=cs4::bo6:=by rfl) (hplain:ć ((ck5 es).any μ):=by rfl) :
  cr (an5 o name apos (e::es) [] cpos) (tBM X.K T r to t):=by
 intro c s σ H Q I h;refine wpAny_Call_method_late hbase hfew hline rfl (Ť (E c s σ H _ I h) v G z);obtain⟨x,y,i,u,ty,q1⟩:=z;obtain⟨h1,h2⟩:=QrH i u ty;refine⟨T,id,F,slot,d,h1,h2,?_⟩;have j:=ha cpos c G σ y _ i q1;rw[hs]at j ⊢;refine aE9 (by show ć (false||(ck5 es).any μ);rw[hplain]<;>rfl) ?_
 exact io j us J vs H2 I2 r2 q2 (C c J σ H2 x vs v us Q I2 u r2 q2)
#where
def MtM(X:Cx)(id:String)(r:V->η->Hp->wp):ç :=
  ∀(a : A0)(s : Shared)(σ : St)(H : Hp)(x : V)(xs : η)(v : Value)(us : Đ)(Q : VK), cC4 -> bG6 -> aW3 -> r x xs H Q ->
    cP3 (aE7 id (v::us)) X a Q s
def Vals.one:∀{x:V}{us:Đ},gd [x]->∃u,us=[u]/\bP x
 |_,_,.cons r .nil=>Ņ _ r
def Vals.dropLast{xs:η}{us:Đ}(h:aW3):Vals xs.dropLast us.dropLast:=by
  induction h with
  |nil=>exact lS
  |cons r t a =>
    cases t with
    |nil=>exact lS
    |cons q t'=>exact ϗ r a
section
variable{X:Cx}{O9:C8}{σ:St}{H:Hp}{s:Shared}{l b:Addr}{xs ys zs:η}
def Inv.lset{a its':Đ}{n:Nat}{f:ŋ->ŋ}{t':Nat}(I:ag)(c:dc0 l xs)
  (e:č l (bE1 (.seq a.toArray n))) (hf:f a.toArray=its'.toArray) (hv:bv5 its') (hz:Ă Tm) :
  ū (q7 l ys) (en s (ce6 l (LI f)) t'):=by
 have q:=PySem.IsL.update e f;rw[hf]at q;refine I.write (x:=l) (e:=l) (Æ c trivial) ĭ (λ j u d i=>hZ s.heap (LI f) (Ł d) i) (İ _ q) ?_;exact cT0 hz its' _ hv
def Inv.lnew{t':Nat}(I:ag)(hv:bv5 its)(hz:Ă Tm):
  ū (q7 s.heap.objs.size ys) (en s (bL3 ĉ its.toArray) t') :=
 I.laid (bs5 (om q)) đ ⟨hz,its,0,hv,L7⟩
def Inv.fresh(I:ag):dd2:=bf3
def Inv.lstM(I:ag)(c:dc0 l xs):db9/\∃(a:Đ) (n:Nat),az0 a/\ŝ=bv6/\č l (bE1 (.seq a.toArray n)):=by obtain⟨z,a,n,r,e⟩:=I.hok l _ c;exact⟨z,a,n,r,lP,e⟩
def Qld{n:Nat}(h:Ă n):ć (aA0 n):=ľ Builtin.List.listTooLong ap0
#where
section
variable{X:Cx}
def Ha:V->η->Hp->wp:=λ x vs H Q=>∃l xs y,x=æ l/\vs=[y]/\dc0 l xs/\aO9 ŝ/\Q Ę (q7 l (xs++[y]))
def KP:MtM X ce8 Ha:=by intro i s σ H x vs v us Q I rx rv h;obtain⟨l,xs,y,rfl,rfl,c,hz,q⟩:=h;cases rx;obtain⟨u,rfl,d⟩:=rv.one;obtain⟨z,a,n,r,hl,e⟩:=I.lstM c;refine call_meets F.slot_list_append (bJ9 e) F.entry_list_append (F.args_list_append_2 _ _) (PySem.list_append l a.toArray n u (ĸ An)) (CA e);refine dr Ę _ (I.lset (its':=a++[u]) c e Ê (r.append (ϗ d lS)) ?_) q;rw[Am,List.length_singleton];lia
def Qoz:V->η->Hp->wp:=λ x vs H Q=>∃l b xs a,x=æ l/\vs=[cL6]/\dc0 l xs/\dc0 b a/\Ă (ŝ+bv6)/\Q Ę (q7 l (xs++a))
def Qi2:MtM X "list.extend" Qoz:=by
 intro G s σ H x vs v us Q I rx rv h;obtain⟨l,b,xs,J,rfl,rfl,i,j,hz,q⟩:=h;cases rx;obtain⟨u,rfl,E⟩:=rv.one;cases E;obtain⟨z,c,n,r,hl,e⟩:=I.lstM i;obtain⟨z2,a,y,C,o,e2⟩:=I.lstM j;have hsz:Ă (c.toArray.size+a.toArray.size):=an9 An An
 have d:¬ œ (i7 c.toArray.isEmpty&&aA0 (c.toArray.size+a.toArray.size)):=Pv (Qld hsz) Bool.and_false Bt
 refine call_meets F.slot_list_extend (bJ9 e) F.entry_list_extend (F.args_list_extend_2 _ _)
  (AutoSeq1.list_extend_list_list_0 l c.toArray n b a.toArray y d (ĸ An) À) (mY e e2)
 refine dr Ę _ (I.lset (its':=c++a) i e Ê (r.append C) ?_) q;rw[Am];lia
#where
section
variable{prog:Program}{w:World}{A:Around}{E:C7}{s:Shared}
#where
section
variable{X:Cx}
#where
#print L2
namespace Att
open PySem PySem.W PySem.Calls PyProof.Rows
def G9:∀(ns:Ŗ)(vs:Đ),WellAll P h vs cJ6->cJ7 ns:=by
  intro ns;induction ns with
  |nil=>intro vs w;rw[List.map_nil]at w;cases w;exact lS
  |cons n ns c =>
    intro vs w;rw[A9]at w;cases w with
    |cons a b=>cases a;exact .cons _ _ (c _ b)
def script_of{l:OpenLaw}{n:Nat}(hn:l.most>=n){P:Params}{h:Heap}{args:Ã WData}{c:Đ}
    (hpre:œ (l.row.toRowW.claim.pre args)) (hwl:WellAll P h c args) :
    ∃a vs ns,c=[Ϗ a]/\args=[WData.list cJ6]/\Ϧ a cp2/\cJ7 ns/\F8<=n:=by
  have j:œ (WShape.hasAll [] args [.list .int]):=cV6.1;have o:œ (l.pre.holds [] { args:=args }):=cV6.2;obtain⟨d,r,rfl,h1,h2⟩:=hasAllW_cons j;obtain rfl:=hasAllW_nil h2;obtain⟨xs,rfl,h3⟩:=hasW_list h1;obtain⟨ns,rfl⟩:=items_int h3;have i:F8<=n:=by
    unfold OpenLaw.pre at o;have h4:œ ((WTm.not (.lt (.lit ↥iH) (.len (.arg 0)))).holds [] { args:=[.list Ϲ] }):=by have h4:=(holds_andW o).1;rw[hn]at h4;exact h4
    have h5:=condW_of h4 (w_not (w_lt w_lit (w_len_list (w_arg rfl))));rw[Bm]at h5;refine Ck (bv1 q);have v:iH<Î (F8:Nat):=EC
    first
      | (rw[C0 v] at h5;exact Ĝ h5 Â)
      | (simp at h5;omega)
  cases hwl with
  |cons w1 x =>
    cases x;cases w1 with
    |list u e=>exact⟨_,_,ns,rfl,rfl,u,G9 ns _ e,i⟩
def post_true(l:OpenLaw)(args:Ã WData):œ (l.row.toRowW.claim.post args ac5 args) :=
 postW_of (r:=l.row.toRowW) (X:=(true==true))
  (show œ (WShape.has [] ac5 .bool) by first|rfl|decide|simp[WShape.has,WShape.arms,WShape.armsAll])
  (é ((WTm.eq .res (.lit ac5)).value [] { args:=args,res:=í ac5,after:=args }>=(x5 (true==true))) (w_eq_bool (w_res rfl) w_lit)) rfl
section
variable{prog:Program}{w:World}{A:Around}{E:C7}{s:Shared}{K:Frag}
def QtC(h:Heap)(L d:Addr):A0:=(be2).filterMap λ a=>É (a=L∨a=d) none (tT (h.get? a) o (a,o))
#where
#print Att
namespace L2
open PySem PySem.Spec PyProof.Rows
def SI:∀{vs:Đ}{ns:Ŗ},cJ7 ns->Vals zw vs
 |_,_,.nil=>lS
 |_,_,.cons n t h=>ϗ (bT t) (SI h)
def Lk(H:Hp):ç:=∀b,ck6∨∃o xs,H b>=(.frz o db3)
def QkW{P:Program}{w:World}{K:Aa}{mg Z:C9}{CX:CXT}{k:Nat}{fa a:Addr}{fd:FuncData}{x:Str}{sp:Sp}{s₁:Shared}{vs:Đ}{ns:Ŗ}
    (KX:K.In s₁.heap) (G:s₁.heap.Ns mainGlobals mg) (i:s₁.heap.Ns builtinsNs Z) (Q:∀x:Str,tY x -> Z x=AJ) (hlim:s₁.heap.NoLimit) (hg:s₁.gens = #[])
    (ha:cw7 a>=cp2) (hi:cJ7 ns) (hl:Ă F8) (hr:ao0 callerA)
    (F:∀O8:Heap,K.In O8->aa8 mg->xQ P w K mg O8 CX k fa fd [x] sp) (hbind:bH8 s u Value (bY2 s (FI [u]) [(x,u)]))
    (hsp:∀H:Hp,Lk H->rh K a zw->sp cw3 H (λ v _=>v=Η) OQ)
    (hCX:∀H e s',CX [] H s₁ OQ e s'->False) :
    codeAny (model P w) callerA (.call ↑fa (FI cw3)) (λ r s'=>r=.ok (.ret ac5)/\OldK s₁.heap s'.heap/\s'.os=s₁.os/\az4) s₁:=by
  have rv:=SI hi;have J:=hi.length;have y:∀H:Hp,Lk H->rh K a zw->bM2 s₁.heap->(∀b,H b≠none->b=a)->(IY≠none->LA a) ->
      codeAny (model P w) callerA (.call ↑fa (FI cw3)) (λ r s'=>r=.ok (.ret ac5)/\OldK s₁.heap s'.heap/\s'.os=s₁.os/\az4) s₁:=by
    intro H hO hS hok hA hK;have c:∀{b:Addr}{o:Obj},cw7 b>=o->ck6->(cG0).get? b>=o:=λ e n=>QkG e n;have a8:∀{b:Addr}{o:Obj}{es:Array DictEntry}{C:Nat},cw7 b>=o->o.data=.dict es C->ck6:=λ{b o es C} e d=>by
      cases q:H b with
      |none=>rfl
      |some u=>have O:b=a:=hA b (Ϝ q);subst O;rw[ha]at e;cases e;have d':Data.seq vs.toArray _=Data.dict es C:=d;cases d'
    have j:∀{b:Addr}{m:C9},s₁.heap.Ns b m->(cG0).Ns b m:=λ{b m} ⟨o,es,C,e,d,r⟩=>⟨o,es,C,c e (a8 e d),d,r⟩;have E:K.In cG0:=λ b o e=>c (KX b o e) (by
      cases q:H b with
      |none=>rfl
      |some u=>have O:b=a:=hA b (Ϝ q);subst O;rw[hK (Ϝ q)]at e;cases e)
    have hM:Mod K mg cG0:=⟨E,j G,⟨Z,j i,Q⟩,ae8 mc h1 h2 hlim mc (j h1) h2⟩;have e0:Env0 P w K mg cG0 callerA [] s₁ H:=⟨rfl,hM,λ b o e=>Qn2 e,aR9 (QiO _ _),trivial,λ b i=>bS1 (b∈([]:Ed)) i Ê,hok,.of_eq hg⟩;refine by3 ((F _ E (j G)).run callerA [] s₁ H (FI cw3) cw3 cw3 _ _ hr e0 (hbind s₁ ş) (ϗ rfl lS) (hsp H hO hS)) r s' h;cases r with
    |error e=>exact(hCX H e s' h).elim
    |ok fl =>
      cases fl with
      |next=>exact FS h
      |brk=>exact FS h
      |cont=>exact FS h
      |ret u =>
        obtain⟨v,H',os,bare,un,I,r',q⟩:=h;have q':v=Η:=q;subst q';obtain rfl:u=bv4 true:=r';refine⟨rfl,OldK.of_keep (ĵ b o e),os,bare⟩;cases q:H b with
        |none=>exact un.keep b o e q (by intro z;exact bS1 (b∈([]:Ed)) z Ê) Ê
        |some u =>
          rcases hO b with z|⟨ob,xs,z⟩
          . rw[q]at z;cases z
          . have z2:=un.frzs b ob _ z
            obtain⟨e1,_⟩:=hok b _ z;obtain⟨e2,_⟩:=I b _ z2;rw[e]at e1;cases e1;exact e2
  cases U:δ a with
  |some o=>have e:=KX a o U;rw[ha]at e;cases e;refine y aa9 (λ_=>ĭ) (Ĉ (bw2 _ vs.toArray _ U rfl rfl (Pv An J hl) (Ë rv))) (λ b u z=>bg7 L ((none:ď HO)>=u) z L) (λ b z=>av9 z) λ z=>av9 z
  |none =>
    refine y (λ b=>bF2 b a (.frz cp2 (Ð zw)) none) (bv1 b) (ë (mf cp2 cq)) (ĵ b u z) (ż b z) λ_=>U
    . by_cases i:b=a
      . exact Ĉ (aQ5 _ (Cy i))
      . exact ë (Cw i)
    . by_cases i:b=a
      . have L:=(Cy i).symm.trans z
        cases L;subst i;exact⟨ha,Æ Bm hl,vs,_,rv,ha⟩
      . have L:=(Cw i).symm.trans z
        cases L
    . by_cases i:b=a
      . exact i
      . exact Ĝ (Cw i) z
#print L2
namespace L2
open PySem PySem.Spec PyProof.Rows
def Zk(s:Stmt)(j:Nat):Stmt:=match s with
 |.ClassDef _ _ _ a _ _ _ _ _ _ _=>a.getD j (.Pass ⟨0,0,0,0⟩)
 |_=>.Pass ⟨0,0,0,0⟩
def Xv(s:Stmt):Arguments:=match s with
 |.FunctionDef _ a _ _ _ _ _ _ _ _=>a
 |_=>{ posonlyargs:=[],args:=[],vararg:=none,kwonlyargs:=[],kw_defaults:=[],kwarg:=none,defaults:=[] }
def Jr(s:Stmt):G6:=match s with
 |.FunctionDef _ _ b _ _ _ _ _ _ _=>b
 |_=>[]
def Qp(s:Stmt):Scope:=match s with
 |.FunctionDef _ _ _ _ _ _ a _ _ _=>a
 |_=>{ kind:=aQ6,names:=[],isGenerator:=false,isCoroutine:=false }
abbrev CX0:CXT:=λ_ _ _ _ _ _=>False
abbrev E0:XK:=OQ
def Qy:zI CX0 X E0:=λ_ _ _ _ _ _ _ h=>h.elim
structure Fun(K:Aa)(x qual:Str)(st:Stmt)(f:Addr)(fd:FuncData):ç where
 ex:∃(oc:Value)(od:OL)(kV doc pm:Value)(an:OL)(cdv ct:Value)(osl:ap1),
  fd=PySem.W.fnOf x qual aS4 au7 ag0 ey kV doc pm an cdv ct/\δ f>=⟨oc,od,.func fd,osl⟩/\wn K cdv qual
 kp:cM1 K
section
variable{P:Program}{w:World}{K:Aa}{mg:C9}{O8:Heap}
def Fun.ok{x a:Str}{st:Stmt}{f:Addr}{fd:FuncData}{N ps:ő}{k:Nat}{sp:Sp}(F:Fun K x a st f fd)(S:Č N ps st)(len:∀vs H Q E,sp vs H Q E->aE1=a0)
  (hbody:∀(c:Value)(A:Around)(outer:IR)(s:Shared)(H:Hp)(vs:η)(Q:VK)(E:XK),so k (ř a ag0 f c)->sp vs H Q E ->
   ∃t,PSs (GZ CX0 P w K mg O8 N a ag0 f c A outer s H E).nox au7 t/\t { nx:=λ_ H'=>Q Ę H',rt:=Q } cV0 H):xQ P w K mg O8 CX0 (k+1) f fd ps sp:=by
 obtain⟨u,od,kV,i,v,an,c,ct,r,rfl,o,d⟩:=F.ex;refine Qsn o d S len λ A outer s H vs Q E j e=>?_;obtain⟨t,h,q⟩:=hbody c A outer s H vs Q E j e;exact⟨t,h.nox,q⟩
def Fun.binds{x a:Str}{st:Stmt}{f:Addr}{fd:FuncData}{ps:ő}(F:Fun K x a st f fd)
  (h:∀(kV d e:Value)(an:OL)(c ct:Value)(us:Đ),⇑us=a0->ap7 (PySem.W.fnOf x a aS4 au7 ag0 ey kV d e an c ct) us=î D1):ct9 K []:=by
 obtain⟨r,od,kV,d,e,an,c,ct,j,rfl,o,i⟩:=F.ex;exact .all (h kV d e an c ct)
def Fi{x a:Str}{st:Stmt}{f:Addr}{o:Value}{od an:OL}{i:ap1}{kV e j d ct:Value}(l:δ f>=⟨o,od,.func (PySem.W.fnOf x a aS4 au7 ag0 ey kV e j an d ct),i⟩)
  (c:wn K d a) (k:cM1 K):Fun K x a st f (PySem.W.fnOf x a aS4 au7 ag0 ey kV e j an d ct):=İ ⟨o,od,kV,e,j,an,d,ct,i,rfl,l,c⟩ k
#where
def QM{A:Around}{k:Nat}(a:ao0 A):aR6 1<cLine:=Bs (Nat.add_le_add_left (Â:1<=64) _) a.units
section
variable{X:Cx}
#where
def mK{A B:ç}(h:B):π false A B:=Æ (Cw Bt) h
def mJ{A B:ç}(h:A):π true A B:=Æ cq h
#print L2
set_option maxHeartbeats 4000000
namespace L2
open PySem PySem.Spec PyProof.Rows
section
variable{κ:rV}[cf0 κ]
def jy(kvs:bR2)(k:κ):aY9:=aN9 (kvs.find? λ a=>FY a.1 k)
def xI(kvs:bR2)(k:κ)(v:V):bR2 :=
 π (cG3 a a.1 k) (au8 (λ a=>CY a.1 k (a.1,v) a)) (kvs++[(k,v)])
def kH{p:κ × V}{r:bR2}{k:κ}(e:oB=k):jy (p::r) k>=p.2:=ag1 jy e
def kF{p:κ × V}{r:bR2}{k:κ}(e:¬ oB=k):jy (p::r) k=jy r k:=ag1 jy e
def RI(k:κ):∀kvs:bR2,cG3 a a.1 k=tm bl5
  | []=>rfl
  |p::r=>by
    rw[Cg];by_cases e:oB=k
    . simp only[kH e,C0 e,Bool.true_or,Option.isSome_some]
    . rw[kF e,C5 e,Bool.false_or];exact RI k r
def yo(kvs:bR2)(k:κ)(v:V):⇑(bs6 k v)<=dQ+1:=by
 unfold xI;split
 ·rw[Bm];lia
 ·rw[Am,A8,List.length_nil];lia
def RelO.isSome_eq{o:aY9}{u:mM}(r:RelO o u):o.isSome=u.isSome:=by
  cases o with
  |none=>cases u with
    |none=>rfl
    |some _=>exact ba0 r
  |some _=>cases u with
    |none=>exact ba0 r
    |some _=>rfl
def RelO.getD{o:aY9}{u:mM}(r:RelO o u)(rd:RelV d d'):RelV (o.getD d) (u.getD d'):=by
  cases o with
  |none=>cases u with
    |none=>exact rd
    |some _=>exact ba0 r
  |some _=>cases u with
    |none=>exact ba0 r
    |some _=>exact r
def KV.val{kvs:bR2}{vs:cn1}(r:aK1)(k:κ):RelO bl5 (cf1 vs):=by
  unfold KV at r;induction r with
  |nil=>exact True.intro
  |@cons p q ps c h t d =>
    obtain⟨h1,h2⟩:=h;by_cases e:oB=k
    . have a:q.1=k:=aq1
      have b:cf1 (q::c)>=q.2:=ag1 valueAt a
      rw[kH e,b];exact h2
    . have a:¬ q.1=k:=λ z=>e aY3
      have b:cf1 (q::c)=cf1 c:=ag1 valueAt a
      rw[kF e,b];exact d
def KV.any{kvs:bR2}{vs:cn1}(r:aK1)(k:κ):cG3 a a.1 k=vs.any λ a=>FY a.1 k:=by
 unfold KV at r;induction r with
 |nil=>rfl
 |cons h t c=>rw[Cg,Cg,c,h.1]
def KV.repl{kvs:bR2}{vs:cn1}(r:aK1)(k:κ)(d:cM0):
    KV (au8 (λ a=>CY a.1 k (a.1,y) a)) (vs.map λ a=>CY a.1 k (a.1,u) a):=by
  unfold KV at r ⊢;induction r with
  |nil=>exact lS
  |@cons p q ps i h t c =>
    rw[A9,A9];refine ϗ ?_ c;obtain⟨h1,h2⟩:=h;by_cases e:oB=k
    . rw[aY0,Cy aq1];exact İ h1 d
    . rw[ay0,Cw (λ z=>e aY3)];exact İ h1 h2
def KV.put{kvs:bR2}{vs:cn1}(r:aK1)(k:κ)(a:cM0):KV (bs6 k y) (stored vs k u):=by
 unfold xI stored;rw[r.any k];by_cases e:(œ (vs.any λ c=>FY c.1 k))
 ·rw[aY0,aY0];exact r.repl k a
 ·rw[ay0,ay0];exact Paired.snoc r (ā a)
def KV.length{kvs:bR2}{vs:cn1}(r:aK1):dQ=aE1:=ad1
#where
def Gn{w:World}(r:bP cr1):œ ((Jk P w).is k u):=by
 cases k with
 |inl i=>obtain⟨t,e⟩:=é (∃t,u=aZ4 t) r;subst e;exact Qd6 P w i t
 |inr x=>obtain⟨t,e⟩:=é (∃t,u=cc2 t) r;subst e;exact Qd7 P w x t
def Qa8{w:World}:∀{ks:EO}{us:Đ},gd cw8->ItemsAre (Jk P w) ks us
  | [],_,r=>ab6 List.map_nil r r lS
  |k::ks,_,r=>by
    rw[A9]at r;cases r with
    |cons h t=>exact ϗ (Gn h) (Qa8 t)
abbrev KT(H:Hp):di1->θ bs3:=Paired λ p q=>oB=q.1/\H q.2.1>=(ì (tP oB kV))/\RelV p.2 q.2.2
def KT.val{kvs:di1}{xs:bs3}(r:KT H kvs xs)(k:EO):RelO bl5 (aN9 cQ2):=by
  induction r with
  |nil=>exact True.intro
  |@cons p q ps c h t d =>
    obtain⟨h1,_,h2⟩:=h;by_cases e:oB=k
    . have a:q.1=k:=aq1
      have b:cf2 (q::c)>=q.2:=ag1 atKey a
      rw[kH e,b];exact h2
    . have a:¬ q.1=k:=λ z=>e aY3
      have b:cf2 (q::c)=cf2 c:=ag1 atKey a
      rw[kF e,b];exact d
def KT.repl{kvs:di1}{xs:bs3}(r:KT H kvs xs)(k:EO)(d:cM0):
    KT H (au8 (λ a=>CY a.1 k (a.1,y) a)) (nj (putAt k u)):=by
  induction r with
  |nil=>exact lS
  |@cons p q ps i h t c =>
    rw[A9,A9];refine ϗ ?_ c;obtain⟨h1,h2,h3⟩:=h;unfold putAt;by_cases e:oB=k
    . rw[aY0,Cy aq1];exact⟨h1,h2,d⟩
    . rw[ay0,Cw (λ z=>e aY3)];exact⟨h1,h2,h3⟩
def KT.put{H:Hp}{kvs:di1}{xs:bs3}(r:KT H kvs xs)(k:EO){b:Addr}(c:H b>=(ì cV7))(a:cM0):
  KT H (bs6 k y) (storedH xs k b u):=by
 have e:cG3 d d.1 k=tm cQ2:=by rw[RI,(r.val k).isSome_eq,Option.isSome_map]
 unfold xI storedH;rw[e];by_cases q:(bp5 cQ2)
 ·rw[Cy q,Cy q];exact r.repl k a
 ·rw[Cw q,Cw q];exact Paired.snoc r ⟨rfl,c,a⟩
def KT.keeps{H H':Hp}{kvs:di1}{xs:bs3}(r:KT H kvs xs)(a:∀b ys,H b>=cC0->cc7>=cC0):KT H' kvs xs :=
 Paired.mapP r λ_ _ z=>⟨z.1,a _ _ z.2.1,z.2.2⟩
section
variable{P:Program}{w:World}{H:Hp}{h:Heap}{a:Addr}
def S7(ok:bM3)(e:Rd H a u):aK2 w H h a u:=e.ok ok
def vY{kvs:bp7}(ok:bM3)(e:Rd H a (.dK kvs)):Ă dQ/\IH a/\∃vs,aK1/\h.DictOf (Jk P w) a vs :=
 é (aK2 w H h a (.dK kvs)) (S7 ok e)
def Tj{kvs:bp7}(ok:bM3)(e:IY>=(.dK kvs)):Ă dQ/\IH a/\∃vs,aK1/\h.DictOf (Jk P w) a vs:=vY ok (ë e)
def KL{ks:EO}(ok:bM3)(e:IY>=(ì cw8)):(ON P w).is h ks a:=by obtain⟨_,c,r,o,h1,h2,n,h3⟩:=é (aK2 w H h a (ì cw8)) (ok a _ e);exact⟨o,c.toArray,n,h1,h2,h3,Ë (Qa8 r)⟩
def sZ{kvs:di1}(ok:bM3)(e:Rd H a (.dT kvs)):Ă dQ/\IH a /\
    ∃xs,KT H kvs xs/\h.DictOfH (ON P w) a xs:=by
  obtain⟨z,y,xs,r,o,es,c,h1,h2,h3,h4,h5⟩:=é (aK2 w H h a (.dT kvs)) (S7 ok e);refine⟨z,y,xs,r,o,es,c,h1,h2,h3,h4,A4,h5⟩;have all:∀{l:di1}{m:bs3},KT H l m->∀x∈m,(ON P w).is h x.1 x.2.1:=by
    intro l m q;induction q with
    |nil=>intro x hx;exact i6 hx
    |@cons p q ps i hq t d =>
      intro x hx;rcases pw hx with e|hx
      . subst e
        exact KL ok (ð hq.1 hq.2.1)
      . exact d x hx
  exact all r x hx
def Xd{kvs:di1}(ok:bM3)(e:IY>=(.dT kvs)):Ă dQ/\IH a /\
  ∃xs,KT H kvs xs/\h.DictOfH (ON P w) a xs:=sZ ok (ë e)
#where
def DGet(H:Hp)(a:Addr)(y:V)(r:aY9):ç :=
 (∃kvs k,Rd H a (.dK kvs)/\y=cr1/\r=bl5)∨∃kvs k b,Rd H a (.dT kvs)/\y=cL6/\H b>=(ì cV7)/\r=bl5
def DPut(H:Hp)(a:Addr)(y v:V)(c:Hp):ç :=
 (∃kvs k,IY>=(.dK kvs)/\y=cr1/\aO9 dQ/\c=dj3 (bs6 k v)) ∨
 ∃kvs k b,IY>=(.dT kvs)/\y=cL6/\H b>=(ì cV7)/\aO9 dQ/\c=cG9 .dT (bs6 k v)
def DGet.k{H:Hp}{a:Addr}{kvs:bp7}{k:Key}(e:IY>=(.dK kvs)):DGet H a cr1 bl5:=ë (dr kvs k (ë e) rfl)
def DPut.k{H:Hp}{a:Addr}{kvs:bp7}{k:Key}{v:V}(e:IY>=(.dK kvs))(hl:aO9 dQ):DPut H a cr1 v (dj3 (bs6 k v)):=ë ⟨kvs,k,e,rfl,hl,rfl⟩
section
variable{X:Cx}{O9:C8}{σ:St}{H:Hp}{s:Shared}{a:Addr}{y v:V}{u r:Value}{o:aY9}{A:Around}{E:C7}
def Inv.big(I:ag):N9 sysModules:=by have h:N9 mainGlobals:=(al0).lt;exact Nat.lt_trans Â h
def Qix{Q:C7}(J:aR6 1<cLine)(I:ag)(g:DGet H a y Oy)(F:cM0)(h:∀w' s',γ s'->RelV v w'->Q w' s'):
  Ŷ A (getItem ş u) Q E s:=by
 rcases g with ⟨kvs,k,e,j,l⟩|⟨kvs,k,b,e,j,G,l⟩
 ·subst j;obtain⟨z,hd,vs,c,i⟩:=bY3 e;obtain⟨w',C,d⟩:=RelO.some_of (v:=v) (o:=cf1 vs) (Æ l ai7);exact wpAny_getItem_of (Gn F) i.mapOf C (h w' _ ϩ d)
 ·subst j;cases é (u=Ϗ b) F;obtain⟨z,hd,xs,c,i⟩:=cV9 e;obtain⟨w',C,d⟩:=RelO.some_of (v:=v) (o:=aN9 cQ2) (Æ l ai7);obtain⟨p,hp,x⟩:=by4 C;refine wpAny_getItem_heap (Ts J) (cV8 G) i hp ?_;rw[x];exact h w' _ ϩ d
def Qne{Q:C7}(C:aR6 1<cLine)(I:ag)(g:DGet H a y o)(j:cM0)(h:∀s',γ s'->Q (x5 (i7 o.isSome)) s'):
  Ŷ A (compareOp .NotIn u ş) Q E s:=by
 rcases g with ⟨kvs,k,e,i,l⟩|⟨kvs,k,b,e,i,x,l⟩
 ·subst i;obtain⟨z,hd,vs,c,d⟩:=bY3 e;refine wpAny_notIn_of (Gn j) hd d.mapOf ?_;rw[<- (ai7).isSome_eq,<- l];exact h _ ϩ
 ·subst i;cases é (u=Ϗ b) j;obtain⟨z,hd,xs,c,d⟩:=cV9 e;refine wpAny_notIn_heap (Ts C) (cV8 x) hd d ?_;have q:=(ai7).isSome_eq;rw[Option.isSome_map]at q;rw[<- q,<- l];exact h _ ϩ
def OD{h':Heap}{t':Nat}(I:ag)(mu:Mut IY)(i:dg0 a h')(d:∃q,ž a q)(new:ObjOk X.prog X.w (bt5 ob) h' a ob):
  ū (bt5 ob) aH9 :=
 I.write (x:=a) (e:=a) mu ĭ (λ b q c z=>à (i.2 b c) z) d new
def M_{w:World}{d:Hp}{h':Heap}{kvs:bp7}{vs:ŗ Value}(z:Ă dQ)(hd:IH a)(c:aK1)(e:h'.DictOf (Jk P w) a vs):
  aK2 w d h' a (.dK kvs):=⟨z,hd,vs,c,e⟩
def Qiy{Q:Unit->ϲ}(Z:aR6 1<cLine)(I:ag)(g:DPut H a y v H')(O:cM0)(L:RelV v r)(h:∀s',ū H' s'->Q () s'):
  Ŷ A (setItem ş u r) Q E s:=by
 rcases g with ⟨kvs,k,e,C,l,x⟩|⟨kvs,k,b,e,C,G,l,x⟩
 ·subst C x;obtain⟨z,hd,vs,d,j⟩:=Tj I.hok e;have hz:Ă aE1:=ð ⇑d z
  have hl:Ă ⇑(bs6 k v):=ī (yo kvs k v)
  refine wpAny_setItem_pairs (hsz:=hz) (Gn O) j λ h' i F=>h _ ?_;have U:∃q,ž a q:=let ⟨q,_,_,hq,_⟩:=i;İ q hq;exact OD I (bo2 e) F U (M_ hl hd (d.put k L) i)
 ·subst C x;cases é (u=Ϗ b) O;obtain⟨z,hd,xs,d,j⟩:=Xd I.hok e;have hz:db9:=ð (Paired.length d) z
  have hl:Ă ⇑(bs6 k v):=ī (yo kvs k v)
  refine wpAny_setItem_heap (hsz:=hz) (Ts Z) (cV8 G) j λ h' i F=>h _ ?_;obtain⟨q,es,P,hq,h2,h3,h4,_,h5⟩:=i;refine OD I (bo2 e) F (İ q hq) ⟨hl,hd,_,(d.put k G L).keeps (ĵ c ys J),q,es,P,hq,h2,h3,h4,h5⟩;rw[Q0 (QsB J e bH3)];exact J
#where
section
variable{X:Cx}{O9:C8}{σ:St}{H:Hp}{s:Shared}{a:Addr}{kvs:bp7}{k:Key}{u:Value}{A:Around}{E:C7}
def Qsb{Q:C7}(I:ag)(e:Rd H a (.dK kvs))(h:∀t s',γ s'->Q (bi0 dQ) s'):Ŷ A (aE7 "len" cw3) Q E s:=by obtain⟨z,hd,vs,c,d⟩:=bY3 e;refine call_len_dict hd d (by rw[<- ⇑c];rw[sizeLine_eq]at z;lia) ?_;rw[<- ⇑c];exact h _ _ ϩ
#where
def QdJ{s:Shared}{a:Addr}{o:aY9}(I:ag)(g:DGet H a y o):s.TypeIs ş AM := by
 rcases g with ⟨kvs,k,e,_,_⟩|⟨kvs,k,b,e,_,_,_⟩
 ·obtain⟨_,_,vs,_,c⟩:=bY3 e;exact c.typeIs
 ·obtain⟨_,_,xs,_,c⟩:=cV9 e;exact c.typeIs
section
variable{X:Cx}{o i e value:Expr}{pos pos' tpos:Pos}{td ty tv:TE}
#where
def So{w:World}(h:Heap)(a:sysModules<h.objs.size):aK2 w H (h.push (ϵ AM (.dict #[]))) h.objs.size (.dK []) :=
 ⟨up,eW (Ł (Bc a)),[],lS,Heap.DictOf.new h⟩
section
variable{X:Cx}{pos:Pos}
#where
def E_:â TE TE->St->Hp->θ (â V V->eg)
 | [],_,H,Q=>Q [] H
 | (tk,a)::r,σ,H,Q=>tk σ H λ x H1=>a σ H1 λ y H2=>E_ r σ H2 λ ps H3=>Q ((x,y)::ps) H3
abbrev VV:â V V->θ (ah6 Value):=Paired λ p q=>RelV oB q.1/\RelV p.2 q.2
def PPs(X:Cx)(pos:Pos)(a:Ã ak3)(values:Α)(c:â TE TE):ç :=
  ∀(O9 : A0)(s : Shared)(σ : St)(H : Hp)(Q : â V V -> eg), ag -> E_ c σ H Q ->
    ϛ (evalPairs (pairTrees a values X.env pos)) (λ vs s'=>∃ps H',ū H' s'/\VV ps vs/\Q ps H') s
def XY(kvs more:bp7):bp7:=more.foldl (λ acc a=>xI acc a.1 a.2) kvs
def KV.merge:∀{more:bp7}{a:ŗ Value}{kvs:bp7}{vs:ŗ Value},KV more a->aK1->KV (XY kvs more) (merged vs a):=by
  intro more a kvs vs r;unfold KV at r;induction r generalizing kvs vs with
  |nil=>intro q;exact q
  |@cons p q ps i h t c =>
    intro d;have e:KV (bs6 oB p.2) (stored vs q.1 q.2):=by have:=d.put oB h.2;rw[<- h.1];exact this
    exact c e
def zQ:∀(more kvs:bp7),⇑(XY kvs more)<=dQ+more.length
  | [],kvs=>dm (dQ<=dQ+0)
  |p::r,kvs=>by have h1:=zQ r (bs6 oB p.2);have h2:=yo kvs oB p.2;show eM (XY (bs6 oB p.2) r)<=_;rw[A8];lia
def vP{w:World}:∀{kvs:bp7}{ws:ah6 Value},VV (au8 (λ e=>(kV e.1,e.2))) ws->∃d,Carries (Jk P w) ws d/\aK0 d
  | [],_,r=>ab6 List.map_nil r r ⟨[],True.intro,lS⟩
  |p::kvs,_,r=>by
    rw[A9]at r;cases r with
    |@cons a b j bs h t=>obtain⟨d,c,q⟩:=vP (P:=P) (w:=w) t;obtain⟨o,i⟩:=b;exact⟨(oB,i)::d,Ņ (Gn h.1) c,ck8 h.2 q⟩
structure M1(X:Cx)(o:Expr)(m:Str)(apos:Pos)(e:Expr)(cpos:Pos):ç where
 O8:Lc o m aY8=aY8
 few:((ck5 [e]).all (λ x=>i7 x.1)&&(ay6 cpos []).all (λ x=>tm x.1)
  && LU (⇑([e]:Α)+⇑([]:OZ)+É (ce7 ([]:OZ)) 0 1) 30)=true
 line:œ cR3
 trees:ck5 [e]=[cs4]
structure M2(X:Cx)(o:Expr)(m:Str)(apos:Pos)(e f:Expr)(cpos:Pos):ç where
 O8:Lc o m aY8=aY8
 few:((ck5 [e,f]).all (λ x=>i7 x.1)&&(ay6 cpos []).all (λ x=>tm x.1)
  && LU (⇑([e,f]:Α)+⇑([]:OZ)+É (ce7 ([]:OZ)) 0 1) 30)=true
 line:œ cR3
 trees:ck5 [e,f]=[cs4,Ż f]
section
variable{X:Cx}{O9:C8}{σ:St}{H:Hp}{s:Shared}{a:Addr}{y d:V}{u r:Value}{o:aY9}{A:Around}{E:C7}
def QpT{Q:C7}(C:aR6 1<cLine)(I:ag)(g:DGet H a y o)(v:cM0)(h:∀w' s',γ s'->RelV (o.getD Ę) w'->Q w' s'):
  Ŷ A (aE7 bY4 [ν,u]) Q E s:=by
 rcases g with ⟨kvs,k,e,j,l⟩|⟨kvs,k,b,e,j,x,l⟩
 ·subst j;obtain⟨z,hd,vs,c,i⟩:=bY3 e;refine ak8 i.typeIs (cw9 _) (meets_dict_get bi7 a (Gn v) hd) (aQ5 i.mapOf (h _ _ ϩ ?_));rw[l];exact(ai7).getD rfl
 ·subst j;cases é (u=Ϗ b) v;obtain⟨z,hd,xs,c,i⟩:=cV9 e;refine ak8 i.typeIs (cw9 _) (meetsH_dict_get (ON X.prog X.w) a b hd) ⟨Ts C,k,xs,cV8 x,i,h _ _ ϩ ?_⟩;rw[l];exact(ai7).getD rfl
def QpU{Q:C7}(C:aR6 1<cLine)(I:ag)(g:DGet H a y o)(v:cM0)(rd:RelV d r)(h:∀w' s',γ s'->RelV (o.getD d) w'->Q w' s'):
  Ŷ A (aE7 bY4 [ν,u,r]) Q E s:=by
 rcases g with ⟨kvs,k,e,j,l⟩|⟨kvs,k,b,e,j,x,l⟩
 ·subst j;obtain⟨z,hd,vs,c,i⟩:=bY3 e;refine ak8 i.typeIs (PySem.F.args_dict_get_3 _ _ _) (meets_dict_get_default bi7 a (Gn v) hd r) (aQ5 i.mapOf (h _ _ ϩ ?_));rw[l];exact(ai7).getD rd
 ·subst j;cases é (u=Ϗ b) v;obtain⟨z,hd,xs,c,i⟩:=cV9 e;refine ak8 i.typeIs (PySem.F.args_dict_get_3 _ _ _) (meetsH_dict_get_default (ON X.prog X.w) a b hd r) ⟨Ts C,k,xs,cV8 x,i,h _ _ ϩ ?_⟩;rw[l];exact(ai7).getD rd
#where
section
variable{X:Cx}{o e f:Expr}{apos cpos:Pos}{td ty tx:TE}
#where
section
variable{X:Cx}{O9:C8}{σ:St}{H:Hp}{s:Shared}{a:Addr}{kvs:bp7}{A:Around}{E:C7}
#where
section
variable{X:Cx}{O9:C8}{σ:St}{H:Hp}{s:Shared}{a:Addr}{y:V}{u:Value}{A:Around}{E:C7}
#where
section
variable{X:Cx}
def Qiq:IZ X "len" (λ xs H Q=>∃a kvs,xs=[V.ref a]/\IY>=(.dK kvs)/\Q ↥dQ H):=by intro e s σ H xs us Q I r h;obtain⟨a,kvs,rfl,ha,q⟩:=h;obtain⟨u,rfl,d⟩:=qT r;cases d;exact Qsb I (ë ha) λ t s' c=>cT1 dQ H c (bT t)
#where
section
variable{κ:rV}[cf0 κ]
#where
#print L2
namespace D
open PySem PySem.Spec PyProof.Rows L2
abbrev St:=L2.St
inductive DV where
 |non|bl (b:Bool)|int (i:Int)|str (x:Str)|tup (xs:Û)|lst (xs:Û)|ref (i:Nat)
inductive OV where
 |lst (xs:Û)
 |aL (kvs:h7)
 |ins (c:Str) (fs:AX)
abbrev Hs:=Ã OV
abbrev M:=StateT Hs Option
abbrev Ee:=cf
mutual
def aA(K:Aa)(ρ:Ed)(B:Ec)(H:Hp):Rq (θ V)
 |.non,v=>v=Ę
 |.bl b,v=>v=IU
 |.int i,v=>v=dz
 |.str x,v=>v=ϧ
 |.tup ds,v=>∃a xs,v=ν/\¬ B a/\ct5/\sT
 |.lst ds,v=>∃a xs,v=ν/\¬ B a/\Pm K a/\sT
 |.ref i,v=>∃a,v=ν/\Ϥ ρ a
def au(K:Aa)(ρ:Ed)(B:Ec)(H:Hp):Û->bS8
 | [],xs=>xs=[]
 |d::ds,xs=>∃x r,xs=x::r/\Pf x/\mx r
end
def bH(K:Aa)(ρ:Ed)(B:Ec)(H:Hp)(a:Addr):θ OV
 |.lst ds=>∃xs,ģ IY xs/\sT
 |.aL kvs=>∃xs:bp7,IY>=(.dK xs)/\nj μ=au8 μ/\i4 (au8 iX) (nj iX)
 |.ins c fs=>∃(C d:Addr)(xs:dc3),ε K c>=bW1/\IY>=(cd0 d xs)/\nj μ=ad3/\i4 (fs.map iX) (nj iX)
structure Gr(K:Aa)(ρ:Ed)(B:Ec)(H:Hp)(ρ':Ed)(B':Ec)(H':Hp):ç where
 pre:ρ <+: ρ'
 ban:∀a,B a->B' a
 new:∀a,B' a->B a∨(Ξ a/\LA a)
 bW:∀a∈ρ',a∈ρ∨Ξ a
 keep:∀a o,a∉ρ->IY>=o->H' a>=o
 trk:∀a,Ν (H' a)->Ξ a
structure aP(K:Aa)(ρ:Ed)(B:Ec)(hp:Hs)(H:Hp):ç where
 len:⇑ρ=eI
 nd:ρ.Nodup
 obj:bd3 i a Addr o OV (Ϥ ρ a->Ϥ hp o->bH K ρ B H a o)
 rb:∀a∈ρ,B a
 bt:∀a,B a->IY≠none
 bk:∀a,B a->LA a
section
variable{K:Aa}{ρ ρ' ρ'':Ed}{B B' B'':Ec}{H H' FZ:Hp}
def Gr.refl:wa K B H ρ B H:=⟨Cb,bW6,tj h h,tj h h,wx h h,bW6⟩
def Gr.trans(a:bX1)(b:Gr K ρ' B' H' ρ'' B'' FZ):wa K B H ρ'' B'' FZ where
 pre:=a.pre.trans b.pre
 ban:=λ x h=>b.ban x (a.ban x h)
 new:=λ x h=>(b.new x h).elim (a.new x) λ z=>mf (a.trk x z.1) z.2
 bW:=λ x h=>(b.bW x h).elim (a.bW x) λ z=>Ĉ (a.trk x z)
 keep:=λ x o hn h=>b.keep x o (λ z=>(a.bW x z).elim hn (λ z=>ı h z z)) (a.keep x o hn h)
 trk:=λ x h=>a.trk x (b.trk x h)
structure Gs(K:Aa)(ρ:Ed)(B:Ec)(H:Hp)(ρ':Ed)(B':Ec)(H':Hp):ç where
 pre:ρ <+: ρ'
 new:∀a,B' a->B a∨(Ξ a/\LA a)
 keep:∀a o,¬ B a->IY>=o->H' a>=o
 trk:∀a,Ν (H' a)->Ξ a
def Gr.gs(rb:∀a∈ρ,B a)(g:bX1):bz1:=⟨g.pre,g.new,λ a o c h=>g.keep a o (λ z=>c (rb a z)) h,g.trk⟩
def Gs.refl:by8 ρ B H:=⟨Cb,tj h h,wx h h,bW6⟩
def Gs.trans(a:bz1)(b:Gs K ρ' B' H' ρ'' B'' FZ):by8 ρ'' B'' FZ where
 pre:=a.pre.trans b.pre
 new:=λ x h=>(b.new x h).elim (a.new x) λ z=>mf (a.trk x z.1) z.2
 keep:=λ x o c h=>b.keep x o (λ z=>(a.new x z).elim c λ q=>ı h q q.1) (a.keep x o c h)
 trk:=λ x h=>a.trk x (b.trk x h)
def SqT.trk{a:Addr}(h:ct5):IY≠none∨∃o,δ a>=o:=by
 rcases h with (h|⟨o,h⟩)|⟨o,_,_,h,_⟩
 ·exact ë (Ϝ h)
 ·exact ë (Ϝ h)
 ·exact mf o h
def SqL.trk{a:Addr}(h:Pm K a):IY≠none∨∃o,δ a>=o:=by
 rcases h with (h|⟨o,h⟩)|⟨o,_,_,h,_⟩
 ·exact ë (Ϝ h)
 ·exact ë (Ϝ h)
 ·exact mf o h
def Gs.ok{a:Addr}(g:bz1)(c:¬ B a)(t:IY≠none∨∃o,δ a>=o):¬ B' a:=λ z =>
 (g.new a z).elim c λ⟨n,k⟩=>t.elim (λ q=>q n) λ⟨o,q⟩=>ı k q q
def Gs.B_{a:Addr}(g:bz1)(c:¬ B a)(h:ct5):SqT K H' a xs:=by
 rcases h with (h|⟨o,h⟩)|h
 ·exact ë (ë (g.keep _ _ c h))
 ·exact ë (mf o (g.keep _ _ c h))
 ·exact Ĉ h
def Gs.Pq{a:Addr}(g:bz1)(c:¬ B a)(h:Pm K a):SqL K H' a xs:=by
 rcases h with (h|⟨o,h⟩)|h
 ·exact ë (ë (g.keep _ _ c h))
 ·exact ë (mf o (g.keep _ _ c h))
 ·exact Ĉ h
def Hm{i:Nat}{a:Addr}(p:ρ <+: ρ')(h:Ϥ ρ a):Ϥ ρ' a:=by obtain⟨t,rfl⟩:=p;rw[Ag aV7];exact h
mutual
def aA.gs(g:bz1):∀(d:DV)(v:V),cm7->aA K ρ' B' H' d v
  |.non,_,h=>EE aA h
  |.bl _,_,h=>EE aA h
  |.int _,_,h=>EE aA h
  |.str _,_,h=>EE aA h
  |.ref _,_,h=>by unfold aA at h ⊢;obtain⟨a,e,h⟩:=h;exact⟨a,e,Hm g.pre h⟩
  |.tup ds,_,h=>by unfold aA at h ⊢;obtain⟨a,xs,e,c,i,j⟩:=h;exact⟨a,xs,e,g.ok c (SqT.trk i),g.B_ c i,au.gs g ds xs j⟩
  |.lst ds,_,h=>by unfold aA at h ⊢;obtain⟨a,xs,e,c,i,j⟩:=h;exact⟨a,xs,e,g.ok c (SqL.trk i),g.Pq c i,au.gs g ds xs j⟩
def au.gs(g:bz1):∀(ds:Û)(xs:η),sT->au K ρ' B' H' ds xs
  | [],_,h=>EE au h
  |d::ds,_,h=>by unfold au at h ⊢;obtain⟨x,r,e,h1,h2⟩:=h;exact⟨x,r,e,aA.gs g d x h1,au.gs g ds r h2⟩
end
def aA.grow(rb:∀a∈ρ,B a)(g:bX1)(d:DV)(v:V)(h:cm7):aA K ρ' B' H' d v:=aA.gs (g.gs rb) d v h
def au.grow(rb:∀a∈ρ,B a)(g:bX1)(ds:Û)(xs:η)(h:sT):au K ρ' B' H' ds xs:=au.gs (g.gs rb) ds xs h
def au.length:∀{ds:Û}{xs:η},sT->ã=ŝ
  | [],_,h=>by unfold au at h;subst h;rfl
  |d::ds,_,h=>by unfold au at h;obtain⟨x,r,rfl,_,h2⟩:=h;simp[au.length h2]
def au.get:∀{ds:Û}{xs:η}{i:Nat}{d:DV},sT->aI6->∃x,bU3/\Pf x
  | [],_,_,_,_,e=>iS e
  |d::ds,_,0,_,h,e=>by unfold au at h;obtain⟨x,r,rfl,h1,_⟩:=h;simp at e;subst e;exact Ņ x h1
  |d::ds,_,i+1,_,h,e=>by unfold au at h;obtain⟨x,r,rfl,_,h2⟩:=h;obtain⟨y,h3,h4⟩:=au.get h2 (Ë e);exact⟨y,Ë h3,h4⟩
def au.nil:i4 [] []:=Ϙ au
def au.cons{d:DV}{x:V}(h:Pf x)(t:sT):i4 (d::ds) (x::xs):=ľ au (t6 x xs h t)
def au.append:∀{ds es:Û}{xs ys:η},sT->i4 es ys->i4 (ds++es) (xs++ys)
  | [],_,_,_,h,t=>by unfold au at h;subst h;exact t
  |d::ds,_,_,_,h,t=>XP au h x r h1 h2 h (ai8 h1 (aq2 h2 t))
def au.one(h:Pf x):i4 [d] [x]:=ai8 h au.nil
def au.take:∀(n:Nat){ds:Û}{xs:η},sT->i4 (aq3 n) (xs.take n)
  |0,_,_,_=>by simp;exact au.nil
  |_+1,[],_,h=>bY6 au h h
  |n+1,d::ds,_,h=>XP au h x r h1 h2 h (ai8 h1 (au.take n h2))
def au.drop:∀(n:Nat){ds:Û}{xs:η},sT->i4 (m9 n) (xs.drop n)
  |0,_,_,h=>h
  |_+1,[],_,h=>bY6 au h h
  |n+1,d::ds,_,h=>XP au h x r h1 h2 h (au.drop n h2)
def Gr.laid{p:Addr}(h:cD1):wa K B H ρ B (Ž p o) where
 pre:=Cb
 ban:=bW6
 new:=tj h h
 bW:=tj h h
 keep:=λ a u _ q=>bf0 q h q
 trk:=λ a q=>by
  by_cases e:a=p
  ·subst e;rw[Q9]at q;cases q
  ·rw[Q0 e]at q;exact q
def bH.gs{a:Addr}(g:bz1)(j:H' a=IY)(h:bH K ρ B H a o):bH K ρ' B' H' a o:=by
  cases o with
  |lst ds=>obtain⟨xs,e,d⟩:=h;exact⟨xs,cW1 e,E9 g _ d⟩
  |aL kvs=>obtain⟨xs,e,i,d⟩:=h;exact⟨xs,cW1 e,i,E9 g _ d⟩
  |ins c fs=>obtain⟨C,r,xs,u,e,i,d⟩:=h;exact⟨C,r,xs,u,cW1 e,i,E9 g _ d⟩
def aP.laid{p:Addr}(W:bF0)(h:cD1):bE9 (Ž p o) where
 len:=W.len
 nd:=W.nd
 obj:=λ i a u e q=>bH.gs ((aq4 h).gs W.rb) (by have c:=W.bt a (W.rb a ce2);exact Q0 (λ z=>c (z▸h))) (W.obj i a u e q)
 rb:=W.rb
 bt:=λ a z q=>W.bt a z ((aq5 K K ρ B B h).trk a q)
 bk:=W.bk
#where
inductive Sl where
 |un|val (d:DV)|acc (ds:Û)
abbrev En:=Ã Sl
structure Ent where
 ρ:da8
 B:θ Addr
 H:Hp
structure bN(K:Aa)(Z:Ent)(env:En)(σ:St)(ρ:Ed)(B:Ec)(hp:Hs)(H:Hp):ç where
 gr:Gr K Z.ρ Z.B Z.H ρ B H
 zb:∀a,Z.B a->Z.H a≠none
 wo:bF0
 slot:Œ i d DV (bh9 cL4->∃v,Ϥ σ Oy/\cm7)
 dX:Œ i ds Û (di0->∃a xs,Ϥ σ aN3/\ģ IY xs/\Ν (Z.H a)/\B a/\a∉ρ/\sT)
 fM:∀(i j:Nat)(ds es:Û)(a:Addr),di0->cF1>=ax8->Ϥ σ aN3->G1 σ>=aN3->i=j
 len:⇑σ=bv7
def bN.grow{K:Aa}{Z:Ent}(S:bG2)(g:bX1)(W:aP K ρ' B' hp' H'):TW K Z ρ' B' hp' H' where
 gr:=S.gr.trans g
 zb:=S.zb
 wo:=W
 slot:=λ i d e=>ae8 v h1 h2 (S.slot i d e) v h1 (aA.grow S.wo.rb g d v h2)
 dX:=λ i ds e=>by
  obtain⟨a,xs,h1,h2,h3,h4,h5,c⟩:=S.dX i ds e;refine⟨a,xs,h1,g.keep a _ h5 h2,h3,g.ban a h4,bX3,au.grow S.wo.rb g ds xs c⟩;rcases g.bW a z with q|q
  ·exact h5 q
  ·rw[h2]at q;cases q
 fM:=S.fM
 len:=S.len
abbrev aG:=b5 En
abbrev cg:=En->OS
abbrev cB:=En->aS6
inductive Fl where
 |nx|rt (d:DV)|bk|ct
abbrev aF:=En->M cS1
def iM(K:Aa)(ρ:Ed)(B:Ec)(H:Hp)(d:DV)(hp':Hs)(Q:VK):ç :=
 ∀v ρ' B' H',bX1->aP K ρ' B' hp' H'->aA K ρ' B' H' d v->Q v H'
def Sq(K:Aa)(ρ:Ed)(B:Ec)(H:Hp)(hp':Hs)(Q:eg):ç :=
 ∀ρ' B' H',bX1->aP K ρ' B' hp' H'->Q H'
def Qtl(K:Aa)(ρ:Ed)(B:Ec)(H:Hp)(ds:Û)(hp':Hs)(Q:η->eg):ç :=
 ∀vs ρ' B' H',bX1->aP K ρ' B' hp' H'->au K ρ' B' H' ds vs->Q vs H'
def tD(K:Aa)(f:aG):TE:=λ σ H Q=>∃Z env ρ B hp d hp',bG2/\cN8 aE/\iM K ρ B H d hp' Q
def eV(K:Aa)(f:cg):TT:=λ σ H Q=>∃Z env ρ B hp d hp',bG2/\cN8 aE/\Sq K ρ B H hp' (Q d)
def fW(K:Aa)(f:cB):TA:=λ σ H Q=>∃Z env ρ B hp ds hp',bG2/\Pp aE ds/\Qtl K ρ B H ds hp' Q
def DE(X:Cx)(e:Expr)(f:aG):ç:=cr e (tD X.K f)
def DT(X:Cx)(e:Expr)(f:cg):ç:=PT X e (eV X.K f)
def DW(X:Cx)(e:Expr)(f:cg):ç:=PW X e (eV X.K f)
def DA(X:Cx)(es:Α)(f:cB):ç:=PA X es (fW X.K f)
def nU(K:Aa)(Z:Ent)(ρ:Ed)(B:Ec)(H:Hp)(c:Fl)(a:En)(hp':Hs)(D:vA):ç :=
  ∀σ' ρ' B' H', bz1 -> bN K Z a σ' ρ' B' hp' H' -> match c with
    |.nx=>D.nx σ' H'
    |.bk=>D.bk σ' H'
    |.ct=>D.ct σ' H'
    |.rt d=>∀v,aA K ρ' B' H' d v->D.rt v H'
def mV(K:Aa)(f:aF):TS:=λ D σ H=>∃Z env ρ B hp c a hp',bG2/\Pp aE (c,a)/\nU K Z ρ B H c a hp' D
def DS(X:Cx)(st:Stmt)(f:aF):ç:=PS X st (mV X.K f)
def iQ(X:Cx)(st:G6)(f:aF):ç:=PSs X st (mV X.K f)
section
variable{X:Cx}
def _root_.L2.PE.imp{t t':TE}(h:cr e t)(i:∀σ H Q,t' σ H Q->t σ H Q):cr e t':=λ a s σ H Q I q=>h a s σ H Q I (i σ H Q q)
def _root_.L2.PT.imp{t t':TT}(h:PT X e t)(i:∀σ H Q,t' σ H Q->t σ H Q):PT X e t':=λ a s σ H Q I q=>h a s σ H Q I (i σ H Q q)
def _root_.L2.PW.imp{t t':TT}(h:PW X e t)(i:∀σ H Q,t' σ H Q->t σ H Q):PW X e t':=λ a O9 s σ H Q I q=>h a O9 s σ H Q I (i σ H Q q)
def _root_.L2.PA.imp{es:Α}{t t':TA}(h:PA X es t)(i:∀σ H Q,t' σ H Q->t σ H Q):PA X es t':=λ pos O9 s σ H Q I q=>h pos O9 s σ H Q I (i σ H Q q)
def _root_.L2.PS.imp{st:Stmt}{t t':TS}(h:PS X st t)(i:∀Dn σ H,t' Dn σ H->t Dn σ H):PS X st t':=λ a s σ H Dn I q=>h a s σ H Dn I (i Dn σ H q)
def _root_.L2.PSs.imp{st:G6}{t t':TS}(h:PSs X st t)(i:∀Dn σ H,t' Dn σ H->t Dn σ H):PSs X st t':=λ a s σ H Dn I q=>h a s σ H Dn I (i Dn σ H q)
def Es(K:Aa)(H:Hp):ç:=∀a o,IY>=o->LA a
def Inv.oG(I:ag):Es X.K H:=λ a o e=>by
  cases q:FT a with
  |none=>rfl
  |some ob=>have:=(I.bs a ob (I.ok.mod.kin a ob q)).2;rw[e]at this;cases this
def _root_.L2.PE.kf{t:TE}(h:cr e t):cr e (λ σ H Q=>t σ H λ v a=>Es X.K a->Q v a):=λ c s σ H Q I q =>
 io (h c s σ H _ I q) u s' v a I' r z ⟨v,a,I',r,z (Inv.oG I')⟩
def Qg{α β:rV}{f:M α}{g:α->M β}{y:β}(h:Pp ((f >>= g) hp) y):∃x hp1,f hp>=(x,hp1)/\Pp (g x hp1) y:=by
 change (Pp ((f hp).bind (λ p=>g oB p.2)) y)at h;cases q:f hp with
 |none=>rw[q]at h;cases h
 |some p=>rw[q]at h;exact fh oB p.2 h
def Qm{α:rV}{x y:α}{hp hp':Hs}(h:Pp ((bZ8:M α) hp) y):x=y/\hp=hp':=by change (Pp (í (x,hp)) y)at h;cases h;exact ed
def tD.run{K:Aa}{f:aG}{Z:Ent}{Q:VK}(S:bG2)(e:aE>=(d,hp1))
  (k:∀v ρ' B' H',bX1->TW K Z ρ' B' hp1 H'->aA K ρ' B' H' d v->Q v H'):tD K f σ H Q :=
 ⟨Z,env,ρ,B,hp,d,hp1,S,e,λ v ρ' B' H' g W r=>k v ρ' B' H' g dj5 r⟩
def Qb(i:Nat):aG:=λ env=>match bJ6 with
 |some (.val d)=>cj4
 |_=>failure
def eC(d:DV):aG:=aL0 d
def QiG{i:Nat}{env:En}{hp hp':Hs}(h:cN8 (Qb i env hp)):bh9 cL4/\hp=hp':=by
  unfold Qb at h;cases q:bJ6 with
  |none=>rw[q]at h;cases h
  |some z =>
    rw[q]at h;cases z with
    |val x=>obtain⟨rfl,rfl⟩:=cJ8;exact ed
    |un=>cases h
    |acc _=>cases h
def o2{a b c:ç}(h:b):a∨b∨c:=mm h
def o3{a b c:ç}(h:c):a∨b∨c:=ak1 h
def Qa(i:Nat){x:Str}{pos:Pos}(c:au1:=by rfl)(hv:Rz x:=by first|exact al3|exact o2 rfl|exact o3 rfl)(hd:aC8:=by decide)
  (hcd:br7 x:=by decide):ϟ Ql (Qb i) :=
 (T8 c hv hd hcd).imp λ σ H Q a=>by obtain⟨Z,env,ρ,B,hp,d,hp',S,e,k⟩:=a;obtain⟨e1,rfl⟩:=QiG e;obtain⟨v,h1,h2⟩:=S.slot i d e1;exact⟨v,h1,LY v S.wo h2⟩
def xY(h:dd9 e v)(r:∀K ρ B H,cm7):ϟ e (eC d) :=
 h.imp λ σ H Q a=>by obtain⟨Z,env,ρ,B,hp,d',hp',S,e,k⟩:=a;obtain⟨rfl,rfl⟩:=CH;exact LY v S.wo (r _ _ _ _)
def Qq{i:Int}{j pos}:ϟ (cG6 bH6 j) (Ě i):=xY QqV bS2
def Yn{b:Bool}{j pos}:ϟ (cG6 (x5 b) j) (eC IU):=xY QsN bS2
def ZG{j pos}:ϟ (cG6 ey j) dO:=xY QqW bS2
def Q4{x:Str}{j pos}:ϟ (cG6 ϧ j) (ĝ x):=xY QqY bS2
def Qng{x:Str}{i:Int}{t:Tok}{pos:Pos}(a:ND x)(c:X.mg x>=bi1)(hd:aC8:=by decide):ϟ Ql (Ě i) :=
 xY (HG (v:=dz) a c (bT t) hd) bS2
def rF(K:Aa)(g:Rt):R2:=λ x y H Q=>∃ρ B hp a c d hp',bF0/\nz a x/\nz c y/\cN8 (g a c hp)/\iM K ρ B H d hp' Q
def P2(X:Cx)(f:bF3)(g:Rt):ç:=EA f (rF X.K g)
def Qh(g:Rt)(a b:aG):aG:=FP (do let x <- by2;let y <- b env;g x y)
variable{a b c:Expr}{fa fb fc:aG}{pos:Pos}
def yb{K:Aa}{g:Rt}(h:tD K (Qh g fa fb) σ H Q):tOp (rF K g) (tD K fa) (tD K fb) σ H Q:=by obtain⟨Z,env,ρ,B,hp,d,hp',S,e,k⟩:=h;obtain⟨x,hp1,e1,e2⟩:=Ū;obtain⟨y,i,e3,o⟩:=Fa;refine cN6 z (aF1 e3 (λ u ρ2 j H2 g2 S2 C=>?_));exact⟨ρ2,j,i,x,y,d,hp',S2.wo,ϸ g2 _ _ z,C,o,λ w ρ' B' H' g W r=>k w ρ' B' H' (sh g) W r⟩
def Qz{d:Operator}{g:Rt}(i:P2 X (fF d) g)(ha:dd7)(e:ϟ b fb):ϟ (.BinOp a d b pos) (Qh g fa fb) :=
 (QsO i ha e).imp (wx h (yb h))
def JG{d:CmpOp}{g:Rt}(j:Pw X d g)(ha:dd7)(e:ϟ b fb)(i:wJ d b):ϟ (co9 a [d] [b]) (Qh g fa fb) :=
 (Qoc j ha e i).imp (wx h (yb h))
def lE:cm9
 |.bl b=>î b
 |_=>failure
def eB(f:aG):cg:=FP (do lE (<- bb))
def zZ{d:DV}{c:Bool}{hp hp':Hs}(h:Pp (lE d hp) c):d=Ζ c/\hp=hp':=by
 cases d with
 |bl b=>obtain⟨rfl,rfl⟩:=cJ8;exact ed
 |_=>cases h
def aA.iu{K:Aa}{b:Bool}{v:V}(h:nz IU v):v=IU:=cy aA h h
def aA.bf{K:Aa}{b:Int}{v:V}(h:nz ↥b v):v=Ì b:=cy aA h h
def aA.bL{K:Aa}{b:Str}{v:V}(h:nz (Ü b) v):v=Ü b:=cy aA h h
def aA.fG{K:Aa}{v:V}(h:nz Ę v):v=Ę:=cy aA h h
def aA.tupI{K:Aa}{B:Ec}{v:V}(h:nz ny v):∃a xs,v=ν/\¬ B a/\ct5/\sT:=cy aA h h
def aA.b_{K:Aa}{B:Ec}{v:V}(h:nz hV v):∃a xs,v=ν/\¬ B a/\Pm K a/\sT:=cy aA h h
def aA.tL{K:Aa}{ρ:Ed}{i:Nat}{v:V}(h:nz ↑i v):∃a,v=ν/\Ϥ ρ a:=cy aA h h
section
variable{K:Aa}{ρ:Ed}{B:Ec}{H:Hp}
def Jn{b:Bool}:nz IU IU:=an1
def Js{b:Int}:nz ↥b ↥b:=an1
def j8{b:Str}:nz (Ü b) (Ü b):=an1
def yU:nz Ę Ę:=an1
def j9{a:Addr}(h1:¬ B a)(h2:ct5)(h3:sT):nz ny ş:=ľ aA ⟨a,xs,rfl,h1,h2,h3⟩
def UR{a:Addr}(h1:¬ B a)(h2:Pm K a)(h3:sT):nz hV ş:=ľ aA ⟨a,xs,rfl,h1,h2,h3⟩
#where
def Xd{e:Expr}(h:cl0)(j:∀whole,cn0 e=bk1 v whole e.pos (OE [v] aR2):=by intro _;rfl):DT X e (eB f) :=
 (Qrd h j).imp λ σ H Q i=>by obtain⟨Z,env,ρ,B,hp,d,hp',S,e,k⟩:=i;obtain⟨x,hp1,e1,e2⟩:=Ū;obtain⟨rfl,rfl⟩:=zZ e2;exact cN6 o ⟨d,o.iu,k ρ1 B1 H1 g1 S1.wo⟩
def QV{i:CmpOp}{g:Rt}(u:Pw X i g)(ha:dd7)(o:ϟ b fb)(r:wJ i b):DT X (co9 a [i] [b]) (nB g fa fb) :=
 (Qot u ha o r).imp λ σ H Q j=>by obtain⟨Z,env,ρ,B,hp,d,hp',S,e,k⟩:=j;obtain⟨x,hp1,e1,e2⟩:=Ū;obtain⟨rfl,rfl⟩:=zZ e2;exact yb (cN6 y ⟨d,y.iu,k ρ1 B1 H1 g1 S1.wo⟩)
def qV(f g:cg):cg:=Rn bb To TH
def iJ(f g:cg):cg:=Rn bb bR7 To
def Xn(f:cg):cg:=FP (oE b bb (i7 b))
def v0(f g:aG):aG:=Rn (lE (<- bb)) To (î Θ)
def rB(f g:aG):aG:=Rn (lE (<- bb)) (î Η) To
def cP(c:cg)(f g:aG):aG:=Rn (c env) bb To
def eV.run{K:Aa}{f:cg}{Z:Ent}{d:Bool}{Q:cu6}(S:bG2)(e:aE>=(d,hp1))
  (k:∀ρ' B' H',bX1->TW K Z ρ' B' hp1 H'->Q d H'):eV K f σ H Q :=
 ⟨Z,env,ρ,B,hp,d,hp1,S,e,λ ρ' B' H' g W=>k ρ' B' H' g dj5⟩
variable{ca cb:cg}{rest:Α}
def jT(h:DT X a ca):DW X (aX1 [a]) ca:=Qox h
def VS(h:DT X a ca):DW X (bK6 [a]) ca:=Qrg h
def x9(ha:DT X a ca)(j:DW X co2 cb):DW X (aX1 (a::aQ8)) (qV ca cb) :=
  (Qrf ha j).imp λ σ H Q i=>by
    obtain⟨Z,env,ρ,B,hp,d,hp',S,e,k⟩:=i;obtain⟨x,hp1,e1,e2⟩:=Ū;refine cR5 S e1 ρ1 B1 H1 g1 S1;cases x with
    |true=>exact mJ (eV.run S1 e2 λ ρ2 B2 H2 g2 S2=>k ρ2 B2 H2 ah8 S2.wo)
    |false=>obtain⟨rfl,rfl⟩:=bd;exact mK (k ρ1 B1 H1 g1 S1.wo)
def Gi(ha:DT X a ca)(j:DW X cp4 cb):DW X (bK6 (a::aQ8)) (iJ ca cb) :=
  (QsS ha j).imp λ σ H Q i=>by
    obtain⟨Z,env,ρ,B,hp,d,hp',S,e,k⟩:=i;obtain⟨x,hp1,e1,e2⟩:=Ū;refine cR5 S e1 ρ1 B1 H1 g1 S1;cases x with
    |false=>exact mK (eV.run S1 e2 λ ρ2 B2 H2 g2 S2=>k ρ2 B2 H2 ah8 S2.wo)
    |true=>obtain⟨rfl,rfl⟩:=bd;exact mJ (k ρ1 B1 H1 g1 S1.wo)
def DW.pt(h:DW X e f):DT X e f:=h _
def J5(h:DT X a ca):DT X (.UnaryOp .Not a pos) (Xn ca) :=
 (Qrc h).imp λ σ H Q i=>by obtain⟨Z,env,ρ,B,hp,d,hp',S,e,k⟩:=i;obtain⟨x,hp1,e1,e2⟩:=Ū;obtain⟨rfl,rfl⟩:=bd;exact eV.run S e1 λ ρ1 B1 H1 g1 S1=>k ρ1 B1 H1 g1 S1.wo
def vU{d:BoolOp}(h:dd7):dd6 (IC d [a]):=QqX h
def Nb(ha:dd7)(o:ϟ co2 fb):ϟ (aX1 (a::aQ8)) (v0 fa fb) :=
  (QqS ha o).imp λ σ H Q j=>by
    obtain⟨Z,env,ρ,B,hp,d,hp',S,e,k⟩:=j;obtain⟨x,hp1,e1,e2⟩:=Ū;obtain⟨c,r,e3,i⟩:=Fa;obtain⟨rfl,rfl⟩:=zZ e3;refine cN6 u (mY c u.iu);cases c with
    |true=>exact mJ (aF1 i (λ v ρ2 B2 H2 g2 S2 y=>k v ρ2 B2 H2 ah8 S2.wo y))
    |false=>obtain⟨rfl,rfl⟩:=Qm i;exact mK (bg5 Jn)
def Mh(ha:dd7)(o:ϟ cp4 fb):ϟ (bK6 (a::aQ8)) (rB fa fb) :=
  (QsP ha o).imp λ σ H Q j=>by
    obtain⟨Z,env,ρ,B,hp,d,hp',S,e,k⟩:=j;obtain⟨x,hp1,e1,e2⟩:=Ū;obtain⟨c,r,e3,i⟩:=Fa;obtain⟨rfl,rfl⟩:=zZ e3;refine cN6 u (mY c u.iu);cases c with
    |false=>exact mK (aF1 i (λ v ρ2 B2 H2 g2 S2 y=>k v ρ2 B2 H2 ah8 S2.wo y))
    |true=>obtain⟨rfl,rfl⟩:=Qm i;exact mJ (bg5 Jn)
def Vp(r:DT X c ca)(ha:dd7)(o:ϟ b fb):ϟ (.IfExp c a b pos) (cP ca fa fb) :=
 (Qlv r ha o).imp λ σ H Q j=>by
  obtain⟨Z,env,ρ,B,hp,d,hp',S,e,k⟩:=j;obtain⟨x,hp1,e1,e2⟩:=Ū;refine cR5 S e1 ρ1 B1 H1 g1 S1;cases x with
  |true=>exact mJ (aF1 e2 (λ v ρ2 B2 H2 g2 S2 i=>k v ρ2 B2 H2 ah8 S2.wo i))
  |false=>exact mK (aF1 e2 (λ v ρ2 B2 H2 g2 S2 i=>k v ρ2 B2 H2 ah8 S2.wo i))
def Qj:cB:=aL0 []
def Qc(f:aG)(g:cB):cB:=FP (do let x <- bb;let xs <- To;î (x::xs))
def fW.run{K:Aa}{f:cB}{Z:Ent}{Q:η->eg}(S:bG2)(e:aE>=(ds,hp1))
  (k:∀vs ρ' B' H',bX1->TW K Z ρ' B' hp1 H'->au K ρ' B' H' ds vs->Q vs H'):fW K f σ H Q :=
 ⟨Z,env,ρ,B,hp,ds,hp1,S,e,λ vs ρ' B' H' g W r=>k vs ρ' B' H' g dj5 r⟩
def Qi:DA X [] Qj:=pa_nil.imp λ σ H Q d=>by obtain⟨Z,env,ρ,B,hp,ds,hp',S,e,k⟩:=d;obtain⟨rfl,rfl⟩:=CH;exact LY [] S.wo au.nil
def Qd{e:Expr}{es:Α}(ha:cl0)(o:DA X es g)(r:cB4=cs4::bo6:=by rfl):DA X (e::es) (Qc f g) :=
 (XQ ha o r).imp λ σ H Q d=>by obtain⟨Z,env,ρ,B,hp,ds,hp',S,e,k⟩:=d;obtain⟨x,hp1,e1,e2⟩:=Ū;obtain⟨xs,j,e3,i⟩:=Fa;obtain⟨rfl,rfl⟩:=Qm i;exact cN6 u (fW.run S1 e3 λ vs ρ2 B2 H2 g2 S2 y=>k _ ρ2 B2 H2 ah8 S2.wo (ai8 (ϸ g2 _ _ u) y))
def lim:Nat:=ŀ
def uF:Ă lim:=Â
def QI(c:Bool):bN4:=cB0 c (î ())
def QJ{c:Bool}{hp hp':Hs}{u:Unit}(h:Pp (QI c hp) u):œ c/\hp=hp':=by
 cases c with
 |true=>obtain⟨_,rfl⟩:=Qm (é (Pp ((î ():bN4) hp) u) h);exact ed
 |false=>cases h
def Yl(ds:Û):Bool:=Ib ã lim
def jw{ds:Û}(h:œ (Yl ds)):Ă ã:=Bh (C4 h) uF
def Z0(f:cB):aG:=FP (do let xs <- bb;ai9 xs;î IT)
def YY(f:cB):aG:=FP (do let xs <- bb;ai9 xs;am4 xs)
def yO{K:Aa}{H:Hp}{Q:VK}(W:bF0)(r:sT)(k:iM K ρ B H ny hp Q):∀p,cD1->cI1 (Ž p IT):=λ p hp' =>
 k _ ρ B _ cn6 (W.laid hp') (j9 (λ z=>W.bt p z hp') cx1 (aA1 W.rb cn6 _ r))
def zi{K:Aa}{H:Hp}{Q:VK}(W:bF0)(r:sT)(k:iM K ρ B H hV hp Q):∀p,cD1->cI1 (q7 p xs):=λ p hp' =>
 k _ ρ B _ cn6 (W.laid hp') (UR (λ z=>W.bt p z hp') (SqL.of Q9) (aA1 W.rb cn6 _ r))
def iM.after{K:Aa}(g:wa K B H ρ1 B1 H1)(k:iM K ρ B H d hp' Q):iM K ρ1 B1 H1 d hp' Q:=λ v ρ' B' H' g' W r=>k v ρ' B' H' (g.trans g') W r
def Zo{es:Α}{x1}(h:DA X es f):ϟ (cv5 es x1 pos) (Z0 f) :=
 (T9 h).imp λ σ H Q j=>by obtain⟨Z,env,ρ,B,hp,d,hp',S,e,k⟩:=j;obtain⟨xs,hp1,e1,e2⟩:=Ū;obtain⟨_,r,e3,o⟩:=Fa;obtain⟨u,rfl⟩:=cW4;obtain⟨rfl,rfl⟩:=Qm o;exact au9 S (rr vs B1 H1 g1 S1 i (İ (ð cu8 (jw u)) (yO S1.wo i bU1)))
def zK{es:Α}(h:DA X es f):ϟ (.List es pos) (YY f) :=
 (Mx h).imp λ σ H Q j=>by obtain⟨Z,env,ρ,B,hp,d,hp',S,e,k⟩:=j;obtain⟨xs,hp1,e1,e2⟩:=Ū;obtain⟨_,r,e3,o⟩:=Fa;obtain⟨u,rfl⟩:=cW4;obtain⟨rfl,rfl⟩:=Qm o;exact au9 S (rr vs B1 H1 g1 S1 i (İ (ð cu8 (jw u)) (zi S1.wo i bU1)))
#where
#print D
namespace L2
open PySem PySem.Spec PyProof.Rows
def J4(X:Cx)(scope:Scope)(cl:aB9)(C:Addr)(N:ő)(s₀:Shared)(H₀:Hp)(ex:Ed):Cx where
 prog:=X.prog
 w:=X.w
 K:=X.K
 mg:=X.mg
 O8:=X.O8
 A:=X.A
 N:=N
 s₀:=s₀
 H₀:=H₀
 env:=compEnvC scope cl C X.env
 outer:=X.stack
 stack:=X.stack
 ex:=ex
 fn:=λ_=>false
 calm:=X.calm
 pn:=[]
 xe:=o6
def AllP{α:rV}(P:θ α):θ AU
 | []=>True
 |x::r=>P x/\AllP P r
def AllP.mem{α:rV}{P:θ α}:∀{l:AU}{x:α},AllP P l->x∈l->P x
 | [],_,_,h=>i6 h
 |y::r,x,⟨h1,h2⟩,h=>(pw h).elim (λ e=>e▸h1) λ e=>AllP.mem h2 e
def dZ(X:Cx)(scope:Scope)(cl:aB9):ő->θ Ċ
  | [],[]=>True
  | y :: ys, i :: a => Ű X.N = í y /\ (ab9 y = í aK4 ∨ ab9 y = í bj9) /\ (∃c, bl9 y = cs3) /\
      af5 Iy y≠í nE/\dZ X scope cl ys a
  |_,_=>False
def dZ.get{cl:aB9}:∀{ys:ő}{d:Ċ}{j:Nat}{y:Str},dZ X scope cl ys d->G1 ys>=y ->
    ∃i,G1 d>=i/\Ϥ X.N y/\(ab9 y>=aK4∨ab9 y>=bj9)/\(∃c,bl9 y>=c)/\af5 Iy y≠í nE
  | [],_,_,_,_,h=>iS h
  |y::ys,[],_,_,h,_=>aL4 dZ
  |y::ys,i::d,0,z,⟨h1,h2,h3,h4,_⟩,h=>by simp at h;subst h;exact⟨i,rfl,h1,h2,h3,h4⟩
  |y::ys,i::d,j+1,z,⟨_,_,_,_,h5⟩,h=>n8 k a b (dZ.get h5 (Ë h)) ⟨k,Ë a,b⟩
def dZ.length{cl:aB9}:∀{ys:ő}{a:Ċ},dZ X scope cl ys a->Tm=bv6
 | [],[],_=>rfl
 | [],_::_,h=>aL4 dZ
 |_::_,[],h=>aL4 dZ
 |_::ys,_::a,⟨_,_,_,_,h⟩=>Ģ (dZ.length h)
structure cW(X:Cx)(x:Str)(scope:Scope)(cl:aB9)(caps:ő)(idx:Ċ):ç where
 clos:closureFor scope X.env=î cl
 cell:∀y∈scope.names,y.2≠aK4
 kind:scope.kind=aQ6
 names:∀y∈scope.names,y.2=nE->nK y.1>=nE
 hx:nK x>=nE
 cls:AllP (λ p:Str × Addr=>Ľ oB p.2) cl
 has:œ ((Iy).names.all λ p=>i7 (p.2==aK4||p.2==bj9)||tm (bl9 oB))
 cps:dZ X scope cl caps idx
 nd:(x::caps).Nodup
structure Mu(X:Cx)(scope:Scope)(cl:aB9)(caps:ő)(idx:Ċ):ç where
 clos:closureFor scope X.env=î cl
 cell:∀y∈scope.names,y.2≠aK4
 kind:scope.kind=aQ6
 names:∀y∈scope.names,y.2=nE->nK y.1>=nE
 cls:AllP (λ p:Str × Addr=>Ľ oB p.2) cl
 has:œ ((Iy).names.all λ p=>i7 (p.2==aK4||p.2==bj9)||tm (bl9 oB))
 cps:dZ X scope cl caps idx
def cσ(idx:Ċ)(σ:St)(o:aY9):St:=o::cx3 i (Ű σ).join
def cσs(idx:Ċ)(σ:St)(os:Ã aY9):St:=os++cx3 i (Ű σ).join
def rE(X:Cx)(a:Α)(t:TT):ç :=
  ∀(O9 : A0)(s : Shared)(σ : St)(H : Hp)(Q : cu6), ag -> t σ H Q ->
    ϛ (forIn a true λ c r=>π r (oE ok (af7 c (ä c)) (aL5 ok)) (î (aL5 r))) (TP X O9 σ Q) s
def Qou:rE X [] (λ_ H Q=>Q true H):=λ a s σ H Q I h=>wpAny_tests_nil ⟨H,I,h⟩
def Qov{t:TT}(h:PT X c t):rE X [c] t:=λ a s σ H Q I q=>wpAny_tests_one (h a s σ H Q I q)
section
variable{prog:Program}{w:World}{A:Around}{R:Result->ϲ}{s:Shared}
def Qb5{d target a:Expr}{e:Α}{scope:Scope}{pos:Pos}{i acc:Value}{env:Env}(I:d9 ϲ)
    (turn:∀n s,I n s->wpAny aJ6 A (pyNext i) (λ r s₁=>match r with
      |none=>R (.ok .next) s₁
      |some v=>wpAny aJ6 A (bx7 target i v) (λ_ s₁'=>wpAny aJ6 A (assign target env v) (λ_ s₂ =>
          wpAny aJ6 A (forIn e true λ c r=>π r (oE ok (isTrue c env (bX9 c)) (aL5 ok)) (î (aL5 r))) (λ ok s₃ =>
            if œ ok then wpAny aJ6 A (bX9 d) (λ x s₄ =>
              rp w A (aE7 ce8 [acc,x]) (λ_ s₅=>∃m,m<n/\I m s₅) o6 s₄) o6 s₃
            else ∃m,m<n/\I m s₃) o6 s₂) o6 s₁') o6 s₁) o6 s)
    (n:Nat) (h:I n s) :
    codeAny aJ6 A (.compLoop (bf9 d [⟨target,a,e,0⟩]) 0 i acc env) R s:=by
  refine codeAny_loop rfl I (ĵ n s hI) n h;show Ş A ((compTurn (bf9 d [⟨target,a,e,0⟩]) 0 i acc env).onRaise (λ x=>do noteFrame x env;theTreesLotGoes x)) _ _ s;refine wpAny_noted ?_;rw[compTurn_list];refine bk2 (Cv (ca9 (turn n s hI) (ĵ r s₁ h₁) h'));cases r with
  |none=>exact Cz h₁
  |some v =>
    refine Cv (ca9 h₁ (λ_ s₁' h₁'=>?_) h');refine Cv (ca9 h₁' (λ_ s₂ h₂=>Cv (ca9 h₂ (ĵ ok s₃ h₃) h')) h');cases ok with
    |false=>exact Cz (ā h₃)
    |true=>exact aK9 (ca9 h₃ (λ x s₄ h₄=>Cv (ca9 h₄ (λ_ s₅ h₅=>Cz (Cz (ā h₅))) h')) h')
#where
def Fb(K:Aa)(j:TI)(tg:V->Hp->θ bS8)(tt:TT)(te:TE)(idx:Ċ):TE:=λ σ H Q=>j σ H λ J d=>∀D,Ν (d D)->LA D->∃W:bT0 (η->eg),(∃m,W 0 m [] (upd d D bG)) /\
  ∀i m ys H, W i m ys H -> H D = í (Ð ys) /\ ((J.stop i H /\ cw4 D H) ∨ (J.go i H /\ ∀x H', J.yld i H x H' -> tg x H' λ e => tt (cm8 (e.map some)) H' λ b H2 =>
    if œ b then te (cm8 (e.map some)) H2 λ y H3=>ģ (H3 D) ys/\aO9 Tm/\∃a,a<m/\W (i+1) a (ys++[y]) (upd H3 D (Fs ys [y]))
    else ∃a,a<m/\W (i+1) a ys H2))
def w6(K:Aa)(a:TI):TT->TE->Ċ->TE:=Fb K a λ x _ k=>k [x]
section
variable{X:Cx}{elt iter:Expr}{x:Str}{px:Pos}{ifs:Α}{scope:Scope}{cl:aB9}{pos:Pos}{caps:ő}{idx:Ċ}{wi:TI}{tt:TT}{te:TE}
def QaZ{xs:ő}{gt:TG}{tg:V->Hp->θ bS8}{E:C7}{use:ď (FO (Sem Unit))}{QQ:C7}{pG:Pos}(S:Mu X scope cl caps idx)(hc:aT)(hi:PI X target iter wi)
    (hg:∀C s₀ H₀ ex,PG (bW3 (xs++caps)) target gt) (hv:∀σ os H v k,AH=ŝ->tg v H k->gt v (cm8 os) H λ σ' L=>∃zs,zs.length=ŝ/\σ'=cm8 aS7/\L=H/\k zs)
    (ht:∀C s₀ H₀ ex,rE (bW3 (xs++caps)) ifs tt) (he:∀C s₀ H₀ ex,PE (bW3 (xs++caps)) elt te)
    {O9:C8} {s:Shared} {σ:St} {H:Hp} {Q:VK} (I:ag) (h:Fb X.K wi tg tt te idx σ H Q)
    (hE:X.xe=E)
    (hend:∀(D C:Addr)(L:Hp)(s':Shared)(m:C9),ū L s'->cw4 D L->s'.heap.Ns C m->Ν (L C)->fD C->dS C->(∀x c,Ľ x c->c≠C)->Ps p (X.pn++O9) (oB≠C) ->
      compPost an7 X.A E use QQ ↑D C (.ok .next) s')
    (hs:∀x,cG1=bZ8:=by intro _;rfl) :
    ψ (comprehension (bg0 [aO6 target 0]) scope X.env pG cf4 false (ä iter) use) QQ E s:=by
  subst hE;refine wpAny_comprehension_free (use:=use) rfl hs S.clos S.kind S.names (thn (hi O9 s σ H _ I h) λ xv s1 h1=>Ť h1 c9 O h2);obtain⟨it,P,tn,J,H2,rfl,I2,T,ar,f2,hQ⟩:=h2;refine wpAny_newObj_type (wpAny_newFunctionEnv S.cell (by intro y hy;simp at hy) (ĵ h₁ ab₁ ac₁) S.kind);dsimp only at ab₁ ac₁ ⊢;generalize a9:O.heap.push { cls:=aB8, dict:=none,data:=bL2 (au6 ([]:Đ)) }=G at ab₁ ac₁ ⊢;have hC:G.objs.size=O.heap.objs.size+1:=cW6 a9 Cc
  have lQ:∀b o,O.heap.get? b>=o->G.get? b>=o:=λ b o e=>a9▸TU;have bc:Ν (H2 O.heap.objs.size):=I2.hok.fresh đ;have j:ū (upd H2 O.heap.objs.size bG) (Ϣ O G) :=
    I2.laid (t':=O.toks) lQ đ ⟨up,[],_,lS,a9▸L7⟩
  have be:Ν cE9:=by
    cases q:cE9 with
    |none=>rfl
    |some o=>exact bh6 (Ao (I2.kIn _ o q))
  obtain⟨W,⟨m0,w0⟩,turn⟩:=hQ _ bc be;generalize ba:O.heap.objs.size=D at *;generalize rP:G.objs.size=C at *;have CT:∀b o,G.get? b>=o->b≠C:=λ b o e=>ð rP cv6
  have f9:∀b o,G.get? b>=o->h₁.get? b>=o:=λ b o e=>ac₁.extBut b o (CT b o e) TU;have c6:(Ϣ O G:Shared).heap.objs.size=C:=rP;have pQ:∀y c,bl9 y>=c->Ľ y c:=λ y c e=>S.cls.mem (mz e);have wz:∀b∈P,∃o,O.heap.get? b>=o:=λ b a=>let ⟨o,e,_⟩:=T.obj _ _ ar b a;İ o e;have Rv:∀b∈P,b≠C:=λ b a=>let ⟨o,e⟩:=wz b a;CT b o (lQ b o e);have b7:∀b∈P,b≠D:=λ b a=>let ⟨o,e⟩:=wz b a;ð ba cv6
  have b8:∀b∈P,Ν ((upd H2 D bG) b):=λ b a=>fP (b7 b a) (f2 b a).1
  have pR:∀y c,Ľ y c->c≠C:=λ y c e=>let ⟨v,o,ho,_⟩:=j.cell y c e;CT c o ho;have oJ:∀b∈P,b∉az3:=λ b a z=>(pw (I2.stkSub b z)).elim (f2 b a).2.1 (f2 b a).2.2.1
  let Z:=IM X cl C (xs++caps) (Ϣ O G) (upd H2 D bG) P
  have bq:Z.Ok:=by
    refine⟨j.ok.mod,by show(Iy).kind=_;exact S.kind,j.ok.glob,j.ok.blt,rj (G.objs.size<=C) rP đ,λ y z c h1 h2=>j.ok.inj y z c (pQ y c h1) (pQ z c h2),ż y hy,
      λ y c z=>ē z,j.ok.hd,j.ok.frames,ĭ,λ b a=>İ (Rv b a) (λ y c e=>(f2 b a).2.2.2.2.1 y c (pQ y c e)),j.bs,Bh j.ok.bsz j.sz,
      pM b o e a,λ b a=>oJ b a,j.stack,j.stkFree⟩
    . have bm:af5 Iy y>=aK4∨af5 Iy y>=bj9:=hy
      have q:=S.has;rw[List.all_eq_true]at q;have:bp5 (bl9 y):=by
        rcases bm with z|z
        . have q:=q _ (mz z);simpa using q
        . have q:=q _ (mz z);simpa using q
      exact ce1 this
    . have:=(f2 b a).2.2.2.1
      have e3:=(I2.ok.bs b o e).1;rcases this with z|z
      . exact I2.ok.noex b o e z
      . exact bh6 (Ax (Ao e3) z)
  have nA:=⇑S.cps;have I4:Inv Z [] (cm8 (nj aa9)) (upd H2 D bG) (en O h₁ (O.toks+⇑([]:as5))):=by
    refine⟨bq,rfl,j.bare,Un.kept f9,aQ5 ab₁ (bx5 i y v e1 e2 e3),ĵ y c e,?_,λ y c e=>j.freeC y c (pQ y c e),λ p hp=>bS1 (p∈([]:C8)) hp Ê,j.hok.kept f9,?_⟩
    . have lz:⇑(nj (λ_=>(none:aY9)))=ŝ:=Bm _
      by_cases il:i<ŝ
      . have F:Ϥ (nj (λ_=>(none:aY9))++cx3 i (Ű σ).join) Oy:=e2
        rw[Ag (Æ lz il)]at F;simp at F
      . have ah:Ϥ (xs++caps) y:=e1
        rw[Ap (Ck il)]at ah;obtain⟨k,h1,h2,h3,⟨c,h4⟩,h5⟩:=S.cps.get ah;have F:Ϥ (nj (λ_=>(none:aY9))++cx3 i (Ű σ).join) Oy:=e2;rw[Ap (Æ lz (Ck il)),lz,Bq,h1]at F;have F:(σ[k]?).join>=v:=Aj F;have Ir:σ[k]?>=Oy:=by
          cases q:σ[k]? with
          |none=>rw[q]at F;cases F
          |some z=>rw[q]at F;exact dg1 F
        obtain⟨mL,c8,hl⟩:=j.loc;have vis:Rz y:=II h3 z z (mm z) (ak1 z)
        obtain⟨u,r,l⟩:=hl k y v h2 Ir vis;refine⟨u,r,aV4 ?_ c h4 ?_⟩
        . have b6:af5 Iy y>=nE∨af5 Iy y>=aK4∨af5 Iy y>=bj9:=e3
          rcases b6 with z|z|z
          . exact Ĝ z h5
          . exact ë z
          . exact Ĉ z
        . rcases l with ⟨z,_⟩|⟨_,c',e,z⟩
          . rcases h3 with q|q <;> · rw[q]at z;cases z
          . rw[pQ y c h4]at e;cases e
            obtain⟨o,ho,hd⟩:=z;exact IX (f9 _ _ ho) hd
    . obtain⟨v,o,ho,hd⟩:=j.cell y c (pQ y c e)
      exact⟨v,o,f9 _ _ ho,hd⟩
    . exact j.hok.fresh (rj (G.objs.size<=C) rP đ)
    . simp[cσs,Z,J4,nA]
  have Pj:tn 0 h₁:=T.keep _ _ _ ar λ b _ o e=>f9 b o (lQ b o e);have Im:∀{L:Hp}{U:C8},Ps b P (Ν (L b))->(U=[])->∀b∈P,GS Z U L b:=λ hn e b a=>cU6 e ⟨hn b a,Rv b a,oJ b a,ë a,λ y c e=>(f2 b a).2.2.2.2.1 y c (pQ y c e),λ p hp=>bS1 (p∈([]:C8)) hp Ê⟩
  have a8:∀s₃:Shared,s₃=en O h₁ (O.toks+⇑([]:as5)) ->
      codeAny an7 X.A (.compLoop (bg0 [aO6 target 0]) 0 ↑it ↑D (compEnvC scope cl C X.env)) (compPost an7 X.A X.xe use QQ ↑D C) s₃:=by
    rintro s₃ rfl;refine Qb5 (λ n s'=>∃i o L ys,⇑o=ŝ/\Inv Z [] (cm8 o) L s'/\tn i s'.heap/\Ps b P (Ν (L b))/\W i n ys L) ?_ m0 ⟨0,_,_,[],Bm _,I4,Pj,b8,w0⟩;rintro n s5 ⟨i,o,H5,ys,lo,I5,st5,fr5,w5⟩;obtain⟨hD,tw⟩:=turn i n ys H5 w5;rcases tw with ⟨stop,q⟩|⟨go,step⟩
    . refine thn (T.done Z rfl rfl rfl hc i [] s5 _ H5 _ I5 (Im fr5 rfl) st5 stop) (ba4 r s6 hr I6)
      subst hr;obtain⟨m6,bh,_⟩:=I6.loc;have I7:ū H5 s6:=j.call' (s':=s6) (ch:=P) I6.os I6.O8 I6.hok I6.bare λ b a=>⟨(f2 b a).2.2.2.1,(f2 b a).2.1,(f2 b a).2.2.2.2.1,(f2 b a).2.2.2.2.2⟩;refine hend D C H5 s6 m6 I7 q bh I6.free ?_ ?_ pR (ż p hp)
      . rw[<- rP];exact Cr j.lt
      . rw[<- rP];exact j.sz
      . exact CT oB p.2 (j.pin p hp).1
    . refine thn (T.item Z rfl rfl rfl hc i [] s5 _ H5 _ I5 (Im fr5 rfl) st5 go) λ r s6 ⟨u,hr,h6⟩=>?_
      subst hr;refine cJ2 h6 s7 aD ?_;obtain⟨y,H7,I7,r7,y7,Ho,b9⟩:=aD;have ay:=I7.pinned (Im b9 rfl) (T.obj _ _ Ho);refine cJ2 (hg _ _ _ _ _ s7 _ H7 y u _ ay r7 (hv _ _ _ _ _ lo (step y H7 y7))) s8 aD ?_;obtain⟨σ8,H8,I8,zs,lz,e8,eO,bu⟩:=aD;subst e8;subst eO;have again:∀{H9:Hp}{s9:Shared}{ad:η},Inv Z ([]++gc P s7.heap) (cm8 aS7) H9 s9->(∃m',m'<n/\W (i+1) m' ad H9) ->
          ∃m,m<n/\∃i o L ys,⇑o=ŝ/\Inv Z [] (cm8 o) L s9/\tn i s9.heap/\Ps b P (Ν (L b))/\W i m ys L:=λ{H9 s9 ad} I9 ⟨m',hm,w9⟩=>by
        refine⟨m',hm,i+1,aS7,H9,ad,à (Bm _) lz,I9.unpinned,T.keep _ _ _ Ho λ b a o e=>(I9.pin (b,o) (Ai _ (Ai _ (j6 a e)))).1,ż b a,w9⟩;obtain⟨o,e,d⟩:=T.obj _ _ Ho b a;exact(I9.pin (b,o) (Ai _ (Ai _ (j6 a e)))).2.1
      refine Ť (ht _ _ _ _ _ s8 _ H8 _ I8 bu) ok s9 aD;obtain⟨H9,I9,q9⟩:=aD;cases ok with
      |false=>exact again I9 (ID (Cw Bt) q9 q9)
      |true=>rw[cq]at q9 ⊢;refine Ť (he _ _ _ _ _ s9 _ H9 _ I9 q9) v rJ aD;obtain⟨z,ae,aw,br,Ih,am,m',hm,bv⟩:=aD;refine cJ2 (KP (X:=Z) _ rJ _ ae ↑D [z] ↑D [v] (λ_ L=>L=upd ae D (Fs ys [z])) aw rfl (ϗ br lS) ⟨D,ys,z,rfl,rfl,Ih,am,rfl⟩) ce aD ?_;obtain⟨_,c5,ax,_,h_⟩:=aD;subst h_;exact again ax ⟨m',hm,bv⟩
  exact codeAny_compStart_list (a8 _ rfl) (T.self X.A 0 _ _ _ Pj (a8 _ rfl))
#where
section
variable{X:Cx}{elt iter:Expr}{x:Str}{px:Pos}{ifs:Α}{scope:Scope}{cl:aB9}{pos:Pos}{caps:ő}{idx:Ċ}{wi:TI}{tt:TT}{te:TE}
def Qlt{xs:ő}{gt:TG}{tg:V->Hp->θ bS8}(S:Mu X scope cl caps idx)(y:aT)(hi:PI X target iter wi)
  (hg:∀C s₀ H₀ ex,PG (bW3 (xs++caps)) target gt) (hv:∀σ os H v k,AH=ŝ->tg v H k->gt v (cm8 os) H λ σ' a=>∃i,cu8=ŝ/\σ'=cm8 (i.map some)/\a=H/\k i)
  (ht:∀C s₀ H₀ ex,rE (bW3 (xs++caps)) ifs tt) (he:∀C s₀ H₀ ex,PE (bW3 (xs++caps)) elt te)
  (d:∀x,cG1=bZ8:=by intro _;rfl):cr (bg0 [aO6 target 0]) (Fb X.K wi tg tt te idx):=by
 intro j s σ H Q I h;rw[eval_ListComp];refine QaZ (use:=none) S y hi hg hv ht he I h rfl (λ D C a s' m I' q hn r h1 h2 h3 h4=>?_) d;show ∃m,s'.heap.Ns C m/\∀h',NB C s'.heap h'->EP X j σ Q ↑D (Ϣ s' h');exact⟨m,hn,λ h' d=>dr (æ D) a (I'.turned (t':=s'.toks) (λ b o u e=>d.extBut b o u e) r (Ł (Ł h1)) (Ĉ h2) h3 h4) q⟩
def cW.g(S:cW X x scope cl caps idx):Mu X scope cl caps idx:=⟨S.clos,S.cell,S.kind,S.names,S.cls,S.has,S.cps⟩
def cW.tg(S:cW X x scope cl caps idx)(C:Addr)(s₀:Shared)(H₀:Hp)(ex:Ed):PG (bW3 ([x]++caps)) ax0 (sY 0):=Oa (i:=0) S.nd rfl (ë bm0) (Ĉ bm0)
def V_(σ:St)(os:Ã aY9)(H:Hp)(v:V)(k:bS8)(e:AH=1)(h:k [v]):sY 0 v (cm8 os) H λ σ' H'=>∃a,bv6=1/\σ'=cm8 (a.map some)/\H'=H/\k a:=wS o rfl (List.length_eq_one_iff.mp e) (dr [v] rfl rfl h)
def HH(S:cW X x scope cl caps idx)(a:aT)(hi:PI X ax0 iter wi)
  (ht:∀C s₀ H₀ ex,rE cu3 ifs tt) (he:∀C s₀ H₀ ex,PE cu3 elt te)
  (hs:∀x,cG1=bZ8:=by intro _;rfl):cr (bg0 [bH0 0]) (w6 X.K wi tt te idx) :=
 Qlt (xs:=[x]) S.g a hi S.tg V_ ht he hs
def Qor{i:Nat}{y:Str}{j d:Pos}(S:cW X x scope cl caps idx)(O:aT)(hi:PI X ax0 iter wi)
  (ht:∀C s₀ H₀ ex,rE cu3 ifs tt) (he:∀C s₀ H₀ ex,PE cu3 elt te)
  (hN:X.N.Nodup) (hy:Ϥ X.N y) (hx:fT y) (hsw:t7 (bg0 [bH0 0]) (í (Ĵ y j)) d.line=bR7)
  (hf:x3 y∨cC8 y:=by first|exact ĭ|exact ot|assumption)
  (r:∀x,cG1=bZ8:=by intro _;rfl):PS X (cc8 [Ĵ y j] (bg0 [bH0 0]) d) (Di (w6 X.K wi tt te idx) (sY i)):=by
 intro E s σ H D I h;rw[exec_Assign_Name_used _ _ _ _ hsw];refine bk2 aR4;show Ş X.A (do let _ <- comprehension (bg0 [bH0 0]) scope X.env _ cf4 false (ä iter) (í (ad5 (Ĵ y j)))) _ _ s;refine Cv (pS (QaZ (xs:=[x]) (use:=í (ad5 (Ĵ y j))) (QQ:=λ_ s'=>SP X E D .next s') S.g O hi S.tg V_ ht he I (é (w6 X.K wi tt te idx σ H _) h) rfl (λ z C F s' m I' q hn J h1 h2 h3 h4=>?_) r) (λ_ s' hq=>Cz (Cz hq)) e e);show Ş X.A (cJ3 (Ĵ y j) ↑z) (λ_ c=>∃m,c.heap.Ns C m/\∀h',NB C c.heap h'->SP X E D .next (Ϣ c h')) _ s';refine wpAny_assign_Name (SR I' hN hy hx (v:=æ z) rfl (ĵ c I'' G) hf);obtain⟨a,r,ha⟩:=G;refine⟨m,hn.sameBut r ?_,λ h' u=>cc3 F (I''.turned (t':=c.toks) (λ b o L e=>u.extBut b o L e) J h1 (Ĉ h2) h3 h4) q⟩;rcases ha with rfl|ha
 ·exact h1
 ·exact Ł (h3 _ _ ha)
#where
#print L2
namespace D
open PySem PySem.Spec PyProof.Rows L2
section
variable{K:Aa}{Z:Ent}{env:En}{σ:St}{ρ ρ':Ed}{B B':Ec}{hp hp':Hs}{H H':Hp}
def bN.set{i:Nat}(S:bG2)(r:cm7):bN K Z cb2 cO7 ρ B hp H where
 gr:=S.gr
 zb:=S.zb
 wo:=S.wo
 slot:=λ j e h=>by
  by_cases c:j=i
  ·subst c;have hl:j<bv7:=db aV7
   rw[aR0]at h;cases h;exact⟨v,As (Æ S.len hl),r⟩
  ·rw[kb c]at h ⊢;exact S.slot j e h
 dX:=λ j ds h=>by
  by_cases c:j=i
  ·subst c;have hl:j<bv7:=db aV7
   rw[aR0]at h;cases h
  ·rw[kb c]at h ⊢;exact S.dX j ds h
 fM:=λ j k ds es a h1 h2 h3 h4=>by
  have o:E6 j ds Û (G1 cb2>=bV1->j≠i):=λ{j ds} h e=>by
   subst e;have hl:j<bv7:=db aV7
   rw[aR0]at h;cases h
  have c:=o h1;have u:=o h2;rw[kb c]at h1 h3;rw[kb u]at h2 h4;exact S.fM j k ds es a h1 h2 h3 h4
 len:=Ģ S.len
#where
section
variable{X:Cx}{e a b c:Expr}{f fa fb:aG}{ca cb:cg}{pos:Pos}{st:Stmt}{sts rest:G6}{s s':aF}
def nU.after{K:Aa}{Z:Ent}{d:Fl}{D:vA}(g:by8 ρ1 B1 H1)(k:nU K Z ρ B H d env' hp' D):nU K Z ρ1 B1 H1 d env' hp' D :=
 λ σ' ρ' B' H' g' S=>k σ' ρ' B' H' (g.trans g') S
def Zg:aF:=FP (î m4)
def Qr(f g:aF):aF:=λ env=>do
 let r <- bb
 match r.1 with
 |.nx=>g r.2
 |_=>î r
def aN(c:cg)(f g:aF):aF:=Rn (c env) bb To
def QR(f:aG):aF:=FP (oE d bb (.rt d,env))
def ZV(f:aG):aF:=FP (do let _ <- bb;î m4)
def QP(i:Nat)(f:aG):aF:=FP (oE d bb (Ŭ cb2))
def QF:iQ X [] Zg:=pss_nil.imp λ D σ H i=>by obtain⟨Z,env,ρ,B,hp,j,d,hp',S,e,k⟩:=i;obtain⟨e1,rfl⟩:=CH;cases e1;exact k σ ρ B H Gs.refl S
def Ql4{K:Aa}{D:vA}(h:mV K (Qr s s') D σ H):RL (mV K s) (mV K s') D σ H:=by
 obtain⟨Z,env,ρ,B,hp,u,i,hp',S,e,k⟩:=h;obtain⟨⟨r,aH⟩,hp1,e1,e2⟩:=Ū;refine⟨Z,env,ρ,B,hp,r,aH,hp1,S,e1,bx5 σ' ρ' j H' g o⟩;cases r with
 |nx=>exact⟨Z,aH,ρ',j,hp1,u,i,hp',o,e2,wv g⟩
 |rt d=>obtain⟨z,rfl⟩:=bd;cases z;exact k σ' ρ' j H' g o
 |bk=>obtain⟨z,rfl⟩:=bd;cases z;exact k σ' ρ' j H' g o
 |ct=>obtain⟨z,rfl⟩:=bd;cases z;exact k σ' ρ' j H' g o
def Qf(h1:DS X st s)(h2:iQ X rest s'):iQ X (aQ7 st) (Qr s s'):=(QlK h1 h2).imp (wx h (Ql4 h))
def Qn(h1:DS X st s):iQ X [st] s:=Qos h1
def Zc{x y:G6}(u:DT X c ca)(h1:iQ X x s)(h2:iQ X y s'):DS X (.If c x y pos) (aN ca s s') :=
 (QsR u h1 h2).imp λ D σ H r=>by
  obtain⟨Z,env,ρ,B,hp,o,d,hp',S,e,k⟩:=r;obtain⟨x,hp1,e1,e2⟩:=Ū;refine cR5 S e1 ρ1 i H1 g1 j;cases x with
  |true=>exact mJ ⟨Z,env,ρ1,i,hp1,o,d,hp',j,e2,wv fy⟩
  |false=>exact mK ⟨Z,env,ρ1,i,hp1,o,d,hp',j,e2,wv fy⟩
def Qt(h:cl0):DS X (.Return bJ1 pos) (QR f) :=
 (Qrb h).imp λ D σ H j=>by obtain⟨Z,env,ρ,B,hp,r,i,hp',S,e,k⟩:=j;obtain⟨d,hp1,e1,e2⟩:=Ū;obtain⟨z,rfl⟩:=bd;cases z;exact cN6 o (k σ ρ1 B1 H1 fy S1 v o)
def Zv(h:cl0)(o:ax2 e none=TH:=by rfl):DS X (.Expr e pos) (ZV f) :=
 (He h o).imp λ D σ H j=>by obtain⟨Z,env,ρ,B,hp,r,i,hp',S,e,k⟩:=j;obtain⟨d,hp1,e1,e2⟩:=Ū;obtain⟨z,rfl⟩:=bd;cases z;exact cN6 u (k σ ρ1 B1 H1 fy S1)
def DB{K:Aa}{D:vA}{σ:St}{i:Nat}{t:TE}(o:∀σ H Q,tD K f σ H Q->t σ H Q)(h:mV K (QP i f) D σ H):Di t (sY i) D σ H:=by obtain⟨Z,env,ρ,B,hp,u,j,hp',S,e,k⟩:=h;obtain⟨d,hp1,e1,e2⟩:=Ū;obtain⟨z,rfl⟩:=bd;cases z;exact o _ _ _ (cN6 r (k _ ρ1 B1 H1 fy (S1.set r)))
def Qx(i:Nat){x:Str}{d:Pos}(j:X.N.Nodup)(o:cl0)(hi:au1:=by rfl)(hx:fT x:=by first|exact al3|exact ba8)(r:ax2 e (í (sF d))=TH:=by rfl)
  (hf:x3 x∨cI2:=by first|exact ĭ|exact ot|assumption):DS X (di8 [sF d] e) (QP i f) :=
 (Wj j hi hx o r hf).imp (wx h (DB (wx q q) h))
abbrev iR:=Rq (En->M En)
def rG(K:Aa)(g:iR):TG:=λ v σ H Q=>∃Z env ρ B hp d i hp',bG2/\cm7/\Pp (g d env hp) i/\∀σ' ρ' B' H',bz1->bN K Z i σ' ρ' B' hp' H'->Q σ' H'
def gN(i:Nat):iR:=λ d env=>î cb2
def XM(i:Nat){x:Str}(y:X.N.Nodup)(hi:au1:=by rfl)(hx:fT x:=by first|exact al3|exact ba8)(hf:x3 x∨cI2:=by first|exact ĭ|exact ot|assumption):PG X Ql (rG X.K (gN i)):=by intro o s σ H v u Q I r h;refine Oa y hi hx hf o s σ H v u Q I r ?_;obtain⟨Z,env,ρ,B,hp,d,j,hp',S,rd,e,k⟩:=h;obtain⟨rfl,rfl⟩:=CH;exact k _ ρ B H Gs.refl (S.set rd)
def oY(K:Aa)(ρ:Ed)(B:Ec)(H:Hp)(ds:Û)(J:It):ç :=
 ∀ρ1 r j,by8 ρ1 r j->Ps b ρ1 (r b)->(∀a,r a->j a≠none)->Œ i d DV (aI6->J.go i j/\∀x u,J.yld i j x u->aA K ρ1 r u d x/\(u=j∨∃p o,Ν (j p)/\u=upd j p o))/\J.stop ã j
abbrev iY:=En->aS6
def Pb(K:Aa)(f:iY):TI:=λ σ H R=>∃Z env ρ B hp ds hp',bG2/\Pp aE ds/\∀J ρ' B' H',bX1->aP K ρ' B' hp' H'->oY K ρ' B' H' ds J->R J H'
def DI(X:Cx)(tg d:Expr)(f:iY):ç:=PI X tg d (Pb X.K f)
def RP:Rq aS6
 |.lst ds=>cj5
 |_=>failure
def kD:Rq aS6
 |.tup ds=>cj5
 |_=>failure
def rA(f:aG):iY:=FP (do RP (<- bb))
def lB(f:aG):iY:=FP (do kD (<- bb))
def Qi1{d:DV}{hp hp':Hs}(h:Pp (RP d hp) ds):d=hV/\hp=hp':=by
 cases d with
 |lst xs=>obtain⟨rfl,rfl⟩:=cJ8;exact ed
 |_=>cases h
def qx{d:DV}{hp hp':Hs}(h:Pp (kD d hp) ds):d=ny/\hp=hp':=by
 cases d with
 |tup xs=>obtain⟨rfl,rfl⟩:=cJ8;exact ed
 |_=>cases h
def Mm{K:Aa}{B:Ec}{a:Addr}(v:¬ B a)(C:Pm K a)(z:sT):oY K ρ B H ds (Itl K a):=λ ρ1 B1 H1 g _ _=>by have j:=g.Pq v C;have o:=E9 g _ z;refine⟨ĵ i d e,xs,j,Æ ⇑o đ⟩;obtain⟨x,hx,r⟩:=o.get e;refine İ ⟨xs,x,j,hx⟩ (ba4 y H' u q);subst u;have:=q xs j;rw[hx]at this;cases this;exact İ r ĭ
def Qqi{K:Aa}{B:Ec}{a:Addr}(v:¬ B a)(C:ct5)(z:sT):oY K ρ B H ds (Itt K a):=λ ρ1 B1 H1 g _ _=>by have j:=g.B_ v C;have o:=E9 g _ z;refine⟨ĵ i d e,xs,j,Æ ⇑o đ⟩;obtain⟨x,hx,r⟩:=o.get e;refine İ ⟨xs,x,j,hx⟩ (ba4 y H' u q);subst u;have:=q xs j;rw[hx]at this;cases this;exact İ r ĭ
def ZL(d:Int)(n:Nat):Û:=tS n (λ(i:Nat)=>Ì (d+LT))
def QkO{K:Aa}{j:Int}{n:Nat}:oY K ρ B H (ZL j n) (Itr j n):=λ ρ1 B1 H1 g _ _=>by
 refine İ (ĵ i d e) (by show n<=_;simp[ZL]);have hi:i<n:=pV dc8 ZL
 refine İ hi (ba4 y H' o q);subst o q;have:d=Ì (j+i):=by simp[ZL,hi]at e;exact e.symm
 subst this;exact İ Js ĭ
variable{tg iter:Expr}
def _root_.L2.PI.imp{j d:TI}(h:PI X tg iter j)(i:∀σ H R,d σ H R->j σ H R):PI X tg iter d:=λ o s σ H R I q=>h o s σ H R I (i σ H R q)
def BV(h:cp7):DI X tg iter (rA f):=(HE h).imp λ σ H R j=>by obtain⟨Z,env,ρ,B,hp,ds,hp',S,e,k⟩:=j;obtain⟨d,hp1,e1,e2⟩:=Ū;obtain⟨rfl,rfl⟩:=Qi1 e2;refine cN7 r;obtain⟨a,xs,rfl,o,i,u⟩:=r.b_;exact⟨a,rfl,İ xs i,bg5 (Mm o i u)⟩
def Ky(h:cp7):DI X tg iter (lB f):=(Qq6 h).imp λ σ H R j=>by obtain⟨Z,env,ρ,B,hp,ds,hp',S,e,k⟩:=j;obtain⟨d,hp1,e1,e2⟩:=Ū;obtain⟨rfl,rfl⟩:=qx e2;refine cN7 r;obtain⟨a,xs,rfl,o,i,u⟩:=r.tupI;exact⟨a,rfl,İ xs i,bg5 (Qqi o i u)⟩
def zT(j:Int):Bool:=ß (-(2 ^ 62)<=j/\j<2 ^ 62)
def rY:Û->aS6
 | [.int j]=>do QI (zT j);î (ZL 0 j.toNat)
 |_=>failure
def Dm:Û->aS6
 | [.int i,.int j]=>do QI (zT i&&zT j);î (ZL i (IL (j-i)))
 |_=>failure
def nJ(f:cB):iY:=FP (do rY (<- bb))
def Qjm{ds out:Û}{hp hp':Hs}(h:Pp (rY ds hp) out):∃j:Int,ds=[bI8]/\œ (zT j)/\out=ZL 0 j.toNat/\hp=hp':=by
 unfold rY at h;split at h
 ·obtain⟨u,hp1,e1,e2⟩:=Qg h;obtain⟨h1,rfl⟩:=aF2;obtain⟨rfl,rfl⟩:=bd;exact dr _ rfl h1 rfl
 ·cases h
def Qjn{ds out:Û}{hp hp':Hs}(h:Pp (Dm ds hp) out):∃i j:Int,ds=[dz,bI8]/\œ (zT i)/\œ (zT j)/\out=ZL i (IL (j-i))/\hp=hp':=by
 unfold Dm at h;split at h
 ·obtain⟨u,hp1,e1,e2⟩:=Qg h;obtain⟨h1,rfl⟩:=aF2;obtain⟨rfl,rfl⟩:=bd;rw[Ba]at h1;exact⟨_,_,rfl,h1.1,h1.2,rfl,rfl⟩
 ·cases h
def au.ints1{K:Aa}{j:Int}{vs:η}(h:i4 [bI8] vs):vs=[bI8]:=by unfold au at h;obtain⟨x,r,rfl,h1,h2⟩:=h;unfold au at h2;rw[h1.bf,h2]
def au.ints2{K:Aa}{i j:Int}{vs:η}(h:i4 [dz,bI8] vs):vs=[dz,bI8]:=by unfold au at h;obtain⟨x,r,rfl,h1,h2⟩:=h;rw[h1.bf,h2.ints1]
def qr{x:Expr}{p:Pos}{f:cB}(r:ND aS)(u:c4 aS)(ha:DA X [x] f)(v:Ï [x]=[Ż x]:=by rfl):DI X tg (bs0 aS [x]) (nJ f) :=
 (Qje r u ha v).imp λ σ H R o=>by obtain⟨Z,env,ρ,B,hp,ds,hp',S,e,k⟩:=o;obtain⟨d,hp1,e1,e2⟩:=Ū;obtain⟨j,rfl,h1,rfl,rfl⟩:=Qjm e2;refine au9 S (rr vs B1 H1 g1 S1 y ?_);have i:=C4 h1;exact⟨j,y.ints1,i.1,i.2,bg5 QkO⟩
def jU(b:bV2):Û->aF
  | [],env=>î m4
  |d::ds,env=>do
    let r <- b d env
    match r.1 with
    |.nx=>jU b ds r.2
    |.ct=>jU b ds r.2
    |.bk=>bd8 r.2
    |.rt x=>î (.rt x,r.2)
def nO(f:iY)(g:iR)(i:aF):aF:=FP (do let ds <- bb;jU (ak7 d (g d env) (i env')) ds env)
def MF{K:Aa}{B:Ec}{H:Hp}{p:Addr}(rb:∀a∈ρ,B a)(h:cD1):by8 ρ B (Ž p o):=(aq4 h).gs rb
def KA{r:G6}{fi:iY}{g:iR}{G:aF}(hp:az5 an7 X.A X.xe)(hc:aT)(hi:DI X tg iter fi)(hg:PG X tg (rG X.K g))(hb:iQ X r G)
  (hs:∀x,cG1=bZ8:=by intro _;rfl):DS X (.For tg iter r [] pos) (nO fi g G) :=
 (Wl hp hc hi hg hb hs).imp λ D σ H aD=>by
  obtain⟨Z,env,ρ,B,hp,fl,j,hp',S,e,k⟩:=aD;obtain⟨ds,hp1,e1,e2⟩:=Ū;refine⟨Z,env,ρ,B,hp,ds,hp1,S,e1,rr J I H1 g1 W1 it ?_⟩;have k1:=wv fy;refine⟨λ i m σ H=>m=ã-i/\i<=ã/\∃env ρ B hp,bG1 X.K/\Gs X.K ρ1 I H1 ρ B H/\Pp (jU (IV d j (g d env) (G j)) bq8 env hp) (fl,j),
   ⟨ã,rfl,up,env,ρ1,I,hp1,S.grow g1 W1,Gs.refl,Ë e2⟩,?_⟩
  rintro i m σ H ⟨rfl,hi,g_,ρ2,B2,hp2,S2,g2,e3⟩;obtain⟨HW,P⟩:=it ρ2 B2 H g2 S2.wo.rb S2.wo.bt;by_cases u:i<ã
  ·have hd:aH6 ds[i]:=Ab u;obtain⟨go,yl⟩:=HW i _ hd;rw[Bf u]at e3;obtain⟨⟨U,O⟩,L,e4,e5⟩:=Qg e3;obtain⟨lW,v,e6,e7⟩:=Qg e4;refine .inr ⟨go,λ σ' H'=>∃env ρ B hp,tr X.K Z σ' ρ B hp H'/\Gs X.K ρ1 I H1 ρ B H'/\Pp (jU (IV d j (g d env) (G j)) (m9 (i+1)) env hp) (fl,j),
    λ σ' H' q=>t6 (ã-(i+1)) À u q,ĵ x H' y⟩
   obtain⟨rx,hx⟩:=yl x H' y;have Q:bN X.K Z g_ σ ρ2 B2 hp2 H'/\Gs X.K ρ2 B2 H ρ2 B2 H':=by
    rcases hx with rfl|⟨p,o,hn,rfl⟩
    ·exact İ S2 Gs.refl
    ·exact İ (S2.grow cn5 (S2.wo.laid hn)) (MF S2.wo.rb hn)
   refine⟨Z,g_,ρ2,B2,hp2,ds[i],lW,v,Q.1,rx,e6,λ σ5 ρ5 B5 H5 g5 S5=>⟨Z,lW,ρ5,B5,v,U,O,L,S5,e7,bx5 σ6 ρ6 C H6 g6 F⟩⟩;have E:=bz3 (à Q.2 (g5.trans g6));cases U with
   |nx=>exact⟨O,ρ6,C,L,F,E,e5⟩
   |ct=>exact⟨O,ρ6,C,L,F,E,e5⟩
   |bk=>obtain⟨z,rfl⟩:=Qm e5;cases z;exact k1 σ6 ρ6 C H6 E F
   |rt d=>obtain⟨z,rfl⟩:=Qm e5;cases z;exact k1 σ6 ρ6 C H6 E F
  ·have e:i=ã:=À
   subst e;rw[Co]at e3;obtain⟨z,rfl⟩:=Qm e3;cases z;exact N2 P (k1 σ ρ2 B2 H g2 S2)
def J7(c:cg)(b:aF):d9 aF
  |0,_=>failure
  |n+1,env=>do
    if <- c env then
      let r <- b env
      match r.1 with
      |.nx=>J7 c b n r.2
      |.ct=>J7 c b n r.2
      |.bk=>bd8 r.2
      |.rt x=>î (.rt x,r.2)
    else î m4
def Uu(n:Nat){i:G6}(hp:az5 an7 X.A X.xe)(hc:DT X c ca)(U:iQ X i sb):DS X (.While c i [] pos) (J7 ca sb n) :=
  (QlJ hp hc U).imp λ D σ H O=>by
    obtain⟨Z,env,ρ,B,hp,L,j,hp',S,e,k⟩:=O;refine mY (λ m σ H1=>∃aH ρ1 o hp1,bN X.K Z aH σ ρ1 o hp1 H1/\by7 X.K ρ1 o H1/\Pp (J7 ca sb m aH hp1) (L,j)) ⟨n,env,ρ,B,hp,S,Gs.refl,e⟩;rintro m σ H1 ⟨aH,ρ1,o,hp1,S1,g1,e1⟩;cases m with
    |zero=>cases e1
    |succ m =>
      obtain⟨x,E,e2,e3⟩:=Qg e1;refine cR5 S1 e2 ρ2 F H2 g2 I;have G:=ϥ (g2.gs S1.wo.rb);cases x with
      |false=>obtain⟨z,rfl⟩:=Qm e3;cases z;exact mK (k σ ρ2 F H2 G I)
      |true =>
        obtain⟨⟨J,C⟩,y,P,e5⟩:=Qg e3;refine mJ (mY (λ σ' H'=>∃aH ρ1 o hp1,bN X.K Z aH σ' ρ1 o hp1 H'/\by7 X.K ρ1 o H'/\Pp (J7 ca sb m aH hp1) (L,j)) (λ σ' H' q=>⟨m,Cn m,q⟩));refine⟨Z,aH,ρ2,F,E,J,C,y,I,P,bx5 σ6 ρ6 r H6 Q v⟩;have u:=G.trans Q;cases J with
        |nx=>exact⟨C,ρ6,r,y,v,u,e5⟩
        |ct=>exact⟨C,ρ6,r,y,v,u,e5⟩
        |bk=>obtain⟨z,rfl⟩:=Qm e5;cases z;exact k σ6 ρ6 r H6 u v
        |rt d=>obtain⟨z,rfl⟩:=Qm e5;cases z;exact k σ6 ρ6 r H6 u v
#where
section
variable{K:Aa}{Z:Ent}{env:En}{σ:St}{ρ ρ':Ed}{B B':Ec}{hp hp':Hs}{H H':Hp}
def jO(B:Ec)(p:Addr):θ Addr:=λ a=>B a∨a=p
def Gr.banned{p:Addr}(h:cD1)(kf:LA p):wa K B H ρ (jO B p) (Ž p o) where
 pre:=Cb
 ban:=tj h h
 new:=λ a z=>z.elim .inl λ e=>Ĉ (e▸İ h kf)
 bW:=tj h h
 keep:=λ a u _ q=>bf0 q h q
 trk:=(aq5 K K ρ B B h).trk
def aP.banned{p:Addr}(W:bF0)(h:cD1)(kf:LA p):bE8 (jO B p) (Ž p o) where
 len:=W.len
 nd:=W.nd
 obj:=λ i a u e q=>bz2 ((bN9 h kf).gs W.rb) (λ z=>W.bt a (W.rb a ce2) (z▸h)) (W.obj i a u e q)
 rb:=λ a h=>ë (W.rb a h)
 bt:=λ a z q=>by
  have c:=(aq5 K K ρ B B h).trk a q;rcases z with z|rfl
  ·exact W.bt a z c
  ·rw[Q9]at q;cases q
 bk:=λ a z=>z.elim (W.bk a) λ e=>e▸kf
def bN.newAcc{i:Nat}{p:Addr}(S:bG2)(h:cD1)(kf:LA p)(r:sT):bN K Z (aC3 ds) (aP0 (aV1 p)) ρ (jO B p) hp (q7 p xs):=by
 have g:wa K B H ρ (jO B p) (q7 p xs):=bN9 h kf;have W:=S.wo.banned (o:=db3) h kf;have d:=dj5;have E:p∉ρ:=λ z=>S.wo.bt p (S.wo.rb p z) h;refine⟨d.gr,S.zb,W,ĵ j e q,ĵ j es q,λ j k es u a h1 h2 h3 h4=>?_,Ģ S.len⟩
 ·by_cases c:j=i
  ·subst c;have hl:j<bv7:=db (ţ q)
   rw[aR0]at q;cases q
  ·rw[kb c]at q ⊢;exact d.slot j e q
 ·by_cases c:j=i
  ·subst c;have hl:j<bv7:=db (ţ q)
   rw[aR0]at q;cases q;exact⟨p,xs,As (Æ S.len hl),Q9,S.gr.trk p h,ot,E,aA1 S.wo.rb g _ r⟩
  ·rw[kb c]at q ⊢;exact d.dX j es q
 ·have C:E6 j es Û (G1 (aC3 ds)>=ax8->j=i∨(j≠i/\cF1>=ax8)):=λ{j es} q=>by
   by_cases c:j=i
   ·exact ë c
   ·rw[kb c]at q;exact mf c q
  have x:E6 j es Û (j≠i->cF1>=ax8->G1 (aP0 (aV1 p))>=aN3->a≠p):=λ{j es} c q z=>by rw[kb c]at z;obtain⟨G,F,e1,e2,_⟩:=S.dX j es q;rw[z]at e1;cases e1;exact Jh e2 h
  have y:E6 j es Û (j=i->G1 (aC3 ds)>=ax8->G1 (aP0 (aV1 p))>=aN3->a=p):=λ{j es} e q z=>by
   subst e;have hl:j<bv7:=db (ţ q)
   rw[As (Æ S.len hl)]at z;cases z;rfl
  rcases C h1 with e1|⟨e1,q1⟩<;>rcases C h2 with e2|⟨e2,v⟩
  ·rw[e1,e2]
  ·exact Ĝ (y e1 h1 h3) (x e2 v h4)
  ·exact Ĝ (y e2 h2 h4) (x e1 q1 h3)
  ·rw[kb e1]at h3;rw[kb e2]at h4;exact S.fM j k es u a q1 v h3 h4
def bN.pq{i:Nat}{a:Addr}(S:bG2)(u:di0)(hσ:Ϥ σ aN3)(r:i4 ds' xs'):
  by8 ρ B (q7 a xs')/\bN K Z (aC3 ds') σ ρ B hp (q7 a xs'):=by
 obtain⟨J,I,e1,e2,e3,E,e5,_⟩:=S.dX i ds u;rw[hσ]at e1;cases e1;have trk:∀b,Ν ((upd H a (Ð xs')) b)->ck6:=λ b q=>by
  by_cases e:b=a
  ·subst e;rw[Q9]at q;cases q
  ·rw[Q0 e]at q;exact q
 have g:by8 ρ B (q7 a xs'):=⟨Cb,tj h h,λ b o y h=>cM2 b a (λ z=>y (Æ z E)) h,trk⟩;have hl:i<bv7:=ţ u;refine İ g ⟨⟨S.gr.pre,S.gr.ban,S.gr.new,S.gr.bW,pM b o y h,λ b q=>S.gr.trk b (trk b q)⟩,S.zb,⟨S.wo.len,S.wo.nd,cR4 j b o q1 C,S.wo.rb,λ b z q=>S.wo.bt b z (trk b q),S.wo.bk⟩,ĵ j d q,ĵ j es q,λ j k es F b h1 h2 h3 h4=>?_,Ģ S.len⟩
 ·have x:b≠a:=hW z z e3 h h
  rw[Q0 x];exact S.gr.keep b o y h
 ·exact bz2 g (bR5 b a (λ z=>e5 (ð z (Av q1)))) (S.wo.obj j b o q1 C)
 ·have c:j≠i:=λ z=>On z aR0 q q
  rw[kb c]at q;obtain⟨v,h1,h2⟩:=S.slot j d q;exact⟨v,h1,aA.gs g _ _ h2⟩
 ·by_cases c:j=i
  ·subst c;rw[aR0]at q;cases q;exact⟨a,xs',hσ,Q9,e3,E,e5,E9 g _ r⟩
  ·rw[kb c]at q;obtain⟨b,ys,h1,h2,h3,h4,h5,G⟩:=S.dX j es q;have x:b≠a:=λ z=>c (S.fM j i es ds a q u (z▸h1) hσ);exact⟨b,ys,h1,fP x h2,h3,h4,h5,E9 g _ G⟩
 ·have old:E6 j es Û (G1 (aC3 ds')>=ax8->∃es,cF1>=ax8):=λ{j es} q=>by
   by_cases c:j=i
   ·exact İ ds (c▸u)
   ·rw[kb c]at q;exact İ es q
  obtain⟨_,q1⟩:=old h1;obtain⟨_,C⟩:=old h2;exact S.fM j k _ _ b q1 C h3 h4
def bN.disown{i:Nat}(S:bG2)(e:di0):∃B',by8 ρ B' H/\bN K Z (Ta hV) σ ρ B' hp H:=by
 obtain⟨a,xs,e1,e2,e3,F,e5,u⟩:=S.dX i ds e;have hl:i<bv7:=dc8;have g:by8 ρ (λ b=>B b/\b≠a) H:=⟨Cb,tj h h.1,wx h h,bW6⟩;refine⟨λ b=>B b/\b≠a,g,⟨⟨S.gr.pre,λ b z=>cC6 (S.gr.ban b z) q (S.zb b z (q▸e3)),λ b z=>S.gr.new b z.1,S.gr.bW,S.gr.keep,S.gr.trk⟩,S.zb,
  ⟨S.wo.len,S.wo.nd,λ j b o q1 E=>bH.gs g rfl (S.wo.obj j b o q1 E),λ b z=>cC6 (S.wo.rb b z) q (e5 (q▸z)),λ b z=>S.wo.bt b z.1,λ b z=>S.wo.bk b z.1⟩,ĵ j d q,ĵ j es q,λ j k es x b h1 h2 h3 h4=>?_,Ģ S.len⟩⟩
 ·by_cases c:j=i
  ·subst c;rw[aR0]at q;cases q;exact aQ5 e1 (UR (λ z=>z.2 rfl) (SqL.of e2) (E9 g _ u))
  ·rw[kb c]at q;obtain⟨v,h1,h2⟩:=S.slot j d q;exact⟨v,h1,aA.gs g _ _ h2⟩
 ·have c:j≠i:=λ z=>On z aR0 q q
  rw[kb c]at q;obtain⟨b,ys,h1,h2,h3,h4,h5,y⟩:=S.dX j es q;have C:b≠a:=λ z=>c (S.fM j i es ds a q e (z▸h1) e1);exact⟨b,ys,h1,h2,h3,İ h4 C,h5,E9 g _ y⟩
 ·have r:E6 j es Û (G1 (Ta hV)>=ax8->cF1>=ax8):=λ{j es} q=>by
   have c:j≠i:=λ z=>On z aR0 q q
   rw[kb c]at q;exact q
  exact S.fM j k _ _ b (r h1) (r h2) h3 h4
#where
section
variable{X:Cx}{e a b c:Expr}{f fa fb:aG}{ca cb:cg}{pos:Pos}{st:Stmt}{sts rest:G6}{s s':aF}
def wO(i:Nat):aF:=FP (bd8 (aC3 []))
def Wx(i:Nat){x:Str}{j d:Pos}(u:X.N.Nodup)(hi:au1:=by rfl)(hx:fT x:=by first|exact al3|exact ba8)(v:ax2 (.List [] d) (í (sF j))=TH:=by rfl)
  (hf:x3 x∨cI2:=by first|exact ĭ|exact ot|assumption):DS X (di8 [sF j] (.List [] d)) (wO i) :=
 (Wj u hi hx (Mx pa_nil).kf v hf).imp λ D σ H r=>by obtain⟨Z,env,ρ,B,hp,y,o,hp',S,e,k⟩:=r;obtain⟨z,rfl⟩:=CH;cases z;refine İ up (ĵ p h kf);have kp:=kf p _ Q9;exact k _ ρ _ _ ((bN9 h kp).gs S.wo.rb) (S.newAcc h kp au.nil)
def wU(i:Nat)(env:En):En:=match bJ6 with
 |some (.acc ds)=>Ta hV
 |_=>env
def oU(i:Nat)(f:aF):aF:=FP (f (wU i env))
def Ql1{K:Aa}{i:Nat}{D:vA}(h:mV K (oU i s) D σ H):mV K s D σ H:=by
  obtain⟨Z,env,ρ,B,hp,o,j,hp',S,e,k⟩:=h;cases q:bJ6 with
  |none=>exact⟨Z,env,ρ,B,hp,o,j,hp',S,aI8 wU q e,k⟩
  |some z =>
    cases z with
    |un=>exact⟨Z,env,ρ,B,hp,o,j,hp',S,aI8 wU q e,k⟩
    |val d=>exact⟨Z,env,ρ,B,hp,o,j,hp',S,aI8 wU q e,k⟩
    |acc ds=>obtain⟨r,g,u⟩:=S.disown q;exact⟨Z,_,ρ,r,hp,o,j,hp',u,aI8 wU q e,wv g⟩
def Wv(i:Nat)(h:DS X st s):DS X st (oU i s):=L2.PS.imp h (wx q (Ql1 q))
def wR(i:Nat)(f:aG):aF:=λ env=>do
 let d <- bb
 match bJ6 with
 |some (.acc ds)=>if ã<lim then bd8 (aC3 (ds++[d]))else failure
 |_=>failure
def Ww(i:Nat){x:Str}{r u:Pos}(P:cl0)(hi:au1:=by rfl)(hv:Rz x:=by first|exact al3|exact o2 rfl|exact o3 rfl)
    (hd:aC8:=by decide) (hcd:br7 x:=by decide)
    (hs:∀t,cr (ax9 (sF r) "append" u [e] []) t->PS X (.Expr (ax9 (sF r) "append" u [e] []) pos) (SJ t):=by intro _ h;exact He h)
    (hb:∀(t:TE) (J:TA),cr (sF r) t->PA X [e] J->cr (ax9 (sF r) "append" u [e] []) (tBM X.K ĉ Ha t J):=by intro _ _ h1 h2;exact Tc PySem.F.plainAttrs_list PySem.F.slot_list_append PySem.F.type_list_append KP h1 h2)
    (hst:Ï [e]=cs4::Ï []:=by rfl):DS X (.Expr (ax9 (sF r) "append" u [e] []) pos) (wR i f) :=
  L2.PS.imp (hs _ (hb _ _ (T8 hi hv hd hcd) (bN5 P hst))) λ D σ H O=>by
    obtain⟨Z,env,ρ,B,hp,C,j,hp',S,e,k⟩:=O;obtain⟨d,hp1,e1,e2⟩:=Ū;cases q:bJ6 with
    |none=>rw[q]at e2;cases e2
    |some z =>
      rw[q]at e2;cases z with
      |un=>cases e2
      |val _=>cases e2
      |acc ds =>
        by_cases hl:ã<lim
        . have y:Pp ((î (aE4 (aC3 (ds++[d]))):M cS1) hp1) (C,j):=by
            have:Pp ((cB0 (ã<lim) (î (aE4 (aC3 (ds++[d])))):M cS1) hp1) (C,j):=e2
            rwa [Cy hl]at this
          obtain⟨z,rfl⟩:=Qm y;cases z;obtain⟨a,xs,h1,h2,_⟩:=S.dX i ds q;refine cc3 h1 (ë ⟨rfl,xs,SqL.of h2⟩) ?_;refine cN7 Q;obtain⟨U,G,o,E,_,_,_,I⟩:=S1.dX i ds q;rw[h1]at o;cases o;obtain⟨g2,L⟩:=S1.pq q h1 (ct8 I Q);exact⟨a,G,v,rfl,rfl,E,ð ⇑I (Ax hl uF),k _ ρ1 B1 _ (à fy g2) L⟩
        . have:Pp ((cB0 (ã<lim) (î (aE4 (aC3 (ds++[d])))):M cS1) hp1) (C,j):=e2
          rw[Cw hl]at this;cases this
def sS(g:cm9)(f:ck):Û->aS6
  | []=>î []
  |d::ds=>do
    if <- g d then
      let y <- f d
      let ys <- sS g f ds
      î (y::ys)
    else sS g f ds
def wZ:Sl->Sl
 |.val d=>cL4
 |_=>ļ
def cE(idx:Ċ)(env:En)(d:DV):En:=cL4::cx3 i (wZ ((bJ6).getD ļ))
def YR(i:iY)(idx:Ċ)(t:cg)(f:aG):aG:=λ env=>do
 let ds <- i env
 ai9 ds
 let out <- sS (λ d=>t aP4) (λ d=>f aP4) ds
 am4 out
def X9:cg:=aL0 true
variable{elt iter:Expr}{x:Str}{px:Pos}{ifs:Α}{scope:Scope}{cl:aB9}{caps:ő}{idx:Ċ}{src:iY}{te:cg}
def cσ_ok{K:Aa}{Z:Ent}(S:bG2)(g:by8 ρ1 B1 H1)(W:aP K ρ1 B1 hp1 H1)(r:aA K ρ1 B1 H1 d v):
    bN K ⟨ρ1,B1,H1⟩ aP4 (cσ idx σ Oy) ρ1 B1 hp1 H1:=by
  refine⟨Gr.refl,W.bt,W,ĵ i e h,ĵ i es h,bx5 i j es y a h,fA cE cσ⟩
  . cases i with
    |zero =>
      have:d=e:=cX0 cE h
      subst this;exact⟨v,Ģ cσ,r⟩
    |succ i =>
      cases q:Ű idx with
      |none=>simp[cE,q]at h
      |some k =>
        have h':wZ ((co1).getD ļ)=Ó e:=aF5 cE h
        cases z:co1 with
        |none=>rw[z]at h';cases h'
        |some C =>
          rw[z]at h';cases C with
          |un=>cases h'
          |acc _=>cases h'
          |val o =>
            have:o=e:=cX0 wZ h'
            subst this;obtain⟨u,h1,h2⟩:=S.slot k o z;exact⟨u,by simp[cσ,q,h1],aA.gs g _ _ h2⟩
  . exfalso
    cases i with
    |zero=>simp[cE]at h
    |succ i =>
      cases q:Ű idx with
      |none=>simp[cE,q]at h
      |some k =>
        have h':wZ ((co1).getD ļ)=ax8:=aF5 cE h
        cases z:(co1).getD ļ with
        |un=>rw[z]at h';cases h'
        |acc _=>rw[z]at h';cases h'
        |val _=>rw[z]at h';cases h'
  . exfalso
    cases i with
    |zero=>simp[cE]at h
    |succ i =>
      cases q:Ű idx with
      |none=>simp[cE,q]at h
      |some k =>
        have h':wZ ((co1).getD ļ)=ax8:=aF5 cE h
        cases z:(co1).getD ļ with
        |un=>rw[z]at h';cases h'
        |acc _=>rw[z]at h';cases h'
        |val _=>rw[z]at h';cases h'
def QiF{K:Aa}(h:tD K (YR src idx te f) σ H Q):w6 K (Pb K src) (eV K te) (tD K f) idx σ H Q:=by
  obtain⟨Z,env,ρ,B,hp,d,hp',S,e,k⟩:=h;obtain⟨ds,hp1,e1,e2⟩:=Ū;obtain⟨_,C,e3,e4⟩:=Fa;obtain⟨hs,rfl⟩:=cW4;obtain⟨out,U,e5,e6⟩:=Qg e4;obtain⟨rfl,rfl⟩:=Qm e6;refine⟨Z,env,ρ,B,hp,ds,hp1,S,e1,λ J ρ1 B1 H1 g1 W1 it D O hK=>?_⟩;have Il:=fy;have dl:aO9 ã:=Bs (C4 hs) Â;refine⟨λ i m ys H2=>m=ã-i/\i<=ã/\ģ (H2 D) ys/\∃ρ2 u C r F,Gr K ρ1 B1 H1 ρ2 u H2/\aP K ρ2 u C H2/\u D/\D∉ρ2/\au K ρ2 u H2 r ys/\lP<=i /\
    sS (λ d=>te aP4) (λ d=>f aP4) bq8 C>=(F,U)/\r++F=out,?_,?_⟩
  . exact⟨ã,rfl,up,Q9,ρ1,jO B1 D,hp1,[],out,bN9 O hK,W1.banned O hK,ot,λ z=>W1.bt D (W1.rb D z) O,au.nil,đ,Ë e5,rfl⟩
  . rintro i m ys H2 ⟨rfl,hi,mC,ρ2,u,C,r,F,g2,W2,bD,nD,rd,dn,e7,e8⟩
    refine CA mC;obtain⟨HW,a8⟩:=it ρ2 u H2 (g2.gs W1.rb) W2.rb W2.bt;by_cases E:i<ã
    . have hd:aH6 ds[i]:=Ab E
      obtain⟨go,yl⟩:=HW i _ hd;rw[Bf E]at e7;obtain⟨b,cO,e9,e10⟩:=Qg e7;refine mf go (ĵ x H3 y);obtain⟨rx,hx⟩:=yl x H3 y;have I:Gr K ρ2 u H2 ρ2 u H3/\aP K ρ2 u C H3:=by
        rcases hx with rfl|⟨p,o,hn,rfl⟩
        . exact İ Gr.refl W2
        . exact İ cn5 (W2.laid hn)
      have g3:=bz3 I.1;have C3:=cσ_ok (idx:=idx) S (Il.trans (g3.gs W1.rb)) I.2 rx;refine cR5 C3 e9 ρ4 B4 H4 g4 S4;have pO:ģ (H4 D) ys:=g4.keep D _ nD (I.1.keep D _ nD mC);have pH:D∉ρ4:=λ z=>(g4.bW D z).elim nD λ q=>ı (I.1.keep D _ nD mC) q q
      cases b with
      |false=>refine mK ⟨ã-(i+1),À,rfl,E,pO,ρ4,B4,cO,r,F,ba9,S4.wo,g4.ban D bD,pH,aA1 W2.rb (à I.1 g4) _ rd,À,e10,e8⟩
      |true =>
        obtain⟨z,lR,h_,Iz⟩:=Qg e10;obtain⟨zs,Rk,Iw,Iu⟩:=Qg Iz;obtain⟨rfl,rfl⟩:=Qm Iu;refine mJ (tD.run S4 h_ λ v ρ5 P H5 L S5 r5=>?_);have Ig:ģ (H5 D) ys:=L.keep D _ pH pO;have tX:D∉ρ5:=λ z=>(L.bW D z).elim pH λ q=>ı pO q q
        have wK:P D:=L.ban D (g4.ban D bD);have G:=g3.trans (g4.trans L);have tM:=aA1 W2.rb (à I.1 (g4.trans L)) _ rd;have trk:∀b,Ν ((upd H5 D (Fs ys [v])) b)->Ν (H5 b):=λ b q=>by
          by_cases e:b=D
          . subst e;rw[Q9]at q;cases q
          . rw[Q0 e]at q;exact q
        have g6:Gs K ρ5 P H5 ρ5 P (upd H5 D (Fs ys [v])):=⟨Cb,tj h h,λ b o nb h=>cM2 b D (λ z=>nb (Æ z wK)) h,trk⟩;refine⟨Ig,ī tM.length,ã-(i+1),À,rfl,E,Q9,ρ5,P,lR,r++[z],zs,?_,?_,wK,tX,E9 g6 _ (ct8 tM r5),ŉ,Iw,fJ e8⟩
        . exact⟨G.pre,G.ban,G.new,G.bW,λ b o nb h=>cM2 b D (hW q q O h h) (G.keep b o nb h),λ b q=>G.trk b (trk b q)⟩
        . exact⟨S5.wo.len,S5.wo.nd,λ j b o q1 q2=>bz2 g6 (bR5 b D (λ z=>tX (ð z (Av q1)))) (S5.wo.obj j b o q1 q2),S5.wo.rb,λ b z q=>S5.wo.bt b z (trk b q),S5.wo.bk⟩
    . have e:i=ã:=À
      subst e;rw[Co]at e7;obtain⟨rfl,rfl⟩:=Qm e7;refine ë (CA a8);have gU:Gs K ρ2 u H2 ρ2 (λ b=>u b/\b≠D) H2:=⟨Cb,tj h h.1,wx h h,bW6⟩;refine k ↑D ρ2 (λ b=>u b/\b≠D) H2 (ϥ ⟨g2.pre,λ b z=>cC6 (g2.ban b z) q (W1.bt b z (q▸O)),λ b z=>g2.new b z.1,g2.bW,g2.keep,g2.trk⟩)
        ⟨W2.len,W2.nd,λ j b o q1 q2=>bH.gs gU rfl (W2.obj j b o q1 q2),λ b z=>cC6 (W2.rb b z) q (nD (q▸z)),λ b z=>W2.bt b z.1,λ b z=>W2.bk b z.1⟩ (UR (λ z=>z.2 rfl) (SqL.of mC) ?_)
      rw[<- e8,Bo];exact E9 gU _ rd
def BL(X:Cx)(ifs:Α)(t:cg):ç:=rE X ifs (eV X.K t)
def JT:BL X [] X9:=λ i s σ H Q I j=>by obtain⟨Z,env,ρ,B,hp,d,hp',S,e,k⟩:=j;obtain⟨rfl,rfl⟩:=CH;exact Qou i s σ H Q I (k ρ B H Gr.refl S.wo)
def NQ(h:DT X c te):BL X [c] te:=Qov h
def Us(S:cW X x scope cl caps idx)(d:aT)(hi:DI X ax0 iter src)
  (ht:∀C s₀ H₀ ex,BL cu3 ifs te) (he:∀C s₀ H₀ ex,DE cu3 elt f)
  (hs:∀x,cG1=bZ8:=by intro _;rfl):ϟ (bg0 [bH0 0]) (YR src idx te f) :=
 Pz (HH (tt:=eV X.K te) (te:=tD X.K f) S d hi ht he hs) (wx h (QiF h))
def Zi(n:Nat)(i:aF):cf:=λ ds=>do
 let r <- i (df3++ö (n-ã) ļ)
 match r.1 with
 |.nx=>î Ę
 |.rt d=>cj4
 |_=>failure
def lC(K:Aa)(n:Nat)(F:Ee):Sp:=λ vs H Q _=>aE1=n/\∃ρ B hp ds d hp',bF0/\mx vs/\cN8 (F ds hp)/\iM K ρ B H d hp' Q
structure Has(P:Program)(w:World)(K:Aa)(mg:C9)(O8:Heap)(x:Str)(k n:Nat)(F:Ee):ç where
 ex:∃(g:Addr)(fd:FuncData)(ps:ő),xQ P w K mg O8 CX0 k g fd ps (lC K n F)/\ct9 K []/\dc K ↑g/\mg x>=↑g
def K5{K:Aa}{N:ő}(W:bF0)(r:mx vs):
  bN K ⟨ρ,B,H⟩ (df3++ö (aZ5-ã) ļ) (L2.start N vs) ρ B hp H:=by
 have hl:=lP;have at_:E6 i z Sl (Ϥ (Af Sl.val++ö (aZ5-ã) Sl.un) z->z=ļ∨∃d,aI6/\z=cL4):=λ{i z} h=>by
  by_cases hi:i<ã
  ·rw[Ag bo3,Bq,cf5]at h;cases h;exact Ĉ (bJ9 cf5)
  ·rw[Ap bo3,List.getElem?_replicate]at h;split at h
   ·cases h;exact ĭ
   ·cases h
 refine⟨Gr.refl,W.bt,W,ĵ i d h,ĵ i es h,bx5 i j es o a h,ao1 L2.start⟩
 ·rcases at_ h with z|⟨d',q,z⟩
  ·cases z
  ·cases z;obtain⟨v,h1,h2⟩:=r.get q;refine⟨v,?_,h2⟩;unfold L2.start;have hi:i<aE1:=ţ h1;rw[Ag bo3,Bq,h1];rfl
 ·rcases at_ h with z|⟨d',q,z⟩<;>cases z
 ·rcases at_ h with z|⟨d',q,z⟩<;>cases z
def Qp5{P:Program}{w:World}{K:Aa}{mg:C9}{O8:Heap}{x:Str}{g:Addr}{k:Nat}{j:aF}(F:Fun K x x stm g fd)(z:Č N ps stm)(C:mg x>=↑g)
  (hb:∀(kV u I:Value)(an:OL)(i ct:Value)(us:Đ),⇑us=a0->ap7 (PySem.W.fnOf x x (Xv stm) ay1 Hr ey kV u I an i ct) us=î D1)
  (h:∀(i:Value)(A:Around)(outer:IR)(s:Shared)(H:Hp)(E:XK),so k (ř x Hr g i)->iQ (GZ CX0 P w K mg O8 N x Hr g i A outer s H E).nox ay1 j) :
  Iq x (k+1) a0 (cJ9 j):=by
 refine⟨g,fd,ps,F.ok z (λ vs H Q E h=>h.1) (λ i A outer s H vs Q E G sp=>?_),F.binds hb,F.kp,C⟩;obtain⟨hn,ρ,B,hp,ds,d,hp',W,r,e,k⟩:=sp;obtain⟨⟨y,o⟩,hp1,e1,e2⟩:=Ū;refine⟨_,h i A outer s H E G,⟨ρ,B,H⟩,_,ρ,B,hp,y,o,hp1,K5 W r,e1,bx5 σ' ρ' B' H' g' S'⟩;cases y with
 |nx=>obtain⟨rfl,rfl⟩:=bd;exact k Ę ρ' B' H' S'.gr S'.wo yU
 |rt x=>obtain⟨rfl,rfl⟩:=bd;exact λ v J=>k v ρ' B' H' S'.gr S'.wo J
 |bk=>cases e2
 |ct=>cases e2
def QA(n:Nat)(F:Ee)(a:cB):aG:=λ env=>do
 let ds <- by2
 cz (ã=n)
 F ds
def QE{y:Str}{k j n:Nat}{F:Ee}{e:Expr}{es:Α}{fa:cB}{p:Pos}(h:Has X.prog X.w X.K X.mg X.O8 y j n F)(L:bg3)(E:j<=k)(hx:zI CX0 X E0)(ha:DA X (e::es) fa)(C:ND y:=by rfl)
  (hdb:aw9 y:=by decide) (he:cB4=cs4::bo6:=by rfl) (hpl:ć ((at0).any μ):=by rfl):cs6 y (e::es) (QA n F fa):=by
 obtain⟨g,fd,ps,r,z,G,I⟩:=h.ex;refine Pz (Qob r (L.mono E) C I G z lS hx ha hdb he hpl) (pM σ H Q u);obtain⟨Z,env,ρ,B,hp,d,hp',S,e,k⟩:=u;obtain⟨ds,hp1,e1,e2⟩:=Ū;obtain⟨_,J,e3,v⟩:=Fa;obtain⟨hl,rfl⟩:=cW4;refine au9 S (rr vs o H1 g1 S1 i ?_);refine⟨aL2 Bo cu8 bl8,ρ1,o,hp1,ds,d,hp',S1.wo,Æ Bo i,v,bU1⟩
#where
section
variable{X:Cx}{e a b c:Expr}{f fa fb fc:aG}{ca cb:cg}{pos:Pos}
def jW(C:Int->cb0)(g:Int->Int->DV):Rt
 |.int i,.int j=>cB0 (C i j) (î (g i j))
 |_,_=>failure
def KJ{C:Int->cb0}{g:Int->Int->DV}{x y d:DV}{hp hp':Hs}(h:cN8 (jW C g x y hp)):∃i j,x=dz/\y=bI8/\œ (C i j)/\d=g i j/\hp=hp':=by
 unfold jW at h;split at h
 ·rename_i i j;by_cases o:(œ (C i j))
  ·rw[Cy o]at h;obtain⟨rfl,rfl⟩:=cJ8;exact bx1 i j rfl o rfl rfl
  ·rw[Cw o]at h;cases h
 ·cases h
def uS{g:bF3}{C:Int->cb0}{P:Int->aJ2}{q:Int->Int->Int}(E:EA g (rI P λ i j=>Ì (q i j)))(r:∀i j,œ (C i j)->P i j):P2 X g (jW C λ i j=>Ì (q i j)):=by intro o s σ H x y v u Q I rx ry h;refine E o s σ H x y v u Q I rx ry ?_;obtain⟨ρ,B,hp,J,L,d,hp',W,F,G,e,k⟩:=h;obtain⟨i,j,rfl,rfl,z,rfl,rfl⟩:=KJ e;exact⟨i,j,F.bf,G.bf,r i j z,aX2⟩
def Qn9{g:bF3}{q:Int->Int->Int}(r:EA g (rI0 λ i j=>Ì (q i j))):P2 X g (jW NC λ i j=>Ì (q i j)):=by intro o s σ H x y v u Q I rx ry h;refine r o s σ H x y v u Q I rx ry ?_;obtain⟨ρ,B,hp,E,F,d,hp',W,z,C,e,k⟩:=h;obtain⟨i,j,rfl,rfl,G,rfl,rfl⟩:=KJ e;exact⟨i,j,z.bf,C.bf,aX2⟩
def vo{g:bF3}{q:Int->cb0}(r:EA g (rI0 λ i j=>Ζ (q i j))):P2 X g (jW NC λ i j=>Ζ (q i j)):=by intro o s σ H x y v u Q I rx ry h;refine r o s σ H x y v u Q I rx ry ?_;obtain⟨ρ,B,hp,E,F,d,hp',W,z,C,e,k⟩:=h;obtain⟨i,j,rfl,rfl,G,rfl,rfl⟩:=KJ e;exact⟨i,j,z.bf,C.bf,bf7⟩
def Sv(i j:Int):Bool:=ß ((-(2 ^ 64)<i/\i<2 ^ 64)∨(-(2 ^ 64)<j/\j<2 ^ 64))
def R_(_ j:Int):Bool:=ß (0<j/\j<EB)
def R8(_ j:Int):Bool:=LU 0 j
def Qtq(i j:Int):Bool:=ß (0<=j/\bj2 j/\i.natAbs<2 ^ 64)
def qS:Rt:=jW NC λ i j=>Ì (i-j)
def rD:Rt:=jW Sv λ i j=>Ì (i * j)
def Yy:Rt:=jW R_ λ i j=>Ì (i / j)
def Xg:Rt:=jW R8 λ i j=>Ì (i % j)
def jl:Rt:=jW Qtq λ i j=>Ì (i ^ j.toNat)
def cC:Rt:=jW NC λ i j=>dd1 i j
def eN:Rt:=jW NC λ i j=>Ζ (Ib i j)
def dh:Rt:=jW NC λ i j=>dd1 j i
def mD:Rt:=jW NC λ i j=>Ζ (Ib j i)
def ji:P2 X (fF .Sub) qS:=Qn9 QqI
def LR:P2 X ak6 rD:=uS QqG λ i j h=>C4 (p:=(-(2 ^ 64)<i/\i<2 ^ 64)∨(-(2 ^ 64)<j/\j<2 ^ 64)) h
def jh:P2 X (fF .FloorDiv) Yy:=uS Qn5 λ i j h=>C4 (p:=0<j/\j<EB) h
def Yo:P2 X (fF .Mod) Xg:=uS QqF λ_ _ h=>C4 h
def UQ:P2 X (fF .Pow) jl:=uS QqH λ i j h=>C4 (p:=0<=j/\bj2 j/\i.natAbs<2 ^ 64) h
def xH:Pw X .Lt cC:=vo QsG
def oX:Pw X .LtE eN:=vo QsF
def nP:Pw X .Gt dh:=vo QsE
def wM:Pw X .GtE mD:=vo QsD
def QtD:ck
 |.int i=>Lu (-i)
 |_=>failure
def KC(f:aG):aG:=FP (do QtD (<- bb))
def Fz(h:ck9 a):ϟ (.UnaryOp .USub a pos) (KC f):=L2.PE.imp (QsQ QrI h) λ σ H Q j=>by
 obtain⟨Z,env,ρ,B,hp,d,hp',S,e,k⟩:=j;obtain⟨x,hp1,e1,e2⟩:=Ū;refine cN7 o;cases x with
 |int i=>obtain⟨rfl,rfl⟩:=bd;exact⟨i,o.bf,bg5 Js⟩
 |_=>cases e2
def Qlk:EA ak5 (λ x y H Q=>∃a b ys,x=ν/\y=cL6/\bt7 a []/\cP4 b/\Ă Tm/\cw4 b H):=by
 intro G s σ H x y v u Q I rx ry h;obtain⟨a,b,ys,rfl,rfl,ha,j,hz,q⟩:=h;cases rx;cases ry;obtain⟨d,C,o,_⟩:=d4 ha;obtain⟨i,E,r,_⟩:=d4 j;obtain⟨m,F⟩:=I.fr;have z:d=[]:=by cases C;rfl
 subst z;exact add_tuples F (Qla (g:=X.O8) (L:=X.env.locals)) o r (λ_=>dr cL6 H I q) (λ n=>av9 n) (λ n=>av9 n) (aF6 ⇑E)
def Zq:Rt
 |.int i,.int j=>Lu (i+j)
 |.tup xs,.tup ys=>do ai9 (xs++ys);Pa (xs++ys)
 |.lst xs,.lst ys=>do ai9 (xs++ys);î (Fs xs ys)
 |_,_=>failure
def M3:EA ak5 (λ x y H Q=>∃l b xs j,x=æ l/\y=cL6/\Pm X.K l/\rh X.K b j/\Ă (ŝ+Tl)/\∀p,cD1->cI1 (q7 p (xs++j))):=by
 intro O9 s σ H x y v u Q I rx ry h;obtain⟨l,b,xs,j,rfl,rfl,hl,hb,hz,q⟩:=h;cases rx;cases ry;obtain⟨i,E,⟨⟨k1,U,O,r⟩,n1,e1,c1,d1,J⟩,_⟩:=wy hl;obtain⟨d,G,⟨⟨k2,Z,P,z⟩,n2,e2,c2,C,L⟩,_⟩:=wy hb;simp only at c1 d1 J c2 C L;subst c1 d1 J c2 C L;have ea:i.toArray++d.toArray=au6 (i++d):=Ê
 have o:Ă (cu8+⇑d):=ap9 ⇑E G hz
 refine concat_meets (T := ĉ) (bJ9 e1) (bJ9 e2) noFill_list_add seq_list_add PySem.F.slot_list_add PySem.F.entry_list_add (PySem.F.args_list_add_2 _ _) (list_addW l b i.toArray d.toArray n1 n2 none none r z (Ë o)) (mY e1 e2);rw[ea];exact dr (æ _) _ (I.lnew (t':=s.toks) (E.append G) (Æ Am hz)) (q _ I.fresh)
def Z9:P2 X ak5 Zq:=by
 intro r s σ H x y v u Q I rx ry h;obtain⟨ρ,B,hp,L,O,d,hp',W,C,E,e,k⟩:=h;unfold Zq at e;split at e
 ·obtain⟨rfl,rfl⟩:=CH;exact QqD r s σ H x y v u Q I rx ry ⟨_,_,C.bf,E.bf,aX2⟩
 ·rename_i xs ys;obtain⟨_,hp1,e1,e2⟩:=Ū;obtain⟨z,rfl⟩:=aF2;obtain⟨rfl,rfl⟩:=bd;obtain⟨a,vs,rfl,G,q1,i⟩:=C.tupI;obtain⟨b,ws,rfl,J,o,j⟩:=E.tupI;have hz:Ă (aE1+cR6):=av0 (jw z) Am cu8 Tl this
  by_cases hv:vs=[]
  ·subst hv;have:xs=[]:=by have:=cu8;cases xs with|nil=>rfl|cons _ _=>simp at this
   subst this;exact Qlk r s σ H _ _ v u Q I rx ry (bw2 a b ws rfl q1 o (by simp at hz;exact hz) (L4 (j9 J o j)))
  ·refine Qn4 r s σ H _ _ v u Q I rx ry ⟨a,b,vs,ws,rfl,rfl,q1,o,hv,hz,bv1 F,λ F=>yO W (aq2 i j) k⟩;subst F;have:ys=[]:=by have:=Tl;cases ys with|nil=>rfl|cons _ _=>simp at this
   subst this;rw[Bo]at k;exact L4 (j9 G q1 i)
 ·rename_i xs ys;obtain⟨_,hp1,e1,e2⟩:=Ū;obtain⟨z,rfl⟩:=aF2;obtain⟨rfl,rfl⟩:=bd;obtain⟨a,vs,rfl,G,q1,i⟩:=C.b_;obtain⟨b,ws,rfl,J,o,j⟩:=E.b_;have hz:Ă (aE1+cR6):=av0 (jw z) Am cu8 Tl this
  exact M3 r s σ H _ _ v u Q I rx ry ⟨a,b,vs,ws,rfl,rfl,q1,o,hz,zi W (aq2 i j) k⟩
 ·cases e
def iB:IW DV
 |.non=>true
 |_=>false
def Mn{K:Aa}{v:V}(r:cm7):FY v Ę=bb0:=by
 cases d with
 |non=>rw[r.fG];rfl
 |bl b=>rw[r.iu];rfl
 |int b=>rw[r.bf];rfl
 |str b=>rw[r.bL];rfl
 |tup b=>obtain⟨a,xs,rfl,_⟩:=r.tupI;rfl
 |lst b=>obtain⟨a,xs,rfl,_⟩:=r.b_;rfl
 |ref b=>obtain⟨a,rfl,_⟩:=r.tL;rfl
def isD:Rt
 |x,.non=>fz (iB x)
 |.bl p,.bl q=>fz (p==q)
 |_,_=>failure
def V0:Rt
 |x,.non=>fz (i7 (iB x))
 |.bl p,.bl q=>fz (p != q)
 |_,_=>failure
def uT:Pw X .Is isD:=by
 intro o s σ H x y v u Q I rx ry h;obtain⟨ρ,B,hp,r,z,d,hp',W,i,j,e,k⟩:=h;unfold isD at e;split at e
 ·obtain⟨rfl,rfl⟩:=CH;refine QqE o s σ H x y v u Q I rx ry (CA j.fG);rw[Mn i];exact bf7
 ·obtain⟨rfl,rfl⟩:=CH;obtain rfl:=i.iu;obtain rfl:=j.iu;cases rx;cases ry;exact is_bool (N3 _ H I bf7)
 ·cases e
def sI:Pw X .IsNot V0:=by
 intro o s σ H x y v u Q I rx ry h;obtain⟨ρ,B,hp,r,z,d,hp',W,i,j,e,k⟩:=h;unfold V0 at e;split at e
 ·obtain⟨rfl,rfl⟩:=CH;refine Qn7 o s σ H x y v u Q I rx ry (CA j.fG);rw[Mn i];exact bf7
 ·obtain⟨rfl,rfl⟩:=CH;obtain rfl:=i.iu;obtain rfl:=j.iu;cases rx;cases ry;exact isnot_bool (N3 _ H I bf7)
 ·cases e
def Oo{K:Aa}{i:Int}(r:sT)(h:bl1>=d):∃x,bl0 xs>=x/\Pf x:=by
  unfold atI at h ⊢;rw[<- lP];cases q:ixN ã i with
  |none=>rw[q]at h;cases h
  |some j=>rw[q]at h;exact r.get h
def bB:Rt
  |.tup ds,.int i=>match bl1 with
    |some d=>cj4
    |none=>failure
  |.lst ds,.int i=>match bl1 with
    |some d=>cj4
    |none=>failure
  |_,_=>failure
def RZ:IxR X (rF X.K bB):=by
  intro value slice O9 s σ H x y v u Q I rx ry h hsub;obtain⟨ρ,B,hp,F,G,d,hp',W,r,C,e,k⟩:=h;unfold bB at e;split at e
  . rename_i ds i
    cases q:bl1 with
    |none=>rw[q]at e;cases e
    |some d' =>rw[q]at e;obtain⟨rfl,rfl⟩:=CH;obtain⟨a,xs,rfl,E,q1,j⟩:=r.tupI;obtain⟨z,hz,o⟩:=Oo j q;exact Qqk value slice O9 s σ H _ _ v u Q I rx ry (bw2 a xs i z C.bf q1 hz (L4 o)) hsub
  . rename_i ds i
    cases q:bl1 with
    |none=>rw[q]at e;cases e
    |some d' =>rw[q]at e;obtain⟨rfl,rfl⟩:=CH;obtain⟨a,xs,rfl,E,q1,j⟩:=r.b_;obtain⟨z,hz,o⟩:=Oo j q;exact Md value slice O9 s σ H _ _ v u Q I rx ry (bw2 a xs i z C.bf q1 hz (L4 o)) hsub
  . cases e
def JJ(ha:dd7)(d:ϟ b fb)(i:Ox b:=by intro _ _;rfl):ϟ (bV0 a b) (Qh bB fa fb):=Pz (S_ RZ ha d i) (wx h (yb h))
#where
mutual
def toP:Rq PyData
 |.non=>ey
 |.bl b=>x5 b
 |.int i=>dz
 |.str x=>ϧ
 |.tup xs=>.tuple (cM xs)
 |.lst xs=>.list (cM xs)
 |.ref _=>ey
def cM:Û->Ã PyData
 | []=>[]
 |d::ds=>cf6::cM ds
end
mutual
def sJ:IW DV
 |.ref _=>false
 |.tup xs=>d8 xs
 |.lst xs=>d8 xs
 |_=>true
def d8:IW Û
 | []=>true
 |d::ds=>sJ d&&d8 ds
end
section
variable{X:Cx}{O9:C8}{σ:St}{H:Hp}{s:Shared}{ρ:Ed}{B:Ec}
mutual
def yr(I:ag):∀(d:DV)(v:V)(u:Value),mr X.K d v->dd8->œ (sJ d)->∃y,Reads s.heap u cf6 y
  |.non,_,_,r,c,_=>by obtain rfl:=r.fG;cases c;exact bK8 [] ey
  |.bl b,_,_,r,c,_=>by obtain rfl:=r.iu;cases c;exact bK8 [] (x5 b)
  |.int i,_,_,r,c,_=>by obtain rfl:=r.bf;obtain⟨t,rfl⟩:=c;exact bK8 [] bi1
  |.str x,_,_,r,c,_=>by obtain rfl:=r.bL;obtain⟨t,rfl⟩:=c;exact bK8 [] (.str x t)
  |.ref _,_,_,_,_,n=>ē n
  |.tup ds,_,_,r,c,n=>by obtain⟨a,xs,rfl,_,F,C⟩:=r.tupI;cases c;obtain⟨j,E,⟨o,e,z,k,hd⟩,_⟩:=d4 F;obtain⟨y,q⟩:=cZ I ds xs j C E (cy sJ n n);exact bK8 _ (reads_tuple_at e z hd (Ë q))
  |.lst ds,_,_,r,c,n=>by obtain⟨a,xs,rfl,_,F,C⟩:=r.b_;cases c;obtain⟨j,E,⟨o,k,e,z,_,hd⟩,_⟩:=wy F;obtain⟨y,q⟩:=cZ I ds xs j C E (cy sJ n n);exact bK8 _ (reads_list_at e z hd (Ë q))
def cZ(I:ag):∀(ds:Û)(xs:η)(us:Đ),iq X.K ds xs->aW3->œ (d8 ds)->∃c,ReadsAll s.heap us (cM ds) c
  | [],_,_,r,a,_=>by unfold au at r;subst r;cases a;exact S6 [] cM lS
  |d::ds,_,_,r,a,n=>by
    unfold au at r;obtain⟨x,xs,rfl,i,j⟩:=r;cases a with
    |cons q1 e=>unfold d8 at n;rw[Ba]at n;obtain⟨c,h1⟩:=yr I d x _ i q1 n.1;obtain⟨bs,h2⟩:=cZ I ds xs _ j e n.2;exact S6 _ cM (ϗ h1 h2)
end
#where
def fO(d:DV):Bool:=sJ d&&nV d
def dU:Rt:=λ x y=>do QI (fO x&&fO y);fz (cO2 x y)
def CP:Rt:=λ x y=>do QI (fO x&&fO y);fz (i7 (cO2 x y))
section
variable{X:Cx}{e a b c:Expr}{f fa fb fc:aG}{ca cb:cg}{pos:Pos}
def mF(r:w8 64<cLine):Pw X .Eq dU:=by intro F s σ H x y v u Q I rx ry h;obtain⟨ρ,B,hp,j,o,d,hp',W,C,E,e,k⟩:=h;obtain⟨_,hp1,e1,e2⟩:=Ū;obtain⟨i,rfl⟩:=aF2;obtain⟨rfl,rfl⟩:=bd;simp only[fO,Ba]at i;obtain⟨G,q1⟩:=yr I j x v C rx i.1.1;obtain⟨bs,z⟩:=yr I o y u E ry i.2.1;exact eq_dataH q1 z i.1.2 i.2.2 r (N3 _ H I bf7)
def QtF(r:w8 64<cLine):Pw X .NotEq CP:=by intro F s σ H x y v u Q I rx ry h;obtain⟨ρ,B,hp,j,o,d,hp',W,C,E,e,k⟩:=h;obtain⟨_,hp1,e1,e2⟩:=Ū;obtain⟨i,rfl⟩:=aF2;obtain⟨rfl,rfl⟩:=bd;simp only[fO,Ba]at i;obtain⟨G,q1⟩:=yr I j x v C rx i.1.1;obtain⟨bs,z⟩:=yr I o y u E ry i.2.1;exact ne_dataH q1 z i.1.2 i.2.2 r (N3 _ H I bf7)
def fV(K:Aa)(g:Ee):η->Hp->wp:=λ xs H Q=>∃ρ B hp ds d hp',bF0/\sT/\cN8 (g ds hp)/\iM K ρ B H d hp' Q
def QK(g:Ee)(a:cB):aG:=FP (do g (<- by2))
def Sj{K:Aa}{g:Ee}{fa:cB}{σ:St}{H:Hp}{Q:VK}(h:tD K (QK g fa) σ H Q):tCB (fV K g) (fW K fa) σ H Q:=by obtain⟨Z,env,ρ,B,hp,d,hp',S,e,k⟩:=h;obtain⟨ds,hp1,e1,e2⟩:=Ū;exact au9 S (rr vs i H1 g1 S1 j ⟨ρ1,i,hp1,ds,d,hp',S1.wo,j,e2,bU1⟩)
def Zf{x:Str}{id:String}{g:Ee}{e:Expr}{es:Α}{fa:cB}{p:Pos}(i:bf6 X id g)(o:c4 x)(hv:AJ>=cD3)(ha:DA X (e::es) fa)(j:ND x:=by rfl)(hn:tY x := by decide)(d:aC8:=by decide)
  (he:cB4=cs4::bo6:=by rfl) (hpl:ć ((at0).any μ):=by rfl):cs6 x (e::es) (QK g fa) :=
 Pz (uX i j o hv ha hn d he hpl) (wx h (Sj h))
def JC{x:Str}{T:String}{g:Ee}{e:Expr}{es:Α}{fa:cB}{p:Pos}(i:cU7 X bJ3 g)(o:c4 x)(hv:AJ>=bJ3)(ha:DA X (e::es) fa)(j:ND x:=by rfl)(hn:tY x := by decide)(d:aC8:=by decide)
  (he:cB4=cs4::bo6:=by rfl) (hpl:ć ((at0).any μ):=by rfl):cs6 x (e::es) (QK g fa) :=
 Pz (Qi9 i j o hv ha hn d he hpl) (wx h (Sj h))
def au.bY{K:Aa}{vs:η}(h:i4 [d] vs):∃v,vs=[v]/\cm7:=by unfold au at h;obtain⟨x,r,rfl,h1,h2⟩:=h;unfold au at h2;subst h2;exact Ņ x h1
def UJ:cf
 | [.tup ds]=>Lu ã
 | [.lst ds]=>Lu ã
 |_=>failure
def sU:bf6 X "len" UJ:=by
 intro o s σ H xs us Q I r h;obtain⟨ρ,B,hp,ds,d,hp',W,u,e,k⟩:=h;unfold UJ at e;split at e
 ·obtain⟨rfl,rfl⟩:=CH;obtain⟨v,rfl,i⟩:=u.bY;obtain⟨a,ys,rfl,_,j,l⟩:=i.tupI;exact jQ o s σ H _ us Q I r (t6 a ys (Ĉ j) (ð ⇑l aX2))
 ·obtain⟨rfl,rfl⟩:=CH;obtain⟨v,rfl,i⟩:=u.bY;obtain⟨a,ys,rfl,_,j,l⟩:=i.b_;exact jQ o s σ H _ us Q I r (t6 a ys (ë j) (ð ⇑l aX2))
 ·cases e
def Dv:cf
 | [.int i,.int j]=>Lu (É (j<i) j i)
 |_=>failure
def Dy:cf
 | [.int i,.int j]=>Lu (É (j > i) j i)
 |_=>failure
def Qr4(j:aT):bf6 X "min" Dv:=by
 intro i s σ H xs us Q I r h;obtain⟨ρ,B,hp,ds,d,hp',W,o,e,k⟩:=h;unfold Dv at e;split at e
 ·obtain⟨rfl,rfl⟩:=CH;exact Qis j i s σ H xs us Q I r (cc3 _ o.ints2 aX2)
 ·cases e
def Qr3(j:aT):bf6 X "max" Dy:=by
 intro i s σ H xs us Q I r h;obtain⟨ρ,B,hp,ds,d,hp',W,o,e,k⟩:=h;unfold Dy at e;split at e
 ·obtain⟨rfl,rfl⟩:=CH;exact Qir j i s σ H xs us Q I r (cc3 _ o.ints2 aX2)
 ·cases e
def su:cf
 | [.lst ds]=>î ny
 | [.tup ds]=>î ny
 |_=>failure
def OJ:cU7 X aw0 su:=by
 intro o s σ H xs us Q I r h;obtain⟨ρ,B,hp,ds,d,hp',W,u,e,k⟩:=h;unfold su at e;split at e
 ·obtain⟨rfl,rfl⟩:=CH;obtain⟨v,rfl,j⟩:=u.bY;obtain⟨a,ys,rfl,_,i,l⟩:=j.b_;exact zJ o s σ H _ us Q I r (fh a ys (N2 i (yO W l k)))
 ·obtain⟨rfl,rfl⟩:=CH;obtain⟨v,rfl,j⟩:=u.bY;obtain⟨a,ys,rfl,x,i,l⟩:=j.tupI;exact zJ o s σ H _ us Q I r (fh a ys (mf i (L4 (j9 x i l))))
 ·cases e
def kE:Rq (ď String)
 |.non=>í "NoneType"
 |.bl _=>í cx5
 |.int _=>í bl3
 |.str _=>í sM
 |.tup _=>í Ń
 |.lst _=>í ĉ
 |.ref _=>none
def uz(t T:String):Bool:=t==T||(t == cx5 && T == bl3)
def Qr2{T:String}(J:T∈[bl3, cx5, Ń, sM, ĉ]):IZ X wb (λ xs H Q=>∃ρ B d x t,xs=[x,.ty T]/\mr X.K d x/\kE d>=t/\Q (Ζ (uz t T)) H):=by
  intro L s σ H xs us Q I r h;obtain⟨ρ,B,d,x,t,rfl,C,v,q⟩:=h;obtain⟨u,w',rfl,y,F⟩:=kI r;cases F;have i:∀tk,EP X L σ Q (x5 (uz t T)) (aH0 s tk):=λ tk=>N3 _ H ϩ q;have j:PySem.W.kitOne X.K (į t) bJ3>=(uz t T):=by
    have:t∈["NoneType", cx5, bl3, sM, Ń, ĉ]:=by cases d<;>cases v<;>simp
    simp only[Bi,B8,or_false]at this J;rcases this with rfl|rfl|rfl|rfl|rfl|rfl<;>rcases J with rfl|rfl|rfl|rfl|rfl<;>first|rfl|decide|with_unfolding_all rfl|kernel_rfl
  cases d with
  |non=>obtain rfl:=C.fG;cases v;cases y;exact tz PySem.W.kitx_none True.intro j bH3 i
  |bl b=>obtain rfl:=C.iu;cases v;cases y;exact tz PySem.W.kitx_bool True.intro j bH3 i
  |int b=>obtain rfl:=C.bf;cases v;obtain⟨tk,rfl⟩:=y;exact tz PySem.W.kitx_int True.intro j bH3 i
  |str b=>obtain rfl:=C.bL;cases v;obtain⟨tk,rfl⟩:=y;exact tz PySem.W.kitx_str True.intro j bH3 i
  |ref b=>cases v
  |tup b=>cases v;obtain⟨a,ys,rfl,_,G,_⟩:=C.tupI;cases y;obtain⟨E,_,⟨o,e1,e2,_⟩,_⟩:=d4 G;exact tz PySem.W.kitx_tuple (IX e1 e2) j bH3 i
  |lst b=>cases v;obtain⟨a,ys,rfl,_,G,_⟩:=C.b_;cases y;obtain⟨E,_,⟨o,k,e1,e2,_⟩,_⟩:=wy G;exact tz PySem.W.kitx_list (IX e1 e2) j bH3 i
def JQ(g g':Rt)(fa fb fc:aG):aG:=λ env=>do
 let x <- fa env
 let y <- fb env
 let z <- g x y
 if <- lE z then
  let u <- fc env
  g' y u
 else î Θ
#where
section
variable{X:Cx}{e a b c:Expr}{f fa fb fc:aG}{ca cb:cg}{pos:Pos}
def QfL{K:Aa}{g g':Rt}(h:tD K (JQ g g' fa fb fc) σ H Q):TX (rF K g) (rF K g') (tD K fa) (tD K fb) (tD K fc) σ H Q:=by
  obtain⟨Z,env,ρ,B,hp,d,hp',S,e,k⟩:=h;obtain⟨x,hp1,e1,e⟩:=Ū;obtain⟨y,i,e2,e⟩:=Ū;obtain⟨z,G,e3,e⟩:=Ū;obtain⟨t,P,E,e⟩:=Ū;obtain⟨rfl,rfl⟩:=zZ E;refine cN6 J (aF1 e2 (λ u ρ2 r H2 g2 S2 o=>?_));refine⟨ρ2,r,i,x,y,_,_,S2.wo,ϸ g2 _ _ J,o,e3,λ w ρ3 B3 H3 g3 W3 L=>mY t L.iu⟩;have j:=S2.grow g3 W3;cases t with
  |false=>obtain⟨rfl,rfl⟩:=CH;exact mK (k _ ρ3 B3 H3 bU0 W3 Jn)
  |true=>obtain⟨q,I,e5,F⟩:=Ū;refine mJ (tD.run j e5 λ p ρ4 C H4 g4 S4 O=>?_);exact⟨ρ4,C,I,y,q,d,hp',S4.wo,aA.grow j.wo.rb g4 _ _ (aA.grow S2.wo.rb g3 _ _ o),O,F,wv (sh ba9)⟩
def x8{o i:CmpOp}{g g':Rt}(C:Pw X o g)(j:Pw X i g')(ha:dd7)(u:ϟ b fb)(y:ϟ c fc)(z:ć (lastMarks [o,i] [b,c]):=by with_unfolding_all rfl):DT X (co9 a [o,i] [b,c]) (eB (JQ g g' fa fb fc)) :=
 L2.PT.imp (QlL C j ha u y z) λ σ H Q r=>by obtain⟨Z,env,ρ,B,hp,d,hp',S,e,k⟩:=r;obtain⟨x,hp1,e1,e2⟩:=Ū;obtain⟨rfl,rfl⟩:=zZ e2;exact QfL (cN6 E ⟨d,E.iu,k ρ1 B1 H1 g1 S1.wo⟩)
abbrev lX:=En->M Ý
def mW(K:Aa)(f:lX):TO:=λ σ H Q=>∃Z env ρ B hp d hp',bG2/\cN8 aE/\Sq K ρ B H hp' (Q d)
def DO(X:Cx)(e:ak3)(f:lX):ç:=PO X e (mW X.K f)
def Zy:lX:=aL0 none
def dH:Rq (M Int)
 |.int i=>î i
 |_=>failure
def vH{d:DV}{c:Int}{hp hp':Hs}(h:Pp (dH d hp) c):d=Ì c/\hp=hp':=by
 cases d with
 |int b=>obtain⟨rfl,rfl⟩:=cJ8;exact ed
 |_=>cases h
def Zh(f:aG):lX:=FP (oE i (cK0 bb) bh5)
def Jq:DO X none Zy:=λ i s σ H Q I j=>by obtain⟨Z,env,ρ,B,hp,d,hp',S,e,k⟩:=j;obtain⟨rfl,rfl⟩:=CH;exact Qon i s σ H Q I (k ρ B H Gr.refl S.wo)
def Z1(h:cl0):DO X bJ1 (Zh f):=λ j s σ H Q I o=>by obtain⟨Z,env,ρ,B,hp,d,hp',S,e,k⟩:=o;obtain⟨x,hp1,e1,e2⟩:=Ū;obtain⟨i,u,e3,r⟩:=Fa;obtain⟨rfl,rfl⟩:=vH e3;obtain⟨rfl,rfl⟩:=Qm r;exact Qoo h j s σ H Q I (cN6 y ⟨i,y.bf,k ρ1 B1 H1 g1 S1.wo⟩)
def mW.run{K:Aa}{f:lX}{Z:Ent}{d:Ý}{Q:Ý->eg}(S:bG2)(e:aE>=(d,hp1))
  (k:∀ρ' B' H',bX1->TW K Z ρ' B' hp1 H'->Q d H'):mW K f σ H Q :=
 ⟨Z,env,ρ,B,hp,d,hp1,S,e,λ ρ' B' H' g W=>k ρ' B' H' g dj5⟩
def Vd(ds:Û)(d hi:Ý):Û:=(m9 (nN ã 0 d)).take (nN ã ã hi-nN ã 0 d)
def vT{K:Aa}{d hi:Ý}(r:sT):i4 (Vd ds d hi) (o7 xs d hi):=by unfold Vd o7;rw[lP];exact au.take _ (au.drop _ r)
def iV(d:DV)(i hi:Ý):ġ:=match d with
 |.lst ds=>am4 (Vd ds i hi)
 |.tup ds=>Pa (Vd ds i hi)
 |_=>failure
def bK(f:aG)(i hi:lX):aG:=FP (aS8 d bb l (i env) h (hi env) (iV d l h))
def tPs(K:Aa):V->Ý->Ý->Hp->wp:=λ x i hi H Q=>∃ρ B hp d r hp',bF0/\Pf x/\Pp (iV d i hi hp) r/\iM K ρ B H r hp' Q
def QeZ{prog:Program}{w:World}{A:Around}{E:C7}{s:Shared}{t v:Addr}{items:ŋ}{d hi:Ý}{Q:C7}(i:aZ7 t items)(C:az8 v vl vu)(pl:cq9 vl d)(G:cq9 vu hi)
  (h0:Nd 0 d=0) (h1:df9 hi=items.size) (h:cw4 t s):rp w A (getItem ↑t ↑v) Q E s:=by
 obtain⟨os,u,r,F⟩:=id C;have o:ap8 v cV1 := ⟨os,u,r⟩;unfold getItem
 try with_reducible refine f3
 first|refine Cv sK|skip
 refine Cv (wpAny_sequenceKey i.typeIs Â ?_);refine Cv (az9 (Υ ce3) i.typeIs PyProof.Rows.slot_tuple_getitem (cF6 i.typeIs entry_tuple_getitem (args_tuple_getitem _ _)));show n5 _ (bN1 t) _ _ _ s;refine Cv (tupleItemsOf_ i ?_);refine NY o ?_;rw[Cy Â];refine Cv (HT.sliceApplied_gen C pl G ?_);have x:œ (Î (Nd 0 d:Nat)==0&&db2==1&&cu7 (df9 hi-Nd 0 d)):=bM4 h0 h1
 show Ş _ (π (Î (Nd 0 d:Nat)==0&&db2==1&&cu7 (df9 hi-Nd 0 d)) _ _) _ _ s;rw[Cy x];have ex:∀{j:cu5 ϲ}{y:Around}{z:C7},j true s->rp w y (Builtin.Tuple.tupleIsExact ↑t) j z s:=λ{j y z} q=>ľ Builtin.Tuple.tupleIsExact (NY i.typeIs (Cz (Æ (PY (Nl Ń == Nl Ń) (beq_self_eq_true _)) q)))
 refine Cv (ex ?_);rw[cq]
 first
  |exact wT (bX5 _ h)
  |exact wT (Cv (Cz (bX5 _ h)))
def QoN:SlR X (λ x o hi H Q=>∃a xs,x=ν/\Da X.K a/\(cm0 0 o=0/\cm0 ŝ hi=ŝ)/\Q ş H):=by
 intro u s σ H x v vl vu o hi sl Q I rx hs pl pu h;obtain⟨a,xs,rfl,hx,⟨h0,h1⟩,q⟩:=h;cases rx;obtain⟨i,r,j,hz⟩:=d4 hx;have d:i.toArray.size=ŝ:=Æ An r.length.symm
 exact bw1 Ń _ j.typeIs (QeZ j hs pl pu (Æ d h0) (Æ d h1) (dr ν H I q))
def Qiw{α:rV}(ds:AU)(i j:Nat)(h0:i=0)(h1:j=ã):(bq8).take (j-i)=ds:=by subst h0 h1;simp
def Ld:SlR X (tPs X.K):=by
  intro u s σ H x v vl vu lo hi sl Q I rx hs pl pu h;obtain⟨ρ,B,hp,d,r,hp',W,z,e,k⟩:=h;cases d with
  |lst ds=>obtain⟨rfl,rfl⟩:=CH;obtain⟨a,xs,rfl,y,j,i⟩:=z.b_;exact HR u s σ H _ v vl vu lo hi sl Q I rx hs pl pu (t6 a xs j (zi W (vT i) k))
  |tup ds =>
    obtain⟨rfl,rfl⟩:=CH;obtain⟨a,xs,rfl,y,j,i⟩:=z.tupI;by_cases o:cQ6=0/\cm0 ŝ hi=ŝ
    . refine QoN u s σ H _ v vl vu lo hi sl Q I rx hs pl pu ⟨a,xs,rfl,j,o,?_⟩
      have:Vd ds lo hi=ds:=ľ Vd (Qiw ds _ _ (Æ cu8 o.1) (Æ cu8 o.2))
      rw[this]at k;exact L4 (j9 y j i)
    . exact Qrt u s σ H _ v vl vu lo hi sl Q I rx hs pl pu ⟨a,xs,rfl,j,o,yO W (vT i) k⟩
  |non=>cases e
  |bl _=>cases e
  |int _=>cases e
  |str _=>cases e
  |ref _=>cases e
def X5{j hi:ak3}{r o:lX}(h:cl0)(hl:DO X j r)(hh:DO X hi o):ϟ (bV0 e (.Slice j hi none p2)) (bK f r o) :=
 Pz (uY Ld h hl hh) (λ σ H Q z=>by obtain⟨Z,env,ρ,B,hp,d,hp',S,e,k⟩:=z;obtain⟨x,hp1,e1,e⟩:=Ū;obtain⟨l,C,e2,e⟩:=Ū;obtain⟨u,i,e3,e⟩:=Ū;refine cN6 E (mW.run S1 e2 λ ρ2 B2 H2 g2 S2=>mW.run S2 e3 (cR4 ρ3 y H3 g3 S3));exact⟨ρ3,y,i,x,d,hp',S3.wo,ϸ (bz3 g3) _ _ E,e,wv bU0⟩)
def Qso{P:Program}{w:World}{K:Aa}{mg:C9}{O8:Heap}{x:Str}{g:Addr}{k:Nat}{j:aF}(F:Fun K x x stm g fd)(y:Č N ps stm)
  (h:∀(i:Value)(A:Around)(outer:IR)(s:Shared)(H:Hp)(E:XK),so k (ř x Hr g i)->iQ (GZ CX0 P w K mg O8 N x Hr g i A outer s H E).nox ay1 j) :
  xQ P w K mg O8 CX0 (k+1) g fd ps (lC K a0 (cJ9 j)):=by
 refine F.ok y (λ vs H Q E h=>h.1) (λ i A outer s H vs Q E z sp=>?_);obtain⟨hn,ρ,B,hp,ds,d,hp',W,r,e,k⟩:=sp;obtain⟨⟨u,o⟩,hp1,e1,e2⟩:=Ū;refine⟨_,h i A outer s H E z,⟨ρ,B,H⟩,_,ρ,B,hp,u,o,hp1,K5 W r,e1,bx5 σ' ρ' B' H' g' S'⟩;cases u with
 |nx=>obtain⟨rfl,rfl⟩:=bd;exact k Ę ρ' B' H' S'.gr S'.wo yU
 |rt x=>obtain⟨rfl,rfl⟩:=bd;exact λ v C=>k v ρ' B' H' S'.gr S'.wo C
 |bk=>cases e2
 |ct=>cases e2
def DH{K:Aa}:∀ns:Ŗ,i4 OF zw
 | []=>au.nil
 |_::r=>ai8 Js (DH r)
def Qqs{K:Aa}{F:Ee}{a:Addr}{ns:Ŗ}(h:∃hp',Pp (F [cj0] []) Η)(d:rh K a zw):lC K 1 F cw3 H (λ v _=>v=Η) E:=by obtain⟨hp',h⟩:=h;refine⟨rfl,[],λ_=>False,[],[cj0],Η,hp',⟨rfl,List.nodup_nil,λ i a o h=>iS h,λ a h=>Ĝ h Ê,λ a h=>Ĝ h (λ z=>z),λ a h=>h.elim⟩,au.one (UR (λ z=>z) d (DH ns)),h,λ v _ _ _ _ _ r=>r.iu⟩
#where
#print D
namespace L2
open PySem PySem.Spec PyProof.Rows
section
variable{prog:Program}{w:World}{A:Around}{E:C7}{s:Shared}
def Vb{p q:Addr}{n:Nat}{xs:ŋ}{Q:C7}(d:s.heap.IsTupleIter p q n)(e:Λ q xs)(i:xs[n]?>=v)
  (k:∀g,g.IsTupleIter p q (n+1)->dg0 p g->Q v cG8):rp w A (Ź p) Q E s:=by
 obtain⟨ob,c,j,a⟩:=id d;obtain⟨u,o,_,m,r⟩:=e;unfold Builtin.SmallTypes.nextOf;refine Cv (az9 ac4 d.typeIs F.slot_tuple_iterator_next (dh0 d.typeIs aP5));show n5 _ (aL6 p 0) _ _ _ s;refine bJ8 c a x (æ q) ?_;show Ş _ (π (Ϗ q==Value.none) _ _) _ _ s;rw[Cw (é (¬ œ (Ϗ q==Value.none)) Bt)];show n5 _ (aL6 p 1) _ _ _ s;refine bJ8 c a x (iA n 0) ?_;show n5 _ (seqItems? ↑q) _ _ _ s;refine fx o r ?_;simp only[Bu,i];refine Cv (wpAny_setField c a Ê (bX5 v (k _ ?_ bI1)));exact cc3 (OR _ c (Obj.isFreed_of_fields (Obj.data_mapFields a _))) (à (Obj.cls_mapFields ..) j) (by rw[Obj.data_mapFields a];simp[rawInt])
def Ez{p q:Addr}{n:Nat}{xs:ŋ}{Q:C7}(hh:lI)(c:s.heap.IsTupleIter p q n)(i:Λ q xs)(j:Ν xs[n]?)
  (k:∀g x,bO1 p g->(∃o,cI6 x>=o/\o.cls=į ad8)->E ↑x cG8):rp w A (Ź p) Q E s:=by
 obtain⟨ob,d,v,e⟩:=id c;obtain⟨y,r,_,m,u⟩:=i;unfold Builtin.SmallTypes.nextOf;refine Cv (az9 ac4 c.typeIs F.slot_tuple_iterator_next (dh0 c.typeIs aP5));show n5 _ (aL6 p 0) _ _ _ s;refine bJ8 d e x (æ q) ?_;show Ş _ (π (Ϗ q==Value.none) _ _) _ _ s;rw[Cw (é (¬ œ (Ϗ q==Value.none)) Bt)];show n5 _ (aL6 p 1) _ _ _ s;refine bJ8 d e x (iA n 0) ?_;show n5 _ (seqItems? ↑q) _ _ _ s;refine fx r u ?_;simp only[Bu,j];refine wT (Cv (wpAny_setField d e Ê ?_));show n5 _ (newExc (į ad8) []) _ _ _ _;refine aR4;simp only[newExc,newTuple];refine Cv (ED ?_ (by size_fits));refine Cv (m:=firstArgMember _ _) (wpAny_of_eq (a:=Value.none) (by first|rfl|(simp only[firstArgMember];rfl)) ?_);refine ED ?_ (by size_fits);simp only[raiseNew];refine Cv (wpAny_handled ?_)
 first|rw[é (Ν A.in1.handled) hh]|rw[hh]
 refine Cv (Cz (wpAny_throw ?_));exact k _ _ (((bI1).extBut.push _).push _) (bJ9 L7)
structure ZA(z p o i j a b:Addr):ç where
 pz:p≠z
 oz:o≠z
 iz:i≠z
 jz:j≠z
 po:p≠o
 pi:p≠i
 pj:p≠j
 oi:o≠i
 oj:o≠j
 ij:i≠j
 az:a≠z
 ao:a≠o
 ai:a≠i
 aj:a≠j
 bz:b≠z
 bo:b≠o
 bi:b≠i
 bj:b≠j
#where
section
variable{X:Cx}{O9:C8}{σ:L2.St}{H:Hp}{s:Shared}{h':Heap}
def Inv.ou{t':Nat}{d:Ed}(I:ag)(hf:∀b∈d,GS X O9 H b)(k:∀b o,b∉d->cj9->cH6):γ aH9:=by
 refine I.step (g':=s.gens) (d':=s.drawn) (ch:=d) (λ b i=>⟨(hf b i).2.2.2.1,(hf b i).2.1,(hf b i).2.2.2.2.1,(hf b i).2.2.2.2.2⟩) (λ b o _ _ a e _=>k b o a e) (λ b o _ _ a e _=>İ o.slots (k b o a e)) (λ_ _ _ _ n=>n)
  (λ b o a e=>İ o (k b o a e)) (λ_ _ e=>e) (wx e e) (λ b ps e=>İ #[] (Ϝ e)) (ż m x) (ĵ b u e) I.bare
 ·obtain⟨o,es,j,y,r⟩:=x;exact⟨o,es,j,k _ o (λ z=>(hf _ z).2.1 rfl) y,r⟩
 ·have nf:∀c u,H c>=u->c∉d:=λ c u q z=>ı (hf c z).1 q q
  refine(I.hok b u e).stay (λ c v a q=>k c v ?_ q) (λ_ q=>q) co8;rcases a with z|z
  ·rw[z];exact nf b u e
  ·exact nf c _ z
def Inv.iU{t':Nat}{i:Ed}{vs:η}{us:Đ}(I:ag)(hf:∀b∈i,GS X O9 H b)(k:∀b o,b∉i->cj9->cH6)
  (hv:gd vs) (hz:Ă aE1) (hT:IsTup h' s.heap.objs.size us.toArray):ū (am9 (ì vs)) aH9:=by
 have hn:dd2:=bf3;refine I.step (g':=s.gens) (d':=s.drawn) (ch:=i) (λ b a=>⟨(hf b a).2.2.2.1,(hf b a).2.1,(hf b a).2.2.2.2.1,(hf b a).2.2.2.2.2⟩) (λ b o _ _ d e _=>k b o d e) (λ b o _ _ d e _=>İ o.slots (k b o d e))
  (λ b o _ e n=>fP cv6 n) (λ b o d e=>İ o (k b o d e)) (λ b xs e=>bf0 e hn e) (λ b o u e=>bf0 e hn e) (λ b ps e=>İ #[] (bM4 (Q0 (Jh e hn)) e)) (ż m x) (ĵ b u e) I.bare
 ·obtain⟨o,es,j,y,r⟩:=x;exact⟨o,es,j,k _ o (λ z=>(hf _ z).2.1 rfl) y,r⟩
 ·by_cases a:(af4 b)
  ·subst a;rw[Q9]at e;cases e;exact⟨hz,us,hv,hT⟩
  ·rw[Q0 a]at e;have nf:∀c u,H c>=u->c∉i:=λ c u q z=>ı (hf c z).1 q q
   refine(I.hok b u e).stay (λ c v d q=>k c v ?_ q) (λ c q=>bf0 q hn q) λ c xs q=>bf0 q hn q
   rcases d with z|z
   ·rw[z];exact nf b u e
   ·exact nf c _ z
#where
def BK(K:Aa)(a b:Addr):It :=
  ⟨λ i H=>∃xs ys x y,ct5/\h9 K b ys/\bU3/\Ϥ ys y,
   λ i H v H'=>∃p x y,cD1/\(∀xs,ct5->bU3)/\(∀ys,h9 K b ys->Ϥ ys y)/\v=bR4/\H'=Ž p (ì [x,y]),
   λ i H=>∃xs ys,ct5/\h9 K b ys/\(ŝ<=i∨Tm<=i)⟩
abbrev BX(h:Heap)(a:Addr):Heap:=h.push (bE2 bm2 #[ν,iA 0 0])
abbrev BW(h:Heap)(a b:Addr):Heap:=(BX h a).push (bE2 bm2 #[cL6,iA 0 0])
abbrev BR(h:Heap)(a b:Addr):Heap:=(BW h a b).push (cQ0 #[æ h.objs.size,æ (oC (BX h a))])
abbrev BP(h:Heap)(a b:Addr):Heap:=(BR h a b).push (cQ0 #[ey,ey])
abbrev lY(h:Heap)(a b:Addr):Heap:=(BP h a b).push (bE2 nI #[ey,ct3,ct3,æ (oC (BW h a b)),æ (oC (BR h a b))])
def Qo7(a b:Addr)(xs ys:ŋ):Meets (Builtin.«zip.__new__» (FI [dc1, ν,cL6])) (λ_ R s=>Λ a xs/\Λ b ys/\R (.ok (.ret (æ (oC (BP s.heap a b))))) (bq1 (ag3 a b))) :=
 .of_wp λ prog w A R s h=>by
  obtain⟨hp,g,d,tk,os⟩:=s;obtain⟨q1,i,h⟩:=h;have c:=sub_zip;have j:Heap.IsTuple (Shared.heap ⟨hp,g,d,tk,os⟩) a xs:=q1;have o:Heap.IsTuple (Shared.heap ⟨hp.push (bE2 bm2 #[ν,iA 0 0]),g,d,tk,os⟩) b ys:=ae8 ob e r i ob TU r
  wp_walk using wpAny_pyIter_tuple j,wpAny_pyIter_tuple o
  exact Ņ _ h
section
variable{X:Cx}{elts:Α}{kt:Nat}{p2:Pos}
def Qsu(K:Aa)(c:TA):TI:=λ σ H R=>c σ H λ vs H1=>∃a b xs ys,vs=[ν,cL6]/\SqT K H1 a xs/\SqT K H1 b ys/\R (BK K a b) H1
#where
#print L2
namespace D
open PySem PySem.Spec PyProof.Rows L2
def qW:Û->Û->Û
 |x::xs,y::ys=>ì [x,y]::qW xs ys
 |_,_=>[]
def Kj:∀{xs ys:Û}{i:Nat}{d:DV},Ϥ (qW xs ys) d->∃x y,bU3/\Ϥ ys y/\d=ì [x,y]
  |x::xs,y::ys,0,d,h=>by simp[qW]at h;exact dr x y rfl h.symm
  |x::xs,y::ys,i+1,d,h=>by obtain⟨a,b,h1,h2,h3⟩:=Kj (xs:=xs) (ys:=ys) (i:=i) (cX0 qW h);exact⟨a,b,bQ5,ci9,h3⟩
  | [],_,_,_,h=>aL4 qW
  |_::_,[],_,_,h=>aL4 qW
def Kk:∀(xs ys:Û),⇑(qW xs ys)=min ŝ Tm
 |x::xs,y::ys=>by simp only[qW,A8,Kk xs ys];lia
 | [],_=>Ģ qW
 |_::_,[]=>Ģ qW
def nH(f g:aG):iY:=λ env=>do
 let x <- bb
 let xs <- kD x
 let y <- To
 let ys <- kD y
 î (qW xs ys)
def Qqj{K:Aa}{B:Ec}{a b:Addr}(na:¬ B a)(I:ct5)(O:sT)(G:¬ B b)(J:h9 K b ys)(rb:i4 es ys):oY K ρ B H (qW ds es) (BK K a b):=λ ρ1 B1 H1 g L U=>by
 have j:=g.B_ na I;have o:=g.B_ G J;have c:=E9 g _ O;have r:=E9 g _ rb;refine⟨ĵ i d e,xs,ys,j,o,?_⟩
 ·obtain⟨x,y,h1,h2,rfl⟩:=Kj e;obtain⟨u,E,P⟩:=c.get h1;obtain⟨v,hv,Q⟩:=r.get h2;refine İ ⟨xs,ys,u,v,j,o,E,hv⟩ (ĵ z H' F);obtain⟨p,Z,v',hn,h3,h4,e1,e2⟩:=F;subst e1 e2;have e3:=h3 xs j;have C:=h4 ys o;rw[E]at e3;cases e3;rw[hv]at C;cases C;refine İ (j9 (λ z=>U p z hn) cx1 (E9 (MF L hn) _ (ai8 P (au.one Q)))) (aV4 p _ hn rfl)
 ·rw[Kk,⇑c,lP];rcases bb1 ŝ Tm with q|q
  ·exact ë (Æ (aL7 q) đ)
  ·exact Ĉ (Æ (aD5 q) đ)
section
variable{X:Cx}{elts:Α}{kt:Nat}{p2:Pos}{f g:aG}
def gT(a:Ċ):iR:=λ d env=>do
 let ds <- kD d
 cz (ã=bv6)
 î ((a.zip ds).foldl (λ c q=>c.set q.1 (Ó q.2)) env)
def Oz(X:Cx):Ċ->θ Α
 | [],[]=>True
 |i::a,.Name x _::es=>au1/\fT x/\(x3 x∨cI2)/\Oz X a es
 |_,_=>False
def Qjd(o:X.N.Nodup):∀(c:Ċ)(es:Α),Oz X c es->(∀a x p,aO0 (bt9::a)=ad5 bt9::aO0 a) ->
    PGs X es (λ vs σ H Q=>aE1=⇑c/\Q ((c.zip vs).foldl (λ s q=>s.set q.1 (í q.2)) σ) H):=by
  intro c;induction c with
  |nil =>
    intro es hn ha d s σ H vs us Q I r h;cases es with
    |nil =>
      obtain⟨h1,h2⟩:=h;have:vs=[]:=by cases vs with|nil=>rfl|cons _ _=>simp at h1
      subst this;exact Qoj d s σ H [] us Q I r (ā ci9)
    |cons e es=>exact hn.elim
  |cons i y u =>
    intro es hn ha;cases es with
    |nil=>exact hn.elim
    |cons e es =>
      have:∃x p,e=bt9:=by cases e<;>first|exact bJ9 _|exact FS hn
      obtain⟨x,p,rfl⟩:=this;obtain⟨h1,h2,h3,h4⟩:=hn;intro d s σ H vs us Q I r h;obtain⟨h5,j⟩:=h;cases vs with
      |nil=>simp at h5
      |cons v vs=>exact QlC (Oa o h1 h2 h3) (u es h4 ha) (ha _ _ _) d s σ H (v::vs) us Q I r (t6 v vs (Ë h5) (Ë j))
def Qny{K:Aa}{Z:Ent}:∀(a:Ċ)(ds:Û)(vs:η){env:En}{σ:L2.St},mx vs->bG2 ->
    bN K Z ((a.zip ds).foldl (λ c q=>c.set q.1 (Ó q.2)) env) ((a.zip vs).foldl (λ s q=>s.set q.1 (í q.2)) σ) ρ B hp H:=by
  intro a;induction a with
  |nil=>intro ds vs env σ r S;simpa using S
  |cons i u e =>
    intro ds vs env σ r S;cases ds with
    |nil=>unfold au at r;subst r;simpa using S
    |cons d ds=>unfold au at r;obtain⟨v,vs,rfl,j,o⟩:=r;simpa using e ds vs o (S.set (i:=i) j)
def Wz(c:Ċ)(C:X.N.Nodup)(hn:Oz X c elts)(E:aT)(ha:∀i x p,aO0 (bt9::i)=ad5 bt9::aO0 i)
  (hl:⇑(cw elts)=⇑c:=by rfl) (hst:Ν ((cw elts).findIdx? μ):=by rfl):PG X (cv5 elts kt p2) (rG X.K (gT c)):=by
 intro z s σ H v u Q I r h;refine Qq4 E (Qjd C c elts hn ha) hl hst z s σ H v u Q I r ?_;obtain⟨Z,env,ρ,B,hp,d,o,hp',S,rd,e,k⟩:=h;obtain⟨ds,hp1,e1,e⟩:=Ū;obtain⟨rfl,rfl⟩:=qx e1;obtain⟨_,F,e2,e⟩:=Ū;obtain⟨G,rfl⟩:=QJ e2;obtain⟨rfl,rfl⟩:=CH;obtain⟨a,xs,rfl,na,J,y⟩:=rd.tupI;have j:ŝ=⇑c:=ð ⇑y (C4 G)
 exact⟨a,xs,rfl,J,j,j,k _ ρ B H Gs.refl (Qny c ds xs y S)⟩
def xa(f:aG)(g:iR):aF:=FP (do let d <- bb;let env' <- g d env;bd8 env')
def VR{tg e:Expr}{g:iR}{pos:Pos}(r:cl0)(u:PG X tg (rG X.K g))(x:swapsWithSole [tg] e pos.line X.env=TH:=by rfl)(y:swappedStores [tg] e X.env=bd7:=by rfl)
  (h1:aO0 [tg]=[ad5 tg]:=by rfl):DS X (di8 [tg] e) (xa f g) :=
 L2.PS.imp (Qq8 r u x y h1) λ D σ H o=>by obtain⟨Z,env,ρ,B,hp,E,a,hp',S,e,k⟩:=o;obtain⟨d,hp1,e1,e⟩:=Ū;obtain⟨aH,c,e2,e⟩:=Ū;obtain⟨z,rfl⟩:=CH;cases z;exact LD S v i j C ⟨Z,env,ρ1,i,hp1,d,a,c,j,C,e2,λ σ' ρ' B' H' g' S'=>k σ' ρ' B' H' (à fy g') S'⟩
#where
def gh{a:Int}{n i:Nat}{d:DV}(h:Ϥ (ZL a n) d):i<n/\d=Ì (a+i):=by
 have hi:i<n:=pV aV7 ZL
 refine CA hi;simp[ZL,hi]at h;exact h.symm
def Xt(a:Int)(n:Nat):⇑(ZL a n)=n:=Ģ ZL
def Oc(i:Int):œ (fO bH6):=ŕ
def Wa(b:Bool):œ (fO IU):=fI b
def Qns(i j:Int):PyData.eqv bH6 ↥j=(i==j):=rfl
def qi(i j:Int):dU bH6 ↥j=fz (i==j):=by simp only[dU,Oc,Bool.and_self,QI,if_true,C6,toP,Qns]
def x_{α:rV}{xs:AU}{i:Int}(h0:0<=i)(h1:i<ŝ):bl0 xs=xs[i.toNat]?:=by unfold atI ixN;rw[Cy h0,Cy h1];rfl
def Oq(ns:Ŗ){i:Int}(h0:0<=i)(h1:i<F8):bl0 OF>=↥(ns.getD i.toNat 0):=by
 have hl:i.toNat<F8:=À
 rw[x_ h0 bQ5,Bq,cW8];simp[Ce,hl]
def opt:Ý->DV
 |none=>Ę
 |some i=>dz
def Jw(x y:Int)(h:0<y):Xg ↥x ↥y=Lu (x % y):=by simp[Xg,jW,R8,h]
def JX(x y:Int)(h:0<y)(h':y<EB):Yy ↥x ↥y=Lu (x / y):=by simp[Yy,jW,R_,h,h']
def W8(x y:Int)(h:-(2 ^ 64)<x)(h':x<2 ^ 64):rD ↥x ↥y=Lu (x * y):=by simp only[rD,jW,Sv,C0 (Or.inl (b:=(-(2 ^ 64)<y/\y<2 ^ 64)) (And.intro h h')),if_true]
def QjO(x y:Int):Zq ↥x ↥y=Lu (x+y):=rfl
def QnE(x y:Int):dh ↥x ↥y=fz (LU y x):=rfl
def Od(x y:Int):cC ↥x ↥y=fz (LU x y):=rfl
def Og(x y:Int):eN ↥x ↥y=fz (Ib x y):=rfl
def ME(x y:Int):mD ↥x ↥y=fz (Ib y x):=rfl
def S8:jl ↥10 ↥30=Lu þ:=rfl
def Qmh{m:Int}(h0:0<=m)(h1:bj2 m):œ (zT m):=C0 (EU À)
def Ju{ds:Û}(h:ã<=ŀ):œ (Yl ds):=C0 h
def Jl{f g:aF}(h:bb=bd8 aH):Qr f g env=g aH:=aj0 Qr h
def MT{f g:aF}(h:bb=î (.rt d,aH)):Qr f g env=î (.rt d,aH):=aj0 Qr h
def Jt{i:Nat}{f:aG}{env:En}(h:bb=cj4):QP i f env=bd8 cb2:=aj0 QP h
def SM{c:cg}{f g:aF}(h:c env=bR7):aN c f g env=bb:=by simp only[aN,h,C6,if_true]
def SN{c:cg}{f g:aF}(h:c env=TH):aN c f g env=To:=by simp only[aN,h,C6,Ay,if_false]
def Yj{f:aG}(h:bb=cj4):QR f env=î (.rt d,env):=aj0 QR h
def qm{n:Nat}{a:aF}{ds:Û}(h:a (df3++ö (n-ã) ļ)=î (.rt d,env)):Zi n a ds=cj4:=aj0 Zi h
def Ey{f:aG}{b:Bool}(h:bb=fz b):eB f env=î b:=by simp only[eB,h,C6,lE]
def Xx{g:Rt}{f a:aG}(h:bb=bZ8)(h':by2=î y)(c:g x y=cj4):Qh g f a env=cj4:=by simp only[Qh,h,h',C6,c]
def KB{F:Ee}{f a:aG}(h:bb=bZ8)(h':by2=î y)(c:F [x,y]=cj4):QA 2 F (Ś f a) env=cj4:=by simp[QA,Qc,Qj,h,h',QI,c]
def Wu{F:Ee}{f e a:aG}(h:bb=bZ8)(h':e env=î y)(c:by2=î z)(i:F [x,y,z]=cj4):QA 3 F (N0 f e a) env=cj4:=by simp[QA,Qc,Qj,h,h',c,QI,i]
section
variable{K:Aa}{ρ:Ed}{B:Ec}{hp:Hs}{H:Hp}
def Gr.dJ{p:Addr}(h:cD1)(kf:LA p):wa K B H (ρ++[p]) (jO B p) (Ž p o) where
 pre:=NF _
 ban:=tj h h
 new:=λ a z=>z.elim .inl λ e=>Ĉ (e▸İ h kf)
 bW:=λ a z=>(cE2).elim .inl λ q=>Ĉ (r8 q h)
 keep:=λ a u _ q=>bf0 q h q
 trk:=(aq5 K K ρ B B h).trk
def aP.dJ{p:Addr}(W:bF0)(h:cD1)(kf:LA p)(hv:bH K (ρ++[p]) (jO B p) (Ž p o) p v):aP K (ρ++[p]) (jO B p) (hp++[v]) (Ž p o) where
 len:=Ģ W.len
 nd:=aL8 (cq0 W.nd (λ a ha b d=>r8 d (λ z=>W.bt a (W.rb a ha) (z▸h))))
 obj:=λ i a u e q=>by
  by_cases hi:i<⇑ρ
  ·rw[Ag hi]at e;rw[Ag (ð W.len hi)]at q;exact bz2 ((Gr.dJ h kf).gs W.rb) (λ z=>W.bt a (W.rb a ce2) (z▸h)) (W.obj i a u e q)
  ·rw[al2]at e;rw[bk9 W.len]at q;have c:i-⇑ρ=0:=aa1 dc8
   rw[c]at e;rw[<- W.len,c]at q;simp at e q;subst e q;exact hv
 rb:=λ a z=>(cE2).elim (λ q=>ë (W.rb a q)) λ q=>Ĉ (aS9 q)
 bt:=λ a z q=>by
  have j:=(aq5 K K ρ B B h).trk a q;rcases z with z|rfl
  ·exact W.bt a z j
  ·rw[Q9]at q;cases q
 bk:=λ a z=>z.elim (W.bk a) λ e=>e▸kf
def Gr.fB{i:Nat}{a:Addr}(ha:Ϥ ρ a)(h:IY>=o):wa K B H ρ B (bt5 o') where
 pre:=Cb
 ban:=bW6
 new:=tj h h
 bW:=tj h h
 keep:=λ b u c q=>cM2 b a (λ z=>c (Æ z (Av ha))) q
 trk:=λ b q=>by
  by_cases e:b=a
  ·subst e;rw[Q9]at q;cases q
  ·rw[Q0 e]at q;exact q
def aP.fB{i:Nat}{a:Addr}(W:bF0)(ha:Ϥ ρ a)(h:IY>=o)(hv:bH K ρ B (bt5 o') a v):rX K B (ϙ i v) (bt5 o') where
 len:=Ģ W.len
 nd:=W.nd
 obj:=λ j b u e q=>by
  by_cases c:j=i
  ·subst c;rw[ha]at e;cases e;have hl:j<eI:=ð W.len (ţ ha)
   rw[aR0]at q;cases q;exact hv
  ·rw[kb c]at q;have d:b≠a:=λ z=>c (cU6 z ((List.getElem?_inj dc8 W.nd).mp (cU8 ha.symm)))
   exact bz2 ((Gr.fB ha h).gs W.rb) d (W.obj j b u e q)
 rb:=W.rb
 bt:=λ b z q=>W.bt b z ((Gr.fB (K:=K) (B:=B) ha h).trk b q)
 bk:=W.bk
#where
section
variable{X:Cx}{e a b c:Expr}{f fa fb fc:aG}{pos:Pos}
def XC(o:OV):ġ:=λ h=>í (æ ⇑h,h++[o])
def ZK(i:Nat):M OV:=λ h=>match Ű h with
 |some o=>í (o,h)
 |none=>none
def Ub(i:Nat)(o:OV):bN4:=λ h=>í ((),h.set i o)
def ZY{i:Nat}{hp hp':Hs}(h:Pp (ZK i hp) o):Ϥ hp o/\hp=hp':=by
 unfold ZK at h;cases q:Ű hp with
 |none=>rw[q]at h;cases h
 |some z=>rw[q]at h;cases h;exact ed
def Xj(f:cB):aG:=FP (do let ds <- bb;ai9 ds;XC hV)
def MI{K:Aa}{H:Hp}{hp:Hs}{Q:VK}(W:bF0)(r:sT)(k:iM K ρ B H ↑hp.length (hp++[hV]) Q):∀p,cD1->Es K (q7 p xs)->cI1 (q7 p xs):=λ p hp' kf=>by have kp:=kf p _ Q9;have g:wa K B H (ρ++[p]) (jO B p) (q7 p xs):=Gr.dJ hp' kp;refine k _ _ _ _ g (W.dJ hp' kp ⟨xs,Q9,aA1 W.rb g _ r⟩) ?_;unfold aA;exact dc4 p W.len
def Xi{es:Α}{f:cB}(h:DA X es f):ϟ (.List es pos) (Xj f) :=
 Pz (Mx h).kf (λ σ H Q j=>by obtain⟨Z,env,ρ,B,hp,d,hp',S,e,k⟩:=j;obtain⟨xs,hp1,e1,e2⟩:=Ū;obtain⟨_,r,e3,o⟩:=Fa;obtain⟨u,rfl⟩:=cW4;cases o;exact au9 S (rr vs B1 H1 g1 S1 i (İ (ð cu8 (jw u)) (MI S1.wo i bU1))))
def aA.bO{K:Aa}{ρ:Ed}{hp:Hs}{i:Nat}{v:V}(W:bF0)(r:nz ↑i v)(h:Ϥ hp o):∃a,v=ν/\Ϥ ρ a/\bH K ρ B H a o:=n8 a rfl e r.tL ⟨a,rfl,e,W.obj i a o e h⟩
def ixW:Rt
  |.ref n,.int i=>do
    match <- LM with
    |.lst ds=>match bl1 with
      |some d=>cj4
      |none=>failure
    |_=>failure
  |x,y=>bB x y
def Gf:cf
  | [.ref n]=>do
    match <- LM with
    |.lst ds=>î ny
    |_=>failure
  |xs=>su xs
def xV:cU7 X aw0 Gf:=by
  intro i s σ H xs us Q I r h;obtain⟨ρ,B,hp,ds,d,hp',W,j,e,k⟩:=h;unfold Gf at e;split at e
  . rename_i n
    obtain⟨o,hp1,e1,e2⟩:=Ū;obtain⟨e3,rfl⟩:=bb2;cases o with
    |aL _=>cases e2
    |ins _ _=>cases e2
    |lst y=>obtain⟨rfl,rfl⟩:=bd;obtain⟨v,rfl,x⟩:=j.bY;obtain⟨a,rfl,_,ys,h1,u⟩:=df4 x;exact zJ i s σ H _ us Q I r (fh a ys (N2 mP (yO W u k)))
  . exact OJ i s σ H xs us Q I r ⟨ρ,B,hp,_,d,hp',W,j,e,k⟩
#where
section
variable{f g:aF}{env aH g_:En}{c ca cb:cg}{e fa fb:aG}{d x y:DV}{r:cS1}
#where
def WY{b:bV2}(I:d9 (En->cD2)):∀(ds:Û)(k:Nat)(env:En)(hp:Hs),bN3 k->(∀(i:Nat) d,aI6->∀env hp,bN3 (k+i)->∃a hp',Pp (b d env hp) (Ŭ a)/\I (k+i+1) a hp')->∃a hp',Pp (jU b ds env hp) (Ŭ a)/\I (k+ã) a hp'
  | [],k,env,hp,h,_=>fh env hp h
  |d::ds,k,env,hp,h,e=>by
    obtain⟨aH,hp1,e1,h1⟩:=e 0 d rfl env hp h;obtain⟨j,c,e2,h2⟩:=WY I ds (k+1) aH hp1 h1 λ i d' hd a hp' h'=>ir (e (i+1) d' (Ë hd) a hp' (Æ (Ő (k+(i+1)=k+1+i)) h')) (Ő (k+(i+1)+1=k+1+i+1)) this
    refine⟨j,c,?_,Pv A8 (Ő (k+(ã+1)=k+1+ã)) h2⟩;show(b d env hp).bind _=_;rw[e1];exact e2
def Gk{b:bV2}(I:d9 (En->cD2))(n:Nat)(env:En)(hp:Hs)(h:bN3 0)(c:∀(i:Nat),i<n->∀env hp,bN3 i->∃a hp',Pp (b cM8 env hp) (Ŭ a)/\I (i+1) a hp'):∃a hp',Pp (jU b (ZL 0 n) env hp) (Ŭ a)/\I n a hp':=by
 obtain⟨a,hp',e,h'⟩:=WY I (ZL 0 n) 0 env hp h λ i d hd env hp hi=>by obtain⟨h1,rfl⟩:=gh hd;rw[Cq]at hi ⊢;rw[Int.zero_add];exact c i h1 env hp hi
 exact⟨a,hp',e,by rw[Xt,Cq]at h';exact h'⟩
def Qe{α β:rV}{m:M α}{k:α->M β}{x:α}(h:m hp>=(x,hp1)):(m >>= k) hp=k x hp1:=ł ((m hp).bind (λ p=>k oB p.2)) _ h
def MU{f g:aF}(h:aE>=(Ŭ aH,hp1)):Qr f g env hp=g aH hp1:=ag4
def Qs{i:Nat}{f:aG}{env:En}(h:aE>=(d,hp1)):QP i f env hp>=(Ŭ cb2,hp1):=ag4
def QnJ{i:Int}(h:bl1>=d):bB ny bH6=cj4:=by simp only[bB,h]
def QnI{i:Int}(h:bl1>=d):bB hV bH6=cj4:=by simp only[bB,h]
def Qkd(ds:Û)(m:Nat):D.Vd ds none (iL m)=aq3 m:=by unfold D.Vd;rw[HT.sIx_nat];show(m9 0).take (min m ã-0)=aq3 m;simp
def xX(ds:Û)(m:Nat):D.Vd ds (iL m) none=m9 m:=by
 unfold D.Vd;rw[HT.sIx_nat];show(m9 (min m ã)).take (ã-min m ã)=m9 m;rcases bb1 m ã with h|h
 ·rw[aL7 h,Hu Ê]
 ·rw[aD5 h,aa5 h,aa5 đ];simp
def kr(ds:Û)(m:Nat):iV ny none (iL m)=Pa (aq3 m):=cX3 Qkd
def ko(ds:Û)(m:Nat):iV ny (iL m) none=Pa (m9 m):=cX3 xX
def Sf{f g:aG}{ds:Û}{m:Nat}(h:bb=î ny)(h':To=î aZ1):bK f Zy aD4 env=Pa (aq3 m):=by simp only[bK,Zy,Zh,h,h',C6,dH,kr]
def Si{f g:aG}{ds:Û}{m:Nat}(h:bb=î ny)(h':To=î aZ1):bK f aD4 Zy env=Pa (m9 m):=by simp only[bK,Zy,Zh,h,h',C6,dH,ko]
#print D
namespace L2
open PySem PySem.Spec PyProof.Rows
section
variable{X:Cx}
def QtJ:R2:=λ x y H Q=>∃a kvs k v,x=ν/\y=cr1/\IY>=(.dK kvs)/\bl5>=v/\Q v H
def QnL(i:w8 1<cLine):IxR X QtJ:=by intro value slice O9 s σ H x y v u Q I rx ry h hs;obtain⟨a,kvs,k,z,rfl,rfl,e,hv,q⟩:=h;cases rx;have g:DGet H a cr1 (í z):=hv▸DGet.k e;exact tail_any (QdJ I g) PySem.F.slot_dict_getitem.lookup (Qix i I g ry λ w' s' d c=>cT0 z H d c) hs
def Qau(e:w8 1<cLine):aI3 .NotIn (λ x y H Q=>∃a kvs k,y=ν/\x=cr1/\IY>=(.dK kvs)/\Q (cC9 (tm bl5)) H):=by intro i s σ H x y v u Q I rx ry h;obtain⟨a,kvs,k,rfl,rfl,d,q⟩:=h;cases ry;exact Qne e I (DGet.k d) rx λ s' c=>N3 _ H c q
def QsV:V->V->V->Hp->θ eg:=λ o i v H Q=>∃a kvs k,o=ν/\i=cr1/\IY>=(.dK kvs)/\aO9 dQ/\Q (dj3 (bs6 k v))
def Qmb(e:w8 1<cLine):D_ X QsV:=λ y s σ H o i v C z u Q I r j x h=>by obtain⟨a,kvs,k,rfl,rfl,d,hl,q⟩:=h;cases r;exact Qiy e I (DPut.k d hl) j x λ s' c=>aQ5 c q
def QsU:V->η->Hp->wp:=λ x vs H Q=>∃a kvs k,x=ν/\IY>=(.dK kvs)/\((vs=[cr1]/\Q ((bl5).getD Ę) H)∨∃z,vs=[cr1,z]/\Q ((bl5).getD z) H)
def WS(j:w8 1<cLine):MtR X bY4 QsU:=by
 intro r s σ H x vs v us Q I rx rv h;obtain⟨a,kvs,k,rfl,i,h⟩:=h;cases rx;rcases h with ⟨rfl,q⟩|⟨z,rfl,q⟩
 ·obtain⟨u,rfl,e⟩:=qT rv;exact QpT j I (DGet.k i) e λ w' s' d c=>cT0 _ H d c
 ·obtain⟨u,u2,rfl,e,o⟩:=kI rv;exact QpU j I (DGet.k i) e o λ w' s' d c=>cT0 _ H d c
#where
#print L2
namespace D
open PySem PySem.Spec PyProof.Rows L2
def mR:Rq (ď Key)
 |.int i=>í (ë i)
 |.str x=>í (Ĉ x)
 |_=>none
def JM(kvs:h7)(k:Key):ď DV:=aN9 (kvs.find? λ a=>FY a.1 k)
def X8(kvs:h7)(k:Key)(d:DV):h7 :=
 π (cG3 a a.1 k) (au8 (λ a=>CY a.1 k (a.1,d) a)) (kvs++[(k,d)])
def Ti(kvs:h7)(k:Key):h7:=kvs.filter λ a=>ß (a.1≠k)
section
variable{K:Aa}{ρ:Ed}{B:Ec}{H:Hp}{hp:Hs}
def qG{v:V}(h:mR d>=k)(r:cm7):v=cr1:=by
 cases d<;>simp[mR]at h<;>subst h
 ·exact r.bf
 ·exact r.bL
abbrev aW(K:Aa)(ρ:Ed)(B:Ec)(H:Hp):h7->θ bp7:=Paired λ p q=>oB=q.1/\nz p.2 q.2
def MY:∀{kvs:h7}{xs:bp7},nj μ=au8 μ->i4 (au8 iX) (nj iX)->cb8 K B H
  | [],[],_,_=>lS
  | [],_::_,e,_=>iS e
  |_::_,[],e,_=>iS e
  |p::kvs,q::xs,e,r=>by simp only[A9,List.cons.injEq]at e;simp only[A9]at r;unfold au at r;obtain⟨x,t,e2,h1,h2⟩:=r;simp only[List.cons.injEq]at e2;obtain⟨rfl,rfl⟩:=e2;exact ϗ (İ e.1.symm h1) (MY e.2 h2)
def aW.to{kvs:h7}{xs:bp7}(r:cb8 K B H):nj μ=au8 μ/\i4 (au8 iX) (nj iX):=by
 induction r with
 |nil=>exact ā au.nil
 |cons h _ a=>exact İ (fA a.1 h.1) (Ë (ai8 h.2 a.2))
def aW.val(r:cb8 K B H)(k:Key):(Ν bK4/\Ν (jy xs k))∨∃d v,bK4>=d/\jy xs k>=v/\cm7:=by
  induction r with
  |nil=>exact cB9
  |@cons p q _ _ h _ c =>
    by_cases e:oB=k
    . exact Ĉ ⟨p.2,q.2,ag1 JM e,ag1 jy (h.1▸e),h.2⟩
    . have a:¬ q.1=k:=h.1▸e
      simpa [JM,jy,Bv,e,a]using c
def aW.any{kvs:h7}{xs:bp7}(r:cb8 K B H)(k:Key):cG3 a a.1 k=xs.any λ a=>FY a.1 k:=by
 induction r with
 |nil=>rfl
 |cons h _ c=>simp only[Cg,c,h.1]
def aW.repl{kvs:h7}{xs:bp7}(r:cb8 K B H)(k:Key)(rd:cm7):aW K ρ B H (au8 (λ a=>CY a.1 k (a.1,d) a)) (nj (λ a=>CY a.1 k (a.1,v) a)):=by
  induction r with
  |nil=>exact lS
  |@cons p q _ _ h _ c =>
    refine ϗ ?_ c;dsimp only;by_cases e:oB=k
    . rw[aY0,Cy (h.1▸e)];exact İ h.1 rd
    . rw[ay0,Cw (h.1▸e)];exact h
def aW.snoc{kvs:h7}{xs:bp7}(r:cb8 K B H)(rd:cm7):aW K ρ B H (kvs++[(k,d)]) (xs++[(k,v)]):=by
 induction r with
 |nil=>exact ck8 rd lS
 |cons h _ a=>exact ϗ h a
def aW.put(r:cb8 K B H)(k:Key)(rd:cm7):aW K ρ B H (aF7 k d) (xI xs k v):=by
 unfold X8 xI;rw[r.any k];split
 ·exact r.repl k rd
 ·exact r.snoc rd
def aW.len{kvs:h7}{xs:bp7}(r:cb8 K B H):dQ=ŝ:=ad1
def aW.gs(g:bz1)(r:cb8 K B H):bO3 K ρ' B' H':=L2.Paired.mapP r λ_ _ h=>İ h.1 (aA.gs g _ _ h.2)
def bH.aL{a:Addr}(h:bH K ρ B H a (si kvs)):∃xs,IY>=(.dK xs)/\cb8 K B H:=by obtain⟨xs,e,c,d⟩:=h;exact⟨xs,e,MY c d⟩
def aW.iI{a:Addr}(r:cb8 K B H)(e:IY>=(.dK xs)):bH K ρ B H a (si kvs):=⟨xs,e,r.to.1,r.to.2⟩
def QmJ{n:Nat}{a:Addr}(W:bF0)(i:ρ[n]?>=a)(e:IY>=(.dK xs))(r:aW K ρ B H kvs' xs'):wa K B H ρ B (dj3 xs')/\rX K B (an3 n kvs') (dj3 xs'):=by have g:wa K B H ρ B (dj3 xs'):=Gr.fB i e;exact İ g (W.fB (o':=.dK xs') (v:=si kvs') i e ((r.gs cW0).iI Q9))
def kM{n:Nat}{a:Addr}(W:bF0)(i:ρ[n]?>=a)(e:IY>=o)(r:i4 ds' xs'):wa K B H ρ B (q7 a xs')/\rX K B (ϙ n (Ð ds')) (q7 a xs'):=by have g:wa K B H ρ B (q7 a xs'):=Gr.fB i e;exact İ g (W.fB (o':=Ð xs') (v:=Ð ds') i e ⟨xs',Q9,aA1 W.rb g _ r⟩)
#where
section
variable{X:Cx}{e a b c:Expr}{f fa fb fc:aG}{pos:Pos}
def uR(o:ď DV):ġ:=match o with
 |some d=>cj4
 |none=>failure
def KW{o:ď DV}{hp hp':Hs}(h:cN8 (uR o hp)):o>=d/\hp=hp':=by
 cases o with
 |none=>cases h
 |some z=>obtain⟨rfl,rfl⟩:=cJ8;exact ed
def KK(d:DV):M Key:=match mR d with
 |some k=>î k
 |none=>failure
def qu{hp hp':Hs}(h:Pp (KK d hp) k):mR d>=k/\hp=hp':=by
 unfold KK at h;cases q:mR d with
 |none=>rw[q]at h;cases h
 |some z=>rw[q]at h;obtain⟨rfl,rfl⟩:=cJ8;exact ed
def aB:Rt
  |.ref n,y=>do
    match <- LM with
    |.lst ds=>do let i <- dH y;uR bl1
    |.aL kvs=>do let k <- KK y;uR bK4
    |_=>failure
  |x,y=>bB x y
def QsJ(O:w8 1<cLine):IxR X (rF X.K aB):=by
  intro value slice O9 s σ H x y v u Q I rx ry h hsub;obtain⟨ρ,B,hp,dx,dy,d,hp',W,G,C,e,k⟩:=h;unfold aB at e;split at e
  . rename_i n
    obtain⟨o,hp1,e1,e2⟩:=Ū;obtain⟨e3,rfl⟩:=bb2;obtain⟨a,rfl,i1,J⟩:=df4 G;cases o with
    |ins _ _=>cases e2
    |aL kvs =>
      obtain⟨F,r,j,e5⟩:=Fa;obtain⟨L,rfl⟩:=qu j;obtain⟨hv,rfl⟩:=KW e5;obtain⟨xs,h1,U⟩:=J.aL;rcases U.val F with ⟨z,_⟩|⟨d',v',z,Z,E⟩
      . rw[hv]at z;cases z
      . rw[hv]at z;cases z
        exact QnL O value slice O9 s σ H _ _ v u Q I rx ry (bw2 a xs F v' (qG L C) h1 Z (L4 E)) hsub
    |lst ds=>obtain⟨i,r,j,e5⟩:=Fa;obtain⟨rfl,rfl⟩:=vH j;obtain⟨hv,rfl⟩:=KW e5;obtain⟨xs,h1,P⟩:=J;obtain⟨z,hz,E⟩:=Oo P hv;exact Md value slice O9 s σ H _ _ v u Q I rx ry (bw2 a xs i z C.bf mP hz (L4 E)) hsub
  . exact RZ value slice O9 s σ H x y v u Q I rx ry ⟨ρ,B,hp,_,_,d,hp',W,G,C,e,k⟩ hsub
def QB(j:w8 1<cLine)(ha:dd7)(d:ϟ b fb)(i:Ox b:=by intro _ _;rfl):ϟ (bV0 a b) (cx fa fb):=Pz (S_ (QsJ j) ha d i) (wx h (yb h))
def ZD:cf
  | [.ref n]=>do
    match <- LM with
    |.lst ds=>Lu ã
    |.aL kvs=>Lu dQ
    |_=>failure
  |xs=>UJ xs
def ZF:bf6 X "len" ZD:=by
  intro i s σ H xs us Q I r h;obtain⟨ρ,B,hp,ds,d,hp',W,u,e,k⟩:=h;unfold ZD at e;split at e
  . rename_i n
    obtain⟨o,hp1,e1,e2⟩:=Ū;obtain⟨e3,rfl⟩:=bb2;obtain⟨v,rfl,y⟩:=u.bY;obtain⟨a,rfl,_,x⟩:=df4 y;cases o with
    |ins _ _=>cases e2
    |lst z=>obtain⟨rfl,rfl⟩:=bd;obtain⟨ys,h1,j⟩:=x;exact jQ i s σ H _ us Q I r (t6 a ys (ë mP) (ð Tl aX2))
    |aL kvs=>obtain⟨rfl,rfl⟩:=bd;obtain⟨ys,h1,j⟩:=x.aL;exact Qiq i s σ H _ us Q I r (t6 a ys h1 (ð j.len aX2))
  . exact sU i s σ H xs us Q I r ⟨ρ,B,hp,_,d,hp',W,u,e,k⟩
def Dj:Rq aS6
  |.tup ds=>cj5
  |.lst ds=>cj5
  |.ref n=>do
    match <- LM with
    |.lst ds=>cj5
    |_=>failure
  |_=>failure
def Ql9{hp hp':Hs}{K:Aa}{v:V}(W:bF0)(r:cm7)(h:Pp (Dj d hp) ds):hp=hp'/\∃p xs,v=bR4/\(Pm K p∨ct4 p)/\sT:=by
  cases d with
  |tup xs=>obtain⟨rfl,rfl⟩:=cJ8;obtain⟨a,ys,rfl,_,i,l⟩:=r.tupI;exact⟨rfl,a,ys,rfl,Ĉ i,l⟩
  |lst xs=>obtain⟨rfl,rfl⟩:=cJ8;obtain⟨a,ys,rfl,_,i,l⟩:=r.b_;exact⟨rfl,a,ys,rfl,ë i,l⟩
  |ref n =>
    obtain⟨o,hp1,e1,e2⟩:=Qg (é (Pp ((LM >>= λ o=>bi5 o ds cj5 failure aS6) hp) ds) h);obtain⟨e3,rfl⟩:=bb2;cases o with
    |lst u=>obtain⟨rfl,rfl⟩:=bd;obtain⟨a,rfl,_,ys,h1,j⟩:=df4 r;exact⟨rfl,a,ys,rfl,ë mP,j⟩
    |aL _=>cases e2
    |ins _ _=>cases e2
  |non=>cases h
  |bl _=>cases h
  |int _=>cases h
  |str _=>cases h
def wN(g:ck):cf
 | [d]=>g d
 |_=>failure
def Dz:cf:=wN λ d=>oE ds (Dj d) hV
def KU{g:ck}{ds:Û}(h:cN8 (wN g ds hp)):∃x,ds=[x]/\cN8 (g x hp):=by
 unfold wN at h;split at h
 ·exact Ņ _ h
 ·cases h
def WC:cU7 X aB8 Dz:=by intro i s σ H xs us Q I r h;obtain⟨ρ,B,hp,ds,d,hp',W,j,e,k⟩:=h;obtain⟨x,rfl,e⟩:=KU e;obtain⟨y,hp1,e1,e2⟩:=Ū;obtain⟨rfl,rfl⟩:=bd;obtain⟨v,rfl,o⟩:=j.bY;obtain⟨rfl,p,ys,rfl,u,l⟩:=Ql9 W o e1;exact Qb1 i s σ H _ us Q I r (t6 p ys u (zi W l k))
#where
def dw:d9 (Hs->Rq (ď DV))
  |0,_,_=>none
  |n+1,hp,d=>match d with
    |.ref i=>match Ű hp with
      |some (.lst ds)=>tP (IO n hp) .lst
      |_=>none
    |.tup ds=>tP (IO n hp) .tup
    |.lst ds=>tP (IO n hp) .lst
    |d=>í d
def uK{α β:rV}{f:α->ď β}{x:α}{xs:AU}{ys:Ã β}(h:(x::xs).mapM f>=ys):∃y a,f x>=y/\xs.mapM f>=a/\ys=y::a:=by
  rw[List.mapM_cons]at h;cases q:f x with
  |none=>rw[q]at h;cases h
  |some y =>
    cases c:xs.mapM f with
    |none=>rw[q,c]at h;cases h
    |some a=>rw[q,c]at h;exact dr y a rfl (bv3 h)
section
variable{X:Cx}{O9:C8}{σ:St}{H:Hp}{s:Shared}{ρ:Ed}{B:Ec}{hp:Hs}
def jn(I:ag)(W:x4 X.K B H):∀(n:Nat)(d d':DV)(v:V)(u:Value),bO4 n d>=d'->mr X.K d v->dd8->∃C,Reads s.heap u (toP d') C
  |0,_,_,_,_,h,_,_=>ē h
  |n+1,d,d',v,u,h,r,j=>by
    have all:∀(ds c:Û)(xs:η)(us:Đ),IO n hp>=c->iq X.K ds xs->aW3->∃C,ReadsAll s.heap us (cM c) C:=by
      intro ds;induction ds with
      |nil=>intro c xs us h r j;rw[List.mapM_nil]at h;cases h;unfold au at r;subst r;cases j;exact S6 [] cM lS
      |cons x ds Q =>
        intro c xs us h r j;obtain⟨y,zs,h1,h2,rfl⟩:=uK h;unfold au at r;obtain⟨z,t,rfl,Z,r2⟩:=r;cases j with
        |cons q1 U=>obtain⟨C,O⟩:=jn I W n x y z _ h1 Z q1;obtain⟨bs,P⟩:=Q zs t _ h2 r2 U;exact S6 _ cM (ϗ O P)
    have lst:∀(ds c:Û)(a:Addr)(xs:η),IO n hp>=c->Pm X.K a->iq X.K ds xs->∃C,Reads s.heap ş (toP (Ð c)) C:=by intro ds c a xs h G F;obtain⟨E,L,⟨o,k,e,J,_,hd⟩,_⟩:=wy G;obtain⟨C,q⟩:=all ds c xs E h F L;exact bK8 _ (reads_list_at e J hd (Ë q))
    unfold dw at h;cases d with
    |non=>cases h;obtain rfl:=r.fG;cases j;exact bK8 [] ey
    |bl b=>cases h;obtain rfl:=r.iu;cases j;exact bK8 [] (x5 b)
    |int i=>cases h;obtain rfl:=r.bf;obtain⟨t,rfl⟩:=j;exact bK8 [] bi1
    |str x=>cases h;obtain rfl:=r.bL;obtain⟨t,rfl⟩:=j;exact bK8 [] (.str x t)
    |tup ds=>obtain⟨c,h1,rfl⟩:=by4 h;obtain⟨a,xs,rfl,_,G,F⟩:=r.tupI;cases j;obtain⟨E,L,⟨o,e,J,k,hd⟩,_⟩:=d4 G;obtain⟨C,q⟩:=all ds c xs E h1 F L;exact bK8 _ (reads_tuple_at e J hd (Ë q))
    |lst ds=>obtain⟨c,h1,rfl⟩:=by4 h;obtain⟨a,xs,rfl,_,G,F⟩:=r.b_;cases j;exact lst ds c a xs h1 G F
    |ref i =>
      cases q:Ű hp with
      |none=>simp only[q]at h;cases h
      |some o =>
        simp only[q]at h;cases o with
        |aL _=>cases h
        |ins _ _=>cases h
        |lst ds=>obtain⟨c,h1,rfl⟩:=by4 h;obtain⟨a,rfl,_,xs,h2,l⟩:=CJ r q;cases j;exact lst ds c a xs h1 (SqL.of h2) l
#where
def sH(d:DV):ġ:=λ hp=>tT (bO5 d) x (x,hp)
def Qa2{hp hp':Hs}(h:Pp (sH d hp) d'):bO5 d>=d'/\hp=hp':=by obtain⟨x,h1,h2⟩:=by4 h;cases h2;exact bT h1
def mO(x y:DV):OS:=do
 let x' <- sH x
 let y' <- sH y
 QI (nV x'&&nV y')
 î (cO2 x' y')
def bM:Rt:=gL x y b (mO x y) (fz b)
def cI:Rt:=gL x y b (mO x y) (fz (i7 b))
section
variable{X:Cx}{e a b c:Expr}{f fa fb fc:aG}{ca cb:cg}{pos:Pos}
def Qa6{k:Bool}{hp hp':Hs}(h:Pp (mO x y hp) k):∃d i,bO5 x>=d/\bO5 y>=i/\œ (nV d)/\œ (nV i)/\k=cO2 d i/\hp=hp':=by obtain⟨d,hp1,e1,h⟩:=Qg h;obtain⟨i,o,e2,h⟩:=Qg h;obtain⟨_,r,e3,h⟩:=Qg h;obtain⟨q1,rfl⟩:=Qa2 e1;obtain⟨u,rfl⟩:=Qa2 e2;obtain⟨j,rfl⟩:=cW4;obtain⟨rfl,rfl⟩:=cJ8;rw[Ba]at j;exact⟨d,i,q1,u,j.1,j.2,rfl,rfl⟩
def XB(o:w8 64<cLine):Pw X .Eq bM:=by intro G s σ H x y v u Q I rx ry h;obtain⟨ρ,B,hp,L,O,d,hp',W,z,C,e,k⟩:=h;obtain⟨b,hp1,e1,e2⟩:=Ū;obtain⟨rfl,rfl⟩:=bd;obtain⟨P,U,q1,r,E,F,rfl,rfl⟩:=Qa6 e1;obtain⟨J,i⟩:=jn I W _ _ _ _ _ q1 z rx;obtain⟨bs,j⟩:=jn I W _ _ _ _ _ r C ry;exact eq_dataH i j E F o (N3 _ H I bf7)
def zq(o:w8 64<cLine):Pw X .NotEq cI:=by intro G s σ H x y v u Q I rx ry h;obtain⟨ρ,B,hp,L,O,d,hp',W,z,C,e,k⟩:=h;obtain⟨b,hp1,e1,e2⟩:=Ū;obtain⟨rfl,rfl⟩:=bd;obtain⟨P,U,q1,r,E,F,rfl,rfl⟩:=Qa6 e1;obtain⟨J,i⟩:=jn I W _ _ _ _ _ q1 z rx;obtain⟨bs,j⟩:=jn I W _ _ _ _ _ r C ry;exact ne_dataH i j E F o (N3 _ H I bf7)
def X6:IW DV
 |.non=>true
 |.bl _=>true
 |.int _=>true
 |.str _=>true
 |_=>false
def Ry:Rq (IW DV)
 |.non,.non=>true
 |.bl a,.bl b=>a==b
 |.bl a,.int b=>É a 1 0==b
 |.int a,.bl b=>a==É b 1 0
 |.int a,.int b=>a==b
 |.str a,.str b=>a==b
 |_,_=>false
def nZ:Rq V
 |.non=>Ę
 |.bl b=>IU
 |.int i=>dz
 |.str x=>ϧ
 |_=>Ę
def HL{K:Aa}{v:V}(h:œ (X6 d))(r:cm7):v=nZ d:=by
 cases d<;>simp[X6]at h
 ·exact r.fG
 ·exact r.iu
 ·exact r.bf
 ·exact r.bL
def Sa(h:œ (X6 d)):bD2 (nZ d):=by cases d<;>simp[X6]at h<;>rfl
def Qnr{d e:DV}(h:œ (X6 d))(h':œ (X6 e)):eqV (nZ d) (nZ e)=Ry d e:=by cases d<;>simp[X6]at h<;>cases e<;>simp[X6]at h'<;>rfl
def HM{K:Aa}:∀{ds:Û}{xs:η},œ al4->sT->xs=Af nZ
  | [],_,_,r=>cy au r r
  |d::ds,_,h,r=>by unfold au at r;obtain⟨x,t,rfl,i,j⟩:=r;rw[Cp,Ba]at h;rw[HL h.1 i,HM h.2 j];rfl
def inB(d:DV)(ds:Û):Bool:=ds.any λ y=>Ry y d
def MA{d:DV}(h:œ (X6 d)):∀{ds:Û},œ al4->inV (nZ d) (Af nZ)=inB d ds
  | [],_=>rfl
  |x::ds,h'=>by rw[Cp,Ba]at h';have i:=MA h h'.2;unfold inV inB at i ⊢;rw[A9,Cg,Cg,i,Qnr h'.1 h]
def RR:∀{ds:Û},œ al4->œ ((Af nZ).all zh)
  | [],_=>rfl
  |x::ds,h=>by rw[Cp,Ba]at h;rw[A9,Cp,Sa h.1,RR h.2];rfl
def Dw(x:DV):cm9
  |.ref n=>do
    match <- LM with
    |.lst ds=>do QI (X6 x&&al4);î (inB x ds)
    |.aL kvs=>do let k <- KK x;î (tm bK4)
    |_=>failure
  |.tup ds=>do QI (X6 x&&al4);î (inB x ds)
  |.lst ds=>do QI (X6 x&&al4);î (inB x ds)
  |_=>failure
def nQ:Rt:=gL x y b (Dw x y) (fz (i7 b))
def Qf7{k:Bool}{hp hp':Hs}{K:Aa}(W:bF0)(z:nz x vx)(v:nz y vy)(h:Pp (Dw x y hp) k):hp=hp' /\
    ((∃p xs,vy=bR4/\(Pm K p∨ct4 p)/\bD2 vx/\œ aS1/\k=inV vx xs)∨∃a kvs r,vy=ν/\vx=kV r/\IY>=(.dK kvs)/\k=tm (bl4 r)):=by
  have j:∀(ds:Û)(xs:η)(p:Addr),Pp ((do QI (X6 x&&al4);î (inB x ds):OS) hp) k->sT->(Pm K p∨ct4 p)->vy=bR4->hp=hp'/\(∃p xs,vy=bR4/\(Pm K p∨ct4 p)/\bD2 vx/\œ aS1/\k=inV vx xs):=by intro ds xs p h i u F;obtain⟨_,hp1,e1,e2⟩:=Qg h;obtain⟨d,rfl⟩:=aF2;obtain⟨rfl,rfl⟩:=bd;rw[Ba]at d;have ex:=HM d.2 i;have e0:=HL d.1 z;subst ex e0;exact⟨rfl,p,_,F,u,Sa d.1,RR d.2,(MA d.1 d.2).symm⟩
  cases y with
  |tup ds=>obtain⟨a,xs,rfl,_,u,i⟩:=v.tupI;exact(j ds xs a h i (Ĉ u) rfl).imp id .inl
  |lst ds=>obtain⟨a,xs,rfl,_,u,i⟩:=v.b_;exact(j ds xs a h i (ë u) rfl).imp id .inl
  |ref n =>
    obtain⟨o,hp1,e1,e2⟩:=Qg h;obtain⟨e3,rfl⟩:=bb2;obtain⟨a,rfl,_,C⟩:=df4 v;cases o with
    |lst ds=>obtain⟨xs,h1,i⟩:=C;exact(j ds xs a e2 i (ë mP) rfl).imp id .inl
    |aL kvs=>obtain⟨r,I,E,e5⟩:=Fa;obtain⟨G,rfl⟩:=qu E;obtain⟨rfl,rfl⟩:=Qm e5;obtain⟨xs,h1,J⟩:=C.aL;refine ā (Ĉ (bx1 a xs r (qG G z) h1 ?_));rcases J.val r with ⟨z1,z2⟩|⟨_,_,z1,z2,_⟩<;>rw[z1,z2]<;>rfl
    |ins _ _=>cases e2
  |non=>cases h
  |bl _=>cases h
  |int _=>cases h
  |str _=>cases h
def U_(z:w8 1<cLine):Pw X .NotIn nQ:=by
 intro j s σ H x y v u Q I rx ry h;obtain⟨ρ,B,hp,J,L,d,hp',W,E,F,e,k⟩:=h;obtain⟨b,hp1,e1,e2⟩:=Ū;obtain⟨rfl,rfl⟩:=bd;obtain⟨rfl,h⟩:=Qf7 W E F e1;have i:=L4 (Jn (b:=i7 b));rcases h with ⟨p,xs,rfl,G,o,r,rfl⟩|⟨a,kvs,C,rfl,rfl,h1,rfl⟩
 ·exact QcL j s σ H _ _ v u Q I rx ry ⟨p,xs,rfl,G,o,r,i⟩
 ·exact Qau z j s σ H _ _ v u Q I rx ry (bx1 a kvs C rfl h1 i)
def rZ(o i d:DV):bN4:=match o with
  |.ref n=>do
    match <- LM with
    |.lst ds=>do
      let k <- dH i
      match ixN ã k with
      |some j=>Ub n (Ð (cX4 j))
      |none=>failure
    |.aL kvs=>do
      let k <- KK i
      cz (dQ<lim)
      Ub n (si (aF7 k d))
    |_=>failure
  |_=>failure
def tP3(K:Aa)(g:Rq (Rq (Rq bN4))):DR:=λ o i v H Q=>∃ρ B hp d j r hp',bF0/\Pf o/\nz j i/\nz r v/\Pp (g d j r hp) ()/\∀ρ' B' H',bX1->aP K ρ' B' hp' H'->Q H'
def au.set{K:Aa}(r:Pf x):∀{ds:Û}{xs:η}(i:Nat),sT->i4 (cX4 i) (xs.set i x)
  | [],_,i,h=>by unfold au at h;subst h;exact au.nil
  |_::ds,_,0,h=>by unfold au at h;obtain⟨y,t,rfl,_,h2⟩:=h;exact ai8 r h2
  |_::ds,_,i+1,h=>XP au h y t h1 h2 h (ai8 h1 (au.set r i h2))
def QsK(hu:w8 1<cLine):D_ X (tP3 X.K rZ):=by
  intro y s σ H o i v ov iv u Q I ro ri rv h;obtain⟨ρ,B,hp,O,di,dv,hp',W,r1,G,J,e,k⟩:=h;cases O with
  |ref n =>
    obtain⟨ob,hp1,e1,e2⟩:=Ū;obtain⟨e3,rfl⟩:=bb2;obtain⟨a,rfl,C,z⟩:=df4 r1;cases ob with
    |ins _ _=>cases e2
    |lst ds =>
      obtain⟨j,x,r,e5⟩:=Fa;obtain⟨rfl,rfl⟩:=vH r;obtain⟨xs,h1,F⟩:=z;cases q:ixN ã j with
      |none=>simp only[q]at e5;cases e5
      |some m=>simp only[q]at e5;cases e5;obtain⟨g,d⟩:=kM W C h1 (au.set J m F);exact Qmc y s σ H _ _ v ov iv u Q I ro ri rv (bw2 a xs j m G.bf h1 (ð ⇑F q) (k ρ B _ g d))
    |aL kvs=>obtain⟨E,x,r,e5⟩:=Fa;obtain⟨Z,rfl⟩:=qu r;obtain⟨_,a8,P,U⟩:=Qg e5;obtain⟨hl,rfl⟩:=QJ P;cases U;obtain⟨xs,h1,L⟩:=z.aL;obtain⟨g,d⟩:=QmJ W C h1 (L.put E J);exact Qmb hu y s σ H _ _ v ov iv u Q I ro ri rv ⟨a,xs,E,rfl,qG Z G,h1,ð L.len (Ax bl8 uF),k ρ B _ g d⟩
  |non=>cases e
  |bl _=>cases e
  |int _=>cases e
  |str _=>cases e
  |tup _=>cases e
  |lst _=>cases e
def eZ(f g:aG):iR:=λ d env=>do
 let o <- bb
 let i <- To
 rZ o i d
 î env
def VQ(L:w8 1<cLine)(J:ϟ o fo)(hi:ϟ i fi)
  (ha:∀v,cJ3 (bV0 o i) v=(do
   let ov <- OE [v] aY8
   let iv <- OE [v,ov] (ä i)
   standAt pos
   OE [v,ov,iv] (setItem ov iv v)
   release [v,ov,iv] []):=by intro _;rfl):PG X (bV0 o i) (rG X.K (eZ fo fi)):=by
 intro G s σ H v u Q I r h;refine Qq3 J hi (QsK L) ha G s σ H v u Q I r ?_;obtain⟨Z,env,ρ,B,hp,d,E,hp',S,rd,e,k⟩:=h;obtain⟨x,hp1,e1,e⟩:=Ū;obtain⟨y,j,e2,e⟩:=Ū;obtain⟨z,C,e3,e⟩:=Ū;obtain⟨rfl,rfl⟩:=CH;refine cN5 U O (aF1 e2 (λ vy ρ2 F H2 g2 S2 P=>?_));exact⟨ρ2,F,j,x,y,d,C,S2.wo,ϸ g2 _ _ O,P,aA.grow S.wo.rb ah8 _ _ rd,e3,λ ρ3 B3 H3 g3 W3=>k _ ρ3 B3 H3 ((bU0).gs S.wo.rb) (S2.grow g3 W3)⟩
def xr:String->Rq bN4
  | "list", .lst _=>î ()
  | "str", .str _=>î ()
  |T,.ref n=>do
    match <- LM with
    |.lst _=>QI (T == ĉ)
    |.aL _=>QI (T == AM)
    |_=>failure
  |_,_=>failure
def QkU{T:String}{hp hp':Hs}{K:Aa}{u:Unit}(W:bF0)(r:cm7)(h:Pp (xr T d hp) u):hp=hp'/\tyV K T v H:=by
  unfold xr at h;split at h
  . obtain⟨_,rfl⟩:=cJ8
    obtain⟨a,xs,rfl,_,x,_⟩:=r.b_;exact ā (ë ⟨rfl,xs,x⟩)
  . obtain⟨_,rfl⟩:=cJ8
    obtain rfl:=r.bL;exact ed
  . obtain⟨o,hp1,e1,e2⟩:=Qg h
    obtain⟨e3,rfl⟩:=bb2;obtain⟨a,rfl,_,j⟩:=df4 r;cases o with
    |lst ds=>obtain⟨i,rfl⟩:=QJ e2;obtain⟨xs,h1,_⟩:=j;exact ā (ë ⟨Ë i,xs,mP⟩)
    |aL kvs=>obtain⟨i,rfl⟩:=QJ e2;obtain⟨xs,h1,_⟩:=j;exact ā (cj7 (İ (Ë i) (N2 xs h1)))
    |ins _ _=>cases e2
  . cases h
def o9(K:Aa)(m:Rq cf):V->η->Hp->wp:=λ x vs H Q=>∃ρ B hp i ds d hp',bF0/\nz i x/\mx vs/\cN8 (m i ds hp)/\iM K ρ B H d hp' Q
def ZP(T:String)(m:Rq cf)(f:aG)(a:cB):aG:=λ env=>do
 let x <- bb
 xr T x
 let ds <- by2
 m x ds
def Z4{T id:String}{name:Str}{es:Α}{m:Rq cf}{j i:Pos}(J:MtR X id (o9 X.K m))(P:PlainAttrs T)(slot:Slot T name id)(u:typeOf cD3=î bJ4)(L:ϟ o fo)(ha:DA X (e::es) fs)
  (hbase:Lc o name aY8=aY8:=by rfl)
  (hfew:((Ŵ i (e::es)).all (λ x=>i7 x.1)&&(ay6 i []).all (λ x=>tm x.1)
   && LU (⇑(e::es)+⇑([]:OZ)+É (ce7 ([]:OZ)) 0 1) 30)=true:=by rfl)
  (hline:œ (j.endLine==i.line):=by rfl) (hs:cB4=cs4::bo6:=by rfl) (hplain:ć ((Ŵ i es).any μ):=by rfl) :
  ϟ (an5 o name j (e::es) [] i) (ZP T m fo fs) :=
 Pz (Tc P slot u J L ha hbase hfew hline hs hplain) (λ σ H Q E=>by obtain⟨Z,env,ρ,B,hp,d,hp',S,e,k⟩:=E;obtain⟨x,hp1,e1,F⟩:=Ū;obtain⟨_,O,e2,G⟩:=Qg F;obtain⟨ds,r,e3,I⟩:=Qg G;refine cN7 y;obtain⟨z,ty⟩:=QkU S1.wo y e2;rw[<- z]at e3;exact İ ty (fW.run S1 e3 λ vs ρ2 C H2 g2 S2 U=>⟨ρ2,C,r,x,ds,d,hp',S2.wo,ϸ g2 _ _ y,U,I,wv ah8⟩))
def CN(x:DV)(k:d9 cf):ġ:=match x with
  |.ref n=>do
    match <- LM with
    |.lst ds=>k n ds
    |_=>failure
  |_=>failure
def tQ(x:DV)(k:d9 (b5 h7)):ġ:=match x with
  |.ref n=>do
    match <- LM with
    |.aL ds=>k n ds
    |_=>failure
  |_=>failure
def uQ{x d:DV}{k:d9 cf}{hp hp':Hs}(h:cN8 (CN x k hp)):∃n ds,x=O0/\cn7/\cN8 (k n ds hp):=by
  cases x with
  |ref n =>
    obtain⟨o,hp1,e1,e2⟩:=Qg h;obtain⟨e3,rfl⟩:=bb2;cases o with
    |lst ds=>exact t6 n ds e3 e2
    |aL _=>cases e2
    |ins _ _=>cases e2
  |_=>cases h
def D0{x d:DV}{k:d9 (b5 h7)}{hp hp':Hs}(h:cN8 (tQ x k hp)):∃n ds,x=O0/\aC5 n ds/\cN8 (k n ds hp):=by
  cases x with
  |ref n =>
    obtain⟨o,hp1,e1,e2⟩:=Qg h;obtain⟨e3,rfl⟩:=bb2;cases o with
    |aL ds=>exact t6 n ds e3 e2
    |lst _=>cases e2
    |ins _ _=>cases e2
  |_=>cases h
def Jg(x:DV):cf
 | [d]=>CN x λ n ds=>do cz (ã<lim);Ub n (cE6 [d]);î Ę
 |_=>failure
def JL:MtR X ce8 (o9 X.K Jg):=by
 intro o s σ H x vs v us Q I rx rv h;obtain⟨ρ,B,hp,E,es,d,hp',W,z,C,e,k⟩:=h;unfold Jg at e;split at e
 ·rename_i y;obtain⟨n,ds,rfl,h0,e⟩:=uQ e;obtain⟨_,hp1,e1,e2⟩:=Ū;obtain⟨hl,rfl⟩:=aF2;cases e2;obtain⟨a,rfl,u,xs,h1,j⟩:=CJ z h0;obtain⟨w,rfl,i⟩:=C.bY;obtain⟨g,r⟩:=kM W u h1 (ct8 j i);exact KP o s σ H _ _ v us Q I rx rv ⟨a,xs,w,rfl,rfl,h1,ð Tl (Ax bl8 uF),k _ ρ B _ g r yU⟩
 ·cases e
def Qud(x:DV):cf
  | [y]=>tQ x λ n kvs=>do
    let k <- KK y
    let d <- uR bK4
    Ub n (si (Ti kvs k))
    cj4
  | [y,z]=>tQ x λ n kvs=>do
    let k <- KK y
    match bK4 with
    |some d=>do Ub n (si (Ti kvs k));cj4
    |none=>î z
  |_=>failure
def Vt(x:DV):cf
  | [y]=>tQ x λ n kvs=>do
    let k <- KK y
    î ((bK4).getD Ę)
  | [y,z]=>tQ x λ n kvs=>do
    let k <- KK y
    î ((bK4).getD z)
  |_=>failure
def Ni(L:w8 1<cLine):MtR X bY4 (o9 X.K Vt):=by
 intro J s σ H x vs v us Q I rx rv h;obtain⟨ρ,B,hp,dx,es,d,hp',W,O,o,e,k⟩:=h;unfold Vt at e;split at e
 ·rename_i y;obtain⟨n,kvs,rfl,h0,e⟩:=D0 e;obtain⟨j,hp1,e1,e⟩:=Ū;obtain⟨C,rfl⟩:=qu e1;obtain⟨rfl,rfl⟩:=CH;obtain⟨a,rfl,U,F⟩:=CJ O h0;obtain⟨xs,h1,E⟩:=F.aL;obtain⟨w,rfl,i⟩:=o.bY;obtain rfl:=qG C i;refine WS L J s σ H _ _ v us Q I rx rv ⟨a,xs,j,rfl,h1,ë (ā (L4 ?_))⟩;rcases E.val j with ⟨z1,r⟩|⟨u,v',z1,r,G⟩<;>rw[z1,r]
  ·exact yU
  ·exact G
 ·rename_i y z;obtain⟨n,kvs,rfl,h0,e⟩:=D0 e;obtain⟨j,hp1,e1,e⟩:=Ū;obtain⟨C,rfl⟩:=qu e1;obtain⟨rfl,rfl⟩:=CH;obtain⟨a,rfl,U,F⟩:=CJ O h0;obtain⟨xs,h1,E⟩:=F.aL;unfold au at o;obtain⟨w,t,rfl,i,o⟩:=o;obtain rfl:=qG C i;obtain⟨Z,rfl,P⟩:=o.bY;refine WS L J s σ H _ _ v us Q I rx rv ⟨a,xs,j,rfl,h1,Ĉ (Ņ Z (L4 ?_))⟩;rcases E.val j with ⟨z1,r⟩|⟨u,v',z1,r,G⟩<;>rw[z1,r]
  ·exact P
  ·exact G
 ·cases e
#where
#print D
namespace L2
open PySem PySem.Spec PyProof.Rows
def Inv.fH{X:Cx}{s:Shared}(I:ag):Ν cE8:=by
 cases q:cE8 with
 |none=>rfl
 |some o=>exact bh6 (Ao (I.kIn _ o q))
def QrA(K:Aa)(a:â TE TE):TE:=λ σ H Q=>∀p,cD1->LA p->E_ a σ (Ž p (.dK [])) λ ps H2=>H2 p>=(.dK [])/\∃kvs:bp7,ps=au8 (λ c=>(kV c.1,c.2))/\dQ<=15/\cI1 (upd H2 p (.dK (XY [] kvs)))
def Qlu{d:Ã ak3}{values:Α}{r:â TE TE}(h:PPs X pos d values r)(j:œ (d.all cS7))(hl:⇑d=values.length)(h0:d≠[])
  (h15:⇑d<=15):cr (.Dict d values pos) (QrA X.K r):=by
 intro y s σ H Q I q;have hn:=m5 cd8;have x:=I.laid (a:=s.heap.objs.size) (o:=.dK []) (h':=mI AM (.dict #[])) (t':=s.toks) (bs5 (om q)) đ (So s.heap I.big);refine wpAny_Dict_walk (knd:=bi7) j hl h0 h15 (Ť (h y _ σ _ _ x (q _ hn I.fH)) ws s2 C);obtain⟨ps,H2,v,u,e,kvs,F,lk,L⟩:=C;subst F;obtain⟨Z,c,U⟩:=vP (P:=X.prog) (w:=X.w) u;obtain⟨z,hd,a8,O,E⟩:=Tj v.hok e;cases O;refine⟨Z,c,E,λ h' i J=>dr τ _ ?_ L⟩;have hz:Ă ⇑(XY [] kvs):=by have h1:=zQ kvs [];rw[List.length_nil]at h1;rw[sizeLine_eq];lia
 have G:∃q,be5 q:=let ⟨q,_,_,hq,_⟩:=i;İ q hq;exact OD v (bo2 e) J G (M_ hz hd (U.merge lS) i)
def Qja{X:Cx}:cr (.Dict [] [] pos) (λ_ H Q=>∀p,cD1->Ν (FT p)->cI1 (Ž p (.dK []))):=λ c s σ H Q I h =>
 wpAny_Dict_empty (dr τ _ (cx7 a o (.dK []) t' s.toks (bs5 (om q)) đ (So s.heap I.big)) (h _ bf3 I.fH))
#print L2
namespace D
open PySem PySem.Spec PyProof.Rows L2
section
variable{X:Cx}{e a b c:Expr}{f fa fb fc:aG}{ca cb:cg}{pos:Pos}
def Io:â aG aG->En->M h7
  | [],_=>î []
  | (f,g)::r,env=>do
    let x <- bb
    let k <- KK x
    let y <- To
    let ps <- Io r env
    î ((k,y)::ps)
def zR(kvs more:h7):h7:=more.foldl (λ acc d=>X8 acc d.1 d.2) kvs
def Qsl(ps:â aG aG):aG:=λ env=>do
 let kvs <- Io ps env
 cz (dQ<=15)
 XC (si (zR [] kvs))
def Sx(K:Aa)(ps:â aG aG):â TE TE:=bb4 p (tD K oB,tD K p.2)
structure DPs(X:Cx)(pos:Pos)(keys:Ã ak3)(values:Α)(ps:â aG aG):ç where
 out:PPs X pos keys values (Sx X.K ps)
def aW.merge{K:Aa}(r:aW K ρ B H more ms):∀{kvs:h7}{xs:bp7},cb8 K B H->aW K ρ B H (zR kvs more) (XY xs ms):=by
  induction r with
  |nil=>intro kvs xs r;exact r
  |@cons p q _ _ h _ d=>intro kvs xs r;unfold zR XY at d ⊢;rw[List.foldl_cons,List.foldl_cons,h.1];exact d (r.put q.1 h.2)
def MO{K:Aa}:∀(ps:â aG aG){Z:Ent}{env:En}{σ:St}{ρ:Ed}{B:Ec}{hp hp1:Hs}{H:Hp}{kvs:h7}{R:â V V->eg},bG2->Io ps env hp>=(kvs,hp1) ->
    (∀xs ρ' B' H',bX1->TW K Z ρ' B' hp1 H'->bO3 K ρ' B' H'->R (nj (λ d=>(kV d.1,d.2))) H')->E_ (Sx K ps) σ H R
  | [],_,_,_,_,_,_,_,_,_,_,S,e,k=>wS rfl rfl CH (ŏ [] _ _ _ S lS)
  | (f,g)::r,_,_,_,_,_,_,_,_,_,_,S,e,k=>by obtain⟨x,o,e1,e⟩:=Ū;obtain⟨C,z,e2,e⟩:=Ū;obtain⟨j,rfl⟩:=qu e2;obtain⟨y,I,e3,e⟩:=Ū;obtain⟨ps,J,i,e⟩:=Ū;obtain⟨rfl,rfl⟩:=CH;refine cN6 E (aF1 e3 (λ u ρ2 B2 H2 g2 S2 F=>MO r S2 i λ xs ρ3 B3 H3 g3 S3 G=>?_));obtain rfl:=qG j E;exact k ((C,u)::xs) ρ3 B3 H3 bU0 S3 (ck8 (aA.grow S2.wo.rb g3 _ _ F) G)
def Qti{j:Ã ak3}{values:Α}{ps:â aG aG}(h:DPs X pos j values ps)(v:œ (j.all cS7):=by rfl)(hl:Tl=values.length:=by rfl)(h0:j≠[]:=by exact List.cons_ne_nil _ _)(y:Tl<=15:=by exact Ø):ϟ (.Dict j values pos) (Qsl ps) :=
 L2.PE.imp (Qlu h.out v hl h0 y) λ σ H Q aD=>by
  obtain⟨Z,env,ρ,B,hp,d,hp',S,e,k⟩:=aD;obtain⟨kvs,hp1,e1,e2⟩:=Ū;obtain⟨_,a8,e3,e4⟩:=Fa;obtain⟨hs,rfl⟩:=cW4;cases e4;intro p hn F;have g0:wa X.K B H ρ (jO B p) (Ž p (.dK [])):=bN9 hn F;have P:=S.wo.banned (o:=.dK []) hn F;have I:p∉ρ:=λ z=>S.wo.bt p (S.wo.rb p z) hn;refine MO ps (S.grow g0 P) e1 (rr xs B1 H1 g1 S1 J ?_);have C:p∉ρ1:=λ z=>(g1.bW p z).elim I λ q=>ı Q9 q q
  have O:H1 p>=(.dK []):=g1.keep p _ I Q9;refine t6 O xs (ð J.len (C4 hs)) ?_;have G:=cg0;have trk:∀b,Ν ((upd H1 p (.dK (XY [] xs))) b)->Ν (H1 b):=λ b q=>by
   by_cases e:b=p
   ·subst e;rw[Q9]at q;cases q
   ·rw[Q0 e]at q;exact q
  have E:B1 p:=g1.ban p ot;have g2:Gs X.K ρ1 B1 H1 (ρ1++[p]) B1 (upd H1 p (.dK (XY [] xs))):=⟨NF _,tj h h,λ b o nb h=>cM2 b p (λ z=>nb (Æ z E)) h,trk⟩;have L:wa X.K B H (ρ1++[p]) B1 (upd H1 p (.dK (XY [] xs))) :=
   ⟨G.pre.trans (NF _),G.ban,G.new,λ a z=>(cE2).elim (G.bW a) λ q=>Ĉ (r8 q hn),
    λ a o na h=>cM2 a p (hW z z hn h h) (G.keep a o na h),λ a q=>G.trk a (trk a q)⟩
  have r:=S1.wo;have oD:bH X.K (ρ1++[p]) B1 (upd H1 p (.dK (XY [] xs))) p (si (zR [] kvs)):=((aW.merge J (kvs:=[]) (xs:=[]) lS).gs g2).iI Q9;have U:aP X.K (ρ1++[p]) B1 (hp1++[si (zR [] kvs)]) (upd H1 p (.dK (XY [] xs))):=by
   refine⟨Ģ r.len,aL8 (cq0 r.nd (λ a ha b hb=>r8 hb (λ z=>C (z▸ha)))),cR4 i a u e q,λ a z=>(cE2).elim (r.rb a) λ q=>r8 q E,λ a z q=>r.bt a z (trk a q),r.bk⟩;by_cases hi:i<⇑ρ1
   ·rw[Ag hi]at e;rw[Ag (ð r.len hi)]at q;exact bz2 g2 (λ z=>C (ð z ce2)) (r.obj i a u e q)
   ·rw[al2]at e;rw[bk9 r.len]at q;have x:i-⇑ρ1=0:=aa1 dc8
    rw[x]at e;rw[<- r.len,x]at q;simp at e q;subst e q;exact oD
  refine k _ _ _ _ L U ?_;unfold aA;exact dc4 p r.len
def yc:aG:=λ_=>XC F7
def Ut:ϟ (.Dict [] [] pos) yc:=Pz Qja (λ σ H Q j=>by obtain⟨Z,env,ρ,B,hp,d,hp',S,e,k⟩:=j;cases e;intro p hn i;have g:wa X.K B H (ρ++[p]) (jO B p) (Ž p (.dK [])):=Gr.dJ hn i;refine k _ _ _ _ g (S.wo.dJ hn i (aW.iI (xs:=[]) lS Q9)) ?_;unfold aA;exact dc4 p S.wo.len)
abbrev NX:=d9 (M (ď DV))
def Mt(K:Aa)(ρ:Ed)(B:Ec)(H:Hp)(nxt:NX)(J:It):ç :=
  ∀ρ1 B1 hp1 j, by8 ρ1 B1 j -> aP K ρ1 B1 hp1 j -> ∀(i : Nat)(o : ď DV)(r : Hs), nxt i hp1 = í (o, r) -> r = hp1 /\ match o with
    |none=>J.stop i j
    |some d=>J.go i j/\∀x u,J.yld i j x u->aA K ρ1 B1 u d x/\(u=j∨∃p o,Ν (j p)/\u=upd j p o)
abbrev lF:=En->M NX
def Hl(K:Aa)(f:lF):TI:=λ σ H R=>∃Z env ρ B hp nxt hp',bG2/\Pp aE nxt/\∀J ρ' B' H',bX1->aP K ρ' B' hp' H'->Mt K ρ' B' H' nxt J->R J H'
def DX(X:Cx)(tg d:Expr)(f:lF):ç:=PI X tg d (Hl X.K f)
def cN(ds:Û):NX:=λ i=>cB0 (i<=ã) (î bD6)
def fQ(n:Nat):NX:=λ i=>do
 match <- LM with
 |.lst ds=>î bD6
 |_=>failure
def Wc{K:Aa}(h:oY K ρ B H ds J):Mt K ρ B H Ff J:=λ ρ1 B1 hp1 H1 g W i o j e=>by
  unfold cN at e;by_cases hi:i<=ã
  . rw[Cy hi]at e
    obtain⟨rfl,rfl⟩:=CH;obtain⟨h1,h2⟩:=h ρ1 B1 H1 g W.rb W.bt;refine ā ?_;cases q:bD6 with
    |none =>
      have:i=ã:=ī aT0
      subst this;exact h2
    |some d=>exact h1 i d q
  . rw[Cw hi]at e;cases e
def QqB{K:Aa}{ρ:Ed}{n:Nat}{a:Addr}(ha:ρ[n]?>=a)(kf:∀j:Hp,∀xs ys,ģ (j a) xs->SqL K j a ys->ys=xs):Mt K ρ B H (fQ n) (Itl K a):=λ ρ1 B1 hp1 j g W i o z e=>by
  obtain⟨ob,C,e1,e2⟩:=Ū;obtain⟨e3,rfl⟩:=bb2;have r:=Hm g.pre ha;cases ob with
  |aL _=>cases e2
  |ins _ _=>cases e2
  |lst ds =>
    obtain⟨rfl,rfl⟩:=bd;obtain⟨xs,h1,u⟩:=W.obj n a _ r e3;refine ā ?_;cases q:bD6 with
    |none=>exact⟨xs,mP,ð ⇑u aT0⟩
    |some d=>obtain⟨x,hx,E⟩:=u.get q;refine İ ⟨xs,x,mP,hx⟩ (ba4 y H' v hy);subst v;have:=hy xs mP;rw[hx]at this;cases this;exact İ E ĭ
def Qml{K:Aa}{a:Addr}(d:LA a)(H:Hp)(xs ys:η)(h:ģ IY xs)(h':rh K a ys):ys=xs:=by
 rcases h' with (h'|⟨o,h'⟩)|⟨o,_,_,h',_⟩
 ·rw[h]at h';cases h';rfl
 ·rw[h]at h';cases h'
 ·rw[d]at h';cases h'
def iT(f:iY):lF:=FP (oE ds bb Ff)
def cR(f:aG):lF:=λ env=>do
  match <- bb with
  |.lst ds=>î Ff
  |.ref n=>do
    match <- LM with
    |.lst _=>î (fQ n)
    |_=>failure
  |_=>failure
variable{tg iter:Expr}
def vZ(h:DI X tg iter g):DX X tg iter (iT g):=L2.PI.imp h λ σ H R d=>by obtain⟨Z,env,ρ,B,hp,nxt,hp',S,e,k⟩:=d;obtain⟨ds,hp1,e1,e2⟩:=Ū;obtain⟨rfl,rfl⟩:=bd;exact⟨Z,env,ρ,B,hp,ds,hp1,S,e1,λ J ρ' B' H' g W i=>k J ρ' B' H' g W (Wc i)⟩
def Xw(h:cp7):DX X tg iter (cR f):=L2.PI.imp (HE (L2.PE.kf h)) λ σ H R u=>by
  obtain⟨Z,env,ρ,B,hp,nxt,hp',S,e,k⟩:=u;obtain⟨d,hp1,e1,e2⟩:=Ū;refine dt S (λ v ρ1 B1 H1 g1 S1 j kf=>?_);cases d with
  |lst ds=>obtain⟨rfl,rfl⟩:=bd;obtain⟨a,xs,rfl,E,r,F⟩:=j.b_;exact⟨a,rfl,İ xs r,bg5 (Wc (Mm E r F))⟩
  |ref n =>
    obtain⟨o,y,e3,i⟩:=Qg (é (Pp ((LM >>= λ o=>(match o with|.lst _=>î (fQ n)|_=>failure:M NX)) hp1) nxt) e2);obtain⟨e5,x⟩:=ZY e3;cases o with
    |lst ds=>obtain⟨rfl,z⟩:=Qm i;rw[<- z,<- x]at k;obtain⟨a,rfl,C,xs,h1,_⟩:=cX2 j e5;exact⟨a,rfl,İ xs mP,bg5 (QqB C (Qml (kf a _ h1)))⟩
    |aL _=>cases i
    |ins _ _=>cases i
  |non=>cases e2
  |bl _=>cases e2
  |int _=>cases e2
  |str _=>cases e2
  |tup _=>cases e2
def yf(nxt:NX)(b:bV2):bT0 aF
  |0,_,_=>failure
  |m+1,i,env=>do
    match <- nxt i with
    |none=>î m4
    |some d=>do
      let r <- b d env
      match r.1 with
      |.nx=>yf nxt b m (i+1) r.2
      |.ct=>yf nxt b m (i+1) r.2
      |.bk=>bd8 r.2
      |.rt x=>î (.rt x,r.2)
def Y6(f:lF)(g:iR)(i:aF):aF:=FP (do let nxt <- bb;yf nxt (ak7 d (g d env) (i env')) ŀ 0 env)
def zg{r:G6}{fi:lF}{g:iR}{I:aF}(hp:az5 an7 X.A X.xe)(hc:aT)(hi:DX X tg iter fi)(hg:PG X tg (rG X.K g))(hb:iQ X r I)
    (hs:∀x,cG1=bZ8:=by intro _;rfl):DS X (.For tg iter r [] pos) (Y6 fi g I) :=
  (Wl hp hc hi hg hb hs).imp λ D σ H aD=>by
    obtain⟨Z,env,ρ,B,hp,fl,j,hp',S,e,k⟩:=aD;obtain⟨nxt,hp1,e1,e2⟩:=Ū;refine⟨Z,env,ρ,B,hp,nxt,hp1,S,e1,rr J L H1 g1 W1 it ?_⟩;have k1:=wv fy;refine⟨λ i m σ H=>∃env ρ B hp,bG1 X.K/\Gs X.K ρ1 L H1 ρ B H/\Pp (yf nxt (IV d j (g d env) (I j)) m i env hp) (fl,j),
      ⟨ŀ,env,ρ1,L,hp1,S.grow g1 W1,Gs.refl,e2⟩,?_⟩
    rintro i m σ H ⟨g_,ρ2,B2,hp2,S2,g2,e3⟩;cases m with
    |zero=>cases e3
    |succ m =>
      obtain⟨o,u,eo,e3⟩:=Qg e3;obtain⟨rfl,C⟩:=it ρ2 B2 hp2 H g2 S2.wo i o u eo;cases o with
      |none=>obtain⟨z,rfl⟩:=Qm e3;cases z;exact N2 C (k1 σ ρ2 B2 H g2 S2)
      |some d =>
        obtain⟨go,yl⟩:=C;obtain⟨⟨U,P⟩,O,e4,e5⟩:=Qg e3;obtain⟨lW,v,e6,e7⟩:=Qg e4;refine .inr ⟨go,λ σ' H'=>∃env ρ B hp,tr X.K Z σ' ρ B hp H'/\Gs X.K ρ1 L H1 ρ B H'/\Pp (yf nxt (IV d j (g d env) (I j)) m (i+1) env hp) (fl,j),
          λ σ' H' q=>⟨m,Cn m,q⟩,ĵ x H' y⟩
        obtain⟨rx,hx⟩:=yl x H' y;have Q:bN X.K Z g_ σ ρ2 B2 u H'/\Gs X.K ρ2 B2 H ρ2 B2 H':=by
          rcases hx with rfl|⟨p,o,hn,rfl⟩
          . exact İ S2 Gs.refl
          . exact İ (S2.grow cn5 (S2.wo.laid hn)) (MF S2.wo.rb hn)
        refine⟨Z,g_,ρ2,B2,u,d,lW,v,Q.1,rx,e6,λ σ5 ρ5 B5 H5 g5 S5=>⟨Z,lW,ρ5,B5,v,U,P,O,S5,e7,bx5 σ6 ρ6 E H6 g6 G⟩⟩;have F:=bz3 (à Q.2 (g5.trans g6));cases U with
        |nx=>exact⟨P,ρ6,E,O,G,F,e5⟩
        |ct=>exact⟨P,ρ6,E,O,G,F,e5⟩
        |bk=>obtain⟨z,rfl⟩:=Qm e5;cases z;exact k1 σ6 ρ6 E H6 F G
        |rt d=>obtain⟨z,rfl⟩:=Qm e5;cases z;exact k1 σ6 ρ6 E H6 F G
def JW(nxt:NX)(g:cm9)(f:ck):bT0 aS6
  |0,_=>failure
  |m+1,i=>do
    match <- nxt i with
    |none=>î []
    |some d=>do
      if <- g d then
        let y <- f d
        let ys <- JW nxt g f m (i+1)
        î (y::ys)
      else JW nxt g f m (i+1)
def Z5(nw:Bool)(i:lF)(idx:Ċ)(t:cg)(f:aG):aG:=λ env=>do
 let nxt <- i env
 let out <- JW nxt (λ d=>t aP4) (λ d=>f aP4) lim 0
 if nw then XC (Ð out)else am4 out
variable{elt:Expr}{x:Str}{px:Pos}{ifs:Α}{scope:Scope}{cl:aB9}{caps:ő}{idx:Ċ}{src:lF}{te:cg}{nw:Bool}
def QfM{K:Aa}{gt:En->cm9}{gf:En->ck}{tg:V->Hp->θ bS8}{σ:St}{H:Hp}{Q:VK}
    (hG:∀{Z env σ ρ B hp H ρ1 L hp1 O d v r},bG2->by8 ρ1 L O->aP K ρ1 L hp1 O->aA K ρ1 L O d v->gt env d hp1>=r->∃e zs,bN K ⟨ρ1,L,O⟩ e (cm8 aS7) ρ1 L hp1 O/\te e hp1>=r/\gf env d=f e/\∀k:bS8,k zs->tg v O k)
    (h:tD K (λ env=>do
      let nxt <- src env
      let out <- JW nxt (gt env) (gf env) lim 0
      if nw then XC (Ð out)else am4 out) σ H Q):Fb K (Hl K src) tg (eV K te) (tD K f) idx σ H Q:=by
  obtain⟨Z,env,ρ,B,hp,d,hp',S,e,k⟩:=h;obtain⟨nxt,hp1,e1,e2⟩:=Ū;obtain⟨out,ab,e5,e6⟩:=Fa;refine⟨Z,env,ρ,B,hp,nxt,hp1,S,e1,λ J ρ1 L O g1 W1 it D hD hK=>?_⟩;have Il:=fy;refine⟨λ i m ys H2=>ģ (H2 D) ys/\i+m=lim/\∃ρ2 C G u I,Gr K ρ1 L O ρ2 C H2/\aP K ρ2 C G H2/\C D/\D∉ρ2/\au K ρ2 C H2 u ys/\⇑u<=i /\
    JW nxt (gt env) (gf env) m i G>=(I,ab)/\u++I=out,?_,?_⟩
  . exact⟨lim,Q9,Cq _,ρ1,jO L D,hp1,[],out,bN9 hD hK,W1.banned hD hK,ot,λ z=>W1.bt D (W1.rb D z) hD,au.nil,đ,e5,rfl⟩
  . rintro i m ys H2 ⟨mC,him,ρ2,C,G,u,I,g2,W2,bD,nD,rd,dn,e7,e8⟩
    refine CA mC;cases m with
    |zero=>cases e7
    |succ m =>
      obtain⟨o,E,eo,e7⟩:=Qg e7;obtain⟨rfl,a9⟩:=it ρ2 C G H2 (g2.gs W1.rb) W2 i o E eo;cases o with
      |some d0 =>
        obtain⟨go,yl⟩:=a9;obtain⟨b,cO,e9,e10⟩:=Qg e7;refine mf go (ĵ x H3 y);obtain⟨rx,hx⟩:=yl x H3 y;have U:Gr K ρ2 C H2 ρ2 C H3/\aP K ρ2 C E H3:=by
          rcases hx with rfl|⟨p,o,hn,rfl⟩
          . exact İ Gr.refl W2
          . exact İ cn5 (W2.laid hn)
        have g3:=bz3 U.1;obtain⟨ev,zv,C3,e9,ef,kk⟩:=hG S (Il.trans (g3.gs W1.rb)) U.2 rx e9;refine kk _ (cR5 C3 e9 ρ4 B4 H4 g4 S4);have pO:ģ (H4 D) ys:=g4.keep D _ nD (U.1.keep D _ nD mC);have pH:D∉ρ4:=λ z=>(g4.bW D z).elim nD λ q=>ı (U.1.keep D _ nD mC) q q
        cases b with
        |false=>exact mK ⟨m,Cn m,pO,À,ρ4,B4,cO,u,I,ba9,S4.wo,g4.ban D bD,pH,aA1 W2.rb (à U.1 g4) _ rd,À,e10,e8⟩
        |true =>
          obtain⟨z,lR,h_,Iz⟩:=Qg e10;obtain⟨zs,Rk,Iw,Iu⟩:=Qg Iz;obtain⟨rfl,rfl⟩:=Qm Iu;rw[ef]at h_;refine mJ (tD.run S4 h_ λ v ρ5 B5 H5 g5 S5 r5=>?_);have Ig:ģ (H5 D) ys:=g5.keep D _ pH pO;have tX:D∉ρ5:=λ z=>(g5.bW D z).elim pH λ q=>ı pO q q
          have wK:B5 D:=g5.ban D (g4.ban D bD);have P:=g3.trans (g4.trans g5);have tM:=aA1 W2.rb (à U.1 (g4.trans g5)) _ rd;have trk:∀b,Ν ((upd H5 D (Fs ys [v])) b)->Ν (H5 b):=λ b q=>by
            by_cases e:b=D
            . subst e;rw[Q9]at q;cases q
            . rw[Q0 e]at q;exact q
          have g6:Gs K ρ5 B5 H5 ρ5 B5 (upd H5 D (Fs ys [v])):=⟨Cb,tj h h,λ b o nb h=>cM2 b D (λ z=>nb (Æ z wK)) h,trk⟩;refine⟨Ig,?_,m,Cn m,Q9,À,ρ5,B5,lR,u++[z],zs,?_,?_,wK,tX,E9 g6 _ (ct8 tM r5),ŉ,Iw,fJ e8⟩
          . have h1:=tM.length
            have h2:aO9 lim:=Â
            lia
          . exact⟨P.pre,P.ban,P.new,P.bW,λ b o nb h=>cM2 b D (hW q q hD h h) (P.keep b o nb h),λ b q=>P.trk b (trk b q)⟩
          . exact⟨S5.wo.len,S5.wo.nd,λ j b o q1 F=>bz2 g6 (bR5 b D (λ z=>tX (ð z (Av q1)))) (S5.wo.obj j b o q1 F),S5.wo.rb,λ b z q=>S5.wo.bt b z (trk b q),S5.wo.bk⟩
      |none =>
        obtain⟨z,z'⟩:=Qm e7;subst z;subst z';refine ë (CA a9);rw[Bo]at e8;subst e8;cases nw with
        |false =>
          obtain⟨rfl,rfl⟩:=Qm (é (cN8 ((am4 u:ġ) E)) e6);have gU:Gs K ρ2 C H2 ρ2 (λ b=>C b/\b≠D) H2:=⟨Cb,tj h h.1,wx h h,bW6⟩;refine k ↑D ρ2 (λ b=>C b/\b≠D) H2 (ϥ ⟨g2.pre,λ b z=>cC6 (g2.ban b z) q (W1.bt b z (q▸hD)),λ b z=>g2.new b z.1,g2.bW,g2.keep,g2.trk⟩)
            ⟨W2.len,W2.nd,λ j b o q1 F=>bH.gs gU rfl (W2.obj j b o q1 F),λ b z=>cC6 (W2.rb b z) q (nD (q▸z)),λ b z=>W2.bt b z.1,λ b z=>W2.bk b z.1⟩ (UR (λ z=>z.2 rfl) (SqL.of mC) (E9 gU _ rd))
        |true =>
          cases é (cN8 (í (NG ⇑E,E++[ez u]))) e6;have gU:Gs K ρ2 C H2 (ρ2++[D]) C H2:=⟨NF _,tj h h,wx h h,bW6⟩;refine k ↑D (ρ2++[D]) C H2 (ϥ ⟨g2.pre.trans (NF _),g2.ban,g2.new,λ a z=>(cE2).elim (g2.bW a) λ q=>Ĉ (r8 q hD),g2.keep,g2.trk⟩)
            ⟨Ģ W2.len,aL8 (cq0 W2.nd (λ a ha b hb=>r8 hb (λ z=>nD (z▸ha)))),cR4 j b o q1 F,λ b z=>(cE2).elim (W2.rb b) λ q=>r8 q bD,W2.bt,W2.bk⟩ ?_
          . by_cases hi:j<⇑ρ2
            . rw[Ag hi]at q1
              rw[Ag (ð W2.len hi)]at F;exact bH.gs gU rfl (W2.obj j b o q1 F)
            . rw[al2]at q1
              rw[bk9 W2.len]at F;have a8:j-⇑ρ2=0:=aa1 (ţ q1)
              rw[a8]at q1;rw[<- W2.len,a8]at F;simp at q1 F;subst q1 F;exact⟨ys,mC,E9 gU _ rd⟩
          . unfold aA
            exact dc4 D W2.len
def v7{K:Aa}(h:tD K (Z5 nw src idx te f) σ H Q):w6 K (Hl K src) (eV K te) (tD K f) idx σ H Q :=
 QfM (gt:=λ env d=>te aP4) (gf:=λ env d=>f aP4) (λ S g W r e=>NW _ [_] (cσ_ok S g W r) e bW6) h
def Xc(S:cW X x scope cl caps idx)(d:aT)(hi:DX X ax0 iter src)
  (ht:∀C s₀ H₀ ex,BL cu3 ifs te) (he:∀C s₀ H₀ ex,DE cu3 elt f)
  (hs:∀x,cG1=bZ8:=by intro _;rfl):ϟ (bg0 [bH0 0]) (Z5 nw src idx te f) :=
 Pz (HH (tt:=eV X.K te) (te:=tD X.K f) S d hi ht he hs) (wx h (v7 h))
def Sn(i:Nat){y:Str}{j d:Pos}(o:X.N.Nodup)(S:cW X x scope cl caps idx)(r:aT)(hi:DX X ax0 iter src)
  (ht:∀C s₀ H₀ ex,BL cu3 ifs te) (he:∀C s₀ H₀ ex,DE cu3 elt f)
  (hy:Ϥ X.N y:=by rfl) (hx:fT y:=by first|exact al3|exact ba8)
  (hsw:t7 (bg0 [bH0 0]) (í (Ĵ y j)) d.line=bR7:=by with_unfolding_all rfl)
  (hf:x3 y∨cC8 y:=by first|exact ĭ|exact ot|assumption)
  (hs:∀x,cG1=bZ8:=by intro _;rfl):DS X (cc8 [Ĵ y j] (bg0 [bH0 0]) d) (QP i (Z5 nw src idx te f)) :=
 L2.PS.imp (Qor (tt:=eV X.K te) (te:=tD X.K f) S r hi ht he o hy hx hsw hf hs) (wx h (DB (wx q (v7 q)) h))
#where
def WP{α:rV}(m:M α)(hp:Hs)(Q:α->cD2):ç:=∃x hp',Pp (m hp) x/\Q x hp'
section
variable{α β:rV}{m:M α}{k:α->M β}{hp:Hs}{Q:α->cD2}{R:β->cD2}
def cH{x:α}:WP bZ8 hp Q↔Q x hp:=cC6 (λ⟨y,h,e,q⟩=>wS rfl rfl CH q) q (fh x hp q)
def vg:WP (m >>= k) hp R↔WP m hp λ x h=>WP (k x) h R:=İ (λ⟨y,h,e,q⟩=>by obtain⟨x,h1,e1,e2⟩:=Ū;exact⟨x,h1,e1,y,h,e2,q⟩) (λ⟨x,h1,e1,y,h,e2,q⟩=>⟨y,h,à IE e2,q⟩)
def WP.mono{a:α->cD2}(h:WP m hp Q)(hq:∀x h,Q x h->a x h):WP m hp a:=let ⟨x,h1,e,q⟩:=h;⟨x,h1,e,hq x h1 q⟩
def WP.of{x:α}(e:Pp (m hp) x)(q:Q x hp'):WP m hp Q:=⟨x,hp',e,q⟩
#where
section
variable{hp:Hs}{env:En}{Q:cS1->cD2}
def QmV{b:bV2}(I:d9 (En->cD2))(ds:Û)(h0:bN3 0)(u:∀(i:Nat) d,aI6->∀env hp,bN3 i->WP (b d env) hp λ r h=>match r.1 with
    |.nx=>I (i+1) r.2 h
    |.ct=>I (i+1) r.2 h
    |.bk=>Q (Ŭ r.2) h
    |.rt x=>Q (.rt x,r.2) h) (o:∀env hp,bN3 ã->Q m4 hp):WP (jU b ds env) hp Q:=by
  suffices h:∀(m i:Nat) env hp,m+i=ã->bN3 i->WP (jU b bq8 env) hp Q by simpa using h ã 0 env hp rfl h0
  intro m;induction m with
  |zero =>
    intro i env hp e hI;have:i=ã:=À
    subst this;rw[Co];exact cH.mpr (o env hp hI)
  |succ m c =>
    intro i env hp e hI;have a:i<ã:=À
    rw[Bf a,jU,vg];refine(u i ds[i] bz4 env hp hI).mono (ĵ r h q);obtain⟨j,aH⟩:=r;cases j with
    |nx=>exact c (i+1) aH h À q
    |ct=>exact c (i+1) aH h À q
    |bk=>exact cH.mpr q
    |rt x=>exact cH.mpr q
def Ow{nxt:NX}{b:bV2}(ds:Û)(I:d9 (En->cD2))(hl:ã<ŀ)(hn:∀(i:Nat) env hp,i<=ã->bN3 i->nxt i hp>=(bD6,hp))(h0:bN3 0)(v:∀(i:Nat) d,aI6->∀env hp,bN3 i->WP (b d env) hp λ r h=>match r.1 with
    |.nx=>I (i+1) r.2 h
    |.ct=>I (i+1) r.2 h
    |.bk=>Q (Ŭ r.2) h
    |.rt x=>Q (.rt x,r.2) h) (u:∀env hp,bN3 ã->Q m4 hp):WP (yf nxt b ŀ 0 env) hp Q:=by
  suffices h:∀(m i n:Nat) env hp,m+i=ã->m<n->bN3 i->WP (yf nxt b n i env) hp Q from h ã 0 ŀ env hp rfl hl h0;intro m;induction m with
  |zero =>
    intro i n env hp e c hI;have:i=ã:=À
    subst this;obtain⟨n,rfl⟩:∃k,n=k+1:=EU (n-1);rw[yf,vg];refine WP.of (hn _ env hp đ hI) ?_;rw[dg2 ds[ã]?];exact cH.mpr (u env hp hI)
  |succ m j =>
    intro i n env hp e c hI;have a:i<ã:=À
    obtain⟨n,rfl⟩:∃k,n=k+1:=EU (n-1);rw[yf,vg];refine WP.of (hn i env hp À hI) ?_;simp only[bz4];rw[vg];refine(v i ds[i] bz4 env hp hI).mono (ĵ r h q);obtain⟨o,aH⟩:=r;cases o with
    |nx=>exact j (i+1) n aH h À À q
    |ct=>exact j (i+1) n aH h À À q
    |bk=>exact cH.mpr q
    |rt x=>exact cH.mpr q
def KR(ds:Û)(i:Nat)(h:i<=ã)(hp:Hs):cN ds i hp>=(bD6,hp):=õ cN cv1
def KS{n:Nat}{ds:Û}{hp:Hs}(h:cn7)(i:Nat):fQ n i hp>=(bD6,hp):=by
 unfold fQ;have:ZK n hp>=(hV,hp):=ŵ ZK h
 rw[EF];rfl
def RS{b:bV2}(ds:Û)(I:d9 (En->cD2))(hl:ã<ŀ)(h0:bN3 0)(c:∀(i:Nat) d,aI6->∀env hp,bN3 i->WP (b d env) hp λ r h=>match r.1 with
  |.nx=>I (i+1) r.2 h
  |.ct=>I (i+1) r.2 h
  |.bk=>Q (Ŭ r.2) h
  |.rt x=>Q (.rt x,r.2) h) (a:∀env hp,bN3 ã->Q m4 hp):WP (yf Ff b ŀ 0 env) hp Q :=
 Ow ds I hl (λ i env hp h _=>KR ds i h hp) h0 c a
#where
def QfE{nxt:NX}{t:cm9}{f:ck}{p:cb0}{g:Int->Int}(ns:Ŗ)(hn:∀i,i<=F8->nxt i hp>=(Ű OF,hp))(d:∀x,t ↥x hp>=(p x,hp))(hf:∀x,f ↥x hp>=(Ì (g x),hp))(hl:F8<ŀ):
    JW nxt t f ŀ 0 hp>=(ww (tP (ns.filter p) g),hp):=by
  suffices h:∀(m i n:Nat),m+i=F8->m<n->JW nxt t f n i hp>=(ww (tP (CD (ns.drop i) p) g),hp)by simpa using h F8 0 ŀ rfl hl
  intro m;induction m with
  |zero =>
    intro i n e c;obtain⟨n,rfl⟩:∃k,n=k+1:=EU (n-1);have:i=F8:=À
    subst this;have e1:=hn F8 đ;rw[dg2 OF[F8]?]at e1;rw[JW,IE,Co];rfl
  |succ m j =>
    intro i n e c;obtain⟨n,rfl⟩:∃k,n=k+1:=EU (n-1);have a:i<F8:=À
    have e1:=hn i À;rw[Bq,bz4]at e1;have hi:=j (i+1) n À À;rw[JW,IE];simp only[Option.map_some];rw[Qe (d ns[i]),Bf a];cases q:p ns[i]with
    |false=>rw[bY7 q];simpa using hi
    |true=>rw[bO6];simp only[if_true];rw[Qe (hf ns[i]),Qe hi];rfl
def BS(n:Nat)(hp:Hs)(i:Int):bO4 (n+1) bH6>=bH6:=rfl
def Wy(n:Nat)(hp:Hs)(b:Bool):bO4 (n+1) IU>=IU:=rfl
def BQ(n:Nat)(hp:Hs)(b:Str):bO4 (n+1) (Ü b)>=(Ü b):=rfl
def yS{α:rV}{f:α->ď α}:∀{xs:AU},Ps x xs (f x>=x)->xs.mapM f>=xs
  | [],_=>rfl
  |x::xs,h=>by rw[List.mapM_cons,h x Ê,yS λ y a=>cT3 y a];rfl
def BT(h:bO5 d>=d'):sH d hp>=(d',hp):=õ sH h
def vm(hx:bO5 x>=x')(d:bO5 y>=y')(a:œ (fO x'))(c:œ (fO y')):mO x y hp>=(cO2 x' y',hp):=by unfold mO;simp only[fO,Ba]at a c;rw[Qe (BT hx),Qe (BT d)];simp only[a.2,c.2,Bool.and_self,QI,if_true,C6];rfl
def Sb(i j:Int)(hp:Hs):mO bH6 ↥j hp>=(i==j,hp):=vm (BS 39 hp i) (BS 39 hp j) (Oc i) (Oc j)
def Qkv(a b:Ý)(hp:Hs):mO (opt a) E1 hp>=(FY a b,hp):=by
  have e:∀c:Ý,bO5 (opt c)>=(opt c):=λ c=>fI c
  have s:∀c:Ý,œ (fO (opt c)):=λ c=>fI c
  rw[vm (e a) (e b) (s a) (s b)];cases a with
  |none=>cases b<;>simp[opt,toP,PyData.eqv]
  |some i =>
    cases b with
    |none=>simp[opt,toP,PyData.eqv]
    |some j=>simp only[opt,toP,PyData.eqv,Option.some.injEq];congr 1
def YB(p:Key × DV)(r:h7)(j:Key):JM (p::r) j=bF2 oB j p.2 (JM r j):=by
 by_cases e:oB=j
 ·simp[JM,Bv,e]
 ·simp[JM,Bv,e]
def Qmz(a b:h7)(j:Key):JM (a++b) j=match JM a j with
    |some d=>í d
    |none=>JM b j:=by
  induction a with
  |nil=>rfl
  |cons p r c =>
    rw[List.cons_append,YB,YB];split
    . rfl
    . exact c
def Qmy(kvs:h7)(k:Key):cG3 c c.1 k=tm bK4:=by
  induction kvs with
  |nil=>rfl
  |cons p r a=>rw[Cg,YB,a];by_cases e:oB=k<;>simp[e]
def QjF(kvs:h7)(k j:Key)(d:DV):JM (au8 (λ a=>CY a.1 k (a.1,d) a)) j=tT (CL j) x (CY j k d x):=by
  induction kvs with
  |nil=>rfl
  |cons p r c =>
    rw[A9,YB,YB,c];by_cases e:oB=k
    . rw[aY0]
      by_cases e2:oB=j
      . have:j=k:=e2▸e
        simp[e2,this]
      . simp[e2]
    . rw[ay0]
      by_cases e2:oB=j
      . have:¬ j=k:=e2▸e
        simp[e2,this]
      . simp[e2]
def RO(kvs:h7)(k j:Key)(d:DV):JM (aF7 k d) j=bF2 j k d (CL j):=by
  unfold X8;rw[Qmy];cases q:bK4 with
  |none =>
    rw[aE3,Qmz,YB];by_cases e:j=k
    . subst e;simp[q]
    . rw[ay0,Cw (Ł e)]
      cases CL j<;>rfl
  |some x =>
    rw[Cy (nv (bp5 (í x))),QjF];by_cases e:j=k
    . subst e;simp[q]
    . simp only[ay0]
      cases CL j<;>rfl
def DL(kvs:h7)(k:Key)(d:DV):⇑(aF7 k d)<=dQ+1:=aF8 X8
def Zb{n:Nat}{hp:Hs}(h:cN9>=o):ZK n hp>=(o,hp):=ŵ ZK h
def QlO{n:Nat}{kvs:h7}{hp:Hs}(h:aC5 n kvs)(a:mR i>=k)(hl:dQ<ŀ):rZ ↑n i d hp>=((),an3 n (aF7 k d)):=by
 show(LM >>= _) hp=_;rw[bt6];have e1:KK i hp>=(k,hp):=õ KK a
 have e2:QI (LU dQ lim) hp>=((),hp):=ÿ (PY (LU dQ lim) ce9)
 show(KK i >>= λ k=>cz (dQ<lim) >>= λ_=>Ub n (si (aF7 k d))) hp=_;rw[IE,cf9];rfl
def MV{f:aG}{g:iR}(h:aE>=(d,hp1))(h':g d env hp1>=(env',hp2)):xa f g env hp>=(Ŭ env',hp2):=bE xa ag4 (Qe h')
def ZT{α:rV}{m:M α}{x:α}(h:m=bZ8)(hp:Hs):m hp>=(x,hp):=ÿ h
def Wn{c:cg}{b:Bool}(h:aS3>=(b,hp1)):aN c f g env hp=π b (ο hp1) cF2:=aj1 aN b
def QS{f:aG}{b:Bool}(h:aE>=(IU,hp1)):bz6 f env>=(b,hp1):=hL eB h
def Qk{g:Rt}{f a:aG}(h:aE>=(x,hp1))(h':a env hp1>=(y,hp2))(c:g x y hp2>=(d,hp3)):Qh g f a env hp>=(d,hp3):=aP6 Qh ag4 (Qe h') c
def QiE{F:Ee}{f a:aG}(h:aE>=(x,hp1))(h':a env hp1>=(y,hp2))(c:F [x,y] hp2>=(d,hp3)):QA 2 F (Ś f a) env hp>=(d,hp3):=by
 have e0:Qc a Qj env hp1>=([y],hp2):=hL Qc h'
 have:Qc f (Ò a) env hp>=([x,y],hp2):=by unfold Qc at e0 ⊢;rw[ag4,Qe e0];rfl
 unfold QA;rw[EF];exact c
def Qv{f:aG}(h:aE>=(d,hp1)):QR f env hp>=((.rt d,env),hp1):=hL QR h
def Ze{f g:aF}(h:aE>=((.rt d,aH),hp1)):Qr f g env hp>=((.rt d,aH),hp1):=hL Qr h
def ZH{f:aG}(h:aE>=(d,hp1)):ZV f env hp>=(m4,hp1):=hL ZV h
def Qu{n:Nat}{a:aF}{ds:Û}(h:a (df3++ö (n-ã) ļ) hp>=((.rt d,env),hp1)):Zi n a ds hp>=(d,hp1):=hL Zi h
def ZR{c:cg}{b:Bool}(h:aS3>=(b,hp1)):Xn c env hp>=(i7 b,hp1):=hL Xn h
def Sk{f g:aG}{b:Bool}(h:aE>=(IU,hp1)):v0 f g env hp=π b cF2 (í (Θ,hp1)):=aj1 v0 b
abbrev cA(K:Aa)(c:Str)(C:Addr):ç:=ε K c>=bW1
def cA.uniq{K:Aa}{c:Str}{C C':Addr}(h:cA K c C)(h':cA K c C'):C=C':=by have e:=h.symm.trans h';cases e;rfl
structure Yw(K:Aa)(c f:Str):ç where
 ex:∃C,cA K c C/\di3/\bM9 K f
structure Xa(P:Program)(w:World)(K:Aa)(mg:C9)(O8:Heap)(c m:Str)(k n:Nat)(F:Ee):ç where
 ex:∃(C f:Addr)(fd:FuncData)(ps:ő),cA K c C/\di3/\p7 K C m f/\xQ P w K mg O8 CX0 k f fd ps (lC K n F)/\ct9 K []
structure p8(P:Program)(w:World)(K:Aa)(mg:C9)(O8:Heap)(c:Str)(k n:Nat)(F:Ee):ç where
 ex:∃(C f:Addr)(fd:FuncData)(ps:ő),cA K c C/\mg c>=↑C/\Mk K C f/\xQ P w K mg O8 CX0 k f fd ps (lC K n F)/\ct9 K []
section
variable{K:Aa}{ρ:Ed}{B:Ec}{H:Hp}{hp:Hs}
abbrev cG(K:Aa)(ρ:Ed)(B:Ec)(H:Hp):AX->θ dc3:=Paired λ p q=>oB=q.1/\nz p.2 q.2
def MZ:∀{fs:AX}{xs:dc3},nj μ=ad3->i4 (fs.map iX) (nj iX)->cG K ρ B H fs xs
  | [],[],_,_=>lS
  | [],_::_,e,_=>iS e
  |_::_,[],e,_=>iS e
  |p::fs,q::xs,e,r=>by simp only[A9,List.cons.injEq]at e;simp only[A9]at r;unfold au at r;obtain⟨x,t,e2,h1,h2⟩:=r;simp only[List.cons.injEq]at e2;obtain⟨rfl,rfl⟩:=e2;exact ϗ (İ e.1.symm h1) (MZ e.2 h2)
def cG.to{fs:AX}{xs:dc3}(r:cG K ρ B H fs xs):nj μ=ad3/\i4 (fs.map iX) (nj iX):=by
 induction r with
 |nil=>exact ā au.nil
 |cons h _ a=>exact İ (fA a.1 h.1) (Ë (ai8 h.2 a.2))
def cG.look{fs:AX}{xs:dc3}(r:cG K ρ B H fs xs)(f:Str):(Ν cl6/\Ν (cg1 f))∨∃d v,cl6>=d/\cg1 f>=v/\cm7:=by
  induction r with
  |nil=>exact cB9
  |@cons p q _ _ h _ c =>
    obtain⟨a,i⟩:=p;obtain⟨q1,j⟩:=q;obtain⟨h1,h2⟩:=h;have h1:a=q1:=h1;subst h1;cases e:f==a with
    |true=>exact Ĉ ⟨i,j,fA List.lookup e,fA List.lookup e,h2⟩
    |false=>simpa [List.lookup,e]using c
def Xs(f:Str)(d:DV):AX->AX
 | []=>[(f,d)]
 | (g,x)::r=>CY g f ((g,d)::r) ((g,x)::Xs f d r)
def cG.put(r:cG K ρ B H fs xs)(f:Str)(rd:cm7):cG K ρ B H (Xs f d fs) (zS f v xs):=by
  induction r with
  |nil=>exact ck8 rd lS
  |@cons p q _ _ h t c =>
    obtain⟨a,i⟩:=p;obtain⟨q1,j⟩:=q;obtain⟨h1,h2⟩:=h;have h1:a=q1:=h1;subst h1;unfold Xs zS;by_cases e:a=f
    . rw[aY0,aY0];exact ck8 rd t
    . rw[ay0,ay0];exact ck8 h2 c
def cG.len{fs:AX}{xs:dc3}(r:cG K ρ B H fs xs):aJ8=ŝ:=ad1
def cG.gs(g:bz1)(r:cG K ρ B H fs xs):cG K ρ' B' H' fs xs:=L2.Paired.mapP r λ_ _ h=>İ h.1 (aA.gs g _ _ h.2)
def bH.ins{a:Addr}{c:Str}(h:bH K ρ B H a be4):∃C d xs,cA K c C/\IY>=(cd0 d xs)/\cG K ρ B H fs xs:=by obtain⟨C,d,xs,j,e,i,o⟩:=h;exact⟨C,d,xs,j,e,MZ i o⟩
def cG.iI{a C d:Addr}{c:Str}(i:cA K c C)(r:cG K ρ B H fs xs)(e:IY>=(cd0 d xs)):bH K ρ B H a be4:=⟨C,d,xs,i,e,r.to.1,r.to.2⟩
def QmK{n:Nat}{a C d:Addr}{c:Str}(W:bF0)(i:ρ[n]?>=a)(j:cA K c C)(e:IY>=(cd0 d xs))(r:cG K ρ B H fs' xs'):wa K B H ρ B (cd3 d xs')/\rX K B (ϙ n (ŭ c fs')) (cd3 d xs'):=by have g:wa K B H ρ B (cd3 d xs'):=Gr.fB i e;exact İ g (W.fB (o':=cd0 d xs') (v:=ŭ c fs') i e ((r.gs cW0).iI j Q9))
#where
def pC{α:rV}(c:Str)(x:DV)(k:d9 (AX->M α)):M α:=match x with
  |.ref n=>do
    match <- LM with
    |.ins a fs=>do cz (a=c);k n fs
    |_=>failure
  |_=>failure
def UO{α:rV}{c:Str}{x:DV}{d:α}{k:d9 (AX->M α)}{hp hp':Hs}(h:cN8 (pC c x k hp)):∃n fs,x=O0/\cN9>=be4/\cN8 (k n fs hp):=by
  cases x with
  |ref n =>
    obtain⟨o,hp1,e1,e2⟩:=Qg (é (cN8 ((LM >>= λ o=>(match o with|.ins a fs=>do cz (a=c);k n fs|_=>failure:M α)) hp)) h);obtain⟨e3,rfl⟩:=bb2;cases o with
    |ins a fs=>obtain⟨_,i,e,e5⟩:=Fa;obtain⟨hl,rfl⟩:=QJ e;obtain rfl:=bl8;exact t6 n fs e3 e5
    |lst _=>cases e2
    |aL _=>cases e2
  |non=>cases h
  |bl _=>cases h
  |int _=>cases h
  |str _=>cases h
  |tup _=>cases h
  |lst _=>cases h
def sG(c f:Str)(x:DV):ġ:=pC c x λ_ fs=>uR cl6
def rW(c f:Str)(x d:DV):bN4:=pC c x λ n fs=>do cz (aJ8<fE);Ub n (dc9 c f d fs)
def QN(c f:Str)(g:aG):aG:=FP (do let x <- To;sG c f x)
def Zu(c f:Str)(a d:aG):aF:=FP (do let y <- d env;let x <- by2;rW c f x y;î m4)
def Gy(c f:Str)(e:Rt)(a d:aG):aF:=FP (do let x <- by2;let v <- sG c f x;let y <- d env;let z <- e v y;rW c f x z;î m4)
def xF:Rt
 |.int i,.int j=>Lu (i+j)
 |_,_=>failure
def QC(c m:Str)(n:Nat)(F:Ee)(a:aG)(fa:cB):aG:=λ env=>do
 let x <- by2
 pC c x λ_ fs=>QI (cM4).isNone
 let ds <- fa env
 cz (ã+1=n)
 F (x::ds)
def JY(c:Str)(n:Nat)(F:Ee)(fa:cB):aG:=λ env=>do
 let ds <- fa env
 cz (ã+1=n)
 let x <- XC (bD5 c)
 let r <- F (x::ds)
 match r with
 |.non=>bZ8
 |_=>failure
section
variable{X:Cx}{o e value:Expr}{c f m:Str}{pos pos' tpos apos:Pos}{fo fv:aG}
def RY{K:Aa}{H:Hp}{hp hp':Hs}{v:V}(W:bF0)(r:nz x v)(h:cN8 (sG c f x hp)):hp=hp'/\∃a C j xs u,v=ν/\cA K c C/\IY>=(cd0 j xs)/\cg1 f>=u/\Pf u:=by
 obtain⟨n,fs,rfl,e1,e2⟩:=UO h;obtain⟨hl,rfl⟩:=KW e2;obtain⟨a,rfl,i,F⟩:=CJ r e1;obtain⟨C,j,xs,y,e,E⟩:=F.ins;rcases E.look f with ⟨z,_⟩|⟨d',u,z,I,G⟩
 ·rw[hl]at z;cases z
 ·rw[hl]at z;cases z;exact⟨rfl,a,C,j,xs,u,rfl,y,e,I,G⟩
def RA{K:Aa}{H:Hp}{v y:V}{z:Unit}(W:bF0)(r:nz x v)(rd:Pf y)(h:Pp (rW c f x d hp) z):∃a C j xs,v=ν/\cA K c C/\IY>=(cd0 j xs)/\ŝ<fE/\wa K B H ρ B (cd3 j (zS f y xs))/\rX K B hp' (cd3 j (zS f y xs)):=by obtain⟨n,fs,rfl,e1,e2⟩:=UO h;obtain⟨_,hp1,e3,G⟩:=Fa;obtain⟨hl,rfl⟩:=cW4;cases G;obtain⟨a,rfl,i,I⟩:=CJ r e1;obtain⟨C,j,xs,u,e,E⟩:=I.ins;obtain⟨g,F⟩:=QmK W i u e (E.put f rd);exact⟨a,C,j,xs,rfl,u,e,ð E.len bl8,g,F⟩
def QH(z:Yw X.K c f)(E:ϟ o fo)(y:Lc o f aY8=aY8:=by rfl):ϟ (ϒ o f pos) (QN c f fo) :=
 Pz (QqT E y) (λ σ H Q i=>by obtain⟨Z,env,ρ,B,hp,d,hp',S,e,k⟩:=i;obtain⟨x,hp1,e1,e2⟩:=Ū;refine cN7 I;obtain⟨rfl,a,C,j,xs,u,rfl,G,r,hl,J⟩:=RY S1.wo I e2;obtain⟨L,F,cl,na⟩:=z.ex;obtain rfl:=G.uniq F;exact⟨a,C,j,xs,u,rfl,r,cl,na,hl,ay9 u B1 J⟩)
def Zs(E:Yw X.K c f)(F:ϟ o fo)(hv:ϟ value fv)(J:ax2 value (í (ϒ o f pos'))=TH:=by rfl):DS X (di8 [ϒ o f pos'] value) (Zu c f fo fv) :=
 L2.PS.imp (Qra F hv J) λ D σ H i=>by obtain⟨Z,env,ρ,B,hp,fl,d,hp',S,e,k⟩:=i;obtain⟨y,hp1,e1,e⟩:=Ū;obtain⟨x,G,e2,e⟩:=Ū;obtain⟨z,I,e3,e⟩:=Ū;obtain⟨q,rfl⟩:=CH;cases q;refine cN5 u P (aF1 e2 (λ v ρ2 B2 H2 g2 S2 Q=>?_));obtain⟨a,C,j,xs,rfl,O,r,hl,g,W⟩:=RA S2.wo Q (ϸ g2 _ _ P) e3;obtain⟨U,L,cl,na⟩:=E.ex;obtain rfl:=O.uniq L;exact⟨a,C,j,xs,rfl,r,cl,na,hl,k σ ρ2 B2 _ ((sh g).gs S.wo.rb) (S2.grow g W)⟩
def yK(hk:Yw X.K c f)(ho:ϟ o fo)(hv:ϟ value fv):DS X (.AugAssign (ϒ o f tpos) .Add value pos) (Gy c f xF fo fv) :=
 L2.PS.imp (Qjg ho hv Qqc) λ D σ H P=>by
  obtain⟨Z,env,ρ,B,hp,fl,I,hp',S,e,k⟩:=P;obtain⟨x,hp1,e1,e⟩:=Ū;obtain⟨v,a8,e2,e⟩:=Ū;obtain⟨y,a9,e3,e⟩:=Ū;obtain⟨z,cO,d,e⟩:=Ū;obtain⟨_,lR,e5,e⟩:=Ū;obtain⟨q,rfl⟩:=CH;cases q;refine cN5 vx L ?_;obtain⟨rfl,a,C,Q,xs,u,rfl,J,U,hl,ru⟩:=RY S1.wo L e2;obtain⟨C',m7,cl,na⟩:=hk.ex;obtain rfl:=J.uniq m7;refine⟨a,C,Q,xs,u,rfl,U,cl,na,hl,aF1 e3 (λ w ρ2 B2 H2 g2 S2 r2=>?_)⟩;have O:=ϸ g2 _ _ ru;have F:=ϸ g2 _ _ L;unfold xF at d;split at d
  ·obtain⟨rfl,rfl⟩:=Qm d;refine⟨_,_,O.bf,r2.bf,?_⟩;obtain⟨a',C2,i,G,q1,E,j,r,g,W⟩:=RA S2.wo F Js e5;cases q1;obtain rfl:=E.uniq J;exact⟨i,G,j,r,k σ ρ2 B2 _ ((sh g).gs S.wo.rb) (S2.grow g W)⟩
  ·cases d
def Qk6{C:Addr}{n:Nat}{F:Ee}(P:cA X.K c C)(h:tD X.K (QC c m n F fo fa) σ H Q):Lr C m (lC X.K n F) [] E0 (tD X.K fo) (fW X.K fa) σ H Q:=by
 obtain⟨Z,env,ρ,B,hp,d,hp',S,e,k⟩:=h;obtain⟨x,hp1,e1,e⟩:=Ū;obtain⟨_,L,e2,e⟩:=Ū;obtain⟨ds,j,e3,e⟩:=Ū;obtain⟨_,cO,G,J⟩:=Ū;obtain⟨hl,rfl⟩:=QJ G;refine cN7 r;obtain⟨i,fs,rfl,w1,w2⟩:=UO e2;obtain⟨hn,rfl⟩:=QJ w2;obtain⟨a,rfl,_,ro⟩:=cX2 r w1;obtain⟨C',E,xs,O,I,U⟩:=ro.ins;obtain rfl:=O.uniq P;have hx:Ν (cg1 m):=by
  rcases U.look m with ⟨_,z⟩|⟨_,_,z,_,_⟩
  ·exact z
  ·rw[z]at hn;cases hn
 refine bx1 a E xs I hx (fW.run S1 e3 λ vs ρ2 y H2 g2 S2 u=>?_);refine⟨?_,ρ2,y,j,_,d,hp',S2.wo,?_,J,wv ah8⟩
 ·rw[Bo,A8,<- ⇑u];exact bl8
 ·rw[Bo];exact ai8 (ϸ g2 _ _ r) u
def Q7{k j n:Nat}{F:Ee}{es:Α}{pl:aR1}(h:Xa X.prog X.w X.K X.mg X.O8 c m j n F)(v:bg3)(i:j<=k)(hx:zI CX0 X E0)(u:ϟ o fo)(ha:DA X (e::es) fa)
  (hst:cB4=cs4::bo6:=by rfl) (hpl:ć ((at0).any μ):=by rfl)
  (ht:ä (bi2 o m (e::es) [])=(do
   let ov <- aY8
   ad4
   let (f,first) <- OE [ov] (af8 ov m)
   aY1 pos f first (NS (e::es)) pos []):=by rfl):ϟ (bi2 o m (e::es) []) (QC c m n F fo fa):=by
 obtain⟨C,g,fd,ps,x,cl,r,a,d⟩:=h.ex;exact Pz (Qof (pl:=pl) u cl r a (v.mono i) d lS hx ha hst hpl ht) (λ σ H Q q=>Qk6 x q)
def ZM{k j n:Nat}{F:Ee}{pl:aR1}(h:Xa X.prog X.w X.K X.mg X.O8 c m j n F)(hr:bg3)(O:j<=k)(hx:zI CX0 X E0)(U:ϟ o fo)
  (ht:ä (bi2 o m [] [])=(do
   let ov <- aY8
   ad4
   let (f,first) <- OE [ov] (af8 ov m)
   aY1 pos f first (NS []) pos []):=by rfl):ϟ (bi2 o m [] []) (gv c m n F fo):=by
 obtain⟨C,g,fd,ps,nc,cl,P,y,L⟩:=h.ex;refine Pz (Qlw (pl:=pl) U cl P y (hr.mono O) L lS hx ht) (pM σ H Q q);obtain⟨Z,env,ρ,B,hp,d,hp',S,e,k⟩:=q;obtain⟨x,hp1,e1,e⟩:=Ū;obtain⟨_,a8,e2,e⟩:=Ū;obtain⟨ds,a9,e3,e⟩:=Ū;obtain⟨_,cO,G,J⟩:=Ū;obtain⟨hl,rfl⟩:=QJ G;obtain⟨rfl,rfl⟩:=Qm e3;refine LE S v u r ?_;obtain⟨i,fs,rfl,w1,w2⟩:=UO e2;obtain⟨hn,rfl⟩:=QJ w2;obtain⟨a,rfl,_,ro⟩:=cX2 r w1;obtain⟨C',E,xs,m7,I,rf⟩:=ro.ins;obtain rfl:=m7.uniq nc;have hx:Ν (cg1 m):=by
  rcases rf.look m with ⟨_,z⟩|⟨_,_,z,_,_⟩
  ·exact z
  ·rw[z]at hn;cases hn
 exact⟨a,E,xs,rfl,I,hx,bl8,ρ1,u,hp1,_,d,hp',S1.wo,ai8 r au.nil,J,bU1⟩
def Qjq{k:Nat}{C g:Addr}{d:C8}{σ:St}{H:Hp}{s:Shared}{Q:VK}{us:Đ}{vs:η}(M:Mk X.K C g)(F:xQ X.prog X.w X.K X.mg X.O8 CX0 k g fd ps sp)(P:Room (k+1) X.A)(O:ct9 X.K [])
    (hx:zI CX0 X E0) (I:cC3 d) (r:gd vs)
    (h:∀x a,Ξ x->Ξ a->a≠x->Ν (FT x)->sp (æ x::vs) (cd1 cH1 x a []) (λ v H2=>v=Ę/\cw4 x H2) E0) :
    cP3 (call ↑C us) X d Q s:=by
  have kf:Ν (FT ET):=by
    cases q:FT ET with
    |none=>rfl
    |some o=>exact Ĝ (Ao (I.kIn _ _ q)) (Nat.not_lt.mpr sw)
  have hq:=h _ _ (m5 sw) bf3 (Bc (Cn _)) kf;have J:=Inv.made (C:=C) I;have j:Vals (V.ref ET::vs) (Ϗ ET::us):=ϗ rfl r;have U:⇑((Ϗ ET::us)++[])=a0:=aL2 Bo Tl (F.len _ _ _ _ hq)
  have i:=O _ (Ϗ ET::us) J.kIn U;rw[Bo]at i;refine wpAny_call (Qk4 (f:=g) I.kIn M.makes M.init (bk7 M.fn) (by3 (F.run _ X.stack _ _ (FI (Ϗ ET::us)) _ _ _ E0 (P.make C us []) (J.env0.make C us []) i j hq) q s' z));cases q with
  |error e=>exact hx d σ _ _ e s' J z
  |ok L =>
    cases L with
    |ret u=>obtain⟨v,y,E,rv,G,Z⟩:=J.after z;subst G;exact İ rv (dr (V.ref ET) y E Z)
    |next=>exact z.elim
    |brk=>exact z.elim
    |cont=>exact z.elim
def Qk3{C:Addr}{n:Nat}{F:Ee}{K:Aa}{hp hp':Hs}{ds:Û}{d:DV}{Q:VK}(O:cA K c C)(hl:ã+1=n)(W:bF0)(r:mx vs)
  (e:cN8 ((do let x <- XC (bD5 c);let r <- F (x::ds);match r with|.non=>bZ8|_=>failure:ġ) hp)) (k:iM K ρ B H d hp' Q) :
  ∀x a,Ξ x->Ξ a->a≠x->LA x->lC K n F (æ x::vs) (cd1 cH1 x a []) (λ v H2=>v=Ę/\cw4 x H2) E0:=by
 intro x a hx j ne kf;have e1:Pp (F (bp0::ds) (hp++[bD5 c])) Ę/\d=bp0:=by
  obtain⟨y,hp1,G,I⟩:=Ū;cases G;obtain⟨y,L,J,i⟩:=Qg I;cases y with
  |non=>obtain⟨rfl,rfl⟩:=Qm i;exact bT J
  |bl _=>cases i
  |int _=>cases i
  |str _=>cases i
  |tup _=>cases i
  |lst _=>cases i
  |ref _=>cases i
 obtain⟨e1,rfl⟩:=e1;have u:Ν (upd H a (.own x) x):=fP (Ł ne) hx
 have g0:wa K B H ρ B cH1:=aq4 j;have g1:wa K B cH1 (ρ++[x]) (jO B x) (cd1 cH1 x a []):=Gr.dJ u kf;have z:aP K (ρ++[x]) (jO B x) (hp++[bD5 c]) (cd1 cH1 x a []):=(W.laid j).dJ u kf (cG.iI O lS Q9);have E:aA K (ρ++[x]) (jO B x) (cd1 cH1 x a []) ↑hp.length ↑x:=ľ aA (dc4 x W.len)
 refine⟨?_,ρ++[x],jO B x,hp++[bD5 c],bp0::ds,Ę,hp',z,ai8 E (aA1 W.rb cg0 _ r),e1,λ v ρ' B' H' g' W' P=>?_⟩
 ·rw[A8,<- lP];exact hl
 ·exact İ P.fG (k _ ρ' B' H' (à cg0 g') W' (aA.grow z.rb g' _ _ E))
def ze{k j n:Nat}{F:Ee}{es:Α}{p:Pos}(h:p8 X.prog X.w X.K X.mg X.O8 c j n F)(J:bg3)(z:j+1<=k)(hx:zI CX0 X E0)(ha:DA X (e::es) fa)(y:ND c:=by rfl)
  (hdb:aw9 c:=by decide) (he:cB4=cs4::bo6:=by rfl) (hpl:ć ((at0).any μ):=by rfl):cs6 c (e::es) (JY c n F fa):=by
 obtain⟨C,g,fd,ps,L,E,M,a,x⟩:=h.ex;intro u s σ H Q I q;obtain⟨Z,env,ρ,B,hp,d,hp',S,e,k⟩:=q;obtain⟨ds,hp1,e1,e2⟩:=Ū;obtain⟨_,G,e3,v⟩:=Fa;obtain⟨hl,rfl⟩:=cW4;refine Hj (UH I y E ?_ hdb);refine PySem.W.callWith_K (h₀:=X.O8) I.ok.mod.kin M.kp (io (ha pos u s σ H _ I (au9 S (rr vs B1 i g1 S1 O (Qk3 (Q:=Q) L bl8 S1.wo O v bU1)))) us P vs i I1 r q (CA I1.kIn)) he hpl;exact Qjq M a (J.mono z) x hx I1 r q
#where
def Wo{P:Program}{w:World}{K:Aa}{mg:C9}{O8:Heap}{x a:Str}{g:Addr}{k:Nat}{i:aF}(F:Fun K x a stm g fd)(u:Č N ps stm)
  (h:∀(c:Value)(A:Around)(outer:IR)(s:Shared)(H:Hp)(E:XK),so k (ř a Hr g c)->iQ (GZ CX0 P w K mg O8 N a Hr g c A outer s H E).nox ay1 i) :
  xQ P w K mg O8 CX0 (k+1) g fd ps (lC K a0 (cJ9 i)):=by
 refine F.ok u (λ vs H Q E h=>h.1) (λ c A outer s H vs Q E y sp=>?_);obtain⟨hn,ρ,B,hp,ds,d,hp',W,r,e,k⟩:=sp;obtain⟨⟨o,j⟩,hp1,e1,e2⟩:=Ū;refine⟨_,h c A outer s H E y,⟨ρ,B,H⟩,_,ρ,B,hp,o,j,hp1,K5 W r,e1,bx5 σ' ρ' B' H' g' S'⟩;cases o with
 |nx=>obtain⟨rfl,rfl⟩:=bd;exact k Ę ρ' B' H' S'.gr S'.wo yU
 |rt x=>obtain⟨rfl,rfl⟩:=bd;exact λ v z=>k v ρ' B' H' S'.gr S'.wo z
 |bk=>cases e2
 |ct=>cases e2
def Qk5{P:Program}{w:World}{K:Aa}{mg:C9}{O8:Heap}{c m a:Str}{C g:Addr}{k:Nat}{e:aF}(r:cA K c C)(cl:di3)(o:p7 K C m g)(F:Fun K m a stm g fd)(j:Č N ps stm)
  (hb:∀(kV i u:Value)(an:OL)(d ct:Value)(us:Đ),⇑us=a0->ap7 (PySem.W.fnOf m a (Xv stm) ay1 Hr ey kV i u an d ct) us=î D1)
  (h:∀(d:Value)(A:Around)(outer:IR)(s:Shared)(H:Hp)(E:XK),so k (ř a Hr g d)->iQ (GZ CX0 P w K mg O8 N a Hr g d A outer s H E).nox ay1 e) :
  My P w K c m (k+1) a0 (cJ9 e):=⟨C,g,fd,ps,r,cl,o,Wo F j h,F.binds hb⟩
def QkK{P:Program}{w:World}{K:Aa}{mg:C9}{O8:Heap}{c a:Str}{C g:Addr}{k:Nat}{e:aF}(u:cA K c C)(o:mg c>=↑C)(r:Mk K C g)(F:Fun K ac6 a stm g fd)(j:Č N ps stm)
  (hb:∀(kV i v:Value) (an:OL) (d ct:Value) (us:Đ),⇑us=a0->ap7 (PySem.W.fnOf ac6 a (Xv stm) ay1 Hr ey kV i v an d ct) us=î D1)
  (h:∀(d:Value)(A:Around)(outer:IR)(s:Shared)(H:Hp)(E:XK),so k (ř a Hr g d)->iQ (GZ CX0 P w K mg O8 N a Hr g d A outer s H E).nox ay1 e) :
  p8 P w K mg O8 c (k+1) a0 (cJ9 e):=⟨C,g,fd,ps,u,o,r,Wo F j h,F.binds hb⟩
section
variable{X:Cx}
def xy:aF:=λ_=>failure
def YH{st:Stmt}:DS X st xy:=L2.PS.imp QlH λ D σ H ⟨Z,env,ρ,B,hp,fl,env',hp',S,e,k⟩=>ē e
def oV(i:Nat)(c:Rt)(a:aG):aF:=FP (aS8 v (Qb i env) y by2 z (c v y) (bd8 (Ta z)))
def Qm5{i:Nat}{j:Rt}{g:Int->Int->Int}{D:vA}(o:∀v y z hp hp',Pp (j v y hp) z->∃a b,v=Ì a/\y=Ì b/\z=Ì (g a b)/\hp=hp')(h:mV X.K (oV i j fe) D σ H):R5 i (tD X.K fe) (ipI g) D σ H:=by
  obtain⟨Z,env,ρ,B,hp,G,c,hp',S,e,k⟩:=h;obtain⟨v,hp1,e1,e⟩:=Ū;obtain⟨y,r,e2,e⟩:=Ū;obtain⟨z,u,e3,e⟩:=Ū;obtain⟨q,rfl⟩:=CH;cases q;obtain⟨a,b,rfl,rfl,rfl,rfl⟩:=o _ _ _ _ _ e3;have hv:bh9 (Ô a)/\hp=hp1:=by
    unfold Qb at e1;cases q:bJ6 with
    |none=>rw[q]at e1;cases e1
    |some F =>
      rw[q]at e1;cases F with
      |val d=>obtain⟨h1,h2⟩:=Qm e1;exact İ (fN h1) h2
      |un=>cases e1
      |acc _=>cases e1
  obtain⟨hv,rfl⟩:=hv;obtain⟨x,hx,E⟩:=S.slot i _ hv;refine⟨x,hx,tD.run S e2 (rr w B1 H1 g1 S1 C ⟨a,b,E.bf,C.bf,k _ ρ1 B1 H1 fy (S1.set Js)⟩)⟩
def Qii{v y z:DV}{hp hp':Hs}(h:Pp (xF v y hp) z):∃a b,v=Ì a/\y=Ì b/\z=Ì (a+b)/\hp=hp':=by
 unfold xF at h;split at h
 ·obtain⟨rfl,rfl⟩:=cJ8;exact NW _ _ rfl rfl rfl
 ·cases h
def Kz(i:Nat){x:Str}{pos a:Pos}(c:X.N.Nodup)(d:ϟ e fe)(hi:au1:=by rfl)(hx:fT x:=by first|exact al3|exact ba8)(hf:x3 x∨cI2:=by first|exact ĭ|exact ot|assumption):DS X (.AugAssign (sF a) .Add e pos) (oV i xF fe) :=
 L2.PS.imp (Qq9 c hi hx d Qqe hf) λ D σ H q=>Qm5 (λ_ _ _ _ _ h=>Qii h) q
#where
def DD{α β:rV}(m:M α)(k:α->M β)(hp:Hs):(m >>= k) hp=(m hp).bind λ p=>k oB p.2:=by
 show(StateT.bind m k hp)=_;unfold StateT.bind;cases m hp with
 |none=>rfl
 |some p=>obtain⟨a,h⟩:=p;rfl
def DC{α:rV}(a:α)(hp:Hs):(î a:M α) hp>=(a,hp):=rfl
def JZ(hp:Hs)(k:Nat)(X:OV)(h:bp5 (PK k)):(ϙ k X)[k]?>=X:=by
 have:k<eI:=by
  rcases Be k eI with q|q
  ·exact q
  ·rw[Cj q]at h;cases h
 rw[As this]
def Za(hp:Hs)(k n:Nat)(X:OV)(h:k≠n):(ϙ k X)[n]?=cN9:=Ak h
mutual
def bU(K:Aa):Rq (θ V)
 |.non,v=>v=Ę
 |.bl b,v=>v=IU
 |.int i,v=>v=dz
 |.str x,v=>v=ϧ
 |.tup ds,v=>∃(a:Addr) (o:Obj) (c:ŋ) (n:Nat) (xs:η),v=ν/\δ a>=o/\o.cls=aw0 /\ o.data=.seq c n/\cC5/\bi3/\bZ K ds xs
 |_,_=>False
def bZ(K:Aa):Û->bS8
 | [],xs=>xs=[]
 |d::ds,xs=>∃x r,xs=x::r/\bU K d x/\bZ K ds r
end
mutual
def bU.rep{K:Aa}{B:Ec}(e:∀a,B a->LA a):∀(d:DV)(v:V),bU K d v->cm7
  |.non,_,h=>wA bU aA h
  |.bl _,_,h=>wA bU aA h
  |.int _,_,h=>wA bU aA h
  |.str _,_,h=>wA bU aA h
  |.lst _,_,h=>cy bU h h.elim
  |.ref _,_,h=>cy bU h h.elim
  |.tup ds,_,h=>by unfold bU at h;unfold aA;obtain⟨a,o,c,n,xs,rfl,h1,h2,h3,h4,h5,i⟩:=h;exact⟨a,xs,rfl,λ z=>ı (e a z) h1 h1,Ĉ ⟨o,c,n,h1,h2,h3,h4,h5⟩,bZ.rep e ds xs i⟩
def bZ.rep{K:Aa}{B:Ec}(c:∀a,B a->LA a):∀(ds:Û)(xs:η),bZ K ds xs->sT
  | [],_,h=>wA bZ au h
  |d::ds,_,h=>by unfold bZ at h;unfold au;obtain⟨x,r,e,h1,h2⟩:=h;exact⟨x,r,e,bU.rep c d x h1,bZ.rep c ds r h2⟩
end
def M6{K:Aa}{a:Addr}{od:OL}{c:ŋ}{n:Nat}{e:ap1}(h:δ a>=⟨aw0, od,.seq c n,e⟩)(d:cC5)(hv:bi3)(hl:bZ K ds xs):bU K ny ş:=ľ bU ⟨a,_,c,n,xs,rfl,h,rfl,rfl,d,hv,hl⟩
def WM{K:Aa}:bU K Ę Ę:=Ϙ bU
def Qqq{K:Aa}{i:Int}:bU K bH6 bH6:=Ϙ bU
def Nx{K:Aa}:bZ K [] []:=Ϙ bZ
def yn{K:Aa}{d:DV}{x:V}(h:bU K d x)(h':bZ K ds r):bZ K (d::ds) (x::r):=ľ bZ (t6 x r h h')
def Qnh{X:Cx}{x:Str}{a:Addr}{pos:Pos}(d:ND x)(j:X.mg x>=ş)(i:bU X.K ny ş)(hd:aC8:=by decide):ϟ Ql (eC ny) :=
 (HG (v:=ν) d j rfl hd).imp λ σ H Q c=>by obtain⟨Z,env,ρ,B,hp,d',hp',S,e,k⟩:=c;obtain⟨rfl,rfl⟩:=CH;exact LZ S.wo (bU.rep S.wo.bk _ _ i)
def MG{b:bV2}{d:DV}(h:b d env hp>=(Ŭ aH,hp1)):jU b (d::ds) env hp=jU b ds aH hp1:=ϓ jU ag4
def KD(hp:Hs)(x:OV)(t:Hs):(hp++x::t)[eI]?>=x:=Ê
def Fy(hp:Hs)(x y:OV)(t:Hs):Y2 (hp++x::t) eI y=hp++y::t:=Ϝ (du _ đ)
def Ol{hp:Hs}{n:Nat}(h:cN9>=x):ϙ n x=hp:=wS hl rfl (Ac.mp h) (List.set_getElem_self hl)
def N8{n i:Nat}{d:DV}(h:Ϥ (ZL 0 n) d):i<n/\d=Ć i:=wS h1 h2 (gh h) (İ h1 (Ϝ h2))
def Gd{n:Nat}(h:bj2 n):œ (zT iH):=Qmh À À
def Mz{i:Int}(h:0<=i):∃j:Nat,i=j:=EU i.toNat
def QnK{n i:Nat}(h:i<n):ixN n LT>=i:=by unfold ixN;rw[aE2,aE2];simp
def xb{f:lF}{g:iR}{r:cS1 × Hs}(h:aE>=(Ff,hp1))(h':yf Ff (ak7 d (g d env) cX7) ŀ 0 env hp1>=r):Y6 f g body env hp>=r:=Ϭ Y6 ag4 h'
def qw{f:iY}{g:iR}{r:cS1 × Hs}(h:aE>=(ds,hp1))(h':jU (ak7 d (g d env) cX7) ds env hp1>=r):nO f g body env hp>=r:=Ϭ nO ag4 h'
def QoE{m:Nat}(h:bj2 m)(hp:Hs):rY [Ć m] hp>=(ZL 0 m,hp):=by
 have e:rY [Ć m]=î (ZL 0 (IL as1)):=by simp only[rY,Gd h,QI,if_true,C6]
 rw[e,Bu];rfl
def yP{f:cB}{m:Nat}(h:aE>=([Ć m],hp1))(a:bj2 m):nJ f env hp>=(ZL 0 m,hp1):=Ϭ nJ ag4 (QoE a hp1)
def qU{f:aG}(h:aE>=(hV,hp1)):cR f env hp>=(Ff,hp1):=hL cR h
section
variable{X:Cx}
def Xl(x:DV):cf
 | [y]=>CN x λ n ds=>CN y λ_ es=>do cz (ã+cR7<=lim);Ub n cE7;î Ę
 |_=>failure
def jg:MtR X "list.extend" (o9 X.K Xl):=by
 intro r s σ H x vs v us Q I rx rv h;obtain⟨ρ,B,hp,F,es,d,hp',W,C,E,e,k⟩:=h;unfold Xl at e;split at e
 ·rename_i y;obtain⟨n,ds,rfl,h0,e⟩:=uQ e;obtain⟨m,J,rfl,c,e⟩:=uQ e;obtain⟨_,hp1,e1,e2⟩:=Ū;obtain⟨hl,rfl⟩:=aF2;cases e2;obtain⟨a,rfl,z,xs,h1,j⟩:=CJ C h0;obtain⟨w,rfl,i⟩:=E.bY;obtain⟨b,rfl,G,ys,h2,o⟩:=CJ i c;obtain⟨g,u⟩:=kM W z h1 (aq2 j o);exact Qi2 r s σ H _ _ v us Q I rx rv ⟨a,b,xs,ys,rfl,rfl,h1,h2,ap9 Tl o (Bh bl8 uF),k _ ρ B _ g u yU⟩
 ·cases e
#where
#print D
namespace L2
open PySem PySem.Spec PyProof.Rows
abbrev YX(h:Heap)(z p o:Addr)(f:Value)(b:Bool):ç:=Ϧ z (ϳ cls (Nl nI) (cd7 #[f,bv4 b,bv4 false,Ϗ p,Ϗ o]))
structure ZU(h:Heap)(z p o i j a b:Addr)(n:Nat):ç where
 zz:∃f fl,YX h z p o f fl/\(f=ey∨∃T:Nat,f=rawInt T)
 pp:IsPair h p ↑i ↑j
 oo:∃x y,IsPair h o x y
 ii:h.IsTupleIter i a n
 jj:h.IsTupleIter j b n
section
variable{prog:Program}{w:World}{A:Around}{E:C7}{s:Shared}
def Qe7{a:Addr}{Q:ď Obj->ϲ}(h:Q (s.heap.get? a) s):rp w A (loadIfAlive a) Q E s:=by intro Γ p hΓ;unfold loadIfAlive;rw[Sem.wp_loadIfAlive];exact Cz (M:=aJ6) (A:=A) (E:=E) h Γ p hΓ
def WG{z p o:Addr}{f:Value}{a:Bool}{Q:cu5 ϲ}(zz:YX s.heap z p o f a)(hf:f=ey∨∃T:Nat,f=rawInt T)(q1:Q true s)(c:∀g,YX g z p o f true->bO1 z g->af4 g.objs.size->Q false cG8):
    rp w A (NH z) Q E s:=by
  unfold Builtin.SmallTypes.ownedTupleIsFree;rcases hf with rfl|⟨T,rfl⟩
  . exact bJ8 zz rfl x ey (Cz q1)
  . refine bJ8 zz rfl x (rawInt T) ?_
    show n5 _ (loadIfAlive (bF4 T)) _ _ _ _;refine Cv (Qe7 ?_);cases d:s.heap.get? (bF4 T) with
    |none=>exact Cz q1
    |some ob =>
      show n5 _ (aL6 z 1) _ _ _ _;refine bJ8 zz rfl x (x5 a) ?_;cases a with
      |true=>exact Cz (c _ zz (wx e e) rfl)
      |false=>show n5 _ (setField ↑z 1 ac5) _ _ _ _;exact Cv (mB zz (λ g z1 k1=>Cz (c g z1 k1.extBut k1.1)))
def WF{z p o i j a b:Addr}{n:Nat}{xs ys:ŋ}{Q:C7}(D:ZA z p o i j a b)(S:ZU s.heap z p o i j a b n)(ha:Λ a xs)(hb:Λ b ys)(hx:xs[n]?>=x)(hy:ys[n]?>=y)
  (k:∀g,ZU g z p o i j a b (n+1)->IsPair g s.heap.objs.size x y->g.objs.size=ET->(∀c u,c≠z->c≠o->c≠i->c≠j->č c u->cI6 c>=u)->Q Ĺ cG8) :
  rp w A (bO7 [æ z]) (λ U s'=>∃v,U=.done (.ret v)/\Q v s') E s:=by
 obtain⟨⟨f,O,zz,hf⟩,pp,⟨u1,u2,oo⟩,ii,jj⟩:=S;have J:∀{g g':Heap}{q c:Addr}{vs:ŋ},NB q g g'->c≠q->g.IsTuple c vs->g'.IsTuple c vs:=λ{g g' q c vs} sb hc ⟨ob,e,r⟩=>⟨ob,sb.extBut _ _ hc e,r⟩;show n5 _ (aL6 z 2) _ _ _ _;refine bJ8 zz rfl x ct3 ?_;show n5 _ (aL6 z 3) _ _ _ _;refine bJ8 zz rfl x bR4 ?_;refine fx pp rfl ?_;show n5 _ (NH z) _ _ _ _;refine Cv (WG zz hf ?_ ?_)
 ·simp only[if_true];refine wT ?_;refine bJ8 zz rfl x (æ o) ?_;refine Cv (mB zz (ĵ g1 z1 k1));replace z1:YX g1 z p o aT3 O:=z1;refine aR4;simp only[List.zipIdx_cons,List.zipIdx_nil,List.forIn_cons,List.forIn_nil];refine aK9 af1;show n5 _ (Ź i) _ _ _ _;refine Cv (Vb bF5 (J k1 D.az ha) hx λ g2 Z k2=>sK);have o2:IsPair g2 o u1 u2:=k2.extBut _ _ D.oi (cg2 _ D.oz oo);refine fx o2 rfl ?_;refine aE6 o2 (ĵ g3 o3 k3);replace o3:IsPair g3 o x u2:=o3;refine aD3 sK;refine aK9 af1;show n5 _ (Ź j) _ _ _ _;refine Cv (Vb (((aq7 k1.extBut).extBut k2.extBut D.ij.symm).extBut k3.extBut D.oj.symm) (J k3 D.bo (J k2 D.bi (J k1 D.bz hb))) hy λ g4 j4 k4=>sK);have o4:IsPair g4 o x u2:=k4.extBut _ _ D.oj o3;refine fx o4 rfl ?_;refine aE6 o4 (ĵ d P k5);replace P:IsPair d o x y:=P;refine aD3 (Cz sK);refine fx P rfl ?_;refine Cv (wpAny_newTuple ?_);have sz:af4 d.objs.size:=by rw[k5.1,k4.1,k3.1,k2.1,k1.1]
  have z5:YX d z p o aT3 O:=k5.extBut _ _ D.oz.symm (k4.extBut _ _ D.jz.symm (OG _ _ D.oz.symm _ _ D.iz.symm z1));have G:∀c u,c≠z->c≠o->c≠i->c≠j->č c u->d.get? c>=u:=λ c u c1 c2 C F e=>k5.extBut _ _ c2 (k4.extBut _ _ F (OG _ _ c2 _ _ C (cg2 _ c1 e)));have i5:d.IsTupleIter i a (n+1):=((Z.extBut k3.extBut D.oi.symm).extBut k4.extBut D.ij).extBut k5.extBut D.oi.symm;have j5:d.IsTupleIter j b (n+1):=j4.extBut k5.extBut D.oj.symm;have zl:z<d.objs.size:=Ao z5;show n5 _ (Builtin.SmallTypes.ownedTupleHandOut ↑z ↑d.objs.size) _ _ _ _;refine aR4;unfold Builtin.SmallTypes.ownedTupleHandOut;have z6:YX (d.push (cQ0 #[x,y])) z p o aT3 O:=om z5;refine Cv (mB z6 (ĵ g7 z7 k7));replace z7:YX g7 z p o cq6 O:=z7;refine mB z7 (ĵ I z8 k8);replace z8:YX I z p o cq6 false:=z8;have L:∀c u,c≠z->d.get? c>=u->I.get? c>=u:=λ c u c1 e=>k8.extBut _ _ c1 (k7.extBut _ _ c1 TU);have t8:IsPair I d.objs.size x y:=k8.extBut _ _ (Cr zl) (k7.extBut _ _ (Cr zl) L7);have s8:I.objs.size=d.objs.size+1:=by rw[k8.1,k7.1,Cc]
  refine bM7 _ ?_;show cw4 d.objs.size _;rw[sz]at z8 t8 s8;rw[sz];exact k I ⟨cc3 _ z8 (Ĉ TL),L _ _ D.pz (G _ _ D.pz D.po D.pi D.pj pp),⟨x,y,L _ _ D.oz P⟩,i5.at λ u e=>L _ u D.iz e,j5.at λ u e=>L _ u D.jz e⟩ t8 s8 λ c u c1 c2 C F e=>L c u c1 (G c u c1 c2 C F e)
 ·intro g1 z1 k1 Ph;simp only[Ay,if_false];refine aR4;have CZ:g1.IsTuple a xs:=ae8 ob e r ha ob (k1 _ _ D.az e) r;have HY:g1.IsTuple b ys:=ae8 ob e r hb ob (k1 _ _ D.bz e) r;simp only[List.forIn_toArray,List.forIn_cons,List.forIn_nil];refine aK9 f3;show n5 _ (Ź i) _ _ _ _;refine Cv (Vb (s:=bq1 g1) (NI k1) CZ hx λ g2 Z k2=>Cz sK);refine aK9 f3;show n5 _ (Ź j) _ _ _ _;refine Cv (Vb (s:=bq1 g2) ((aq7 k1).extBut k2.extBut D.ij.symm) (J k2 D.bi HY) hy λ g3 j3 k3=>Cz sK);refine sK;refine Cv (wpAny_newTuple ?_ (ec (Ă (2:Nat))));have sz:af4 g3.objs.size:=by rw[k3.1,k2.1,Ph]
  have G:∀c u,c≠z->c≠i->c≠j->č c u->(g3.push (cQ0 #[x,y])).get? c>=u:=λ c u c1 C F e=>om (OG _ _ F _ _ C (k1 _ _ c1 e));have z3:YX (g3.push (cQ0 #[x,y])) z p o f true:=om (OG _ _ D.jz.symm _ _ D.iz.symm z1);refine bM7 _ ?_;show cw4 g3.objs.size _;rw[sz];refine k _ ⟨⟨f,true,z3,hf⟩,G _ _ D.pz D.pi D.pj pp,⟨u1,u2,G _ _ D.oz D.oi D.oj oo⟩,(Z.extBut k3.extBut D.ij).at λ u e=>TU,j3.at λ u e=>TU⟩ ?_ (ϓ Cc sz) λ c u c1 _ C F e=>G c u c1 C F e;rw[<- sz];exact L7
def WE{z p o i j a b:Addr}{n:Nat}{xs ys:ŋ}{Q:PySem.Fin->ϲ}(hh:lI)(D:ZA z p o i j a b)(S:ZU s.heap z p o i j a b n)(ha:Λ a xs)(L:Λ b ys)(O:Ν xs[n]?∨Ν ys[n]?)
    (k:∀g x,(∀c u,c≠z->c≠o->c≠i->c≠j->č c u->cI6 c>=u)->(∃u,cI6 x>=u/\u.cls=į ad8)->E ↑x cG8) :
    rp w A (bO7 [æ z]) Q E s:=by
  obtain⟨⟨f,C,zz,hf⟩,pp,⟨u1,u2,oo⟩,ii,jj⟩:=S;have v:∀{g g':Heap}{q c:Addr}{vs:ŋ},NB q g g'->c≠q->g.IsTuple c vs->g'.IsTuple c vs:=λ{g g' q c vs} sb Z ⟨ob,e,r⟩=>⟨ob,sb.extBut _ _ Z e,r⟩;show n5 _ (aL6 z 2) _ _ _ _;refine bJ8 zz rfl x ct3 ?_;show n5 _ (aL6 z 3) _ _ _ _;refine bJ8 zz rfl x bR4 ?_;refine fx pp rfl ?_;show n5 _ (NH z) _ _ _ _;refine Cv (WG zz hf ?_ ?_)
  . simp only[if_true]
    refine wT ?_;refine bJ8 zz rfl x (æ o) ?_;refine Cv (mB zz (ĵ g1 z1 k1));replace z1:YX g1 z p o aT3 C:=z1;refine aR4;simp only[List.zipIdx_cons,List.zipIdx_nil,List.forIn_cons,List.forIn_nil];refine aK9 af1;show n5 _ (Ź i) _ _ _ _;cases hx:xs[n]? with
    |none =>
      refine Cv (Ez hh bF5 (v k1 D.az ha) hx (pM g2 x k2 h2));obtain⟨G,h3,h4⟩:=h2;have z2:YX g2 z p o aT3 C:=k2 _ _ D.iz.symm z1;have I:x≠z:=λ q=>by subst q;rw[z2]at h3;cases h3;simp at h4
      exact mB z2 (λ g3 _ k3=>k g3 x (λ c u c1 _ d _ e=>k3.extBut _ _ c1 (k2 _ _ d (cg2 _ c1 e))) ⟨G,k3.extBut _ _ I h3,h4⟩)
    |some x0 =>
      have F:Ν ys[n]?:=by rcases O with h|h;rw[hx]at h;cases h;exact h
      refine Cv (Vb bF5 (v k1 D.az ha) hx λ g2 i2 k2=>sK);have o2:IsPair g2 o u1 u2:=k2.extBut _ _ D.oi (cg2 _ D.oz oo);refine fx o2 rfl ?_;refine aE6 o2 (ĵ g3 o3 k3);refine aD3 sK;refine aK9 af1;show n5 _ (Ź j) _ _ _ _;refine Cv (Ez hh (((aq7 k1.extBut).extBut k2.extBut D.ij.symm).extBut k3.extBut D.oj.symm) (v k3 D.bo (v k2 D.bi (v k1 D.bz L))) F (pM g4 x k4 h2));obtain⟨G,h3,h4⟩:=h2;have z4:YX g4 z p o aT3 C:=k4 _ _ D.jz.symm (OG _ _ D.oz.symm _ _ D.iz.symm z1);have I:x≠z:=λ q=>by subst q;rw[z4]at h3;cases h3;simp at h4
      exact mB z4 (λ U _ k5=>k U x (λ c u c1 c2 d y e=>k5.extBut _ _ c1 (k4 _ _ y (OG _ _ c2 _ _ d (cg2 _ c1 e)))) ⟨G,k5.extBut _ _ I h3,h4⟩)
  . intro g1 z1 k1 Ph
    simp only[Ay,if_false];refine aR4;have J:g1.IsTuple a xs:=ae8 ob e r ha ob (k1 _ _ D.az e) r;have P:g1.IsTuple b ys:=ae8 ob e r L ob (k1 _ _ D.bz e) r;simp only[List.forIn_toArray,List.forIn_cons,List.forIn_nil];refine aK9 f3;show n5 _ (Ź i) _ _ _ _;cases hx:xs[n]? with
    |none=>exact Cv (Ez (s:=bq1 g1) hh (NI k1) J hx λ g2 x k2 h2=>k g2 x (λ c u c1 _ d _ e=>k2 _ _ d (k1 _ _ c1 e)) h2)
    |some x0 =>
      have F:Ν ys[n]?:=by rcases O with h|h;rw[hx]at h;cases h;exact h
      refine Cv (Vb (s:=bq1 g1) (NI k1) J hx λ g2 i2 k2=>Cz sK);refine aK9 f3;show n5 _ (Ź j) _ _ _ _;exact Cv (Ez (s:=bq1 g2) hh ((aq7 k1).extBut k2.extBut D.ij.symm) (v k2 D.bi P) F λ g3 x k3 h2=>k g3 x (λ c u c1 _ d y e=>k3 _ _ y (k2.extBut _ _ d (k1 _ _ c1 e))) h2)
#where
def ZU.at{h h':Heap}{z p o i j a b:Addr}{n:Nat}(S:ZU h z p o i j a b n)(k:∀c∈[z,p,o,i,j],∀u,Ϧ c u->ž c u):ZU h' z p o i j a b n:=by obtain⟨⟨f,d,zz,hf⟩,pp,⟨u1,u2,oo⟩,ii,jj⟩:=S;exact⟨⟨f,d,k z Ê _ zz,hf⟩,k p Ê _ pp,⟨u1,u2,k o Ê _ oo⟩,ii.at λ u e=>k i Ê u e,jj.at λ u e=>k j Ê u e⟩
inductive wX:θ Expr
 |nm (x:Str) (p:Pos):wX bt9
 |tp (l:Α) (k:Nat) (p:Pos):wX (cv5 l k p)
def Qth{prog:Program}{w:World}{A:Around}{E:C7}{s:Shared}(u:wX tg){z p o i j a b T:Addr}{n:Nat}{Q:Unit->ϲ}(D:ZA z p o i j a b)(S:ZU s.heap z p o i j a b n)(d:∀h',ZU h' z p o i j a b n->bO1 z h'->Q () bq2):rp w A (bx7 tg ↑z ↑T) Q E s:=by
  cases u with
  |nm x p'=>exact Cz (d s.heap S (wx e e))
  |tp l k p' =>
    obtain⟨f,r,zz,hf⟩:=S.zz;unfold letOwnedTupleGo;refine cT7 zz ?_;dsimp only;split
    . refine wT ?_
      show Ş _ (setField ↑z 0 ey) Q E s;obtain⟨_,pp,⟨u1,u2,oo⟩,ii,jj⟩:=S;exact mB zz (λ h' v c=>d h' ⟨⟨ey,r,v,ĭ⟩,c.extBut _ _ D.pz pp,⟨u1,u2,c.extBut _ _ D.oz oo⟩,NI c.extBut,aq7 c.extBut⟩ c.extBut)
    . exact Cz (d s.heap S (wx e e))
def SL{P:Program}{w:World}{K:Aa}{tg:Expr}(ht:wX tg){z p o i j a b:Addr}(D:ZA z p o i j a b):pZ P w K tg (BK K a b) [z,p,o,i,j] z (λ n h=>ZU h z p o i j a b n) where
 mem:=Ê
 obj:=λ n h S c d=>by
  obtain⟨⟨f,fl,zz,hf⟩,pp,⟨u1,u2,oo⟩,⟨oi,Q,ci,di⟩,⟨oj,U,cj,dj⟩⟩:=S;simp only[Bi,B8,or_false]at d;rcases d with rfl|rfl|rfl|rfl|rfl
  ·exact aQ5 zz (λ v q=>bg7 G (cd7 _=aL1) q G)
  ·exact aQ5 pp (λ v q=>bg7 G (Data.seq _ _=aL1) q G)
  ·exact aQ5 oo (λ v q=>bg7 G (Data.seq _ _=aL1) q G)
  ·exact⟨oi,Q,λ v q=>ı di q q⟩
  ·exact⟨oj,U,λ v q=>ı dj q q⟩
 keep:=λ n h h' S k=>S.at k
 item:=by
  intro X hP hw Z d n O9 s σ H E I hf S hg;subst hP hw Z;obtain⟨xs,ys,x,y,J,L,hx,hy⟩:=hg;obtain⟨ia,ra,pa,_⟩:=d4 J;obtain⟨ib,rb,pb,_⟩:=d4 L;obtain⟨u,hu,ru⟩:=ra.get hx;obtain⟨v,hv,rv⟩:=rb.get hy;obtain⟨f0,rQ,C,m_⟩:=S.zz;have r:ap8 z nI := bJ9 C;unfold pyNext;refine Cv (wpAny_attempt (wpAny_callSpecial?_slot (name:=ac4) r F.slot_zip_next (wpAny_call_entry F.slot_zip_next r F.entry_zip_next
   (WF D S (bu6 a pa) (bu7 b pb) (Ë hu) (Ë hv) λ g' O tp sz kp=>sK) X2)))
  refine Ņ _ (Qth (s:=bq1 g') ht D O (ĵ g2 O kx));replace tp:=kx _ _ (Cr (Ao C)) tp;have a8:∀c q,c∉[z,p,o,i,j]->č c q->g2.get? c>=q:=λ c q d e=>by simp only[Bi,B8,or_false,not_or]at d;refine kx _ _ d.1 (kp c q d.1 d.2.2.1 d.2.2.2.1 d.2.2.2.2 e)
  have ne:∀c∈[z,p,o,i,j],tf c:=λ c d e=>by
   obtain⟨_,pp,⟨u1,u2,oo⟩,⟨oi,Q,_⟩,⟨oj,U,_⟩⟩:=S;simp only[Bi,B8,or_false]at d;rcases d with rfl|rfl|rfl|rfl|rfl
   ·exact bb5 C e
   ·exact bb5 pp e
   ·exact bb5 oo e
   ·exact bb5 Q e
   ·exact bb5 U e
  refine⟨τ,am9 (ì [x,y]),I.iU (t':=s.toks) hf a8 (us:=[u,v]) (an0 ru rv lS) (ec (Ă 2)) (t6 _ tp _ rfl),rfl,
   ⟨_,x,y,bf3,λ a9 h=>Æ (I.tuple_inj h J) hx,λ ab h=>Æ (I.tuple_inj h L) hy,rfl,rfl⟩,O,ż c d⟩
  rw[Q0 (ne c d)];exact(hf c d).1
 done:=by
  intro X hP hw Z d n O9 s σ H E I hf S hg;subst hP hw Z;obtain⟨xs,ys,J,L,hs⟩:=hg;obtain⟨ia,ra,pa,_⟩:=d4 J;obtain⟨ib,rb,pb,_⟩:=d4 L;have l1:=ra.length;have l2:=rb.length;obtain⟨f0,rQ,C,m_⟩:=S.zz;have r:ap8 z nI := bJ9 C;unfold pyNext;refine Cv (wpAny_attempt (wpAny_callSpecial?_slot (name:=ac4) r F.slot_zip_next (wpAny_call_entry F.slot_zip_next r F.entry_zip_next
   (WE (Of d) D S (bu6 a pa) (bu7 b pb) (II hs q q (ë ŉ) (Ĉ ŉ)) (pM g x kp hx)) X2)))
  obtain⟨ox,h1,h2⟩:=hx;refine Cv (wpAny_isInstance (T := ad8) (b:=true) ⟨ox,h1,h2⟩ isSubtype_stop ?_);refine Cz (ā (I.ou (t':=s.toks) hf (pM c q d e)));simp only[Bi,B8,or_false,not_or]at d;exact kp c q d.1 d.2.2.1 d.2.2.2.1 d.2.2.2.2 e
 self:=bk6 S (by obtain⟨f0,rQ,C,m_⟩:=S.zz;have r:Shared.TypeIs _ (Ϗ z) nI := bJ9 C;refine cx8 r (af9 F.slot_zip_iter r F.entry_zip_iter cg3);exact Cz ⟨_,rfl, nI, _,r,cS2,h⟩)
section
variable{X:Cx}{xn:Str}{p2:Pos}{O9:C8}{σ:L2.St}
def T3{E:C7}{Q:C7}{a b:Addr}(I:ag)(O:Da X.K a)(P:cP4 b)
  (k:∀(s':Shared) (z p o i j:Addr),γ s'->ZA z p o i j a b->ZU s'.heap z p o i j a b 0->Ps c [z,p,o,i,j] (GS X O9 H c)->cw4 z s'):ψ (call dc1 [ν,cL6]) Q E s:=by
 obtain⟨v,U,G,_⟩:=d4 O;obtain⟨x,rb,J,_⟩:=d4 P;refine callType_new F.called_zip Â (F.typeCall_zip_2 _ _) (F.newCall_zip_2 _ _) (λ obj=>F.args_object_init_3 obj _ _) F.entry_zip_new (Qo7 a b v.toArray x.toArray) (mY (aN2 a v.toArray G) (aN2 b x.toArray J));have z1:oC (BX s.heap a)=ET:=Cc ..;have z2:oC (BW s.heap a b)=ĕ 2:=ϓ Cc z1
 have z3:oC (BR s.heap a b)=ĕ 3:=ϓ Cc z2
 have z4:oC (BP s.heap a b)=ĕ 4:=ϓ Cc z3
 have r:(ag3 a b).get? (oC (BP s.heap a b))>=_:=L7;have g4:(ag3 a b).get? (oC (BR s.heap a b))>=_:=om L7;have g3:(ag3 a b).get? (oC (BW s.heap a b))>=_:=om (om L7);have g2:(ag3 a b).get? (oC (BX s.heap a))>=_:=om (om (om L7));have g1:aC9 (ag3 a b).get?>=_:=om (om (om (om L7)));show _/\_;have kp:∀c o,č c o->(ag3 a b).get? c>=o:=λ c o e=>om (om (om (om TU)));refine CA (bJ9 r);rw[z2,z3,z4]at r;rw[z1,z2]at g3;rw[z3]at g4;rw[z1]at g2;rw[z4];have y:N9 a:=aa0 o e G Ex
 have C:N9 b:=aa0 o e J Ex
 have D:ZA (ĕ 4) (ĕ 2) (ĕ 3) s.heap.objs.size ET a b:=by constructor<;>first|exact Bc y|exact Bc C|exact Bc (Ax y (Cu _ _))|exact Bc (Ax C (Cu _ _))|exact Bc À|exact Cr À
 have L:γ (bq1 (ag3 a b)):=cJ4 s.toks kp;have S:ZU (ag3 a b) (ĕ 4) (ĕ 2) (ĕ 3) s.heap.objs.size ET a b 0:=⟨cc3 _ r ĭ,g3,aQ5 _ g4,fh _ g1 rfl,fh _ g2 rfl⟩;refine k (bq1 (ag3 a b)) _ _ _ _ _ L D S (ż c u);have d:au3 c:=by simp only[Bi,B8,or_false]at u;rcases u with rfl|rfl|rfl|rfl|rfl<;>first|exact đ|exact Cu _ _
 exact I.fpOk d (m5 d)
def Qo4(c:wX tg){R:It->eg}{E:C7}{a b:Addr}(I:ag)(e:Da X.K a)(r:cP4 b)(q:R (BK X.K a b) H):
  ψ (call dc1 [ν,cL6]) (λ v u=>ψ (pyIter v) (PIE X O9 σ tg R) E u) E s :=
 T3 I e r λ s' z p o i j d D S hf=>(SL (K:=X.K) c D).self _ _ _ _ _ S ⟨_,[z,p,o,i,j],_,BK X.K a b,H,rfl,d,SL c D,S,hf,q⟩
def Qom{p pos:Pos}(o:ND nI)(u:c4 nI)(ha:PA X [x,y] ta)(v:Ï [x,y]=[Ż x,Ż y]:=by rfl)(c:Ï [y]=[Ż y]:=by rfl):
    PI X (Ĵ xn p2) (bs0 nI [x,y]) (Qsu X.K ta):=by
  intro O9 s σ H R I h;refine Call_ (zP I o u boot_zip (df (Ť (ha pos O9 s σ H _ I h) us J j) (ϓ v c) (ÿ c)));obtain⟨vs,G,i,F,q1⟩:=j;obtain⟨a,b,xs,ys,e,z,C,q⟩:=q1;subst e;cases F with
  |cons r d =>
    cases d with
    |cons E d=>cases d;cases r;cases E;exact Qo4 (.nm ..) i z C q
#where
#print L2
namespace D
open PySem PySem.Spec PyProof.Rows L2
section
variable{X:Cx}{xn:Str}{p2:Pos}{f g:aG}
def BU{p pos:Pos}(z:ND nI)(C:c4 nI)(hx:ck9 x)(G:ϟ y g)(d:Ï [x,y]=[Ż x,Ż y]:=by rfl)(c:Ï [y]=[Ż y]:=by rfl):
  DI X (Ĵ xn p2) (bs0 nI [x,y]) (nH f g) :=
 L2.PI.imp (Qom z C (XQ hx (bN5 G (ÿ c)) (ϓ d c)) d c) λ σ H R o=>by obtain⟨Z,env,ρ,B,hp,ds,hp',S,e,k⟩:=o;obtain⟨d1,hp1,e1,e⟩:=Ū;obtain⟨xs,E,e2,e⟩:=Ū;obtain⟨rfl,rfl⟩:=qx e2;obtain⟨U,F,e3,e⟩:=Ū;obtain⟨ys,Q,r,e⟩:=Ū;obtain⟨rfl,rfl⟩:=qx r;obtain⟨rfl,rfl⟩:=CH;refine cN6 O (aF1 e3 (λ u ρ2 B2 H2 g2 S2 P=>?_));obtain⟨a,vs,rfl,na,i,I⟩:=(ϸ g2 _ _ O).tupI;obtain⟨b,us,rfl,L,j,J⟩:=P.tupI;exact⟨a,b,vs,us,rfl,i,j,k _ ρ2 B2 H2 ah8 S2.wo (Qqj na i I L j J)⟩
#where
#print D
namespace TR
structure Pg where
 lv:Nat
 ks:Ŗ
 ps:Ŗ
 hi:Ý
 sd:am5
structure Sh where
 O4:Nat
 pg:bd2
 top:Nat
 rd:Int
 wr:Int
inductive aJ where
 |find (k:Int)|put (k w:Int)|cut (k:Int)|stretch (l h:Int)
def aJ.key:aJ->Int
 |.find k=>k
 |.put k _=>k
 |.cut k=>k
 |.stretch l _=>l
structure Wk where
 O2:aJ
 aim:Int
 O6:Nat
 place:am5
 O5:au0
 O1:am5
 O3:Ý
 pairs:â Int Int
 O7:Bool
inductive Row where
 |non
 |side (n t:Nat)
 |down (n t:Nat)
 |found (n:Nat) (w:Ý)
 |put (n:Nat) (w:Ý) (k:am5)
 |cut (n:Nat) (w:Ý)
 |read (n:Nat) (ps:Eb) (t:ď (Nat × Int))
 |told (n:Nat) (k:am5)
 |raised (n t:Nat)
def aM(ks:Ŗ)(k:Int):Nat:=⇑(af2 x (Ib x k))
def bF(ks:Ŗ)(k:Int):Nat:=⇑(af2 x (LU x k))
def Xy(fs:au0)(k:Nat):am5:=aN9 (fs.find? λ p=>FY oB k)
def xJ(fs:au0)(k v:Nat):au0:=π (fs.any λ p=>FY oB k) (fs.map (λ p=>CY oB k (oB,v) p)) (fs++[(k,v)])
def Xh(p:Pg)(k:Int):Bool:=match p.hi with
 |none=>false
 |some h=>Ib h k
def Zr(p:Pg)(k:Int):Ý:=NV EI aN4 p.ps[EI]?
def Zj(p:Pg)(k w:Int):Pg:=Ħ p ks (oq EI++k::cS k) ps (OU EI++w::ad9 aN4)
def without(p:Pg)(k:Int):Pg:=Ħ p ks (oq EI++cS k) ps (OU EI++ad9 aN4)
def ZO(p:Pg)(k:Int)(c:Nat):Pg:=Ħ p ks (oq aN4++k::cS k) ps (OU (aN4+1)++aY7::ad9 (aN4+1))
def mid(p:Pg):Nat:=ϖ / 2
def Z3(p:Pg):Nat:=CY p.lv 0 (mid p) (mid p+1)
def XE(p:Pg):Int:=p.ks.getD (mid p) 0
def ZB(p:Pg)(n:Nat):Pg:=⟨p.lv,oq (mid p),OU (Z3 p),í (XE p),í n⟩
def Zn(p:Pg):Pg:=⟨p.lv,p.ks.drop (Z3 p),ad9 (Z3 p),p.hi,p.sd⟩
def QU(S:Sh)(w:Wk)(n:Nat)(p:Pg):am5 × Sh × Wk :=
 if ϖ<=S.O4 then (none,Ħ S pg (FU n p) wr (S.wr+1),ca3)
 else (í Ú,Ħ S pg (ae6 [Zn p] n (YP p)) wr (S.wr+1+1),{ w with O1:=í Ú,aim:=XE p,O6:=p.lv+1,place:=rk (p.lv+1) })
def Zl(p:Pg)(l h:Int):â Int Int:=CD OH (λ q=>Ib l q.1&&LU q.1 h)
def J0(S:Sh)(w:Wk)(n:Nat)(p:Pg):Row × Sh × Wk:=match w.O2 with
  |.find _=>(.found n aQ3,S,bU8 aQ3)
  |.put _ x=>match QU S (ca0 aQ3) n (aL9 p x)with
    | (r,a,c)=>(.put n aQ3 r,a,c)
  |.cut _=>(.cut n aQ3,π (tm aQ3) (Ħ S pg (FU n (bm3 p)) wr (S.wr+1)) S,bU8 aQ3)
  |.stretch l h=>match p.hi,p.sd with
    |some x,some s=>if h<=x then (.read n (Zl p l h) none,S,bU7 (PM (Zl p l h)))
        else (.read n (Zl p l h) (í (s,x)),S,bM6 w pairs (PM (Zl p l h)) aim place cj3)
    |_,_=>(.read n (Zl p l h) none,S,bU7 (PM (Zl p l h)))
def Xm(S:Sh)(w:Wk):ď (Row × Sh × Wk) :=
  if œ w.O7 then í (Ę,S,w)else
  match ø ñ with
  |none=>none
  |some p =>
    if ξ/\Wd then
      match w.O1 with
      |none=>none
      |some k=>í (.raised S.top Ú,{ S with rd:=cM9,pg:=FC [CC (p.lv+1) ba2 [je,IS]],top:=Ú,wr:=S.wr+1 },ca3)
    else if œ cp5 then
      match p.sd with
      |none=>none
      |some s=>í (.side ñ s,IB,cp6 cj3)
    else if bj6 then
      match p.ps[P3]? with
      |none=>none
      |some c=>í (.down ñ c.toNat,IB,Ħ w O5 (xJ w.O5 p.lv ñ) place (í c.toNat))
    else if cm6 then
      match w.O1 with
      |none=>none
      |some k=>match QU IB w ñ (OW p k)with
        | (r,a,d)=>í (.told ñ r,a,d)
    else í (J0 IB w ñ p)
def yD{ks:Ŗ}(h:AQ)(k:Int):Lm oP=af2 x (Ib x k)/\aj2 oP=af2 x (LU k x):=by
  unfold aM;induction ks with
  |nil=>simp
  |cons x xs j =>
    obtain⟨h1,h2⟩:=Cd.mp h;by_cases q:x<=k
    . obtain⟨d,i⟩:=j h2
      have c:¬ k<x:=À
      simp[Ar,q,c,d,i]
    . have e:bm4 y (Ib y k)=[]:=tF Cm y a y a
      have e2:bm4 y (LU k y)=xs:=tF List.filter_eq_self y a y a
      have c:k<x:=À
      simp[Ar,q,c,e,e2]
def Kg{ks:Ŗ}(h:AQ)(k:Int):Lm EH=af2 x (LU x k)/\aj2 EH=af2 x (Ib k x):=by
  unfold bF;induction ks with
  |nil=>simp
  |cons x xs j =>
    obtain⟨h1,h2⟩:=Cd.mp h;by_cases q:x<k
    . obtain⟨d,i⟩:=j h2
      have c:¬ k<=x:=À
      simp[Ar,q,c,d,i]
    . have e:bm4 y (LU y k)=[]:=tF Cm y a y a
      have e2:bm4 y (Ib k y)=xs:=tF List.filter_eq_self y a y a
      have c:k<=x:=À
      simp[Ar,q,c,e,e2]
def Yx(ks:Ŗ)(k:Int):oP<=ft:=Bz _ _
def Kt(ks:Ŗ)(k:Int):EH<=ft:=Bz _ _
def Om(ks:Ŗ)(k:Int):EH<=oP:=by
  unfold bF aM;induction ks with
  |nil=>simp
  |cons x xs a =>
    by_cases q:x<k
    . have:x<=k:=À
      simp[Ar,q,this,a]
    . by_cases c:x<=k
      . simp[Ar,q,c];lia
      . simp[Ar,q,c,a]
def QrY{ks:Ŗ}(h:AQ)(k:Int):oP<=EH+1:=by
  unfold bF aM;induction ks with
  |nil=>simp
  |cons x xs c =>
    obtain⟨h1,h2⟩:=Cd.mp h;by_cases q:x<k
    . have:x<=k:=À
      have:=c h2;simp[Ar,q, *]
    . have e:bm4 y (Ib y k)=[]:=tF Cm y a y a
      by_cases d:x<=k<;>simp[Ar,q,d,e]
def ux{ks:Ŗ}(h:AQ)(k:Int):(Lm EH++k::aj2 oP).Pairwise AI:=by
 rw[(Kg h k).1,(yD h k).2];rw[List.pairwise_append];refine⟨bI2,Cd.mpr (İ (ż y a) bI2),pM x hx y a⟩
 ·simpa using bv8 a
 ·have h1:x<k:=Ë (bv8 hx)
  rcases pw a with rfl|a
  ·exact h1
  ·have h2:k<y:=Ë (bv8 a)
   lia
def UE{ks:Ŗ}(h:AQ){k x:Int}(hx:x∈Lm EH++k::aj2 oP):x=k∨x∈ks:=by
 rcases cm3 with hx|hx
 ·exact Ĉ (Br hx)
 ·rcases pw hx with rfl|hx
  ·exact ĭ
  ·exact Ĉ (B7 hx)
def QfI{ks:Ŗ}(h:AQ)(k:Int):(Lm EH++aj2 oP).Pairwise AI:=by
 rw[(Kg h k).1,(yD h k).2];rw[List.pairwise_append];refine⟨bI2,bI2,pM x hx y a⟩;have h1:x<k:=Ë (bv8 hx)
 have h2:k<y:=Ë (bv8 a)
 lia
def BY{ks:Ŗ}{k x:Int}(hx:x∈Lm EH++aj2 oP):x∈ks:=by
 rcases cm3 with hx|hx
 ·exact Br hx
 ·exact B7 hx
def QpK{ks:Ŗ}(h:k∉ks):EH=oP:=by
 unfold bF aM;congr 1;apply List.filter_congr;intro x hx;have:x≠k:=λ e=>h (e▸hx);by_cases q:x<k
 ·have:x<=k:=À
  simp[q,this]
 ·have:¬ x<=k:=À
  simp[q,this]
def yg(fs:au0)(k v j:Nat):Xy (xJ fs k v) j=CY j k Oy (Xy fs j):=by
  unfold xJ Xy;by_cases h:(œ (fs.any λ p=>FY oB k))
  . rw[cv1]
    induction fs with
    |nil=>simp at h
    |cons p fs c =>
      simp only[A9,Bv];by_cases q:oB=k
      . by_cases e:j=k
        . subst e;simp[q]
        . have:¬ k=j:=λ z=>e z.symm
          simp only[q,if_true,this,decide_false];by_cases h2:(œ (fs.any λ p=>FY oB k))
          . have:=c h2;simpa [e]using this
          . have a:fs.map (λ p=>CY oB k (oB,v) p)=fs:=by
              conv=>rhs;rw[<- List.map_id fs]
              apply List.map_congr_left;intro x hx;have:¬ x.1=k:=λ z=>h2 (Æ List.any_eq_true ⟨x,hx,Ë z⟩);simp[this]
            rw[a,ay0]
      . have h2:œ (fs.any λ p=>FY oB k):=aF5 Cg h
        have:=c h2;simp only[q,if_false];by_cases e:oB=j
        . have:¬ j=k:=λ z=>q (cU8 z)
          simp[e,this]
        . simpa [e]using this
  . rw[Cw h,List.find?_append]
    have hn:∀p∈fs,¬ oB=k:=λ p hp z=>h (Æ List.any_eq_true ⟨p,hp,Ë z⟩);by_cases e:j=k
    . subst e
      have:Ν (fs.find? (λ p=>FY oB j)):=by rw[List.find?_eq_none];intro p hp;simpa using hn p hp
      simp[this]
    . have:¬ k=j:=λ z=>e z.symm
      simp[this,e]
def aJ.far:IW aJ
 |.stretch _ _=>true
 |_=>false
inductive Vw(S:Sh)(w:Wk):Row->Sh->θ Wk
 |raised {p:Pg} {k:Nat}:Nn ñ p->ξ/\Wd->co5->Vw S w (.raised S.top Ú) { S with rd:=cM9,pg:=FC [CC (p.lv+1) ba2 [je,IS]],top:=Ú,wr:=S.wr+1 } ca3
 |side (n s:Nat):Vw S w (.side n s) IB (cp6 cj3)
 |down (n c:Nat) (f:au0):Vw S w (.down n c) IB (Ħ w O5 f place cs3)
 |told {p:Pg} {k n:Nat}:Nn ñ p->¬ (ξ/\Wd)->cm6->co5->Vw S w (.told n (QU IB w ñ (OW p k)).1) (QU IB w ñ (OW p k)).2.1 (QU IB w ñ (OW p k)).2.2
 |found (n:Nat) (x:Ý):w.O6=0->ć w.O2.far->Vw S w (.found n x) IB (bU8 x)
 |put {p:Pg} {n:Nat} {k x:Int} (y:Ý):w.O2=.put k x->Nn ñ p->cr6->w.O6=0->Vw S w (.put n y (QU IB (ca0 y) ñ (aL9 p x)).1) (QU IB (ca0 y) ñ (aL9 p x)).2.1 (QU IB (ca0 y) ñ (aL9 p x)).2.2
 |cut {p:Pg} (n:Nat) (y:Ý) (b:Bool):Nn ñ p->cr6->w.O6=0->ć w.O2.far->Vw S w (.cut n y) (π b { S with rd:=cM9,pg:=FU ñ (bm3 p),wr:=S.wr+1 } IB) (bU8 y)
 |last (n:Nat) (ps:Eb):w.O6=0->œ w.O2.far->Vw S w (.read n ps none) IB (bU7 (PM ps))
 |next {p:Pg} {n s:Nat} {ps:Eb} {x:Int}:Nn ñ p->aZ6 x->w.O6=0->œ w.O2.far->Vw S w (.read n ps (í (s,x))) IB (bM6 w pairs (PM ps) aim place cj3)
inductive V2(S:Sh)(w:Wk)(n:Nat)(p:Pg):Row->Sh->θ Wk
 |raised {k:Nat}:ξ/\Wd->co5->V2 S w n p (.raised S.top Ú) { S with rd:=cM9,pg:=FC [CC (p.lv+1) ba2 [je,IS]],top:=Ú,wr:=S.wr+1 } ca3
 |side {s:Nat}:¬ (ξ/\Wd)->œ cp5->cR9->V2 S w n p (.side n s) IB (cp6 cj3)
 |down {c:Int}:¬ (ξ/\Wd)->¬ œ cp5->bj6->p.ps[P3]?>=c->V2 S w n p (.down n c.toNat) IB (Ħ w O5 (xJ w.O5 p.lv n) place (í c.toNat))
 |told {k:Nat}:¬ (ξ/\Wd)->¬ œ cp5->¬ bj6->cm6->co5->V2 S w n p (.told n (QU IB w n (OW p k)).1) (QU IB w n (OW p k)).2.1 (QU IB w n (OW p k)).2.2
 |leaf {r:Row} {S':Sh} {w':Wk}:¬ (ξ/\Wd)->¬ œ cp5->¬ bj6->w.O6=0->J0 IB w n p=(r,S',w')->V2 S w n p r S' w'
def yY{S j:Sh}{w w':Wk}{r:Row}(u:gu)(h:Xm S w>=(r,j,w')):∃p,Nn ñ p/\V2 S w ñ p r j w':=by
 unfold Xm at h;rw[Cw (Ϝ u)]at h;split at h
 ·cases h
 ·rename_i p hp;refine mY p hp;split at h
  ·rename_i a;split at h
   ·cases h
   ·rename_i k e;cases h;exact .raised a e
  ·rename_i a;split at h
   ·rename_i d;split at h
    ·cases h
    ·rename_i s i;cases h;exact .side a d i
   ·rename_i d;split at h
    ·rename_i hd;split at h
     ·cases h
     ·rename_i c i;cases h;exact .down a d hd i
    ·rename_i hd;split at h
     ·rename_i o;split at h
      ·cases h
      ·rename_i k e;cases h;exact .told a d hd o e
     ·rename_i o;exact .leaf a d hd À (Aj h)
def Ge{w w':Wk}{r:Row}(i:gu)(h:Xm S w>=(r,S',w')):Vw S w r S' w':=by
  obtain⟨p,hp,v⟩:=yY i h;cases v with
  |raised a c=>exact .raised hp a c
  |side=>exact .side _ _
  |down=>exact .down _ _ _
  |told a _ _ j c=>exact .told hp a j c
  |leaf _ _ hd g0 e =>
    have d:cr6:=À
    unfold J0 at e;split at e
    . rename_i hd;cases e;exact .found _ _ g0 aV2
    . rename_i k x hd
      cases e;exact .put _ hd hp d g0
    . rename_i hd;cases e;exact .cut _ _ _ hp d g0 aV2
    . rename_i hd
      split at e
      . rename_i x s hx o
        split at e
        . cases e;exact .last _ _ g0 aV2
        . cases e;exact .next hp hx g0 aV2
      . cases e;exact .last _ _ g0 aV2
abbrev Bg:=d9 Ý
def leB(b:Ý)(x:Int):ç:=∀v,b>=v->v<=x
def ltB(b:Ý)(x:Int):ç:=∀v,b>=v->v<x
def CQ(x:Int)(h:Ý):ç:=∀v,h>=v->x<v
def dR(b c:Ý):ç:=∀v,b>=v->∃u,c>=u/\v<=u
def dR.refl(b:Ý):dR b b:=λ v h=>⟨v,h,ag5⟩
def dR.trans{a b c:Ý}(h:dR a b)(g:dR b c):dR a c:=λ v e=>by obtain⟨u,e1,d⟩:=h v e;obtain⟨x,e2,i⟩:=g u e1;exact aO8 x e2
def JB(b:Ý)(ks:Ŗ):d9 Ý
 |0=>b
 |j+1=>G1 ks
structure JE(O4:Nat)(b:Ý)(p:Pg):ç where
 sorted:p.ks.Pairwise AI
 few:ϖ<=O4
 parts:iP=ϖ+CY p.lv 0 0 1
 low:∀k∈p.ks,leB b k
 eX:bj5->∀k∈p.ks,ltB b k
 high:∀k∈p.ks,CQ k p.hi
 wide:∀h,cG5->ltB b h
structure Tree(S:Sh)(bg:Bg):ç where
 aX:2<=S.O4
 root:∃r:Pg,ai0 r/\F0 n p (hU>=p->p.lv<=r.lv)
 mj:Ν (bg S.top)
 page:F0 n p (hU>=p->bz8 S.O4 p)
 link:F0 n p (hU>=p->(bD8/\bD9)∨∃(h:Int)(s:Nat)(q:Pg),cG5/\cR9/\No s/\q.lv=p.lv/\bg s>=h)
 kid:F0 n p (hU>=p->bj5->∀j k,cm4>=k->bE7 c (k=aY7/\No c/\q.lv+1=p.lv/\bO9=cQ3 j))
 dis:∀(n m:Nat)(p q:Pg),hU>=p->ct6->cr5 q.lv->n≠m->(∃h v,cG5/\bg m>=v/\h<=v)∨(∃h v,q.hi>=h/\Μ>=v/\h<=v)
 pred:F0 n p (hU>=p->∀v,Μ>=v->bE7 m (ct6/\q.lv=p.lv/\q.hi>=v))
def Tree.uniq{S:Sh}{bg:Bg}(T:qv){n m:Nat}{p q:Pg}(hn:hU>=p)(c:ct6)(hl:cr5 q.lv)(a:Μ=bg m):n=m:=by
 rcases Nat.decEq n m with h|h
 ·exfalso;rcases T.dis n m p q hn c hl h with ⟨x,v,h1,h2,h3⟩|⟨x,v,h1,h2,h3⟩
  ·have:=(AR n p hn).wide x h1 v (a.trans h2);lia
  ·have:=(AR m q c).wide x h1 v (a.symm.trans h2);lia
 ·exact h
structure zW(S:Sh)(bg:Bg)(S':Sh)(aR:Bg):ç where
 old:F0 n p (hU>=p->aR n=Μ/\∃p':Pg,S'.pg[n]?>=p'/\p'.lv=p.lv)
def bC(S:Sh)(k:Nat):ç:=F0 n p (hU>=p->bj5->IS∉p.ps)
structure aP(S:Sh)(bg:Bg)(w:Wk):ç where
 at_:∀n:Nat,s0 n->∃p:Pg,hU>=p/\cS6/\leB Μ w.aim
 none_:ξ->∀l f,rk l>=f->OO l
 kept:∀l f,rk l>=f->∃p:Pg,Nn f p/\cr5 l
 above:F0 n p (s0 n->hU>=p->∀l f,rk l>=f->p.lv<l->dR (bg f) Μ)
 chain:∀l f l' f',rk l>=f->rk l'>=f'->cS5 l->l<l'->dR (bg f') (bg f)
 gap:F0 n p (s0 n->hU>=p->bj6->∀l f,rk l>=f->OO l∨p.lv<l)
 full:F0 n p (s0 n->hU>=p->∀l' f',rk l'>=f'->∀l,p.lv<l->l<=l'->∃f,rk l>=f)
 tell:cm6->bE7 k (co5/\No k/\q.lv+1=w.O6/\bg k>=w.aim)
def aP.grow{w:Wk}(W:cF4)(g:bm8):aP S' aR w where
 at_:=λ n h=>by obtain⟨p,h1,h2,h3⟩:=aM0 h;obtain⟨e,p',h4,h5⟩:=cK3 n p;exact⟨p',h4,À,Æ e h3⟩
 none_:=W.none_
 kept:=λ l f h=>by obtain⟨p,h1,h2⟩:=LO l h;obtain⟨e,p',h4,h5⟩:=cK3 f p;exact aO8 p' h4
 above:=λ n p' hp hn l f hf hl=>by obtain⟨p,h1,_⟩:=cb5;obtain⟨e,o,h4,h5⟩:=cK3 n p;rw[h4]at hn;cases hn;obtain⟨r,j,_⟩:=LO l hf;rw[e,(g.old f r j).1];exact W.above n p hp h1 l f hf À
 chain:=λ l f d c h h' a b=>by obtain⟨p,h1,_⟩:=LO l h;obtain⟨p',i,_⟩:=W.kept d c h';rw[(cK3 f p).1,(g.old c p' i).1];exact W.chain l f d c h h' a b
 gap:=λ n p' hp hn a l f hf=>by obtain⟨p,h1,_⟩:=cb5;obtain⟨e,o,h4,h5⟩:=cK3 n p;rw[h4]at hn;cases hn;rw[h5];exact W.gap n p hp h1 À l f hf
 full:=λ n p' hp hn d c hf l a b=>by obtain⟨p,h1,_⟩:=cb5;obtain⟨e,o,h4,h5⟩:=cK3 n p;rw[h4]at hn;cases hn;exact W.full n p hp h1 d c hf l À b
 tell:=λ h=>by obtain⟨k,q,h1,h2,h3,h4⟩:=W.tell h;obtain⟨e,p',h5,j⟩:=g.old k q h2;exact⟨k,p',h1,h5,À,Æ e h4⟩
def aP.fresh{w:Wk}(h1:ξ)(h2:w.O5=[])(h3:w.O6=0):cF4 where
 at_:=λ n h=>ı h1 h h
 none_:=λ_ l f h=>ı h2 h h
 kept:=λ l f h=>ı h2 h h
 above:=λ n p h=>ı h1 h h
 chain:=λ l f c a h=>ı h2 h h
 gap:=λ n p h=>ı h1 h h
 full:=λ n p h=>ı h1 h h
 tell:=λ h=>À
def Zd{α:rV}{xs:AU}{n m:Nat}{x y:α}(h:(xs.set n x)[m]?>=y):(m=n/\y=x/\n<ŝ)∨(m≠n/\xs[m]?>=y):=by
 by_cases e:m=n
 ·subst e;by_cases hl:m<ŝ
  ·rw[aR0]at h;cases h;exact ë (Ņ rfl hl)
  ·rw[Cj (Ë hl)]at h;cases h
 ·rw[kb e]at h;exact mf e h
def BA{α:rV}{xs:AU}{n m:Nat}{x y:α}(h:xs[m]?>=y):(xs.set n x)[m]?>=(CY m n x y):=by
 have hl:=aV7;by_cases e:m=n
 ·subst e;rw[aR0,cq]
 ·rw[kb e,h,ay0]
def Tree.write{S:Sh}{bg:Bg}(T:qv){n:Nat}{p p':Pg}{x y:Int}(hn:hU>=p)(hl:p'.lv=p.lv)(hh:p'.hi=p.hi)(E:p'.sd=p.sd)(ok:bz8 S.O4 p')
  (hk:bj5->∀j k,G1 p'.ps>=k->bE7 c (k=aY7/\No c/\q.lv+1=p.lv/\bO9=JB Μ p'.ks j)) :
  Ţ (bM6 S pg (FU n p') rd wr y)/\bm5 S (bM6 S pg (FU n p') rd wr y) bg:=by
 have old:F0 m q (ct6->∃i:Pg,(FU n p')[m]?>=i/\i.lv=q.lv/\i.hi=q.hi/\i.sd=q.sd):=λ m q h=>by
  refine mY _ (BA h);by_cases e:m=n
  ·subst e;rw[hn]at h;cases h;simp[hl,hh,E]
  ·simp[e]
 have new:F0 m i ((FU n p')[m]?>=i->∃q:Pg,ct6/\i.lv=q.lv/\i.hi=q.hi/\i.sd=q.sd):=λ m i h=>by
  rcases Zd h with ⟨rfl,rfl,_⟩|⟨_,h⟩
  ·exact⟨p,hn,hl,hh,E⟩
  ·exact dr i h rfl rfl
 refine İ ⟨T.aX,?_,T.mj,ĵ m q h,ĵ m q h,λ m q h h0 j k C=>?_,λ a b q r ha J I e=>?_,cR4 m q h v hv⟩ ⟨λ m q h=>ā (by obtain⟨i,h1,h2,_⟩:=old m q h;exact⟨i,h1,h2⟩)⟩
 ·obtain⟨r,h1,h2⟩:=T.root;obtain⟨o,h3,h4,_⟩:=old _ _ h1;exact IX h3 (λ m q h=>by obtain⟨u,h5,z,_⟩:=new m q h;rw[z,h4];exact h2 m u h5)
 ·rcases Zd h with ⟨rfl,rfl,_⟩|⟨_,h⟩
  ·exact ok
  ·exact AR m q h
 ·obtain⟨u,h1,h2,h3,h4⟩:=new m q h;rcases T.link m u h1 with ⟨a,b⟩|⟨x,s,r,a,b,c,d,e⟩
  ·exact N2 (h3.trans a) (h4.trans b)
  ·obtain⟨o,c1,c2,_⟩:=old s r c;exact Ĉ ⟨x,s,o,h3.trans a,h4.trans b,c1,by rw[c2,d,h2],e⟩
 ·rcases Zd h with ⟨rfl,rfl,_⟩|⟨_,h⟩
  ·obtain⟨c,r,h1,h2,h3,h4⟩:=hk À j k C;obtain⟨o,c1,c2,_⟩:=old c r h2;exact⟨c,o,h1,c1,À,h4⟩
  ·obtain⟨c,r,h1,h2,h3,h4⟩:=T.kid m q h h0 j k C;obtain⟨o,c1,c2,_⟩:=old c r h2;exact⟨c,o,h1,c1,À,h4⟩
 ·obtain⟨u,h1,h2,h3,_⟩:=new a q ha;obtain⟨L,h5,z,G,_⟩:=new b r J;rw[h3,G];exact T.dis a b u L h1 h5 À e
 ·obtain⟨u,h1,h2,_⟩:=new m q h;obtain⟨a,r,h3,h4,h5⟩:=T.pred m u h1 v hv;obtain⟨o,c1,c2,F,_⟩:=old a r h3;exact⟨a,o,c1,À,F.trans h5⟩
def QX{α:rV}{xs:AU}{x:α}{m:Nat}{y:α}(h:(xs++[x])[m]?>=y):(m=ŝ/\y=x)∨xs[m]?>=y:=by
 rcases Be m ŝ with q|q
 ·rw[Ag q]at h;exact Ĉ h
 ·rw[Ap q]at h;by_cases e:m-ŝ=0
  ·rw[e]at h;simp at h;exact N2 À h.symm
  ·rw[Cj ŉ]at h;cases h
def qg{α:rV}{xs:AU}{x:α}{m:Nat}{y:α}(h:xs[m]?>=y):(xs++[x])[m]?>=y:=Æ (Ag aV7) h
def QY{α:rV}{xs:AU}{m:Nat}{y:α}(h:xs[m]?>=y):m<ŝ:=aV7
def Y5(bg:Bg)(l:Nat)(k:Ý):Bg:=λ i=>CY i l k (bg i)
def QaP{bg:Bg}{l:Nat}{k:Ý}{i:Nat}(h:i<l):Y5 bg l k i=bg i:=ŵ Y5 fw
def JH{l:Nat}{k:Ý}:Y5 bg l k l=k:=ŵ Y5 cq
section
variable{S:Sh}{bg:Bg}{n:Nat}{p P:Pg}
def jX(h3:1<=Ϩ):P.ks[bO8]?>=NJ:=by
 have:bO8<Ϩ:=ag6 mid
 unfold XE;rw[Ce,Ab this];rfl
def qR{ks:Ŗ}(h:AQ){i j:Nat}{x y:Int}(hi:AY ks)(d:G1 ks>=y)(c:i<j):x<y:=at2 a rfl (Ac.mp hi) b rfl (Ac.mp d) (List.pairwise_iff_getElem.mp h i j a b c)
def Ny(ok:bz8 Ϩ P)(h3:3<=Ϩ):ltB Μ NJ:=by intro v hv;have h0:P.ks[0]?>=(P.ks[0]' À):=Ab _;have a:=ok.low _ (Bx (À:0<Ϩ)) v hv;have b:=qR ok.sorted h0 (bP0 P P) (ag6 mid);lia
def QqC(ok:bz8 Ϩ P)(h3:3<=Ϩ)(d:Ϩ<=S.O4+1)(l:Nat):bz8 S.O4 (ZB P l) where
 sorted:=ok.sorted.sublist (List.take_sublist _ _)
 few:=by show eM dh1<=_;rw[A7];unfold mid;lia
 parts:=aD6 (eM cg6=⇑dh1+CY P.lv 0 0 1) A7 A7 Z3 mid this
 low:=λ k a=>ok.low k (Br a)
 eX:=λ h k a=>ok.eX h k (Br a)
 high:=λ k a v hv=>by
  cases hv;obtain⟨i,hi,e⟩:=Cf.mp a;simp only[ZB,List.getElem_take]at e;have c:i<bO8:=by have:=hi;rw[nv ((ZB P l).ks=dh1),A7]at this;lia
  exact qR ok.sorted (i:=i) (ð e (Ab _)) (bP0 P P) c
 wide:=λ h hh=>bz9 hh (Ny ok h3)
def Qqz(ok:bz8 Ϩ P)(h3:3<=Ϩ)(j:Ϩ<=S.O4+1):JE S.O4 av7 LN where
 sorted:=ok.sorted.sublist (List.drop_sublist _ _)
 few:=by show eM aa6<=_;rw[Bk];unfold Z3 mid;split<;>lia
 parts:=aD6 (eM (P.ps.drop PU)=⇑aa6+CY P.lv 0 0 1) Bk Bk Z3 mid this
 low:=λ k d v hv=>by
  cases hv;obtain⟨i,hi,e⟩:=Cf.mp d;rw[nv ((LN).ks=aa6)]at hi;have a:PU+i<Ϩ:=by rw[Bk]at hi;lia
  have c:P.ks[PU+i]?>=k:=by rw[<- e];rw[bz4];simp[Zn]
  rcases Be bO8 (PU+i)with q|q
  ·exact bY9 (qR ok.sorted (bP0 P P) c q)
  ·have:bO8=PU+i:=by unfold Z3 at q ⊢;split<;>simp_all<;>lia
   rw[<- this,bP0 P P]at c;cases c;lia
 eX:=λ h k d v hv=>by
  cases hv;obtain⟨i,hi,e⟩:=Cf.mp d;rw[nv ((LN).ks=aa6)]at hi;have a:PU+i<Ϩ:=by rw[Bk]at hi;lia
  have c:P.ks[PU+i]?>=k:=by rw[<- e];rw[bz4];simp[Zn]
  have h':0<P.lv:=h;exact qR ok.sorted (bP0 P P) c (ae0 Z3 fw)
 high:=λ k d=>ok.high k (B7 d)
 wide:=λ h hh v hv=>bz9 hv (ok.high _ (Av (bP0 P P)) h hh)
def Tree.split(T:qv){x y:Int}(hn:hU>=p)(hl:P.lv=p.lv)(hh:P.hi=p.hi)(hs:P.sd=p.sd)(ok:bz8 Ϩ P)(h1:S.O4<Ϩ)(h2:Ϩ<=S.O4+1)
  (hk:bj5->∀j k,G1 P.ps>=k->bE7 c (k=aY7/\No c/\q.lv+1=p.lv/\bO9=JB Μ P.ks j)) :
  Tree (bM6 S pg (bg1 [LN] n) rd wr y) (Y5 bg Ú av7)/\bm5 S (bM6 S pg (bg1 [LN] n) rd wr y) (Y5 bg Ú av7):=by
 have r2:=T.aX;have h3:3<=Ϩ:=À
 have a9:=cY1;have kg:=bP0 P P;have kl:=Ny ok h3;have kh:∀h,cG5->NJ<h:=λ h e=>ok.high _ (Av kg) h (cY2 e);have bo:∀m q,ct6->Y5 bg Ú av7 m=bg m:=λ m q h=>QaP (QY h);have old:F0 m q (ct6->∃O:Pg,bg2 [LN] n m>=O/\O.lv=q.lv/\(m≠n->O=q)/\(m=n->O=Y1)):=λ m q h=>by
  refine⟨_,BA (qg h),?_,λ e=>fN ay0,λ e=>fN aY0⟩;by_cases e:m=n
  ·subst e;rw[hn]at h;cases h;rw[cq];exact hl
  ·rw[ay0]
 have gl:bg2 [LN] n Ú>=LN:=bM4 (Ak À) ba7
 have gn:bg2 [LN] n n>=Y1:=fN (As ŉ)
 have new:F0 m q (bg2 [LN] n m>=q->(m=n/\q=Y1)∨(m=Ú/\q=LN)∨(m≠n/\ct6)):=λ m q h=>by
  rcases Zd h with ⟨a,b,_⟩|⟨a,b⟩
  ·exact N2 a b
  ·rcases QX b with c|c
   ·exact mm c
   ·exact Ĉ (mf a c)
 have pD:(Y1).lv=p.lv:=hl;have L:(LN).lv=p.lv:=hl;refine İ ⟨r2,?_,?_,ĵ m q h,ĵ m q h,λ m q h h0 j k hj=>?_,λ a b q r ha I F e=>?_,cR4 m q h v hv⟩ ⟨λ m q h=>İ (bo m q h) (by obtain⟨O,a,b,_⟩:=old m q h;exact⟨O,a,b⟩)⟩
 ·obtain⟨r,a,b⟩:=T.root;obtain⟨r',c,d,_⟩:=old _ _ a;refine⟨r',c,ĵ m q h⟩;rcases new m q h with ⟨_,rfl⟩|⟨_,rfl⟩|⟨_,h⟩
  ·rw[pD,d];exact b n p hn
  ·rw[L,d];exact b n p hn
  ·rw[d];exact b m q h
 ·obtain⟨r,a,_⟩:=T.root;rw[é (Y5 bg Ú av7 S.top=bg S.top) (bo _ _ a)];exact T.mj
 ·rcases new m q h with ⟨rfl,rfl⟩|⟨rfl,rfl⟩|⟨_,h⟩
  ·rw[bo _ _ hn];exact QqC ok h3 h2 _
  ·rw[JH];exact Qqz ok h3 h2
  ·rw[bo _ _ h];exact AR m q h
 ·rcases new m q h with ⟨rfl,rfl⟩|⟨rfl,rfl⟩|⟨_,h⟩
  ·exact Ĉ ⟨NJ,Ú,LN,rfl,rfl,gl,rfl,JH⟩
  ·rcases aM1 n hn with ⟨a,b⟩|⟨z,s,r,a,b,c,d,e⟩
   ·exact N2 (cY2 a) (hs.trans b)
   ·obtain⟨r',c1,c2,_⟩:=old s r c;exact Ĉ ⟨z,s,r',cY2 a,hs.trans b,c1,by rw[c2,d,L],bC4 _ _ c e⟩
  ·rcases T.link m q h with ⟨a,b⟩|⟨z,s,r,a,b,c,d,e⟩
   ·exact N2 a b
   ·obtain⟨r',c1,c2,_⟩:=old s r c;exact Ĉ ⟨z,s,r',a,b,c1,ϓ c2 d,bC4 _ _ c e⟩
 ·have J:∀{b0:Ý}{HD:Ŗ}{j0:Nat}{Q:Ý}{HB:Ŗ}{l1:Nat},JB b0 HD j0=JB Q HB j->l1=p.lv->bE7 c (k=aY7/\No c/\q.lv+1=p.lv/\bO9=JB b0 HD j0)->bE7 c (k=aY7/\bg2 [LN] n c>=q/\q.lv+1=l1/\Y5 bg Ú av7 c=JB Q HB j):=λ{b0 HD j0 Q HB l1} e el aD=>by obtain⟨c,q,u,o,E,a4⟩:=aD;obtain⟨O,c1,c2,_⟩:=old c q o;exact⟨c,O,u,c1,À,by rw[bo _ _ o,a4,e]⟩
  rcases new m q h with ⟨rfl,rfl⟩|⟨rfl,rfl⟩|⟨_,h⟩
  ·rw[pD]at h0;have hc:PU=bO8+1:=ŵ Z3 fw
   have a8:j<bO8+1:=by have:=QY hj;rw[nv ((Y1).ps=cg6),A7,hc]at this;lia
   have Z:G1 P.ps>=k:=by rw[nv ((Y1).ps=cg6),By À]at hj;exact hj
   refine J ?_ pD (hk h0 j k Z);rw[bo _ _ hn];cases j with
   |zero=>rfl
   |succ i=>show Ű P.ks=Ű dh1;rw[By À]
  ·rw[L]at h0;have hc:PU=bO8+1:=ŵ Z3 fw
   have Z:P.ps[bO8+1+j]?>=k:=by rw[nv ((LN).ps=P.ps.drop PU),B0,hc]at hj;exact hj
   refine J ?_ L (hk h0 _ k Z);rw[JH];cases j with
   |zero=>show P.ks[bO8+0]?>=NJ;exact kg
   |succ i=>show P.ks[bO8+1+i]?=Ű aa6;rw[B0,hc]
  ·obtain⟨c,r,u,o,E,a4⟩:=T.kid m q h h0 j k hj;obtain⟨r',c1,c2,_⟩:=old c r o;exact⟨c,r',u,c1,À,by rw[bo _ _ o,bo _ _ h,a4]⟩
 ·have on:F0 b r (b≠n->Nn b r->cr5 r.lv->(∃h v,(Y1).hi>=h/\Y5 bg Ú av7 b>=v/\h<=v)∨(∃h v,r.hi>=h/\Y5 bg Ú av7 n>=v/\h<=v)):=λ b r U I lU=>by
   rcases T.dis n b p r hn I lU (Ł U)with ⟨h,v,u,o,E⟩|⟨h,v,u,o,E⟩
   ·exact ë (t6 NJ v (bC4 _ _ I o) (ī (kh h u)))
   ·exact Ĉ ⟨h,v,u,bC4 _ _ hn o,E⟩
  have nn:F0 b r (b≠n->Nn b r->cr5 r.lv->(∃h v,(LN).hi>=h/\Y5 bg Ú av7 b>=v/\h<=v)∨(∃h v,r.hi>=h/\Y5 bg Ú av7 Ú>=v/\h<=v)):=λ b r U I lU=>by
   rcases T.dis n b p r hn I lU (Ł U)with ⟨h,v,u,o,E⟩|⟨h,v,u,o,E⟩
   ·exact ë ⟨h,v,cY2 u,bC4 _ _ I o,E⟩
   ·exact Ĉ ⟨h,NJ,u,JH,ī (kl v o)⟩
  rcases new a q ha with ⟨rfl,rfl⟩|⟨rfl,rfl⟩|⟨na,G⟩
  ·rcases new b r I with ⟨rfl,rfl⟩|⟨rfl,rfl⟩|⟨nb,C⟩
   ·exact av9 e
   ·exact ë (t6 NJ NJ JH ag5)
   ·exact on b r nb C (cW6 F pD)
  ·rcases new b r I with ⟨rfl,rfl⟩|⟨rfl,rfl⟩|⟨nb,C⟩
   ·exact Ĉ (t6 NJ NJ JH ag5)
   ·exact av9 e
   ·exact nn b r nb C (cW6 F L)
  ·rcases new b r I with ⟨rfl,rfl⟩|⟨rfl,rfl⟩|⟨nb,C⟩
   ·exact(on a q na G (ϓ F pD)).symm
   ·exact(nn a q na G (ϓ F L)).symm
   ·rcases T.dis a b q r G C F e with ⟨h,v,u,o,E⟩|⟨h,v,u,o,E⟩
    ·exact ë ⟨h,v,u,bC4 _ _ C o,E⟩
    ·exact Ĉ ⟨h,v,u,bC4 _ _ G o,E⟩
 ·have pr:F0 l z (Nn l z->z.hi>=v->bE7 m (bg2 [LN] n m>=q/\q.lv=z.lv/\q.hi>=v)):=λ l z hz hv=>by
   by_cases e:l=n
   ·subst e;rw[hn]at hz;cases hz;exact⟨_,_,gl,L,cY2 hv⟩
   ·obtain⟨z',c1,c2,c3,_⟩:=old l z hz;exact⟨l,z',c1,c2,Æ (c3 e) hv⟩
  rcases new m q h with ⟨rfl,rfl⟩|⟨rfl,rfl⟩|⟨nm,h⟩
  ·rw[bo _ _ hn]at hv;obtain⟨a,z,Q,b2,b3⟩:=T.pred m p hn v hv;obtain⟨c,z',d1,d2,d3⟩:=pr a z Q b3;exact⟨c,z',d1,by rw[d2,b2,pD],d3⟩
  ·rw[JH]at hv;exact⟨n,_,gn,ϓ pD L,hv⟩
  ·rw[bo _ _ h]at hv;obtain⟨a,z,Q,b2,b3⟩:=T.pred m q h v hv;obtain⟨c,z',d1,d2,d3⟩:=pr a z Q b3;exact⟨c,z',d1,ϓ d2 b2,d3⟩
#where
section
variable{S:Sh}{bg:Bg}{n:Nat}{p:Pg}
def Tree.raise(T:qv){r q:Pg}{k:Nat}{aim x y:Int}(P:ai0 r)(J:No k)(hl:q.lv=r.lv)(hb:bg k>=aim):
    Tree { S with rd:=x,pg:=FC [CC (r.lv+1) [aim] [je,IS]],top:=Ú,wr:=y } (Y5 bg Ú none)/\bm5 S { S with rd:=x,pg:=FC [CC (r.lv+1) [aim] [je,IS]],top:=Ú,wr:=y } (Y5 bg Ú none):=by
  have r2:=T.aX;have O:F0 m z (Nn m z->z.lv<=r.lv):=λ m z h=>by obtain⟨r',a,b⟩:=T.root;rw[P]at a;cases a;exact b m z h
  have bo:F0 m z (Nn m z->Y5 bg Ú none m=bg m):=λ m z h=>QaP (QY h);have gl:(FC [(CC (r.lv+1) [aim] [je,IS]:Pg)])[Ú]?>=(CC (r.lv+1) [aim] [je,IS]):=Ê
  refine İ ⟨r2,aQ5 gl (ĵ m z h),JH,ĵ m z h,ĵ m z h,λ m z h h0 j c o=>?_,λ a b z L ha I C e=>?_,cR4 m z h v hv⟩ ⟨λ m z h=>⟨bo m z h,z,qg h,rfl⟩⟩
  . rcases QX h with ⟨_,rfl⟩|h
    . exact đ
    . exact Nat.le_succ_of_le (O m z h)
  . rcases QX h with ⟨rfl,rfl⟩|h
    . rw[JH]
      exact⟨Ê,dm (1<=S.O4),Ê,λ k J v hv=>ē hv,λ_ k J v hv=>ē hv,λ k J v hv=>ē hv,Tk h hh hh⟩
    . rw[bo _ _ h];exact AR m z h
  . rcases QX h with ⟨rfl,rfl⟩|h
    . exact cB9
    . rcases T.link m z h with a|⟨z1,s,z2,a,b,c,d,e⟩
      . exact ë a
      . exact Ĉ ⟨z1,s,z2,a,b,qg c,d,bC4 _ _ c e⟩
  . rcases QX h with ⟨rfl,rfl⟩|h
    . match j,o with
      |0,o=>cases o;exact NW S.top r rfl (qg P) (Pv (bo _ _ P) JH T.mj)
      |1,o=>cases o;exact⟨k,q,rfl,qg J,dm (q.lv+1=r.lv+1),bC4 _ _ J hb⟩
      |j+2,o=>simp at o
    . obtain⟨c',L,F,E,G,Q⟩:=T.kid m z h h0 j c o
      exact⟨c',L,F,qg E,G,by rw[bo _ _ E,bo _ _ h,Q]⟩
  . rcases QX ha with ⟨rfl,rfl⟩|u
    . rcases cY3 with ⟨rfl,rfl⟩|i
      . exact av9 e
      . have:=O b L i;have:r.lv+1=L.lv:=C;lia
    . rcases cY3 with ⟨rfl,rfl⟩|i
      . have:=O a z u;have:z.lv=r.lv+1:=C;lia
      . rcases T.dis a b z L u i C e with ⟨h,v,F,E,G⟩|⟨h,v,F,E,G⟩
        . exact ë ⟨h,v,F,bC4 _ _ i E,G⟩
        . exact Ĉ ⟨h,v,F,bC4 _ _ u E,G⟩
  . rcases QX h with ⟨rfl,rfl⟩|h
    . rw[JH]at hv;cases hv
    . rw[bo _ _ h]at hv
      obtain⟨a,z1,U,Z,b3⟩:=T.pred m z h v hv;exact⟨a,z1,qg U,Z,b3⟩
def QfA{k:Int}(h:ć (Xh p k)):CQ k p.hi:=λ v hv=>by unfold Xh at h;rw[hv]at h;simp at h;omega
def Qe4{O4:Nat}(ok:bz8 O4 p)(hl:cr6){k x:Int}(h1:leB Μ k)(h2:CQ k p.hi):bz8 (f8 (Zj p k x)) (Zj p k x) where
 sorted:=ux ok.sorted k
 few:=đ
 parts:=by have a:=ok.parts;rw[Cy hl]at a;have b:=Kt p.ks k;have c:=bb7 k;show eM (OU EI++x::ad9 aN4)=⇑(oq EI++k::cS k)+CY p.lv 0 0 1;rw[Cy hl];simp only[Am,A8,A7,Bk];lia
 low:=λ y d=>by
  rcases aM2 d with rfl|d
  ·exact h1
  ·exact ok.low y d
 eX:=λ h=>sn bj5 h
 high:=λ y d=>by
  rcases aM2 d with rfl|d
  ·exact h2
  ·exact ok.high y d
 wide:=ok.wide
def Kh{O4:Nat}(ok:bz8 O4 p){k x:Int}:f8 (Zj p k x)<=O4+1:=by have b:=Kt p.ks k;have c:=bb7 k;have d:=Om p.ks k;have e:=ok.few;show eM (oq EI++k::cS k)<=_;simp only[Am,A8,A7,Bk];lia
def QgI{O4:Nat}(ok:bz8 O4 p)(hl:cr6){k:Int}:bz8 O4 (without p k) where
 sorted:=QfI ok.sorted k
 few:=by have b:=Kt p.ks k;have c:=bb7 k;have d:=Om p.ks k;have e:=ok.few;show eM (oq EI++cS k)<=_;simp only[Am,A7,Bk];lia
 parts:=by have a:=ok.parts;rw[Cy hl]at a;have b:=Kt p.ks k;have c:=bb7 k;show eM (OU EI++ad9 aN4)=⇑(oq EI++cS k)+CY p.lv 0 0 1;rw[Cy hl];simp only[Am,A7,Bk];lia
 low:=λ y i=>ok.low y (BY i)
 eX:=λ h=>sn bj5 h
 high:=λ y i=>ok.high y (BY i)
 wide:=ok.wide
def Qmu(T:qv)(hn:hU>=p){k:Nat}{q:Pg}{aim:Int}(v:No k)(hl:q.lv+1=p.lv)(u:bg k>=aim)(y:bC S k):aim∉p.ks/\Μ≠í aim:=by
 have ok:=AR n p hn;have h0:bj5:=À
 have pl:=ok.parts;rw[fw]at pl;have key:∀j,cQ3 j>=aim->j<iP->False:=λ j e a=>by obtain⟨c,z,d,o,C,r⟩:=cY0 n p h0 j _ bz4;have:c=k:=T.uniq o v À (by rw[r,e,u]);subst this;exact y n p hn h0 (ð d cg5)
 refine cC6 (bv1 x) e (key 0 e À);obtain⟨i,hi,e⟩:=Cf.mp x;exact key (i+1) (by show Ϥ p.ks aim;rw[cf5,e]) À
def xg{k:Int}{c:Nat}(h:k∉p.ks):(ZO p k c).ks=oq EI++k::cS k:=Fh (oq aN4++k::cS k=_) (QpK h)
def QgH{O4:Nat}(ok:bz8 O4 p)(hl:bj5){k:Int}{c:Nat}(i:k∉p.ks)(h1:ltB Μ k)(h2:CQ k p.hi):bz8 (f8 (ZO p k c)) (ZO p k c) where
 sorted:=Æ (xg i) (ux ok.sorted k)
 few:=đ
 parts:=by have a:=ok.parts;rw[fw]at a;have d:=bb7 k;show eM (OU (aN4+1)++aY7::ad9 (aN4+1))=⇑(oq aN4++k::cS k)+CY p.lv 0 0 1;rw[fw];simp only[Am,A8,A7,Bk];lia
 low:=λ y e=>by
  rw[xg i]at e;rcases aM2 e with rfl|e
  ·exact λ v hv=>bY9 (h1 v hv)
  ·exact ok.low y e
 eX:=λ h y e=>by
  rw[xg i]at e;rcases aM2 e with rfl|e
  ·exact h1
  ·exact ok.eX hl y e
 high:=λ y e=>by
  rw[xg i]at e;rcases aM2 e with rfl|e
  ·exact h2
  ·exact ok.high y e
 wide:=ok.wide
def GN{O4:Nat}(ok:bz8 O4 p){k:Int}{c:Nat}:f8 (ZO p k c)<=O4+1:=by have d:=bb7 k;have e:=ok.few;show eM (oq aN4++k::cS k)<=_;simp only[Am,A8,A7,Bk];lia
def Qdj(T:qv)(hn:hU>=p){k:Nat}{q:Pg}{aim:Int}(E:No k)(hl:q.lv+1=p.lv)(C:bg k>=aim):
    ∀j c,G1 (ZO p aim k).ps>=c->bE7 a (c=Î a/\No a/\q.lv+1=p.lv/\bg a=JB Μ (ZO p aim k).ks j):=by
  intro j c o;have ok:=AR n p hn;have h0:bj5:=À
  have pl:=ok.parts;rw[fw]at pl;have d:=bb7 aim;have o:G1 (OU (ma+1)++IS::ad9 (ma+1))>=c:=o;show bE7 a (c=Î a/\No a/\q.lv+1=p.lv/\bg a=JB Μ (oq ma++aim::cS aim) j);have lt:⇑(OU (ma+1))=ma+1:=ĸ A7
  have y:⇑(oq ma)=ma:=ĸ A7
  rcases Be j (ma+1)with h|h
  . rw[Ag À,By h]at o
    obtain⟨a,z,r,u,v,x⟩:=cY0 n p h0 j c o;refine⟨a,z,r,u,v,?_⟩;rw[x];cases j with
    |zero=>rfl
    |succ i=>show Ű p.ks=Ű (oq ma++aim::cS aim);rw[Ag À,By À]
  . rw[al2,lt]at o
    rcases Be (ma+1) j with h2|h2
    . obtain⟨i,rfl⟩:∃i,j=ma+2+i:=EU (j-(ma+2))
      rw[Ő (ma+2+i-(ma+1)=i+1),List.getElem?_cons_succ,B0]at o;obtain⟨a,z,r,u,v,x⟩:=cY0 n p h0 _ c o;refine⟨a,z,r,u,v,?_⟩;rw[x];rw[Ő (ma+1+i=(ma+i)+1),Ő (ma+2+i=(ma+1+i)+1)];show p.ks[ma+i]?=(oq ma++aim::cS aim)[ma+1+i]?;rw[al2,y,Ő (ma+1+i-ma=i+1),List.getElem?_cons_succ,B0]
    . have e:j=ma+1:=À
      subst e;rw[Ő (ma+1-(ma+1)=0)]at o;cases o;refine⟨k,q,rfl,E,hl,?_⟩;rw[C];show í aim=(oq ma++aim::cS aim)[ma]?;rw[al2,y];simp
#where
structure All(S:Sh)(bg:Bg)(ws:aG7):ç where
 ok:Œ i w Wk (bs2->gu->cF4)
 lZ:bd3 i w Wk k Nat (bs2->gu->cm6->co5->bC S k)
 diff:∀(i j:Nat)(w v:Wk)(k:Nat),i≠j->bs2->G1 ws>=v->gu->bp1->cm6->0<v.O6->co5->v.O1≠í k
structure iK(S:Sh)(bg:Bg)(w:Wk)(S':Sh)(aR:Bg)(w':Wk):ç where
 tree:Tree S' aR
 grow:bm8
 BZ:as4->aP S' aR w'
 lZ:∀k v,bC S k->bg k>=v->(cm6->w.O1≠í k)->bC S' k
 new:∀k,as4->0<w'.O6->w'.O1>=k->bC S' k/\((cm6/\co5)∨Ú<=k)
 O4:S'.O4=S.O4
 len:E7<=Ú+1
def All.step{ws:aG7}{i:Nat}{w w':Wk}(A:All S bg ws)(hi:bs2)(Z:gu)(st:iK S bg w S' aR w'):All S' aR ax3 where
 ok:=λ j v J hv=>by
  rcases Zd J with ⟨rfl,rfl,_⟩|⟨_,h⟩
  ·exact st.BZ hv
  ·exact(A.ok j v h hv).grow st.grow
 lZ:=λ j v k J hv y d=>by
  rcases Zd J with ⟨rfl,rfl,_⟩|⟨e,h⟩
  ·exact(st.new k hv y d).1
  ·obtain⟨k',q,z,O,a3,a4⟩:=(A.ok j v h hv).tell y;rw[d]at z;cases z;exact st.lZ k _ (A.lZ j v k h hv y d) a4 λ g0=>(A.diff j i v w k e h hi hv Z y g0 d)
 diff:=λ a b u v k e ha Q L hv E F d o=>by
  have key:Œ c x Wk (c≠i->ws[c]?>=x->ć x.O7->0<x.O6->x.O1>=k->as4->0<w'.O6->w'.O1>=k->False):=λ c x hc hx U y d G I o=>by
   rcases(st.new k G I o).2 with ⟨g0,n0⟩|l
   ·exact A.diff c i x w k hc hx hi U Z y g0 d n0
   ·obtain⟨k',q,z,O,_⟩:=(A.ok c x hx U).tell y;rw[d]at z;cases z;have:=QY O;lia
  rcases Zd ha with ⟨rfl,rfl,_⟩|⟨ea,C⟩
  ·rcases Zd Q with ⟨rfl,rfl,_⟩|⟨P,r⟩
   ·exact e rfl
   ·exact key b v P r hv F o L E d
  ·rcases Zd Q with ⟨rfl,rfl,_⟩|⟨P,r⟩
   ·exact key a u ea C L E d hv F o
   ·exact A.diff a b u v k e C r L hv E F d o
def All.put{ws:aG7}{i:Nat}{w:Wk}(A:All S bg ws)(h1:ξ)(h2:w.O5=[])(h3:w.O6=0):All S bg (EJ w) where
 ok:=λ j v d hv=>by
  rcases Zd d with ⟨rfl,rfl,_⟩|⟨_,h⟩
  ·exact aP.fresh h1 h2 h3
  ·exact A.ok j v h hv
 lZ:=λ j v k d hv y o=>by
  rcases Zd d with ⟨rfl,rfl,_⟩|⟨_,h⟩
  ·lia
  ·exact A.lZ j v k h hv y o
 diff:=λ a b u v k e ha c z hv r x o=>by
  rcases Zd ha with ⟨rfl,rfl,_⟩|⟨_,ha⟩
  ·lia
  ·rcases Zd c with ⟨rfl,rfl,_⟩|⟨_,c⟩
   ·lia
   ·exact A.diff a b u v k e ha c z hv r x o
def Tree.rd{S:Sh}(T:qv)(x y:Int):Ţ (Ħ S rd x wr y):=⟨T.aX,T.root,T.mj,T.page,T.link,T.kid,T.dis,T.pred⟩
section
variable{S:Sh}{bg:Bg}{n:Nat}{p P:Pg}{w:Wk}
def bC.set{S:Sh}{n:Nat}{p P:Pg}{k:Nat}{x y:Int}(h:bC S k)(hn:hU>=p)(hl:P.lv=p.lv)(d:bj5->cI5 IS->IS∈p.ps):bC (bM6 S pg (FU n P) rd wr y) k:=λ m q a h0 c=>by
 rcases Zd a with ⟨rfl,rfl,_⟩|⟨_,a⟩
 ·exact h m p hn À (d À c)
 ·exact h m q a h0 c
def bC.halves{S:Sh}{n:Nat}{p P:Pg}{k l:Nat}{x y:Int}(h:bC S k)(hn:hU>=p)(hl:P.lv=p.lv)(e:bj5->cI5 IS->IS∈p.ps):bC (bM6 S pg (ae6 [LN] n (ZB P l)) rd wr y) k:=λ m q a h0 d=>by
 rcases Zd a with ⟨rfl,rfl,_⟩|⟨_,a⟩
 ·have c:0<P.lv:=h0;exact h m p hn À (e À (Br d))
 ·rcases QX a with ⟨rfl,rfl⟩|a
  ·have c:0<P.lv:=h0;exact h n p hn À (e À (B7 d))
  ·exact h m q a h0 d
def Tree.iG(T:qv){k:Nat}(h:Ú<=k):bC S k:=λ m q r h0 o=>by
 obtain⟨j,i,e⟩:=Cf.mp o;obtain⟨c,z,a,d,_⟩:=T.kid m q r h0 j _ (Ab i);rw[e]at a;have:k=c:=À
 have:=QY d;lia
def SV(T:qv)(hn:hU>=p)(hl:P.lv=p.lv)(hh:P.hi=p.hi)(hs:P.sd=p.sd)(ok:bz8 Ϩ P)(h2:Ϩ<=S.O4+1)
  (hk:bj5->∀j k,G1 P.ps>=k->bE7 c (k=aY7/\No c/\q.lv+1=p.lv/\bO9=JB Μ P.ks j))
  (W:cF4) (hw:gu) (hpl:s0 n∨ξ) (hg:cr5 w.O6) (hsub:∀k:Nat,bj5->cI5 IS->IS∈p.ps∨(cm6/\co5)) :
  ∃aR,iK S bg w (QU S w n P).2.1 aR (QU S w n P).2.2:=by
 unfold QU;by_cases hr:Ϩ<=S.O4
 ·rw[Cy hr];obtain⟨Z,G⟩:=T.write (x:=S.rd) (y:=S.wr+1) (p':=P) hn hl hh hs ⟨ok.sorted,hr,ok.parts,ok.low,ok.eX,ok.high,ok.wide⟩ hk;refine⟨bg,Z,G,λ h=>ē h,λ k v hu hb F=>hu.set hn hl (ż h0 Q),Tk k h h,rfl,Ê⟩;rcases hsub k h0 Q with a|⟨a,b⟩
  ·exact a
  ·exact Ĝ b (F a)
 ·rw[Cw hr];obtain⟨Z,G⟩:=T.split (x:=S.rd) (y:=S.wr+1+1) hn hl hh hs ok À h2 hk;have r2:=T.aX;have kl:=Ny ok À;have gl:bg2 [LN] n Ú>=LN:=bM4 (Ak (ī cY1)) ba7
  have PB:∀f,rk (p.lv+1)>=f->s0 n:=λ f hf=>by
   rcases hpl with h|h
   ·exact h
   ·have:=W.none_ h _ f hf;lia
  refine⟨_,Z,G,λ_=>?_,λ k v hu hb F=>hu.halves hn hl (ż h0 Q),λ k _ _ e=>?_,rfl,Ê⟩
  ·have a9:P.lv=w.O6:=hl.trans hg;refine⟨ż f hf,pM i l f hf,ĵ l f hf,λ f q hf hq l C d O=>?_,λ l f l' C hf d a b=>?_,cR4 f q hf hq O,λ f q hf hq l' C d l a b=>?_,λ_=>NW Ú LN rfl gl JH⟩
   ·have hf:rk (P.lv+1)>=f:=hf;rw[hl]at hf;obtain⟨q,o,E⟩:=LO _ hf;obtain⟨e,I,r,U⟩:=G.old f q o;refine⟨I,r,?_,?_⟩
    ·show P.lv+1<=I.lv;lia
    ·rw[e];intro v hv;obtain⟨u,L,b2⟩:=W.above n p (PB f hf) hn _ f hf À v hv;have:=kl u L;show v<=NJ;lia
   ·have i:Ν (rk (P.lv+1)):=i;show l<P.lv+1;rcases Be l (P.lv+1)with h|h
    ·exact h
    ·exfalso;rcases hpl with hp|hp
     ·obtain⟨f0,m_⟩:=W.full n p hp hn l f hf (P.lv+1) À h;rw[i]at m_;cases m_
     ·have:=cY4 l f hf;lia
   ·obtain⟨q,o,E⟩:=LO l hf;obtain⟨e,I,r,U⟩:=G.old f q o;exact aO8 I r
   ·have hf:rk (P.lv+1)>=f:=hf;obtain⟨J,o,E⟩:=LO _ hf;obtain⟨q1,L,b2⟩:=W.kept _ C d;obtain⟨e,I,r,U⟩:=G.old f J o;rw[e,(G.old C q1 L).1];rw[r]at hq;cases hq;exact W.chain _ f l C hf d À À
   ·obtain⟨J,o,E⟩:=LO _ hf;obtain⟨q1,L,b2⟩:=W.kept _ C d;rw[(G.old f J o).1,(G.old C q1 L).1];have a:P.lv+1<=l:=a;exact W.chain l f l' C hf d À b
   ·have hf:rk (P.lv+1)>=f:=hf;obtain⟨J,o,E⟩:=LO _ hf;obtain⟨e,I,r,U⟩:=G.old f J o;have a8:P.lv+1<q.lv:=O;rw[r]at hq;cases hq;lia
   ·have hf:rk (P.lv+1)>=f:=hf;obtain⟨J,o,E⟩:=LO _ hf;obtain⟨e,I,r,U⟩:=G.old f J o;rw[r]at hq;cases hq;rw[hl]at hf;exact W.full n p (PB f hf) hn l' C d l À b
  ·rcases hsub k h0 Q with a|⟨a,b⟩
   ·exact a
   ·exact Ĝ b (F a)
  ·have e:Ú=k:=Aj e;subst e;refine İ ((T.iG đ).halves hn hl (ż h0 Q)) (Ĉ đ);obtain⟨j,hj,e⟩:=Cf.mp Q;obtain⟨c,z,o,E,_⟩:=hk h0 j _ (Ab hj);rw[e]at o;have:Ú=c:=À
   have:=QY E;lia
#where
section
variable{S:Sh}{bg:Bg}{n:Nat}{p:Pg}{w:Wk}
def QiV{ks:Ŗ}(h:AQ){k x:Int}{i:Nat}(hi:i<oP)(hx:AY ks):x<=k:=by
 have e:AY (Lm oP):=Æ (By hi) hx
 rw[(yD h k).1]at e;simpa using bv8 ce2
def MD(T:qv)(W:cF4)(e:s0 n∨ξ)(hn:hU>=p)(J:cS6){s:Nat}{q:Pg}{h:Int}(hh:cG5)(j:No s)(hl:q.lv=p.lv)(u:bg s>=h){w':Wk}(e1:w'.place>=s)(e2:w'.O5=w.O5)(e3:w'.O6=w.O6)(I:h<=w'.aim)(e5:cm6->w'.O1=w.O1/\w'.aim=w.aim):cF3 w' where
 at_:=λ m c=>ab6 e1 c c ⟨q,j,À,λ v hv=>ab6 u hv hv I⟩
 none_:=λ c=>ı e1 c c
 kept:=λ l f hf=>LO l (e2▸hf)
 above:=λ m z c hz l f hf r=>by
  rw[e1]at c;cases c;rw[j]at hz;cases hz;rw[e2]at hf;rcases e with hp|hp
  ·refine à (W.above n p hp hn l f hf À) (λ v hv=>mY h u);have:=(AR n p hn).wide h hh v hv;lia
  ·have:=cY4 l f hf;lia
 chain:=λ l f o i hf d a b=>W.chain l f o i (e2▸hf) (e2▸d) (e3▸a) b
 gap:=λ m z c hz r l f hf=>by
  rw[e1]at c;cases c;rw[j]at hz;cases hz;rw[e2]at hf;rcases e with hp|hp
  ·rcases W.gap n p hp hn À l f hf with a|a
   ·exact ë À
   ·exact Ĉ À
  ·exact ë (ī (cY4 l f hf))
 full:=λ m z c hz o i d l a b=>by
  rw[e1]at c;cases c;rw[j]at hz;cases hz;rw[e2]at d ⊢;rcases e with hp|hp
  ·exact W.full n p hp hn o i d l À b
  ·have:=cY4 o i d;lia
 tell:=λ h0=>by rw[e3]at h0 ⊢;obtain⟨k,z,x,y,C,E⟩:=W.tell h0;obtain⟨F,G⟩:=e5 h0;exact⟨k,z,F.trans x,y,C,Æ G E⟩
def QnD(T:qv)(W:cF4)(C:s0 n∨(ξ/\aJ7 n))(hn:hU>=p)(O:bj6){c:Nat}{q:Pg}(E:No c)(hl:q.lv+1=p.lv)(G:bO9=cQ3 P3):cF3 (Ħ w O5 (xJ w.O5 p.lv n) place cs3):=by
  have ok:=AR n p hn;have I:dR Μ bO9:=by
    rw[G];cases e:P3 with
    |zero=>exact dR.refl _
    |succ i =>
      intro v hv;have hi:i<ϖ:=ī (bb7 w.aim)
      refine⟨p.ks[i],cf5,bY9 (ok.eX À _ (Bx hi) v hv)⟩
  have P:leB Μ w.aim:=by
    rcases C with hp|⟨_,rfl⟩
    . obtain⟨p',Q,U,J⟩:=cb5
      exact J
    . intro v hv;rw[T.mj]at hv;cases hv
  have L:leB bO9 w.aim:=by
    rw[G];cases e:P3 with
    |zero=>exact P
    |succ i=>intro v hv;exact QiV ok.sorted À hv
  have old:∀l f,rk l>=f->l≠p.lv->OO l∨(p.lv<l/\s0 n):=λ l f hf d=>by
    rcases C with hp|⟨hp,_⟩
    . rcases W.gap n p hp hn O l f hf with a|a
      . exact ë a
      . exact mf a hp
    . exact ë (cY4 l f hf)
  have y:∀l f,Xy (xJ w.O5 p.lv n) l>=f->(l=p.lv/\f=n)∨(l≠p.lv/\rk l>=f):=λ l f hf=>by
    rw[yg]at hf;by_cases e:l=p.lv
    . rw[aY0]at hf;cases hf;exact ë (bT e)
    . rw[ay0]at hf;exact mf e hf
  refine⟨ż m r,λ r=>ē r,ĵ l f hf,λ m z r hz l f hf F=>?_,λ l f u j hf o a b=>?_,λ m z r hz F l f hf=>?_,λ m z r hz u j o l a b=>?_,W.tell⟩
  . cases r
    refine⟨q,E,?_,L⟩;show cS5 q.lv;lia
  . rcases y l f hf with ⟨rfl,rfl⟩|⟨_,h⟩
    . exact υ p hn
    . exact LO l h
  . cases r
    rw[E]at hz;cases hz;rcases y l f hf with ⟨rfl,rfl⟩|⟨d,h⟩
    . exact I
    . rcases old l f h d with a|⟨a,hp⟩
      . lia
      . exact à (W.above n p hp hn l f h a) I
  . have a:cS5 l:=a
    rcases y l f hf with ⟨rfl,rfl⟩|⟨d,h⟩
    . rcases y u j o with ⟨rfl,rfl⟩|⟨x,h'⟩
      . lia
      . rcases old u j h' x with c1|⟨c1,hp⟩
        . lia
        . exact W.above _ p hp hn u j h' c1
    . rcases y u j o with ⟨rfl,rfl⟩|⟨x,h'⟩
      . rcases old l f h d with c1|⟨c1,hp⟩<;>lia
      . exact W.chain l f u j h h' a b
  . cases r
    rw[E]at hz;cases hz;show OO l∨_;rcases y l f hf with ⟨rfl,rfl⟩|⟨d,h⟩
    . exact Ĉ À
    . rcases old l f h d with c1|⟨c1,hp⟩
      . exact ë c1
      . exact Ĉ À
  . cases r
    rw[E]at hz;cases hz;by_cases e:l=p.lv
    . exact İ n (ϓ yg aY0)
    . rcases y u j o with ⟨rfl,rfl⟩|⟨d,h⟩
      . lia
      . rcases old u j h d with c1|⟨c1,hp⟩
        . lia
        . obtain⟨f,hf⟩:=W.full n p hp hn u j h l À b
          exact İ f (Pv yg ay0 hf)
def iK.tU{a:Sh}{c:Bg}{w':Wk}{x y:Int}(h:iK (Ħ S rd x wr y) bg w a c w'):iK S bg w a c w':=⟨h.tree,⟨h.grow.old⟩,h.BZ,h.lZ,h.new,h.O4,h.len⟩
def iK.still(T:qv){w':Wk}{x y:Int}(c:cm6->∀k,co5->bC S k)(h:as4->cF3 w'/\(w'.O6=w.O6/\(cm6->w'.O1=w.O1))):iK S bg w (Ħ S rd x wr y) bg w' where
 tree:=T.rd x y
 grow:=⟨λ n p h=>⟨rfl,p,h,rfl⟩⟩
 BZ:=λ e=>let W:=(h e).1;⟨W.at_,W.none_,W.kept,W.above,W.chain,W.gap,W.full,W.tell⟩
 lZ:=λ k v c _ _=>c
 new:=λ k e g0 a=>by obtain⟨_,e1,e2⟩:=h e;rw[e1]at g0;rw[e2 g0]at a;exact İ (c g0 k a) (N2 g0 a)
 O4:=rfl
 len:=sw
def aP.rd(W:cF4)(x y:Int):OX (Ħ S rd x wr y) w:=⟨W.at_,W.none_,W.kept,W.above,W.chain,W.gap,W.full,W.tell⟩
def QoQ(T:qv)(W:cF4)(hw:gu)(I:cm6->∀k,co5->bC S k):∃r S' w' Q,Xm S w>=(r,S',w')/\iK S bg w S' Q w':=by
  obtain⟨n,ab,j⟩:∃n,ñ=n/\(s0 n∨(ξ/\aJ7 n)):=by
    cases e:w.place with
    |none=>exact Ņ S.top (Ĉ ed)
    |some m=>exact Ņ m ĭ
  obtain⟨p,hn⟩:∃p,hU>=p:=by
    rcases j with hp|⟨_,rfl⟩
    . obtain⟨p,a,_⟩:=cb5;exact İ p a
    . obtain⟨p,a,_⟩:=T.root;exact İ p a
  have i:s0 n∨ξ:=j.imp id And.left;have ok:=AR n p hn;have la:leB Μ w.aim:=by
    rcases j with hp|⟨_,rfl⟩
    . obtain⟨p',E,F,O⟩:=cb5
      exact O
    . intro v hv;rw[T.mj]at hv;cases hv
  unfold Xm;rw[Cw (Ϝ hw),ab];simp only[hn];by_cases hr:ξ/\Wd
  . rw[Cy hr]
    have a8:aJ7 n:=by
      rcases j with hp|⟨_,e⟩
      . rw[hr.1]at hp;cases hp
      . exact e
    subst a8;obtain⟨k,q,E,F,O,L⟩:=W.tell À;simp only[E];have CV:q.lv<=p.lv:=by obtain⟨r,U,b2⟩:=T.root;rw[hn]at U;cases U;exact b2 k q F
    obtain⟨T',G⟩:=T.raise (x:=cM9) (y:=S.wr+1) hn F À L;refine⟨_,_,_,_,rfl,T',G,λ h=>ē h,λ C v J u ac m z o h0 Z=>?_,Tk C h h,rfl,Ê⟩;rcases QX o with ⟨rfl,rfl⟩|o
    . have a9:Î C=je∨Î C=IS:=Ë Z
      rcases a9 with e|e
      . have:aJ7 C:=À
        subst this;rw[T.mj]at u;cases u
      . have:C=k:=À
        subst this;exact ac À E
    . exact J m z o h0 Z
  . rw[Cw hr]
    have hg:cS6:=by
      rcases j with hp|⟨hp,_⟩
      . obtain⟨p',U,b2,_⟩:=cb5
        rw[hn]at U;cases U;exact b2
      . exact Ck λ h=>hr (İ hp h)
    cases u:cp5 with
    |true =>
      rw[cq];rcases aM1 n hn with ⟨a,b⟩|⟨h,s,q,a,b,c,d,e⟩
      . unfold Xh at u;rw[a]at u;cases u
      . simp only[b]
        have ha:h<=w.aim:=by unfold Xh at u;rw[a]at u;simpa using u
        exact NW _ _ _ bg (cg7 I (λ_=>Ņ (MD T W i hn hg a c d e rfl rfl rfl ha λ_=>ed) au4))
    |false =>
      have lh:=QfA u;rw[aE3];by_cases hd:bj6
      . rw[Cy hd]
        have pl:=ok.parts;rw[fw]at pl;have hc:P3<iP:=ī (bb7 w.aim)
        obtain⟨c,q,E,F,O,L⟩:=cY0 n p À _ _ (Ab hc);rw[Ab hc,E];simp only[Bu];exact NW _ _ _ bg (cg7 I (λ_=>Ņ (QnD T W j hn hd F O L) au4))
      . rw[Cw hd]
        have lU:cr5 w.O6:=À
        by_cases h0:cm6
        . rw[Cy h0]
          obtain⟨k,q,E,F,O,L⟩:=W.tell h0;simp only[E];obtain⟨n1,n2⟩:=Qmu T hn F À L (I h0 k E);have lt:ltB Μ w.aim:=λ v hv=>by have:=la v hv;have:v≠w.aim:=λ e=>n2 (ϓ hv e);lia
          obtain⟨Q,st⟩:=SV (S:=Ħ S rd cM9 wr S.wr) (P:=OW p k) (T.rd _ _) hn rfl rfl rfl (QgH ok À n1 lt lh) (GN ok) (λ_=>Qdj T hn F À L) (W.rd _ _) hw i lU (λ C _ o=>by
            rcases A6 o with o|o
            . exact ë (Br o)
            . rcases pw o with e|o
              . have:C=k:=À
                subst this;exact mf h0 E
              . exact ë (B7 o))
          exact NW _ _ _ Q st.tU
        . rw[Cw h0]
          have hz:cr6:=À
          have g0:w.O6=0:=À
          unfold J0;cases ad:w.O2 with
          |find k=>exact NW _ _ _ bg (cg7 I (λ h=>ē h))
          |put k x=>have W1:OX (Ħ S rd cM9 wr S.wr) ({ O2:=.put k x,aim:=w.aim,O6:=w.O6,place:=w.place,O5:=w.O5,O1:=w.O1,O3:=aQ3,pairs:=w.pairs,O7:=w.O7 }:Wk):=⟨W.at_,W.none_,W.kept,W.above,W.chain,W.gap,W.full,W.tell⟩;obtain⟨Q,st⟩:=SV (S:=Ħ S rd cM9 wr S.wr) (w:=({ O2:=.put k x,aim:=w.aim,O6:=w.O6,place:=w.place,O5:=w.O5,O1:=w.O1,O3:=aQ3,pairs:=w.pairs,O7:=w.O7 }:Wk)) (P:=aL9 p x) (T.rd _ _) hn rfl rfl rfl (Qe4 ok hz la lh) (Kh ok) (λ h=>À) W1 hw i lU (λ C h=>À);exact NW _ _ _ Q ⟨st.tree,⟨st.grow.old⟩,st.BZ,st.lZ,st.new,st.O4,st.len⟩
          |cut k =>
            dsimp only;by_cases hs:(bp5 aQ3)
            . rw[Cy hs]
              obtain⟨T',G⟩:=T.write (x:=cM9) (y:=S.wr+1) (p':=bm3 p) hn rfl rfl rfl (QgI ok hz) (λ h=>À);exact⟨_,_,_,bg,rfl,T',G,λ h=>ē h,λ C v J _ _=>J.set hn rfl λ h=>À,Tk C h h,rfl,Ê⟩
            . rw[Cw hs]
              exact NW _ _ _ bg (cg7 I (λ h=>ē h))
          |stretch l h =>
            dsimp only;rcases aM1 n hn with ⟨a,b⟩|⟨x,s,q,a,b,c,d,e⟩
            . simp only[a,b]
              exact NW _ _ _ bg (cg7 I (λ h=>ē h))
            . simp only[a,b]
              by_cases hx:h<=x
              . rw[Cy hx]
                exact NW _ _ _ bg (cg7 I (λ h=>ē h))
              . rw[Cw hx]
                exact NW _ _ _ bg (cg7 I (λ_=>Ņ (MD T W i hn hg a c d e rfl rfl rfl ag5 (λ z=>À)) au4))
#where
def eG:Ý->IW Ý
 |none,some _=>true
 |some v,some u=>LU v u
 |_,none=>false
def jd{a b c:Ý}(h:œ (eG a b))(g:œ (eG b c)):œ (eG a c):=by cases a<;>cases b<;>cases c<;>simp_all [eG];lia
def yR(a:Ý):ć (eG a a):=by cases a<;>simp[eG]
def uH{b:Ý}{h:Int}(w:ltB b h):œ (eG b (í h)):=by
 cases b with
 |none=>rfl
 |some v=>simpa [eG]using w v rfl
def NP{α:rV}(p q:IW α):∀l:AU,Ps x l (œ (q x)->œ (p x))->CF q<=CF p
  | [],_=>đ
  |x::l,h=>by
    have c:=NP p q l λ y d=>cT3 y d;have hx:=h x Ê;by_cases a:(œ (q x))
    . simp[Ar,a,hx a,c]
    . by_cases b:(œ (p x))
      . simp[Ar,a,b];lia
      . simp[Ar,a,b,c]
def Uv{α:rV}(p q:IW α):∀l:AU,Ps x l (œ (q x)->œ (p x))->(∃a∈l,œ (p a)/\ć (q a))->CF q<CF p
  | [],_,h=>by obtain⟨a,h,_⟩:=h;cases h
  |x::l,h,⟨a,ha,d,e⟩=>by
    have j:=NP p q l λ y c=>cT3 y c;rcases pw ha with rfl|ha
    . simp[Ar,d,e];omega
    . have i:=Uv p q l (λ y c=>cT3 y c) ⟨a,ha,d,e⟩
      have hx:=h x Ê;by_cases a:(œ (q x))
      . simp[Ar,a,hx a];omega
      . by_cases b:(œ (p x))
        . simp[Ar,a,b];omega
        . simp[Ar,a,b];omega
inductive Chain(S:Sh):d9 (θ Ċ)
 |last {n:Nat} {p:Pg}:hU>=p->bD9->bb8 n [n]
 |next {n:Nat} {p:Pg} {s:Nat} {r:Ċ}:hU>=p->cR9->bb8 s r->bb8 n (n::r)
section
variable{S:Sh}{bg:Bg}
def vq(T:qv){n s:Nat}{p:Pg}(hn:hU>=p)(i:cR9):∃h q,cG5/\No s/\q.lv=p.lv/\bg s>=h/\bh7 Μ s:=by
 rcases aM1 n hn with ⟨_,b⟩|⟨h,s',q,a,b,c,d,e⟩
 ·rw[i]at b;cases b
 ·rw[i]at b;cases b;exact⟨h,q,a,c,d,e,Æ e (uH ((AR n p hn).wide h a))⟩
def mu(S:Sh)(bg:Bg)(n:Nat):Nat:=cF0 (λ m=>av1 Μ m)
def Su(T:qv):∀(m n:Nat)(p:Pg),mu S bg n<m->hU>=p->∃r,bb8 n r
  |0,_,_,h,_=>À
  |m+1,n,p,h,hn=>by
    cases a:p.sd with
    |none=>exact İ _ (.last hn a)
    |some s =>
      obtain⟨x,q,j,c,o,u,d⟩:=vq T hn a;have:mu S bg s<mu S bg n:=by refine Uv _ _ _ (λ y _ i=>jd d i) ⟨s,cv7 (QY c),d,yR _⟩
      obtain⟨r,e⟩:=Su T m s q À c;exact İ _ (.next hn a e)
def Chain.facts(T:qv){n:Nat}{r:Ċ}(c:bb8 n r):∀p,hU>=p->Ps m r (∃q,ct6/\q.lv=p.lv)/\Ps m r (m=n∨bh7 Μ m)/\r.Pairwise (λ a b=>bh7 (bg a) b)/\Ps m r (∀q s,ct6->q.sd>=s->s∈r)/\n∈r:=by
  induction c with
  |@last n O hn i =>
    intro p hp;rw[hn]at hp;cases hp;refine⟨ż m d,ż m d,Ê,bx5 m d q s hq e,Ê⟩
    . rw[aS9 d];exact bJ9 hn
    . exact ë (aS9 d)
    . rw[aS9 d,hn]at hq;cases hq;rw[i]at e;cases e
  |@next n O s r hn i c L =>
    intro p hp;rw[hn]at hp;cases hp;obtain⟨x,q,Q,u,v,U,j⟩:=vq T hn i;obtain⟨E,F,G,I,J⟩:=L q u;have o:∀m∈r,bh7 Μ m:=λ m d=>by
      rcases F m d with rfl|h
      . exact j
      . exact jd j h
    refine⟨ż m d,ż m d,Cd.mpr (İ o G),bx5 m d P s' hq e,Ê⟩
    . rcases pw d with rfl|d
      . exact bJ9 hn
      . obtain⟨z,y,C⟩:=E m d
        exact⟨z,y,C.trans v⟩
    . rcases pw d with rfl|d
      . exact ĭ
      . exact Ĉ (o m d)
    . rcases pw d with rfl|d
      . rw[hn]at hq;cases hq
        rw[i]at e;cases e;exact cT2 J
      . exact cT2 (I m d P s' hq e)
def Qd9{r:Ċ}(h:r.Pairwise (λ a b=>bh7 (bg a) b)):r.Nodup :=
 h.imp λ{a b} c e=>On e yR c c
def QaV(T:qv){n:Nat}{r:Ċ}{p:Pg}(c:bb8 n r)(hn:hU>=p)(o:Ν Μ):∀(k m:Nat)(q:Pg),cF0 (λ x=>av1 (bg x) m)<k->ct6->q.lv=p.lv->m∈r
  |0,_,_,h,_,_=>À
  |k+1,m,q,h,j,hl=>by
    obtain⟨I,J,L,u,C⟩:=c.facts T p hn;cases e:bg m with
    |none=>rw[T.uniq j hn hl (ϓ e o)];exact C
    |some v =>
      obtain⟨a,z,d,G,i⟩:=T.pred m q j v e;have lt:bh7 (bg a) m:=Æ e (uH ((AR a z d).wide v i))
      have:cF0 (λ x=>av1 (bg x) a)<cF0 (λ x=>av1 (bg x) m) :=
        Uv _ _ _ (λ y _ F=>jd F lt) ⟨a,cv7 (QY d),lt,yR _⟩
      have ha:=QaV T c hn o k a z À d À;rcases T.link a z d with ⟨g1,_⟩|⟨x,s,y,g1,g2,g3,g4,E⟩
      . rw[i]at g1;cases g1
      . rw[i]at g1;cases g1
        have:s=m:=T.uniq g3 j À (ϓ E e);subst this;exact u a ha z s d g2
def Wf(T:qv){n:Nat}{p:Pg}(hn:hU>=p)(e:Ν Μ):∃r,bb8 n r/\r.Nodup/\(∀m,m∈r↔∃q,ct6/\q.lv=p.lv):=by obtain⟨r,c⟩:=Su T (mu S bg n+1) n p À hn;obtain⟨a,i,d,j,o⟩:=c.facts T p hn;exact⟨r,c,Qd9 d,λ m=>İ (a m) (λ⟨q,h1,h2⟩=>QaV T c hn e _ m q (Cn _) h1 h2)⟩
def cU(S:Sh)(f:d9 Bool)(n:Nat):Bool:=match hU with
 |some p=>f p.lv
 |none=>false
def N6(T:qv){l:Nat}{r:Ċ}(h:r.Nodup)(a:∀m,m∈r↔∃q,ct6/\q.lv=l):lP=cF0 (cU S λ x=>FY x l):=by
 refine List.Perm.length_eq ((List.perm_ext_iff_of_nodup h bA0).mpr (bv1 m));rw[a m,Bj,Ca];constructor
 ·rintro⟨q,h1,h2⟩;exact İ (QY h1) (cK4 h1 h2)
 ·rintro⟨h1,h2⟩;unfold cU at h2;rw[Ab h1]at h2;exact aQ5 (Ab h1) ci9
def yJ(S:Sh)(j:Nat):∀l:Ċ,CF (cU S λ x=>LU x (j+1))=CF (cU S λ x=>LU x j)+CF (cU S λ x=>FY x j)
  | []=>rfl
  |n::l=>by
    have a:=yJ S j l;have e:∀f:d9 Bool,F9 (n::l) (cU S f)=π (cU S f n) 1 0+CF (cU S f):=λ f=>by
      by_cases h:(œ (cU S f n))
      . simp[Ar,h];lia
      . simp[Ar,h]
    rw[e,e,e,a];unfold cU;cases hU with
    |none=>simp
    |some p =>
      simp only[decide_eq_true_eq];rcases Nat.lt_trichotomy p.lv j with h|h|h
      . rw[aE2,cv1,fw];lia
      . rw[aE2,fw,cv1];lia
      . rw[fw,fw,fw];lia
def vS(S:Sh)(l:Ċ):CF (cU S λ x=>LU x 0)=0:=by rw[List.length_eq_zero_iff,Cm];intro n _;unfold cU;cases hU<;>simp
def Qa0{L:Nat}(h:F0 n p (hU>=p->p.lv<=L)):cF0 (cU S λ x=>LU x (L+1))=Ú:=by rw[List.filter_eq_self.mpr,List.length_range];intro n hn;rw[Ca]at hn;unfold cU;rw[bN8];have:=h n _ bN8;simp;lia
inductive dI(S:Sh)(bg:Bg):d9 (θ Ċ)
 |leaf {n:Nat} {p:Pg}:hU>=p->cr6->Ν Μ->dI S bg n [n]
 |fork {n c:Nat} {p:Pg} {r:Ċ}:hU>=p->bj5->Ν Μ->p.ps[0]?>=aY7->dI S bg c r->dI S bg n (n::r)
def uD(T:qv):∀(l n:Nat)(p:Pg),cr5 l->hU>=p->Ν Μ->∃r,dI S bg n r/\lP=l+1
  |0,n,p,h,hn,a=>bJ9 (.leaf hn h a)
  |l+1,n,p,h,hn,a=>by
    have ok:=AR n p hn;have pl:=ok.parts;rw[fw]at pl;have h0:0<iP:=À
    obtain⟨c,q,d,e,u,i⟩:=cY0 n p À 0 _ (Ab h0);obtain⟨r,j,o⟩:=uD T l c q À e (Æ i a);exact aQ5 (.fork hn À a (ϓ (Ab h0) d) j) (Ģ o)
def dI.get{n:Nat}{r:Ċ}(h:dI S bg n r):∀(T:qv)(p:Pg),hU>=p->lP=p.lv+1/\∀i c,Ϥ r c->∃q,No c/\q.lv+i=p.lv/\Ν bO9:=by
  induction h with
  |@leaf n j hn h0 e =>
    intro T p hp;rw[hn]at hp;cases hp;refine İ (Ģ h0) (ĵ i c a)
    match i,a with
    |0,a=>cases a;exact fh _ hn e
    |i+1,a=>simp at a
  |@fork n c j r hn h0 e a l E =>
    intro T p hp;rw[hn]at hp;cases hp;obtain⟨x,q,F,o,G,I⟩:=cY0 n j h0 0 _ a;have:c=x:=À
    subst this;obtain⟨y,C⟩:=E T q o;refine İ (by simp[y];lia) (ĵ i d hd)
    match i,hd with
    |0,hd=>cases hd;exact fh _ hn e
    |i+1,hd=>obtain⟨z,u,J,v⟩:=C i d (Ë hd);exact⟨z,u,À,v⟩
#where
def QlP(fs:au0)(k v:Nat):⇑(xJ fs k v)<=aJ8+1:=aF8 xJ
def Kc(S:Sh)(w:Wk)(n:Nat)(P:Pg):(QU S w n P).2.2.O5=w.O5/\(QU S w n P).2.2.pairs=w.pairs:=by unfold QU;split<;>exact ed
def Qee(p:Pg)(l h:Int):⇑(Zl p l h)<=ϖ:=bs7 Zl (Bh (Bz _ _) ?_)
def Qf0(S:Sh)(w:Wk)(n:Nat)(p:Pg):(J0 S w n p).2.2.O5=w.O5/\(J0 S w n p).2.2.pairs.length<=aD1+ϖ:=by
  obtain⟨O2,aim,O6,place,O5,O1,O3,pairs,O7⟩:=w;cases O2 with
  |find k=>exact ā (Ģ J0)
  |put k x=>have:=Kc S ⟨.put k x,aim,O6,place,O5,O1,Zr p aim,pairs,O7⟩ n (Zj p aim x);refine CA this.1;show(QU S ⟨.put k x,aim,O6,place,O5,O1,Zr p aim,pairs,O7⟩ n (Zj p aim x)).2.2.pairs.length<=_;rw[this.2];exact Cu _ _
  |cut k=>exact ā (Ģ J0)
  |stretch l h =>
    have pl:=Qee p l h;unfold J0;dsimp only;split
    . split
      . exact aV3
      . exact aV3
    . exact aV3
def kA{S c:Sh}{w w':Wk}{r:Row}{m:Nat}(d:F0 n p (hU>=p->ϖ<=m))(h:Xm S w>=(r,c,w')):⇑w'.O5<=⇑w.O5+1/\⇑w'.pairs<=aD1+m:=by
  cases a:w.O7 with
  |true=>unfold Xm at h;rw[Cy a]at h;cases h;exact EU À
  |false =>
    obtain⟨p,hp,v⟩:=yY a h;have i:=d _ p hp;cases v with
    |raised=>exact İ sw (Cu _ _)
    |side=>exact İ sw (Cu _ _)
    |down=>exact İ (QlP _ _ _) (Cu _ _)
    |@told k=>have z:=Kc IB w ñ (OW p k);rw[z.1,z.2];exact İ sw (Cu _ _)
    |leaf _ _ _ _ e=>have z:=Qf0 IB w ñ p;rw[e]at z;exact İ (Æ z.1 sw) (Bh z.2 À)
def fresh(d:aJ):Wk:=⟨d,d.key,0,none,[],none,none,[],false⟩
#print TR
namespace D
open PySem PySem.Spec PyProof.Rows L2
def oN:am5->DV
 |none=>Ę
 |some n=>bo4
def aK(p:TR.Pg):DV:=ì [sf,S0,PZ,ϻ,iE]
def ZQ:TR.aJ->DV
 |.find k=>ì [Ü tI, NN]
 |.put k w=>ì [Ü xz, NN,Ì w]
 |.cut k=>ì [Ü D2, NN]
 |.stretch l h=>ì [Ü ų, Ì l,Ì h]
def fK(fs:au0):h7:=fs.map λ p=>(ë oB,Ì p.2)
def aQ(ps:Eb):Û:=bb4 p (ì [Ì oB,Ì p.2])
def dG(s f q:Nat)(d a g p n w e:DV):AX:=[bK9 s,(r0, d),("aim", a),(cx9, g),(ky, p),az2 cY7 f,(wC, n),(AE, w),az2 LP q,(EK, e)]
def fC(s f q:Nat)(w:TR.Wk):OV:=ŭ å (dG s f q bm9 ↥w.aim ↥w.O6 (oN w.place) (oN w.O1) (opt w.O3) (Ζ w.O7))
def va:TR.Row->DV
 |.non=>Ę
 |.side n t=>ì [Ü cy0, bo4,Ì t]
 |.down n t=>ì [Ü cy1, bo4,Ì t]
 |.found n w=>ì [Ü cg8, bo4,opt w]
 |.put n w k=>ì [Ü xz, bo4,opt w,oN k]
 |.cut n w=>ì [Ü D2, bo4,opt w]
 |.read n ps none=>ì [Ü aA3, bo4,ì al5,Ę,Ę]
 |.read n ps (some (t,a))=>ì [Ü aA3, bo4,ì al5,Ì t,Ì a]
 |.told n k=>ì [Ü at4, bo4,oN k]
 |.raised n t=>ì [Ü cg9, bo4,Ì t]
section
variable(s f q:Nat)(d a g p n w e x:DV)
def QjH:ι Ġ (dG s f q d a g p n w e)>=↑s:=ŕ
def yF:ι r0 (dG s f q d a g p n w e)>=d:=ŕ
def zF:ι "aim" (dG s f q d a g p n w e)>=a:=ŕ
def RF:ι cx9 (dG s f q d a g p n w e)>=g:=ŕ
def jA:ι ky (dG s f q d a g p n w e)>=p:=ŕ
def QbC:ι cY7 (dG s f q d a g p n w e)>=cv4:=ŕ
def Nm:ι wC (dG s f q d a g p n w e)>=n:=ŕ
def qy:ι AE (dG s f q d a g p n w e)>=w:=ŕ
def QbD:ι LP (dG s f q d a g p n w e)>=↑q:=ŕ
def y0:ι EK (dG s f q d a g p n w e)>=e:=ŕ
def Qo0:⇑(dG s f q d a g p n w e)=10:=rfl
def T6:eE bA1 (dG s f q d a g p n w e):=ŕ
def QrK:eE cy2 (dG s f q d a g p n w e):=ŕ
def QrL:eE bA2 (dG s f q d a g p n w e):=ŕ
def QrM:eE Ty (dG s f q d a g p n w e):=ŕ
def T5:eE ch0 (dG s f q d a g p n w e):=ŕ
def QrN:eE bg9 (dG s f q d a g p n w e):=ŕ
def QrO:eE bZ0 (dG s f q d a g p n w e):=ŕ
def QrP:eE cy3 (dG s f q d a g p n w e):=ŕ
def QrQ:eE bh0 (dG s f q d a g p n w e):=ŕ
def Qo1:eE cy4 (dG s f q d a g p n w e):=ŕ
def Qo2:eE "over" (dG s f q d a g p n w e):=ŕ
def Qo3:eE eA (dG s f q d a g p n w e):=ŕ
#where
def Qnw(fs:au0)(k v:Nat):X8 bn0 aC2 ↥v=fK (TR.xJ fs k v):=by
 unfold X8 TR.xJ;have e:((bn0).any λ a=>FY a.1 (aC2:Key))=fs.any λ p=>FY oB k:=by unfold fK;rw[List.any_map];congr 1;funext p;simp only[Function.comp];congr 1;simp;lia
 rw[e];by_cases h:(œ (fs.any λ p=>FY oB k))
 ·rw[cv1,cv1];unfold fK;rw[List.map_map,List.map_map];apply List.map_congr_left;intro p _;simp only[Function.comp];by_cases q:oB=k
  ·simp[q]
  ·have:¬ (Î oB=IS):=À
   simp[q,this]
 ·rw[Cw h,Cw h];simp[fK]
def Qnx(fs:au0)(k:Nat):JM bn0 aC2=ax1 (TR.Xy fs k) v v:=by
  induction fs with
  |nil=>rfl
  |cons p r a =>
    rw[nv (fK (p::r)=(aI oB,Ì p.2)::fK r),YB,a];unfold TR.Xy;rw[Bv];by_cases q:oB=k
    . simp[q]
    . have:¬ (Î oB=IS):=À
      simp[q,this]
def Qnv(fs:au0):⇑bn0=aJ8:=Bm _
section
variable{c f m:Str}{o e:aG}{fa:cB}{env:En}{hp hp1 hp2:Hs}{a n:Nat}{fs:AX}{d v:DV}{ds:Û}{F:Ee}
def UN{α:rV}{k:d9 (AX->M α)}(h:PK a>=be4):pC c ş k hp=k a fs hp:=aT4 ((ZK a >>= _) hp=_) h ((cz (c=c) >>= λ_=>k a fs) hp=_) (C0 rfl)
def Z2(i:aT2>=(v,hp1))(j:cY5 hp1>=(ν,hp1))(h:hp1[a]?>=be4)(hl:aJ8<fE):Zu c f o e env hp>=(m4,hp1.set a (dc9 c f v fs)):=by
 unfold Zu;rw[Qe i,Qe j];unfold rW;have:pC c ş (λ n fs=>do cz (aJ8<fE);Ub n (dc9 c f v fs)) hp1>=((),hp1.set a (dc9 c f v fs)):=Ũ (UN h) ce9
 rw[EF];rfl
def QO(i:cY6>=(ν,hp1))(h:hp1[a]?>=be4)(hf:cl6>=d):QN c f o env hp>=(d,hp1):=by unfold QN;rw[Qe i];unfold sG;rw[UN h,hf];rfl
def QT(r:cY6>=(ν,hp))(h:PK a>=be4)(j:Ν cM4)(ha:cb6>=(ds,hp1))(hn:ã+1=n)(i:F (ν::ds) hp1>=(d,hp2)):QC c m n F o fa env hp>=(d,hp2):=by
 unfold QC;rw[Qe r];have:pC c ş (λ_ fs=>QI (cM4).isNone) hp>=((),hp):=Ũ (UN h) j
 rw[EF,cf8,C0 hn];show(QI true >>= λ_=>F (ν::ds)) hp1=_;exact i
def Xz:Qj env hp>=([],hp):=rfl
def QG(h:aT2>=(v,hp1)):Qc e Qj env hp>=([v],hp1):=hL Qc h
def ZS{i:aG}(h:aT2>=(v,hp1))(h':i env hp1>=(v',hp2)):Qc e (Ò i) env hp>=([v,v'],hp2):=N1 (QG h') Qc ag4 EF
def Xb{r i:aG}(h:aT2>=(v,hp1))(h':r env hp1>=(v',hp2))(j:i env hp2>=(v'',hp3)):Qc e (Ś r i) env hp>=([v,v',v''],hp3):=N1 (ZS h' j) Qc ag4 EF
def ak{i:Nat}(h:bh9 cL4):Qb i env hp>=(d,hp):=õ Qb h
def QW{k:Nat}(ha:cb6>=(ds,hp1))(j:ã=k)(i:F ds hp1>=(d,hp2)):QA k F fa env hp>=(d,hp2):=bx3 QA cf8 (C0 j) i
def Qqb{c:cg}{f g:aF}(h:aS3>=cI9):aN c f g env hp=ο hp1:=ÿ (Wn h)
def WW{c:cg}{f g:aF}(h:aS3>=ay5):aN c f g env hp=cF2:=ÿ (Wn h)
def QtE:Zg env hp>=(m4,hp):=rfl
def yQ{i:Nat}(h:aw8 a)(hd:aI6):aB ş bH6 hp>=(d,hp):=by show(ZK a >>= _) hp=_;rw[bt6];show(dH cM8 >>= λ i=>uR bl1) hp=_;simp only[dH,C6,jM hd];rfl
#where
def Qnn{o:aG}{fa:cB}{hp:Hs}{a:Nat}{fs:au0}{j:Nat}(c:cY6>=(ν,hp))(h:aC5 a bn0)(ha:cb6>=([Ć j],hp)):ZP AM Vt o fa env hp>=(oN (TR.Xy fs j),hp):=by
 unfold ZP;rw[bz5];have e2:xr AM ş hp>=((),hp):=ł ((ZK a >>= _) hp) _ bt6
 rw[cf9,cf8];show(ZK a >>= _) hp=_;rw[bt6];show í (((JM bn0 (aI j)).getD Ę),hp)=_;rw[Qnx];cases TR.Xy fs j<;>rfl
def wl{s f q:Nat}{d a g p n w e:DV}:⇑(dG s f q d a g p n w e)<fE:=cT4 Qo0
def Jb{xs:Û}{i:Nat}(h:Ϥ xs d)(hp:Hs):aB IT bH6 hp>=(d,hp):=by show bB IT bH6 hp=_;simp only[bB,jM h];rfl
def T7(p:TR.Pg)(hp:Hs):aB ť ↥0 hp>=(sf,hp):=dj1
def Qq0(p:TR.Pg)(hp:Hs):aB ť ↥1 hp>=(S0,hp):=cs8 1
def Qq1(p:TR.Pg)(hp:Hs):aB ť ↥2 hp>=(PZ,hp):=cs8 2
def QqZ(p:TR.Pg)(hp:Hs):aB ť ↥3 hp>=(ϻ,hp):=cs8 3
def Wm(p:TR.Pg)(hp:Hs):aB ť ↥4 hp>=(iE,hp):=cs8 4
def Qkg(d:TR.aJ)(hp:Hs):aB wc ↥1 hp>=(Ì d.key,hp):=bP2 (cs8 1)
section
variable{e e' e'' e3 e4:aG}{fa:cB}{env:En}{hp hp1 hp2 hp3 cO lR:Hs}{v v' v'' v3 v4 d:DV}{ds:Û}
def Jj(ha:cb6>=(ds,hp1))(a:ã<=ŀ):Z0 fa env hp>=(ny,hp1):=by unfold Z0;rw[cf8];have:œ (Yl ds):=C0 a;rw[this];rfl
def sW(h:aT2>=(v,hp1))(h':e' env hp1>=(v',hp2))(a:e'' env hp2>=(v'',hp3))(h3:e3 env hp3>=(v3,cO)):Qc e (N0 e' e'' e3) env hp>=([v,v',v'',v3],cO):=N1 (Xb h' a h3) Qc ag4 EF
def sV(h:aT2>=(v,hp1))(h':e' env hp1>=(v',hp2))(a:e'' env hp2>=(v'',hp3))(h3:e3 env hp3>=(v3,cO))(h4:e4 env cO>=(v4,lR)):Qc e (Qc e' (N0 e'' e3 e4)) env hp>=([v,v',v'',v3,v4],lR):=N1 (sW h' a h3 h4) Qc ag4 EF
#where
def Qit{t:cm9}{f:ck}{p:IW DV}(ds:Û)(j:∀d∈ds,t d hp>=(p d,hp))(hf:∀d∈ds,f d hp>=(d,hp))(hl:ã<ŀ):JW Ff t f ŀ 0 hp>=(ds.filter p,hp):=by
  suffices h:∀(m i n:Nat),m+i=ã->m<n->JW Ff t f n i hp>=(CD bq8 p,hp)by simpa using h ã 0 ŀ rfl hl
  intro m;induction m with
  |zero =>
    intro i n e c;obtain⟨n,rfl⟩:∃k,n=k+1:=EU (n-1);have:i=ã:=À
    subst this;have e1:=KR ds ã đ hp;rw[dg2 ds[ã]?]at e1;rw[JW,IE,Co];rfl
  |succ m o =>
    intro i n e c;obtain⟨n,rfl⟩:∃k,n=k+1:=EU (n-1);have a:i<ã:=À
    have e1:=KR ds i À hp;rw[bz4]at e1;have hi:=o (i+1) n À À;rw[JW,IE];simp only;rw[Qe (j ds[i] cg5),Bf a];cases q:p ds[i]with
    |false=>rw[bY7 q];simpa using hi
    |true=>rw[bO6];simp only[if_true];rw[Qe (hf ds[i] cg5),Qe hi];rfl
def WH:∀(ks ps:Ŗ),qW ċ ϫ=aQ (ks.zip ps)
  | [],_=>fI (‹Ŗ›)
  |_::_,[]=>rfl
  |k::ks,p::ps=>ł (ì [NN,Ì p]::qW ċ ϫ) _ (WH ks ps)
def Dh(l h:Int):IW DV
 |.tup [.int x,_]=>Ib l x&&LU x h
 |_=>false
def Qgi(l h:Int)(a:Eb):CD (aQ a) (Dh l h)=aQ (a.filter λ q=>Ib l q.1&&LU q.1 h):=õ aQ List.filter_map
def QiI{o:aG}{fa:cB}{hp:Hs}{a b:Nat}{ds es:Û}(d:cY6>=(ν,hp))(h:aw8 a)(ha:cb6>=([cL6],hp))(c:kw b es)(hl:ã+cR7<=ŀ):ZP ĉ Xl o fa env hp>=(Ę,ϙ a cE7):=by
 unfold ZP;rw[Qe d];have e2:xr ĉ ş hp>=((),hp):=ł ((ZK a >>= _) hp) _ bt6
 rw[cf9,cf8];show(ZK a >>= _) hp=_;rw[bt6];show(ZK b >>= _) hp=_;rw[Φ c];show(cz (ã+cR7<=lim) >>= λ_=>Ub a cE7 >>= cn9) hp=_;rw[PY (Ib (ã+cR7) lim) ce9];rfl
def YJ(a:Eb):⇑(aQ a)=bv6:=Bm _
def HC(a ys:Eb):aQ a++aQ ys=aQ (a++ys):=Ģ aQ
def KY(o:Ý):isD (opt o) Ę=fz o.isNone:=fI o
def Qgb(o:Ý):V0 (opt o) Ę=fz o.isSome:=fI o
def uO(o:am5):isD (oN o) Ę=fz o.isNone:=fI o
def yT{x:Str}(h:Ŕ x):œ (fO ϧ):=by simp[fO,sJ,toP,SeqAt.shaped,PyData.canLay0,PyData.depth,h]
def oK{x y:Str}(hp:Hs)(h1:Ŕ x)(h2:Ŕ y){b:Bool}(h:(x==y)=b):bM ϧ bC7 hp>=(IU,hp):=by
 unfold bM;have e:mO ϧ bC7 hp>=(x==y,hp):=ÿ (vm (BQ 39 hp x) (BQ 39 hp y) (yT h1) (yT h2))
 rw[Qe e,h];rfl
section
variable{c c':cg}{e e':aG}{env:En}{hp hp1:Hs}{b:Bool}
def Tg(h:aS3>=cI9):iJ c c' env hp>=cI9:=hL iJ h
def yd(h:aS3>=ay5):iJ c c' env hp=c' env hp1:=hL iJ h
def ya(h:aS3>=cI9):qV c c' env hp=c' env hp1:=hL qV h
def VT(h:aS3>=ay5):qV c c' env hp>=ay5:=hL qV h
def Gj(h:aS3>=cI9):cP c e e' env hp=aT1 hp1:=hL cP h
def v9(h:aS3>=ay5):cP c e e' env hp=e' env hp1:=hL cP h
#where
def uC{w:TR.Wk}{i:Nat}{k:Int}(h:w.O2=bu9 k):bb9 w i p=(.found i ph,S,bU9):=ab0 h h
def Qbe{w:TR.Wk}{i:Nat}{k x:Int}(h:w.O2=.put k x):bb9 w i p=(.put i ph (cI4 p x).1,(cI4 p x).2.1,(cI4 p x).2.2):=ab0 h h
def Qbd{S:TR.Sh}{w:TR.Wk}{i:Nat}{k:Int}(h:w.O2=.cut k):bb9 w i p=(.cut i ph,π (tm ph) (Ħ S pg (FU i (aD7 p)) wr (S.wr+1)) S,bU9):=ab0 h h
def QiW{w:TR.Wk}{i:Nat}{p:TR.Pg}{l h:Int}(e:w.O2=bL6 l h)(h1:bD8):bb9 w i p=(.read i (me l h) none,S,di7):=by cases w;cases p;simp only at e h1;subst e h1;rfl
def QkZ{w:TR.Wk}{i:Nat}{p:TR.Pg}{l h x:Int}{s:Nat}(e:w.O2=bL6 l h)(h1:aZ6 x)(h2:cR9):bb9 w i p=É (h<=x) (.read i (me l h) none,S,di7) (.read i (me l h) (í (s,x)),S,bM6 w pairs dh5 aim place cj3):=by cases w;cases p;simp only at e h1 h2;subst e h1 h2;rfl
def Qry{e o j:aG}{hp:Hs}{a l v:Nat}{fs:au0}(c:aT2>=(Ć v,hp))(r:cY6>=(ν,hp))(i:j env hp>=(Ć l,hp))(h:aC5 a bn0)(hf:aJ8<5000):xa e (eZ o j) env hp>=(m4,an3 a (fK (TR.xJ fs l v))):=by refine MV c ?_;unfold eZ;rw[Qe r,Qe i];have:=QlO (d:=Ć v) h (nv (mR (rg l)>=(aI l))) (ĸ Qnv);rw[Qnw]at this;rw[EF];rfl
section
variable{f g:aG}{fa:cB}{env:En}{hp hp1 hp2:Hs}{d x y:DV}{ds:Û}{F:Ee}
def Zt(h:cb6>=(ds,hp1))(a:F ds hp1>=(d,hp2)):QK F fa env hp>=(d,hp2):=Ϭ QK ag4 a
def SH(ds:Û)(hp:Hs):ZD [hV] hp>=(db1,hp):=rfl
def UK(ds:Û)(hp:Hs):ZD [ny] hp>=(db1,hp):=rfl
def uE{n:Nat}(h:cn7):ZD [O0] hp>=(db1,hp):=ł ((LM >>= _) hp) _ bt6
def Ra(i j:Int)(hp:Hs):cI bH6 ↥j hp>=(cC9 (i==j),hp):=hL cI (Sb i j hp)
def R4(i:Int)(hp:Hs):cI bH6 bH6 hp>=(Θ,hp):=Ϝ Ra
def rR(i j:Int)(hp:Hs):bM bH6 ↥j hp>=(Ζ (i==j),hp):=hL bM (Sb i j hp)
def Q_(a b:Ý)(hp:Hs):cI (opt a) E1 hp>=(cC9 (FY a b),hp):=hL cI (Qkv a b hp)
def RN(b:Bool)(hp:Hs):cI IU IU hp>=(Θ,hp):=by have e:=vm (Wy 39 hp b) (Wy 39 hp b) (Wa b) (Wa b);unfold cI;rw[Qe e];cases b<;>rfl
#where
def EY{f:iY}(h:aE>=(ds,hp1)):iT f env hp>=(Ff,hp1):=hL iT h
section
variable{c:cg}{b:aF}{n:Nat}{env aH:En}{hp hp1 hp2:Hs}
def yZ(h:aS3>=cI9)(a:b env hp1>=(Ŭ aH,hp2)):J7 c b (n+1) env hp=J7 c b n aH hp2:=by rw[J7,ag4];simp only[if_true];rw[Qe a]
def vv(h:aS3>=ay5):J7 c b (n+1) env hp>=(m4,hp1):=Ũ J7 ag4
#where
def nD(r:Ċ):Û:=r.map λ n:Nat=>f4 iH
def j7(r:Ċ):⇑AO=lP:=Bm _
def Qqy(r s:Ċ):AO++nD s=nD (r++s):=Ģ nD
def Ft{r:Ċ}{i n:Nat}(h:Ϥ r n):Ϥ AO ↥iH:=bE nD Bq h
def Qn0{hp:Hs}{d k:Nat}(h:aC5 d kvs)(hv:CL aC2>=v):nQ cM7 ↑d hp>=(Θ,hp):=by
 unfold nQ;have:Dw cM7 ↑d hp>=cI8:=aT4 ((ZK d >>= _) hp=_) h (í (tm (CL aC2),hp)=_) hv
 rw[EF];rfl
def WQ{hp:Hs}{d k:Nat}(h:aC5 d kvs)(hv:CL aC2>=v):aB ↑d cM7 hp>=(v,hp):=aT4 ((ZK d >>= _) hp=_) h ((uR (CL aC2)) hp=_) hv
def X0{o e:aG}{hp:Hs}{a:Nat}{ds:Û}(i:cY6>=(ν,hp))(h:aw8 a)(c:aT2>=(d,hp))(hl:ã<ŀ):ZP ĉ Jg o (Ò e) env hp>=(Ę,ϙ a (cE6 [d])):=by
 unfold ZP;rw[Qe i];have e2:xr ĉ ş hp>=((),hp):=ł ((ZK a >>= _) hp) _ bt6
 rw[cf9,Qe (QG c)];show(ZK a >>= _) hp=_;rw[bt6];show(cz (ã<lim) >>= λ_=>Ub a (cE6 [d]) >>= cn9) hp=_;rw[PY (LU ã lim) ce9];rfl
def Qj4{i:Int}{n:Nat}{f g h:aG}(h1:aE>=(cL3,hp))(h2:aI4>=(dz,hp))(h3:h env hp>=(Ć n,hp))(a:0<=i)(b:i<n):JQ eN cC f g h env hp>=(Η,hp):=by unfold JQ;rw[Qe h1,Qe h2];show(eN ↥0 bH6 >>= _) hp=_;rw[Og,C0 a,C6];show(lE Η >>= _) hp=_;simp only[lE,C6,if_true];rw[Qe h3,Od,C0 b];rfl
def zt{n:Nat}{a:aF}{ds:Û}(h:a (df3++ö (n-ã) ļ) hp>=(m4,hp1)):Zi n a ds hp>=(Ę,hp1):=hL Zi h
def DJ(f:Str)(d:DV):∀fs:AX,⇑(Xs f d fs)<=aJ8+1
  | []=>đ
  | (g,x)::r=>by
    unfold Xs;split
    . simp
    . simpa using DJ f d r
def XJ{f:Str}{fs:AX}{m:Nat}(h:aJ8<=m):⇑(Xs f d fs)<=m+1:=Bh (DJ f d fs) (aI9 h)
section
variable{X:Cx}{e:Expr}{f:aG}{pos:Pos}
def Ew(T:String)(f:aG):aG:=λ env=>do
  let x <- bb
  match x with
  |.ref n=>do
    match <- LM with
    |.lst _=>fz (uz ĉ T)
    |_=>failure
  |x=>match kE x with
    |some t=>fz (uz t T)
    |none=>failure
def QpM{T:String}(i:T∈[bl3, cx5, Ń, sM, ĉ]):IZ X wb (λ xs H Q=>(∃ρ B d x t,xs=[x,.ty T]/\mr X.K d x/\kE d>=t/\Q (Ζ (uz t T)) H)∨∃a ys,xs=[ν,.ty T]/\rh X.K a ys/\Q (Ζ (uz ĉ T)) H):=by
 intro y s σ H xs us Q I r h;rcases h with h|⟨a,ys,rfl,F,q⟩
 ·exact Qr2 i y s σ H xs us Q I r h
 ·obtain⟨u,w',rfl,E,v⟩:=kI r;cases v;have c:∀tk,EP X y σ Q (x5 (uz ĉ T)) (aH0 s tk):=λ tk=>N3 _ H ϩ q;have j:PySem.W.kitOne X.K aB8 bJ3>=(uz ĉ T):=by simp only[Bi,B8,or_false]at i;rcases i with rfl|rfl|rfl|rfl|rfl<;>first|rfl|decide|with_unfolding_all rfl|kernel_rfl
  cases E;obtain⟨C,_,⟨o,k,e1,e2,_⟩,_⟩:=wy F;exact tz PySem.W.kitx_list (IX e1 e2) j bH3 c
def Qni{T:String}{p p':Pos}(E:c4 wb)(u:c4 aN6)(hv:bootBuiltins aN6>=bJ3)(z:T∈[bl3, cx5, Ń, sM, ĉ])(h:cl0)(C:ND wb := by rfl)(r:ND aN6:=by rfl)
    (hn:tY aN6 := by decide) (hdb:aw9 aN6:=by decide) (hs:Ï [e,Ĵ aN6 p']=cs4::Ï [Ĵ aN6 p']:=by rfl)
    (hs2:Ï [Ĵ aN6 p']=Ż (Ĵ aN6 p')::Ï []:=by rfl) (hpl:ć ((NS [Ĵ aN6 p']).any μ):=by rfl):cs6 wb [e,Ĵ aN6 p'] (Ew T f) :=
  L2.PE.imp (uX (QpM z) C E boot_isinstance (XQ h (bN5 (Ob (v:=.ty T) r u hv rfl hn hdb) hs2) hs) Â Â hs hpl) λ σ H Q y=>by
    obtain⟨Z,env,ρ,B,hp,d,hp',S,e,k⟩:=y;obtain⟨x,hp1,e1,e2⟩:=Ū;refine LE S v c i ?_;cases x with
    |ref n =>
      obtain⟨o,F,e3,j⟩:=Fa;obtain⟨e5,rfl⟩:=ZY e3;cases o with
      |lst I=>obtain⟨rfl,rfl⟩:=Qm j;obtain⟨a,rfl,_,ys,h1,G⟩:=cX2 i e5;exact Ĉ (t6 a ys mP (bg4 c Jn))
      |aL _=>cases j
      |ins _ _=>cases j
    |non=>obtain⟨rfl,rfl⟩:=bd;exact ë ⟨ρ1,c,_,v,_,rfl,i,rfl,bg4 c Jn⟩
    |bl _=>obtain⟨rfl,rfl⟩:=bd;exact ë ⟨ρ1,c,_,v,_,rfl,i,rfl,bg4 c Jn⟩
    |int _=>obtain⟨rfl,rfl⟩:=bd;exact ë ⟨ρ1,c,_,v,_,rfl,i,rfl,bg4 c Jn⟩
    |str _=>obtain⟨rfl,rfl⟩:=bd;exact ë ⟨ρ1,c,_,v,_,rfl,i,rfl,bg4 c Jn⟩
    |tup _=>obtain⟨rfl,rfl⟩:=bd;exact ë ⟨ρ1,c,_,v,_,rfl,i,rfl,bg4 c Jn⟩
    |lst _=>obtain⟨rfl,rfl⟩:=bd;exact ë ⟨ρ1,c,_,v,_,rfl,i,rfl,bg4 c Jn⟩
#where
def Pl:d9 (θ DV)
 |_,.non=>True
 |_,.bl _=>True
 |_,.int _=>True
 |_,.str x=>Ŕ x
 |n+1,.tup ds=>∀d∈ds,Pl n d
 |n+1,.lst ds=>∀d∈ds,Pl n d
 |_,_=>False
def Fq:∀(n:Nat)(d:DV)(k:Nat)(hp:Hs),Pl n d->bO4 (n+k+1) d>=d
  |n,.non,k,hp,_=>rfl
  |n,.bl _,k,hp,_=>rfl
  |n,.int _,k,hp,_=>rfl
  |n,.str _,k,hp,_=>rfl
  |0,.tup ds,k,hp,h=>h.elim
  |0,.lst ds,k,hp,h=>h.elim
  |0,.ref _,k,hp,h=>h.elim
  |n+1,.ref _,k,hp,h=>h.elim
  |n+1,.tup ds,k,hp,h=>ł (tP (IO (n+1+k) hp) DV.tup) _ (yS λ d hd=>Æ Nat.add_right_comm (Fq n d k hp (h d hd)))
  |n+1,.lst ds,k,hp,h=>ł (tP (IO (n+1+k) hp) DV.lst) _ (yS λ d hd=>Æ Nat.add_right_comm (Fq n d k hp (h d hd)))
def Oh:∀(ds:Û),Ps d ds (œ (cf6).canLay0)->œ (PyData.canLayAll0 (cM ds))
 | [],_=>by unfold cM PyData.canLayAll0;rfl
 |d::ds,h=>by unfold cM PyData.canLayAll0;rw[h d Ê,Oh ds λ x hx=>cT3 x hx];rfl
def Fw:Œ n d DV (Pl n d->œ (cf6).canLay0)
 |n,.non,_=>ag7 toP
 |n,.bl _,_=>ag7 toP
 |n,.int _,_=>ag7 toP
 |n,.str x,h=>by cases n<;>(unfold toP PyData.canLay0;exact h)
 |0,.tup ds,h=>h.elim
 |0,.lst ds,h=>h.elim
 |0,.ref _,h=>h.elim
 |n+1,.ref _,h=>h.elim
 |n+1,.tup ds,h=>bc0 toP PyData.canLay0 (Oh ds λ d hd=>Fw n d (h d hd))
 |n+1,.lst ds,h=>bc0 toP PyData.canLay0 (Oh ds λ d hd=>Fw n d (h d hd))
def Kx(n:Nat):∀(ds:Û),Ps d ds ((cf6).depth<=n)->PyData.depthAll (cM ds)<=n
 | [],_=>bc0 cM PyData.depthAll up
 |d::ds,h=>bc0 cM PyData.depthAll (Nat.max_le.mpr (İ (h d Ê) (Kx n ds λ x hx=>cT3 x hx)))
def vW:Œ n d DV (Pl n d->(cf6).depth<=n)
 |n,.non,_=>np toP up
 |n,.bl _,_=>np toP up
 |n,.int _,_=>np toP up
 |n,.str x,h=>np toP up
 |0,.tup ds,h=>h.elim
 |0,.lst ds,h=>h.elim
 |0,.ref _,h=>h.elim
 |n+1,.ref _,h=>h.elim
 |n+1,.tup ds,h=>np toP (aI9 (Kx n ds λ d hd=>vW n d (h d hd)))
 |n+1,.lst ds,h=>np toP (aI9 (Kx n ds λ d hd=>vW n d (h d hd)))
def Qjz{n:Nat}(h:Pl n d)(hn:n<=64):œ (nV d):=bE SeqAt.shaped (Fw n d h) (C0 (Bh (vW n d h) hn))
def Qkm{n:Nat}(h:Pl n d)(hn:n<40)(hp:Hs):bO5 d>=d:=by
 have:=Fq n d (39-n) hp h
 rwa [Ő (n+(39-n)+1=40)]at this
def QiH{a:Nat}{n:Nat}{hp:Hs}(ha:aw8 a)(h:∀d∈ds,Pl n d)(hn:n<38):mO ş hV hp>=cI8:=by
 have hl:Pl (n+1) hV:=h;have e:ģ (bO5 ş) ds:=by show(match PK a with|some (.lst ds)=>tP (IO 39 hp) DV.lst|_=>none)=_;rw[ha];show tP (IO 39 hp) DV.lst=_;rw[yS λ d hd=>bA3 (Fq n d (38-n) hp (h d hd)) (Ő (n+(38-n)+1=39))];rfl
 unfold mO sH;show((aT5 (bO5 ş)).bind _)=_;rw[e];show((aT5 (bO5 hV)).bind _)=_;rw[Qkm hl À];show(QI (nV hV&&nV hV) >>= (aL0 (cO2 hV hV)):OS) hp=_;rw[Qjz hl À,SeqAt.eqv_refl _ (Fw _ _ hl)];rfl
def Qkt{a:Nat}{n:Nat}{hp:Hs}(ha:aw8 a)(h:∀d∈ds,Pl n d)(hn:n<38):bM ş hV hp>=(Η,hp):=hL bM (QiH ha h hn)
def Qiu{t:cm9}{f:ck}{g:Rq DV}(ds:Û)(j:∀d∈ds,t d hp>=cI8)(hf:∀d∈ds,f d hp>=(g d,hp))(hl:ã<ŀ):JW Ff t f ŀ 0 hp>=(Af g,hp):=by
  suffices h:∀(m i n:Nat),m+i=ã->m<n->JW Ff t f n i hp>=(tP bq8 g,hp)by simpa using h ã 0 ŀ rfl hl
  intro m;induction m with
  |zero =>
    intro i n e c;obtain⟨n,rfl⟩:∃k,n=k+1:=EU (n-1);have:i=ã:=À
    subst this;have e1:=KR ds ã đ hp;rw[dg2 ds[ã]?]at e1;rw[JW,IE,Co];rfl
  |succ m o =>
    intro i n e c;obtain⟨n,rfl⟩:∃k,n=k+1:=EU (n-1);have a:i<ã:=À
    have e1:=KR ds i À hp;rw[bz4]at e1;rw[JW,IE];simp only;rw[Qe (j ds[i] cg5),Bf a];simp only[if_true];rw[Qe (hf ds[i] cg5),Qe (o (i+1) n À À)];rfl
def BH{α:rV}{m:M α}{x:α}(h:∀hp,m hp>=(x,hp)):m=bZ8:=funext h
section
variable{env:En}{hp hp1 hp2 hp3 cO lR Rk hp7:Hs}{e e' e'' e3 e4 e5 e6:aG}{v v' v'' v3 v4 v5 v6:DV}
#where
#print D
namespace L2
open PySem PySem.Spec PyProof.Rows
def Ea(a c:Int)(n:Nat):It:=⟨λ i _=>i<n,λ i H x H'=>H'=H/\x=Ì (a+(i:Nat) * c),λ i _=>n<=i⟩
def Qe0{w:World}{K:Aa}(a:Addr)(r c:Int)(n:Nat):pZ P w K tg (Ea r c n) [a] a (λ i h=>IsRangeIter h a (r+(i:Nat) * c) (iH-(i:Nat)) c) where
 mem:=Ê
 obj:=λ i h st b d=>by
  have e:b=a:=Ë d
  subst e;exact aQ5 st (λ v z=>bg7 z' (cd7 _=aL1) z z')
 keep:=λ i h h' st k=>k a Ê _ st
 item:=by intro X J O G L i O9 s σ H E I hf st hg;subst J O G;obtain⟨u,x,Z,y,C,F⟩:=hf a Ê;have W:=Walks.range (prog:=X.prog) (w:=X.w) (Of L) a r c n;refine W.item i s _ _ hg st (bx5 v h' tk hv j kk);obtain⟨t,rfl⟩:=hv;have Q:γ aI0:=I.turned (λ b o d e=>kk b o (Ë d) e) u x y C F;exact Ņ _ (A_ (s:=aI0) (n := "range_iterator") j rfl rfl Â ⟨Ì (r+(i:Nat) * c),H,Q,bT t,ed,j,λ b d=>(hf b d).1⟩)
 done:=by intro X J O G L i O9 s σ H E I hf st hg;subst J O G;obtain⟨u,x,Z,y,C,F⟩:=hf a Ê;exact wpAny_pyNext_range_end (Of L) st (sn (n<=i) hg) λ h' U=>ā (ai1 t' (λ b o d e=>U b o d e) u x y C F)
 self:=bk6 st (cw5 h)
section
variable{X:Cx}{tg:Expr}
def c7(hi c:Int):Nat:=IL ((hi+c-1) / c)
def Ma{hi c:Int}(a:1<=c)(hh:0<=hi):sL 0 hi c=Î (c7 hi c):=by rw[rangeSize_pos a hh];unfold c7;have:0<=(hi+c-1) / c:=Int.ediv_nonneg À À;lia
def QoA{hi c:Int}(d:1<=c)(hh:0<=hi):Î (c7 hi c)<=hi+c:=by rw[<- Ma d hh,rangeSize_pos d hh];have:=Int.ediv_le_self (b:=c) (a:=hi+c-1) À;lia
def Qrv{hi c:Int}(a:1<=c)(hh:0<=hi)(h1:hi<2 ^ 40)(h2:c<EB):ab7 0 hi c:=by have l:=QoA a hh;unfold Builtin.Range.small;rw[Ma a hh];simp only[Builtin.Range.rangeFitsLong,Ba,Bool.or_eq_true,decide_eq_true_eq,beq_iff_eq,Ő (c > 0),if_true];lia
def Qjj{R:It->eg}{E:C7}{hi c:Int}{t u v:Tok}{tk:Nat}(I:ag)(d:1<=c)(hh:0<=hi)(h1:hi<2 ^ 40)(h2:c<EB)
  (q:R (Ea 0 c (c7 hi c)) H):ψ (pyIter Ĺ) (PIE X O9 σ tg R) E (en s (bL0 #[bi0 0,df0,iA c v]) tk):=by
 refine wpAny_pyIter_range ba3 (Qrv d hh h1 h2) ?_;have a:γ (en s (bL0 #[bi0 0,df0,iA c v]) tk):=I.kept λ b o e=>TU;refine⟨ca8 #[bi0 0,df0,iA c v],[ca8 #[bi0 0,df0,iA c v]],_,_,H,rfl,
  a.kept (t':=tk) λ b o e=>TU,Qe0 _ 0 c (c7 hi c),?_,ż b i,q⟩
 ·have e1:cB1+Î (0:Nat) * c=0:=Ê
  have e2:Î (c7 hi c:Nat)-Î (0:Nat)=sL 0 hi c:=Ϝ (Ma d hh)
  show IsRangeIter _ _ (cB1+Î (0:Nat) * c) (Î (c7 hi c:Nat)-Î (0:Nat)) c;rw[e1,e2];exact L7
 ·have e:b=ca8 #[bi0 0,df0,iA c v]:=Ë i
  subst e;exact a.fpOk đ (a.hok.fresh đ)
def R3(vs:η)(hi c:Int):ç:=vs=[cL3,Ì hi,Ì c]/\1<=c/\0<=hi/\hi<2 ^ 40/\c<EB
def Qst(a:TA):TI:=λ σ H R=>a σ H λ vs H1=>∃hi c:Int,R3 vs hi c/\R (Ea 0 c (c7 hi c)) H1
def Qoy{hi c:Int}(a:1<=c)(h2:c<EB):ć (Builtin.divisionGoesByPylong (hi-0) c):=i3 (PyProof.noPylong_small EC)
def Qjf{p pos:Pos}(x:ND aS)(y:c4 aS)(ha:PA X [a,b,d] ta)(z:Ï [a,b,d]=[Ż a,Ż b,Ż d]:=by rfl)(i:Ï [b,d]=[Ż b,Ż d]:=by rfl):
    PI X tg (bs0 aS [a,b,d]) (Qst ta):=by
  intro v s σ H R I h;refine Call_ (zP I x y boot_range (df (io (ha pos v s σ H _ I h) us J vs H1 I1 r1 q1 ?_) (ϓ z i) (ÿ i)));obtain⟨hi,c,⟨e,q1,C,E,u⟩,q⟩:=q1;subst e;cases r1 with
  |cons r j =>
    cases j with
    |cons F j =>
      cases j with
      |cons o j=>cases j;obtain⟨t,rfl⟩:=r;obtain⟨t',rfl⟩:=F;obtain⟨G,rfl⟩:=o;exact call_range_3 À (Qjj I1 q1 C E u q) (ë (Qoy q1 u))
#where
#print L2
namespace D
open PySem PySem.Spec PyProof.Rows L2
section
variable{X:Cx}{tg:Expr}{pos:Pos}
def Yi(c:Int)(n:Nat):Û:=tS n (λ(i:Nat)=>Ì (LT * c))
def QiR{K:Aa}{c:Int}{n:Nat}:oY K ρ B H (Yi c n) (Ea 0 c n):=λ ρ1 B1 H1 g _ _=>by
 refine İ (ĵ i d e) (by show n<=_;simp[Yi]);have hi:i<n:=pV dc8 Yi
 refine İ hi (ba4 y H' a q);subst a q;have:d=Ì (LT * c):=by simp[Yi,hi]at e;exact e.symm
 subst this;rw[Int.zero_add];exact İ Js ĭ
def Hv(a hi c:Int):Bool:=ß (a=0/\1<=c/\0<=hi/\hi<2 ^ 40/\c<EB)
def K_:Û->aS6
 | [.int a,.int hi,.int c]=>do QI (Hv a hi c);î (Yi c (c7 hi c))
 |_=>failure
def DG(f:cB):iY:=FP (do K_ (<- bb))
def Qjo{ds out:Û}{hp hp':Hs}(h:Pp (K_ ds hp) out):∃hi c:Int,ds=[cL3,Ì hi,Ì c]/\(1<=c/\0<=hi/\hi<2 ^ 40/\c<EB)/\out=Yi c (c7 hi c)/\hp=hp':=by
 unfold K_ at h;split at h
 ·obtain⟨u,hp1,e1,e2⟩:=Qg h;obtain⟨h1,rfl⟩:=aF2;obtain⟨rfl,rfl⟩:=bd;obtain⟨rfl,h2⟩:=C4 h1;exact NW _ _ rfl h2 rfl
 ·cases h
def au.ints3{K:Aa}{i j k:Int}{vs:η}(h:i4 [dz,bI8,NN] vs):vs=[dz,bI8,NN]:=by unfold au at h;obtain⟨x,r,rfl,h1,h2⟩:=h;rw[h1.bf,h2.ints2]
def QiA{x y z:Expr}{p:Pos}{f:cB}(j:ND aS)(o:c4 aS)(ha:DA X [x,y,z] f)(r:Ï [x,y,z]=[Ż x,Ż y,Ż z]:=by rfl)(a:Ï [y,z]=[Ż y,Ż z]:=by rfl) :
  DI X tg (bs0 aS [x,y,z]) (DG f) :=
 (Qjf j o ha r a).imp λ σ H R i=>by obtain⟨Z,env,ρ,B,hp,ds,hp',S,e,k⟩:=i;obtain⟨d,hp1,e1,e2⟩:=Ū;obtain⟨hi,c,rfl,⟨h1,h2,h3,h4⟩,rfl,rfl⟩:=Qjo e2;refine au9 S (rr vs B1 H1 g1 S1 u ?_);exact⟨hi,c,⟨u.ints3,h1,h2,h3,h4⟩,bg5 QiR⟩
#where
#print D
namespace PySem
section
variable{prog:Program}{w:World}{A:Around}{E:C7}{s:Shared}
def Vl{Q:Đ->ϲ}{r:Addr}{a b c:Int}{t u v:Tok}{n:Nat}(hh:lI)(I:IsRange s.heap r a b c t u v)(j:ab7 a b c)(hn:sL a b c=n)(z:n<=2 ^ 24)
    (hQ:∀(h':Heap)(tk:Nat)(acc:ŋ),(∀b o',cj8 o'->bJ7 o')->ItemsOf (λ i v=>∃t,v=bi0 (a+i * c)) acc n->Q acc.toList aI0) :
    rp w A (collect ↑r) Q E s:=by
  unfold collect;refine Cv (wpAny_runValue (tJ F.entry_proto_collect));rw[mi F.plain_proto_collect];show n5 A.in1 cf4 (λ l=>again (aD0 "list.__iadd__" (FI [l,æ r]))) _ _ s;refine Cv (wpAny_newObj_type ?_);refine Cz (İ (RD F.plain_list_iadd) (tJ F.entry_list_iadd));rw[mi F.plain_list_iadd];show Ş A.in1 (ag8 ↑r Ĺ) _ _ _;have L:aC9 (bX4 ĉ ([]:Đ)).get?>=(bE1 (.seq #[] 0)):=L7
  let G:ϲ:=λ s'=>∃h' tk d y,(∀b o,tf b->(bX4 ĉ ([]:Đ)).get? b>=o->cH6)/\be5 { cls:=aB8, dict:=none,data:=.seq d y,slots:=#[] }/\ItemsOf (λ i v=>∃t,v=bi0 (a+i * c)) d n/\s'=aI0
  have x:∀s',G s'->wpAny aJ6 A (match aC1 with
      |Value.ref a=>do
        match (<- load a).data with
          |Data.seq xs _=>î xs.toList
          |_=>bh1
      |_=>bh1) Q E s':=by
    rintro s' ⟨h',tk,d,y,k1,k2,k3,rfl⟩;show n5 A (load s.heap.objs.size) _ _ _ _;refine cT7 k2 ?_;refine sK;exact hQ h' tk d (λ b o' J=>k1 b o' (Bc (Ao J)) (om J)) k3
  refine wpAny_mono (wpAny_extend_range (A:=A) (R:=λ r s'=>r=.ok (.ret Ĺ)/\G s')
    (s:=bq1 (bX4 ĉ ([]:Đ))) hh (om I) j hn z _ _ 0 L λ h' tk d y k1 k2 k3=>⟨rfl,h',tk,d,y,k1,k2,k3,rfl⟩) (ĵ C s' h) (ĵ e s' h)
  . cases C with
    |done f=>obtain⟨e,g⟩:=h;cases e;exact x _ g
    |again y=>exact İ h.1 (codeAny_mono h.2 λ r O I=>wS rfl g I (x _ g))
  . exact Ĝ h.1 Ê
def xW{Q₁:C7}{r:Addr}{a b c:Int}{t u v:Tok}{n:Nat}(hh:lI)(z:IsRange s.heap r a b c t u v)(d:ab7 a b c)(hn:sL a b c=n)(o:n<=2 ^ 20)
  (h:∀(h':Heap) (tk:Nat) (acc:ŋ),(∀b o',cj8 o'->bJ7 o')->ItemsOf (λ i v=>∃t,v=bi0 (a+i * c)) acc n->Q₁ ↑h'.objs.size (en s (cV4 acc) tk)) :
  codeAny aJ6 A (.call (ϊ bA4) (FI [aw0, æ r])) (wants Q₁ E) s:=by
 refine codeAny_of_tree ?_;show Ş A.in1 (do checkBuiltinCall bA4 (FI [aw0, æ r]);again (aD0 bA4 (FI [aw0, æ r]))) _ _ s;refine Cv (wpAny_of_eq (F.newCall_tuple_1 _) (Cz (İ (RD F.plain_tuple_new) (tJ F.entry_tuple_new))));rw[mi F.plain_tuple_new];have C:=sub_tuple_self;have y:=init_tuple_lookup;have I:=madeHere_tuple;have x:ap8 r aS := bJ9 z
 wp_walk using wpAny_typeOf x,Vl (A:=A.in1) hh z d hn (aK6 o)
 intro h' tk acc G j;show n5 _ (AL acc.toList.toArray) (λ v=>ret v) _ _ _;unfold Builtin.Tuple.tupleExact;have sz:Ă n:=aK6 o;refine Cv (ED ?_ (by show Ă acc.toList.toArray.size;simp only[Array.toArray_toList];rw[j.1];exact sz));refine sK;have e:acc.toList.toArray=acc:=Ê
 rw[e];exact h h' tk acc G j
def Ku{Q:C7}{r:Addr}{a b c:Int}{t u v:Tok}{n:Nat}(hh:lI)(x:IsRange s.heap r a b c t u v)(d:ab7 a b c)(hn:sL a b c=n)(j:n<=2 ^ 20)
  (hQ:∀(h':Heap) (tk:Nat) (acc:ŋ),(∀b o',cj8 o'->bJ7 o')->ItemsOf (λ i v=>∃t,v=bi0 (a+i * c)) acc n->cw4 h'.objs.size (en s (cV4 acc) tk)) :
  rp w A (call aw0 [æ r]) Q E s:=by
 refine callType_codes (Q₁:=λ obj s₁=>s₁.TypeIs obj Ń /\ Q obj s₁) F.called_tuple (F.typeCall_tuple_1 _) F.entry_object_init
  (xW (A:=A.in1) hh x d hn j λ h' tk acc o e=>İ (bJ9 L7) (hQ h' tk acc o e)) (ĵ obj s₁ h₁)
 exact⟨h₁.1,F.args_object_init_2 obj _,object_init_meets F.called_tuple.init.lookup F.called_tuple.made Â prog w A.in1 _ s₁ (Ņ h₁.1 h₁.2)⟩
#where
#print PySem
namespace L2
open PySem PySem.Spec PyProof.Rows
section
variable{X:Cx}
def WO:∀{ns:Ŗ}{us:Đ},⇑us=F8->bd3 j u Value n Int (G1 us>=u->G1 ns>=n->∃t,u=bi0 n)->gd zw
 | [],[],_,_=>lS
 | [],_::_,h,_=>ē h
 |_::_,[],h,_=>ē h
 |n::ns,u::us,h,f=>ϗ (f 0 u n rfl rfl) (WO (Nat.succ.inj h) λ j v m a b=>f (j+1) v m a b)
def nR(a c:Int)(n:Nat):Ŗ:=tS n (λ(i:Nat)=>a+LT * c)
def QgG{a c:Int}{n:Nat}{acc:ŋ}(h:ItemsOf (λ i v=>∃t,v=bi0 (a+i * c)) acc n):Vals (tP (nR a c n) V.int) acc.toList:=by
 refine WO (fA nR h.1) (cR4 j u m h1 h2);obtain⟨t,e⟩:=h.2 j u bQ5;have d:j<n:=pV (ţ h2) nR
 have:m=a+bZ7 * c:=by simp[nR,d]at h2;exact h2.symm
 subst this;exact İ t e
def Qog{p p' pos c:Pos}(v:ND Ń)(x:c4 Ń)(G:ND aS)(J:c4 aS)(F:aT)(ha:PA X [a,b] ta)
    (hs:Ï [a,b]=[Ż a,Ż b]:=by rfl) (hs2:Ï [b]=[Ż b]:=by rfl) (hs3:Ï [EX aS p' [a,b] c]=[Ż (EX aS p' [a,b] c)]:=by rfl) :
    cr (bs0 Ń [EX aS p' [a,b] c]) (λ σ H Q=>ta σ H λ vs d=>∃i j:Int,vs=[dz,bI8]/\(-(2 ^ 62)<=i/\i<2 ^ 62 /\ -(2 ^ 62)<=j/\j<2 ^ 62)/\IL (j-i)<=2 ^ 20/\∀l,Ν (d l)->cw4 l (upd d l (ì (ww (nR i 1 (IL (j-i))))))):=by
  intro C s σ H Q I h;refine Hj (zP I v x boot_tuple ?_);refine df ?_ hs3 rfl;rw[hs3];show Ş _ (spliced (Ż (EX aS p' [a,b] c)::[])) _ _ s;refine at3 (Call_ (zP I G J boot_range (df (io (ha c C s σ H _ I h) us s1 vs d I1 r1 q1 ?_) (ϓ hs hs2) (ÿ hs2))));obtain⟨i,j,e,⟨q1,O,P,U⟩,E,q⟩:=q1;subst e;cases r1 with
  |cons r y =>
    cases y with
    |cons Z y =>
      cases y;obtain⟨t,rfl⟩:=r;obtain⟨t',rfl⟩:=Z;refine call_range_2 (au5 ?_);refine Ku (n:=IL (j-i)) (I1.ok.hd F) ba3 (small_one q1 O P U) aP1 E (cR4 h' tk acc k L)
      have z:cC1 C d (aH7 s1 tk):=I1.kept λ b o e=>k b o TU;have hf:Ν (d h'.objs.size):=z.hok.fresh đ;refine dr (æ h'.objs.size) (upd d h'.objs.size (ì (ww (nR i 1 (IL (j-i)))))) (z.laid (t':=tk) (λ b u e=>TU) đ ?_) (q _ hf);exact⟨by rw[Bm];simp only[nR,Bm,List.length_range];exact aK6 E,acc.toList,QgG L,t6 _ L7 _ rfl⟩
#where
#print L2
namespace D
open PySem PySem.Spec PyProof.Rows L2
def QiZ(l:Addr)(items:ŋ)(n:Nat)(i:ap1)(x:Int)(u:Tok)(c:¬œ (i7 (Builtin.List.listFitsIndex x)))(e:¬items.size * x.toNat > (2 ^ 63-1) / 8)(a:¬œ (aA0 (items.size * x.toNat))):
  Meets (Builtin.«list.__mul__» (FI [æ l,iA x u])) (λ_ R s=>č l { cls:=aB8, dict:=none,data:=.seq items n,slots:=i }/\R (.ok (.ret aC1)) (en s (Ō (ϳ cls (Nl ĉ) (Data.seq (List.foldl (λ j o=>j++o) #[] (ö (π items.isEmpty 0 x.toNat) items))))) s.toks)) :=
 .of_wp λ prog w A R s h=>by
  obtain⟨hp,g,d,tk,os⟩:=s;obtain⟨hl,h⟩:=h;have hsz:=PySem.AutoListH.joined_fits a
  wp_walk;refine wpAny_ite_false (C5 (Nat.not_lt.mpr hsz)) ?_;wp_walk;exact Ņ _ h
def QiP(a:Int)(t:Tok)(l:Addr)(items:ŋ)(n:Nat)(c:ap1):
  Meets (Builtin.«int.__rmul__» (FI [bi0 a,æ l])) (λ_ R s=>č l { cls:=aB8, dict:=none,data:=.seq items n,slots:=c }/\R (.ok (.ret Value.notImplemented)) s) :=
 .of_wp λ prog w A R s h=>by obtain⟨hp,g,d,tk,os⟩:=s;obtain⟨hl,h⟩:=h;wp_walk;exact Ņ _ h
def R1(v:Value):Œ n a ŋ ((ö n #[v]).foldl (λ c d=>c++d) a=a++au6 (ö n v))
  |0,a=>Ê
  |n+1,a=>by rw[List.replicate_succ,List.foldl_cons,R1 v n,List.replicate_succ];apply Array.ext';simp
section
variable{X:Cx}{tg e a b c:Expr}{f fa fb:aG}{pos:Pos}
def M0:EA ak6 (λ x y H Q=>∃l z n,x=æ l/\y=bo4/\rh X.K l [z]/\0<=n/\n.toNat<=ŀ/\∀p,cD1->cI1 (q7 p (aQ0 z))):=by
  intro O9 s σ H x y v u Q I rx ry h;obtain⟨l,z,n,rfl,rfl,hl,h0,h1,q⟩:=h;cases rx;obtain⟨t,rfl⟩:=ry;obtain⟨J,L,⟨⟨k1,C,o,d⟩,i,e1,c1,d1,j⟩,_⟩:=wy hl;simp only at c1 d1 j;subst c1 d1 j;cases L with
  |cons r O =>
    cases O;rename_i w;have hz:(([w]:Đ).toArray.size) * n.toNat=n.toNat:=Ê
    refine wpAny_binaryOp_repeat_ref (T := ĉ) (U := bl3) Â (bJ9 e1) (λ s'=>typeIs_int s' n t) noFill_list_mul F.fills_int_mul F.slot_int_rmul repeat_list F.slot_int_index.lookup
      (call_meets F.slot_int_rmul (typeIs_int s n t) F.entry_int_rmul (F.args_int_rmul_2 _ _) (QiP n t l _ i d)
        ⟨e1,rfl,bJ9 e1,call_meets F.slot_list_mul (bJ9 e1) F.entry_list_mul (F.args_list_mul_2 _ _)
          (QiZ l _ i d n t (by simp[Builtin.List.listFitsIndex];lia) (ĸ hz) (by rw[hz];simp[Builtin.List.listTooLong,sizeLine];lia))
          (CA e1)⟩)
    have E:List.foldl (λ Z x2=>Z++x2) #[] (ö (π ([w]:Đ).toArray.isEmpty 0 n.toNat) (au6 [w]))=au6 (aQ0 w):=by rw[aE3];have:=R1 w n.toNat #[];simpa using this
    rw[E];have P:Vals (aQ0 z) (aQ0 w):=by
      generalize n.toNat=m;induction m with
      |zero=>exact lS
      |succ m G=>exact ϗ r G
    exact dr (æ _) _ (I.lnew (t':=s.toks) P (Æ List.length_replicate (aK6 h1))) (q _ I.fresh)
def Dt:Rt
 |.lst [d],.int n=>do cz (0<=n/\n.toNat<=ŀ);am4 (aQ0 d)
 |x,y=>rD x y
def gj{K:Aa}(r:Pf z):∀n:Nat,i4 (ö n d) (ö n z)
 |0=>au.nil
 |n+1=>bc0 List.replicate au (t6 z _ r (gj r n))
def QqO:P2 X ak6 Dt:=by
 intro i s σ H x y v u Q I rx ry h;obtain⟨ρ,B,hp,G,J,d,hp',W,j,o,e,k⟩:=h;unfold Dt at e;split at e
 ·rename_i d0 n;obtain⟨_,hp1,e1,e2⟩:=Ū;obtain⟨r,rfl⟩:=aF2;obtain⟨rfl,rfl⟩:=bd;obtain⟨h0,h1⟩:=C4 r;obtain⟨l,vs,rfl,L,F,C⟩:=j.b_;obtain⟨z,rfl,E⟩:=C.bY;exact M0 i s σ H _ _ v u Q I rx ry ⟨l,z,n,rfl,o.bf,F,h0,h1,zi W (gj E _) k⟩
 ·exact LR i s σ H x y v u Q I rx ry ⟨ρ,B,hp,_,_,d,hp',W,j,o,e,k⟩
def Lh:Rt
  |.ref n,.lst ys=>do
    match <- LM with
    |.lst xs=>do ai9 (xs++ys);î (Fs xs ys)
    |_=>failure
  |x,y=>Zq x y
def QqL:P2 X ak5 Lh:=by
  intro i s σ H x y v u Q I rx ry h;obtain⟨ρ,B,hp,J,L,d,hp',W,z,C,e,k⟩:=h;unfold Lh at e;split at e
  . rename_i n ys
    obtain⟨o,hp1,e1,e2⟩:=Ū;obtain⟨e3,rfl⟩:=bb2;cases o with
    |aL _=>cases e2
    |ins _ _=>cases e2
    |lst xs =>
      obtain⟨_,hp1,E,e5⟩:=Fa;obtain⟨F,rfl⟩:=QJ E;obtain⟨rfl,rfl⟩:=Qm e5;obtain⟨l,rfl,_,vs,h1,j⟩:=df4 z;obtain⟨b,ws,rfl,O,G,r⟩:=C.b_;have hz:Ă (aE1+cR6):=av0 (jw F) Am Tl lP this
      exact M3 i s σ H _ _ v u Q I rx ry ⟨l,b,vs,ws,rfl,rfl,mP,G,hz,zi W (aq2 j r) k⟩
  . exact Z9 i s σ H x y v u Q I rx ry ⟨ρ,B,hp,_,_,d,hp',W,z,C,e,k⟩
def Bl(f:cB):aG:=FP (do let xs <- bb;let ds <- Dm xs;ai9 ds;î ny)
def Qbk{K:Aa}:∀ns:Ŗ,i4 Ϲ Ϲ
 | []=>au.nil
 |n::ns=>by rw[A9,A9];unfold au;exact t6 _ _ Js (Qbk ns)
def Qgk(i:Int)(n:Nat):ZL i n=ww (nR i 1 n):=fA ZL nR
def Qnm{f:cB}{p p' o:Pos}(x:c4 Ń)(I:c4 aS)(F:aT)(ha:DA X [a,b] f)(v:ND Ń := by rfl)(G:ND aS := by rfl)
  (y:Ï [a,b]=[Ż a,Ż b]:=by rfl) (hs2:Ï [b]=[Ż b]:=by rfl) (hs3:Ï [EX aS p' [a,b] o]=[Ż (EX aS p' [a,b] o)]:=by rfl) :
  cs6 Ń [EX aS p' [a,b] o] (Bl f) :=
 (Qog v x G I F ha y hs2 hs3).imp λ σ H Q z=>by
  obtain⟨Z,env,ρ,B,hp,d,hp',S,e,k⟩:=z;obtain⟨xs,hp1,e1,e2⟩:=Ū;obtain⟨ds,J,e3,C⟩:=Fa;obtain⟨i,j,rfl,h1,h2,rfl,rfl⟩:=Qjn e3;obtain⟨_,L,e5,E⟩:=Qg C;obtain⟨y,rfl⟩:=QJ e5;obtain⟨rfl,rfl⟩:=Qm E;refine au9 S (rr vs B1 H1 g1 S1 O ?_);have r:=C4 h1;have u:=C4 h2;have hl:IL (j-i)<=ŀ:=ir (C4 y) Xt this
  refine⟨i,j,O.ints2,⟨r.1,r.2,u.1,u.2⟩,aK6 hl,yO S1.wo (Qbk _) ?_⟩;rw[<- Qgk];exact bU1
#where
section
variable{X:Cx}{tg e a b c:Expr}{f fa fb:aG}{pos:Pos}
def tu:cm9
  |.lst ds=>î aC4
  |.tup ds=>î aC4
  |.ref n=>do
    match <- LM with
    |.lst ds=>î aC4
    |_=>failure
  |_=>failure
def vk{α β:rV}{xs:AU}{ys:Ã β}(h:ŝ=Tm):xs.isEmpty=ys.isEmpty:=by cases xs<;>cases ys<;>first|rfl|cases h
def QoW{K:Aa}{hp hp':Hs}{k:Bool}(W:bF0)(r:cm7)(h:Pp (tu d hp) k):hp=hp'/\Li K v H k:=by
  cases d with
  |lst ds=>obtain⟨rfl,rfl⟩:=cJ8;obtain⟨a,xs,rfl,x,j,i⟩:=r.b_;exact ā (ë ⟨xs,j,fN (vk cu8)⟩)
  |tup ds=>obtain⟨rfl,rfl⟩:=cJ8;obtain⟨a,xs,rfl,x,j,i⟩:=r.tupI;exact ā (mm ⟨xs,j,fN (vk cu8)⟩)
  |ref n =>
    obtain⟨o,hp1,e1,e2⟩:=Qg h;obtain⟨e3,rfl⟩:=bb2;cases o with
    |lst y=>obtain⟨rfl,rfl⟩:=bd;obtain⟨a,rfl,_,ys,h1,u⟩:=df4 r;exact ā (ë ⟨ys,mP,fN (vk ⇑u)⟩)
    |aL _=>cases e2
    |ins _ _=>cases e2
  |non=>cases h
  |bl _=>cases h
  |int _=>cases h
  |str _=>cases h
def zL(f:aG):cg:=FP (do tu (<- bb))
def Fo(h:cl0)(j:∀whole,cn0 e=bk1 v whole e.pos (OE [v] aR2):=by intro _;rfl):DT X e (zL f) :=
 (QlN h j).imp λ σ H Q i=>by obtain⟨Z,env,ρ,B,hp,d,hp',S,e,k⟩:=i;obtain⟨x,hp1,e1,e2⟩:=Ū;refine cN7 o;obtain⟨rfl,t⟩:=QoW S1.wo o e2;exact⟨d,t,k ρ1 B1 H1 g1 S1.wo⟩
def Pr(d:DV)(i hi:Ý):ġ:=match d with
  |.ref n=>do
    match <- LM with
    |.lst ds=>am4 (Vd ds i hi)
    |_=>failure
  |d=>iV d i hi
def oZ(f:aG)(i hi:lX):aG:=FP (aS8 d bb l (i env) h (hi env) (Pr d l h))
def Qt3(K:Aa):V->Ý->Ý->Hp->wp:=λ x i hi H Q=>∃ρ B hp d r hp',bF0/\Pf x/\Pp (Pr d i hi hp) r/\iM K ρ B H r hp' Q
def QsL:SlR X (Qt3 X.K):=by
  intro i s σ H x v vl vu lo hi sl Q I rx hs pl pu h;obtain⟨ρ,B,hp,d,r,hp',W,j,e,k⟩:=h;cases d with
  |ref n =>
    obtain⟨o,hp1,e1,e2⟩:=Ū;obtain⟨e3,rfl⟩:=bb2;cases o with
    |lst ds=>obtain⟨rfl,rfl⟩:=bd;obtain⟨a,rfl,_,xs,h1,u⟩:=df4 j;exact HR i s σ H _ v vl vu lo hi sl Q I rx hs pl pu (t6 a xs mP (zi W (vT u) k))
    |aL _=>cases e2
    |ins _ _=>cases e2
  |lst ds=>exact Ld i s σ H x v vl vu lo hi sl Q I rx hs pl pu ⟨ρ,B,hp,_,r,hp',W,j,e,k⟩
  |tup ds=>exact Ld i s σ H x v vl vu lo hi sl Q I rx hs pl pu ⟨ρ,B,hp,_,r,hp',W,j,e,k⟩
  |non=>cases e
  |bl _=>cases e
  |int _=>cases e
  |str _=>cases e
def WD{j hi:ak3}{r o:lX}(h:cl0)(hl:DO X j r)(hh:DO X hi o):ϟ (bV0 e (.Slice j hi none p2)) (oZ f r o) :=
 Pz (uY QsL h hl hh) (λ σ H Q z=>by obtain⟨Z,env,ρ,B,hp,d,hp',S,e,k⟩:=z;obtain⟨x,hp1,e1,e⟩:=Ū;obtain⟨l,C,e2,e⟩:=Ū;obtain⟨u,i,e3,e⟩:=Ū;refine cN6 E (mW.run S1 e2 λ ρ2 B2 H2 g2 S2=>mW.run S2 e3 (cR4 ρ3 y H3 g3 S3));exact⟨ρ3,y,i,x,d,hp',S3.wo,ϸ (bz3 g3) _ _ E,e,wv bU0⟩)
#where
#print D
namespace TP
def qn(n m:Nat):Nat:=(aO7+m-1) / m
def Jm{n m:Nat}(c:1<=m):1<=rS/\aO7<=rS * m/\(rS-1) * m<aO7:=by
 unfold qn;have a:=bA5 (aO7+m-1);have b:=Nat.mod_lt (aO7+m-1) (show 0<m by omega);have e:m * ((aO7+m-1) / m)=(aO7+m-1) / m * m:=Nat.mul_comm _ _;have h1:1<=(aO7+m-1) / m:=by rw[Nat.le_div_iff_mul_le EC];omega
 refine mY h1 EC;have:((aO7+m-1) / m-1) * m=(aO7+m-1) / m * m-m:=NU Nat.sub_mul
 omega
def sx(n m:Nat)(fork:Bool)(k:Nat):Nat:=CY k rS n (É (bD3/\1<rS/\n=(rS-1) * m+1/\k+1=rS) (k * m-1) (k * m))
def Fe(n m:Nat)(fork:Bool):sx n m fork rS=n:=ŵ sx cq
def Nt{n m:Nat}(a:1<=m)(fork:Bool):sx n m fork 0=0:=by
 have:=(bA6 n a).1;unfold sx;rw[fw];split
 ·lia
 ·lia
def HQ{n m k:Nat}(h:k<rS):sx n m false k=k * m:=cY8 fw aE3
abbrev Rw:=â Int Int
def Zm(rows:Rw)(m:Nat)(fork:Bool)(k:Nat):Rw:=(rows.drop (aM3 m fork k)).take (aM3 m fork (k+1)-aM3 m fork k)
def QfD{rows:Rw}{m k:Nat}(a:1<=m)(h:k<Ix):Zm rows m false k=(rows.drop (k * m)).take m:=by
 obtain⟨h1,h2,h3⟩:=bA6 rows.length a;unfold Zm;rw[HQ h];by_cases e:k+1=Ix
 ·rw[e,Fe];have c:k * m=(Ix-1) * m:=fJ e
  have h4:Ix * m=k * m+m:=by rw[<- e,Nat.add_mul,Nat.one_mul]
  rw[Hu (Æ Bk đ),Hu (ĸ Bk)]
 ·rw[HQ À,Nat.add_mul,Nat.one_mul];congr 1;lia
def Ls{n m:Nat}(a:1<=m){fork:Bool}(hf:bD3->3<=m)(hn:1<=n){k:Nat}(h:k<rS):sx n m fork k<sx n m fork (k+1):=by
 obtain⟨h1,h2,h3⟩:=bA6 n a;have e1:(k+1) * m=k * m+m:=T0
 unfold sx;rw[Cw (EC:¬ k=rS)];by_cases e:k+1=rS
 ·rw[aY0];have d:k * m=(rS-1) * m:=fJ e
  split<;>omega
 ·rw[ay0,Cw EC];by_cases c:bD3/\1<rS/\n=(rS-1) * m+1/\k+1+1=rS
  ·rw[cS3];have:=hf c.1;omega
  ·rw[Cw c];omega
def Lw{n m:Nat}(a:1<=m)(fork:Bool){k:Nat}(h:k<=rS)(hn:1<=n):sx n m fork k<=n:=by
 obtain⟨h1,h2,h3⟩:=bA6 n a;unfold sx;by_cases e:k=rS
 ·rw[aY0];exact đ
 ·rw[ay0];have:k * m<=(rS-1) * m:=dd4;split<;>lia
def qp{rows:Rw}{m:Nat}(c:1<=m){fork:Bool}(hf:bD3->3<=m)(hn:ab8 1){k:Nat}(h:k<Ix):⇑(Zm rows m fork k)=aM3 m fork (k+1)-aM3 m fork k/\1<=⇑(Zm rows m fork k):=by have a:=Ls c hf hn h;have b:=Lw (n:=rows.length) c fork (k:=k+1) À hn;unfold Zm;rw[A7,Bk];lia
def wY(n m:Nat):Ċ:=CY (n % m) 1 (ö (n / m-1) m++[m-1,2]) (É (0<n % m) (ö (n / m) m++[n % m]) (ö (n / m) m))
def uL(q m:Nat)(f:et)(h:∀k,k<q->f k=m):tS q f=ö q m:=by rw[List.eq_replicate_iff];refine İ Ê (ż b a);obtain⟨k,c,rfl⟩:=cy5 a;exact h k (bc1 c)
def Qnd{n m:Nat}(G:3<=m)(hn:2<=n):wY n m=tS rS (λ k=>sx n m true (k+1)-sx n m true k):=by
 obtain⟨h1,h2,h3⟩:=bA6 n (Ő (1<=m));have C:aO7=n:=À
 rw[C]at h2 h3;have u:=bA5 n;have lt:=Nat.mod_lt n (Ő (0<m));have F:m * (n / m)=n / m * m:=Nat.mul_comm _ _;have i:∀k:Nat,(k+1) * m=k * m+m:=λ k=>T0
 have d:rS=CY (n % m) 0 (n / m) (n / m+1):=by
  have low:∀x:Nat,(x-1) * m<n->n<=x * m->1<=x->x=rS:=λ x a b c=>by
   rcases Nat.lt_trichotomy x rS with l|l|l
   ·have:x * m<=(rS-1) * m:=dd4;lia
   ·exact l
   ·have:rS * m<=(x-1) * m:=dd4;lia
  by_cases r:n % m=0
  ·rw[Cy r];have q1:1<=n / m:=by
    rcases at5 (n / m)with z|z
    ·rw[z,Nat.mul_zero]at u;lia
    ·exact z
   have:=i (n / m-1);rw[aa2]at this;exact(low _ À À q1).symm
  ·rw[Cw r];exact(low _ (ĸ Nat.add_sub_cancel) (ĸ i) (Nat.le_add_left 1 _)).symm
 unfold wY;by_cases y:n % m=1
 ·rw[Cy y];rw[fw]at d;have q1:1<=n / m:=by
   rcases at5 (n / m)with z|z
   ·rw[z,Nat.mul_zero]at u;lia
   ·exact z
  have e:rS=(n / m-1)+1+1:=À
  have o:n=(rS-1) * m+1:=by rw[d];simp;lia
  have s:∀k,k+1<rS->sx n m true k=k * m:=λ k h=>cY8 fw fw
  have E:sx n m true (n / m)=n / m * m-1:=cY8 fw (Cy ⟨rfl,À,o,À⟩)
  have j:=Fe n m true;rw[e,List.range_succ,List.range_succ,List.map_append,List.map_append,uL (n / m-1) m _ (λ k v=>by rw[s k À,s (k+1) À,i];lia)];have m1:=i (n / m-1);rw[aa2]at m1;simp only[A9,List.map_nil,Az,List.cons_append,List.nil_append];congr 1;rw[aa2,s (n / m-1) À,E,Ő (n / m+1=rS),j];congr 1
  ·lia
  ·congr 1;lia
 ·rw[Cw y];have s:∀k,k<rS->sx n m true k=k * m:=λ k h=>by
   unfold sx;rw[fw,Cw ?_];rintro⟨_,_,c,_⟩;by_cases r:n % m=0
   ·rw[Cy r]at d;have q1:1<=n / m:=À
    have m1:=i (n / m-1);rw[aa2]at m1;rw[d]at c;lia
   ·rw[Cw r]at d;rw[d]at c;simp at c;lia
  have j:=Fe n m true;by_cases r:0<n % m
  ·rw[Cy r];rw[fw]at d;rw[d,List.range_succ,List.map_append,uL (n / m) m _ (λ k v=>by rw[s k À,s (k+1) À,i];lia)];congr 1;simp only[A9,List.map_nil];rw[<- d,j,s (n / m) À];congr 1;lia
  ·rw[Cw r];rw[aE2]at d;have q1:1<=n / m:=À
   rw[d];refine(uL (n / m) m _ (ż k v)).symm;rw[s k À];by_cases e:k+1=rS
   ·rw[e,j];have:rS * m=k * m+m:=cW6 e i
    rw[d]at this;lia
   ·rw[s (k+1) À,i];lia
def YO(rows:Rw)(m:Nat)(fork:Bool)(k:Nat):Int:=((Zm rows m fork k).headD (0,0)).1
def xt(rows:Rw)(m:Nat)(fork:Bool)(first:Nat):Rw:=tS Ix (λ k=>(YO rows m fork k,Î (first+k:Nat)))
def KQ(rows:Rw)(m:Nat)(fork:Bool)(first:Nat):⇑(xt rows m fork first)=Ix:=Ģ xt
def Hb{n m:Nat}(a:2<=m)(hn:2<=n):rS<n:=by
 obtain⟨h1,h2,h3⟩:=bA6 n (Ő (1<=m));have c:aO7=n:=À
 rw[c]at h3;have:(rS-1) * 2<=(rS-1) * m:=Δ a;lia
#print TP
namespace D
open PySem PySem.Spec PyProof.Rows L2
def RV(ds:Û)(a b:Nat)(h:a<=b):D.Vd ds (iL a) (iL b)=(cM5).take (b-a):=by
 unfold D.Vd;rw[HT.sIx_nat,HT.sIx_nat];rcases bb1 a ã with q|q
 ·rw[aL7 q];rcases bb1 b ã with c|c
  ·rw[aL7 c]
  ·rw[aD5 c,Hu Ê,Hu ŉ]
 ·rw[aD5 q,aa5 q,aa5 đ];simp
section
variable{env:En}{hp hp1 hp2 hp3:Hs}{f g h:aG}{ds:Û}{d:DV}
def Qmg{a b:Nat}(hf:aE>=(hV,hp))(e:aI4>=(Ć a,hp))(hh:h env hp>=(Ć b,hp))(c:a<=b):bK f aD4 (Zh h) env hp>=(Ð ((cM5).take (b-a)),hp):=by
 unfold bK Zh;rw[bb3];have e1:(oE i cK1 bh5:M Ý) hp>=(iL a,hp):=ÿ (Qe e)
 have e2:(oE i (cK0 (h env)) bh5:M Ý) hp>=(iL b,hp):=ÿ (Qe hh)
 rw[IE,cf9,<- RV ds a b c];rfl
def QoU{a:Nat}(hf:aE>=(hV,hp))(c:aI4>=(Ć a,hp)):bK f aD4 Zy env hp>=(Ð cM5,hp):=by
 unfold bK Zh Zy;rw[bb3];have e1:(oE i cK1 bh5:M Ý) hp>=(iL a,hp):=ÿ bz5
 rw[IE,Qe (rfl:(bd7:M Ý) hp>=(none,hp)),<- xX ds a];rfl
def QjB{a b:Nat}(hf:aE>=(d,hp))(e:aI4>=(Ć a,hp))(hh:h env hp>=(Ć b,hp))(c:a<=b)(hd:d=hV∨∃n,d=O0/\cn7):oZ f aD4 (Zh h) env hp>=(Ð ((cM5).take (b-a)),hp):=by
 unfold oZ Zh;rw[bb3];have e1:(oE i cK1 bh5:M Ý) hp>=(iL a,hp):=ÿ (Qe e)
 have e2:(oE i (cK0 (h env)) bh5:M Ý) hp>=(iL b,hp):=ÿ (Qe hh)
 rw[IE,cf9,<- RV ds a b c];rcases hd with rfl|⟨n,rfl,hn⟩
 ·rfl
 ·show(LM >>= _) hp=_;rw[be7];rfl
def Qmt{a n:Nat}(hf:aE>=(O0,hp))(hn:cn7)(c:aI4>=(Ć a,hp)):oZ f aD4 Zy env hp>=(Ð cM5,hp):=by
 unfold oZ Zh Zy;rw[bb3];have e1:(oE i cK1 bh5:M Ý) hp>=(iL a,hp):=ÿ bz5
 rw[IE,Qe (rfl:(bd7:M Ý) hp>=(none,hp)),<- xX ds a];show(LM >>= _) hp=_;rw[be7];rfl
def Y3{i:Nat}(hf:aE>=(hV,hp))(a:aI4>=(Ć i,hp))(hd:aI6):B6 f g env hp>=(d,hp):=by
 refine Qk hf a ?_;show bB hV cM8 hp=_;rw[QnI (d:=d)]
 ·rfl
 ·rw[x_ À (ī (ţ hd))];exact hd
def Z6{i:Nat}(hf:aE>=(ny,hp))(a:aI4>=(Ć i,hp))(hd:aI6):B6 f g env hp>=(d,hp):=Qk hf a (Jb hd hp)
def zO{i n:Nat}(hf:aE>=(O0,hp))(hn:cn7)(a:aI4>=(Ć i,hp))(hd:aI6):B6 f g env hp>=(d,hp):=Qk hf a (yQ hn hd)
def j2(hf:aE>=(hV,hp)):aq8 ZD f env hp>=(db1,hp):=g8 hf (SH ds hp)
def JA{n:Nat}(hf:aE>=(O0,hp))(hn:cn7):aq8 ZD f env hp>=(db1,hp):=g8 hf (uE hn)
def vh{i j:Int}(hf:aE>=(dz,hp))(a:aI4>=(bI8,hp)):Qh Zq f g env hp>=(Ì (i+j),hp):=bP3 hf a
def vt{i j:Int}(hf:aE>=(dz,hp))(a:aI4>=(bI8,hp)):Qh qS f g env hp>=(Ì (i-j),hp):=bP3 hf a
def jL{i j:Nat}(hf:aE>=(Ć i,hp))(a:aI4>=(Ć j,hp)):Qh Zq f g env hp>=(Ć (i+j:Nat),hp):=Ϝ (vh hf a)
def ud{i j:Int}(hf:aE>=(dz,hp))(a:aI4>=(bI8,hp)):Qh dh f g env hp>=(dd1 j i,hp):=bP3 hf a
def W_{i j:Int}(hf:aE>=(dz,hp))(a:aI4>=(bI8,hp)):Qh cC f g env hp>=(dd1 i j,hp):=bP3 hf a
def M9{i j:Int}(hf:aE>=(dz,hp))(a:aI4>=(bI8,hp)):Qh bM f g env hp>=(Ζ (i==j),hp):=Qk hf a (rR i j hp)
def yI{nw:Bool}{a:lF}{idx:Ċ}{t:cg}{e:aG}{m:Rq DV}(i:a env hp>=(Ff,hp))(j:∀x∈ds,t (aP3 x) hp>=cI8)(c:∀x∈ds,e (aP3 x) hp>=(m x,hp))(hl:ã<ŀ):Z5 false a idx t e env hp>=(Ð (Af m),hp):=Ϭ Z5 (Qe i) (cb4 (Qiu (t:=λ d=>t aP4) (f:=λ d=>e aP4) ds j c hl))
def v_{i:Nat}(hf:aE>=(d,hp1))(ha:di0)(hl:ã<ŀ):wR i f env hp>=(Ŭ (aC3 (ds++[d])),hp1):=by unfold wR;rw[bb3];simp only[ha];rw[Cy (é (ã<lim) hl)];rfl
#where
def MH{b:bV2}(J:bq6)(hp:Hs)(ds:Û)(c:∀(i:Nat) d,aI6->b d (J i) hp>=(EV (i+1),hp)):jU b ds ap6 hp>=(df6,hp):=by
  suffices h:∀(m i:Nat),m+i=ã->jU b bq8 (J i) hp>=(df6,hp)by simpa using h ã 0 rfl
  intro m;induction m with
  |zero =>
    intro i e;have:i=ã:=À
    subst this;rw[Co];rfl
  |succ m j =>
    intro i e;have a:i<ã:=À
    rw[Bf a,MG (c i ds[i] bz4)];exact j (i+1) À
def Qkz{b:bV2}(J:bq6)(W:de2)(ds:Û)(c:∀(i:Nat) d,aI6->b d (J i) al8>=(EV (i+1),W (i+1))):jU b ds ap6 bn1>=(df6,W ã):=by
  suffices h:∀(m i:Nat),m+i=ã->jU b bq8 (J i) al8>=(df6,W ã)by simpa using h ã 0 rfl
  intro m;induction m with
  |zero =>
    intro i e;have:i=ã:=À
    subst this;rw[Co];rfl
  |succ m j =>
    intro i e;have a:i<ã:=À
    rw[Bf a,MG (c i ds[i] bz4)];exact j (i+1) À
def ja{b:bV2}(J:bq6)(W:de2)(ds:Û)(hl:ã<ŀ)(a:∀(i:Nat) d,aI6->b d (J i) al8>=(EV (i+1),W (i+1))):yf Ff b ŀ 0 ap6 bn1>=(df6,W ã):=by
 have:=RS (b:=b) (env:=ap6) (hp:=bn1) (Q:=λ r h=>r=df6/\h=W ã) ds (λ i env h=>env=J i/\h=al8) hl ed (λ i d hd env h ⟨e1,e2⟩=>by subst e1 e2;exact WP.of (a i d hd) ed) (λ env h ⟨e1,e2⟩=>İ bT2 e2)
 obtain⟨r,h,e,rfl,rfl⟩:=this;exact e
def nT(rows:TP.Rw)(m:Nat)(fork:Bool)(k:Nat):DV:=match hF m fork k with
 | []=>Ę
 |r::_=>Ì r.1
def sO(rows:TP.Rw)(m:Nat)(fork:Bool)(k:Nat):DV:=db7 ((hF m fork k).drop (É fork 1 0)) r r.1
def K2(rows:TP.Rw)(m:Nat)(fork:Bool)(k:Nat):DV:=db7 (hF m fork k) r r.2
def XH(rows:TP.Rw)(m:Nat)(fork:Bool)(k:Nat):DV:=ì [nT rows m fork k,sO rows m fork k,K2 rows m fork k]
def Je(rows:TP.Rw)(m:Nat)(fork:Bool):Û:=cH3 NO m fork
def Gw(rows:TP.Rw)(m:Nat)(fork:Bool)(lv first:Nat)(k:Nat):DV:=ì [Ì lv,sO rows m fork k,K2 rows m fork k,CY (k+1) NO Ę (nT rows m fork (k+1)),CY (k+1) NO Ę (Ć (first+(k+1):Nat))]
def Xr(rows:TP.Rw)(m:Nat)(fork:Bool)(lv first:Nat):Û:=tS NO (Gw rows m fork lv first)
def jm{n i:Nat}{f:d9 DV}(h:i<n):Ϥ (tS n f) (f i):=Ũ Bq (Eg h)
def QlE(r:TP.Rw)(a:Nat):(aQ r).drop a=aQ (r.drop a):=ŵ aQ List.map_drop
def QlF(r:TP.Rw)(a:Nat):(aQ r).take a=aQ (r.take a):=ŵ aQ List.map_take
def HA(r:TP.Rw)(g:Rq DV):tP (aQ r) g=r.map λ p=>g (ì [Ì oB,Ì p.2]):=õ aQ List.map_map
def Ln:Rq DV
 |.tup (x::_)=>x
 |_=>Ę
def QtU:Rq DV
 |.tup (_::y::_)=>y
 |_=>Ę
def QmB{c:cg}{n:Nat}(h:aS3>=(ź hp)):J7 c b (n+1) env hp>=(m4,hp):=vv h
#print D
namespace TR
def prs(p:Pg):â Int Int:=OH
def fZ{xs ys:Ŗ}{a b:Int}:(a,b)∈xs.zip ys↔∃i:Nat,Ϥ xs a/\Ϥ ys b:=by
 rw[List.mem_iff_getElem?];constructor
 ·rintro⟨i,h⟩;have:=ag9 h;exact⟨i,this.1,this.2⟩
 ·rintro⟨i,h1,h2⟩;exact İ i (List.getElem?_zip_eq_some.mpr (İ h1 h2))
def Hk{p:Pg}{k v:Int}(h:(k,v)∈prs p):k∈p.ks:=aa0 i h1 (fZ.mp h) (Av h1)
section
variable{S:Sh}{bg:Bg}{n:Nat}{p P:Pg}{k v:Int}{F:Int->Ý}
#where
def Qgj{p:Pg}(h:p.ks.Pairwise AI):(prs p).Pairwise (λ x y=>x.1<y.1):=by
 rw[List.pairwise_iff_getElem]at h ⊢;intro i j hi d c;have a:(prs p)[i].1=p.ks[i]'(by have:=hi;simp[prs]at this;lia):=Ģ prs
 have b:(prs p)[j].1=p.ks[j]'(by have:=d;simp[prs]at this;lia):=Ģ prs
 rw[a,b];exact h i j _ _ c
section
variable{S S':Sh}{bg:Bg}{n:Nat}{p P:Pg}{w w':Wk}{F:Int->Ý}{r:Row}
#where
def Kd(S:Sh)(c:Nat):ç:=bE7 m (ct6/\0<q.lv/\aY7∈q.ps)
def Tells(ws:aG7)(c:Nat):ç:=wu i w Wk (bs2/\gu/\cm6/\bi8 c)
def nF(S:Sh)(ws:aG7):ç:=∀n:Nat,n<Ú->n≠S.top->Kd S n∨Tells ws n
section
variable{S S':Sh}{bg:Bg}{n:Nat}{p P:Pg}{w w':Wk}{r:Row}{ws:aG7}{i:Nat}
def SW{w:Wk}(hn:hU>=p)(hl:P.lv=p.lv)(a:bj5->∀x∈p.ps,cI5 x){c:Nat}(h:Kd S c∨(0<P.lv/\cI5 aY7)):Kd (QU S w n P).2.1 c:=by
 have ln:=cY1;have key:bE7 m (m≠n/\ct6/\0<q.lv/\aY7∈q.ps)∨(0<P.lv/\cI5 aY7):=by
  rcases h with ⟨m,q,h1,h2,h3⟩|h
  ·by_cases e:m=n
   ·subst e;rw[hn]at h1;cases h1;exact mf À (a h2 _ h3)
   ·exact ë ⟨m,q,e,h1,h2,h3⟩
  ·exact Ĉ h
 unfold QU;by_cases d:Ϩ<=S.O4
 ·rw[Cy d];rcases key with ⟨m,q,e,h1,h2,h3⟩|⟨h1,h2⟩
  ·exact⟨m,q,rj ((FU n P)[m]?=_) (Ak (λ x=>e x.symm)) h1,h2,h3⟩
  ·exact⟨n,P,Fh ((FU n P)[n]?=_) (As ln),h1,h2⟩
 ·rw[Cw d];rcases key with ⟨m,q,e,h1,h2,h3⟩|⟨h1,h2⟩
  ·exact⟨m,q,rj (bg2 [LN] n m=_) (Ak (λ x=>e x.symm)) (qg h1),h2,h3⟩
  ·rw[<- List.take_append_drop PU P.ps]at h2;rcases A6 h2 with h|h
   ·exact⟨n,Y1,Fh (bg2 [LN] n n=_) (As ŉ),h1,h⟩
   ·exact⟨Ú,LN,by show bg2 [LN] n Ú=_;rw[Ak À];simp,h1,h⟩
def Tells.other{c:Nat}(h:Tells ws c)(hi:bs2)(o:gu->cm6->w.O1≠cs3):Tells ax3 c:=by
 obtain⟨j,v,a,b,d,e⟩:=h;have ne:j≠i:=λ z=>by subst z;rw[hi]at a;cases a;exact o b d e
 exact⟨j,v,Æ (Ak (λ x=>ne x.symm)) a,b,d,e⟩
def Tells.self{c:Nat}(hi:bs2)(h1:as4)(h2:0<w'.O6)(h3:w'.O1>=c):Tells ax3 c :=
 ⟨i,w',As (QY hi),h1,h2,h3⟩
def Qc7{w:Wk}(S:Sh)(n:Nat)(P:Pg)(h:S.O4<Ϩ)(a:gu):ć (QU S w n P).2.2.O7/\0<(QU S w n P).2.2.O6/\(QU S w n P).2.2.O1>=Ú:=Ϭ QU fw (υ a ah0)
def Qgw{w:Wk}(S:Sh)(n:Nat)(P:Pg){c:Nat}(a:c<ae1 (QU S w n P).2.1):c<Ú∨(c=Ú/\S.O4<Ϩ):=by
 unfold QU at a;by_cases d:Ϩ<=S.O4
 ·rw[Cy d]at a;exact ë (Ë a)
 ·rw[Cw d]at a;have:c<Ú+1:=Ë a
  rcases Be c Ú with h|h
  ·exact aV0
  ·exact mf À À
def Qgx{w:Wk}(S:Sh)(n:Nat)(P:Pg):aJ7 (QU S w n P).2.1.top:=ac0 QU
def nF.step(D:nF S ws)(T:qv)(W:cF4)(hi:bs2)(U:gu)(hs:Xm S w>=(r,S',w')):nF S' ax3:=by
  have still:∀{x:Wk}{J:Sh},J.pg=S.pg->aJ7 J.top->(gu->cm6->ć x.O7/\x.O6=w.O6/\x.O1=w.O1)->nF J (EJ x):=λ{x J} e1 e2 e3 c o u=>by
    rw[e1]at o;rw[e2]at u;rcases D c o u with ⟨m,q,h⟩|⟨j,v,a,b,d,e⟩
    . exact ë ⟨m,q,Æ e1 h⟩
    . by_cases z:j=i
      . subst z;rw[hi]at a;cases a
        obtain⟨O,f2,Q⟩:=e3 b d;exact Ĉ (Tells.self hi O À (Q.trans e))
      . exact Ĉ ⟨j,v,Æ (Ak (λ x=>z x.symm)) a,b,d,e⟩
  have C:∀{p:Pg}(_:Nn ñ p)(I:Wk)(P:Pg),ć I.O7->P.lv=p.lv->(bj5->∀x∈p.ps,cI5 x)->(∀c,cm6->bi8 c->0<P.lv/\cI5 aY7)->nF (QU IB I ñ P).2.1 (EJ (QU IB I ñ P).2.2):=λ{p} hp I P e0 hl E G c o u=>by
    rw[Qgx]at u;rcases Qgw _ ñ P o with o|⟨o,F⟩
    . rcases D c o u with h|h
      . exact ë (SW (S:=IB) hp hl E aV0)
      . by_cases z:bi8 c/\cm6
        . exact ë (SW (S:=IB) hp hl E (Ĉ (G c z.2 z.1)))
        . exact Ĉ (h.other hi λ_ a b=>z (İ b a))
    . obtain⟨O,f2,Q⟩:=Qc7 (w:=I) IB ñ P F e0
      exact Ĉ (Tells.self hi O f2 (Æ Q (dg1 o.symm)))
  cases Ge U hs with
  |@raised p k hp hr L =>
    intro c o u;have o:c<Ú+1:=Ë o
    have u:c≠Ú:=u;have tV:(FC [(CC (p.lv+1) ba2 [je,IS]:Pg)])[Ú]?>=(CC (p.lv+1) ba2 [je,IS]):=Ê
    by_cases e:(aJ7 c)
    . exact ë ⟨Ú,_,tV,ah0,Ģ e⟩
    by_cases e':c=k
    . exact ë ⟨Ú,_,tV,ah0,Ģ e'⟩
    rcases D c À e with ⟨m,q,h1,h2,h3⟩|h
    . exact ë ⟨m,q,qg h1,h2,h3⟩
    . exact Ĉ (h.other hi λ_ _ h=>ID L h (e' (bv3 h)))
  |side n s=>exact still rfl rfl λ a _=>Ņ a rfl
  |down n c f=>exact still rfl rfl λ a _=>Ņ a rfl
  |@told p k m hp hr h0 L =>
    have hg:cS6:=by
      cases e:w.place with
      |some n=>obtain⟨p',Z,b2,_⟩:=aM0 e;rw[e]at hp;have hp:hU>=p:=hp;rw[hp]at Z;cases Z;exact b2
      |none=>exact Ck λ h=>hr (İ e h)
    refine C hp w (OW p k) U rfl (λ_ x hx=>?_) λ c _ o=>CA (dm bj5)
    . show x∈OU (P3+1)++IS::ad9 (P3+1)
      rw[<- List.take_append_drop (P3+1) p.ps]at hx;rcases cm3 with h|h
      . exact aE5 h
      . exact Ai _ (cT2 h)
    . rw[L]at o;cases o
      show IS∈OU (P3+1)++IS::ad9 (P3+1);simp
  |found n x g0 hd=>exact still rfl rfl λ_ h=>Ĝ h À
  |@put p m k x y hd hp l0 g0=>exact C hp (ca0 y) (aL9 p x) U rfl (λ h=>Ĝ h À) λ c h=>Ĝ h À
  |@cut p m y b hp l0 g0 hd =>
    cases b with
    |false=>exact still rfl rfl λ_ h=>Ĝ h À
    |true =>
      intro c o u;have o:c<Ú:=Ë o
      rcases D c o u with ⟨j,q,h1,h2,h3⟩|h
      . have e:j≠ñ:=λ e=>by rw[e,hp]at h1;cases h1;lia
        exact ë ⟨j,q,rj (G1 (FU ñ (bm3 p))=_) (Ak (λ x=>e x.symm)) h1,h2,h3⟩
      . exact Ĉ (h.other hi λ_ a=>Ĝ a À)
  |last n ps g0 hd=>exact still rfl rfl λ_ h=>Ĝ h À
  |next hp hx g0 hd=>exact still rfl rfl λ_ h=>Ĝ h À
def nF.put(D:nF S ws)(hi:∀v,aV9 v->œ v.O7)(w:Wk):nF S (EJ w):=λ c u y=>(D c u y).imp id λ o=>by
 obtain⟨j,v,a,b,d,e⟩:=o;have ne:j≠i:=λ z=>On z (hi v a) b b
 exact⟨j,v,Æ (Ak (λ x=>ne x.symm)) a,b,d,e⟩
#where
def Fk(S:Sh):ç:=F0 n p (hU>=p->bj5->1<=ϖ)
section
variable{S S':Sh}{bg aR:Bg}{n f:Nat}{p q P:Pg}{w w':Wk}{r:Row}{a k:Int}{F:Int->Ý}
def Fk.settle(K:Fk S){w:Wk}(hn:hU>=p)(hl:P.lv=p.lv)(h1:0<P.lv->1<=Ϩ)(h3:S.O4<Ϩ->3<=Ϩ):Fk (QU S w n P).2.1:=by
 unfold QU;by_cases d:Ϩ<=S.O4
 ·rw[Cy d];intro m q c h0;rcases Zd c with ⟨rfl,rfl,_⟩|⟨_,h⟩
  ·exact h1 h0
  ·exact K m q h h0
 ·rw[Cw d];have e:=h3 À;intro m q c h0;rcases Zd (xs:=FC [LN]) c with ⟨rfl,rfl,_⟩|⟨_,h⟩
  ·show 1<=⇑dh1;rw[A7];unfold mid;lia
  ·rcases QX h with ⟨rfl,rfl⟩|h
   ·show 1<=⇑aa6;have h0:0<P.lv:=h0;rw[Bk];unfold Z3;rw[fw];unfold mid;lia
   ·exact K m q h h0
def Fk.step(K:Fk S)(T:qv)(d:Xm S w>=(r,S',w')):Fk S':=by
  have z:=T.aX;cases i:w.O7 with
  |true=>unfold Xm at d;rw[Cy i]at d;cases d;exact K
  |false =>
    cases Ge i d with
    |raised hp j o =>
      intro m q e h0;rcases QX e with ⟨rfl,rfl⟩|h
      . exact đ
      . exact K m q h h0
    |side n s=>exact K
    |down n c f=>exact K
    |@told p k n hp j v o =>
      exact Fk.settle (S:=IB) K hp rfl (λ_=>by show 1<=⇑(_++_::_:Ŗ);rw[Am,A8];lia) (λ h=>by have h:S.O4<f8 (OW p k):=h;lia)
    |found n x g0 hd=>exact K
    |@put p n k x y hd hp u g0 =>
      exact Fk.settle (S:=IB) K hp rfl (λ_=>by show 1<=⇑(_++_::_:Ŗ);rw[Am,A8];lia) (λ h=>by have h:S.O4<f8 (aL9 p x):=h;lia)
    |@cut p n y b hp u g0 hd =>
      cases b with
      |false=>exact K
      |true =>
        intro m q e h1;rcases Zd e with ⟨rfl,rfl,_⟩|⟨_,h⟩
        . have:bj5:=h1
          lia
        . exact K m q h h1
    |last n ps g0 hd=>exact K
    |next hp hx g0 hd=>exact K
#where
section
variable{S S':Sh}{bg aR:Bg}{n f:Nat}{p q P:Pg}{w w':Wk}{r:Row}{a k:Int}{F F':Int->Ý}{R:Nat}
def JF(S:Sh)(l:Nat):Nat:=cF0 (cU S λ x=>FY x l)
def Nj{l:Nat}(h:hU>=p)(hl:cr5 l):n∈CD AF (cU S λ x=>FY x l) :=
 Bj.mpr (İ (cv7 (QY h)) (cK4 h hl))
def BD{l:Nat}(h:hU>=p)(hl:cr5 l):1<=JF S l:=List.length_pos_of_mem (Nj h hl)
def Tree.lq(T:qv)(e:ai0 p)(d:∀j,0<j->j<=p.lv->bE7 f (No f/\q.lv=j)):JF S 0+p.lv<=Ú:=by
  obtain⟨z,c,o⟩:=T.root;rw[e]at c;cases c;have a:=Qa0 (S:=S) (L:=p.lv) o;have key:∀R,R<=p.lv->JF S 0+R<=cF0 (cU S λ x=>LU x (R+1)):=by
    intro R;induction R with
    |zero=>intro _;rw[yJ,vS];unfold JF;lia
    |succ R i=>intro h;have:=i À;obtain⟨f,q,u,v⟩:=d (R+1) À h;have:=BD u v;rw[yJ];unfold JF at *;lia
  have:=key p.lv đ;lia
#where
def BM(L:Eb):ç:=L.Pairwise (λ x y=>x.1<y.1)
def oW(S:Sh)(n:Nat):â Int Int:=match hU with
 |some p=>prs p
 |none=>[]
def uB(S:Sh)(r:Ċ):â Int Int:=r.flatMap (oW S)
section
variable{S S':Sh}{bg aR:Bg}{F:Int->Ý}
#where
section
variable{S S':Sh}{bg aR:Bg}{n f:Nat}{p q P:Pg}{w w':Wk}{r:Row}{a k:Int}{F F':Int->Ý}{R:Nat}
def SG(g:bm8){n:Nat}(hn:n<Ú)(fn:d9 Bool):cU S' fn n=cU S fn n:=by obtain⟨_,p',h1,h2⟩:=g.old n _ bN8;unfold cU;rw[h1,bN8];show fn p'.lv=fn _;rw[h2]
def qH{α:rV}{f h:IW α}:∀{l:AU},Ps x l (f x=h x)->l.filter f=l.filter h
  | [],_=>rfl
  |x::l,e=>by rw[Ar,Ar,e x Ê,qH λ y c=>e y (cT2 c)]
def Kw(g:bm8)(h:E7=Ú)(l:Nat):JF S' l=JF S l:=by unfold JF;rw[h,qH λ x hx=>SG g (bc1 hx) _]
def QaX(g:bm8)(h:E7=Ú+1)(hq:S'.pg[Ú]?>=q)(l:Nat):JF S' l=JF S l+CY q.lv l 1 0:=by
 unfold JF;rw[h,List.range_succ,List.filter_append,Am,qH λ x hx=>SG g (bc1 hx) _];have e:cU S' (λ x=>FY x l) Ú=FY q.lv l:=ŵ cU hq
 congr 1;rw[Ar,e];by_cases c:q.lv=l<;>simp[c]
def XI:∀{l m:Ċ},l.Nodup->Ps x l (x∈m)->⇑l<=⇑m
  | [],m,_,_=>up
  |x::l,m,h,c=>by
    obtain⟨h1,h2⟩:=Ch.mp h;have hx:=c x Ê;have:=XI (l:=l) (m:=m.erase x) h2 λ y d=>by have ne:y≠x:=λ e=>h1 (e▸d);exact(List.mem_erase_of_ne ne).mpr (c y (cT2 d))
    rw[List.length_erase_of_mem hx]at this;have:=List.length_pos_of_mem hx;rw[A8];lia
def Go(S:Sh)(n j:Nat):Nat:=match hU with
 |some p=>IL (p.ps.getD j 0)
 |none=>0
def Fg(T:qv)(K:Fk S)(hn:hU>=p)(hl:bj5){j:Nat}(v:j<2):∃q,No (Go S n j)/\q.lv+1=p.lv/\bg (Go S n j)=cQ3 j:=by
 have pl:=(AR n p hn).parts;rw[fw]at pl;have k1:=K n p hn hl;obtain⟨c,q,d,i,o,u⟩:=cY0 n p hl j _ (Ab (À:j<iP));have e:Go S n j=c:=by unfold Go;rw[hn];show IL (p.ps.getD j 0)=c;rw[Ce,Ab (À:j<iP),d];rfl
 rw[e];exact⟨q,i,o,u⟩
def D9(T:qv)(K:Fk S)(hn:hU>=p)(hl:bj5){j:Nat}(c:j<2):dR Μ (cQ3 j)/\∀h v,cG5->cQ3 j>=v->v<h:=by
  have ok:=AR n p hn;have k1:=K n p hn hl;cases j with
  |zero=>exact İ (dR.refl _) (λ h v h1 h2=>ok.wide h h1 v h2)
  |succ i =>
    have e:i=0:=À
    subst e;have g:cQ3 (0+1)>=p.ks[0]:=Ab (l:=p.ks) (i:=0) k1;have m:p.ks[0]∈p.ks:=Bx _;rw[g];exact İ (λ v hv=>Ņ _ (ok.low _ m v hv)) (λ h v h1 h2=>bz9 h2 (ok.high _ m h h1))
def Qj8(T:qv)(K:Fk S)(l:Nat):2 * JF S (l+1)<=JF S l:=by
 let L:=CD AF (cU S λ x=>FY x (l+1))
 have G:∀n∈L,∃p,hU>=p/\cr5 (l+1):=λ n hn=>by obtain⟨h1,h2⟩:=Bj.mp hn;have h1:=bc1 h1;unfold cU at h2;rw[Ab h1]at h2;exact aQ5 (Ab h1) ci9
 have nd:L.Nodup:=bA0;have key:∀n m i j,n∈L->m∈L->i<2->j<2->Go S n i=Go S m j->n=m/\i=j:=λ n m i j hn Z hi I e=>by
  obtain⟨p,c,Q⟩:=G n hn;obtain⟨q,o,b2⟩:=G m Z;obtain⟨_,_,_,C⟩:=Fg T K c À hi;obtain⟨_,_,_,U⟩:=Fg T K o À I;rw[e,U]at C;obtain⟨x1,x2⟩:=D9 T K c À hi;obtain⟨y1,y2⟩:=D9 T K o À I;have nm:n=m:=by
   rcases Nat.decEq n m with h|h
   ·exfalso;rcases T.dis n m p q c o À h with ⟨u,v,e1,e2,e3⟩|⟨u,v,e1,e2,e3⟩
    ·obtain⟨z,z1,z2⟩:=y1 v e2;have:=x2 u z e1 (C.symm.trans z1);lia
    ·obtain⟨z,z1,z2⟩:=x1 v e2;have:=y2 u z e1 (C.trans z1);lia
   ·exact h
  subst nm;rw[c]at o;cases o;refine ā ?_;have ok:=AR n p c;have k1:=K n p c À;have l0:=ok.eX À p.ks[0] (Bx À);have ne:Μ≠p.ks[0]?:=λ z=>by rw[Ab À]at z;have:=l0 _ z;lia
  match i,j,hi,I with
  |0,0,_,_=>rfl
  |1,1,_,_=>rfl
  |0,1,_,_=>exact Ĝ C.symm ne
  |1,0,_,_=>exact Ĝ C ne
 let M:=L.flatMap λ n=>[Go S n 0,Go S n 1]
 have J:M.Nodup:=by
  show List.Pairwise (· ≠ ·) _;rw[List.pairwise_flatMap];refine CA (ż n hn)
  ·refine Cd.mpr (İ A4 (List.pairwise_singleton _ _));rw[Aq]at hx;subst hx;intro e;have:=(key n n 0 1 hn hn À À e).2;lia
  ·refine List.Pairwise.imp_of_mem (R:=(· ≠ ·)) (λ{a b} ha E ne x hx y d e=>?_) nd;subst e;simp only[Bi,B8,or_false]at hx d;rcases hx with rfl|rfl<;>rcases d with d|d
   ·exact ne (key a b 0 0 ha E À À d).1
   ·exact ne (key a b 0 1 ha E À À d).1
   ·exact ne (key a b 1 0 ha E À À d).1
   ·exact ne (key a b 1 1 ha E À À d).1
 have O:∀x∈M,x∈CD AF (cU S λ y=>FY y l):=λ x hx=>by
  obtain⟨n,hn,hx⟩:=List.mem_flatMap.mp hx;obtain⟨p,c,Q⟩:=G n hn;simp only[Bi,B8,or_false]at hx;rcases hx with rfl|rfl
  ·obtain⟨q,c1,c2,_⟩:=Fg T K c À (Ő (0<2));exact Nj c1 À
  ·obtain⟨q,c1,c2,_⟩:=Fg T K c À (Ő (1<2));exact Nj c1 À
 have len:=XI J O;have lm:⇑M=2 * ⇑L:=by
  show eM (L.flatMap _)=_;generalize L=L';induction L' with
  |nil=>rfl
  |cons x t ih=>rw[List.flatMap_cons,Am,ih,A8];simp;lia
 unfold JF;show 2 * ⇑L<=_;lia
def DU(T:qv)(K:Fk S):Ú<=2 * JF S 0:=by
  obtain⟨r,e,c⟩:=T.root;have a:=Qa0 (S:=S) (L:=r.lv) c;have key:∀k,cF0 (cU S λ x=>LU x k)+2 * JF S k<=2 * JF S 0:=by
    intro k;induction k with
    |zero=>rw[vS];lia
    |succ k d=>have:=Qj8 T K k;rw[yJ];unfold JF at *;lia
  have:=key (r.lv+1);lia
#where
def bJ(S:Sh)(n:Nat):Nat:=match hU with
 |some p=>p.lv
 |none=>0
def vis(S:Sh)(w:Wk)(k:Nat):am5:=match w.place with
 |some n=>bF2 (cr3 n) k n (É (cr3 n<k) (rk k) none)
 |none=>none
def ltV(bg:Bg)(v:am5)(m:Nat):Bool:=match v with
 |some v=>av1 (bg v) m
 |none=>true
def Ct(S:Sh)(bg:Bg)(w:Wk)(m:Nat):Bool:=Ib w.O6 cr4&&ltV bg (vis S w cr4) m
def phi(S:Sh)(bg:Bg)(w:Wk):Nat:=cF0 (Ct S bg w)+(cm1+2-w.O6)
inductive kO(S:Sh)(bg:Bg)(w:Wk)(S':Sh)(w':Wk):ç
 |side {n s:Nat} {p q:Pg} (hp:s0 n∨(ξ/\aJ7 n)) (hn:hU>=p) (hg:cS6) (hs:No s) (hl:q.lv=p.lv) (hb:bh7 Μ s) (e1:S'.pg=S.pg) (e2:bg6) (e3:w'.O6=w.O6) (e4:w'.O5=w.O5) (e5:w'.place>=s) (e6:as4):kO S bg w S' w'
 |down {n c:Nat} {p q:Pg} (hp:s0 n∨(ξ/\aJ7 n)) (hn:hU>=p) (hl:q.lv+1=p.lv) (hg:cS5 q.lv) (hc:No c) (e1:S'.pg=S.pg) (e2:bg6) (e3:w'.O6=w.O6) (e4:w'.O5=xJ w.O5 p.lv n) (e5:w'.place>=c) (e6:as4):kO S bg w S' w'
 |part {n:Nat} {p q:Pg} (hp:s0 n∨(ξ/\aJ7 n)) (hn:hU>=p) (hg:w.O6=p.lv) (el:E7=Ú+1) (eq:S'.pg[Ú]?>=q) (hq:q.lv=w.O6) (e2:bg6) (e3:w'.O6=w.O6+1) (e4:w'.O5=w.O5) (e5:w'.place=rk (w.O6+1)) (e6:as4):kO S bg w S' w'
 |over (e6:œ w'.O7) (el:E7=Ú) (e2:bg6):kO S bg w S' w'
 |raised {p q:Pg} (e6:œ w'.O7) (hr:ai0 p) (el:E7=Ú+1) (e2:S'.top=Ú) (eq:S'.pg[Ú]?>=q) (hq:q.lv=p.lv+1):kO S bg w S' w'
section
variable{S S':Sh}{bg aR:Bg}{n:Nat}{p q P:Pg}{w w' v:Wk}{r:Row}
def Jv(h:hU>=p):cr3 n=p.lv:=ŵ bJ h
def GL(j:gu)(c:s0 n∨(ξ/\aJ7 n))(hn:hU>=p)(hl:P.lv=p.lv)(e:w.O6=p.lv){a:Wk}(g0:a.O6=w.O6)(d:a.O5=w.O5)(d0:a.O7=w.O7):kO S bg w (QU IB a n P).2.1 (QU IB a n P).2.2:=by
 have ln:=cY1;unfold QU;by_cases i:Ϩ<=S.O4
 ·rw[Cy (é (Ϩ<=(IB:Sh).O4) i)];exact .over rfl Ê rfl
 ·rw[Cw (é (¬ Ϩ<=(IB:Sh).O4) i)];refine .part (q:=LN) c hn e Ê ?_ (dm (P.lv=_)) rfl (dm (P.lv+1=_)) d ?_ (by show ć a.O7;rw[d0,j])
  ·show bg2 [LN] n Ú=_;rw[Ak À];simp
  ·show Xy a.O5 (P.lv+1)=_;rw[d,hl,e]
def SS(T:qv)(W:cF4)(y:gu)(i:Xm S w>=(r,S',w')):kO S bg w S' w':=by
  obtain⟨p,hn,v⟩:=yY y i;clear i;have j:s0 ñ∨(ξ/\aJ7 ñ):=by
    cases w.place with
    |none=>exact Ĉ ed
    |some m=>exact ĭ
  generalize ñ=n at hn v j;have ln:=cY1;have O:¬ (ξ/\Wd)->cS6:=λ o=>by
    rcases j with hp|⟨hp,_⟩
    . obtain⟨p',E,L,_⟩:=cb5
      rw[hn]at E;cases E;exact L
    . exact Ck λ h=>o (İ hp h)
  cases v with
  |raised o F =>
    have C:aJ7 n:=by
      rcases j with hp|⟨_,e⟩
      . rw[o.1]at hp;cases hp
      . exact e
    subst C;rename_i k;exact .raised (q:=CC (p.lv+1) ba2 [je,IS]) rfl hn Ê rfl Ê rfl
  |side o _ Q=>obtain⟨x,q,F,G,I,U,J⟩:=vq T hn Q;exact .side j hn (O o) G I J rfl rfl rfl rfl rfl y
  |down o _ hd hq=>obtain⟨c',z,E,L,Z,_⟩:=cY0 _ p À _ _ hq;subst E;exact .down j hn Z À L rfl rfl rfl rfl (Ģ Bu) y
  |told o hb hd h0 F=>rename_i k;exact GL (P:=OW p k) y j hn rfl (Nat.le_antisymm (O o) (Ck hd)) rfl rfl rfl
  |leaf o hb hd g0 i =>
    have pL:w.O6=p.lv:=À
    unfold J0 at i;cases u:w.O2 with
    |find k=>rw[u]at i;cases i;exact .over rfl rfl rfl
    |put k x=>rw[u]at i;dsimp only at i;simp only[Prod.mk.injEq]at i;obtain⟨rfl,rfl,rfl⟩:=i;exact GL (P:=aL9 p x) y j hn rfl pL rfl rfl rfl
    |cut k =>
      rw[u]at i;dsimp only at i;cases i;by_cases hq:(bp5 aQ3)
      . rw[Cy hq];exact .over rfl Ê rfl
      . rw[Cw hq];exact .over rfl rfl rfl
    |stretch l h =>
      rw[u]at i;dsimp only at i;rcases aM1 n hn with ⟨a,b⟩|⟨x,s,q,a,b,c,d,e⟩
      . simp only[a,b]at i;cases i;exact .over rfl rfl rfl
      . simp only[a,b]at i
        by_cases hx:h<=x
        . rw[Cy hx]at i;cases i;exact .over rfl rfl rfl
        . rw[Cw hx]at i;cases i
          obtain⟨x',q',F,G,I,U,J⟩:=vq T hn b;exact .side j hn (O o) G I J rfl rfl rfl rfl rfl y
def Xp(g:bm8){n:Nat}(hn:n<Ú):bJ S' n=cr3 n:=by obtain⟨_,p',h1,h2⟩:=g.old n _ bN8;rw[Jv h1,Jv bN8,h2]
def YG(g:bm8){n:Nat}(hn:n<Ú):aR n=Μ:=(g.old n _ bN8).1
def Ud(T:qv):S.top<Ú:=aa0 r h T.root (QY h)
def UL(T:qv){m:Nat}(h:m<Ú):cr4<=cm1:=by obtain⟨r,h1,h2⟩:=T.root;rw[Jv h1,Jv (Ab h)];exact h2 m _ (Ab h)
def Qok(T:qv)(W:cF4)(K:kO S bg w S' w')(g:bm8)(E:as4):phi S' aR w'+1<=phi S bg w:=by
  cases K with
  |over e=>rw[E]at e;cases e
  |raised e=>rw[E]at e;cases e
  |@side n s p q hp hn o x hl C e1 e2 e3 j e5 e =>
    have eL:∀m,bJ S' m=cr4:=λ m=>ŵ bJ e1
    have eB:∀m,m<Ú->aR m=bg m:=λ m d=>YG g d;have F:=QY x;have key:F9 (ą E7) (Ct S' aR w')<cF0 (Ct S bg w):=by
      rw[e1];refine Uv _ _ _ (ĵ m d h) ⟨s,cv7 F,?_,?_⟩
      . have a:=bc1 d
        unfold Ct at h ⊢;rw[Ba]at h ⊢;rw[eL,e3]at h;refine CA h.1;have h2:=h.2;unfold vis at h2 ⊢;rw[e5]at h2;simp only[eL,Jv x,j]at h2;rcases hp with hp|⟨hp,rfl⟩
        . rw[hp]
          simp only[Jv hn];rw[hl]at h2;by_cases c:(cr5 cr4)
          . rw[cS3]at h2 ⊢
            unfold ltV at h2 ⊢;simp only[eB s F,eB m a]at h2;exact jd C h2
          . rw[Cw c]at h2 ⊢
            by_cases c2:p.lv<cr4
            . rw[Cy c2]at h2 ⊢
              unfold ltV at h2 ⊢;cases hf:rk cr4 with
              |none=>rfl
              |some f=>rw[hf]at h2;obtain⟨z,z1,_⟩:=LO _ hf;simp only[eB f (QY z1),eB m a]at h2;exact h2
            . rw[Cw c2];rfl
        . rw[hp];rfl
      . unfold Ct vis
        rw[Jv x,hl,C0 o];rcases hp with hp|⟨hp,rfl⟩
        . rw[hp];simp only[Jv hn,if_true];exact C
        . rw[hp];rfl
      . unfold Ct vis
        rw[e5];simp[ltV,yR]
    unfold phi;rw[eL,e2,e3];lia
  |@down n c p q hp hn hl o u e1 e2 e3 j e5 e =>
    have eL:∀m,bJ S' m=cr4:=λ m=>ŵ bJ e1
    have eB:∀m,m<Ú->aR m=bg m:=λ m d=>YG g d;have lc:=QY u;have key:F9 (ą E7) (Ct S' aR w')<cF0 (Ct S bg w):=by
      rw[e1];refine Uv _ _ _ (ĵ m d h) ⟨c,cv7 lc,?_,?_⟩
      . have a:=bc1 d
        unfold Ct at h ⊢;rw[Ba]at h ⊢;rw[eL,e3]at h;refine CA h.1;have h2:=h.2;unfold vis at h2 ⊢;rw[e5]at h2;simp only[eL,Jv u,j]at h2;rcases hp with hp|⟨hp,rfl⟩
        . rw[hp]
          simp only[Jv hn];by_cases c1:(cr5 cr4)
          . rw[Cy c1]
            rw[fw,aE2,yg,Cy c1.symm]at h2;unfold ltV at h2 ⊢;simp only[eB n cY1,eB m a]at h2;exact h2
          . rw[Cw c1]
            by_cases c2:p.lv<cr4
            . rw[Cy c2]
              rw[fw,aE2,yg,fw]at h2;unfold ltV at h2 ⊢;cases hf:rk cr4 with
              |none=>rfl
              |some f=>rw[hf]at h2;obtain⟨z,z1,_⟩:=LO _ hf;simp only[eB f (QY z1),eB m a]at h2;exact h2
            . rw[Cw c2];rfl
        . rw[hp];rfl
      . unfold Ct vis
        rw[Jv u,C0 o];rcases hp with hp|⟨hp,rfl⟩
        . rw[hp];simp only[Jv hn];rw[fw,fw];rfl
        . rw[hp];rfl
      . unfold Ct vis
        rw[e5];simp[ltV,yR]
    unfold phi;rw[eL,e2,e3];lia
  |@part n p q hp hn o G I hq e2 e3 j e5 e =>
    have ln:=cY1;have key:F9 (ą E7) (Ct S' aR w')<=cF0 (Ct S bg w):=by
      rw[G,List.range_succ,List.filter_append,Am];have z:ć (Ct S' aR w' Ú):=by unfold Ct;rw[Jv I,e3,hq,ap0];rfl
      rw[Ar,z];simp only[Ay,if_false,List.filter_nil,List.length_nil,Nat.add_zero];refine NP _ _ _ (ĵ m d h);have a:=bc1 d;unfold Ct at h ⊢;rw[Ba]at h ⊢;rw[Xp g a,e3]at h;have h1:w.O6+1<=cr4:=C4 h.1;refine CA aq0;have h2:=h.2;rcases hp with hp|⟨hp,rfl⟩
      . unfold vis at h2 ⊢
        rw[hp];rw[e5]at h2;simp only[Jv hn];rw[fw,aE2];cases hf:rk cr4 with
        |none=>rfl
        |some f =>
          obtain⟨J,i⟩:=W.full n p hp hn _ f hf (w.O6+1) À À;rw[i]at h2;obtain⟨z1,y,O⟩:=W.kept _ J i;obtain⟨z2,Q,U⟩:=LO _ hf;simp only[Xp g (QY y),Jv y,O,j]at h2;by_cases c:w.O6+1=cr4
          . rw[cS3]at h2
            rw[<- c,i]at hf;cases hf;unfold ltV at h2 ⊢;simp only[YG g (QY y),YG g a]at h2;exact h2
          . rw[Cw c,aE2,hf]at h2
            unfold ltV at h2 ⊢;simp only[YG g (QY Q),YG g a]at h2;exact h2
      . have:=UL T a
        rw[Jv hn]at this;lia
    have L:ch1 S'=cm1:=Æ e2 (Xp g cy6)
    have:=UL T ln;rw[Jv hn]at this;unfold phi;rw[L,e3];lia
def WK(V:cF3 v)(g:bm8){m:Nat}(a:m<Ú):Ct S' aR v m=Ct S bg v m:=by
  unfold Ct;rw[Xp g a];congr 1;unfold vis;cases hp:v.place with
  |none=>rfl
  |some n =>
    obtain⟨p,h1,_⟩:=V.at_ n hp;simp only[Xp g (QY h1)];by_cases c:cr3 n=cr4
    . rw[cS3];unfold ltV;simp only[YG g (QY h1),YG g a]
    . rw[Cw c]
      by_cases c2:cr3 n<cr4
      . rw[Cy c2]
        unfold ltV;cases hf:Xy v.O5 cr4 with
        |none=>rfl
        |some f=>obtain⟨z,z1,_⟩:=V.kept _ f hf;simp only[YG g (QY z1),YG g a]
      . rw[Cw c2];rfl
def uZ(T:qv)(V:cF3 v)(g:bm8)(a:E7=Ú)(e2:bg6):phi S' aR v=phi S bg v:=by unfold phi;rw[a,e2,Xp g cy6,qH λ m c=>WK V g (bc1 c)]
def DM(T:qv)(V:cF3 v)(g:bm8)(a:E7=Ú+1):phi S' aR v<=phi S bg v+1+(ch1 S'-cm1):=by unfold phi;rw[a,List.range_succ,List.filter_append,Am,qH (h:=Ct S bg v) λ m c=>WK V g (bc1 c)];have:⇑(List.filter (Ct S' aR v) [Ú])<=1:=Bz _ _;lia
def Ur(f:IW Wk):∀(ws:aG7)(i:Nat)(w w':Wk),bs2->F9 ax3 f+π (f w) 1 0=cu9 f+π (f w') 1 0
  | [],i,w,w',h=>ē h
  |x::ws,0,w,w',h=>by cases h;rw[List.set_cons_zero,Ar,Ar];by_cases a:(œ (f x))<;>by_cases b:(œ (f w'))<;>simp[a,b]<;>lia
  |x::ws,i+1,w,w',h=>by have:=Ur f ws i w w' h;rw[List.set_cons_succ,Ar,Ar];by_cases a:(œ (f x))<;>simp[a]<;>lia
def zf(w:Wk):Bool:=FY w.O6 0&&i7 w.O7
def lf(w:Wk):Bool:=i7 w.O7
def zc(ws:aG7):Nat:=cu9 zf
def lc(ws:aG7):Nat:=cu9 lf
def aU(S:Sh)(bg:Bg)(ws:aG7)(t:et):ç:=Œ i w Wk (bs2->gu->phi S bg w+2 * (JF S 0+zc ws)+lc ws<=Ú+t i)
def Qol(T:qv)(W:cF4):1<=phi S bg w:=by
 unfold phi;have:cS5 (cm1+1):=by
  rcases at5 w.O6 with h|h
  ·lia
  ·obtain⟨k,q,_,h2,h3,_⟩:=W.tell h;have:=UL T (QY h2);rw[Jv h2]at this;lia
 lia
def aU.pos{ws:aG7}{t:et}{i:Nat}(L:aU S bg ws t)(T:qv)(K:Fk S)(W:cF4)(hi:bs2)(a:gu):1<=t i:=by have h1:=L i w hi a;have h2:=DU T K;have h3:=Qol T W;lia
def J_{ws:aG7}{i:Nat}(T:qv)(W:cF4)(hi:bs2)(o:gu)(K:kO S bg w S' w')(g:bm8):2 * (JF S' 0+zc ax3)+lc ax3+(ch1 S'-cm1)<=2 * (JF S 0+zc ws)+lc ws/\lc ws<=lc ax3+1:=by
  have d:=Ur zf ws i w w' hi;have cl:=Ur lf ws i w w' hi;have lw:œ (lf w):=õ lf o
  rw[Cy lw]at cl;have C:zf w=FY w.O6 0:=ab1 zf o
  refine İ ?_ (ag6 lc);unfold zc lc;cases K with
  |side hp hn x G hl E e1 e2 e3 u e5 a =>
    have z:zf w'=zf w:=aP6 zf e3 a o
    have l:œ (lf w'):=õ lf a
    rw[z]at d;rw[Cy l]at cl;rw[Kw g bT2,e2,Xp g cy6];lia
  |down hp hn hl x F e1 e2 e3 u e5 a =>
    have z:zf w'=zf w:=aP6 zf e3 a o
    have l:œ (lf w'):=õ lf a
    rw[z]at d;rw[Cy l]at cl;rw[Kw g bT2,e2,Xp g cy6];lia
  |part hp hn x e j hq e2 e3 u e5 a =>
    have z:ć (zf w'):=ab1 zf e3
    have l:œ (lf w'):=õ lf a
    rw[z,C]at d;rw[Cy l]at cl;rw[QaX g e j,e2,Xp g cy6,hq];by_cases c:w.O6=0
    . rw[cS3];simp[c]at d;lia
    . rw[Cw c];simp[c]at d;lia
  |over a e e2 =>
    have z:ć (zf w'):=ab1 zf a
    have l:ć (lf w'):=õ lf a
    rw[z]at d;rw[l]at cl;simp only[Ay,if_false]at d cl;rw[Kw g e,e2,Xp g cy6];lia
  |raised a y e e2 j hq =>
    have z:ć (zf w'):=ab1 zf a
    have l:ć (lf w'):=õ lf a
    rw[z]at d;rw[l]at cl;simp only[Ay,if_false]at d cl;rw[QaX g e j,fw,e2,Jv j,Jv y];lia
def Qub{ws:aG7}{i:Nat}(T:qv)(W:cF4)(hi:bs2)(a:gu)(K:kO S bg w S' w')(g:bm8):JF S' 0+zc ax3<=JF S 0+zc ws:=ī (J_ T W hi a K g)
def aU.step{ws:aG7}{t:et}{i:Nat}(L:aU S bg ws t)(A:All S bg ws)(T:qv)(hi:bs2)(d:gu)(y:Xm S w>=(r,S',w'))(g:bm8):aU S' aR ax3 (λ j=>CY j i (t i-1) (t j)):=by
 have W:=A.ok i w hi d;have K:=SS T W d y;have J_:=(J_ T W hi d K g).1;have x:Ú<=E7:=by
  cases K with
  |side hp hn c y hl E e1=>rw[e1];exact đ
  |down hp hn hl c F e1=>rw[e1];exact đ
  |part hp hn c a=>lia
  |over o a=>lia
  |raised o I a=>lia
 have C:∀v,cF3 v->phi S' aR v+Ú<=phi S bg v+E7+(ch1 S'-cm1):=λ v V=>by
  cases K with
  |side hp hn c y hl E e1 e2=>rw[uZ T V g bT2 e2,e1];lia
  |down hp hn hl c F e1 e2=>rw[uZ T V g bT2 e2,e1];lia
  |part hp hn c a=>have:=DM T V g a;lia
  |over o a e2=>rw[uZ T V g a e2,a];lia
  |raised o I a=>have:=DM T V g a;lia
 intro j u G z;rcases Zd G with ⟨rfl,rfl,_⟩|⟨e,h⟩
 ·have h1:=L j w hi d;have h2:=Qok T W K g z;show _<=_+CY j j (t j-1) (t j);rw[cq];lia
 ·have h1:=L j u h z;have h2:=C u (A.ok j u h z);show _<=_+CY j i (t i-1) (t j);rw[ay0];lia
def Qsv(ws:aG7):lc ws<=cR6:=Bz _ _
def Qtg(ws:aG7):zc ws<=cR6:=Bz _ _
def aU.first(T:qv)(K:Fk S)(a:∀j,0<j->j<=cm1->bE7 f (No f/\q.lv=j))(ws:aG7):aU S bg ws (λ_=>cU0 2+3 * cR6+2):=λ i w hi d=>by
 have h1:phi S bg w<=Ú+(cm1+2):=by unfold phi;have:=Bz (Ct S bg w) AF;rw[List.length_range]at this;lia
 obtain⟨r,c,e⟩:=T.root;rw[Jv c]at h1 a;have h2:=T.lq c a;have h3:=Qsv ws;have h4:=Qtg ws;show _<=_+(cU0 2+3 * cR6+2);lia
#where
section
variable{S S':Sh}{bg aR:Bg}{n m:Nat}{p q P:Pg}{w w' v:Wk}{r:Row}{k:Int}
def Tree.levels(T:qv):∀j,0<j->j<=cm1->bE7 f (No f/\q.lv=j):=λ j _ d=>by
 obtain⟨r,c,e⟩:=T.root;rw[Jv c]at d;obtain⟨L,h1,h2⟩:=uD T r.lv S.top r rfl c T.mj;obtain⟨h3,h4⟩:=h1.get T r c;have hl:r.lv-j<⇑L:=À
 obtain⟨q,a,b,_⟩:=h4 (r.lv-j) L[r.lv-j] cW8;exact cc3 q a À
#where
section
variable{S S':Sh}{bg aR:Bg}{w w':Wk}{r:Row}
def TV(T:qv):cm1<=Ú:=by
 have h:∀j,∃f,j<cm1->f<Ú/\cr3 f=j+1:=λ j=>by
  by_cases e:j<cm1
  ·obtain⟨f,q,h1,h2⟩:=T.levels (j+1) À À;exact İ f (λ_=>İ (QY h1) (ϓ (Jv h1) h2))
  ·exact cC6 0 x (Ĝ x e)
 obtain⟨g,d⟩:=Classical.axiomOfChoice h;have nd:(tS cm1 g).Nodup:=by rw[List.Nodup,List.pairwise_map];refine List.Pairwise.imp_of_mem (λ{a b} ha i c e=>?_) (List.nodup_range (n:=cm1));have h1:=(d a (bc1 ha)).2;have h2:=(d b (bc1 i)).2;rw[e]at h1;exact c À
 have:=XI (m:=AF) nd λ x hx=>n8 a ha rfl Fm (cv7 (d a (bc1 ha)).1)
 simpa using this
def dY(S:Sh)(w:Wk):ç:=(w.O5.map μ).Nodup/\∀x∈w.O5,x.1<=cm1
def Qow{fs:au0}{k v m:Nat}(h1:(ad3).Nodup)(h2:∀x∈fs,x.1<=m)(i:k<=m):(cE0 (xJ fs k v)).Nodup/\∀x∈xJ fs k v,x.1<=m:=by
 unfold xJ;split
 ·have e:cE0 (fs.map λ p=>CY oB k (oB,v) p)=ad3:=by rw[List.map_map];apply List.map_congr_left;intro a _;show(CY a.1 k (a.1,v) a).1=a.1;split<;>rfl
  refine İ (Æ e h1) A4;obtain⟨a,ha,rfl⟩:=Fm;have:=h2 a ha;split<;>exact this
 ·rename_i hn;refine İ ?_ A4
  ·rw[List.map_append,List.nodup_append];refine cq0 h1 (cR4 a ha b d e);simp at d;subst d;subst e;obtain⟨p,hp,c⟩:=cy5 ha;exact hn (List.any_eq_true.mpr ⟨p,hp,C0 c⟩)
  ·rcases cm3 with h|h
   ·exact h2 x h
   ·simp at h;subst h;exact i
def Kb(S:Sh)(w:Wk)(n:Nat)(p:Pg):(QU S w n p).2.2.O5=w.O5:=ac0 QU
def QfZ(S:Sh)(w:Wk)(n:Nat)(p:Pg):(J0 S w n p).2.2.O5=w.O5:=by
  unfold J0;cases w.O2 with
  |find k=>rfl
  |put k x=>exact Kb ..
  |cut k=>rfl
  |stretch l h =>
    dsimp only;split
    . split<;>rfl
    . rfl
def QgB(h:Xm S w>=(r,S',w')):w'.O5=w.O5∨∃n p,hU>=p/\w'.O5=xJ w.O5 p.lv n:=by
 unfold Xm at h;split at h
 ·cases h;exact ĭ
 ·split at h
  ·cases h
  ·rename_i p hp;split at h
   ·split at h
    ·cases h
    ·cases h;exact ĭ
   ·split at h
    ·split at h
     ·cases h
     ·cases h;exact ĭ
    ·split at h
     ·split at h
      ·cases h
      ·cases h;exact aV4 _ p hp rfl
     ·split at h
      ·split at h
       ·cases h
       ·cases h;exact ë (Kb ..)
      ·have e:=Aj h;have e2:w'=(J0 IB w ñ p).2.2:=aJ5
       rw[e2];exact ë (QfZ ..)
def D3(T:qv)(a:Tree S' aR)(g:bm8):cm1<=ch1 S':=by have h:=cy6;rw[<- Xp g h];obtain⟨_,p',h',_⟩:=g.old S.top _ (Ab h);exact UL a (QY h')
def dY.grow(F:dY S w)(T:qv)(a:Tree S' aR)(g:bm8):dY S' w:=İ F.1 (λ x hx=>Bh (F.2 x hx) (D3 T a g))
def dY.step(F:dY S w)(T:qv)(c:Tree S' aR)(g:bm8)(h:Xm S w>=(r,S',w')):dY S' w':=by
 have tg:=D3 T c g;rcases QgB h with e|⟨n,p,hp,e⟩
 ·exact İ (Æ e F.1) (λ x hx=>ID e hx (Bh (F.2 x hx) tg))
 ·have hl:p.lv<=cm1:=ð (Jv hp) (UL T (QY hp))
  obtain⟨a,b⟩:=Qow (k:=p.lv) (v:=n) F.1 F.2 hl;exact İ (Æ e a) (λ x hx=>ID e hx (Bh (b x hx) tg))
def dY.len(F:dY S w)(T:qv):⇑w.O5<=Ú+1:=by
 have h:=XI (m:=ą (cm1+1)) F.1 λ x hx=>by obtain⟨a,ha,rfl⟩:=Fm;have:=F.2 a ha;exact cv7 À
 have:=TV T;simp at h;lia
def dY.fresh(d:aJ):dY S bn2:=İ List.Pairwise.nil (Tk x hx hx)
#where
structure St where
 S:Sh
 ws:aG7
 ns:Ċ
 tk:Nat
inductive Out where
 |rest
 |take (n:Nat)
 |did (n:Nat) (r:Row)
def mv(ds:bC3)(s:St)(i:Nat):ď (Out × St):=match Ű s.ws with
  |none=>none
  |some w =>
    if œ w.O7 then
      match ds[s.tk]? with
      |none=>í (.rest,s)
      |some d=>í (.take s.tk,{ s with ws:=s.ws.set i bn2,ns:=s.ns.set i s.tk,tk:=s.tk+1 })
    else
      match Xm s.S w with
      |none=>none
      |some (r,a,w')=>í (.did (s.ns.getD i 0) r,Ħ s S a ws (s.ws.set i w'))
def still(ds:bC3)(s:St):Bool:=FY s.tk ã&&s.ws.all cS8
structure aY(ds:bC3)(s:St)(bg:Bg)(b:et):ç where
 T:Ţ s.S
 A:All s.S bg s.ws
 K:Fk s.S
 D:nF s.S s.ws
 rm:s.S.O4<=8
 len:⇑s.ns=LG
 tk:s.tk<=ã
 cn:JF s.S 0+zc s.ws<=1+s.tk
 fk:Œ i w Wk (Ϥ s.ws w->gu->dY s.S w)
 pr:Œ i w Wk (Ϥ s.ws w->gu->aD1<=8 * b i)
def n_(b:et)(i:Nat):et:=λ j=>CY j i (b i+1) (b j)
def IK(t:et)(i:Nat):et:=λ j=>CY j i (t i-1) (t j)
section
variable{ds:bC3}{s:St}{bg:Bg}{b:et}
def aY.mono(Y:cH7){a:et}(h:∀i,i<LG->b i<=a i):bW7 a:=⟨Y.T,Y.A,Y.K,Y.D,Y.rm,Y.len,Y.tk,Y.cn,Y.fk,λ i w hi c=>cy7 (Y.pr i w hi c) (h i (ţ hi))⟩
def aY.pages(Y:cH7):⇑s.S.pg<=2 * (1+s.tk):=by have h1:=DU Y.T Y.K;have h2:=Y.cn;lia
def aY.more(Y:cH7)(d:aJ):aY (ds++[d]) s bg b:=⟨Y.T,Y.A,Y.K,Y.D,Y.rm,Y.len,aF6 Y.tk,Y.cn,Y.fk,Y.pr⟩
def jx(h:bp6 s):s.tk=ã/\Œ i w Wk (Ϥ s.ws w->œ w.O7):=by unfold still at h;simp only[Ba,decide_eq_true_eq,List.all_eq_true]at h;exact İ h.1 (λ i w hi=>h.2 w (Av hi))
def aY.anew(Y:cH7)(h:bp6 s)(c:et):bW7 c:=⟨Y.T,Y.A,Y.K,Y.D,Y.rm,Y.len,Y.tk,Y.cn,Y.fk,λ i w hi a=>ı ((jx h).2 i w hi) a a⟩
def Ms(Y:cH7){i:Nat}(hi:i<LG):∃o s' C,mv ds s i>=(o,s')/\bn3 s' C (n_ b i)/\bs4=LG/\s.tk<=s'.tk /\
    (s.tk<s'.tk∨((∀t,aU s.S bg s.ws t->aU s'.S C s'.ws (IK t i))/\¬ (œ s.ws[i].O7/\s.tk<ã))):=by
  have x:=cf5;generalize I:s.ws[i]=w at x;unfold mv;rw[x];dsimp only;cases y:w.O7 with
  |true =>
    rw[cq];cases hd:ds[s.tk]? with
    |none =>
      have U:ã<=s.tk:=Ë hd
      refine⟨_,s,bg,rfl,Y.mono λ j _=>by unfold n_;split<;>first|lia|(subst_vars;lia),rfl,đ,mf (bx5 t L j u a z) (λ h=>À)⟩
      have ne:j≠i:=λ e=>by subst e;rw[x]at a;cases a;rw[y]at z;cases z
      unfold IK;rw[cv2];exact L j u a z
    |some d =>
      have lt:s.tk<ã:=ţ hd;have Q:=Ur zf s.ws i w bn2 x;have cn:=Y.cn;have z1:∀c:Bool,π c 1 0<=1:=λ c=>by cases c<;>simp
      have z2:=z1 (zf bn2);refine⟨_,_,bg,rfl,⟨Y.T,Y.A.put rfl rfl rfl,Y.K,Y.D.put (λ v hv=>ab6 x hv hv y) _,Y.rm,Ģ Y.len,dm (s.tk+1<=_),?_,pM j u a z,pM j u a z⟩,Ê,dm (s.tk<=s.tk+1),ë (dm (s.tk<s.tk+1))⟩
      . show JF s.S 0+zc (s.ws.set i bn2)<=1+(s.tk+1)
        unfold zc at cn ⊢;lia
      . rcases Zd a with ⟨rfl,e,_⟩|⟨ne,a⟩
        . rw[e];exact dY.fresh d
        . exact Y.fk j u a z
      . rcases Zd a with ⟨rfl,e,_⟩|⟨ne,a⟩
        . rw[e];exact up
        . have:=Y.pr j u a z
          unfold n_;rw[cv2];exact this
  |false =>
    rw[aE3];have W:=Y.A.ok i w x y;obtain⟨r,E,v2,O,es,st⟩:=QoQ Y.T W y (λ g c F=>Y.A.lZ i w c x y g F);rw[es];have rm:=Y.rm;have sz:=kA (m:=8) (λ m p G=>ī (Y.T.page m p G).few) es;have J:=SS Y.T W y es;have P:=Qub Y.T W x y J st.grow;have Z:=hi;refine⟨_,_,O,rfl,⟨st.tree,Y.A.step x y st,Y.K.step Y.T es,Y.D.step Y.T W x y es,rj (E.O4<=8) st.O4 rm,Ģ Y.len,Y.tk,Bh P Y.cn,pM j u a z,pM j u a z⟩,Ê,đ,mf (λ t L=>L.step Y.A Y.T x y es st.grow) (λ h=>ē h.1)⟩
    . rcases Zd a with ⟨rfl,e,_⟩|⟨ne,a⟩
      . rw[e];exact(Y.fk j w x y).step Y.T st.tree st.grow es
      . exact(Y.fk j u a z).grow Y.T st.tree st.grow
    . rcases Zd a with ⟨rfl,e,_⟩|⟨ne,a⟩
      . have:=Y.pr j w x y
        rw[e];unfold n_;rw[cq];lia
      . have:=Y.pr j u a z
        unfold n_;rw[cv2];exact this
inductive Run(ds:bC3)(H K:Nat):d9 (St->bZ6->θ St)
 |nil (h:Nat) (s:St):cy8 H K h s [] s
 |cons {h:Nat} {s s1 s2:St} {o:Out} {os:bZ6}:ć (ao3 s)->h<LG->(∃bg b,cH7/\∀i,b i<=K)->mv ds s h>=(o,s1)->cy8 H K ((h+1) % H) s1 os s2->cy8 H K h s (o::os) s2
def Run.append{H K h:Nat}{os o2:bZ6}(r:cy8 H K h s os d)(hh:h<H):cy8 H K ((h+AH) % H) d o2 s2->cy8 H K h s (os++o2) s2:=by
  induction r with
  |nil h s=>intro q;rw[List.length_nil,Nat.add_zero,Nat.mod_eq_of_lt hh]at q;exact q
  |@cons h s d _ o os a e i c _ j=>intro q;refine .cons a e i c (j (Nat.mod_lt _ À) ?_);rw[Nat.mod_add_mod,show h+1+AH=h+⇑(o::os) by simp;lia];exact q
def turn{H K B:Nat}(F:B+1<=K):∀(k h:Nat)(s:St)(bg:Bg),h+k=H->LG=H->bW7 (λ i=>É (i<h) (B+1) B) ->
    ∃os s' u,cy8 H K h s os s'/\AH<=k/\bs4=H/\bn3 s' u (λ_=>B+1)/\s.tk<=s'.tk/\(bp6 s'∨(AH=k/\(s.tk<s'.tk∨((∀T,aU s.S bg s.ws (λ i=>É (i<h) (T-1) T)->aU s'.S u s'.ws (λ_=>T-1))/\(0<k->¬ (∃w,s.ws[h]?>=w/\œ w.O7/\s.tk<ã))))))
  |0,h,s,bg,e,l,Y=>⟨[],s,bg,.nil _ _,đ,l,Y.mono λ i hi=>ĸ aE2,đ,Ĉ (ā (mf (λ T L i w hi d=>by have:=L i w hi d;have Z:=ţ hi;dsimp only at this ⊢;rw[aE2]at this;exact this) (λ h=>Ĝ h À)))⟩
  |k+1,h,s,bg,e,l,Y=>by
    cases r:ao3 s with
    |true=>exact⟨[],s,bg,.nil _ _,up,l,Y.anew r _,đ,ë r⟩
    |false =>
      obtain⟨o,v,P,e1,z,U,I,c1⟩:=Ms Y (i:=h) À;obtain⟨os,x,O,R,ln,G,C,J,c2⟩:=turn (H:=H) (B:=B) F k (h+1) v P À À (z.mono λ i _=>by
        unfold n_;show CY i h (É (h<h) (B+1) B+1) (É (i<h) (B+1) B)<=É (i<h+1) (B+1) B
        rw[Cw (Ci h)];by_cases a:i=h
        . rw[Cy a,aE2];lia
        . rw[Cw a]
          by_cases c:i<h
          . rw[cS3,aE2];lia
          . rw[Cw c,fw];lia)
      have y:cy8 H K ((h+1) % H) v os x:=by
        by_cases Q:k=0
        . have:os=[]:=by cases os with
            |nil=>rfl
            |cons _ _=>simp at ln;lia
          subst this;cases R;exact .nil _ _
        . rw[Nat.mod_eq_of_lt À];exact R
      refine⟨o::os,x,O,.cons r À ⟨bg,_,Y,λ i=>by show É (i<h) (B+1) B<=K;split<;>lia⟩ e1 y,ŉ,G,C,Bh I J,?_⟩
      rcases c2 with c2|⟨c2,j⟩
      . exact ë c2
      . refine mf (Ģ c2) ?_
        rcases c1 with c1|⟨c1,E⟩
        . exact ë À
        . rcases j with j|⟨j,_⟩
          . exact ë À
          . refine mf (λ T L=>j T (pM i w hi d)) (λ_ ⟨w,d,he,ht⟩=>E (İ ?_ ht))
            . have q:=c1 _ L i w hi d
              unfold IK at q;dsimp only at q ⊢;by_cases a:i=h
              . subst a
                rw[cq,Cw ae7]at q;rw[Cy (Cn _)];exact q
              . rw[Cw a]at q
                by_cases c:i<h
                . rw[cS3]at q;rw[aE2];exact q
                . rw[Cw c]at q;rw[fw];exact q
            . have:s.ws[h]=w:=by
                have hl:h<LG:=À
                rw[cW8]at d;exact Aj d
              rw[this];exact he
def Dl{H K C:Nat}(E:0<H)(U:2 * (2 * (1+ã))+3 * H+2<=C):∀(M T B:Nat)(s:St)(bg:Bg),LG=H->bW7 (λ_=>B)->aU s.S bg s.ws (λ_=>T)->bx9 * (C+1)+T<=M->B+M+1<=K ->
    ∃os s' z,cy8 H K 0 s os s'/\bp6 s'/\AH<=H * M/\bs4=H/\bn3 s' z IJ
  |M,T,B,s,bg,l,Y,L,hM,hK=>by
    cases u:ao3 s with
    |true=>exact⟨[],s,bg,.nil _ _,u,up,l,Y.anew u _⟩
    |false =>
      obtain⟨os,o,I,R,ln,y,j,t1,c⟩:=turn (H:=H) (B:=B) (K:=K) À H 0 s bg À l (Y.mono λ i _=>ĸ (Cw (Nat.not_lt_zero _)));have tk:=Y.tk;have a8:=j.tk;have J:s.tk<ã∨1<=T:=by
        by_cases a:s.tk<ã
        . exact ë a
        . refine Ĉ (cK5 h0)
          have P:œ (s.ws.all cS8):=by
            rw[List.all_eq_true];intro w v;obtain⟨i,hi⟩:=NL v;cases r:w.O7 with
            |true=>rfl
            |false=>have:=L.pos Y.T Y.K (Y.A.ok i w hi r) hi r;lia
          unfold still at u;rw[P,Bool.and_true,decide_eq_false_iff_not]at u;exact u À
      have M1:1<=M:=by
        rcases J with a|a
        . have:1 * (C+1)<=bx9 * (C+1):=dd4
          lia
        . lia
      rcases c with c|⟨c,d⟩
      . refine⟨os,o,I,R,c,?_,y,j.anew c _⟩
        have:H * 1<=H * M:=Δ M1;lia
      . have go:∀x,aU o.S I o.ws (λ_=>x)->(ã-o.tk) * (C+1)+x<=M-1->∃os s' z,cy8 H K 0 s os s'/\bp6 s'/\AH<=H * M/\bs4=H/\bn3 s' z IJ:=λ x L' F=>by
          obtain⟨o2,s2,wI,R2,q2,n2,Z,O⟩:=Dl (K:=K) E U (M-1) x (B+1) o I y j L' F (ī M1);refine⟨os++o2,s2,wI,R.append E (by rw[Cq,c,Nat.mod_self];exact R2),q2,?_,Z,O⟩;have:H * M=H * (M-1)+H:=by obtain⟨m,rfl⟩:∃m,M=m+1:=EU (M-1);rw[Nat.add_sub_cancel,Nat.mul_succ]
          rw[Am];lia
        rcases d with d|⟨d,Q⟩
        . have pg:=j.pages
          refine go C (pM i w hi v) ?_
          . have:=aU.first j.T j.K j.T.levels o.ws i w hi v
            dsimp only at this ⊢;rw[y]at this;lia
          . have e:bx9 * (C+1)=(bx9-1) * (C+1)+(C+1):=by obtain⟨m,G⟩:∃m,bx9=m+1:=EU (bx9-1);rw[G,Nat.add_sub_cancel,Nat.succ_mul]
            have f:(ã-o.tk) * (C+1)<=(bx9-1) * (C+1):=dd4;lia
        . by_cases e:o.tk=s.tk
          . have T1:1<=T:=by
              rcases J with a|a
              . refine cK5 h0
                have hl:0<LG:=À
                cases r:s.ws[0].O7 with
                |true=>exact Q E (cc3 cW8 r a)
                |false=>have:=L.pos Y.T Y.K (Y.A.ok 0 _ cW8 r) cW8 r;lia
              . exact a
            refine go (T-1) (d T (Ë L)) ?_;rw[e];lia
          . have pg:=j.pages
            refine go C (pM i w hi v) ?_
            . have:=aU.first j.T j.K j.T.levels o.ws i w hi v
              dsimp only at this ⊢;rw[y]at this;lia
            . have e:bx9 * (C+1)=(bx9-1) * (C+1)+(C+1):=by obtain⟨m,G⟩:∃m,bx9=m+1:=EU (bx9-1);rw[G,Nat.add_sub_cancel,Nat.succ_mul]
              have f:(ã-o.tk) * (C+1)<=(bx9-1) * (C+1):=dd4;lia
  termination_by M=>M
#where
#print TR
namespace TP
open TR
structure Lv where
 rows:Rw
 m:Nat
 fork:Bool
 lv:Nat
 first:Nat
def Lv.q(L:Lv):Nat:=qn ϰ L.m
def Ji(L:Lv)(k:Nat):Pg:=⟨L.lv,cE0 ((ao8).drop (bd4 1 0)),aN9 ao8,bL1 (k+1) (Pi (k+1)),bL1 (k+1) (pE (k+1))⟩
structure Lv.Ok(O4:Nat)(L:Lv):ç where
 aX:2<=O4
 m1:L.m=bd4 (O4+1) O4
 fk:aw1↔0<L.lv
 rise:L.rows.Pairwise (λ a b=>a.1<b.1)
 two:aw1->2<=ϰ
def Lv.s(L:Lv)(k:Nat):Nat:=sx ϰ L.m L.fork k
section
variable{O4:Nat}{L:Lv}{k:Nat}
def Lv.Ok.m_pos(O:mE):1<=L.m:=by have:=O.m1;have:=O.aX;split at * <;> lia
def Lv.Ok.m3(O:mE)(h:aw1):3<=L.m:=by have:=O.m1;have:=O.aX;rw[cv1]at *;lia
def Lv.Ok.q1(O:mE):1<=L.q:=(Jm O.m_pos).1
def Lv.Ok.mX(O:mE)(hn:1<=ϰ)(h:k<L.q):aq9<cz1:=Ls O.m_pos O.m3 hn h
def Lv.Ok.tG(O:mE)(hn:1<=ϰ)(h:k<=L.q):aq9<=ϰ:=Lw O.m_pos L.fork h hn
def Lv.s_end(L:Lv):L.s L.q=ϰ:=Fe _ _ _
def Lv.Ok.lN(O:mE)(hn:1<=ϰ):∀{i j:Nat},i<=j->j<=L.q->L.s i<=L.s j:=by
  intro i j a d;induction j with
  | zero => have : i = 0 := À
            subst this;exact đ
  |succ j c =>
    by_cases e:i=j+1
    . subst e;exact đ
    . have:=c À À
      have:=O.mX hn (k:=j) À;lia
def Lv.Ok.cY(O:mE)(hn:1<=ϰ){i j:Nat}(c:i<j)(d:j<=L.q):L.s i<L.s j:=by have a:=O.mX hn (k:=i) À;have b:=O.lN hn (i:=i+1) (j:=j) À d;lia
def bQ{i:Nat}{r:Int × Int}:Ϥ ao8 r↔(i<cz1-aq9/\L.rows[aq9+i]?>=r):=by
 unfold Zm;rw[List.getElem?_take];show É (i<cz1-aq9) (Ű (L.rows.drop aq9)) none>=r↔_;rw[B0];by_cases h:i<cz1-aq9
 ·rw[cv1];exact cC6 (λ e=>İ h e) e e.2
 ·rw[Cw h];exact cC6 (λ e=>ē e) e (Ĝ e.1 h)
def Lv.Ok.beg(O:mE)(hn:1<=ϰ)(h:k<L.q):∃r,L.rows[aq9]?>=r/\Pi k=r.1:=by
 have a:=O.mX hn h;have b:=O.tG hn (k:=k+1) À;have d:L.rows[aq9]?>=(L.rows[aq9]' À):=Ab _;refine mY _ d;have c:ao8[0]?>=(L.rows[aq9]' À):=bQ.mpr (İ À d);unfold YO;cases e:ao8 with
 |nil=>rw[e]at c;cases c
 |cons x y=>rw[e]at c;cases c;rfl
def US{rows:Rw}(h:AS a b (a.1<b.1)){i j:Nat}{x y:Int × Int}(hx:AY rows)(d:G1 rows>=y)(c:i<j):x.1<y.1:=at2 h1 rfl (Ac.mp hx) h2 rfl (Ac.mp d) (List.pairwise_iff_getElem.mp h i j h1 h2 c)
def MX{rows:Rw}(h:AS a b (a.1<b.1)){i j:Nat}{x y:Int × Int}(hx:AY rows)(c:G1 rows>=y)(d:i<=j):x.1<=y.1:=by
 rcases Be i j with l|l
 ·exact bY9 (US h hx c l)
 ·have:i=j:=À
  subst this;rw[hx]at c;cases c;exact ag5
def uA{x:Int}(h:x∈(bI4).ks):wu i r (Int × Int) (aq9+bd4 1 0<=i/\i<cz1/\Ϥ L.rows r/\x=r.1):=by obtain⟨r,c,rfl⟩:=cy5 h;obtain⟨i,hi⟩:=PX c;rw[B0]at hi;obtain⟨a,b⟩:=bQ.mp hi;exact⟨aq9+(bd4 1 0+i),r,EC,EC,b,rfl⟩
def Lv.Ok.few(O:mE)(h:k<L.q):cz1-aq9<=L.m:=by
 obtain⟨h1,h2,h3⟩:=bA6 ϰ O.m_pos;have a:(k+1) * L.m=k * L.m+L.m:=T0
 have hq:qn ϰ L.m=L.q:=rfl;unfold Lv.s sx;rw[hq,Cw (EC:¬ k=L.q)];by_cases e:k+1=L.q
 ·rw[aY0];have d:k * L.m=(L.q-1) * L.m:=fJ e
  have h4:L.q * L.m=k * L.m+L.m:=cW6 e a
  rw[hq]at h2 h3;split
  ·rename_i c;have:=O.m3 c.1;omega
  ·omega
 ·rw[ay0,Cw (c:=aw1/\1<L.q/\ϰ=(L.q-1) * L.m+1/\k+1=L.q) (λ z=>e z.2.2.2)];split<;>omega
def eF(L:Lv)(k:Nat):Ý:=NV k 0 (í (Pi k))
def Lv.Ok.page(O:mE)(h:k<L.q):JE O4 (eF L k) bI4:=by
 by_cases hn:1<=ϰ
 ·have lt:=O.mX hn h;obtain⟨o,C,F⟩:=O.beg hn h;have y:∀v,eF L k>=v->v=o.1:=λ v hv=>by
   unfold eF at hv;split at hv
   ·cases hv
   ·rw[F]at hv;exact bv3 hv
  have j:∀x,(bI4).hi>=x->∃r,L.rows[cz1]?>=r/\x=r.1:=λ x hx=>by
   have hx:bL1 (k+1) (Pi (k+1))>=x:=hx;split at hx
   ·cases hx
   ·obtain⟨r,c1,c2⟩:=O.beg hn (k:=k+1) À;exact⟨r,c1,ð c2 (bv3 hx)⟩
  refine⟨?_,?_,?_,pM x hx v hv,cR4 hl x hx v hv,pM x hx v hv,pM x hx v hv⟩
  ·show(cE0 ((ao8).drop _)).Pairwise AI;rw[List.pairwise_map];refine List.Pairwise.drop (List.Pairwise.take (List.Pairwise.drop O.rise))
  ·show eM (cE0 ((ao8).drop _))<=O4;rw[Bm,Bk];have cl:⇑ao8<=cz1-aq9:=Ϭ Zm A7 (Nat.min_le_left _ _)
   have P:=O.few h;have m1:=O.m1;split<;>rename_i c<;>simp only[c]at m1<;>simp at m1<;>lia
  ·show eM (aN9 ao8)=⇑(cE0 ((ao8).drop _))+_;rw[Bm,Bm,Bk];have c1:=(qp (rows:=L.rows) (m:=L.m) (fork:=L.fork) O.m_pos O.m3 hn h).2;by_cases f:aw1
   ·have:¬ (bI4).lv=0:=bN0 (O.fk.mp f) (¬ L.lv=0)
    rw[Cy f,Cw this];lia
   ·have:(bI4).lv=0:=bN0 (mt O.fk.mpr f) (L.lv=0)
    rw[Cw f,Cy this];lia
  ·obtain⟨i,r,u,z,d,rfl⟩:=uA hx;rw[y v hv];exact MX O.rise C d (by split at u<;>lia)
  ·obtain⟨i,r,u,z,d,rfl⟩:=uA hx;rw[y v hv];rw[Cy (O.fk.mpr hl)]at u;exact US O.rise C d À
  ·obtain⟨i,r,u,z,d,rfl⟩:=uA hx;obtain⟨J,c1,rfl⟩:=j v hv;exact US O.rise d c1 z
  ·obtain⟨J,c1,rfl⟩:=j x hx;rw[y v hv];exact US O.rise C c1 lt
 ·have o:L.rows=[]:=by cases h':L.rows with|nil=>rfl|cons a b=>rw[h']at hn;simp at hn
  have G:ć L.fork:=by
   cases f:L.fork with
   |false=>rfl
   |true=>have:=O.two f;rw[o]at this;simp at this
  have cn:ao8=[]:=ab1 Zm o
  have q1:L.q=1:=by obtain⟨h1,h2,h3⟩:=bA6 ϰ O.m_pos;have hq:qn ϰ L.m=L.q:=rfl;rw[hq]at h1 h2 h3;have:(L.q-1) * 1<=(L.q-1) * L.m:=Δ O.m_pos;rw[o]at h3;simp at h3;lia
  have e:bI4=CC L.lv [] []:=by
   unfold Ji;have E:k+1=L.q:=À
   rw[cn,Cy E,Cy E];simp
  have I:L.lv=0:=ī (mt O.fk.mpr (Ϝ G))
  rw[e];exact⟨List.Pairwise.nil,up,Ģ I,Tk x hx hx,λ_ x hx=>ē hx,Tk x hx hx,Tk x hx hx⟩
#where
structure Pt(O4:Nat)(pg:bd2)(bg:Bg)(L:Lv):ç where
 ok:mE
 len:pg.length=pE L.q
 top:∀k,k<L.q->pg[pE k]?>=bI4/\bg (pE k)=eF L k
 lvl:F0 n p (pg[n]?>=p->p.lv<=L.lv/\(cr5 L.lv->L.first<=n))
 page:F0 n p (pg[n]?>=p->bz8 O4 p)
 link:F0 n p (pg[n]?>=p->(bD8/\bD9)∨∃(h:Int)(s:Nat)(q:Pg),cG5/\cR9/\pg[s]?>=q/\q.lv=p.lv/\bg s>=h)
 kid:F0 n p (pg[n]?>=p->bj5->∀j k,cm4>=k->bE7 c (k=aY7/\pg[c]?>=q/\q.lv+1=p.lv/\bO9=cQ3 j))
 dis:∀(n m:Nat)(p q:Pg),pg[n]?>=p->pg[m]?>=q->cr5 q.lv->n≠m->(∃h v,cG5/\bg m>=v/\h<=v)∨(∃h v,q.hi>=h/\Μ>=v/\h<=v)
 pred:F0 n p (pg[n]?>=p->∀v,Μ>=v->bE7 m (pg[m]?>=q/\q.lv=p.lv/\q.hi>=v))
 told:F0 n p (pg[n]?>=p->p.lv<L.lv->bE6 m f (pg[m]?>=f/\0<f.lv/\iH∈f.ps))
section
variable{O4:Nat}{L:Lv}{pg:bd2}{bg:Bg}
def Lv.Ok.lO(O:mE){k:Nat}(h:k+1<L.q):1<=ϰ:=by obtain⟨h1,h2,h3⟩:=bA6 ϰ O.m_pos;have hq:qn ϰ L.m=L.q:=rfl;rw[hq]at h1 h2 h3;have:(L.q-1) * 1<=(L.q-1) * L.m:=Δ O.m_pos;lia
def Lv.Ok.pW(O:mE){i j:Nat}(a:i<=j)(u:j<L.q)(h1:1<L.q):Pi i<=Pi j:=by have hn:=O.lO (k:=0) À;obtain⟨r,c,d⟩:=O.beg hn (k:=i) À;obtain⟨v,e,o⟩:=O.beg hn u;rw[d,o];exact MX O.rise c e (O.lN hn a À)
def Lv.Ok.pU(O:mE){i j:Nat}(a:i<j)(u:j<L.q):Pi i<Pi j:=by have hn:=O.lO (k:=0) À;obtain⟨r,c,d⟩:=O.beg hn (k:=i) À;obtain⟨v,e,o⟩:=O.beg hn u;rw[d,o];exact US O.rise c e (O.cY hn a À)
def Mb(T:∀k,k<L.q->pg[pE k]?>=bI4/\bg (pE k)=eF L k){k:Nat}(h:k<L.q):(Ν (bI4).hi/\Ν (bI4).sd)∨∃(h:Int)(s:Nat)(q:Pg),(bI4).hi>=h/\(bI4).sd>=s/\pg[s]?>=q/\q.lv=(bI4).lv/\bg s>=h:=by
 by_cases e:k+1=L.q
 ·exact N2 (Fh (Ν (bF6 (k+1) _)) aY0) (Fh (Ν (bF6 (k+1) _)) aY0)
 ·obtain⟨a,b⟩:=T (k+1) À;refine Ĉ ⟨Pi (k+1),pE (k+1),bI3 (k+1),Fh (bF6 (k+1) _=_) ay0,Fh (bF6 (k+1) _=_) ay0,a,rfl,?_⟩;rw[b];unfold eF;rw[fw]
def Fv(O:mE){i j:Nat}(a:i<j)(c:j<L.q):∃h v,(bI3 i).hi>=h/\eF L j>=v/\h<=v:=by
 refine⟨Pi (i+1),Pi j,?_,?_,O.pW À c À⟩
 ·show bF6 (i+1) _=_;rw[fw]
 ·unfold eF;rw[fw]
def WZ{k:Nat}(h:k<L.q){v:Int}(hv:eF L k>=v):∃i,i<L.q/\(bI3 i).hi>=v:=by
 unfold eF at hv;split at hv
 ·cases hv
 ·rename_i k0;refine mY (k-1) EC;show bL1 (k-1+1) (Pi (k-1+1))=_;rw[Cw EC,show k-1+1=k by omega];exact hv
def ZJ{q n:Nat}{f:d9 Pg}{p:Pg}(h:(tS q f)[n]?>=p):n<q/\p=f n:=by
 have hn:n<q:=db aV7
 rw[Bq,Eg hn]at h;exact İ hn (bv3 h)
def YK{q n:Nat}{f:d9 Pg}(h:n<q):(tS q f)[n]?>=(f n):=Ũ Bq (Eg h)
def J6(L:Lv):bd2:=tS L.q (Ji L)
def Pt.O8(O:mE)(h0:L.lv=0)(hf:L.first=0):Pt O4 (J6 L) (eF L) L:=by
 have T:∀k,k<L.q->(J6 L)[pE k]?>=bI4/\eF L (pE k)=eF L k:=λ k h=>Pv hf Cq (bT (YK h))
 have c:∀k,(bI4).lv=0:=λ k=>h0;refine⟨O,by rw[hf];simp[J6],T,ĵ n p h,ĵ n p h,ĵ n p h,pM n p h hl,λ n m p q hn j _ ne=>?_,cR4 n p h v hv,pM n p h hl⟩
 ·obtain⟨_,rfl⟩:=ZJ h;exact İ đ (λ_=>À)
 ·obtain⟨a,rfl⟩:=ZJ h;exact O.page a
 ·obtain⟨a,rfl⟩:=ZJ h;exact Mb T a
 ·obtain⟨a,rfl⟩:=ZJ h;rw[c]at hl;lia
 ·obtain⟨a,rfl⟩:=ZJ hn;obtain⟨b,rfl⟩:=ZJ j;rcases Nat.lt_or_gt_of_ne ne with l|l
  ·exact ë (Fv O l b)
  ·exact Ĉ (Fv O l a)
 ·obtain⟨a,rfl⟩:=ZJ h;obtain⟨i,d,e⟩:=WZ a hv;exact dr i (bI3 i) (YK d) e
 ·obtain⟨a,rfl⟩:=ZJ h;rw[c]at hl;lia
def ZC(O4:Nat)(L:Lv):Lv:=⟨xt L.rows L.m L.fork L.first,O4+1,true,L.lv+1,pE L.q⟩
def bx{i:Nat}{r:Int × Int}:Ϥ cY9 r↔i<L.q/\r=(Pi i,Î (pE i:Nat)):=by
 show Ϥ (tS L.q (λ k=>(Pi k,Î (pE k:Nat)))) r↔_;rw[Bq];by_cases h:i<L.q
 ·rw[Eg h];exact cC6 (λ e=>İ h (bv3 e)) e (ÿ e.2)
 ·rw[Cj ŉ];exact cC6 (λ e=>ē e) e (Ĝ e.1 h)
def X7:aj4=L.q:=KQ _ _ _ _
def Lv.Ok.next(O:mE)(h2:2<=L.q):(fg).Ok O4 where
 aX:=O.aX
 m1:=rfl
 fk:=İ (λ_=>ah0) au4
 rise:=by rw[List.pairwise_iff_getElem];intro i j hi o a;obtain⟨r,c⟩:=(bx (O4:=O4)).mp cf5;obtain⟨d,e⟩:=(bx (O4:=O4)).mp (Ab o);rw[c,e];exact O.pU a d
 two:=λ_=>Æ X7 h2
def QiL(O:mE)(hn:1<=ϰ){i:Nat}(hi:i<ϰ):∃k,k<L.q/\aq9<=i/\i<cz1:=by
  have key:∀j,j<=L.q->L.s j<=i∨∃k,k<j/\aq9<=i/\i<cz1:=by
    intro j;induction j with
    |zero=>intro _;exact ë (sn (L.s 0=0) (Nt O.m_pos _))
    |succ j d =>
      intro o;rcases d À with h|⟨k,a,b,c⟩
      . by_cases e:cz0 j<=i
        . exact ë e
        . exact aV4 j À h À
      . exact aV4 k À b c
  rcases key L.q đ with h|⟨k,a,b,c⟩
  . rw[L.s_end]at h;lia
  . exact⟨k,a,b,c⟩
def oO(a:Nat)(bg:Bg)(L:Lv):Bg:=λ n=>É (n<a) Μ (eF L (n-a))
def Pt.next(P:Pt O4 pg bg L)(h2:2<=L.q):Pt O4 (pg++J6 fg) (oO pg.length bg fg) fg:=by
  let N:=fg
  have O':N.Ok O4:=P.ok.next h2;have len:=P.len;have E:N.first=pg.length:=dm (pE L.q=_)
  have I:1<=⇑N.rows:=by show 1<=aj4;rw[X7];lia
  have bo:∀n,cS9 n->oO pg.length bg N n=Μ:=λ n h=>ŵ oO cv1
  have z:∀k,oO pg.length bg N (cT8 k)=eF N k:=λ k=>aP6 oO E fw Nat.add_sub_cancel_left
  have go:∀{n p},pg[n]?>=p->(pg++J6 N)[n]?>=p:=λ{n p} h=>Æ (Ag aV7) h
  have T:∀k,k<N.q->(pg++J6 N)[cT8 k]?>=(Ji N k)/\oO pg.length bg N (cT8 k)=eF N k:=λ k h=>by refine İ ?_ (z k);rw[E,al2,Nat.add_sub_cancel_left];exact YK h
  have d:∀{n p},(pg++J6 N)[n]?>=p->(cS9 n/\pg[n]?>=p)∨∃k,k<N.q/\n=cT8 k/\p=Ji N k:=λ{n p} h=>by
    by_cases c:(cS9 n)
    . rw[Ag c]at h;exact N2 c h
    . rw[al2]at h
      obtain⟨a,b⟩:=ZJ h;exact aV4 (n-pg.length) a À b
  have a8:N.lv=L.lv+1:=rfl;refine⟨O',?_,T,ĵ n p h,ĵ n p h,ĵ n p h,λ n p h hl j x hx=>?_,λ n m p q hn C hl ne=>?_,cR4 n p h v hv,pM n p h hl⟩
  . rw[Am,E];simp[J6,N]
  . rcases d h with ⟨c,h⟩|⟨k,a,b,rfl⟩
    . have:=(P.lvl n p h).1
      exact cC6 (Nat.le_succ_of_le this) e (bS1 (cr5 (L.lv+1)) e À)
    . exact İ đ (λ_=>Æ b (Cu _ _))
  . rcases d h with ⟨c,h⟩|⟨k,a,rfl,rfl⟩
    . rw[bo n c];exact P.page n p h
    . rw[z];exact O'.page a
  . rcases d h with ⟨c,h⟩|⟨k,a,rfl,rfl⟩
    . rcases P.link n p h with a|⟨x,s,q,y,o,u,F,a5⟩
      . exact ë a
      . exact Ĉ ⟨x,s,q,y,o,go u,F,Æ (bo s (ţ u)) a5⟩
    . exact Mb T a
  . rcases d h with ⟨c,h⟩|⟨k,a,rfl,rfl⟩
    . obtain⟨U,q,y,o,u,F⟩:=P.kid n p h hl j x hx
      exact⟨U,q,y,go o,u,Pv (bo U (ţ o)) (bo n c) F⟩
    . have hx:G1 (aN9 (Zm N.rows N.m N.fork k))>=x:=hx
      rw[Bq]at hx;obtain⟨r,Z,rfl⟩:=by4 hx;obtain⟨O,G⟩:=bQ.mp Z;obtain⟨c1,rfl⟩:=bx.mp G;obtain⟨d1,d2⟩:=P.top (cZ0+j) c1;refine NW (pE (cZ0+j)) (bI3 (cZ0+j)) rfl (go d1) ?_;rw[bo _ (ţ d1),d2,z];cases j with
      |zero =>
        show eF L (cZ0+0)=eF N k;unfold eF;by_cases k0:k=0
        . subst k0
          have:N.s 0=0:=Nt O'.m_pos _;rw[this,cq,cq]
        . have sp:=O'.cY I (i:=0) (j:=k) À À
          rw[fw,Cw k0];obtain⟨r',e1,e2⟩:=O'.beg I a;obtain⟨_,rfl⟩:=bx.mp e1;rw[e2];rfl
      |succ j=>show eF L (cZ0+(j+1))=G1 (cE0 ((Zm N.rows N.m N.fork k).drop 1));rw[Bq,B0,Ő (1+j=j+1),Z];unfold eF;rw[fw];rfl
  . rcases d hn with ⟨c,hn⟩|⟨k,a,rfl,rfl⟩
    . rcases d C with ⟨Q,C⟩|⟨k',J,rfl,rfl⟩
      . rw[bo n c,bo m Q];exact P.dis n m p q hn C hl ne
      . have:=(P.lvl n p hn).1
        have hl:cr5 N.lv:=hl;lia
    . rcases d C with ⟨Q,C⟩|⟨k',J,rfl,rfl⟩
      . have:=(P.lvl m q C).1
        have hl:N.lv=q.lv:=hl;lia
      . rw[z,z]
        rcases Nat.lt_or_gt_of_ne (bR5 k k' (λ e=>ne aJ5))with l|l
        . exact ë (Fv O' l J)
        . exact Ĉ (Fv O' l a)
  . rcases d h with ⟨c,h⟩|⟨k,a,rfl,rfl⟩
    . rw[bo n c]at hv
      obtain⟨m,q,y,o,u⟩:=P.pred n p h v hv;exact⟨m,q,go y,o,u⟩
    . rw[z]at hv
      obtain⟨i,O,G⟩:=WZ a hv;exact dr (cT8 i) (Ji N i) (T i O).1 G
  . rcases d h with ⟨c,h⟩|⟨k,a,rfl,rfl⟩
    . by_cases e:(cr5 L.lv)
      . have fn:=(P.lvl n p h).2 e
        have hi:cp0<⇑N.rows:=by show cp0<aj4;rw[X7];lia
        obtain⟨k,k1,k2,k3⟩:=QiL O' I hi;refine⟨cT8 k,Ji N k,(T k k1).1,ah0,?_⟩;show iH∈aN9 (Zm N.rows N.m N.fork k);refine Cs.mpr (mY _ (Av (bQ.mpr (İ À (é (N.rows[cZ0+(cp0-cZ0)]?>=(Pi cp0,Î (pE cp0:Nat))) (bx.mpr (İ À (fN (Ő (cZ0+(cp0-cZ0)=cp0))))))))));show Î (pE cp0:Nat)=n;lia
      . have:=(P.lvl n p h).1
        obtain⟨m,f,y,o,u⟩:=P.told n p h À;exact⟨m,f,go y,o,u⟩
    . exact bh6 hl
#where
structure Pk(O4:Nat)(L0:Lv)(pg:bd2)(bg:Bg)(L:Lv):ç where
 pt:Pt O4 pg bg L
 ok0:L0.Ok O4
 lf:∀k,k<L0.q->pg[k]?>=(Ji L0 k)/\bg k=eF L0 k
 Hz:F0 n p (pg[n]?>=p->cr6->n<L0.q)
 Rh:F0 n p (pg[n]?>=p->bj5->Œ j k Int (cm4>=k->bE7 c (k=aY7/\pg[c]?>=q/\q.hi=É (j<ϖ) (G1 p.ks) p.hi)))
 ne:F0 n p (pg[n]?>=p->bj5->1<=ϖ)
 small:2 ^ L.lv * L.q<=L0.q
 iy:L0.lv=0
 lV:L0.first=0
def Qsp{n m k:Nat}(o:3<=m)(hn:2<=n)(h:k<rS):sx n m true k+2<=sx n m true (k+1):=by
 obtain⟨h1,h2,h3⟩:=Jm (n:=n) (m:=m) À;have d:aO7=n:=À
 rw[d]at h2 h3;have a:(k+1) * m=k * m+m:=T0
 unfold sx;rw[Cw (À:¬ k=rS)];by_cases e:k+1=rS
 ·rw[aY0];have j:k * m=(rS-1) * m:=fJ e
  split
  ·rename_i c;obtain⟨_,c1,c2,i⟩:=c;have:1 * m<=k * m:=dd4;lia
  ·rename_i c;by_cases q1:1<rS
   ·have:¬ n=(rS-1) * m+1:=λ z=>c ⟨rfl,q1,z,e⟩;lia
   ·have:k=0:=À
    subst this;lia
 ·rw[ay0];have:¬ (True/\1<rS/\n=(rS-1) * m+1/\k+1=rS):=λ z=>e z.2.2.2;rw[Cw (é (¬ (œ true/\1<rS/\n=(rS-1) * m+1/\k+1=rS)) (λ z=>e z.2.2.2))];split<;>lia
section
variable{O4:Nat}{L0 L:Lv}{pg:bd2}{bg:Bg}
def ksF(L:Lv)(hf:aw1)(k j:Nat):G1 (bI4).ks=cE0 ao8[j+1]?:=by show G1 (cE0 ((ao8).drop (bd4 1 0)))=_;rw[Cy hf,Bq,B0,Nat.add_comm 1 j]
def Lv.Ok.oF(O:mE)(hf:aw1){k:Nat}(a:k<L.q):f8 bI4+1=cz1-aq9/\1<=f8 bI4:=by
 have d:=O.two hf;have c:=qp (rows:=L.rows) (m:=L.m) (fork:=L.fork) O.m_pos O.m3 À a;have e:f8 bI4=⇑ao8-1:=by show eM (cE0 ((ao8).drop (bd4 1 0)))=_;rw[Cy hf,Bm,Bk]
 have f:aq9+2<=cz1:=Ϭ Lv.s hf (Qsp (O.m3 hf) d a)
 have c1:⇑ao8=cz1-aq9:=c.1;lia
def Wh(O:mE)(h2:2<=L.q):2 * (fg).q<=L.q:=by
 have e:(fg).q=qn L.q (O4+1):=Fh (qn aj4 (O4+1)=_) X7
 obtain⟨h1,_,h3⟩:=Jm (n:=L.q) (m:=O4+1) À;have a:az6 L.q=L.q:=À
 rw[a]at h3;rw[e];have c:=O.aX;have:(qn L.q (O4+1)-1) * 3<=(qn L.q (O4+1)-1) * (O4+1):=Δ À;lia
def Pk.O8(O:mE)(h0:L.lv=0)(hf:L.first=0):Pk O4 L (J6 L) (eF L) L where
 pt:=Pt.O8 O h0 hf
 ok0:=O
 lf:=λ k h=>bT (YK h)
 Hz:=λ n p h _=>(ZJ h).1
 Rh:=λ n p h hl=>by obtain⟨_,rfl⟩:=ZJ h;exact bS1 (0<L.lv) hl À
 ne:=λ n p h hl=>by obtain⟨_,rfl⟩:=ZJ h;exact bS1 (0<L.lv) hl À
 small:=Ϝ h0
 iy:=h0
 lV:=hf
def Pk.next(P:Pk O4 L0 pg bg L)(h2:2<=L.q):Pk O4 L0 (pg++J6 fg) (oO pg.length bg fg) fg:=by
 have Q:=P.pt.next h2;have len:=P.pt.len;have O':=P.pt.ok.next h2;have nf:(fg).first=pg.length:=dm (pE L.q=_)
 have u:1<=aj4:=ĸ X7
 have go:∀{n p},pg[n]?>=p->(pg++J6 fg)[n]?>=p:=λ{n p} h=>Æ (Ag aV7) h
 have d:∀{n p},(pg++J6 fg)[n]?>=p->(cS9 n/\pg[n]?>=p)∨∃k,k<(fg).q/\n=(fg).first+k/\p=Ji fg k:=λ{n p} h=>by
  by_cases c:(cS9 n)
  ·rw[Ag c]at h;exact N2 c h
  ·rw[al2]at h;obtain⟨a,b⟩:=ZJ h;exact aV4 (n-pg.length) a À b
 refine⟨Q,P.ok0,ż k h,pM n p h hl,λ n p h hl j x hx=>?_,pM n p h hl,?_,P.iy,P.lV⟩
 ·obtain⟨a,b⟩:=P.lf k h;refine CA (go a);unfold oO;rw[Cy (ţ a)];exact b
 ·rcases d h with ⟨c,h⟩|⟨k,a,b,rfl⟩
  ·exact P.Hz n p h hl
  ·exact bS1 (L.lv+1=0) hl À
 ·rcases d h with ⟨c,h⟩|⟨k,a,b,rfl⟩
  ·obtain⟨F,q,y,z,C⟩:=P.Rh n p h hl j x hx;exact⟨F,q,y,go z,C⟩
  ·have hx:G1 (aN9 (Zm cY9 (fg).m (fg).fork k))>=x:=hx;rw[Bq]at hx;obtain⟨r,G,rfl⟩:=by4 hx;obtain⟨J,E⟩:=bQ.mp G;obtain⟨c1,rfl⟩:=bx.mp E;obtain⟨d1,O⟩:=P.pt.top ((fg).s k+j) c1;refine t6 (pE ((fg).s k+j)) (bI3 ((fg).s k+j)) (go d1) ?_;obtain⟨k1,k2⟩:=O'.oF rfl a;show bL1 ((fg).s k+j+1) (Pi ((fg).s k+j+1))=_;by_cases v:j<f8 (Ji fg k)
   ·rw[Cy v,ksF _ rfl];have I:=O'.tG u (k:=k+1) À;rw[X7]at I;have e:(Zm cY9 (fg).m (fg).fork k)[j+1]?>=(Pi ((fg).s k+(j+1)),Î (pE ((fg).s k+(j+1)):Nat)):=bQ.mpr (İ À (bx.mpr (bT À)));rw[e,fw];rfl
   ·rw[Cw v];have ij:(fg).s k+j+1=(fg).s (k+1):=À
    rw[ij];show _=NV (k+1) (fg).q (í (YO cY9 (fg).m (fg).fork (k+1)))
    by_cases o:k+1=(fg).q
    ·have:=(fg).s_end;rw[<- o,X7]at this;rw[Cy o,Cy this]
    ·have lt:=O'.cY u (i:=k+1) (j:=(fg).q) À đ;rw[(fg).s_end,X7]at lt;rw[Cw o,fw];obtain⟨U,e1,e2⟩:=O'.beg u (k:=k+1) À;obtain⟨_,rfl⟩:=bx.mp e1;rw[e2]
 ·rcases d h with ⟨c,h⟩|⟨k,a,b,rfl⟩
  ·exact P.ne n p h hl
  ·exact(O'.oF rfl a).2
 ·have a:=P.small;have b:=Wh P.pt.ok h2;show 2 ^ (L.lv+1) * _<=_;rw[Nat.pow_succ,Nat.mul_assoc];exact Bh (Δ b) a
def Gv(O4:Nat):d9 (Lv->bd2->bd2)
 |0,_,P=>P
 |k+1,L,P=>É (L.q<=1) P (Gv O4 k fg (P++J6 fg))
def Pk.all:∀(k:Nat){L:Lv}{pg:bd2}{bg:Bg},Pk O4 L0 pg bg L->L.q<=k+1->∃a L',Pk O4 L0 (Gv O4 k L pg) a L'/\L'.q=1
  |0,L,pg,bg,P,h=>⟨bg,L,P,ī P.pt.ok.q1⟩
  |k+1,L,pg,bg,P,h=>by
    have q1:=P.pt.ok.q1;unfold Gv;by_cases c:L.q<=1
    . rw[cS3];exact⟨bg,L,P,À⟩
    . rw[Cw c]
      have:=Wh P.pt.ok À;exact Pk.all k (P.next À) À
#where
section
variable{O4:Nat}{L0 L:Lv}{pg:bd2}{bg:Bg}{n:Nat}{p:Pg}{key:Int}
#where
section
variable{O4:Nat}{L:Lv}{pg:bd2}
#where
section
variable{O4:Nat}{L0 L:Lv}{pg:bd2}{bg:Bg}
def Pk.tree(P:Pk O4 L0 pg bg L)(q1:L.q=1):Ţ ⟨O4,pg,pg.length-1,0,0⟩/\pg[pg.length-1]?>=(bI3 0)/\(bI3 0).lv=L.lv:=by
 have len:=P.pt.len;obtain⟨a,c⟩:=P.pt.top 0 À;have e:pE 0=pg.length-1:=À
 rw[e]at a c;exact υ ⟨P.pt.ok.aX,aQ5 a (λ n p h=>(P.pt.lvl n p h).1),c,P.pt.page,P.pt.link,P.pt.kid,P.pt.dis,P.pt.pred⟩ a
#where
#print TP
namespace TR
structure Rel(f:Nat)(cF:bC3)(s1:St)(aO:bC3)(s2:St):ç where
 S:s1.S=s2.S
 ds:∃pre,pre.length=f/\cF=pre++aO
 tk:s1.tk=f+s2.tk
 ln:⇑s1.ws=⇑s2.ws
 nl:⇑s1.ns=⇑s1.ws
 nm:⇑s2.ns=⇑s2.ws
 ws:∀i v1 v2,Ϥ s1.ws v1->Ϥ s2.ws v2->v1.O7=v2.O7/\(ć v1.O7->v1=v2/\s1.ns.getD i 0=f+s2.ns.getD i 0)
def CG(f:Nat):Out->Out
 |.rest=>.rest
 |.take n=>.take (f+n)
 |.did n r=>.did (f+n) r
section
variable{f:Nat}{cF aO ds:bC3}{s1 s2 s s1':St}{o:Out}
def Rel.refl(h:⇑s.ns=LG):Rel 0 ds s ds s:=bx1 rfl (Ņ [] rfl) (Cq _).symm h h (λ i a c h1 h2=>by rw[h1]at h2;have e:=Aj h2;subst e;exact ā (λ_=>ā (Cq _).symm))
def Rel.more(R:Rel f cF s1 aO s2)(d:aJ):Rel f (cF++[d]) s1 (aO++[d]) s2:=⟨R.S,n8 p h1 h2 R.ds ⟨p,h1,ϓ h2 Az⟩,R.tk,R.ln,R.nl,R.nm,R.ws⟩
def Rel.len(R:Rel f cF s1 aO s2):cF.length=f+aO.length:=by obtain⟨p,h1,h2⟩:=R.ds;rw[h2,Am,h1]
def Rel.get(R:Rel f cF s1 aO s2):cF[s1.tk]?=aO[s2.tk]?:=by obtain⟨p,h1,h2⟩:=R.ds;rw[h2,R.tk,al2,h1,Nat.add_sub_cancel_left]
def Rel.still(R:Rel f cF s1 aO s2):still cF s1=still aO s2:=by
 have l:=R.len;have t:=R.tk;have n:=R.ln;have a:FY s1.tk cF.length=FY s2.tk aO.length:=dc2
 have b:s1.ws.all cS8=s2.ws.all cS8:=by
  rw[Bool.eq_iff_iff,List.all_eq_true,List.all_eq_true];constructor
  ·intro h w c;obtain⟨i,hi⟩:=NL c;have d:=ţ hi;have g:=Ab (l:=s1.ws) (i:=i) À;rw[<- (R.ws i _ w g hi).1];exact h _ (Bx _)
  ·intro h w c;obtain⟨i,hi⟩:=NL c;have d:=ţ hi;have g:=Ab (l:=s2.ws) (i:=i) À;rw[(R.ws i w _ hi g).1];exact h _ (Bx _)
 unfold TR.still;rw[a,b]
def Uw{i j x:Nat}{ns:Ċ}(h:i<F8):(ns.set i x).getD j 0=CY j i x (ns.getD j 0):=by
 rw[Ce,Ce];by_cases e:j=i
 ·subst e;rw[cq,As h];rfl
 ·rw[ay0,kb e]
def iC(t t':St)(i:Nat):d6 Wk:=match Ű t.ws,Ű t'.ws with
 |some a,some b=>É (ć a.O7/\œ b.O7) [(ch3 0,b)] []
 |_,_=>[]
def lK(f:Nat)(D:d6 Wk):d6 Wk:=D.map λ x=>(f+x.1,x.2)
def YQ{t t':St}{i:Nat}{v:Wk}(h:be9 v)(e:œ v.O7):iC t t' i=[]:=by
 unfold iC;rw[h];cases Ű t'.ws with
 |none=>rfl
 |some b=>exact Cw λ z=>ı e z z.1
def x6{t t':St}{i:Nat}{v v':Wk}(h:be9 v)(e:bp1)(h':Ϥ t'.ws v'):iC t t' i=π v'.O7 [(ch3 0,v')] []:=by unfold iC;rw[h,h'];dsimp only;rw[e];simp only[true_and]
def Rel.mv{i:Nat}(R:Rel f cF s1 aO s2)(h:mv cF s1 i>=(o,s1')):∃o2 v,mv aO s2 i>=(o2,v)/\o=CG f o2/\Rel f cF s1' aO v/\iC s1 s1' i=lK f (iC s2 v i):=by
  unfold TR.mv at h ⊢;have t:=R.tk;have n:=R.ln;have z:=R.nl;have C:=R.nm;cases h1:Ű s1.ws with
  |none=>rw[h1]at h;cases h
  |some y =>
    rw[h1]at h;have G:=ţ h1;have h2:Ϥ s2.ws (s2.ws[i]' À):=Ab _;generalize s2.ws[i]=E at h2;obtain⟨e1,e2⟩:=R.ws i y E h1 h2;rw[h2];dsimp only at h ⊢;rw[<- R.get];cases u:y.O7 with
    |true =>
      rw[u,cq]at h;rw[<- e1,u,cq];cases hd:cF[s1.tk]? with
      |none=>rw[hd]at h;have q:=Aj h;cases q;exact⟨_,_,rfl,rfl,R,Ũ (YQ h1 u) (YQ h2 (e1▸u))⟩
      |some d =>
        rw[hd]at h;have q:=Aj h;cases q;refine⟨_,_,rfl,ÿ t,⟨R.S,R.ds,dm (s1.tk+1=f+(s2.tk+1)),Ģ n,Ģ z,Ģ C,cR4 j u1 u2 k1 k2⟩,Ũ (YQ h1 u) (YQ h2 (e1▸u))⟩;show u1.O7=u2.O7/\(ć u1.O7->u1=u2/\(s1.ns.set i s1.tk).getD j 0=f+(s2.ns.set i s2.tk).getD j 0);rw[Uw À,Uw À];rcases Zd k1 with ⟨a,b,_⟩|⟨a,b⟩
        . rcases Zd k2 with ⟨c,e,_⟩|⟨c,e⟩
          . rw[b,e,Cy a,Cy a];exact ā (λ_=>ā t)
          . exact Ĝ a c
        . rcases Zd k2 with ⟨c,e,_⟩|⟨c,e⟩
          . exact Ĝ c a
          . rw[Cw a,Cw a];exact R.ws j u1 u2 b e
    |false =>
      obtain⟨e3,x⟩:=e2 u;subst e3;rw[u,aE3]at h;rw[u,aE3,<- R.S];cases es:Xm s1.S y with
      |none=>rw[es]at h;cases h
      |some q =>
        obtain⟨r,F,v'⟩:=q;rw[es]at h;have q:=Aj h;cases q;refine⟨_,_,rfl,ÿ x,⟨rfl,R.ds,t,Ģ n,Ģ z,Ģ C,cR4 j u1 u2 k1 k2⟩,?_⟩
        case refine_2 =>
          rw[x6 h1 u (v':=v') (As À),x6 h2 u (v':=v') (As À),x];cases v'.O7<;>rfl
        show u1.O7=u2.O7/\(ć u1.O7->u1=u2/\s1.ns.getD j 0=f+s2.ns.getD j 0);rcases Zd k1 with ⟨a,b,_⟩|⟨a,b⟩
        . rcases Zd k2 with ⟨c,e,_⟩|⟨c,e⟩
          . rw[b,e,a];exact ā (λ_=>ā x)
          . exact Ĝ a c
        . rcases Zd k2 with ⟨c,e,_⟩|⟨c,e⟩
          . exact Ĝ c a
          . exact R.ws j u1 u2 b e
def K4(ds:bC3)(H:Nat):bT0 (St->d6 Wk)
  |0,_,_=>[]
  |n+1,h,s=>match cK6 s h with
    |some (_,s')=>iC s s' h++K4 ds H n ((h+1) % H) s'
    |none=>[]
def fX(ds:bC3)(H:Nat):bT0 (St->ď St)
  |0,_,s=>cj3
  |n+1,h,s=>match cK6 s h with
    |some (_,s')=>fX ds H n ((h+1) % H) s'
    |none=>none
def Run.fX{H K h:Nat}{os:bZ6}(r:cy8 H K h s os s'):TR.fX ds H AH h s>=s':=by
  induction r with
  |nil h s=>rfl
  |@cons h s s1 j o os a e i c _ d=>rw[A8,TR.fX,c];exact d
def Rel.run{H K h:Nat}{os:bZ6}(r:Run cF H K h s1 os s1'):∀{s2:St},Rel f cF s1 aO s2->K4 cF H AH h s1=lK f (K4 aO H AH h s2):=by
  induction r with
  |nil h s=>intro s2 R;rfl
  |@cons h s s1 v o os a j u c _ e=>intro s2 R;obtain⟨o2,i,e1,e2,d,e3⟩:=R.mv c;rw[A8,K4,K4,c,e1];dsimp only;rw[e3,e d];unfold lK;rw[List.map_append]
def Rel.anew{c:Sh}{n:Nat}{e:Wk}(d:œ e.O7)(h:ab4 cF s1)(hn:⇑s1.ws=n)(hl:⇑s1.ns=⇑s1.ws):Rel cF.length cF (ü s1 S c) [] ⟨c,ö n e,ö n 0,0⟩:=by obtain⟨h1,h2⟩:=jx h;refine⟨rfl,Ņ cF Ê,h1,Ģ hn,hl,Ê,cR4 i j r k1 k2⟩;have a:=h2 i j k1;have b:r=e:=(List.mem_replicate.mp (Av k2)).2;rw[a,b,d];exact ā (λ z=>ē z)
#where
section
variable{S S':Sh}{bg aR:Bg}{ds:bC3}{s:St}{b:et}{n:Nat}{r:Ċ}{p:Pg}
def aY.pack(Y:cH7)(h:bp6 s)(T:Tree S' aR)(K:Fk S')(D:∀n,n<E7->n≠S'.top->Kd S' n)(rm:S'.O4<=8)(cn:JF S' 0<=JF s.S 0)(d:et):bn3 (ü s S S') aR d:=by
 have e:=(jx h).2;have no:E6 i w Wk (Ϥ s.ws w->gu->False):=λ{i w} hi a=>ba1 (e i w hi) a this
 have c:=Y.cn;exact⟨T,⟨λ i w hi a=>di9,λ i w k hi a=>di9,λ i j w v k _ hi _ a=>di9⟩,K,λ n h1 h2=>ë (D n h1 h2),rm,Y.len,Y.tk,dm (JF S' 0+zc s.ws<=1+s.tk),λ i w hi a=>di9,λ i w hi a=>di9⟩
def Qb2(T:qv)(c:bb8 n r)(hn:hU>=p)(h0:cr6):BM (uB S r):=by
 obtain⟨E,P,F,Q,U⟩:=c.facts T p hn;have iy:∀m∈r,∃q,ct6/\q.lv=0:=λ m o=>n8 q a b (E m o) (aO8 q a)
 unfold BM uB;rw[List.pairwise_flatMap];refine CA (ż m o)
 ·obtain⟨q,a,b⟩:=iy m o;unfold oW;rw[a];exact Qgj (AR m q a).sorted
 ·refine List.Pairwise.imp_of_mem (R:=λ a b=>bh7 (bg a) b) (λ{a b} ha G d x hx y z=>?_) F;obtain⟨q,j,L⟩:=iy a ha;obtain⟨u,i,O⟩:=iy b G;unfold oW at hx z;rw[j]at hx;rw[i]at z;have I:=Hk (é ((x.1,x.2)∈prs q) hx);have J:=Hk (é ((y.1,y.2)∈prs u) z);have ne:a≠b:=λ e=>On e yR d d
  rcases T.dis a b q u j i À ne with ⟨h,v,e1,e2,e3⟩|⟨h,v,e1,e2,e3⟩
  ·have:=(AR a q j).high _ I h e1;have:=(AR b u i).low _ J v e2;lia
  ·exfalso;have w:=uH ((AR b u i).wide h e1);have C:=jd d w;rw[e2]at C;simp only[eG,decide_eq_true_eq]at C;lia
def Qbc(T:qv):∀r:Ċ,⇑(uB S r)<=lP * S.O4
  | []=>Ģ uB
  |m::r=>by
    have:=Qbc T r;unfold uB at this ⊢;rw[List.flatMap_cons,Am,A8,Nat.succ_mul];have:⇑(oW S m)<=S.O4:=by
      unfold oW;cases h:ø m with
      |none=>exact up
      |some q=>have:=(AR m q h).few;show eM (prs q)<=_;unfold prs;rw[List.length_zip];lia
    lia
def QfB{n:Nat}{r:Ċ}(a:bb8 n r):∀{i:Ċ},bb8 n i->r=i:=by
  induction a with
  |@last n p hn d =>
    intro i c;cases c with
    |last h1 h2=>rfl
    |next h1 h2 c=>rw[hn]at h1;have e:=cv3;subst e;rw[d]at h2;cases h2
  |@next n p s r hn d c o =>
    intro i j;cases j with
    |last h1 h2=>rw[hn]at h1;have e:=cv3;subst e;rw[d]at h2;cases h2
    |next h1 h2 j=>rw[hn]at h1;have e:=cv3;subst e;rw[d]at h2;have e:=Aj h2;subst e;rw[o j]
def QiX(T:qv){m:Nat}{q:Pg}(hn:hU>=p)(d:ct6)(hl:cr5 q.lv)(a:Ν Μ)(c:Ν (bg m)):n=m:=by
 refine Classical.byContradiction (bv1 e);rcases T.dis n m p q hn d hl e with ⟨h,v,e1,e2,e3⟩|⟨h,v,e1,e2,e3⟩
 ·rw[c]at e2;cases e2
 ·rw[a]at e2;cases e2
#where
structure Bp(P:aJ2)(p:Pg):ç where
 ks:∀k∈p.ks,P k
 ps:cr6->∀x∈p.ps,P x
 hi:∀h,cG5->P h
structure Bw(P:aJ2)(w:Wk):ç where
 aim:P w.aim
 O3:∀x,w.O3>=x->P x
 pairs:∀q∈w.pairs,P q.1/\P q.2
 O2:∀k x,w.O2=.put k x->P x
def G_(P:aJ2)(d:aJ):ç:=P d.key/\∀k x,d=.put k x->P x
def Lj(P:aJ2)(N R:Nat):θ Row
 |.non=>True
 |.side n t=>n<=N/\t<=N
 |.down n t=>n<=N/\t<=N
 |.found n w=>n<=N/\∀x,w>=x->P x
 |.put n w k=>n<=N/\(∀x,w>=x->P x)/\∀c,k>=c->c<=N
 |.cut n w=>n<=N/\∀x,w>=x->P x
 |.read n ps t=>n<=N/\Ps q ps (P q.1/\P q.2)/\a0<=R/\∀s x,t>=(s,x)->s<=N/\P x
 |.told n k=>n<=N/\∀c,k>=c->c<=N
 |.raised n t=>n<=N/\t<=N
section
variable{P:aJ2}{S S':Sh}{w w':Wk}{r:Row}{p q:Pg}{bg:Bg}{n:Nat}
def Ly{L:bd2}{n:Nat}(h:∀p∈L,Bp P p)(a:Bp P q):∀p∈L.set n q,Bp P p:=λ p hp=>by
 rcases cz2 hp with h1|h1
 ·exact h p h1
 ·rw[h1];exact a
def TY{L:bd2}(h:∀p∈L,Bp P p)(a:Bp P q):∀p∈L++[q],Bp P p:=λ p hp=>by
 rcases A6 hp with h1|h1
 ·exact h p h1
 ·rw[aS9 h1];exact a
def Mp{l:Ŗ}{k:Int}{a b:Nat}(hp:∀x∈l,P x)(c:P k):∀x∈l.take a++k::l.drop b,P x:=λ x hx=>by
 rcases cm3 with h|h
 ·exact hp x (Br h)
 ·rcases pw h with rfl|h
  ·exact c
  ·exact hp x (B7 h)
def Tp{l:Ŗ}{a b:Nat}(hp:∀x∈l,P x):∀x∈l.take a++l.drop b,P x:=λ x hx=>by
 rcases cm3 with h|h
 ·exact hp x (Br h)
 ·exact hp x (B7 h)
def Rs(h:∀p∈S.pg,Bp P p)(hq:Bp P q)(a:Bw P w):Ps p (QU S w n q).2.1.pg (Bp P p)/\Bw P (QU S w n q).2.2/\∀c,(QU S w n q).1>=c->c<=Ú:=by
 unfold QU;split
 ·exact⟨Ly h hq,bH1 a.O3,Tk c d d⟩
 ·rename_i hl;have m:XE q∈q.ks:=by
   have lt:mid q<⇑q.ks:=ag6 mid
   unfold XE;rw[Ce,Ab lt];exact Bx lt
  refine⟨Ly (TY h ⟨λ k i=>hq.ks k (B7 i),λ l x hx=>hq.ps l x (B7 hx),hq.hi⟩) ⟨λ k i=>hq.ks k (Br i),λ l x hx=>hq.ps l x (Br hx),A4⟩,ad0 (hq.ks _ m) a.O3 a.O2,ż c d⟩
  ·have e:=cS4;rw[<- e];exact hq.ks _ m
  ·have e:=Aj d;rw[<- e];exact đ
def Va(h:Bp P p)(a:cr6){k:Int}:∀x,Zr p k>=x->P x:=λ x hx=>by
 unfold Zr at hx;split at hx
 ·cases hx
 ·exact h.ps a x (Av hx)
def vp(h:Bp P p)(a:cr6){l u:Int}:∀q∈Zl p l u,P q.1/\P q.2:=λ q hq=>by have:=(Bj.mp hq).1;obtain⟨i,h1⟩:=PX this;have z:=ag9 h1;exact İ (h.ks _ (Av z.1)) (h.ps a _ (Av z.2))
def K1(T:qv)(hp:hU>=p){l u:Int}:⇑(Zl p l u)<=S.O4:=by have:=(AR n p hp).few;refine Bh (Bz _ _) ?_;rw[List.length_zip];lia
def Qrx(T:qv)(W:cF4)(h0:∀p∈S.pg,Bp P p)(a:Bw P w)(I:gu)(h:Xm S w>=(r,S',w')):Ps p S'.pg (Bp P p)/\Bw P w'/\Lj P Ú S.O4 r:=by
  obtain⟨p,hp,v⟩:=yY I h;have b:=h0 _ (Av hp);have ln:=QY hp;obtain⟨rt,J,_⟩:=T.root;have lt:=QY J;have sd:∀s,cR9->s<=Ú:=λ s j=>by
    rcases aM1 _ hp with ⟨_,e⟩|⟨_,s',q,_,e,hq,_⟩
    . rw[j]at e;cases e
    . rw[j]at e
      have e:=Aj e;rw[e];exact eK (QY hq)
  cases v with
  |raised C F=>exact⟨TY h0 ⟨λ k F=>r8 F a.aim,λ z=>Ĝ z aA5,Tk x hx hx⟩,bH1 a.O3,eK lt,đ⟩
  |side _ _ j=>exact⟨h0,bH1 a.O3,de4,sd _ j⟩
  |down _ _ hd C=>refine⟨h0,bH1 a.O3,de4,?_⟩;obtain⟨c,q,e,hq,_⟩:=T.kid _ p hp À _ _ C;rw[e,Bu];exact eK (QY hq)
  |told C _ hd L F =>
    have hl:p.lv≠0:=λ z=>by
      cases i:w.place with
      |none=>exact C (EU i)
      |some m=>obtain⟨q,o,y,_⟩:=W.at_ m i;rw[i]at hp;have hp:Nn m p:=hp;rw[o]at hp;have e:=Aj hp;rw[e]at y;lia
    obtain⟨o,y,E⟩:=Rs (S:=IB) (n:=ñ) (q:=OW p _) h0 ⟨Mp b.ks a.aim,λ z=>Ĝ z hl,b.hi⟩ a;exact⟨o,y,de4,E⟩
  |leaf _ _ hd g0 e =>
    have d:cr6:=À
    unfold J0 at e;split at e
    . cases e
      exact⟨h0,bH1 (Va b d),de4,Va b d⟩
    . rename_i k x hd
      obtain⟨o,y,E⟩:=Rs (S:=IB) (n:=ñ) (q:=aL9 p x) (w:=ca0 aQ3) h0 ⟨Mp b.ks a.aim,λ z=>Mp (b.ps z) (a.O2 _ _ hd),b.hi⟩ (bH1 (Va b d));cases e;exact⟨o,y,de4,Va b d,E⟩
    . cases e
      refine⟨?_,bH1 (Va b d),de4,Va b d⟩;split
      . exact Ly h0 ⟨Tp b.ks,λ z=>Tp (b.ps z),b.hi⟩
      . exact h0
    . have G:∀{l u:Int},∀q∈PM (Zl p l u),P q.1/\P q.2:=λ{l u} q hq=>by
        rcases A6 hq with z|z
        . exact a.pairs q z
        . exact vp b d q z
      split at e
      . rename_i x s hx j
        split at e
        . cases e
          exact⟨h0,⟨a.aim,a.O3,G,a.O2⟩,de4,vp b d,K1 T hp,λ_ _ z=>ē z⟩
        . cases e
          refine⟨h0,⟨b.hi _ hx,a.O3,G,a.O2⟩,de4,vp b d,K1 T hp,ĵ s' O z⟩;have e:=Aj z;cases e;exact İ (sd _ j) (b.hi _ hx)
      . cases e
        exact⟨h0,⟨a.aim,a.O3,G,a.O2⟩,de4,vp b d,K1 T hp,λ_ _ z=>ē z⟩
#where
structure iZ(P:aJ2)(s:St):ç where
 pg:∀p∈s.S.pg,Bp P p
 ws:Œ i v Wk (Ϥ s.ws v->bp1->Bw P v)
 ns:∀x∈s.ns,x<=60
def Sd(P:aJ2)(N R:Nat):θ Out
 |.rest=>True
 |.take n=>n<=60
 |.did n r=>n<=60/\Lj P N R r
section
variable{P:aJ2}{ds:bC3}{s s':St}{i:Nat}{o:Out}{bg:Bg}{b:et}
def iZ.mv(X:iZ P s)(Y:cH7)(E:ã<=60)(hd:∀d∈ds,G_ P d)(a:mv ds s i>=(o,s')):iZ P s'/\Sd P ⇑s.S.pg s.S.O4 o/\∀x∈iC s s' i,Bw P x.2:=by
 unfold TR.mv at a;split at a
 ·cases a
 ·rename_i w y;split at a
  ·rename_i c;have no:∀s':St,∀x∈iC s s' i,Bw P x.2:=λ s' x hx=>ı (YQ y c) hx hx
   split at a
   ·cases a;exact⟨X,True.intro,no _⟩
   ·rename_i d C;cases a;have tk:=Y.tk;refine⟨⟨X.pg,pM j v u e,A4⟩,dm (s.tk<=60),no _⟩
    ·rcases Zd u with ⟨rfl,e2,_⟩|⟨ne,u⟩
     ·rw[e2];have q:=hd d (Av C);exact⟨q.1,Tk x hx hx,Tk x hx hx,q.2⟩
     ·exact X.ws j v u e
    ·rcases cz2 hx with z|z
     ·exact X.ns x z
     ·lia
  ·rename_i c;have c:gu:=Ë c
   split at a
   ·cases a
   ·rename_i r S' w' es;cases a;obtain⟨h1,h2,h3⟩:=Qrx Y.T (Y.A.ok i w y c) X.pg (X.ws i w y c) c es;refine⟨⟨h1,pM j v u e,X.ns⟩,İ ?_ h3,A4⟩
    ·rcases Zd u with ⟨rfl,e2,_⟩|⟨ne,u⟩
     ·rw[e2];exact h2
     ·exact X.ws j v u e
    ·show s.ns.getD i 0<=60;rw[Ce];cases hn:Ű s.ns with
     |none=>exact up
     |some x=>exact X.ns x (Av hn)
    ·have hi:i<LG:=ţ y;rw[x6 y c (v':=w') (As hi)]at hx;split at hx
     ·rw[aS9 hx];exact h2
     ·cases hx
def iZ.run{H K h:Nat}{os:bZ6}(r:cy8 H K h s os s')(y:ã<=60)(hd:∀d∈ds,G_ P d)(X:iZ P s):iZ P s'/\∀x∈K4 ds H AH h s,Bw P x.2:=by
  induction r with
  |nil h s=>exact İ X (Tk x hx hx)
  |@cons h s F G o os a E u c _ v =>
    obtain⟨bg,b,Y,_⟩:=u;obtain⟨e,_,q⟩:=X.mv Y y hd c;obtain⟨j,C⟩:=v e;refine İ j A4;rw[A8,K4,c]at hx;rcases cm3 with z|z
    . exact q x z
    . exact C x z
def Qa1(Y:cH7)(a:cK6 s i>=(o,s')):∀x∈iC s s' i,⇑x.2.pairs<=8 * (b i+1):=by
 unfold TR.mv at a;split at a
 ·cases a
 ·rename_i w d;split at a
  ·rename_i c;intro x hx;rw[YQ d c]at hx;cases hx
  ·rename_i c;have c:gu:=Ë c
   split at a
   ·cases a
   ·rename_i r S' w' es;cases a;intro x hx;have hi:i<LG:=ţ d;have rm:=Y.rm;have sz:=kA (m:=8) (λ m p a=>ī (Y.T.page m p a).few) es;have pr:=Y.pr i w d c;rw[x6 d c (v':=w') (As hi)]at hx;split at hx
    ·rw[aS9 hx];show ⇑w'.pairs<=_;lia
    ·cases hx
def Qgn{H K h:Nat}{os:bZ6}(r:cy8 H K h s os s'):∀x∈K4 ds H AH h s,⇑x.2.pairs<=8 * (K+1):=by
  induction r with
  |nil h s=>intro x hx;cases hx
  |@cons h s v y o os a u d c _ j =>
    obtain⟨bg,b,Y,e⟩:=d;intro x hx;rw[A8,K4,c]at hx;rcases cm3 with z|z
    . have:=Qa1 Y c x z
      have:=e h;lia
    . exact j x z
def iZ.leaf(X:iZ P s)(r:Ċ)(h0:∀m∈r,∃q,s.S.pg[m]?>=q/\q.lv=0):∀q∈uB s.S r,P q.1/\P q.2:=λ q hq=>by obtain⟨m,c,h⟩:=List.mem_flatMap.mp hq;obtain⟨p,a,d⟩:=h0 m c;unfold oW at h;rw[a]at h;have B:=X.pg p (Av a);obtain⟨i,h1⟩:=PX h;have z:=ag9 h1;exact İ (B.ks _ (Av z.1)) (B.ps d _ (Av z.2))
#where
#print TR
namespace TP
open TR
section
variable{P:aJ2}{O4:Nat}
def Kv{rows:Rw}{m:Nat}{fork:Bool}{k:Nat}{r:Int × Int}(h:r∈Zm rows m fork k):r∈rows:=B7 (Br h)
def Z_{rows:Rw}{m:Nat}{fork:Bool}{k:Nat}(h0:P 0)(h:∀r∈rows,P r.1):P (YO rows m fork k):=by
 unfold YO;cases e:Zm rows m fork k with
 |nil=>exact h0
 |cons r l=>exact h r (Kv (e▸List.mem_cons_self))
def T_{L:Lv}(h0:P 0)(h:∀r∈L.rows,P r.1)(h2:L.lv=0->∀r∈L.rows,P r.2)(k:Nat):Bp P bI4:=by
 refine⟨A4,ĵ l x hx,A4⟩
 ·obtain⟨r,a,rfl⟩:=Fm;exact h r (Kv (B7 a))
 ·obtain⟨r,a,rfl⟩:=Fm;exact h2 l r (Kv a)
 ·have hx:bL1 (k+1) (Pi (k+1))>=x:=hx;split at hx
  ·cases hx
  ·have e:=cS4;rw[<- e];exact Z_ h0 h
def HI(h0:P 0):bd3 k L Lv pg bd2 (Ps r L.rows (P r.1)->Ps p pg (Bp P p)->∀p∈Gv O4 k L pg,Bp P p)
  |0,_,_,_,h=>h
  |k+1,L,pg,c,h=>by
    unfold Gv;split
    . exact h
    . have hn:∀r∈cY9,P r.1:=λ r a=>ab2 j (cy5 a) (Z_ h0 c)
      refine HI h0 k fg _ hn (ż p hp);rcases A6 hp with z|z
      . exact h p z
      . obtain⟨j,_,rfl⟩:=cy5 z
        exact T_ h0 hn (λ l=>Ĝ l aA5) j
#where
#print TP
namespace TR
def GM(S:Sh)(w:Wk)(n:Nat)(p:Pg):(QU S w n p).2.1.O4=S.O4:=ac0 QU
def QjC{S a:Sh}{w w':Wk}{r:Row}(c:gu)(h:Xm S w>=(r,a,w')):a.O4=S.O4:=by
 cases Ge c h with
 |raised=>rfl
 |side=>rfl
 |down=>rfl
 |told=>exact GM ..
 |found=>rfl
 |put=>exact GM ..
 |cut n y b=>cases b<;>rfl
 |last=>rfl
 |next=>rfl
section
variable{ds:bC3}{s s':St}{i:Nat}{o:Out}
def HK(h:mv ds s i>=(o,s')):s'.S.O4=s.S.O4/\bs4=LG/\s.tk<=s'.tk:=by
 unfold mv at h;split at h
 ·cases h
 ·rename_i w c;split at h
  ·split at h
   ·cases h;exact Ņ rfl đ
   ·cases h;exact cq0 rfl sw
  ·rename_i a;split at h
   ·cases h
   ·rename_i r S' w' es;cases h;exact cq0 (QjC (Ë a) es) đ
def QlY{H K h:Nat}{os:bZ6}{s s':St}(r:cy8 H K h s os s'):s'.S.O4=s.S.O4/\bs4=LG/\s.tk<=s'.tk:=by
  induction r with
  |nil h s=>exact Ņ rfl đ
  |cons _ _ _ c _ a=>obtain⟨d,e,j⟩:=HK c;exact⟨à a.1 d,à a.2.1 e,Bh j a.2.2⟩
def Qp4{b:et}{H c m:Nat}(Y:cH7)(x:∀i,b i<=c)(z:c<=64)(j:0<H)(e:H<=8)(hl:LG=H)(v:ã<=46)(hp:ã<=s.tk+23):∃os s' a,cy8 H 6000 0 s os s'/\bp6 s'/\AH<MM/\bn3 s' a IJ:=by
 let C:=2 * (2 * (1+ã))+3 * H+2
 have pg:=Y.pages;have tk:=Y.tk;have r:aU s.S bg s.ws (λ_=>C):=λ i w hi y=>by have:=aU.first Y.T Y.K Y.T.levels s.ws i w hi y;dsimp only at this ⊢;rw[hl]at this;lia
 have d:C+1<=215:=dm (2 * (2 * (1+ã))+3 * H+2+1<=215)
 have p:bx9 * (C+1)<=23 * 215:=af3 À d;obtain⟨os,s',a,R,st,ln,E,u⟩:=Dl (ds:=ds) (H:=H) (K:=6000) (C:=C) j đ (bx9 * (C+1)+C) C 64 s bg hl (Y.mono λ i _=>ī (x i)) r đ À;refine⟨os,s',a,R,st,?_,u⟩;have q:H * (bx9 * (C+1)+C)<=8 * (23 * 215+215):=af3 e À;lia
#where
#print TR
namespace D
open PySem PySem.Spec PyProof.Rows L2
section
variable{prog:Program}{w:World}{A:Around}{E:C7}{s:Shared}
def QnC:typeLookup aB8 al9 = bd7:=aT7
def QnB{a:Addr}{o:Obj}{xs:ŋ}{k:Nat}{Q:mM->ϲ}(hx:č a o)(v:o.cls=aB8)(i:o.data=.seq xs k)(hd:cD0)(z:lI)
  (h:∀h' tk e,Heap.NewExcOf s.heap h' e "AttributeError" -> Q none aI0):rp w A (getAttr? ş al9) Q E s:=by
 obtain⟨c,y,x,C⟩:=o;simp only at v i hd;subst v i hd;obtain⟨hp,g,d,tk,os⟩:=s;have u:∀r,(⟨hp,g,d,r,os⟩:Shared).TypeIs ş ĉ := λ_=>bJ9 hx;have G:=sub_AttributeError;have I:=PySem.F.slot_list_getattribute.lookup;have J:=PySem.F.slot_list_getattribute.bind ş;have L:=am_list_getattr_none;unfold getAttr? getAttrBy? getAttrBy
 repeat (any_goals (first|assumption|exact u _|((with_reducible show Ş _ (call (Value.builtin "list.__getattribute__") _ _) _ _ _);refine call_meets PySem.F.slot_list_getattribute (u _) am_entry_list_getattribute (PySem.F.args_list_getattribute_2 _ _) (meets_getattribute_miss_list a xs k C al9 _ QnC È) ⟨hx,z,pM h' r e j⟩)|wp_step))
 obtain⟨t',P,O⟩:=j.there;show Ş _ (getattributeRaised _ _ _ _ _ _ _) _ _ _;unfold getattributeRaised
 repeat (any_goals (first|assumption|wp_step))
 exact h _ _ _ j.of
#where
section
variable{prog:Program}{w:World}{K:rV}[cf0 K]{knd:KeyKind prog w K}{A:Around}{R:Result->ϲ}
def Qa5:entryFor table aT8 = í Builtin.«dict.update.loop»:=entryFor_of_tree am0
def yL:œ (plainId aT8):=È
def M4(knd:KeyKind prog w K)(h:Heap)(u:Value)(a:bi9 K):ç:=∃t o n key,u=æ t/\Ϧ t o/\o.cls=aw0 /\ o.data=.seq #[key,a.2] n/\œ (knd.is a.1 key)
def Qkq{d v l:Addr}{items:ŋ}{more:ah6 K}(hh:lI)(y:d≠v)(ad:l≠d)(ae:l≠v)(hsz:bR8)(ay:cc0 items.size):
    ∀(k i:Nat)(s:Shared),more.length-i=k->i<=more.length->s.heap.IsListIter v l i->s.heap.IsList l items ->
    bd3 j u Value O (bi9 K) (G1 items>=u->G1 more>=O->M4 knd s.heap u O/\u≠æ d/\u≠cL5)->s.heap.DictOf knd d (cf3 aM4) ->
    (∀h' t',h'.DictOf knd d (cf3 more)->(∀b o,b≠d->b≠v->cj9->cH6)->R (.ok (.ret ey)) aH9) ->
    codeAny aJ6 A (aD0 aT8 (FI [æ d,cL5,rawInt i,ey])) R s:=by
  intro k;induction k with
  |zero =>
    intro i s hk hi hit hl hp hd Z;have ab:cc0 i:=À
    refine tJ Qa5;rw[mi yL];show n5 A.in1 (bk5 v) _ _ _ s;refine Cv (wpAny_pyNext_list_end bT3 hit hl (ĸ Array.getElem?_eq_none) (sg h'));refine Cv (Cz (Cz (Z h' s.toks ?_ λ b o C c e=>hx b o c e)));rw[ab,List.take_length]at hd;obtain⟨o,es,P,ho,r⟩:=hd;exact⟨o,es,P,hx d o y ho,r⟩
  |succ k ih =>
    intro i s hk hi hit hl hp hd Z;have b6:i<more.length:=À
    obtain⟨u,hu⟩:∃u,Ϥ items u:=İ (items[i]' À) (Array.getElem?_eq_getElem _);have G:Ϥ more more[i]:=Ab _;obtain⟨⟨t,o,n,key,rfl,ht,aw,ax,x⟩,n1,n2⟩:=hp i u _ hu G;refine tJ Qa5;rw[mi yL];show n5 A.in1 (bk5 v) _ _ _ s;refine Cv (wpAny_pyNext_list_item hit hl hu (ĵ h1 F z));have td:t≠d:=λ e=>n1 aJ5;have ti:t≠v:=λ e=>n2 aJ5;have J:h1.get? t>=o:=à (z.2 t ti) ht;refine Cv f3;refine Cv (wpAny_tryCatch ?_);unfold Builtin.Dict.pairItems;refine NY (IX J aw) ?_;rw[Cy Â];refine fx J ax sK;show Ş _ (OE [key,more[i].2] (dictSet d key more[i].2)) _ _ _;refine f3;unfold dictSet
    try with_reducible refine f3
    obtain⟨od,es,P,ah,rd⟩:=hd;have a9:h1.DictOf knd d (cf3 aM4):=⟨od,es,P,à (z.2 d y) ah,rd⟩;have ml:Ă ⇑(cf3 aM4):=by have:=merged_length_le (K:=K) [] aM4;rw[A7]at this;simp at this;lia
    refine Cv (knd.pyHash x (wpAny_dictSetHashed_pairs (hsz:=ml) x a9 (ĵ h2 E I)));rw[<- merged_take_succ [] more i _ G]at E;have keep:∀b o,b≠d->b≠v->cj9->h2.get? b>=o:=λ b o C c e=>à (I.2 b C) (à (z.2 b c) e);obtain⟨oi,am,ri⟩:=F;obtain⟨ol,ar,rl⟩:=hl;refine Cz (CA (RD yL));refine ih (i+1) _ À À ⟨oi,à (I.2 v y.symm) am,ri⟩ ⟨ol,keep l ol ad ae ar,rl⟩ (cR4 j u O Q U) E (pM h' t' a8 ac)
    . obtain⟨⟨t',o',n',L,rfl,a,b⟩,c1,c2⟩:=hp j u O Q U
      exact⟨⟨t',o',n',L,rfl,keep t' o' (λ e=>c1 aJ5) (λ e=>c2 aJ5) a,b⟩,c1,c2⟩
    . exact Z h' t' a8 λ b o C c e=>ac b o C c (keep b o C c e)
#where
section
variable{prog:Program}{w:World}{K:rV}[cf0 K]{knd:KeyKind prog w K}{A:Around}{E:C7}{s:Shared}
def vO{l:Addr}{o:Obj}{items:ŋ}{n:Nat}{more:ah6 K}{Q:C7}(hh:lI)(P:č l o)(I:o.cls=aB8)(d:o.data=.seq items n)(L:cD0)
  (hsz:bR8) (hlen:cc0 items.size) (hp:bd3 j u Value y (bi9 K) (G1 items>=u->G1 more>=y->M4 knd s.heap u y))
  (h:∀h' t',h'.DictOf knd s.heap.objs.size (cf3 more)->(∀b o,cj9->cH6)->Q Ĺ aH9) :
  rp w A (call (į AM) [æ l]) Q E s:=by
 refine callType_codes (Q₁:=λ obj s₁=>obj=τ/\s₁=bq1 (mI AM (.dict #[]))) PySem.F.kt_called_dict (PySem.F.kt_typeCall_dict_1 _) PySem.F.entry_dict_init (kt_code_dict_new _ ed) ?_;rintro obj s₁ ⟨rfl,rfl⟩;have c:(mI AM (.dict #[])).DictOf knd s.heap.objs.size []:=Heap.DictOf.new s.heap;have i:(mI AM (.dict #[])).get? l>=o:=om P;have Z:∀b q,cj8 q->tf b:=λ b q e z=>Ĝ Ex (Æ z ae7);refine mY c.typeIs (PySem.F.args_dict_init_2 _ _);unfold Builtin.«dict.__init__»;refine aR4;unfold Builtin.Dict.selfAndRest;refine Cv (wpAny_notOrdered_dict c.typeIs ?_);show Ş _ (î (s.heap.objs.size,[Ϗ l])) _ _ _;refine sK;show Ş _ (Builtin.Dict.updateFrom "dict.__init__" s.heap.objs.size ↑l [] ey) _ _ _;unfold Builtin.Dict.updateFrom;refine NY (IX i I) ?_;rw[Cy Â];refine Cv (QnB i I d L bT3 (pM h1 t1 e1 hx));rw[Cy (nv (œ (none:mM).isNone))];refine wT ?_;have x:h1.IsList l items:=⟨o,hx.keeps l o i,I,n,d⟩;refine Cv (aR7 x);have dn:bj1 h1.objs.size:=λ z=>by obtain⟨od,_,_,v,_⟩:=c;exact Ĝ (Ao (hx.keeps _ _ v)) (Æ z ae7)
 have kp:∀b q,cj8 q->(h1.push (bE2 "list_iterator" #[æ l,iA 0 0])).get? b>=q:=λ b q e=>om (hx.keeps b q TU);have U:∀b q,cj8 q->b≠h1.objs.size:=λ b q e z=>Ĝ (Ao (hx.keeps b q TU)) (Æ z ae7);refine Cz (CA (RD yL));refine Qkq (knd:=knd) (l:=l) (items:=items) (more:=more) bT3 dn (Z l o P) (U l o P) hsz hlen more.length 0 _ rfl up (fh _ L7 rfl) (x.push _) (cR4 j u y C G) ?_ λ h' t' J O=>ā (h h' t' J λ b q e=>O b q (Z b q e) (U b q e) (kp b q e))
 ·obtain⟨t,o',n',key,rfl,a,b⟩:=hp j u y C G;exact⟨⟨t,o',n',key,rfl,kp t o' a,b⟩,λ e=>Z t o' a (by injection e),λ e=>U t o' a (by injection e)⟩
 ·obtain⟨od,es,ep,v,r⟩:=c;exact⟨od,es,ep,om (hx.keeps _ _ v),r⟩
#where
section
variable{X:Cx}
def pB:Û->ď h7
  | []=>í []
  |.tup [k,v]::r=>match mR k,pB r with
    |some k,some ps=>í ((k,v)::ps)
    |_,_=>none
  |_=>none
def iW:Rq aS6
  |.lst ds=>cj5
  |.ref n=>do
    match <- LM with
    |.lst ds=>cj5
    |_=>failure
  |_=>failure
def Oe{hp hp':Hs}{K:Aa}{v:V}(W:bF0)(r:cm7)(h:Pp (iW d hp) ds):hp=hp'/\∃p xs,v=bR4/\Pm K p/\sT:=by
  cases d with
  |lst xs=>obtain⟨rfl,rfl⟩:=cJ8;obtain⟨a,ys,rfl,_,e,l⟩:=r.b_;exact⟨rfl,a,ys,rfl,e,l⟩
  |ref n =>
    obtain⟨o,hp1,e1,e2⟩:=Qg (é (Pp ((LM >>= λ o=>bi5 o ds cj5 failure aS6) hp) ds) h);obtain⟨e3,rfl⟩:=bb2;cases o with
    |lst i=>obtain⟨rfl,rfl⟩:=bd;obtain⟨a,rfl,_,ys,h1,c⟩:=df4 r;exact⟨rfl,a,ys,rfl,mP,c⟩
    |aL _=>cases e2
    |ins _ _=>cases e2
  |non=>cases h
  |bl _=>cases h
  |int _=>cases h
  |str _=>cases h
  |tup _=>cases h
def mZ(o:ď α):M α:=match o with
 |some a=>î a
 |none=>failure
def UP{o:ď α}{a:α}{hp hp':Hs}(h:Pp (mZ o hp) a):o>=a/\hp=hp':=by
 cases o with
 |none=>cases h
 |some z=>obtain⟨rfl,rfl⟩:=cJ8;exact ed
def Ds:cf:=wN λ d=>do
 let ds <- iW d
 let ps <- mZ (pB ds)
 XC (si (zR [] ps))
def Qoq(I:ag):∀{ds:Û}{kvs:h7}{ys:η}{i:Đ},pB ds>=kvs->iq X.K ds ys->bv5 i ->
    ∃(F:bp7)(more:ŗ Value),bO2 X.K ρ B H F/\KV F more/\cc0 cu8/\bd3 j u Value C (bi9 Key) (G1 i>=u->G1 more>=C->M4 bi7 s.heap u C):=by
  intro ds;induction ds with
  |nil=>intro kvs ys i h r v;cases h;unfold au at r;subst r;cases v;exact NW [] [] lS lS (λ j u C h=>iS h)
  |cons d ds ih =>
    intro kvs ys i h r v;unfold au at r;obtain⟨y,a9,rfl,r1,r2⟩:=r;cases v with
    |@cons _ u _ us v1 v2 =>
    obtain⟨k,z,rfl,E,ps,hk,G,rfl⟩:∃k z,d=ì [k,z]/\∃E ps,mR k>=E/\pB ds>=ps/\kvs=(E,z)::ps:=by
      unfold pB at h;split at h
      . rename_i e;cases e
      . rename_i k v r e
        injection e with e1 e2;subst e1 e2;split at h
        . rename_i a b c d;cases h;exact⟨_,_,rfl,_,_,c,d,rfl⟩
        . cases h
      . cases h
    obtain⟨F,more,P,Q,U,Z⟩:=ih G r2 v2;obtain⟨a,xs,rfl,_,sq,l⟩:=r1.tupI;obtain⟨x1,r',rfl,b1,l⟩:=(show ∃x r,xs=x::r/\mr X.K k x/\iq X.K [z] r by unfold au at l;exact l);obtain⟨x2,a8,rfl,b2,l⟩:=(show ∃x r,r'=x::r/\mr X.K z x/\iq X.K [] r by unfold au at l;exact l);unfold au at l;subst l;obtain rfl:=qG hk b1;cases v1;obtain⟨O,L,pl,hz⟩:=d4 sq;cases L with
    |@cons _ w1 _ ws q1 J =>
    cases J with
    |@cons _ w2 _ ws J q3 =>
    cases q3;obtain⟨o,ho,hc,n,hd⟩:=pl;refine⟨(E,x2)::F,(E,w2)::more,ck8 b2 P,ck8 J Q,Ģ U,cR4 j u C h1 h2⟩;cases j with
    |zero=>cases h1;cases h2;exact bw2 a o n w1 ho hc hd (Gn q1)
    |succ j=>exact Z j u C h1 h2
def Qna(P:aT):cU7 X (į AM) Ds:=by
 intro O9 s σ H xs us Q I r h;obtain⟨ρ,B,hp,ds,d,hp',W,rl,e,k⟩:=h;obtain⟨x,rfl,e⟩:=KU e;obtain⟨zs,hp1,e1,e2⟩:=Ū;obtain⟨kvs,Z,e3,O⟩:=Fa;obtain⟨e5,rfl⟩:=UP e3;cases O;obtain⟨v,rfl,rv⟩:=rl.bY;obtain⟨rfl,p,ys,rfl,sq,l⟩:=Oe W rv e1;obtain⟨u,rfl,rx⟩:=qT r;cases rx;obtain⟨a8,F,pl,hz⟩:=wy sq;obtain⟨o,n,U,y,z,c⟩:=pl;obtain⟨i,more,G,C,E,J⟩:=Qoq I e5 l F;have zm:bR8:=ap9 E F hz
 have zk:Ă ⇑(XY [] i):=by have h1:=zQ i [];have h2:=⇑C;rw[List.length_nil]at h1;lia
 refine vO (knd:=bi7) (Of P) U y c z zm (Ë E) (λ j u kv h1 h2=>J j u kv bQ5 h2) (pM h' t' L kp);have hn:=m5 cd8;refine dr τ _ (cx7 a o (.dK (XY [] i)) t' t' kp đ (M_ zk (eW (Ł (Bc I.big))) (C.merge lS) L)) ?_;have g:wa X.K B H (ρ++[s.heap.objs.size]) (jO B s.heap.objs.size) (am9 (.dK (XY [] i))):=Gr.dJ hn I.fH;refine k _ _ _ _ g (W.dJ hn I.fH (aW.iI (aW.gs ?_ (aW.merge G (kvs:=[]) (xs:=[]) lS)) Q9)) ?_
 ·exact cW0
 ·unfold aA;exact dc4 _ W.len
#where
def lD:Û->ď (Ã Bool)
 | []=>í []
 |.bl b::r=>tP (lD r) (b :: ·)
 |_=>none
def vG:cf:=wN λ d=>do
 let ds <- iW d
 let bs <- mZ (lD ds)
 fz aM5
section
variable{prog:Program}{w:World}{A:Around}{E:C7}{s:Shared}
def Qji(bs:Ã Bool):(ą ⇑bs).all (λ i=>aA6 i)=aM5:=by
  induction bs with
  |nil=>rfl
  |cons b bs a=>rw[A8,List.range_succ_eq_map,Cp,List.all_map,Cp,<- a];rfl
def Qae{l:Addr}{items:ŋ}{bs:Ã Bool}{Q:C7}(hh:lI)(hl:s.heap.IsList l items)(a:items.size=⇑bs)(r:Œ i v Value (Ϥ items v->v=x5 (aA6 i)))
  (h:∀h' tk,(∀b o,cj9->cH6)->Q (x5 aM5) aI0):rp w A (aE7 "all" [æ l]) Q E s:=by
 refine call_all_walk (aR7 hl);have c:tf l:=λ e=>aa0 o x hl (Ci _ (e▸Ao x))
 refine⟨s.heap.objs.size,_,_,_,_,_,λ i=>aA6 i,rfl,Walks.list bT3 s.heap.objs.size l c items,?_,λ i v s' Q' E' d j=>?_,ĵ h' tk u⟩
 ·exact İ (fh _ L7 rfl) (hl.push _)
 ·have:v=x5 (aA6 i):=r i v d;subst this;exact Cz j
 ·rw[a,Qji];refine h h' tk λ b o e=>u b o bX3 TU;have:af4 b:=Ë z
  exact Ci _ (this▸Ex)
#where
section
variable{X:Cx}
def Qm9{K:Aa}:∀{ds:Û}{bs:Ã Bool}{ys:η}{a:Đ},lD ds>=bs->mx ys->bv5 a->bv6=⇑bs/\Œ i v Value (Ϥ a v->v=x5 (aA6 i)):=by
  intro ds;induction ds with
  |nil=>intro bs ys a h r v;cases h;unfold au at r;subst r;cases v;exact ā (λ i v h=>iS h)
  |cons d ds x =>
    intro bs ys a h r v;unfold au at r;obtain⟨y,F,rfl,c,z⟩:=r;cases v with
    |@cons _ u _ us C E =>
    cases d<;>first|(simp[lD]at h;done)|skip
    rename_i b;have h:tP (lD ds) (b :: ·)>=bs:=h;obtain⟨o,h1,rfl⟩:=by4 h;obtain⟨e,j⟩:=x h1 z E;unfold aA at c;subst c;cases C;refine İ (Ģ e) (ĵ i v hv);cases i with
    |zero=>cases hv;rfl
    |succ i=>exact j i v hv
def BJ(o:aT):bf6 X "all" vG:=by intro L s σ H xs us Q I r h;obtain⟨ρ,B,hp,ds,d,hp',W,E,e,k⟩:=h;obtain⟨x,rfl,e⟩:=KU e;obtain⟨O,hp1,e1,e2⟩:=Ū;obtain⟨bs,y,e3,j⟩:=Fa;obtain⟨e5,rfl⟩:=UP e3;obtain⟨rfl,rfl⟩:=Qm j;obtain⟨v,rfl,F⟩:=E.bY;obtain⟨rfl,p,ys,rfl,J,l⟩:=Oe W F e1;obtain⟨u,rfl,G⟩:=qT r;cases G;obtain⟨z,C,pl,hz⟩:=wy J;obtain⟨a,c⟩:=Qm9 e5 l C;refine Qae (bs:=bs) (Of o) pl.isList (Ë a) (λ i v h=>c i v (Ë h)) (ĵ h' tk kp);exact N3 aM5 H (cJ4 tk kp) (L4 an1)
#where
#print D
namespace L2
open PySem PySem.Spec PyProof.Rows
def QgJ:typeLookup dc1 "__len__" = bd7:=aT7
def Qe9:typeLookup dc1 "__length_hint__" = bd7:=aT7
section
variable{X:Cx}{O9:C8}{σ:L2.St}
def Er(H0 H:Hp)(xs ys:η)(ts:η):ç:=Œ m t V (ts[m]?>=t->∃(a:Addr)(x y:V),t=ν/\xs[m]?>=x/\ys[m]?>=y/\Ν (H0 a)/\IY>=(ì [x,y]))
def Qo6{A:Around}{R:Result->ϲ}{H0:Hp}{z p o i j a b S:Addr}{res:Value}(hh:lI)(D:ZA z p o i j a b)(qa:SqT X.K H0 a xs)(qb:SqT X.K H0 b ys)(a8:Ν (H0 S))(Ro:S∉[z,p,o,i,j]):
    ∀(k n : Nat)(s : Shared)(H : Hp)(ts : η), min ŝ Tm-n = k -> n <= min ŝ Tm -> ag -> Ps c [z, p, o, i, j] (GS X O9 H c) -> ZU s.heap z p o i j a b n -> (∀c q, H0 c = í q -> H c = í q) ->
      dc0 S ts->cR1 n->Er H0 H xs ys ts ->
      (∀(s':Shared)(Q:Hp)(C:η),ū Q s'->(∀c q,H0 c>=q->Q c>=q)->ģ (Q S) C->⇑C=min ŝ Tm->Er H0 Q xs ys C->R (.ok (.ret res)) s') ->
    codeAny an7 A (aD0 "list.extend.loop" (FI [æ S,æ z,res])) R s:=by
  intro k;induction k with
  |zero =>
    intro n s H ts hk hn I hf Z kp E hl hP hR;have P:∀{c:Addr}{vs:η},SqT X.K H0 c vs->bt7 c vs:=λ{c vs} q=>by
      rcases q with q|q
      . exact ë (by rcases q with q|⟨oo,q⟩;exact ë (kp _ _ q);exact mf oo (kp _ _ q))
      . exact Ĉ q
    obtain⟨ia,ra,pa,_⟩:=d4 (P qa);obtain⟨ib,rb,pb,_⟩:=d4 (P qb);have l1:=ra.length;have l2:=rb.length;obtain⟨f0,rQ,U,m_⟩:=Z.zz;have L:ap8 z nI := bJ9 U;refine ct2;rw[ct1];show n5 A.in1 (bk5 z) _ _ _ s;refine aR4;unfold pyNext;refine Cv (wpAny_attempt (wpAny_callSpecial?_slot (name:=ac4) L F.slot_zip_next (wpAny_call_entry F.slot_zip_next L F.entry_zip_next
      (WE bT3 D Z (bu6 a pa) (bu7 b pb) (II (bb1 ŝ Tm) q q (ë ŉ) (Ĉ ŉ)) (pM g x r hx)) X2)))
    obtain⟨ox,h1,h2⟩:=hx;refine Cv (wpAny_isInstance (T := ad8) (b:=true) ⟨ox,h1,h2⟩ isSubtype_stop ?_);refine sK;refine Cz (hR _ H ts (I.ou (t':=s.toks) hf (pM c q d e)) kp E À hP);simp only[Bi,B8,or_false,not_or]at d;exact r c q d.1 d.2.2.1 d.2.2.2.1 d.2.2.2.2 e
  |succ k ih =>
    intro n s H ts hk hn I hf Z kp E hl hP hR;have P:∀{c:Addr}{vs:η},SqT X.K H0 c vs->bt7 c vs:=λ{c vs} q=>by
      rcases q with q|q
      . exact ë (by rcases q with q|⟨oo,q⟩;exact ë (kp _ _ q);exact mf oo (kp _ _ q))
      . exact Ĉ q
    obtain⟨ia,ra,pa,za⟩:=d4 (P qa);obtain⟨ib,rb,pb,_⟩:=d4 (P qb);have hx:xs[n]?>=xs[n]:=Ab À;have hy:ys[n]?>=ys[n]:=Ab À;obtain⟨u,hu,ru⟩:=ra.get hx;obtain⟨v,hv,rv⟩:=rb.get hy;obtain⟨f0,rQ,U,m_⟩:=Z.zz;have L:ap8 z nI := bJ9 U;refine ct2;rw[ct1];show n5 A.in1 (bk5 z) _ _ _ s;refine aR4;unfold pyNext;refine Cv (wpAny_attempt (wpAny_callSpecial?_slot (name:=ac4) L F.slot_zip_next (wpAny_call_entry F.slot_zip_next L F.entry_zip_next
      (WF D Z (bu6 a pa) (bu7 b pb) (Ë hu) (Ë hv) λ g' S' tp sz CW=>sK) X2)))
    have r:∀c q,c∉[z,p,o,i,j]->č c q->g'.get? c>=q:=λ c q d e=>by simp only[Bi,B8,or_false,not_or]at d;exact CW c q d.1 d.2.2.1 d.2.2.2.1 d.2.2.2.2 e
    have ne:∀c∈[z,p,o,i,j],tf c:=λ c d e=>by
      obtain⟨_,pp,⟨u1,u2,oo⟩,⟨oi,ei,_⟩,⟨oj,ej,_⟩⟩:=Z;simp only[Bi,B8,or_false]at d;rcases d with rfl|rfl|rfl|rfl|rfl
      . exact bb5 U e
      . exact bb5 pp e
      . exact bb5 oo e
      . exact bb5 ei e
      . exact bb5 ej e
    have fr:=I.fresh;have I1:=I.iU (t':=s.toks) hf r (us:=[u,v]) (an0 ru rv lS) (ec (Ă 2)) (t6 _ tp _ rfl);have Rp:tf S:=hW e e fr E E
    have J:ģ (upd H s.heap.objs.size (ì [xs[n],ys[n]]) S) ts:=fP Rp E
    obtain⟨zl,ab,c,vl,ll,e1⟩:=I1.lstM J;have a9:Ă ⇑(ts++[bY5]):=we
    have I2:=I1.lset (t':=s.toks) (its':=ab++[τ]) (f:=(·.push Ĺ)) J e1 Ê (vl.append (ϗ (nv (RelV bY5 aC1)) lS)) a9;show Ş A.in1 (updateSeq S (·.push Ĺ) >>= _) _ _ _;refine aR4;refine wpAny_updateSeq (s:=bq1 g') e1 rfl (Cz (İ bK7 (ih (n+1) _ _ (ts++[τ]) À À I2 (ż c d) (S'.at (pM c d q e)) (ĵ c q e) Q9 we ?_ hR))) ŉ ŉ
    . have f:=hf c d
      refine İ ?_ f.2;rw[Q0 (bR5 c S (λ e=>Ro (e▸d))),Q0 (ne c d)];exact f.1
    . exact hZ _ _ (λ h:S=c=>Ro (h▸d)) e
    . rw[Q0 (hW z z a8 e e),Q0 (λ z=>by have:=kp c q e;rw[z,fr]at this;cases this)];exact kp c q e
    . intro m t G
      by_cases hm:m<ts.length
      . rw[Ag hm]at G
        obtain⟨aa,x,y,r1,r2,r3,r4,O⟩:=hP m t G;refine⟨aa,x,y,r1,r2,r3,r4,?_⟩;rw[Q0 (hW z z E O O),Q0 (hW z z fr O O)];exact O
      . rw[al2]at G
        have m0:m-ts.length=0:=aa1 (ţ G)
        rw[m0]at G;cases G;have mn:m=n:=À
        subst mn;refine⟨_,_,_,rfl,hx,hy,?_,?_⟩
        . cases q:H0 s.heap.objs.size with
          |none=>rfl
          |some w=>rw[kp _ _ q]at fr;cases fr
        . rw[Q0 (Ł Rp),Q9]
def Qo5{s:Shared}{E:C7}{Q:C7}{z p o i j a b:Addr}{xs ys:η}(I:ag)(r:aT)(D:ZA z p o i j a b)(Z:ZU s.heap z p o i j a b 0)(hf:∀c∈[z,p,o,i,j],GS X O9 H c)
  (qa:Da X.K a) (qb:cP4 b) (q:∀(s':Shared)(v:Hp)(ts:η),ū v s'->(∀c q,H c>=q->v c>=q)->ģ (v s.heap.objs.size) ts->cR1 (min ŝ Tm)->Er H v xs ys ts->Q Ĺ s') :
  ψ (call aB8 [æ z]) Q E s:=by
 have hh:=Of r;have C:∀c∈[z,p,o,i,j],N9 c:=λ c r=>by
  obtain⟨⟨f0,rQ,y,m_⟩,pp,⟨u1,u2,oo⟩,⟨oi,U,_⟩,⟨oj,ej,_⟩⟩:=Z;simp only[Bi,B8,or_false]at r;rcases r with rfl|rfl|rfl|rfl|rfl
  ·exact Ao y
  ·exact Ao pp
  ·exact Ao oo
  ·exact Ao U
  ·exact Ao ej
 refine callType_codes (Q₁:=λ obj s₁=>obj=τ/\s₁=bq1 (bL3 ĉ #[])) F.called_list (F.typeCall_list_1 _) F.entry_list_init
  (code_list_new _ ed) (ĵ obj s₁ h₁)
 obtain⟨rfl,rfl⟩:=h₁;have d:aC9 (bL3 ĉ #[]).get?>=(bE1 (bL2 #[])):=L7;refine mY (bJ9 d) (F.args_list_init_2 _ _);show Ş _ (do let old <- Builtin.List.listItems Ĺ;Builtin.List.listUpdate Ĺ (λ_=>#[]);letGo old.toList.reverse;ag8 ↑z ey) _ _ _;refine aR4;unfold Builtin.List.listItems;refine fx d rfl sK;show n5 _ (am1 (λ_=>#[])) (λ_=>letGo (#[]:ŋ).toList.reverse >>= λ_=>ag8 ↑z ey) _ _ _;refine Cv (wpAny_updateSeq d rfl ?_);have d₁:=OR (LI (λ_=>(#[]:ŋ))) d rfl;refine aD3 ?_;have L:tf z:=Bc (C z Ê);obtain⟨f0,rQ,y,m_⟩:=Z.zz;have P:(Th (bL3 ĉ #[]).update (LI (λ_=>(#[]:ŋ)))).get? z=_:=hZ _ _ (Ł L) (om y);have x:∀(s':Shared),s'.heap=Th (bL3 ĉ #[]).update (LI (λ_=>(#[]:ŋ)))->s'.TypeIs ↑z nI := λ s' e=>bJ9 (Æ e P);unfold Builtin.List.listExtendWith;refine NY (x _ rfl) ?_;have h1:ć (Builtin.List.listSameRef Ĺ ↑z):=fA Builtin.List.listSameRef (Ł L)
 have h2:l8 (Nl nI) (Nl ĉ):=Â
 have h3:l8 (Nl nI) (Nl Ń):=Â
 simp only[h1,h2,h3,Bool.or_false,Ay,if_false];refine Cv (cx8 (x _ rfl) (wpAny_call_entry F.slot_zip_iter (x _ rfl) F.entry_zip_iter (Cz ⟨_,rfl, nI, _,x _ rfl,cS2,?_⟩) cg3));refine Cv f3;unfold Builtin.List.listLengthHint;refine Cv (wpAny_specialOf (x _ rfl) QgJ ?_);show n5 _ (specialOf (Ϗ z) (Υ "__length_hint__")) _ _ _ _;refine Cv (wpAny_specialOf (x _ rfl) Qe9 ?_);refine sK;show wpAny _ _ (rule "list.extend.makes-room" >>= λ_=>Builtin.List.listTouch Ĺ >>= λ_ =>
  again (aD0 "list.extend.loop" (FI [τ,æ z,ey]))) _ _ _
 refine wT ?_;refine aR4;show Ş _ (am1 (·.push ey) >>= λ_=>am1 (·.pop)) _ _ _;refine Cv (wpAny_updateSeq d₁ rfl ?_);have d₂:=OR (LI (·.push Value.none)) d₁ rfl;refine wpAny_updateSeq (hz:=by seq_fits) d₂ rfl ?_;have d₃:=OR (LI (·.pop)) d₂ rfl;have kept:∀c u,č c u->(Th (Th (Th (bL3 ĉ #[]).update (LI (λ_=>(#[]:ŋ)))).update (LI (·.push Value.none))).update (LI (·.pop))).get? c>=u:=λ c u e=>by have ne:bj1 c:=Ł cv6;exact hZ _ _ ne (hZ _ _ ne (hZ _ _ ne TU))
 have O:=cx7 a o bG t' s.toks kept đ ⟨Ê,[],_,lS,d₃⟩;refine Cz (İ bK7 (Qo6 (H0:=H) bT3 D qa qb I.fresh (λ hm=>Ci _ (C _ hm)) _ 0 _ _ [] rfl up O (ż c r) (Z.at λ c r u e=>kept c u e) (ĵ c u e) Q9 rfl (λ m t ht=>iS ht) λ s' v G J k1 k2 k3 k4=>ā (q s' v G J k1 k2 k3 k4)))
 ·have f:=hf c r;refine İ ?_ f.2;rw[Q0 (Bc (C c r))];exact f.1
 ·rw[Q0 (hW z z I.fresh e e)];exact e
#where
section
variable{X:Cx}
def Qoe{p p' pos d:Pos}(pL:ND ĉ)(C:c4 ĉ)(U:ND nI)(hm:c4 nI)(P:aT)(ha:PA X [x,y] ta)
    (hs:Ï [x,y]=[Ż x,Ż y]:=by rfl) (hs2:Ï [y]=[Ż y]:=by rfl) (hs3:Ï [EX nI p' [x,y] d]=[Ż (EX nI p' [x,y] d)]:=by rfl) :
    PE X (bs0 ĉ [EX nI p' [x,y] d]) (λ σ H Q=>ta σ H λ vs u=>∃a b xs ys,vs=[ν,cL6]/\SqT X.K u a xs/\SqT X.K u b ys /\
      ∀(l:Addr)(v:Hp)(ts:η),Ν (u l)->(∀c q,u c>=q->v c>=q)->ģ (v l) ts->cR1 (min ŝ Tm)->Er u v xs ys ts->cw4 l v):=by
  intro O s σ H Q I h;refine Hj (zP I pL C boot_list ?_);refine df ?_ hs3 rfl;rw[hs3];show Ş _ (spliced (Ż (EX nI p' [x,y] d)::[])) _ _ s;refine at3 (Call_ (zP I U hm boot_zip (df (io (ha d O s σ H _ I h) us s1 vs u I1 r1 q1 ?_) (ϓ hs hs2) (ÿ hs2))));obtain⟨a,b,xs,ys,e,G,J,q⟩:=q1;subst e;cases r1 with
  |cons r E =>
    cases E with
    |cons r' E=>cases E;cases r;cases r';refine T3 I1 G J λ s2 z pp o i j I2 D Z hf=>au5 ?_;refine Qo5 I2 P D Z hf G J λ s3 F ts L k1 k2 k3 k4=>dr (æ s2.heap.objs.size) F L (q _ F ts I2.fresh k1 k2 k3 k4)
#where
#print L2
namespace D
open PySem PySem.Spec PyProof.Rows L2
def au.of_get{K:Aa}:∀{ds:Û}{ts:η},ã=ts.length->bd3 m d DV t V (ds[m]?>=d->ts[m]?>=t->Pf t)->mx ts
  | [],[],_,_=>Ϙ au
  | [],_::_,h,_=>ē h
  |_::_,[],h,_=>ē h
  |d::ds,t::ts,h,f=>ľ au (t6 t ts (f 0 d t rfl rfl) (au.of_get (Nat.succ.inj h) λ m x y h1 h2=>f (m+1) x y h1 h2))
def Gr.more{K:Aa}{H H':Hp}(kp:∀c q,H c>=q->H' c>=q):wa K B H ρ B H' :=
 ⟨Cb,bW6,tj h h,tj z z,λ a o _ h=>kp a o h,λ a q=>by
  cases e:IY with
  |none=>rfl
  |some o=>rw[kp a o e]at q;cases q⟩
def aP.more{K:Aa}{H H':Hp}(W:bF0)(kp:∀c q,H c>=q->H' c>=q):bE9 H' where
 len:=W.len
 nd:=W.nd
 obj:=λ i a u e q=>by
  refine bH.gs ((Gr.more kp).gs W.rb) ?_ (W.obj i a u e q);have:=W.bt a (W.rb a ce2);cases z:IY with
  |none=>exact Ĝ z this
  |some o=>exact kp a o z
 rb:=W.rb
 bt:=λ a h z=>by
  have:=W.bt a h;cases y:IY with
  |none=>exact this y
  |some o=>rw[kp a o y]at z;cases z
 bk:=W.bk
section
variable{X:Cx}{f g:aG}
#where
section
variable{X:Cx}{e:Expr}{f:aG}{pos:Pos}
def Et(f g:aG):aG:=λ env=>do
 let ds <- nH f g env
 XC hV
def k_(H:Hp)(l:Addr):Hp:=λ a=>NV a l IY
def QoD{H:Hp}{l:Addr}(h:H l>=o):upd (k_ H l) l o=H:=by
 funext a;by_cases e:a=l
 ·subst e;rw[Q9,h]
 ·rw[Q0 e];unfold k_;rw[ay0]
def Qnl{p p' pos i:Pos}(j:c4 ĉ)(hm:c4 nI)(hc:aT)(hx:ck9 x)(hy:ϟ y g)(pL:ND ĉ := by rfl)(hg:ND nI := by rfl)
  (hs:Ï [x,y]=[Ż x,Ż y]:=by rfl) (hs2:Ï [y]=[Ż y]:=by rfl) (hs3:Ï [EX nI p' [x,y] i]=[Ż (EX nI p' [x,y] i)]:=by rfl) :
  cs6 ĉ [EX nI p' [x,y] i] (Et f g) :=
 L2.PE.imp (Qoe pL j hg hm hc (XQ hx (bN5 hy (ÿ hs2)) (ϓ hs hs2)) hs hs2 hs3).kf λ σ H Q aD=>by
  obtain⟨Z,env,ρ,B,hp,d,hp',S,e,k⟩:=aD;obtain⟨ds,hp0,e0,e⟩:=Ū;cases e;obtain⟨d1,hp1,e1,e0⟩:=Qg e0;obtain⟨xs,a8,e2,e0⟩:=Qg e0;obtain⟨rfl,rfl⟩:=qx e2;obtain⟨d2,a9,e3,e0⟩:=Qg e0;obtain⟨ys,cO,e4,e0⟩:=Qg e0;obtain⟨rfl,rfl⟩:=qx e4;obtain⟨rfl,rfl⟩:=Qm e0;refine cN6 r1 (aF1 e3 (λ u ρ2 B2 C g2 S2 r2=>?_));obtain⟨a,vs,rfl,na,qa,L⟩:=(ϸ g2 _ _ r1).tupI;obtain⟨b,us,rfl,nb,qb,O⟩:=r2.tupI;refine⟨a,b,vs,us,rfl,qa,qb,λ l H' ts hn kp hl len pr kf=>?_⟩;have lf:Ν ((k_ H' l) l):=ŵ k_ cq
  have J:Ν (FT l):=kf l _ hl;have r:∀c q,C c>=q->(k_ H' l) c>=q:=λ c q e=>Ϭ k_ (Cw (hW z z hn e e)) (kp c q e)
  have E:=S2.wo.more r;have g3:Gr X.K ρ2 B2 C ρ2 B2 (k_ H' l):=Gr.more r;have g4:Gr X.K ρ2 B2 (k_ H' l) (ρ2++[l]) (jO B2 l) (upd (k_ H' l) l (Ð ts)):=Gr.dJ lf J;have rl:au X.K ρ2 B2 (k_ H' l) (qW xs ys) ts:=au.of_get (by rw[Kk,⇑L,⇑O];exact len.symm) λ m d t h1 h2=>by
   obtain⟨x',y',q1,q2,rfl⟩:=Kj h1;obtain⟨u',hu,ru⟩:=L.get q1;obtain⟨v',hv,rv⟩:=O.get q2;obtain⟨G,x2,y2,rfl,P,U,p3,o⟩:=pr m t h2;rw[hu]at P;cases P;rw[hv]at U;cases U;have p5:(k_ H' l) G>=(ì [u',v']):=Ϭ k_ (Cw (hW z z hl o o)) o
   exact j9 (λ z=>S2.wo.bt G z p3) (SqT.of p5) (E9 (g3.gs S2.wo.rb) _ (ai8 ru (au.one rv)))
  have oR:bH X.K (ρ2++[l]) (jO B2 l) (upd (k_ H' l) l (Ð ts)) l (Ð (qW xs ys)):=⟨ts,Q9,E9 (g4.gs E.rb) _ rl⟩;have F:=E.dJ lf J oR;have I:=à ah8 ba9;rw[QoD hl]at F I;refine k _ _ _ _ I F ?_;unfold aA;exact dc4 l S2.wo.len
#where
structure UF(K:Aa)(mg:C9)(x:Str)(st:Stmt):ç where
 ex:∃g fd,Fun K x x st g fd/\mg x>=↑g
structure UC(K:Aa)(c:Str):ç where
 ex:∀C,cA K c C->di3
structure UM(K:Aa)(c m q:Str)(st:Stmt):ç where
 ex:∃C g fd,Fun K m q st g fd/\cA K c C/\di3/\p7 K C m g
structure UI(K:Aa)(mg:C9)(c q:Str)(st:Stmt):ç where
 ex:∃C g fd,Fun K ac6 q st g fd/\cA K c C/\mg c>=↑C/\Mk K C g
structure UG(mg:C9)(x:Str)(i:Int):ç where
 ex:∃t,mg x>=bi1
structure UT(K:Aa)(mg:C9)(x:Str)(d:DV):ç where
 ex:∃a,mg x>=ş/\bU K d ş
section
variable{K:Aa}{h:Heap}{mg:C9}{f C:Addr}{x c m q:Str}{st:Stmt}{oc:Value}{od an:OL}{osl:ap1}{kV doc pm cdv ct:Value}{i:Int}{t:Tok}{d:DV}{a:Addr}
def uf(X:bx2)(G:sA mg)(n:ε K x>=aX8)(l:δ f>=⟨oc,od,.func (PySem.W.fnOf x x aS4 au7 ag0 ey kV doc pm an cdv ct),osl⟩)(e:wn K cdv x)(k:cM1 K):wt x st:=cc3 _ (Fi l e k) (ab3 G n)
def uc(X:bx2)(n:ε K c>=bW1)(p:Pc K C Str.empty)(e:ac9 K C)(o:aV5 K C)(s:cm K C cd9 = í (í ah7)):UC K c:=⟨λ r j=>bz9 (cA.uniq (é (cA K c C) n) j) ⟨p,e,o,s⟩⟩
def um(X:bx2)(u:UC K c)(n:ε K c>=bW1)(a:cm K C m>=aX8)(b:ae4 K cv4)(l:δ f>=⟨oc,od,.func (PySem.W.fnOf m q aS4 au7 ag0 ey kV doc pm an cdv ct),osl⟩)(e:wn K cdv q)(k:cM1 K):cr7 c m q st:=⟨_,_,_,Fi l e k,n,u.ex _ n,a,b,k⟩
def ui(X:bx2)(G:sA mg)(n:ε K c>=bW1)(a:cm K C ac6 = í aX8)(b:ae4 K cv4)(l:δ f>=⟨oc,od,.func (PySem.W.fnOf ac6 q aS4 au7 ag0 ey kV doc pm an cdv ct),osl⟩)(e:wn K cdv q)(k:cM1 K)(v:bp4 K C)(z:dc K ↑C):UI K mg c q st:=⟨_,_,_,Fi l e k,n,ab3 G n,v,a,b,z⟩
def uk(X:bx2)(u:UC K c)(n:ε K c>=bW1)(a:cm K C x>=none):Yw K c x:=⟨C,n,u.ex _ n,a⟩
def ug(X:bx2)(G:sA mg)(n:ε K x>=(í bi1)):UG mg x i:=İ _ (ab3 G n)
def ut(X:bx2)(G:sA mg)(n:ε K x>=aN3)(r:bU K d ş):UT K mg x d:=aQ5 (ab3 G n) r
def QZ{N ps:ő}{s:Scope}(h:œ (s.kind==aQ6&&i7 s.isCoroutine&&i7 s.isGenerator&&ß N.Nodup&&FY (N.take a0) ps&&ps.all (λ x=>ß (s.names.lookup x>=nE)||ß (s.names.lookup x>=aK4))&&s.names.all λ y=>ß (y.2≠bj9)):=by decide +kernel):Qw N ps s:=by simp only[Ba,Bool.not_eq_true',decide_eq_true_eq,List.all_eq_true,Bool.or_eq_true]at h;obtain⟨⟨⟨⟨⟨⟨a,b⟩,c⟩,d⟩,e⟩,f⟩,g⟩:=h;refine⟨?_,b,c,d,e,f,λ y j=>db (g y j)⟩;revert a;cases s.kind<;>first|(intro _;rfl)|(intro z;exact Ĝ z Â)
#where
section
variable{P:Program}{w:World}{K:Aa}{mg:C9}{O8:Heap}{x c m q:Str}{st:Stmt}{N ps:ő}{k:Nat}{body:aF}
def Bn(ps:ő)(x q:Str)(st:Stmt):ç:=∀(kV d e:Value)(an:OL)(a ct:Value)(us:Đ),⇑us=a0->ap7 (PySem.W.fnOf x q aS4 au7 ag0 ey kV d e an a ct) us=î D1
def Bd(P:Program)(w:World)(K:Aa)(mg:C9)(O8:Heap)(N:ő)(k:Nat)(q:Str)(st:Stmt)(body:aF):ç:=∀(g:Addr)(a:Value)(A:Around)(outer:IR)(s:Shared)(H:Hp)(E:XK),so k (ř q ag0 g a)->iQ (GZ CX0 P w K mg O8 N q ag0 g a A outer s H E).nox au7 body
def hf(u:wt x st)(a:Č N ps st)(h:N.Nodup->Bd P w K mg O8 N k x st body:=by intro s _ _ _ _ _ _ _ l;trivial)(d:Bn ps x x st:=by intro _ _ _ _ _ _ us e;rcases us with _|⟨_,_|⟨_,_|⟨_,_|⟨_,_|⟨_,_|⟨_,_⟩⟩⟩⟩⟩⟩<;>first|rfl|cases e):Iq x (k+1) a0 dj4:=let ⟨_,_,F,e⟩:=u.ex;Qp5 F a e d (h a.nd _)
def hM(u:cr7 c m q st)(a:Č N ps st)(h:N.Nodup->Bd P w K mg O8 N k q st body:=by intro s _ _ _ _ _ _ _ l;trivial)(d:Bn ps m q st:=by intro _ _ _ _ _ _ us e;rcases us with _|⟨_,_|⟨_,_|⟨_,_|⟨_,_|⟨_,_|⟨_,_⟩⟩⟩⟩⟩⟩<;>first|rfl|cases e):My P w K c m (k+1) a0 dj4:=let ⟨_,_,_,F,i,cl,e⟩:=u.ex;Qk5 i cl e F a d (h a.nd _)
def hI(u:UI K mg c q st)(a:Č N ps st)(h:N.Nodup->Bd P w K mg O8 N k q st body:=by intro s _ _ _ _ _ _ _ l;trivial)(d:Bn ps ac6 q st:=by intro _ _ _ _ _ _ us e;rcases us with _|⟨_,_|⟨_,_|⟨_,_|⟨_,_|⟨_,_|⟨_,_⟩⟩⟩⟩⟩⟩<;>first|rfl|cases e):p8 P w K mg O8 c (k+1) a0 dj4:=let ⟨_,_,_,F,j,e,i⟩:=u.ex;QkK j e i F a d (h a.nd _)
#where
#print D
namespace L2
open PySem PySem.Spec PyProof.Rows
section
variable{X:Cx}{elts:Α}{kt:Nat}{p2:Pos}
#where
#print L2
namespace D
open PySem PySem.Spec PyProof.Rows L2
section
variable{X:Cx}{elts:Α}{kt:Nat}{p2:Pos}{f g:aG}
#where
section
variable{X:Cx}{e:Expr}{f:aG}{pos:Pos}
def Hy(t:String):Bool:=uz t ĉ || uz t Ń
def Eu(f:aG):aG:=λ env=>do
  let x <- bb
  match x with
  |.ref n=>do
    match <- LM with
    |.lst _=>î Η
    |_=>failure
  |x=>match kE x with
    |some t=>fz (Hy t)
    |none=>failure
def QpN:IZ X wb (λ xs H Q=>∃x a,xs=[x,ν]/\bt7 a [.ty ĉ, .ty Ń]/\((∃ρ B d t,mr X.K d x/\kE d>=t/\Q (Ζ (Hy t)) H)∨∃p ys,x=bR4/\rh X.K p ys/\Q Η H)):=by
  intro L s σ H xs us Q I r h;obtain⟨x,a,rfl,st,h⟩:=h;obtain⟨u,w',rfl,C,J⟩:=kI r;cases J;obtain⟨y,v,⟨o,e1,e2,m,e3⟩,_⟩:=d4 st;obtain⟨U,Z,rfl,z1,z2⟩:=kI v;cases z1;cases z2;obtain⟨P,od,O,os⟩:=o;cases e2;cases e3;have c:∀b,Q IU H->∀tk,EP X L σ Q (x5 b) (aH0 s tk):=λ b q tk=>N3 _ H ϩ q;have i:∀t∈["NoneType", cx5, bl3, sM, Ń, ĉ],PySem.W.kitAny X.K (į t) [aB8, aw0]>=(Hy t):=λ t j=>by simp only[Bi,B8,or_false]at j;rcases j with rfl|rfl|rfl|rfl|rfl|rfl<;>first|rfl|decide|with_unfolding_all rfl|kernel_rfl
  rcases h with ⟨ρ,B,d,t,v,j,q⟩|⟨p,ys,rfl,G,q⟩
  . cases d with
    |non=>obtain rfl:=v.fG;cases j;cases C;exact AT PySem.W.kitx_none True.intro e1 (i _ Ê) bH3 (c _ q)
    |bl b=>obtain rfl:=v.iu;cases j;cases C;exact AT PySem.W.kitx_bool True.intro e1 (i _ Ê) bH3 (c _ q)
    |int b=>obtain rfl:=v.bf;cases j;obtain⟨tk,rfl⟩:=C;exact AT PySem.W.kitx_int True.intro e1 (i _ Ê) bH3 (c _ q)
    |str b=>obtain rfl:=v.bL;cases j;obtain⟨tk,rfl⟩:=C;exact AT PySem.W.kitx_str True.intro e1 (i _ Ê) bH3 (c _ q)
    |ref b=>cases j
    |tup b=>cases j;obtain⟨a,ys,rfl,_,G,_⟩:=v.tupI;cases C;obtain⟨y,_,⟨o,E,F,_⟩,_⟩:=d4 G;exact AT PySem.W.kitx_tuple (IX E F) e1 (i _ Ê) bH3 (c _ q)
    |lst b=>cases j;obtain⟨a,ys,rfl,_,G,_⟩:=v.b_;cases C;obtain⟨y,_,⟨o,k,E,F,_⟩,_⟩:=wy G;exact AT PySem.W.kitx_list (IX E F) e1 (i _ Ê) bH3 (c _ q)
  . cases C
    obtain⟨y,_,⟨o,k,E,F,_⟩,_⟩:=wy G;exact AT PySem.W.kitx_list (IX E F) e1 (i ĉ Ê) bH3 (c _ q)
def Qnj{p r i y:Pos}{k:Nat}(F:c4 wb)(hl:c4 ĉ)(J:c4 Ń)(h:cl0)(E:ND wb := by rfl)(L:ND ĉ := by rfl)(C:ND Ń := by rfl)
    (hs:Ï [e,cv5 [Ĵ ĉ r,Ĵ Ń i] k y]=cs4::Ï [cv5 [Ĵ ĉ r,Ĵ Ń i] k y]:=by rfl)
    (hs2:Ï [cv5 [Ĵ ĉ r,Ĵ Ń i] k y]=Ż (cv5 [Ĵ ĉ r,Ĵ Ń i] k y)::Ï []:=by rfl)
    (hs3:Ï [Ĵ ĉ r,Ĵ Ń i]=Ż (Ĵ ĉ r)::Ï [Ĵ Ń i]:=by rfl)
    (hs4:Ï [Ĵ Ń i]=Ż (Ĵ Ń i)::Ï []:=by rfl)
    (hpl:ć ((NS [cv5 [Ĵ ĉ r,Ĵ Ń i] k y]).any μ):=by rfl):cs6 wb [e,cv5 [Ĵ ĉ r,Ĵ Ń i] k y] (Eu f) :=
  L2.PE.imp (uX QpN E F boot_isinstance (XQ h (bN5 (T9 (XQ (Ob (v:=.ty ĉ) L hl boot_list rfl) (bN5 (Ob (v:=.ty Ń) C J boot_tuple rfl) hs4) hs3)) hs2) hs) Â Â hs hpl) λ σ H Q zz=>by
    obtain⟨Z,env,ρ,B,hp,d,hp',S,e,k⟩:=zz;obtain⟨x,hp1,e1,e2⟩:=Ū;refine LE S v c O ?_;refine İ Â (ż p hn);have G:Gr X.K ρ1 c H1 ρ1 c (upd H1 p (ì [.ty ĉ, .ty Ń])):=cn5;have u:=ϸ G _ _ O;have j:=S1.wo.laid (o:=ì [.ty ĉ, .ty Ń]) hn;refine t6 v p cx1 ?_;cases x with
    |ref n =>
      obtain⟨o,I,e3,z⟩:=Fa;obtain⟨e5,rfl⟩:=ZY e3;cases o with
      |lst U=>obtain⟨rfl,rfl⟩:=Qm z;obtain⟨a,rfl,_,ys,h1,P⟩:=aA.bO j u e5;exact Ĉ (t6 a ys mP (k _ ρ1 c _ cl1 j Jn))
      |aL _=>cases z
      |ins _ _=>cases z
    |non=>obtain⟨rfl,rfl⟩:=bd;exact ë ⟨ρ1,c,_,_,u,rfl,k _ ρ1 c _ cl1 j Jn⟩
    |bl _=>obtain⟨rfl,rfl⟩:=bd;exact ë ⟨ρ1,c,_,_,u,rfl,k _ ρ1 c _ cl1 j Jn⟩
    |int _=>obtain⟨rfl,rfl⟩:=bd;exact ë ⟨ρ1,c,_,_,u,rfl,k _ ρ1 c _ cl1 j Jn⟩
    |str _=>obtain⟨rfl,rfl⟩:=bd;exact ë ⟨ρ1,c,_,_,u,rfl,k _ ρ1 c _ cl1 j Jn⟩
    |tup _=>obtain⟨rfl,rfl⟩:=bd;exact ë ⟨ρ1,c,_,_,u,rfl,k _ ρ1 c _ cl1 j Jn⟩
    |lst _=>obtain⟨rfl,rfl⟩:=bd;exact ë ⟨ρ1,c,_,_,u,rfl,k _ ρ1 c _ cl1 j Jn⟩
#where
section
variable{X:Cx}
def wV:Rt
 |.lst [d],.int n=>do cz (0<=n/\n.toNat<=ŀ);XC (Ð (aQ0 d))
 |_,_=>failure
def QqP:P2 X ak6 wV:=by
 intro j s σ H x y v u Q I rx ry h;obtain⟨ρ,B,hp,L,O,d,hp',W,C,E,e,k⟩:=h;unfold wV at e;split at e
 ·rename_i d0 n;obtain⟨_,hp1,e1,e2⟩:=Ū;obtain⟨o,rfl⟩:=aF2;cases e2;obtain⟨h0,h1⟩:=C4 o;obtain⟨l,vs,rfl,P,J,F⟩:=C.b_;obtain⟨z,rfl,G⟩:=F.bY;refine Ť (M0 j s σ H _ _ v u (λ v a=>Es X.K a->Q v a) I rx ry ⟨l,z,n,rfl,E.bf,J,h0,h1,MI W (gj G _) k⟩) v s' z;obtain⟨x,a,i,c,r⟩:=z;exact⟨x,a,i,c,r (Inv.oG i)⟩
 ·cases e
#where
section
variable{prog:Program}{w:World}{A:Around}{E:C7}{s:Shared}
#where
section
variable{X:Cx}
#where
def J3(x:Int):ç:=aA7<=1048576
instance(x:Int):Decidable (J3 x):=inferInstanceAs (Decidable (_<=_))
def Qip{x y:Int}(h:x.natAbs<=y.natAbs)(a:J3 y):J3 x:=PySem.intBits_le_of_natAbs h a
section
variable{X:Cx}
def Tv(i j:Int):Bool:=ß (J3 i/\J3 j)
def Du:Rt:=jW Tv λ i j=>Ì (i * j)
def Qn6:EA ak6 (rI (λ i j=>J3 i/\J3 j) λ i j=>Ì (i * j)):=cU2 a q (mul_int q (.of_bits a.1 a.2))
def QqN:P2 X ak6 Du:=uS Qn6 λ i j h=>C4 h
#where
def kJ:∀(ns:Ŗ)(x:Int),x∈ns->aA7<=PySem.W.WData.weightAll ad7
  |n::r,x,h=>by
    rw[A9];unfold PySem.W.WData.weightAll;rcases pw h with rfl|h
    . exact Bh (aR9 (show aA7=PySem.W.WData.weight ↥x by unfold PySem.W.WData.weight;rfl)) À
    . have:=kJ r x h
      lia
def Qm8{ns:Ŗ}(h:œ (PySem.W.WData.layableAll [PySem.W.WData.list ad7])):∀x∈ns,J3 x:=λ x hx=>by
 have h1:œ (PySem.W.WData.layable (.list ad7)):=by unfold PySem.W.WData.layableAll at h;simpa using h
 unfold PySem.W.WData.layable at h1;have h2:=C4 (Bool.and_eq_true_iff.mp h1).2;unfold PySem.W.WData.weight at h2;exact Bh (kJ ns x hx) h2
#print D
namespace L2
open PySem PySem.Spec PyProof.Rows PySem.W
def QmA{l:PySem.W.OpenLaw}{n k:Nat}{q:Program}{j:ő}{E:(C9)->be8}{C:World->be8}{d:DefRec}{K:Params->Aa}{CX:World->CXT}{sp:World->Sp}{x:Str}
    (hn:l.most>=n) (hn2:Ă n) (hdf:d.params.defaults=[]) (hr:ao0 callerA)
    (hY:∀(w:World)(h:Heap),C w h->(pe).In h)
    (F:∀(w:World)(mg:C9)(fa:Addr)(h:Heap),(pe).In h->sA mg->mg d.name>=↑fa ->
      ∃fd : FuncData, bH8 s u Value (bY2 s (FI [u]) [(x, u)]) /\
        ∀O8:Heap,(pe).In O8->aa8 mg->xQ l.prog w pe mg O8 (CX w) k fa fd [x] (sp w))
    (hsp:∀(w:World)(H:Hp)(a:Addr)(ns:Ŗ),F8<=n->Ps x ns (D.J3 x)->Lk H->rh pe a zw->sp w cw3 H (λ v _=>v=Η) OQ)
    (hCX:∀(w:World)(H:Hp)(s:Shared)(e:Value)(s':Shared),CX w [] H s OQ e s'->False) :
    PySem.W.WalkO q j E C l.row.toRowW d [] (λ f vs=>PySem.call f vs):=by
  intro w s₀ s₁ mg mb G Y fa o pm cd doc dV kV ho hd hcd hD hmg hg args vals as hpre hlay hrd hwl hlo;obtain rfl:dV=ey:=Dflts.none hD hdf;obtain rfl:kV=ey:=Dflts.noKw hD;obtain⟨a,vs,ns,rfl,rfl,y,i,c⟩:=Att.script_of hn hpre hwl;have z:=hY w _ Y;obtain⟨fd,O,I⟩:=F w mg fa _ z G.T.g hmg;refine enter_call (by3 (QkW z G.T.g G.T.b G.T.builtins G.T.nolimit hg y i (Bh c hn2) hr I O (λ H J L=>hsp w H a ns c (D.Qm8 hlay) J L) λ H e s'=>hCX w H s₁ e s') r s' hq);obtain⟨rfl,h2,h3,h4⟩:=hq;exact⟨ë ⟨ac5,ac5,[],rfl,au4,ac5,Att.post_true l _,λ_=>İ List.Pairwise.nil (λ_ P=>i6 P)⟩,h2,h3,h4⟩
#print L2
namespace D
open PySem PySem.Spec PyProof.Rows L2
section
variable{X:Cx}
def ZN{x:Str}{i:Int}{pos:Pos}(u:UG X.mg x i)(a:ND x:=by rfl)(hd:aC8:=by decide):ϟ Ql (Ě i):=let ⟨_,h⟩:=u.ex;Qng a h hd
#where
section
variable{env aH:En}{hp hp1:Hs}{f g:aF}{c:cg}{r:ď (cS1 × Hs)}
def Qo(h:aE>=(Ŭ aH,hp1))(k:g aH hp1=r):Qr f g env hp=r:=à (MU h) k
def Quc(h:aS3>=ay5)(k:cF2=r):aN c f g env hp=r:=à (WW h) k
def Jf(h:aS3>=cI9)(k:ο hp1=r):aN c f g env hp=r:=à (Qqb h) k
def Q8(h:aS3>=ay5):aN c f Zg env hp>=(m4,hp1):=WW h
def Zx{α:rV}{xs:AU}{i:Nat}{x:α}(h:bU3):i<ŝ:=aV7
def Ej{α:rV}{xs ys:AU}{i:Nat}{x:α}(h:bU3):AY (xs++ys):=à (Ag (Zx h)) h
#where
section
variable{X:Cx}
def JD:cf
 | [.int i]=>do cz (i.natAbs<2 ^ 200);î (Ü (dd3 i))
 | [.str x]=>î ϧ
 |_=>failure
def Qqu{n:Nat}(h:n<2 ^ 200):n.log2<1920:=by
 by_cases z:n=0
 ·subst z;decide
 ·exact(Nat.log2_lt z).mpr (Ax h (Nat.pow_le_pow_right Â Â))
def X4:cU7 X (į sM) JD:=by
 intro j s σ H xs us Q I r h;obtain⟨ρ,B,hp,ds,d,hp',W,c,e,k⟩:=h;unfold JD at e;split at e
 ·obtain⟨_,hp1,e1,e2⟩:=Ū;obtain⟨i,rfl⟩:=aF2;obtain⟨rfl,rfl⟩:=bd;obtain⟨v,rfl,a⟩:=c.bY;obtain rfl:=a.bf;obtain⟨u,rfl,t,rfl⟩:=qT r;exact PySem.P.str_of_int (Qqu (C4 i)) ⟨Ü _,H,ϩ,TL,L4 j8⟩
 ·obtain⟨rfl,rfl⟩:=CH;obtain⟨v,rfl,a⟩:=c.bY;obtain rfl:=a.bL;obtain⟨u,rfl,t,rfl⟩:=qT r;exact PySem.P.str_of_str ⟨Ü _,H,I,TL,L4 j8⟩
 ·cases e
def Lb:cf
  | [.str x]=>do
    cz (rq<=640)
    let n <- mZ ao4
    Lu n
  |_=>failure
def QpL:cU7 X (į bl3) Lb:=by
 intro x s σ H xs us Q I r h;obtain⟨ρ,B,hp,ds,d,hp',W,j,e,k⟩:=h;unfold Lb at e;split at e
 ·obtain⟨_,hp1,e1,e2⟩:=Ū;obtain⟨i,rfl⟩:=aF2;obtain⟨n,c,e3,a⟩:=Fa;obtain⟨hn,rfl⟩:=UP e3;obtain⟨rfl,rfl⟩:=Qm a;obtain⟨v,rfl,o⟩:=j.bY;obtain rfl:=o.bL;obtain⟨u,rfl,t,rfl⟩:=qT r;exact PySem.W.KIN.call_text hn (C4 i) ⟨Ì _,H,ϩ,TL,aX2⟩
 ·cases e
def Lg:Rt
 |.str x,.str y=>do cz (Ă (rq+⇑y));î (Ü (x++y))
 |_,_=>failure
def QqM:P2 X ak5 Lg:=by
 intro j s σ H x y v u Q I rx ry h;obtain⟨ρ,B,hp,o,r,d,hp',W,c,i,e,k⟩:=h;unfold Lg at e;split at e
 ·obtain⟨_,hp1,e1,e2⟩:=Ū;obtain⟨a,rfl⟩:=aF2;obtain⟨rfl,rfl⟩:=bd;obtain rfl:=c.bL;obtain rfl:=i.bL;obtain⟨t,rfl⟩:=rx;obtain⟨t',rfl⟩:=ry;exact PySem.SB.add (λ t' z=>⟨Ü _,H,ϩ,TL,L4 j8⟩) (C4 a)
 ·cases e
def pJ:Rt
 |.str y,.str x=>fz (Txt.contains x y)
 |_,_=>failure
def QsH:Pw X .In pJ:=by
 intro i s σ H x y v u Q I rx ry h;obtain⟨ρ,B,hp,j,o,d,hp',W,a,c,e,k⟩:=h;unfold pJ at e;split at e
 ·obtain⟨rfl,rfl⟩:=CH;obtain rfl:=a.bL;obtain rfl:=c.bL;obtain⟨t,rfl⟩:=rx;obtain⟨t',rfl⟩:=ry;exact PySem.SB.contains (N3 _ H I (L4 an1))
 ·cases e
def La:cf
 | [.str x]=>do cz (rq<2 ^ 62);Lu rq
 |_=>failure
def QpO:bf6 X "len" La:=by
 intro j s σ H xs us Q I r h;obtain⟨ρ,B,hp,ds,d,hp',W,c,e,k⟩:=h;unfold La at e;split at e
 ·obtain⟨_,hp1,e1,e2⟩:=Ū;obtain⟨a,rfl⟩:=aF2;obtain⟨rfl,rfl⟩:=bd;obtain⟨v,rfl,i⟩:=c.bY;obtain rfl:=i.bL;obtain⟨u,rfl,t,rfl⟩:=qT r;have a:=C4 a;exact PySem.P.len_str À ⟨Ì _,H,ϩ,TL,aX2⟩
 ·cases e
#where
section
variable{prog:Program}{w:World}{A:Around}{E:C7}{s:Shared}
def QgA{x y:Str}{t u:Tok}{Q:C7}(a:l8 ⇑y 0)(hsz:Ă (rq+2))
  (h:∀l k,l.map μ=Txt.split x y->Q Ĺ (en s (bX4 ĉ ch6) k)) :
  rp w A (aE7 "str.split" [.str x t,.str y u]) Q E s:=by
 have hn:Ă ⇑(Builtin.Str.partsBetween x (bc2 x y 0 (rq+1)) ⇑y):=by have e1:=StrLaws.occ_length_le x y 0 rq (rq+1);rw[length_partsBetween];lia
 cases h1:(LU rq ⇑y||LU (Builtin.Str.strKind x) (Builtin.Str.strKind y))
 ·cases hf:ce7 (bc2 x y 0 (rq+1))
  ·refine bV9 (cr0 _ _) (am2 _) (meets_str_split_sep x y t u h1 a hf À hn) ?_;have:=h (numbered s.toks _) (bk3 ⇑(Builtin.Str.partsBetween x (bc2 x y 0 (rq+1)) ⇑y)) (à (numbered_texts _ _) (à (au2 h1) (au2 hf)).symm);rw[<- strsFrom_eq]at this;exact this
  ·exact bV9 (cr0 _ _) (am2 _) (meets_str_split_not_found x y t u h1 a hf) (h [(x,t)] s.toks (à (au2 h1) (Cy hf)).symm)
 ·exact bV9 (cr0 _ _) (am2 _) (meets_str_split_cannot_occur x y t u h1) (h [(x,t)] s.toks (Cy h1).symm)
#where
section
variable{X:Cx}
def zp:Rq cf
 |.str x,[.str y]=>fz (Hw x y)
 |_,_=>failure
def SF:MtR X "str.startswith" (o9 X.K zp):=by
 intro j s σ H x vs v us Q I rx rv h;obtain⟨ρ,B,hp,o,es,d,hp',W,a,c,e,k⟩:=h;unfold zp at e;split at e
 ·obtain⟨rfl,rfl⟩:=CH;obtain⟨z,rfl,i⟩:=c.bY;obtain rfl:=a.bL;obtain rfl:=i.bL;obtain⟨u,rfl,t,rfl⟩:=qT rv;obtain⟨t',rfl⟩:=rx;exact PySem.SC.startswith (N3 _ H I (L4 an1))
 ·cases e
def uI:Rq cf
  |.str x,[.str y]=>do
    cz (0<⇑y/\Ă (rq+2)/\Ă (eM (Txt.split x y)))
    am4 (E4 (Txt.split x y))
  |_,_=>failure
def QbA:∀l:Ļ Tok,Vals (tP (l.map μ) V.str) ch6
 | []=>lS
 | (x,t)::l=>ϗ (bT t) (QbA l)
def Qbj{K:Aa}:∀l:ő,i4 (l.map .str) (l.map .str)
  | []=>Ϙ au
  |x::l=>by rw[A9,A9];unfold au;exact t6 _ _ j8 (Qbj l)
def QnR:MtR X "str.split" (o9 X.K uI):=by
 intro o s σ H x vs v us Q I rx rv h;obtain⟨ρ,B,hp,r,es,d,hp',W,c,i,e,k⟩:=h;unfold uI at e;split at e
 ·obtain⟨_,hp1,e1,e2⟩:=Ū;obtain⟨a,rfl⟩:=aF2;obtain⟨rfl,rfl⟩:=bd;obtain⟨h1,h2,h3⟩:=C4 a;obtain⟨z,rfl,j⟩:=i.bY;obtain rfl:=c.bL;obtain rfl:=j.bL;obtain⟨u,rfl,t,rfl⟩:=qT rv;obtain⟨t',rfl⟩:=rx;refine QgA (Ë (Cr h1)) h2 (ĵ l tk hl);have hv:=QbA l;rw[hl]at hv;exact dr (æ _) _ (I.lnew (t':=tk) hv (Æ Bm h3)) (zi W (Qbj _) k _ I.fresh)
 ·cases e
#where
section
variable{X:Cx}{e:Expr}{f:aG}{pos:Pos}
def Hq(d:DV)(a hi:Ý):ġ:=match d with
 |.str x=>do cz (Ă rq);î (Ü (Txt.slice x a hi))
 |_=>failure
def Dq(f:aG)(a hi:lX):aG:=FP (aS8 d bb l by2 h (hi env) (Hq d l h))
def Qt4(K:Aa):V->Ý->Ý->Hp->wp:=λ x a hi H Q=>∃ρ B hp d r hp',bF0/\Pf x/\Pp (Hq d a hi hp) r/\iM K ρ B H r hp' Q
def QsM:SlR X (Qt4 X.K):=by
  intro o s σ H x v vl vu lo hi sl Q I rx hs pl pu h;obtain⟨ρ,B,hp,d,r,hp',W,y,e,k⟩:=h;cases d with
  |str x =>
    obtain⟨_,hp1,e1,e2⟩:=Ū;obtain⟨hz,rfl⟩:=aF2;obtain⟨rfl,rfl⟩:=bd;obtain rfl:=y.bL;obtain⟨t,rfl⟩:=rx;have hz:=C4 hz;have a:∀t' c,EP X o σ Q (.str (Txt.slice x lo hi) t') (aH0 s c):=λ t' c=>⟨Ü _,H,ϩ,TL,L4 j8⟩;refine⟨sM, _,PySem.F.slot_str_getitem.lookup,cr0 _ _,?_⟩;cases pl with
    |none =>
      cases pu with
      |none=>exact rN l none u none st none hs rfl (İ (bk0 x _ _ hz) a)
      |int j u=>exact rN l none u (í (j,u)) st none hs rfl (İ (bk0 x _ _ hz) a)
    |int i u =>
      cases pu with
      |none=>exact rN l (í (i,u)) u none st none hs rfl (İ (bk0 x _ _ hz) a)
      |int j z=>exact rN l (í (i,u)) u (í (j,z)) st none hs rfl (İ (bk0 x _ _ hz) a)
  |_=>cases e
def QpW{c hi:ak3}{j i:lX}(h:cl0)(hl:DO X c j)(hh:DO X hi i):ϟ (bV0 e (.Slice c hi none p2)) (Dq f j i) :=
 Pz (uY QsM h hl hh) (λ σ H Q r=>by obtain⟨Z,env,ρ,B,hp,d,hp',S,e,k⟩:=r;obtain⟨x,hp1,e1,e⟩:=Ū;obtain⟨l,y,e2,e⟩:=Ū;obtain⟨u,a,e3,e⟩:=Ū;refine cN6 z (mW.run S1 e2 λ ρ2 B2 H2 g2 S2=>mW.run S2 e3 (cR4 ρ3 o H3 g3 S3));exact⟨ρ3,o,a,x,d,hp',S3.wo,ϸ (bz3 g3) _ _ z,e,wv bU0⟩)
#where
#print D
namespace L2
open PySem PySem.Spec PyProof.Rows
def Its(x:Str):It:=⟨λ i _=>i<x.cps.size,λ i H v H'=>H'=H/\∃c,Ϥ x.cps c/\v=cj2,λ i _=>x.cps.size<=i⟩
def QoR{h:Heap}{a:Addr}{x:Str}{t:Tok}{i:Nat}{T:String}(st:h.IsStrIter a T x t i):∃o,Ϧ a o/\∀v,o.data≠.cell v:=by obtain⟨o,e,c,d⟩:=st;exact IX e (λ v z=>ı d z z)
def QbB{w:World}{A:Around}(hh:lI)(I:Addr)(x:Str)(t:Tok):Walks prog w A I [I] [I] x.cps.size (SignAt x) (λ i h=>h.IsStrIter I aa3 x t i):=by
 cases ha:x.cps.all (· < 128)
 ·have e:aa3 = "str_iterator" := fA strIterType ha
  rw[e];exact Walks.strWide hh I x t
 ·have e:aa3 = cK7 := fA strIterType ha
  rw[e];exact Walks.strAscii hh I x t
def D7(x:Str):aa3 = "str_iterator" ∨ aa3 = cK7 := by
 cases ha:x.cps.all (· < 128)
 ·left;simp[strIterType,ha]
 ·right;simp[strIterType,ha]
def Qmx{w:World}{K:Aa}(x:Str)(t:Tok)(a:Addr):pZ P w K tg (Its x) [a] a (λ i h=>i<=x.cps.size/\h.IsStrIter a aa3 x t i) where
 mem:=Ê
 obj:=λ i h st b j=>by
  have e:b=a:=Ë j
  subst e;exact QoR st.2
 keep:=λ i h h' st k=>İ st.1 (let ⟨o,ho,r⟩:=st.2;IX (k a Ê o ho) r)
 item:=by intro X U hw O Z i O9 s σ H E I hf st hg;subst U hw O;obtain⟨C,F,f2,G,J,L⟩:=hf a Ê;refine(QbB (prog:=X.prog) (w:=X.w) (Of Z) a x t).item i s _ _ hg st.2 (bx5 v h' tk hv y kk);obtain⟨c,u,a8,rfl⟩:=hv;have I1:γ aI0:=I.turned (λ b o j e=>kk b o (Ë j) e) C F G J L;obtain⟨o,e,c1,d⟩:=id y;exact Ņ _ (A_ (s:=aI0) e c1 d (by rcases D7 x with z|z<;>rw[z]<;>decide) ⟨cj2,H,I1,bT u,⟨rfl,c,a8,rfl⟩,İ hg y,λ b j=>(hf b j).1⟩)
 done:=by intro X U hw O Z i O9 s σ H E I hf st hg;subst U hw O;obtain⟨C,F,f2,G,J,L⟩:=hf a Ê;have ei:i=x.cps.size:=Nat.le_antisymm st.1 hg;subst ei;exact(QbB (prog:=X.prog) (w:=X.w) (Of Z) a x t).done s _ _ st.2 λ h' tk kk=>ā (I.turned (λ b o j e=>kk b o (Ë j) e) C F G J L)
 self:=λ A i s Q E st h=>by
  rcases D7 x with z|z
  ·exact wpAny_pyIter_striter_wide (z▸st.2) h
  ·exact wpAny_pyIter_striter_ascii (z▸st.2) h
def Qtz(a:TE):TI:=λ σ H R=>a σ H λ v H1=>∃x,v=ϧ/\R (Its x) H1
def Qq5(hl:cr l tl):PI X tg l (Qtz tl):=by
 intro c s σ H R I h;refine io (hl c s σ H _ I h) v a y H1 I1 r1 q1 ?_;obtain⟨x,e,q⟩:=q1;subst e;obtain⟨t,rfl⟩:=r1;refine wpAny_pyIter_strU ?_;refine⟨a.heap.objs.size,[a.heap.objs.size],_,_,H1,rfl,I1.kept (t':=a.toks) λ b o e=>TU,Qmx x t _,dr up _ L7 rfl,ż b d,q⟩;have e:b=a.heap.objs.size:=Ë d
 subst e;exact I1.fpOk đ bk8
#print L2
namespace D
open PySem PySem.Spec PyProof.Rows L2
section
variable{X:Cx}{tg iter:Expr}{f:aG}
def kn(x:Str):Û:=x.cps.toList.map λ c=>cj2
def Qqh{K:Aa}{x:Str}:oY K ρ B H (kn x) (Its x):=λ ρ1 B1 H1 g _ _=>by
 refine İ (ĵ i d e) (by show x.cps.size<=_;simp[kn]);have hi:i<x.cps.size:=pV dc8 kn
 refine İ hi (λ y H' ⟨a,c,hc,q⟩=>?_);subst a q;have:d=cj2:=by unfold kn at e;rw[Bq,Array.getElem?_toList,hc]at e;cases e;rfl
 subst this;exact İ j8 ĭ
def QtV:Rq aS6
 |.str x=>î (kn x)
 |_=>failure
def pK(f:aG):En->aS6:=FP (do QtV (<- bb))
def QpZ(h:cp7):DI X tg iter (pK f):=(Qq5 h).imp λ σ H R a=>by
  obtain⟨Z,env,ρ,B,hp,ds,hp',S,e,k⟩:=a;obtain⟨d,hp1,e1,e2⟩:=Ū;cases d with
  |str x=>obtain⟨rfl,rfl⟩:=bd;refine cN7 c;obtain rfl:=c.bL;exact Ņ x (bg5 Qqh)
  |_=>cases e2
#where
def nG(T:TK):Ļ PyData:=T.map λ p=>(oB,Ì p.2)
def oI:Ý->DV
 |some i=>dz
 |none=>Ę
def vI:Ý->V
 |some i=>dz
 |none=>Ę
structure vE(K:Aa)(mg:C9)(x:Str)(T:TK):ç where
 ex:∃a,mg x>=ş/\œ (bc3 (λ b=>δ b) a ch7)
def Sw{K:Aa}{h:Heap}{x:Str}{a:Addr}{T:TK}(X:bx2)(G:sA mg)(n:ε K x>=aN3)(l:δ a>=o)(r:œ (bc3 (λ_=>í o) a ch7)):vE K mg x T :=
 aQ5 (ab3 G n) (by unfold KTD.tabLook at r ⊢;simp only[l];exact r)
def Se{k:Str}{P:θ Value}{c:ç}:∀{T:TK},(∀i t,NM k>=i->P bi1)->(Ν (NM k)->c)->KTD.Each h k P c (tT ch7 p (oB,ar0 p))
  | [],_,h=>h rfl
  | (a,b)::r,h1,h2=>by
    show π (FY k a) (KTD.Opened h P (.flat ↥b)) (KTD.Each h k P c (tT (nG r) p (oB,ar0 p)))
    by_cases e:k=a
    . rw[Cy (C0 e)]
      refine KTD.opened_int λ t=>h1 b t ?_;rw[List.lookup_cons,PY (k==a) (ab5 e)]
    . rw[Cw (Ë e)]
      have z:((a,b)::r).lookup k=r.lookup k:=ϓ List.lookup_cons (é (l8 k a) (ah1 (λ z=>e (bk7 z))))
      exact Se (λ i t q=>h1 i t (z.trans q)) λ q=>h2 (z.trans q)
def WT{k:Str}:∀{T:TK},KTD.inKeys k (tT ch7 p (oB,ar0 p))=tm (NM k)
  | []=>rfl
  | (a,b)::r=>by
    show(FY k a||KTD.inKeys k (tT (nG r) p (oB,ar0 p)))=_;rw[WT,List.lookup_cons];by_cases e:k=a
    . rw[PY (k==a) (ab5 e),C0 e];rfl
    . rw[é (l8 k a) (ah1 (λ z=>e (bk7 z))),C5 e];rfl
def Qty(T:TK):ck
 |.str x=>î (oI (NM x))
 |_=>failure
def v8(T:TK)(f:aG):aG:=FP (do Qty T (<- bb))
def inJ(T:TK):ck
 |.str x=>fz (tm (NM x))
 |_=>failure
def RT(T:TK)(f:aG):aG:=FP (do inJ T (<- bb))
section
variable{X:Cx}{x:Str}{T:TK}{e:Expr}{p pos apos:Pos}
def kC{a:Addr}{s:Shared}(I:ag)(i:œ (bc3 (λ b=>FT b) a ch7)):KTD.Here s.heap s.heap a (tT ch7 p (oB,ar0 p)):=by have c:KTD.TabOf (λ d v=>PyProof.V.Flat v d) s.heap a ch7:=KTD.tab_of_look (λ_ _=>KTD.flat_of_looks) (λ b o e=>I.kIn b o e) i;exact İ c.text (λ_ _ e=>e)
def Qod{ty:TE}(u:vE X.K X.mg x T)(hi:cr e ty)(m:M1 X bt9 "get" apos e pos)(r:ND x)(hd:aC8):cr (bi2 bt9 "get" [e] []) (λ σ H Q=>ty σ H λ y c=>∃k,y=Ü k/\Q (vI (NM k)) c):=by
 obtain⟨a,v,j⟩:=u.ex;intro o s σ H Q I h;refine wpAny_Call_method m.O8 m.few m.line PySem.F.plainAttrs_dict PySem.F.slot_dict_get PySem.F.type_dict_get (UH I r v ?_ hd);have d:=kC I j;refine mY d.typeIs d.noDict;rw[m.trees];refine aE9 rfl (at3 (thn (hi o s σ H _ I h) λ z C ⟨y,c,I2,ry,k,ek,q2⟩=>au5 ?_));subst ek;obtain⟨t,rfl⟩:=ry;refine KTD.get1_text (kC I2 j) (Se (ĵ i t q) (bv1 q))
 ·exact⟨dz,c,I2.tok _,bT t,ID q q2 q2⟩
 ·exact dr Ę c (I2.tok _) (ID q q2 q2)
def BB(u:vE X.K X.mg x T)(a:cl0)(m:M1 X bt9 "get" apos e pos:=by exact fh rfl rfl rfl)(j:ND x:=by rfl)(hd:aC8:=by decide):ϟ (bi2 bt9 "get" [e] []) (v8 T f) :=
  (Qod u a m j hd).imp λ σ H Q z=>by
    obtain⟨Z,env,ρ,B,hp,d,hp',S,e1,k⟩:=z;obtain⟨y,hp1,e2,e3⟩:=Qg e1;refine tD.run S e2 (rr v B1 H1 g1 S1 o ?_);cases y with
    |str c =>
      obtain⟨rfl,rfl⟩:=Qm e3;refine⟨c,o.bL,bg5 ?_⟩;cases NM c with
      |some i=>exact Js
      |none=>show aA _ _ _ _ Ę Ę;unfold aA;rfl
    |_=>cases e3
def QqU{ty:TE}(u:vE X.K X.mg x T)(hi:cr e ty)(i:ND x)(hd:aC8):cr (co9 e [.In] [bt9]) (λ σ H Q=>ty σ H λ y c=>∃k,y=Ü k/\Q (Ζ (tm (NM k))) c):=by obtain⟨a,j,o⟩:=u.ex;intro d s σ H Q I h;refine wpAny_Compare1 (thn (hi d s σ H _ I h) λ v r ⟨y,c,I2,ry,k,ek,q2⟩=>UH I2 i j ?_ hd) rfl;subst ek;obtain⟨t,rfl⟩:=ry;refine KTD.in_text (kC I2 o) ?_;rw[WT];exact N3 _ c (I2.tok _) q2
def QpV(u:vE X.K X.mg x T)(a:cl0)(i:ND x:=by rfl)(hd:aC8:=by decide):ϟ (co9 e [.In] [bt9]) (RT T f) :=
  (QqU u a i hd).imp λ σ H Q z=>by
    obtain⟨Z,env,ρ,B,hp,d,hp',S,e1,k⟩:=z;obtain⟨y,hp1,e2,e3⟩:=Qg e1;refine tD.run S e2 (rr v B1 H1 g1 S1 j ?_);cases y with
    |str c=>obtain⟨rfl,rfl⟩:=Qm e3;exact⟨c,j.bL,bg5 an1⟩
    |_=>cases e3
#where
def o8:Û->ď ő
 | []=>í []
 |.str b::r=>tP (o8 r) (b :: ·)
 |_=>none
def Np:∀a:ő,o8 (a.map .str)>=a
 | []=>rfl
 |i::r=>by rw[A9,o8,Np r];rfl
section
variable{X:Cx}
def QoY{K:Aa}:∀{ds:Û}{bs:ő}{ys:η}{a:Đ},o8 ds>=bs->mx ys->bv5 a->∃l:Ļ Tok,a=ch6/\l.map μ=bs:=by
  intro ds;induction ds with
  |nil=>intro bs ys a h r v;cases h;unfold au at r;subst r;cases v;exact Ņ [] rfl
  |cons d ds e =>
    intro bs ys a h r v;unfold au at r;obtain⟨y,z,rfl,i,j⟩:=r;cases v with
    |@cons _ u _ us o x =>
    cases d<;>first|(simp[o8]at h;done)|skip
    rename_i b;have h:tP (o8 ds) (b :: ·)>=bs:=h;obtain⟨c,h1,rfl⟩:=by4 h;obtain⟨l,rfl,rfl⟩:=e h1 j x;obtain rfl:=i.bL;obtain⟨t,rfl⟩:=o;exact Ņ ((b,t)::l) rfl
def jf:Rq cf
  |.str x,[d]=>do
    let ds <- iW d
    let ys <- mZ (o8 ds)
    QI (JoinOk x ys)
    î (Ü (ar1 x ys))
  |_,_=>failure
def uJ:MtR X "str.join" (o9 X.K jf):=by
 intro L s σ H x vs v us Q I rx rv h;obtain⟨ρ,B,hp,O,es,d,hp',W,E,F,e,k⟩:=h;unfold jf at e;split at e
 ·obtain⟨ds,hp1,e1,e⟩:=Ū;obtain⟨ys,j,e2,e⟩:=Ū;obtain⟨e3,rfl⟩:=UP e2;obtain⟨_,o,c,e⟩:=Ū;obtain⟨i,rfl⟩:=QJ c;obtain⟨rfl,rfl⟩:=CH;obtain⟨z,rfl,J⟩:=F.bY;obtain⟨rfl,a,U,rfl,sa,y⟩:=Oe W J e1;obtain rfl:=E.bL;obtain⟨u,rfl,G⟩:=qT rv;cases G;obtain⟨t',rfl⟩:=rx;obtain⟨r,C,pl,hz⟩:=wy sa;obtain⟨l,rfl,hl⟩:=QoY e3 y C;exact PySem.SC.join pl.isList hl i λ t' P=>⟨Ü _,H,ϩ,TL,L4 j8⟩
 ·cases e
def DN:cf
 | [.int i]=>Lu (É (i<0) (-i) i)
 |_=>failure
def Qr1:bf6 X "abs" DN:=by
 intro a s σ H xs us Q I r h;obtain⟨ρ,B,hp,ds,d,hp',W,c,e,k⟩:=h;unfold DN at e;split at e
 ·obtain⟨rfl,rfl⟩:=CH;exact Qj2 a s σ H xs us Q I r (aQ5 c.ints1 aX2)
 ·cases e
def xT:Rt
 |.str x,y=>Lg ϧ y
 |x,y=>Lh x y
def KZ:P2 X ak5 xT:=by
 intro a s σ H x y v u Q I rx ry h;obtain⟨ρ,B,hp,o,c,d,hp',W,i,j,e,k⟩:=h;unfold xT at e;split at e
 ·exact QqM a s σ H x y v u Q I rx ry ⟨ρ,B,hp,_,c,d,hp',W,i,j,e,k⟩
 ·exact QqL a s σ H x y v u Q I rx ry ⟨ρ,B,hp,_,c,d,hp',W,i,j,e,k⟩
def sE:cf
 | [.str x]=>La [ϧ]
 |xs=>ZD xs
def QpP:bf6 X "len" sE:=by
 intro a s σ H xs us Q I r h;obtain⟨ρ,B,hp,ds,d,hp',W,c,e,k⟩:=h;unfold sE at e;split at e
 ·exact QpO a s σ H xs us Q I r ⟨ρ,B,hp,_,d,hp',W,c,e,k⟩
 ·exact ZF a s σ H xs us Q I r ⟨ρ,B,hp,_,d,hp',W,c,e,k⟩
#where
structure Hf(X:Cx)(es:Α)(f:cB):ç where
 h:DA X es f
section
variable{X:Cx}{e:Expr}{es:Α}{f:aG}{g:cB}{pos:Pos}
def Qnf:Hf X [] Qj:=⟨Qi⟩
structure DEs(X:Cx)(e:Expr)(f:aG):ç where
 h:cl0
def Em(ha:DEs X e f)(a:Hf X es g)(c:cB4=cs4::bo6:=by rfl):Hf X (e::es) (Qc f g):=⟨Qd ha.h a.h c⟩
def Qnk(h:Hf X es g):ϟ (.List es pos) (YY g):=zK h.h
#where
def j_(f:aG):lF:=λ env=>do
  match <- bb with
  |.tup ds=>î Ff
  |.lst ds=>î Ff
  |.ref n=>do
    match <- LM with
    |.lst _=>î (fQ n)
    |_=>failure
  |_=>failure
section
variable{X:Cx}{tg iter:Expr}{f:aG}
def Fj(h:cp7):DX X tg iter (j_ f):=λ a s σ H R I c=>by
 obtain⟨Z,env,ρ,B,hp,nxt,hp',S,e,k⟩:=c;obtain⟨d,hp1,e1,e2⟩:=Ū;have l:=Xw (tg:=tg) h a s σ H R I;have t:=vZ (Ky (tg:=tg) h) a s σ H R I;cases d with
 |tup ds=>exact t ⟨Z,env,ρ,B,hp,nxt,hp',S,by unfold iT lB;show((bb >>= kD) >>= _) hp=_;rw[Qe (m:=bb >>= kD) (aJ1 IE)];exact e2,k⟩
 |lst ds=>exact l ⟨Z,env,ρ,B,hp,nxt,hp',S,Ϭ cR IE e2,k⟩
 |ref n=>exact l ⟨Z,env,ρ,B,hp,nxt,hp',S,Ϭ cR IE e2,k⟩
 |non=>cases e2
 |bl _=>cases e2
 |int _=>cases e2
 |str _=>cases e2
#where
#print D
namespace K71
open PySem PySem.Spec PyProof.Rows L2 D
def top (i:Nat):Stmt:=PySem.Challenge.pw_sidelink_k71_rows_answered.main.body.getD i (.Pass ⟨0,0,0,0⟩)
abbrev Vu:Stmt:=dd5 8
def kQ:aF:=QR (rO an8)
def JN:cf:=Zi 1 kQ
abbrev Yp:Stmt:=Ω 64 7
def xG:aF:=Zu è Ġ Ä ė
def Xf:cf:=cX1 xG
abbrev UV:Stmt:=dd5 7
def QbP:aF:=QR (Ď á PD)
def Jo:cf:=Zi 1 QbP
abbrev UW:Stmt:=dd5 4
def QbQ:aF:=QR (Ď á bn6)
def Jp:cf:=Zi 1 QbQ
abbrev GD:Stmt:=top 30
def Qdw:aF:=cu4 (iJ (Xn (zL ė)) (Xn (zL (cu0 aE0 2)))) cx4 (Þ aB (cu0 aE0 2) 0)
def YM:cf:=cX1 Qdw
abbrev gE:Stmt:=top 29
def j1:aF:=Qr (cf7 bl6 ĳ ũ) (Py (ZP ĉ Jg Š (û 4)) (QP 4 (cu0 ũ 4)))
def Uh:aF:=J7 (cE4 ũ (aq6 (JQ eN cC bp ũ an6) (nB nQ ũ ĳ))) j1 ŀ
def Qfv:aF:=dE 3 PQ 4 ė (xk Uh Š)
def VJ:cf:=Zi 5 Qfv
abbrev VD:Stmt:=top 28
def Y4:aF:=ú 5 (QA 3 VJ (Qc Ä (aC 4 3))) (Py (ZP ĉ Jg ĳ bC9) (QP 4 (LJ YM (Qc Ä bC9))))
def xi:aF:=J7 (nB eN cN4 (cu0 ė 0)) Y4 ŀ
def kZ:aF:=dE 2 PQ 3 yc (ú 4 ė (xk xi ĳ))
def JP:cf:=Zi 6 kZ
abbrev xB:Stmt:=dd5 11
def GV:aF:=QR (Ē Dz an8)
def XL:cf:=Zi 1 GV
abbrev gF:Stmt:=top 27
def qk:aF:=bu5 Xl ĳ (Et (dh9 Š 1) (dh9 Š 2))
def jK:aF:=Y6 (cR (cx (LL JP 1 cQ8) bm1)) (gN 3) qk
def Qfw:aF:=dE 1 (aO2 cz3 XL Ä) 2 PQ (xk jK ĳ)
def Jd:cf:=Zi 4 Qfw
abbrev YT:Stmt:=dd5 12
def xU:aF:=aN (ss (JQ eN cC bp ė (rO an8))) xy Zg
def Z8:cf:=cX1 xU
abbrev zy:Stmt:=dd5 5
def Uj:aF:=Py (bz7 á IP 2 Z8 gg) (Zu á bn6 Ä ė)
def Ya:cf:=cX1 Uj
abbrev Gz:Stmt:=dd5 3
def Qds:aF:=Qr (Gy á FE xF Ä bS) (xk (ZV (ZP ĉ Jg an8 gg)) (Þ qS (rO an8) 1))
def Xo:cf:=cX1 Qds
abbrev Vv:Stmt:=dd5 2
def kR:aF:=Py (bz7 á IP 2 Z8 gg) (Qr (Gy á FE xF Ä bS) (cf7 ĳ an8 ė))
def Xe:cf:=Zi 3 kR
abbrev jr:Stmt:=dd5 0
def Kp:aF:=wL á PD ė (wL á "kept" (Xj (Ò (eC (ì [cL3,bR6,bR6,Ę,Ę])))) (wL á bn6 bp (wL á TB bp (Zu á FE Ä bp))))
def Z7:cf:=cX1 Kp
abbrev gD:Stmt:=top 46
def jZ:aF:=ZV (QC á "lay" 2 Xo ĳ ao6)
def QbF:aF:=Y6 (cR (oZ Ä (Zh bS) Zy)) (gN 3) jZ
def Qfu:aF:=ú 2 (JY á 2 Z7 gg) (Py (QC á bA7 3 Xe ĳ (Ś bp Q1)) (Qr QbF (xk (ZV (ic á bA8 2 Ya ĳ (Þ qS an6 1))) ĳ)))
def VI:cf:=Zi 4 Qfu
abbrev Do:Stmt:=top 45
def V1:aF:=dE 5 (be0 4) 6 (Qh bM i8 (Ic 1)) (dE 7 (cx0 i9 dO (dh9 i8 0)) 8 (cx0 i9 dO (lT ĳ i8)) (cP5 Š (nS Ä (Qc (dh9 ũ 1) (Qc (dh9 ũ 2) (aC 7 8))))))
def Qfc:aF:=nO (cW7 (Ic 1)) (gN 4) V1
def QjV:aF:=ú 3 PQ (xk Qfc Š)
def xO:cf:=Zi 9 QjV
abbrev U0:Stmt:=top 44
def Up:aF:=dE 2 (Qh Dt (YY gg) (Qh Yy Ä ė)) 3 (Qh Xg Ä ė) (aI1 (ò dU 3 1) (lT (bK ĳ Zy cK2) (YY (Ś (ò qS 1 1) bp3))) (cP (aL3 dh 3 0) (lT ĳ bN6) ĳ))
def Y9:cf:=Zi 4 Up
abbrev UY:Stmt:=top 43
def vw:aG:=OT (cR (Fc Ä ũ cx6)) [] X9 Q1
def qK:aF:=dE 6 (lT ũ i8) 7 vw (Qr (wR 3 (nS (Pd 7) (Ś (Ē Gf (co7 AN)) (Bl (Ś (lT ė ũ) (lT ė i9)))))) (QP 4 i9))
def vC:aF:=Y6 (cR (LJ Y9 (Qc an6 sD))) (gN 5) qK
def QbS:aF:=Qr (wO 3) (ú 4 bp (Qr vC (oU 3 (QR Š))))
def Y8:cf:=Zi 8 QbS
abbrev U3:Stmt:=top 42
def xM:aG:=OT (cR ũ) [] X9 ao9
def vz:aG:=OT (cR ũ) [] X9 Q1
def qN:aF:=dE 4 (oZ Ä (Zh Š) (Zh (lT Š ė))) 5 (Ē Gf vz) (wR 2 (nS (Pd 5) (Β 5 (Ē Gf xM))))
def xS:aF:=nO (DG (Qc bp (Qc an6 gg))) (gN 3) qN
def QbW:aF:=ck0 (Xn (zL Ä)) (QR (YY (Ò (nS dO (Ś (Z0 Qj) (Z0 Qj)))))) (Qr (wO 2) (Qr xS (oU 2 (QR ĳ))))
def jG:cf:=Zi 6 QbW
abbrev De:Stmt:=top 41
def V3:aF:=Qr (oV 2 xF bS) (ú 3 (IN 3 Y8 3 (Ś (Qh qS br6 (Ic 3)) (be0 1))) (bu5 Xl ũ (IN 3 xO 2 (Β 3 br6))))
def VL:aF:=J7 (eB (Þ dh (Ic 3) 1)) V3 ŀ
def QjW:aF:=dE 2 bp 3 (LJ jG (Qc Ä gg)) (ú 4 (IN 3 xO 2 (Β 3 bp)) (xk VL (cm5 VI 4 1)))
def qD:cf:=Zi 5 QjW
abbrev Vz:Stmt:=Ω 64 8
def YV:aG:=OT (cR Rb) [] X9 (OC Ä)
def kU:aF:=QR (v0 (Qh bM (bR9 aj7) (rO bS0)) (Ē vG YV))
def JO:cf:=Zi 1 kU
abbrev zx:Stmt:=Ω 66 4
def Ui:aF:=ck0 (ss (bF1 cz4 JO ah9)) xy (wL Ğ Ġ (LJ qD (Ś cP9 (aO2 tK Jo Hg))) (xk (ZV (ic è aJ0 2 Xf ah9 Hg)) (aO2 mG JN Hg)))
def JI:cf:=Zi 1 Ui
abbrev U1:Stmt:=top 36
def qL:aF:=ú 8 (cx ũ AN) (aN (iJ (nB mD AN (Ic 5)) (iJ (nB nQ bI0 Š) (nB cI (cx Š bI0) (cx i8 AN)))) (cP5 i9 (OM "kid" (Qc Ä (û 7)))) Zg)
def vD:aF:=nO (cW7 br6) (gN 7) qL
def QbU:aF:=dE 4 (ϕ 1 2) 5 (lT cx2 (ϕ 1 1)) (ú 6 PQ (xk vD i9))
def qd:cf:=Zi 9 QbU
abbrev yA:Stmt:=top 35
def vN:aF:=QR (cx0 (Þ bM Q1 0) (rO ao9) (Þ Zq (rO ao9) 1))
def qE:cf:=Zi 1 vN
abbrev UZ:Stmt:=top 34
def qz:aG:=OT (cX5 ĳ) [3] X9 (Qh cC Ä ė)
def qA:aG:=OT (cX5 ĳ) [1] X9 (Qh eN ė Ä)
def xL:aG:=OT (iT (nH ĳ (co7 ĳ))) [] X9 (Qh cC Q1 ao9)
def QbT:aF:=dE 2 ao9 3 (AC 3) (ck0 (df2 vG xL) aF3 (ck0 (cE4 ė (df2 vG qA)) aF3 (cu4 (cE4 Š (df2 vG qz)) aF3 (rB (OC ė) (rB (OC Š) (Qh cC ė Š))))))
def jE:cf:=Zi 4 QbT
abbrev VF:Stmt:=top 33
def Qab:aF:=ú 5 PQ (ŧ (Qh cI aE0 ĳ) (cP5 i8 (Z0 (Ś (ĝ ar2) Ä))) Zg (ck0 (ss (cm5 jE 1 3)) (cP5 i8 (Z0 (Ś (ĝ "order") Ä))) (ŧ (Qh cI (rO (ϕ 1 2)) (QA 1 qE gg)) (cP5 i8 (Z0 (Ś (ĝ "parts") Ä))) Zg (cu4 (iJ (nB cI (OC (ϕ 1 3)) (OC (ϕ 1 4))) (nB cI (ϕ 1 4) ũ)) (cP5 i8 (Z0 (Ś (ĝ "links") Ä))) i8))))
def XG:cf:=Zi 6 Qab
abbrev GC:Stmt:=top 31
def Vr:aF:=Qr (cf7 Š ĳ ũ) (QP 3 (cu0 ũ 3))
def Vn:aF:=Y6 (cR ė) (gN 4) Vr
def Qdv:aF:=dE 2 yc 3 dO (xk Vn ĳ)
def qY:cf:=Zi 5 Qdv
abbrev VE:Stmt:=top 32
def XO:aF:=dE 8 (cx ė AN) 9 (cx Ä bI0) (ú 10 (cP (nB cC (be0 7) (Ic 1)) (cx ė (be0 7)) dO) (Py (eQ ĉ Xl i9 (IN 5 XG 8 (Ç 9 (Ç 2 (Qc (cx ũ bI0) (û 10)))))) (aN (aL3 dh 2 0) (bu5 Xl i9 (IN 4 qd 8 (Ç 9 (Qc (cx ũ bI0) bC9)))) Zg)))
def GT:aF:=nO (cW7 (Ic 1)) (gN 7) XO
def Qaa:aF:=dE 4 (LJ qY (Qc Ä gg)) 5 (LJ qY (Qc Ä ao6)) (ú 6 PQ (xk GT i9))
def zG:cf:=Zi 11 Qaa
abbrev Dp:Stmt:=top 25
def jY:aF:=dE 5 (Qh qS (Þ qS cN4 1) ũ) 6 (cP (aL3 dh 5 0) (cx ĳ (be0 4)) (YY Qj)) (bu5 Xl Š (IN 4 zG 1 (Qc (cx ĳ ũ) (aC 5 6))))
def Qfb:aF:=nO (cW7 cN4) (gN 4) jY
def QjU:aF:=dE 1 (aO2 cz3 XL Ä) 2 (LL JP 1 cQ8) (ú 3 PQ (xk Qfb Š))
def vB:cf:=Zi 7 QjU
abbrev gq:Stmt:=top 26
def Qfn:aF:=QR (Qh bM (cP7 vB) (YY Qj))
def Ys:cf:=Zi 1 Qfn
abbrev VH:Stmt:=top 57
def GR:aG:=OT (j_ Ä) [] X9 (Qh xT (ee xT cE1 ":") bU2)
def Qad:aF:=cu4 (Xn (zL Ä)) (QR am6) (eQ sM jf (ĝ ",") GR)
def zH:cf:=Zi 1 Qad
abbrev MS:Stmt:=top 56
def Qm6:aF:=ni (OC Ä) am6 (aI1 (Eu Ä) (cP7 zH) (AW Ä))
def Jy:cf:=Zi 1 Qm6
abbrev Vx:Stmt:=ck7 2
def kS:aF:=ck0 (ss bS4) cx4 (aI1 (aW0 (db5 0) ų) (Ē Dz dd0) bS3)
def XF:cf:=Zi 1 kS
abbrev jt:Stmt:=Ω 64 6
def XR:aG:=OT (cR (bR9 bZ1)) [] X9 (Z0 (Ś Q1 (AD å eA XF ao9)))
def Kr:aF:=QR XR
def Zw:cf:=Zi 1 Kr
abbrev jp:Stmt:=Ω 66 3
def Kn:aF:=ŧ (Qh mD ė (ER EL)) xy Zg (QR (ZP AM Vt (Ē Ds (bF1 FF Zw ah9)) gg))
def JV:cf:=cX1 Kn
abbrev xC:Stmt:=ck7 0
def GW:aF:=aO1 Ġ ė (aO1 r0 ĳ (aO1 "aim" (ϕ 2 1) (aO1 cx9 bp (aO1 ky dO (aO1 cY7 yc (aO1 wC dO (aO1 AE dO (aO1 LP PQ (Zu å EK Ä CI)))))))))
def J9:cf:=Zi 3 GW
abbrev qQ:Stmt:=Ω 64 3
def VO:aF:=ú 2 (bR9 aj7) (Qr (cf7 (Z0 (Β 2 (JY å 3 J9 (Ś (bR9 Ġ) (cx bS0 ĳ))))) Rb ė) (xk (Gy è aj7 xF Ä bS) (OM "take" (aC 1 2))))
def J2:cf:=Zi 3 VO
abbrev GA:Stmt:=ck7 1
def Qdt:aF:=QR bS4
def YL:cf:=Zi 1 Qdt
abbrev zB:Stmt:=ck7 9
def JS:aG:=Z5 true (iT (nH (ϕ 2 1) (ϕ 2 2))) [3,4] (eB (JQ eN cC ė Q1 ĳ)) Ä
def Ul:aF:=dE 3 (db5 1) 4 (db5 2) (ú 5 JS (Py (ZP ĉ Xl dd0 bC9) (ck0 (iJ (eB (OC (ϕ 2 3))) (nB mD (ϕ 2 3) ũ)) (aO1 EK bl6 (bN7 aA3 (Ç 1 (N0 (ű Gf 5) dO dO)))) (aO1 "aim" (ϕ 2 3) (aO1 ky (ϕ 2 4) (bN7 aA3 (Ç 1 (N0 (ű Gf 5) am8 ow))))))))
def Yd:cf:=Zi 6 Ul
abbrev gC:Stmt:=top 21
def Qft:aF:=QR (nS bV6 (Ç 1 (Ç 2 (Ś (aw4 3) (aw4 4)))))
def jH:cf:=Zi 3 Qft
abbrev zD:Stmt:=top 23
def Vc:aG:=OT cX6 [1] (nB eN Ä ė) Ä
def Uo:aF:=QR (rO Vc)
def Jc:cf:=cX1 Uo
abbrev VB:Stmt:=top 22
def GP:aG:=OT cX6 [1] (nB cC Ä ė) Ä
def kX:aF:=QR (rO GP)
def YD:cf:=cX1 kX
abbrev gH:Stmt:=top 20
def Qfy:aF:=dE 4 bV5 5 cF9 (dE 6 (cm5 YD 4 1) 7 (cm5 Jc 4 1) (QR (QA 3 jH (N0 Ä (lT (lT (bK ũ Zy cx6) ĳ) (br4 ũ AN)) (lT (lT (bK i8 Zy cx6) Š) (br4 i8 AN))))))
def jJ:cf:=Zi 8 Qfy
abbrev SZ:Stmt:=top 18
def Qin:aF:=QR (QA 4 jJ (Qc Ä (Ç 1 (Ś (Z0 Qj) (Z0 Qj)))))
def Kl:cf:=cX1 Qin
abbrev gI:Stmt:=top 16
def Qfz:aF:=dE 2 bV5 3 (cm5 YD 2 1) (aI1 (Qh dU Š (cm5 Jc 2 1)) dO (Qh bB cF9 Š))
def XT:cf:=Zi 4 Qfz
abbrev yw:Stmt:=ck7 8
def vK:aF:=aO1 AE (LL XT 2 ow) (ŧ (cE3 bS3) (ZV (QC á bA7 3 Xe FL (Β 1 (LL Kl 2 ow)))) Zg (aO1 EK bl6 (bN7 D2 (Β 1 bS3))))
def qB:cf:=Zi 3 vK
abbrev Db:Stmt:=top 60
def QjX:aF:=dE 2 bV6 3 bV5 (dE 4 cF9 5 (Þ Yy (ű UJ 3) 2) (dE 6 (Qh bB Š i8) 7 (cP (aL3 dU 2 0) i8 (be0 5)) (dE 8 (Z0 (Ç 2 (Qc (bK Š Zy (Zh i8)) (Qc (bK ũ Zy (Zh AN)) (aC 6 1))))) 9 (Z0 (Ç 2 (Qc (br4 Š AN) (N0 (br4 ũ AN) (aw4 3) (aw4 4))))) (QR (Z0 (Ç 8 (aC 9 6)))))))
def Ue:cf:=Zi 10 QjX
abbrev Qbm:Stmt:=top 59
def Qik:aF:=QR (Qh dh (Ē UJ bV5) ė)
def qo:cf:=cX1 Qik
abbrev Vy:Stmt:=ck7 12
def kT:aF:=ck0 (ss (LL qo 2 (aO2 tK Jo FL))) (Py (QC á bA7 3 Xe FL (aC 1 2)) (aO1 EK bl6 cx4)) (ú 3 (LL Ue 2 (aO2 mG JN FL)) (aO1 wC (ic á "lay" 2 Xo FL (ϕ 3 1)) (Py (QC á bA7 3 Xe FL (Β 1 (Pd 3))) (aO1 "aim" (ϕ 3 2) (aO1 cx9 (Þ Zq ax7 1) (aO1 ky (eQ AM Vt aw2 CB) (QR (ů wC))))))))
def YC:cf:=Zi 4 kT
abbrev GK:Stmt:=top 17
def QdB:aF:=QR (QA 4 jJ (Qc Ä (Ç 1 (Ś (Z0 gg) cx2))))
def xP:cf:=Zi 3 QdB
abbrev xD:Stmt:=ck7 7
def GX:aF:=aO1 AE (LL XT 2 ow) (ú 3 (bH4 ch0 3 YC (Β 1 (IN 3 xP 2 (Ś ow (db5 2))))) (bN7 xz (Ç 1 (Qc bS3 ao6))))
def YW:cf:=Zi 4 GX
abbrev zA:Stmt:=ck7 6
def Uk:aF:=aO1 AE (LL XT 2 ow) (aO1 EK bl6 (bN7 cg8 (Β 1 bS3)))
def Yc:cf:=Zi 3 Uk
abbrev yx:Stmt:=ck7 5
def vL:aF:=ú 3 (db5 0) (aZ0 tI (bH4 bg9 3 Yc (aC 1 2)) (aZ0 xz (bH4 bZ0 3 YW (aC 1 2)) (aI1 (aW1 D2) (bH4 cy3 3 qB (aC 1 2)) (bH4 bh0 3 Yd (aC 1 2)))))
def qC:cf:=Zi 4 vL
abbrev gG:Stmt:=top 19
def Qfx:aF:=ú 3 bV5 (dE 4 cF9 5 (cm5 Jc 3 1) (ú 6 (be0 5) (QR (QA 3 jH (N0 Ä (lT (lT (bK Š Zy (Zh i8)) (Z0 gg)) (br4 Š i8)) (lT (lT (bK ũ Zy cx6) cx2) (br4 ũ i9)))))))
def jI:cf:=Zi 7 Qfx
abbrev js:Stmt:=ck7 10
def Kq:aF:=ú 3 (bH4 ch0 3 YC (Β 1 (IN 3 jI 2 (Ś ow (ů wC))))) (bN7 at4 (aC 1 3))
def Yr:cf:=Zi 4 Kq
abbrev UX:Stmt:=ck7 4
def QbR:aF:=aO1 ky Š (QR (Z0 (Ç 1 (aC 2 3))))
def Xu:cf:=Zi 4 QbR
abbrev Qbn:Stmt:=top 15
def Qil:aF:=QR (Qh bB cF9 (LJ Jc (Qc bV5 gg)))
def zV:cf:=cX1 Qil
abbrev Dx:Stmt:=top 14
def QjT:aF:=ú 2 (aw4 3) (QR (v0 (cE3 ĳ) (Qh mD ė ĳ)))
def zU:cf:=Zi 3 QjT
abbrev qO:Stmt:=dd5 6
def VM:aF:=Py (bz7 á IP 2 Z8 sD) (ú 3 (Þ Zq (bf1 an8 (Ď á bn6) 0) 1) (wL á bn6 (ic á "lay" 2 Xo Ä (Z0 (Ç 3 (Qc (Z0 gg) (N0 (nS (Ď á bn6) sD) dO dO))))) (QR (Ď á bn6))))
def J1:cf:=Zi 4 VM
abbrev Yk:Stmt:=ck7 11
def jN:aF:=aO1 EK bl6 (bN7 cg9 (Β 1 (QC á bh2 3 J1 FL (Ś ow (ů wC)))))
def Jx:cf:=cX1 jN
abbrev UU:Stmt:=dd5 1
def QbO:aF:=Py (bz7 á IP 2 Z8 gg) (xk (Gy á TB xF Ä bS) (cx an8 ė))
def Yb:cf:=cX1 QbO
abbrev GB:Stmt:=ck7 3
def Qdu:aF:=ni bS4 dO (dE 1 (cx0 aO4 (cQ7 FL) am8) 2 (QC á aA3 2 Yb FL gg) (ck0 (aq6 aO4 (nB cC ax7 CB)) (QR (bH4 Ty 2 Jx gg)) (ni (LL zU 2 ow) (bH4 bA1 4 Xu (Qc (ĝ cy0) (Β 1 (ϕ 2 4)))) (ŧ (Qh dh ax7 CB) (xk (cf7 ė aw2 ax7) (bH4 bA1 4 Xu (Qc (ĝ cy1) (Β 1 (LL zV 2 ow))))) Zg (aI1 (Þ dh CB 0) (bH4 bA2 3 Yr (aC 1 2)) (bH4 cy2 3 qC (aC 1 2)))))))
def qX:cf:=Zi 3 Qdu
abbrev qP:Stmt:=Ω 64 4
def VN:aF:=dE 2 (cx Rb ė) 3 (ϕ 2 1) (ú 4 (AD å cy4 qX Š) (ŧ (AD å "over" YL Š) (Qr (cf7 dO Rb ė) (ZV (ZP ĉ Jg (bR9 bZ1) sD))) Zg (QR (lT (nS (Pd 4) (Β 1 ax7)) (co7 ũ)))))
def XS:cf:=Zi 5 VN
abbrev VA:Stmt:=Ω 64 2
def kW:aF:=ck0 (ss (JQ eN cC bp ė cD9)) xy (ni (cE3 (cx Rb ė)) (bz7 è bA9 2 XS gg) (aI1 (Qh cC (bR9 aj7) (rO bS0)) (bz7 è bB0 2 J2 gg) (OM at6 gg)))
def ZZ:cf:=cX1 kW
abbrev xE:Stmt:=Ω 64 5
def zo:aF:=Py (eQ ĉ Jg ė (bz7 è oS 2 ZZ sD)) (QP 2 (Qh Xg bW4 cD9))
def Ug:aF:=J7 (ss (bF1 cz4 JO Ä)) zo ŀ
def GY:aF:=dE 1 PQ 2 bp (xk Ug ė)
def ZE:cf:=Zi 3 GY
abbrev Qbl:Stmt:=top 51
def Qij:aF:=QR (RT [(tI, 1),(xz, 2),(D2, 1),(ų, 2)] bV6)
def yH:cf:=Zi 1 Qij
abbrev ju:Stmt:=Ω 64 1
def Ks:aF:=xk (ZV (ZP ĉ Jg bS0 gg)) (Þ qS (rO bS0) 1)
def ZI:cf:=cX1 Ks
abbrev jq:Stmt:=Ω 66 2
def Ko:aF:=ú 2 (QC è ae2 2 ZI ah9 gg) (wL Ğ EL bW4 (QR ĳ))
def Yq:cf:=Zi 3 Ko
abbrev VG:Stmt:=top 55
def GQ:aG:=YR (pK ĳ) [] X9 (ee pJ Ä wf)
def Qac:aF:=ú 2 (cx0 (eQ sM zp Ä am6) (Dq Ä (Zh bS) Zy) Ä) (ck0 (iJ (ss (JQ cC eN bp (ű sE 2) ė)) (df2 vG GQ)) xy (cu4 (aq6 (eQ sM zp ĳ (ĝ "0")) (eB (ee CP Ä "0"))) xy (Ē Lb Ä)))
def YF:cf:=Zi 3 Qac
abbrev U4:Stmt:=top 54
def QbX:aF:=ú 1 (LJ YF (Ś Ä (Ě 3))) (ŧ (ò cC 1 0) xy Zg (QR ė))
def qf:cf:=cX1 QbX
abbrev gA:Stmt:=top 53
def Qfr:aF:=ú 1 (LJ YF (Ś Ä (Ě 31))) (ŧ (Qh dh (ű DN 1) bQ9) xy Zg (QR ė))
def Yv:cf:=cX1 Qfr
abbrev GJ:Stmt:=top 52
def kN:aG:=YR (rA ė) [] X9 (cP7 Yv)
def QdA:aF:=ú 2 (lT (Z0 bQ6) (Ē su kN)) (cu4 (aq6 (ee dU Ä ų) (nB mD (ò bB 2 1) (ò bB 2 2))) xy ĳ)
def XZ:cf:=Zi 3 QdA
abbrev gB:Stmt:=top 50
def jD:aG:=YR (rA Š) [] X9 (cP7 qf)
def Qfs:aF:=dE 1 (eQ sM uI Ä am7) 2 (ò bB 1 0) (ú 3 (co7 ė) (ni (bl7 dU (v8 [(tI, 1),(xz, 2),(D2, 1),(ų, 2)] ĳ) UJ 3) (cm5 XZ 2 3) (ni (bl7 dU (v8 [(oS, 1),(Ϡ, 0),(eA, 1),(nr, 0),(wh, 0),(at7, 0)] ĳ) UJ 3) (lT cx2 (Ē su jD)) xy)))
def Zz:cf:=Zi 4 Qfs
abbrev gm:Stmt:=Ω 66 1
def jC:aG:=OT (j_ (ic è oS 2 ZZ ah9 (ϕ 2 1))) [] X9 (cP7 Jy)
def Qfm:aF:=dE 2 (QA 1 Zz gg) 3 ax7 (ni (QA 1 yH sD) (AW (bz7 Ğ bB1 2 Yq sD)) (aZ0 oS (eQ sM jf am7 jC) (aZ0 Ϡ (bK3 Ϡ ZE ah9) (aZ0 eA (bK1 Jy (ic Ğ ar3 2 JV Ä (ϕ 2 1))) (aZ0 nr (bK1 Jy cP9) (aI1 (aW1 wh) (cx0 (cP8 Ys) bJ2 (ĝ "no")) (AW (AD Ğ ai2 JI Ä))))))))
def QL:cf:=Zi 4 Qfm
abbrev gz:Stmt:=top 73
def QbE:aG:=OT (j_ Ä) [] X9 (Qh xT (ee xT cE1 ":") bU2)
def Qfq:aF:=ni (OC Ä) am6 (ni (Ew bl3 Ä) (AW Ä) (aI1 (Þ bM an6 0) am6 (eQ sM jf (ĝ ",") QbE)))
def ZX:cf:=Zi 1 Qfq
abbrev yz:Stmt:=top 75
def Yz:aF:=aN (nB bM (lT ĳ i9) ũ) (QP 5 (dh2 ZX 7)) Zg
def zX:aF:=Y6 (cR (bF1 FF Zw ė)) (gT [6,7]) Yz
def vM:aF:=ú 5 (ZP AM Vt Š (Β 4 am6)) (xk zX (Qh bM (mw Ğ 2 QL Ä (bl7 xT (ĝ "answer ") JD 4)) i8))
def Ye:cf:=Zi 8 vM
abbrev GI:Stmt:=top 74
def Vs:aF:=cP5 i8 (dh2 ZX 6)
def Vo:aF:=Y6 (j_ (br4 ũ (Ě 3))) (gN 6) Vs
def Qdz:aF:=dE 4 (QC è oS 2 ZZ ė ao6) 5 (Xj (Ś (Pd 4) (ű JD 3))) (ŧ (Þ dh br6 2) (cP5 i8 (AW (lT ĳ (ϕ 4 2)))) Zg (xk Vo (Qh bM (mw Ğ 2 QL Ä (bl7 xT (ĝ "move ") JD 3)) (ZP sM jf am7 bC9))))
def q8:cf:=Zi 7 Qdz
abbrev GH:Stmt:=top 77
def Qdy:aF:=cu4 (aq6 (Þ bM (ò Xg 2 4) 0) (nB cI (dg5 Ä nr) (bK1 ZX (QA 1 Jd gg)))) aF3 (rB (Þ cI (ò Xg 2 4) 1) (aW0 (dg5 Ä wh) "yes"))
def qZ:cf:=Zi 3 Qdy
abbrev gy:Stmt:=top 72
def Y7:aG:=YR (lB (co7 Ä)) [] X9 (AW Ä)
def Qfp:aF:=QR (eQ sM jf am7 (lT (YY (Ò bV6)) Y7))
def Yu:cf:=Zi 1 Qfp
abbrev Qbo:Stmt:=top 69
def Qim:aF:=ú 1 (ϝ Yy 6) (ni (Þ dU (ϝ Xg 6) 0) (Qh qS (Qh Xg (Qh Du ė (bQ7 (Ě 1000000007) 3)) (Þ Zq (Qh rD bp3 bQ9) 1)) bQ9) (aI1 (Þ dU (ϝ Xg 6) 1) (Qh bB (YY (Qc bQ9 (N0 bR0 (Þ qS bQ9 1) (Qh qS bS bQ9)))) (ò Xg 1 4)) (Þ qS (ò Xg 1 17) 5)))
def Yt:cf:=cX1 Qim
abbrev gw:Stmt:=top 70
def Qfo:aF:=dE 1 (ϝ Xg 9) 2 (bK1 Yt (ϝ Yy 9)) (ni (ò dU 1 0) (OM tI sD) (ni (ò cC 1 5) (OM xz (Β 2 (bK1 Yt (ϝ Yy 37)))) (ni (ò cC 1 7) (OM D2 sD) (ú 3 (bK1 Yt (ϝ Yy 131)) (ŧ (Qh dU Š ĳ) (QP 3 (ò qS 2 1)) Zg (ŧ (Qh cC Š bR0) (QP 3 bW4) Zg (bN7 ų (Ś (QK Dv (aC 2 3)) (QK Dy (aC 2 3))))))))))
def jF:cf:=Zi 4 Qfo
abbrev zC:Stmt:=Ω 64 0
def Um:aF:=wL è Ġ ė (wL è OI PQ (wL è aj7 bp (wL è "held" (Qh wV (YY (Ò dO)) ĳ) (Zu è bZ1 Ä PQ))))
def Zp:cf:=Zi 3 Um
abbrev U2:Stmt:=top 76
def qM:aF:=cf7 (dh2 ZX 7) ũ (lT Š i9)
def xR:aF:=Y6 (cR (bF1 FF Zw ė)) (gT [6,7]) qM
def QbV:aF:=ni (Qh cI (dg5 Ä Ϡ) (bK3 Ϡ ZE ė)) dO (Qr xR (ú 5 (LJ qD (Ś (QA 1 Jd sD) (aO2 tK Jo ĳ))) (aI1 (Qh cI (dg5 Ä at7) (AW (aO2 mG JN i8))) dO i8)))
def Yf:cf:=Zi 8 QbV
abbrev GG:Stmt:=top 71
def Vm:aG:=YR (cW7 (ϝ Xg 24)) [1] X9 (OM xz (Ś (Þ qS (Þ Xg (Qh rD Ä ė) 47) 9) (lT (Ě 100) Ä)))
def Qdx:aF:=ú 1 (Qh bB (YY (Qc (Ě 7) (Qc (Ě 11) (N0 (Ě 23) bS (Ě 46))))) (Þ Xg (ϝ Yy 24) 5)) (QR Vm)
def xN:cf:=cX1 Qdx
abbrev xA:Stmt:=Ω 66 0
def GU:aF:=wL Ğ Ġ (JY á 2 Z7 gg) (wL Ğ eD (JY è 3 Zp (Qc Hg sD)) (Zu Ğ EL Ä bp))
def J8:cf:=Zi 3 GU
abbrev VC:Stmt:=top 68
def kY:aF:=aI1 (Qh cC ė (Ē UJ Ä)) (Qh bB Ä ė) bp
def YE:cf:=cX1 kY
abbrev GF:Stmt:=top 78
def Nu:aF:=ŧ (Þ bM (Þ Xg (ix Yy Ä ag2 9) 8) 5) (ú 5 (IN 5 Yf 4 (Ç 6 (Ç 5 (aC 9 10)))) (ni (OC i8) CI (ú 6 (JY è 3 Zp (aC 5 2)) (QP 9 AN)))) Zg (ŧ (ò cC 11 20) (ú 8 (bK1 jF (cx Ä ag2)) (Py (QC è ae2 2 ZI i9 (û 8)) (ni (bl7 cI (mw Ğ 2 QL ũ (dh2 Yu 8)) JD 7) CI (oV 7 xF bS)))) Zg (ck0 (iJ (ss (IN 4 q8 4 (Ç 6 (Β 9 (Qh Xg (ix Yy Ä ag2 3) ĳ))))) (ss (IN 3 qZ 4 (Β 5 (ix Yy Ä ag2 7))))) aF3 (aN (ss (IN 5 Ye 4 (Ç 6 (Ç 9 (Β 10 (Qh Xg (ix Yy Ä ag2 11) AN)))))) aF3 Zg)))
def BO:aF:=nO (cW7 an6) (gN 11) Nu
def Oi:aF:=Py (QC è ae2 2 ZI i9 (û 8)) (ni (bl7 cI (mw Ğ 2 QL ũ (dh2 Yu 8)) JD 7) CI (oV 7 xF bS))
def BN:aF:=Y6 (cR (bK1 xN (ò Yy 1 32))) (gN 8) Oi
def QrW:aF:=dE 1 (LJ YE (Ś Ä bp)) 2 (lT bS (ò Xg 1 8)) (dE 3 (lT bp3 (Þ Xg (ò Yy 1 8) 4)) 4 (JY Ğ 3 J8 (aC 3 2)) (dE 5 (JY á 2 Z7 ao6) 6 (JY è 3 Zp (aC 5 2)) (ú 7 bp (Qr BN (ni (Qh cI dg7 (bK3 Ϡ ZE i9)) CI (dE 9 bp 10 yc (Qr BO (cu4 (iJ (nB cI dg7 (bK3 Ϡ ZE i9)) (eB (ee cI dg7 "0"))) aF3 (v0 (Qh bM (dg6 nr) (bK1 ZX (dh2 Jd 5))) (aW0 (dg6 wh) "yes"))))))))))
def z_:cf:=Zi 12 QrW
structure Al(K:Aa)(mg:C9):ç where
 z0:ak4 "len"
 z1:ak4 ĉ
 z2:ak4 nI
 z3:ak4 aS
 z4:ak4 Ń
 z5:ak4 "all"
 z6:ak4 sM
 z7:ak4 wb
 z8:ak4 AM
 z9:ak4 bl3
 i_:ak4 "abs"
 z11:ak4 "max"
 z12:ak4 "min"
 g0:UG mg "PARTS" 2
 g1:UG mg "SIDE" 4
 g2:UG mg "LEVEL" 0
 g3:UG mg "KEYS" 1
 g4:UG mg "HIGH" 3
 t0:UT K mg "EMPTY_LEAF" (ì [cL3,bR6,bR6,Ę,Ę])
 d0:vE K mg "DEED_WORDS" [(tI, 1),(xz, 2),(D2, 1),(ų, 2)]
 d1:vE K mg "OTHER_WORDS" [(oS, 1),(Ϡ, 0),(eA, 1),(nr, 0),(wh, 0),(at7, 0)]
 k0:Yw K á "kept"
 k1:Yw K è Ġ
 k2:Yw K á PD
 k3:Yw K á bn6
 k4:Yw K á FE
 k5:Yw K á TB
 k6:Yw K è aj7
 k7:Yw K è OI
 k8:Yw K è "held"
 k9:Yw K Ğ Ġ
 k10:Yw K Ğ eD
 k11:Yw K å AE
 k12:Yw K å r0
 k13:Yw K å LP
 k14:Yw K å EK
 HS:Yw K è bZ1
 HN:Yw K Ğ EL
 tZ:Yw K å wC
 HJ:Yw K å cY7
 oH:Yw K å ky
 rM:Yw K å cx9
 lA:Yw K å "aim"
 mq:Yw K å Ġ
 u0:cr7 á mG "Shelf.pages" Vu
 u1:cr7 è aJ0 "Weaver.change_shelf" Yp
 u2:cr7 á tK "Shelf.room" UV
 u3:cr7 á aA8 "Shelf.root" UW
 u4:wt "first_kid" GD
 u5:wt "side_run" gE
 u6:wt "level_lists" VD
 u7:cr7 á cz3 "Shelf.picture" xB
 u8:wt "table_of" gF
 u9:cr7 á IP "Shelf.check_number" YT
 u10:cr7 á bA8 "Shelf.make_root" zy
 u11:cr7 á "lay" "Shelf.lay" Gz
 u12:cr7 á bA7 "Shelf.write" Vv
 u13:UI K mg á "Shelf.__init__" jr
 u14:wt "shelf_of" gD
 u15:wt "linked" Do
 u16:wt "kid_counts" U0
 u17:wt "fork_fills" UY
 u18:wt "leaf_fills" U3
 u19:wt "packed" De
 u20:cr7 è cz4 "Weaver.idle" Vz
 u21:cr7 Ğ ai2 "Desk.pack_table" zx
 u22:wt "kid_faults" U1
 u23:wt "wanted_parts" yA
 u24:wt "is_ordered" UZ
 u25:wt "page_faults" VF
 u26:wt "begins_of" GC
 u27:wt "list_faults" VE
 u28:wt "faults" Dp
 u29:wt "is_sound" gq
 u30:wt "shown_pairs" VH
 u31:wt "shown" MS
 u32:cr8 eA "Walk.answer" Vx
 u33:cr7 è FF "Weaver.answers" jt
 u34:cr7 Ğ ar3 "Desk.answer_of" jp
 u35:UI K mg å "Walk.__init__" xC
 u36:cr7 è bB0 "Weaver.take_deed" qQ
 u37:cr8 "over" "Walk.over" GA
 u38:cr8 bh0 "Walk.read_pairs" zB
 u39:wt "refilled" gC
 u40:wt "count_not_above" zD
 u41:wt "count_below" VB
 u42:wt "with_run" gH
 u43:wt "without" SZ
 u44:wt "worth_of" gI
 u45:cr8 cy3 "Walk.cut_key" yw
 u46:wt "parted" Db
 u47:wt "is_full" Qbm
 u48:cr8 ch0 "Walk.settle" Vy
 u49:wt "with_pair" GK
 u50:cr8 bZ0 "Walk.put_pair" xD
 u51:cr8 bg9 "Walk.find_worth" zA
 u52:cr8 cy2 "Walk.do_deed" yx
 u53:wt "with_kid" gG
 u54:cr8 bA2 "Walk.tell_fork" js
 u55:cr8 bA1 "Walk.go_on" UX
 u56:wt "kid_for" Qbn
 u57:wt "beyond" Dx
 u58:cr7 á bh2 "Shelf.raise_root" qO
 u59:cr8 Ty "Walk.raise_root_over" Yk
 u60:cr7 á aA3 "Shelf.read" UU
 u61:cr8 cy4 "Walk.step" GB
 u62:cr7 è bA9 "Weaver.step_walk" qP
 u63:cr7 è oS "Weaver.move" VA
 u64:cr7 è Ϡ "Weaver.finish" xE
 u65:wt "is_deed" Qbl
 u66:cr7 è ae2 "Weaver.hand_in" ju
 u67:cr7 Ğ bB1 "Desk.note_deed" jq
 u68:wt "read_number" VG
 u69:wt "read_short" U4
 u70:wt "read_key" gA
 u71:wt "read_deed" GJ
 u72:wt "read_row" gB
 u73:cr7 Ğ "say" "Desk.say" gm
 u74:wt "_law_word" gz
 u75:wt "_law_answered" yz
 u76:wt "_law_moved" GI
 u77:wt "_law_looks" GH
 u78:wt "_law_said" gy
 u79:wt "_law_key" Qbo
 u80:wt "_law_deed" gw
 u81:UI K mg è "Weaver.__init__" zC
 u82:wt "_law_packed" U2
 u83:wt "_law_ahead" GG
 u84:UI K mg Ğ "Desk.__init__" xA
 u85:wt "_law_cell_at" VC
def gJ:cq4 Vu:=QZ
def xc:EQ [Ŋ, Ġ] Ŋ Ġ Yp:=QZ
def QaA:cq4 UV:=QZ
def QaB:cq4 UW:=QZ
def QcY:EQ [mG, am3] mG am3 GD:=QZ
def QeG:aH2 [mG, "leftmost", "listed", am3, Ŏ] mG "leftmost" "listed" gE:=QZ
def gY:EQ [mG, aA8, "lists", "listed", "leftmost", am3] mG aA8 VD:=QZ
def K7:cq4 xB:=QZ
def QeH:Č [Ġ, mG, nr, Ŏ] [Ġ] gF:=QZ
def xK:EQ [Ŋ, Ŏ] Ŋ Ŏ YT:=QZ
def V6:EQ [Ŋ, Ŏ] Ŋ Ŏ zy:=QZ
def QcU:EQ [Ŋ, eR] Ŋ eR Gz:=QZ
def gK:cO6 [Ŋ, Ŏ, eR] Ŏ eR Vv:=QZ
def U7:EQ [Ŋ, tK] Ŋ tK jr:=QZ
def QeF:EQ [mG, tK, Ġ, eR] mG tK gD:=QZ
def Qjv:aH2 [ar2, cZ1, ar4, mG, ky, "behind", "is_last", "high", cy0] ar2 cZ1 ar4 Do:=QZ
def QaF:EQ ["kids", "most", "counts", at6] "kids" "most" U0:=QZ
def QaD:aH2 ["kids", ar4, "most", cZ1, "start", "count", "stop", "begins"] "kids" ar4 "most" UY:=QZ
def QaI:EQ [nr, tK, cZ1, "start", LP, al9] nr tK U3:=QZ
def Qjw:EQ [nr, tK, ar2, cZ1, mG] nr tK De:=QZ
def gP:cq4 Vz:=QZ
def V5:cq4 zx:=QZ
def QaG:Č [Ŏ, eR, bc4, cz5, "kids", "wanted", at4, ky, "kid"] [Ŏ, eR, bc4, cz5] U1:=QZ
def ve:Č [eR] [eR] yA:=QZ
def QaE:EQ [eR, bc4, al9, "high"] eR bc4 UZ:=QZ
def g9:Č [Ŏ, eR, ar2, bc4, "follower", at4] [Ŏ, eR, ar2, bc4, "follower"] VF:=QZ
def QcX:EQ [mG, am3, "begins", bc4, Ŏ] mG am3 GC:=QZ
def gZ:Č [mG, am3, ar2, "beneath", "begins", cz5, at4, ky, Ŏ, eR, "follower"] [mG, am3, ar2, "beneath"] VE:=QZ
def Qju:Č [Ġ, mG, "lists", at4, ky, ar2, "beneath"] [Ġ] Dp:=QZ
def Qey:Č [Ġ] [Ġ] gq:=QZ
def ki:Č [LP] [LP] VH:=QZ
def Ql8:Č ["part"] ["part"] MS:=QZ
def gM:cq4 Vx:=QZ
def U9:cq4 jt:=QZ
def U5:EQ [Ŋ, Ŏ] Ŋ Ŏ jp:=QZ
def K8:cO6 [Ŋ, Ġ, r0] Ġ r0 xC:=QZ
def Vk:EQ [Ŋ, bB2, Ŏ] Ŋ bB2 qQ:=QZ
def QcV:cq4 GA:=QZ
def V8:cO6 [Ŋ, Ŏ, bh3, "low", "high", LP] Ŏ bh3 zB:=QZ
def QeE:aH2 [eR, al9, "parts"] eR al9 "parts" gC:=QZ
def Ua:EQ [al9, Na] al9 Na zD:=QZ
def gW:EQ [al9, Na] al9 Na VB:=QZ
def QeJ:Č [eR, Na, "new_keys", "new_worths", al9, "worths", "start", "stop"] [eR, Na, "new_keys", "new_worths"] gH:=QZ
def Qgv:EQ [eR, Na] eR Na SZ:=QZ
def QeK:EQ [eR, Na, al9, ky] eR Na gI:=QZ
def vb:cO6 [Ŋ, Ŏ, bh3] Ŏ bh3 yw:=QZ
def Qjx:EQ [eR, Ŏ, ar2, al9, "parts", "middle", Na, D2, "old", "new"] eR Ŏ Db:=QZ
def Qgs:EQ [eR, tK] eR tK Qbm:=QZ
def gO:cO6 [Ŋ, Ŏ, eR, "halves"] Ŏ eR Vy:=QZ
def Qc3:aH2 [eR, Na, AE] eR Na AE GK:=QZ
def K9:cO6 [Ŋ, Ŏ, bh3, wC] Ŏ bh3 xD:=QZ
def V7:cO6 [Ŋ, Ŏ, bh3] Ŏ bh3 zA:=QZ
def vc:cO6 [Ŋ, Ŏ, bh3, cz6] Ŏ bh3 yx:=QZ
def QeI:aH2 [eR, Na, "kid", al9, "kids", ky, "behind"] eR Na "kid" gG:=QZ
def U8:cO6 [Ŋ, Ŏ, "fork", wC] Ŏ "fork" js:=QZ
def QaC:Č [Ŋ, cz6, Ŏ, "to"] [Ŋ, cz6, Ŏ, "to"] UX:=QZ
def Qgt:EQ [eR, Na] eR Na Qbn:=QZ
def Qjt:EQ [eR, Na, "high"] eR Na Dx:=QZ
def Vi:cO6 [Ŋ, Na, Ŏ, ar2] Na Ŏ qO:=QZ
def jv:EQ [Ŋ, Ŏ] Ŋ Ŏ Yk:=QZ
def Qaz:EQ [Ŋ, Ŏ] Ŋ Ŏ UU:=QZ
def QcW:cq3 [Ŋ, Ŏ, eR] GB:=QZ
def Vj:EQ [Ŋ, bB2, "holding", "walk", at4] Ŋ bB2 qP:=QZ
def gR:EQ [Ŋ, bB2] Ŋ bB2 VA:=QZ
def Ga:cq3 [Ŋ, "rows", bB2] xE:=QZ
def Qgr:Č [at4] [at4] Qbl:=QZ
def Ka:EQ [Ŋ, r0] Ŋ r0 ju:=QZ
def U6:EQ [Ŋ, r0, Ŏ] Ŋ r0 jq:=QZ
def kc:EQ ["text", "most", "figures"] "text" "most" VG:=QZ
def QaJ:Č ["text", Ŏ] ["text"] U4:=QZ
def QeC:Č ["text", Ŏ] ["text"] gA:=QZ
def Qc2:EQ [cz6, "texts", r0] cz6 "texts" GJ:=QZ
def QeD:Č ["row", "words", cz6, "texts"] ["row"] gB:=QZ
def Qex:EQ [Ŋ, "row", at4, cz6] Ŋ "row" gm:=QZ
def QeB:Č ["part"] ["part"] gz:=QZ
def vd:Č [bB3, eD, ar4, "past", Ŏ, "due", "known", eA] [bB3, eD, ar4, "past", Ŏ] yz:=QZ
def Qc1:Č [bB3, eD, ar4, bB2, at4, "due", "part"] [bB3, eD, ar4, bB2] GI:=QZ
def Qc0:aH2 [bB3, Ġ, cz7] bB3 Ġ cz7 GH:=QZ
def QeA:Č [r0] [r0] gy:=QZ
def Qgu:Č [Ŏ, at6] [Ŏ] Qbo:=QZ
def Qez:Č [cz7, "kind", Na, "other"] [cz7] gw:=QZ
def V9:cO6 [Ŋ, Ġ, cZ2] Ġ cZ2 zC:=QZ
def QaH:Č [bB3, eD, Ġ, ar4, "past", cg8, "known", eA] [bB3, eD, Ġ, ar4, "past"] U2:=QZ
def QcZ:Č [cz7, cy4] [cz7] GG:=QZ
def K6:cO6 [Ŋ, tK, cZ2] tK cZ2 xA:=QZ
def gX:EQ [ai3, "k"] ai3 "k" VC:=QZ
def lM:Č [ai3, cz7, cZ2, tK, bB3, Ġ, eD, "handed", r0, ar4, "past", "k"] [ai3] GF:=QZ
section
variable{P:Program}{w:World}{K:Aa}{mg:C9}{O8:Heap}(Z:Al K mg)
include Z
def YZ:My P w K á mG 1 1 JN:=dj2 Z.u0 gJ di4
def jb:My P w K è aJ0 1 2 Xf:=ct0 Z.u1 xc (Qn (l3 Z.k1 ń))
def qI:My P w K á tK 1 1 Jo:=dj2 Z.u2 QaA (š Z.k2)
def qJ:My P w K á aA8 1 1 Jp:=dj2 Z.u3 QaB ck2
def Qal:Iq "first_kid" 1 2 YM:=EW Z.u4 QcY (f7 (aN8 (Gi (J5 (Fo ń)) (VS (J5 (Fo (fm (ϣ Ñ (og ń)) Z.g0))))) ZG) (og (fm (ϣ Ñ (og ń)) Z.g0)))
def Qcp:Iq "side_run" 1 3 VJ:=cE5 Z.u5 QeG 3 s ah2 4 s ń (f7 (aY5 ŀ (DW.pt (x9 (χ sI bn ZG) (x9 (x8 oX xH Qq bn bT9) (jT (QV (U_ aD8) bn ś Ù))))) (Ā (VR Yn (VQ aD8 ś bn)) (aZ2 ϱ cL8) (Qn (Qx 4 s (fm (ϣ Ñ bn) Z.g1))))) ϱ)
def xp:Iq "level_lists" 2 2 JP:=cE5 Z.u6 gY 2 s ah2 3 s Ut (bD4 4 s ń (aY5 ŀ (χ oX (pv l9) (bT1 (ϣ Ñ ń))) (Ř 5 s (OA (Qcp Z) 0 (Í 4 Fu)) (aZ2 ś bp2) (Qn (Qx 4 s (OA (Qal Z) 0 bp2))))) ś)
def zn:My P w K á cz3 1 1 XL:=dj2 Z.u7 K7 (JC WC Z.z1 boot_list (kd Z.k0))
def Yh:Iq "table_of" 3 1 Jd:=cE5 Z.u8 QeH 1 s (bc8 (zn Z) Ñ) 2 s ah2 (f7 (wm rfl (Xw (ϣ (OA (xp Z) 1 (bc9 (qJ Z) Ñ)) (Fz Qq))) (XM 3 s) (Qn (Zv (oA jg ś (ă (Qnl Z.z1 Z.z2 rfl (de5 (ϣ ń ϱ)) (fm (ϣ ń ϱ) Z.g0))))))) ś)
def Jz:My P w K á IP 1 2 Z8:=ct0 Z.u9 xK (Qn (bf4 (J5 (x8 oX xH Qq ń di4)) YH))
def Vf:My P w K á bA8 2 2 Ya:=ct0 Z.u10 V6 (aA9 (bc5 (Jz Z) Ñ eP) (l3 Z.k3 ń))
def zM:My P w K á "lay" 1 2 Xo:=ct0 Z.u11 QcU (as3 (yK Z.k4 Ñ Qq) (aZ2 ck1 eP) (dL ji di4))
def XN:My P w K á bA7 2 3 Xe:=ct0 Z.u12 gK (Ā (bc5 (Jz Z) Ñ eP) (yK Z.k4 Ñ Qq) (Qn (VR ś (VQ aD8 ck1 ń))))
def XV:p8 P w K mg O8 á 1 2 Z7:=hI Z.u13 U7 (Õ d (let ⟨_,c,a⟩:=Z.t0.ex;cH9 Z.k2 ń Z.k0 (Xi (ă (Qnh rfl c a))) (cH9 Z.k3 Qq Z.k5 Qq (Qn (l3 Z.k4 Qq)))))
def Qco:Iq "shelf_of" 3 2 VI:=EW Z.u14 QeF (Ř 2 s (ze (XV Z) a Â Qy eP) (bc5 (XN Z) ś (sQ Qq P9)) (as3 (wm rfl (Xw (WD Ñ (Z1 Qq) Jq)) (XM 3 s) (Qn (bc5 (zM Z) ś Fu))) (Zv (Nf (Vf Z) ś (dL ji bT9))) ś))
def uu:Iq "linked" 1 3 xO:=EW Z.u15 Qjv (bD4 3 s ah2 (aa7 rfl (qr rfl Z.z3 (ă (pv eP))) (XM 4 s) (iN 5 s (bS9 bn) 6 s (bn7 ζ or (pv eP)) (iN 7 s (Vp (Xd Fn) ZG (og (ϣ ń or))) 8 s (Vp (Xd Fn) ZG (OK ś or)) (Qn (aZ3 ϱ (Zo (Í 0 (Qd (og (ϣ ń bn)) (Qd (og (ϣ ń bn)) (Í 7 (ę 8))))))))))) ϱ)
def ul:Iq "kid_counts" 1 2 Y9:=cE5 Z.u16 QaF 2 s (Qz QqO (zK eP) (Qz jh Ñ ń)) 3 s (Qz Yo Ñ ń) (f7 (ik tN ϱ Qq (OK (X5 ś Jq (Z1 (Fz Qq))) (zK (sQ (dL ji ń) Qq)))) (Vp (χ nP ϱ Qq) (OK ś (zK Fu)) ś))
def uh:Iq "fork_fills" 2 3 Y8:=EW Z.u17 QaD (Ā (Wx 3 s) (Qx 4 s Qq) (aA9 (wm rfl (Xw (ca4 (ul Z) (Qd bT9 l9))) (XM 5 s) (Ř 6 s (OK bn or) (Sn 7 s (caps:=[]) (idx:=[]) bx0 rfl (Xw (aB0 Ñ bn (Z1 Fn))) FK (Ŝ P9)) (aA9 (Ww 3 (mS (og aj8) (sQ (bV4 xV (ă (bu4 aj8 Qq))) (Qnm Z.z4 Z.z3 rfl (sQ (OK ń bn) (OK ń Fn)))))) (Qx 4 s Fn)))) (Wv 3 (Qt ϱ))))
def ur:Iq "leaf_fills" 1 2 jG:=EW Z.u18 QaI (Ā (ig (J5 (Fo Ñ)) (zK (ă (mS ZG (sQ (Zo Qi) (Zo Qi)))))) (Wx 2 s) (aA9 (aa7 rfl (QiA rfl Z.z3 (Qd Qq (Qd bT9 eP))) (XM 3 s) (iN 4 s (WD Ñ (Z1 ϱ) (Z1 (OK ϱ ń))) 5 s (bV4 xV (ă (Cl [] idx [] bx0 rfl (Xw bn) FK (Ŝ P9)))) (Qn (Ww 2 (mS (og or) (LS 5 (bV4 xV (ă (Cl [] idx [] bx0 rfl (Xw bn) FK (Ŝ P9)))))))))) (Wv 2 (Qt ś))))
def uv:Iq "packed" 4 2 qD:=cE5 Z.u19 Qjw 2 s Qq 3 s (OA (ur Z) 0 eP) (bD4 4 s (OA (uu Z) 2 (LS 3 Qq)) (aY5 ŀ (χ nP (pv Fu) Qq) (Ā (Kz 2 s Qq) (Qx 3 s (OA (uh Z) 3 (sQ (Qz ji cM6 (pv Fu)) (bS9 ń)))) (Qn (Zv (oA jg bn (ă (OA (uu Z) 2 (LS 3 cM6)))))))) (OA (Qco Z) 4 eP))
def xm:My P w K è cz4 1 1 JO:=dj2 Z.u20 gP (Nb (bn7 ζ (š Z.k6) di5) (vU (cz8 bP7 Z.z5 (ă (Cl [] idx [] bx0 rfl (Xw bp8) FK (Ŝ (bn7 uT Ñ ZG)))))))
def Ve:My P w K Ğ ai2 5 1 JI:=ct0 Z.u21 V5 (cj6 (bf4 (av2 (bc8 (xm Z) ay4)) YH) Z.k9 (ca4 (uv Z) (sQ (ca4 (Yh Z) cl5) (bc8 (qI Z) (š Z.k9)))) (f7 (bc5 (jb Z) ay4 cl5) (bc8 (YZ Z) (š Z.k9))))
def uo:Iq "kid_faults" 1 4 qd:=cE5 Z.u22 QaG 4 s (fm ń Z.g0) 5 s (OK (Zo l9) (de5 ń)) (bD4 6 s ah2 (aa7 rfl (qr rfl Z.z3 (ă cM6)) (XM 7 s) (aA9 (Qx 8 s (ϣ bn aj8)) (bW5 (Gi (χ wM aj8 (pv bp2)) (Gi (QV (U_ aD8) (Qa 8) ϱ Ù) (VS (χ hH (bE0 ϱ 8) (ϣ or aj8))))) (aZ3 Fn (bu8 0 (ę 7)))))) Fn)
def KI:Iq "wanted_parts" 1 1 qE:=bq9 Z.u23 ve (Vp (χ ζ (bT1 Ñ) Qq) (pv (ă (de5 Ñ))) (bS9 (pv (ă (de5 Ñ)))))
def uj:Iq "is_ordered" 1 2 jE:=cE5 Z.u24 QaE 2 s (de5 Ñ) 3 s (de6 Ñ) (Qf (ig (av2 (cz8 bP7 Z.z5 (ă (Cl [] idx [] bx0 rfl (vZ (BU ŕ (i3 Z.z2) ś (bu4 ś Qq))) FK (Ŝ (bn7 xH P9 P9)))))) Yn) (as3 (aN8 (x9 (χ sI ń ZG) (jT (av2 (cz8 bP7 Z.z5 (ă (Cl [bc4] idx [1] (bw8 (i3 ak0) (i3 (bL9 rfl ĭ TL (λ h=>de8 h)))) rfl (vZ (Ky ś)) FK (Ŝ (bn7 oX ń Ñ)))))))) Yn) (aN8 (x9 (χ sI ϱ ZG) (jT (av2 (cz8 bP7 Z.z5 (ă (Cl ["high"] idx [3] (bw8 (i3 ak0) (i3 (bL9 rfl ĭ TL (λ h=>de8 h)))) rfl (vZ (Ky ś)) FK (Ŝ (bn7 xH Ñ ń)))))))) Yn) (Mh (bn7 uT ń ZG) (Mh (bn7 uT ϱ ZG) (vU (bn7 xH ń ϱ))))))
def G7:Iq "page_faults" 2 5 XG:=EW Z.u25 g9 (Ř 5 s ah2 (bf5 hH (bT1 ń) ś (aZ3 or cO9)) (Ā (bf4 (av2 (OA (uj Z) 1 Fu)) (aZ3 or cO9)) (bf5 hH (pv (ă (fm ń Z.g0))) (ca4 (KI Z) eP) (aZ3 or cO9)) (f7 (bW5 (Gi (χ hH (bn7 uT (de6 ń) ZG) (bn7 uT (fm ń Z.g1) ZG)) (VS (χ hH (fm ń Z.g1) bn))) (aZ3 or cO9)) or)))
def Vq:Iq "begins_of" 1 2 qY:=cE5 Z.u26 QcX 2 s Ut 3 s ZG (f7 (wm rfl (Xw ń) (XM 4 s) (aA9 (VR ϱ (VQ aD8 ś bn)) (Qx 3 s (de6 (ϣ Ñ bn))))) ś)
def G4:Iq "list_faults" 3 4 zG:=cE5 Z.u27 gZ 4 s (OA (Vq Z) 0 eP) 5 s (OA (Vq Z) 0 Fu) (bD4 6 s ah2 (aa7 rfl (qr rfl Z.z3 (ă (pv eP))) (XM 7 s) (iN 8 s (ϣ ń aj8) 9 s (bE0 Ñ 8) (Ř 10 s (Vp (χ xH (bS9 aj8) (pv eP)) (ϣ ń (bS9 aj8)) ZG) (Zv (oA jg Fn (ă (OA (G7 Z) 8 (Í 9 (Í 2 (Qd (bE0 bn 8) (ę 10)))))))) (Qn (bf5 nP ś Qq (Zv (oA jg Fn (ă (OA (uo Z) 8 (Í 9 (Qd (bE0 bn 8) bp2))))))))))) Fn)
def QfR:Iq "faults" 4 1 vB:=cE5 Z.u28 Qju 1 s (bc8 (zn Z) Ñ) 2 s (OA (xp Z) 1 (bc9 (qJ Z) Ñ)) (bD4 3 s ah2 (aa7 rfl (qr rfl Z.z3 (ă (pv l9))) (XM 4 s) (iN 5 s (Qz ji (dL ji (pv l9)) bn) 6 s (Vp (χ nP or Qq) (ϣ ś (bS9 bn)) (zK Qi)) (Qn (Zv (oA jg ϱ (ă (OA (G4 Z) 1 (Qd (ϣ ś bn) (Í 5 (ę 6)))))))))) ϱ)
def Qck:Iq "is_sound" 5 1 Ys:=bq9 Z.u29 Qey (bn7 ζ (ca4 (QfR Z) C1) (zK Qi))
def G8:Iq "shown_pairs" 1 1 zH:=EW Z.u30 ki (f7 (ig (J5 (Fo Ñ)) Q4) (LW uJ Q4 (ă (Cl [] idx [] bx0 rfl (Fj Ñ) FK (Ŝ (Qz KZ (Qz KZ cP0 Q4) cP0))))))
def KH:Iq "shown" 2 1 Jy:=EW Z.u31 Ql8 (as3 (ik uT Ñ ZG Q4) (ig (Xd (Qnj Z.z7 Z.z1 Z.z4 Ñ)) (ca4 (G8 Z) C1)) (AG X4 C1))
def G0:My P w K å eA 1 1 XF:=ct0 Z.u32 gM (as3 (ig (av2 dc6) ZG) (ik ζ bT8 Q4 (JC WC Z.z1 boot_list (kd Z.k13))) dc7)
def XW:My P w K è FF 2 1 Zw:=dj2 Z.u33 U9 (Cl [] idx [] bx0 rfl (Xw (š Z.HS)) FK (Ŝ (mS P9 (bc9 (G0 Z) P9))))
def VX:My P w K Ğ ar3 3 2 JV:=ct0 Z.u34 U5 (f7 (bf5 wM ń (š Z.HN) YH) (bP6 (Ni aD8) (JC (Qna rfl) Z.z8 boot_dict (bc9 (XW Z) ay4)) eP))
def Uy:p8 P w K mg O8 å 1 3 J9:=hI Z.u35 K8 (Õ a (cH9 Z.mq ń Z.k12 ś (cH9 Z.lA bT7 Z.rM Qq (cH9 Z.oH ZG Z.HJ Ut (cH9 Z.tZ ZG Z.k11 ZG (aA9 (l3 Z.k13 ah2) ca7))))))
def yk:My P w K è bB0 3 2 J2:=ct0 Z.u36 Vk (Ř 2 s (š Z.k6) (VR (Zo (LS 2 (ze (Uy Z) a Â Qy (sQ (š Z.k1) (ϣ (š Z.k7) ś))))) (VQ aD8 bp8 ń)) (f7 (yK Z.k6 Ñ Qq) (bu8 1 l9)))
def Qaj:My P w K å "over" 1 1 YL:=dj2 Z.u37 QcV dc6
def Vh:My P w K å bh0 1 3 Yd:=ct0 Z.u38 V8 (iN 3 s bT8 4 s bT8 (Qf (Sn 5 s (caps:=["low", "high"]) (idx:=[3,4]) (bw8 (i3 (ā ak0)) (i3 ⟨rfl,ĭ,TL,(λ h=>de8 h),bL9 rfl ĭ TL (λ h=>de8 h)⟩)) rfl (vZ (BU ŕ (i3 Z.z2) (de5 ś) (fm ś Z.g0))) (Ŝ (NQ (x8 oX xH ń P9 ś))) (Ŝ Ñ)) (Ā (Zv (oA jg (š Z.k13) bp2)) (Zc (DW.pt (Gi (χ uT (de6 ś) ZG) (VS (χ wM (de6 ś) bn)))) (f7 ca7 (bu8 1 (Qd (bV4 xV bp2) (sQ ZG ZG)))) QF) (as3 (l3 Z.lA (de6 ś)) (l3 Z.oH (fm ś Z.g1)) (bu8 1 (Qd (bV4 xV bp2) (Qd ck3 aw7)))))))
def UB:Iq "refilled" 1 3 jH:=bq9 Z.u39 QeE (mS (aW9 Z.g2) (Í 1 (Í 2 (sQ dh8 (aW9 Z.g1)))))
def JU:Iq "count_not_above" 1 2 Jc:=bq9 Z.u40 Ua (pv (ă (Cl [Na] idx [1] (bw8 (i3 ak0) (i3 (bL9 rfl ĭ TL (λ h=>de8 h)))) rfl (vZ (Ky Ñ)) (Ŝ (NQ (χ oX Ñ ń))) (Ŝ Ñ))))
def xo:Iq "count_below" 1 2 YD:=bq9 Z.u41 gW (pv (ă (Cl [Na] idx [1] (bw8 (i3 ak0) (i3 (bL9 rfl ĭ TL (λ h=>de8 h)))) rfl (vZ (Ky Ñ)) (Ŝ (NQ (χ xH Ñ ń))) (Ŝ Ñ))))
def UD:Iq "with_run" 2 4 jJ:=cE5 Z.u42 QeJ 4 s aX0 5 s aX9 (iN 6 s (OA (xo Z) 4 eP) 7 s (OA (JU Z) 4 eP) (ó (OA (UB Z) 0 (sQ (OK (OK (X5 bn Jq (Z1 Fn)) ś) (bu4 bn aj8)) (OK (OK (X5 or Jq (Z1 Fn)) ϱ) (bu4 or aj8))))))
def Qd2:Iq "without" 3 2 Kl:=bq9 Z.u43 Qgv (OA (UD Z) 0 (Í 1 (sQ (Zo Qi) (Zo Qi))))
def jV:Iq "worth_of" 2 2 XT:=cE5 Z.u44 QeK 2 s aX0 3 s (OA (xo Z) 2 eP) (f7 (ik tN ϱ (OA (JU Z) 2 eP) ZG) (JJ aX9 ϱ))
def KE:My P w K å cy3 4 3 qB:=ct0 Z.u45 vb (Ā (l3 Z.k11 (OA (jV Z) 2 aw7)) (bf5 sI dc7 ZG (bc5 (XN Z) ac3 (LS 1 (OA (Qd2 Z) 2 aw7)))) (f7 ca7 (bu8 1 (kd Z.k11))))
def QfS:Iq "parted" 1 2 Ue:=cE5 Z.u46 Qjx 2 s (aW9 Z.g2) 3 s aX0 (iN 4 s aX9 5 s (de0 (ώ sU Fu)) (iN 6 s (JJ ϱ or) 7 s (Vp (χ tN ś Qq) or (bS9 or)) (iN 8 s (Zo (Í 2 (Qd (X5 ϱ Jq (Z1 or)) (Qd (X5 bn Jq (Z1 aj8)) (Í 6 eP))))) 9 s (Zo (Í 2 (Qd (bu4 ϱ aj8) (Qd (bu4 bn aj8) (sQ dh8 (aW9 Z.g1)))))) (ó (Zo (Í 8 (Í 9 (ę 6))))))))
def Qd0:Iq "is_full" 1 2 qo:=bq9 Z.u47 Qgs (bn7 nP (ώ sU (ă aX0)) ń)
def xj:My P w K å ch0 3 3 YC:=ct0 Z.u48 gO (Qf (Zc (av2 (OA (Qd0 Z) 2 (bc9 (qI Z) ac3))) (as3 (bc5 (XN Z) ac3 (Í 1 l9)) ca7 ZG) QF) (Ř 3 s (OA (QfS Z) 2 (bc9 (YZ Z) ac3)) (l3 Z.tZ (Nf (zM Z) ac3 (og ϱ))) (cj6 (bc5 (XN Z) ac3 (LS 1 (og ϱ))) Z.lA (og ϱ) (as3 (l3 Z.rM (bS9 cQ1)) (l3 Z.oH (bP6 (Ni aD8) (š Z.HJ) (kd Z.rM))) (š Z.tZ)))))
def Qaq:Iq "with_pair" 3 3 xP:=bq9 Z.u49 Qc3 (OA (UD Z) 0 (Í 1 (sQ (Zo eP) (Zo l9))))
def Uz:My P w K å bZ0 4 3 YW:=ct0 Z.u50 K9 (as3 (l3 Z.k11 (OA (jV Z) 2 aw7)) (Qx 3 s (df7 (xj Z) (LS 1 (OA (Qaq Z) 2 (sQ (š Z.lA) bT8))))) (bu8 1 (Qd dc7 Fu)))
def Vg:My P w K å bg9 3 3 Yc:=ct0 Z.u51 V7 (as3 (l3 Z.k11 (OA (jV Z) 2 aw7)) ca7 (bu8 1 (kd Z.k11)))
def KF:My P w K å cy2 5 3 qC:=ct0 Z.u52 vc (Ř 3 s bT8 (ik ζ ϱ Q4 (df7 (Vg Z) (Í 1 l9))) (as3 (ik ζ ϱ Q4 (df7 (Uz Z) (Í 1 l9))) (ik ζ ϱ Q4 (df7 (KE Z) (Í 1 l9))) (df7 (Vh Z) (Í 1 l9))))
def Qcq:Iq "with_kid" 2 3 jI:=EW Z.u53 QeI (Qf (Qx 3 s aX0) (iN 4 s aX9 5 s (OA (JU Z) 3 eP) (f7 (Qx 6 s (bS9 or)) (OA (UB Z) 0 (sQ (OK (OK (X5 ϱ Jq (Z1 or)) (Zo eP)) (bu4 ϱ or)) (OK (OK (X5 bn Jq (Z1 Fn)) (Zo l9)) (bu4 bn Fn)))))))
def VZ:My P w K å bA2 4 3 Yr:=ct0 Z.u54 U8 (f7 (Qx 3 s (df7 (xj Z) (LS 1 (OA (Qcq Z) 2 (Qd (š Z.lA) (kd Z.tZ)))))) (bu8 1 Fu))
def yi:My P w K å bA1 1 4 Xu:=ct0 Z.u55 QaC (f7 (l3 Z.oH ϱ) (Zo (Í 1 (Í 2 Fu))))
def Qd1:Iq "kid_for" 2 2 zV:=bq9 Z.u56 Qgt (JJ aX9 (ca4 (JU Z) (Qd aX0 eP)))
def QfQ:Iq "beyond" 1 2 zU:=EW Z.u57 Qjt (f7 (Qx 2 s dh8) (Nb (bn7 sI ś ZG) (vU (bn7 wM ń ś))))
def yh:My P w K á bh2 2 3 J1:=ct0 Z.u58 Vi (Ā (bc5 (Jz Z) Ñ l9) (Qx 3 s (bS9 (bT1 (ϣ ck1 ck2)))) (f7 (l3 Z.k3 (Nf (zM Z) Ñ (Zo (Í 3 (Qd (Zo eP) (Qd (mS ck2 l9) (sQ ZG ZG))))))) ck2))
def zN:My P w K å Ty 3 2 Jx:=ct0 Z.u59 jv (f7 ca7 (aW6 (LS 1 (EZ (yh Z) ac3 (Qd (š Z.lA) (kd Z.tZ))))))
def ue:My P w K á aA3 2 2 Yb:=ct0 Z.u60 Qaz (as3 (bc5 (Jz Z) Ñ eP) (yK Z.k5 Ñ Qq) (ϣ ck1 ń))
def Qak:My P w K å cy4 6 1 qX:=ct0 Z.u61 QcW (Ā (ig (Xd dc6) ZG) (Qx 1 s (Vp (χ uT ck3 ZG) (bc8 (qJ Z) ac3) ck3)) (Ř 2 s (EZ (ue Z) ac3 eP) (aN8 (x9 (χ uT ck3 ZG) (jT (χ xH cQ1 (š Z.rM)))) (df7 (zN Z) eP)) (Ā (ig (Xd (OA (QfQ Z) 2 aw7)) (df7 (yi Z) (Qd Q4 (LS 1 (fm ś Z.g1))))) (Zc (χ nP cQ1 (š Z.rM)) (f7 (VR ń (VQ aD8 (š Z.HJ) cQ1)) (df7 (yi Z) (Qd Q4 (LS 1 (OA (Qd1 Z) 2 aw7))))) QF) (f7 (ik nP (š Z.rM) Qq (df7 (VZ Z) (Í 1 l9))) (df7 (KF Z) (Í 1 l9))))))
def yj:My P w K è bA9 7 2 XS:=ct0 Z.u62 Vj (iN 2 s (ϣ bp8 ń) 3 s bT7 (bD4 4 s (bc8 (Qak Z) ϱ) (Zc (Xd (bc8 (Qaj Z) ϱ)) (aA9 (VR ZG (VQ aD8 bp8 ń)) (aZ2 (š Z.HS) l9)) QF) (OK (mS (og bn) (LS 1 bT7)) (bu4 bn Qq))))
def Y0:My P w K è oS 8 2 ZZ:=ct0 Z.u63 gR (Ā (bf4 (J5 (x8 oX xH Qq ń (bE3 Z.k8))) YH) (ik sI (ϣ bp8 ń) ZG (df7 (yj Z) eP)) (f7 (ik xH (š Z.k6) di5 (df7 (yk Z) eP)) (aW6 eP)))
def Xk:My P w K è Ϡ 9 1 ZE:=ct0 Z.u64 Ga (iN 1 s ah2 2 s Qq (f7 (aY5 ŀ (av2 (bc8 (xm Z) Ñ)) (aA9 (aZ3 ń (df7 (Y0 Z) l9)) (Qx 2 s (Qz Yo (bS9 ś) (bE3 Z.k8))))) ń))
def QdZ:Iq "is_deed" 1 1 yH:=bq9 Z.u65 Qgr (QpV Z.d0 (JJ Ñ Qq))
def XX:My P w K è ae2 1 2 ZI:=ct0 Z.u66 Ka (f7 (aZ2 (š Z.k7) eP) (dL ji di5))
def VY:My P w K Ğ bB1 2 2 Yq:=ct0 Z.u67 U6 (bD4 2 s (EZ (XX Z) ay4 eP) (l3 Z.HN (bS9 ś)) ś)
def xq:Iq "read_number" 1 2 YF:=EW Z.u68 kc (Ř 2 s (Vp (Xd (fY SF PySem.F.slot_str_startswith PySem.F.type_str_startswith Ñ (ă Q4))) (QpW Ñ (Z1 Qq) Jq) Ñ) (bW5 (Gi (J5 (x8 xH oX Qq (ώ QpP l9) ń)) (VS (av2 (cz8 bP7 Z.z5 (ă (Us (caps:=[]) (idx:=[]) bx0 rfl (QpZ ś) FK (Ŝ (JG QsH Ñ Q4 Ù)))))))) YH) (f7 (bW5 (x9 (Xd (fY SF PySem.F.slot_str_startswith PySem.F.type_str_startswith ś (ă Q4))) (jT (χ (QtF a.units) Ñ Q4))) YH) (JC QpL Z.z9 boot_int C1)))
def uw:Iq "read_short" 2 1 qf:=EW Z.u69 QaJ (bD4 1 s (OA (xq Z) 0 (ă Qq)) (bf5 xH ń Qq YH) ń)
def Qcm:Iq "read_key" 2 1 Yv:=EW Z.u70 QeC (bD4 1 s (OA (xq Z) 0 (ă Qq)) (bf5 nP (Zf Qr1 Z.i_ boot_abs eP) (dL UQ Qq) YH) ń)
def Qap:Iq "read_deed" 3 2 XZ:=EW Z.u71 Qc2 (bD4 2 s (OK (Zo C1) (bV4 OJ (ă (Us (caps:=[]) (idx:=[]) bx0 rfl (BV ń) FK (Ŝ (ca4 (Qcm Z) C1)))))) (bW5 (x9 (χ tN Ñ Q4) (jT (χ wM (JJ ś Qq) (JJ ś Qq)))) YH) ś)
def Qcn:Iq "read_row" 4 1 Zz:=cE5 Z.u72 QeD 1 s (fY QnR PySem.F.slot_str_split PySem.F.type_str_split Ñ (ă Q4)) 2 s (JJ ń Qq) (Ř 3 s (bu4 ń Qq) (ik tN (BB Z.d0 ś) (ώ sU Fu) (OA (Qap Z) 2 Fu)) (aA9 (ik tN (BB Z.d1 ś) (ώ sU Fu) (OK (Zo l9) (bV4 OJ (ă (Us (caps:=[]) (idx:=[]) bx0 rfl (BV ϱ) FK (Ŝ (ca4 (uw Z) C1))))))) YH))
def ZW:My P w K Ğ "say" 10 2 QL:=ct0 Z.u73 Qex (iN 2 s (ca4 (Qcn Z) eP) 3 s bT7 (Ā (ig (Xd (ca4 (QdZ Z) l9)) (bi4 (df7 (VY Z) l9))) (ik ζ ϱ Q4 (LW uJ Q4 (ă (Cl [] idx [] bx0 rfl (Fj (Nf (Y0 Z) ay4 bT7)) FK (Ŝ (ca4 (KH Z) C1)))))) (Ā (ik ζ ϱ Q4 (bi4 (pv (bc9 (Xk Z) ay4)))) (ik ζ ϱ Q4 (ca5 (KH Z) (Nf (VX Z) Ñ bT7))) (as3 (ik ζ ϱ Q4 (ca5 (KH Z) (ca4 (Yh Z) cl5))) (ik ζ ϱ Q4 (Vp (Xd (ca4 (Qck Z) cl5)) Q4 Q4)) (bi4 (bc8 (Ve Z) Ñ))))))
def Yg:Iq "_law_word" 1 1 ZX:=EW Z.u74 QeB (Ā (ik uT Ñ ZG Q4) (ig (Xd (Qni Z.z7 Z.z9 boot_int Â Ñ)) (AG X4 C1)) (f7 (ik ζ bT9 Qq Q4) (LW uJ Q4 (ă (Cl [] idx [] bx0 rfl (Fj Ñ) FK (Ŝ (Qz KZ (Qz KZ cP0 Q4) cP0)))))))
def KG:Iq "_law_answered" 11 5 Ye:=EW Z.u75 vd (bD4 5 s (bP6 (Ni aD8) ϱ (LS 4 Q4)) (wm rfl (Xw (bc8 (XW Z) ń)) (Wz [6,7] s (aP7 ⟨rfl,ch8 ot,ĭ,?_⟩) rfl bM5) (Qn (bf5 ζ (OK ś Fn) bn (Qx 5 s (ca4 (Yg Z) (ę 7)))))) (bn7 ζ (bf8 Ñ (Qz KZ Q4 (AG X4 cL8))) or))
def Qao:Iq "_law_moved" 11 4 q8:=cE5 Z.u76 Qc1 4 s (EZ (Y0 Z) ń Fu) 5 s (Xi (sQ (og bn) (AG X4 Fu))) (as3 (bf5 nP cM6 Qq (aZ3 or (bi4 (OK ś (og bn))))) (wm rfl (Fj (bu4 bn Qq)) (XM 6 s) (Qn (aZ3 or (ca4 (Yg Z) (ę 6))))) (bn7 ζ (bf8 Ñ (Qz KZ Q4 (AG X4 Fu))) (LW uJ Q4 bp2)))
def Qan:Iq "_law_looks" 11 3 qZ:=EW Z.u77 Qc0 (f7 (aN8 (x9 (χ ζ (cD7 ś) Qq) (jT (χ hH cQ9 (ca5 (Yg Z) (ca4 (Yh Z) eP))))) Yn) (Mh (bn7 hH (cD7 ś) Qq) (vU (bn7 ζ cQ9 Q4))))
def UA:Iq "_law_said" 1 1 Yu:=bq9 Z.u78 QeA (LW uJ Q4 (ă (OK (zK (ă (JJ Ñ Qq))) (Us (caps:=[]) (idx:=[]) bx0 rfl (Ky (bu4 Ñ Qq)) FK (Ŝ (AG X4 C1))))))
def ym:Iq "_law_key" 1 1 Yt:=EW Z.u79 Qgu (Ř 1 s de1 (ik tN cR0 Qq (Qz ji (Qz Yo (Qz QqN ń (dL UQ Qq)) (bS9 (Qz LR Qq (dL UQ Qq)))) (dL UQ Qq))) (f7 (ik tN cR0 Qq (JJ (Qnk (Em ⟨dL UQ Qq⟩ (Em ⟨Fz (dL UQ Qq)⟩ (Em ⟨dL ji (dL UQ Qq)⟩ (Em ⟨Qz ji Qq (dL UQ Qq)⟩ Qnf))))) (cD7 ń))) (dL ji (cD7 ń))))
def Qcl:Iq "_law_deed" 2 1 jF:=cE5 Z.u80 Qez 1 s cR0 2 s (ca5 (ym Z) de1) (Ā (ik tN ń Qq (aW6 l9)) (ik xH ń Qq (aW6 (LS 2 (ca5 (ym Z) de1)))) (Ā (ik xH ń Qq (aW6 l9)) (Qx 3 s (ca5 (ym Z) de1)) (as3 (bf5 tN ϱ ś (Qx 3 s (dL ji ś))) (bf5 xH ϱ (Fz (dL UQ Qq)) (Qx 3 s (bS9 ś))) (aW6 (sQ (Zf (Qr4 rfl) Z.z12 boot_min (Í 2 Fu)) (Zf (Qr3 rfl) Z.z11 boot_max (Í 2 Fu)))))))
def XD:p8 P w K mg O8 è 1 3 Zp:=hI Z.u81 V9 (Õ a (cH9 Z.k1 ń Z.k7 ah2 (cH9 Z.k6 Qq Z.k8 (Qz QqP (zK (ă ZG)) ś) (Qn (l3 Z.HS ah2)))))
def uq:Iq "_law_packed" 11 5 Yf:=EW Z.u82 QaH (Ā (ik hH cQ9 (bi4 (pv (bc9 (Xk Z) ń))) ZG) (wm rfl (Xw (bc8 (XW Z) ń)) (Wz [6,7] s (aP7 ⟨rfl,ch8 ot,ĭ,?_⟩) rfl bM5) (Qn (VR (ca4 (Yg Z) (ę 7)) (VQ aD8 bn (OK ϱ Fn))))) (bD4 5 s (ca4 (uv Z) (sQ (ca4 (Yh Z) l9) (bc8 (qI Z) ś))) (ik hH cQ9 (bi4 (bc8 (YZ Z) or)) ZG) or))
def Qam:Iq "_law_ahead" 1 1 xN:=EW Z.u83 QcZ (f7 (Qx 1 s (JJ (zK (Qd Qq (Qd Qq (Qd Qq (sQ Qq Qq))))) (cD7 de1))) (Us (caps:=[cy4]) (idx:=[1]) (bw8 (i3 ak0) (i3 (bL9 rfl ĭ TL (λ h=>de8 h)))) rfl (qr rfl Z.z3 (ă cR0)) FK (Ŝ (aW6 (sQ (dL ji (cD7 (Qz LR Ñ ń))) (OK Qq Ñ))))))
def Ux:p8 P w K mg O8 Ğ 3 3 J8:=hI Z.u84 K6 (Õ a (cH9 Z.k9 (ze (XV Z) a Â Qy eP) Z.k10 (ze (XD Z) a Â Qy (Qd (š Z.k9) l9)) (Qn (l3 Z.HN Qq))))
def G3:Iq "_law_cell_at" 1 2 YE:=EW Z.u85 gX (f7 (ik xH ń (ώ sU C1) (JJ Ñ ń)) Qq)
def law_fn{g:Addr}{fd:FuncData}(F:Fun K cZ3 cZ3 GF g fd):xQ P w K mg O8 CX0 12 g fd [ai3] (lC K 1 z_):=Qso F lM λ_ _ _ _ _ _ a=>have s:=lM.nd;iN 1 s (OA (G3 Z) 0 (ă Qq)) 2 s (OK Qq (cD7 ń)) (iN 3 s (OK Qq (cD7 (de0 ń))) 4 s (ze (Ux Z) a Â Qy (Í 3 l9)) (iN 5 s (ze (XV Z) a Â Qy Fu) 6 s (ze (XD Z) a Â Qy (Í 5 l9)) (Ř 7 s Qq (wm rfl (Xw (ca5 (Qam Z) (de0 ń))) (XM 8 s) (Ā (bc5 (XX Z) Fn (ę 8)) (ik hH (bf8 bn (ca4 (UA Z) (ę 8))) (AG X4 (ę 7)) Yn) (Qn (Kz 7 s Qq)))) (Ā (ik hH co4 (bi4 (pv (bc9 (Xk Z) Fn))) Yn) (Qx 9 s Qq) (Ř 10 s Ut (aa7 rfl (qr rfl Z.z3 (ă bT9)) (XM 11 s) (Ā (Zc (χ ζ (cD7 (de0 (bE0 Ñ 11))) Qq) (Ř 5 s (OA (uq Z) 4 (Í 6 (Í 5 (Í 9 (ę 10))))) (ik uT or ZG Yn) (aA9 (Qx 6 s (ze (XD Z) a Â Qy (Í 5 l9))) (Qx 9 s aj8))) QF) (Zc (χ xH (Qa 11) Qq) (Ř 8 s (ca5 (Qcl Z) (bE0 Ñ 11)) (bc5 (XX Z) Fn (ę 8)) (aA9 (ik hH (bf8 bn (ca4 (UA Z) (ę 8))) (AG X4 (ę 7)) Yn) (Kz 7 s Qq))) QF) (aA9 (aN8 (Gi (av2 (OA (Qao Z) 4 (Í 6 (LS 9 (Qz Yo (de0 (bE0 Ñ 11)) ś))))) (VS (av2 (OA (Qan Z) 4 (LS 5 (de0 (bE0 Ñ 11))))))) Yn) (ig (av2 (OA (KG Z) 4 (Í 6 (Í 9 (LS 10 (Qz Yo (de0 (bE0 Ñ 11)) aj8)))))) Yn)))) (f7 (aN8 (Gi (χ hH co4 (bi4 (pv (bc9 (Xk Z) Fn)))) (VS (χ hH co4 Q4))) Yn) (Nb (bn7 ζ co4 (ca5 (Yg Z) (ca4 (Yh Z) bp2))) (vU (bn7 ζ co4 Q4)))))))))
#where
def vQ{g g':Rt}{fa d c:aG}{b a:Bool}(ha:cb6>=(x,hp))(e:d env hp>=(y,hp))(i:aS3>=(z,hp))(h1:g x y=fz b)(h2:g' y z=fz a):JQ g g' fa d c env hp>=(Ζ (b&&a),hp):=by
  unfold JQ;rw[cf8,Qe e,h1,C6];show((π b _ _:ġ)) hp=_;cases b with
  |false=>rfl
  |true=>show(c env >>= λ w=>g' y w) hp=_;rw[Qe i,h2];cases a<;>rfl
def N_{e f g:aG}{w w1:Hs}{a i:Nat}{ds:Û}(c:aT1 w>=(d,w1))(hf:ο w1>=(ν,w1))(ha:eH w1 a ds)(o:NE w1>=(Ć i,w1))(hl:i<ã):xa e (eZ f g) env w>=(m4,bZ2 a (Ð (cX4 i))):=by
 refine MV c ?_;unfold eZ;rw[bb3,Qe o];have:rZ ş cM8 d w1>=((),bZ2 a (Ð (cX4 i))):=by show(ZK a >>= _) w1=_;rw[Φ ha];show(dH cM8 >>= λ k=>match ixN ã k with|some j=>Ub a (Ð (cX4 j))|none=>failure) w1=_;rw[Qe (rfl:dH cM8 w1>=(LT,w1)),QnK hl];rfl
 rw[EF];rfl
def NK{c f:Str}{o e:aG}{hp:Hs}{a:Nat}{fs:AX}{x y:Int}(i:cY6>=(ν,hp))(h:PK a>=be4)(hf:cl6>=↥x)(d:aT2>=(Ì y,hp))(hl:aJ8<fE):Gy c f xF o e env hp>=(m4,ϙ a (dc9 c f ↥(x+y) fs)):=by
 unfold Gy;have e1:sG c f ş hp>=(Ì x,hp):=bE sG (UN h) hf
 have e2:rW c f ş ↥(x+y) hp>=((),ϙ a (dc9 c f ↥(x+y) fs)):=bE rW (UN h) ce9
 rw[Qe i,IE,Qe d,Qe (rfl:xF ↥x ↥y hp>=(Ì (x+y),hp)),cf9];rfl
def TJ{e:aG}{fa:cB}{v:DV}(h:aT2>=(v,hp1))(h':aY4 hp1>=(ds,hp2)):Qc e fa env hp>=(v::ds,hp2):=bE Qc ag4 (Qe h')
def aV(r:Int)(k:Nat)(t a b:Int):AX:=[(PD, Ì r),az2 "kept" k,(bn6, Ì t),(TB, Ì a),(FE, Ì b)]
def Qme(r:Int)(k:Nat)(t a b:Int):ι PD (aV r k t a b)>=(f4 r):=ŕ
def YU(r:Int)(k:Nat)(t a b:Int):ι "kept" (aV r k t a b)>=(NG k):=ŕ
def Oj(r:Int)(k:Nat)(t a b:Int):ι bn6 (aV r k t a b)>=(f4 t):=ŕ
def Qs3(r:Int)(k:Nat)(t a b:Int):ι FE (aV r k t a b)>=(f4 b):=ŕ
def Qs2(r:Int)(k:Nat)(t a b:Int):ι TB (aV r k t a b)>=(f4 a):=ŕ
def Qmd(r:Int)(k:Nat)(t a b c:Int):Xs (Ĭ FE) ↥c (aV r k t a b)=aV r k t a c:=ŕ
def Re(r:Int)(k:Nat)(t a b c:Int):Xs (Ĭ TB) ↥c (aV r k t a b)=aV r k t c b:=ŕ
def Rc(r:Int)(k:Nat)(t a b c:Int):Xs (Ĭ bn6) ↥c (aV r k t a b)=aV r k c a b:=ŕ
def yW(r:Int)(k:Nat)(t a b:Int):eE IP (aV r k t a b):=ŕ
def Gb(r:Int)(k:Nat)(t a b:Int):eE "lay" (aV r k t a b):=ŕ
def Qgz(r:Int)(k:Nat)(t a b:Int):eE aA3 (aV r k t a b):=ŕ
def zE(r:Int)(k:Nat)(t a b:Int):eE bA7 (aV r k t a b):=ŕ
def Uc(r:Int)(k:Nat)(t a b:Int):eE aA8 (aV r k t a b):=ŕ
def Qgy(r:Int)(k:Nat)(t a b:Int):eE bA8 (aV r k t a b):=ŕ
def QeN(r:Int)(k:Nat)(t a b:Int):eE bh2 (aV r k t a b):=ŕ
def Rl(r:Int)(k:Nat)(t a b:Int):eE tK (aV r k t a b):=ŕ
def yB(r:Int)(k:Nat)(t a b:Int):eE mG (aV r k t a b):=ŕ
section
variable{r t a b:Int}{n k:Nat}{ps:Û}{hp:Hs}
def uW(h1:cO1 r k t a b)(h2:kw k ps):JN [O0] hp>=(Ì a0,hp):=aH1 [bK0] (JA (Ι h1 aU0) h2)
def N7(h1:cO1 r k t a b):Jp [O0] hp>=(Ì t,hp):=aH1 [bK0] (Ι h1 (Oj ..))
def MW(h1:cO1 r k t a b):Jo [O0] hp>=(Ì r,hp):=aH1 [bK0] (Ι h1 (Qme ..))
def Uq{i:Int}(h1:cO1 r k t a b)(h2:kw k ps)(c:0<=i)(d:i<a0):
  Z8 [O0,dz] hp>=(Ę,hp) :=
 aM7 [bK0,nt] (Q8 (bu3 b (à (vQ rfl Á (JA (Ι h1 aU0) h2) rfl rfl) (Ũ (C0 c) (C0 d)))))
def BE{E:En}(c:E[0]?>=(bI n))(h1:cO1 r k t a b):Gy á FE xF Ä bS E hp>=(Ŭ E,aH5 n r k t a (b+1)):=Ī (NK (ak c) h1 (Qs3 ..) rfl (ec ((5:Nat)<fE))) Qmd
def QoC{i:Nat}(h1:cO1 r k t a b)(h2:kw k ps)(c:n≠k)(hd:Ϥ ps d):
  Yb [O0,dz] hp>=(d,aH5 n r k t (a+1) b):=by
 have e:i<a0:=aM6;have g:aH5 n r k t (a+1) b=ϙ n (dc9 á TB ↥(a+1) (aV r k t a b)):=fN Re
 rw[g];refine bD0 [bK0,nt] (ZH (FA h1 (yW ..) Ÿ (Uq (i:=LT) h1 h2 À À))) (NK Á h1 (Qs2 ..) rfl (ec ((5:Nat)<fE))) (Qv (Qk (Ι (JZ _ _ _ (ÿ h1)) (à (OP _ (Re ..)) aU0)) Á (yQ (bC8 _ _ _ _ c h2) hd)))
def QcH{i:Nat}(h1:cO1 r k t a b)(h2:kw k ps)(c:i<a0):
  Ya [O0,dz] hp>=(Ę,aH5 n r k i a b) :=
 aM7 [bK0,nt] (Qo (ZH (FA h1 (yW ..) Ÿ (Uq (i:=LT) h1 h2 À À))) (aG9 (Z2 Á Á h1 (ec ((5:Nat)<fE))) Rc))
def Ki{i:Nat}{d:DV}(h1:cO1 r k t a b)(h2:kw k ps)(c:n≠k)(e:i<a0):
  Xe [O0,dz,d] hp>=(Ę,Y2 (aH5 n r k t a (b+1)) k (Ð (ps.set i d))) :=
 aM7 [bK0,nt,! d] (ϯ (ZH (FA h1 (yW ..) Ÿ (Uq (i:=LT) h1 h2 À À))) (BE rfl h1) (N_ Á (Ι (JZ _ _ _ (ÿ h1)) aU0) (bC8 _ _ _ _ c h2) Á e))
def M5{pg:DV}(h1:cO1 r k t a b)(h2:kw k ps)(c:n≠k)(hl:a0<99999):
  Xo [O0,pg] hp>=(Ì a0,Y2 (aH5 n r k t a (b+1)) k (Fs ps [pg])):=by
 have g1:=bC8 hp n k (ga r k t a (b+1)) c h2;have g2:cO0 (aH5 n r k t a (b+1))[n]? r k t a (b+1):=JZ _ _ _ (ÿ h1);refine bD0 [bK0,! pg] (BE rfl h1) (ZH (X0 (Ι g2 aU0) g1 Á À)) (Qv (ĩ (JA (Ι (bC8 _ _ _ _ c.symm g2) aU0) (JZ _ _ _ (ÿ g1))) ?_));show í (f4 (aB5 (ps++[pg])-1),_)=_;rw[Am];simp
#where
def Qgl{c:Int}{n i:Nat}{d:DV}(h:Ϥ (Yi c n) d):i<n/\d=Ì (LT * c):=by
 have hi:i<n:=pV (Zx h) Yi
 unfold Yi at h;rw[jm hi]at h;exact İ hi (bv3 h)
def QoB{n m:Nat}(a:1<=m):c7 (Î (aO7:Nat)) as1=aT6 n m:=by
 unfold c7 TP.qn;have:Î (aO7:Nat)+as1-1=Î (aO7+m-1:Nat):=À
 rw[this,<- Int.natCast_ediv,Bu]
def cQ(w:Hs)(T:DV)(rows:TP.Rw):ç:=T=Ð al6∨∃n,T=O0/\de3 n al6
def cQ.len{w:Hs}{T:DV}{rows:TP.Rw}(h:cQ w T rows){f:aG}(hf:ο w>=(T,w)):aq8 ZD f env w>=(Ć rows.length,w):=by
 rcases h with rfl|⟨n,rfl,hn⟩
 ·rw[j2 hf,YJ]
 ·rw[JA hf hn,YJ]
def cQ.tu{w:Hs}{T:DV}{rows:TP.Rw}(h:cQ w T rows){f:aG}(hf:ο w>=(T,w)):zL f env w>=(i7 rows.isEmpty,w):=by
 have e:ce7 al6=rows.isEmpty:=vk (YJ rows);unfold zL;rw[bb3];rcases h with rfl|⟨n,rfl,hn⟩
 ·show í (i7 (ce7 al6),w)=_;rw[e]
 ·show(LM >>= _) w=_;rw[be7];show í (i7 (ce7 al6),w)=_;rw[e]
def Qp8{x:Int × Int}{w:Hs}:B6 Ä bp (Ó (ì [Ì x.1,Ì x.2])::env) w>=(Ì x.1,w):=cF5 i 0 rfl
def Qrw{x:Int × Int}{w:Hs}:B6 Ä bS (Ó (ì [Ì x.1,Ì x.2])::env) w>=(Ì x.2,w):=cF5 i 1 rfl
def Qka{w:Hs}{f:aG}{c:TP.Rw}(hf:ο w>=(bo7 c,w))(hl:⇑c<ŀ):Z5 false (cR f) [] X9 Q1 env w>=(Ð (c.map λ r=>Ì r.1),w):=by
 rw[yI (m:=Ln) (nw:=false) (qU hf) im (λ x hx=>ab2 p Fm Qp8) (Æ YJ hl),HA];rfl
def Qkb{w:Hs}{f:aG}{c:TP.Rw}(hf:ο w>=(bo7 c,w))(hl:⇑c<ŀ):Z5 false (cR f) [] X9 ao9 env w>=(Ð (c.map λ r=>Ì r.2),w):=by
 rw[yI (m:=QtU) (nw:=false) (qU hf) im (λ x hx=>ab2 p Fm Qrw) (Æ YJ hl),HA];rfl
def Nq{w:Hs}{f:aG}(hf:ο w>=(hV,w)):aq8 Gf f env w>=(ny,w):=g8 hf rfl
def sl3(f:d9 DV):d9 Sl
 |0=>ļ
 |i+1=>Ó (f i)
def Qj5(rows:TP.Rw)(m:Nat)(fork:Bool)(k:Nat):ab8 ⇑(hF m fork k):=cV2 TP.Zm A7 Bk
def QnN{w:Hs}{T:DV}{rows:TP.Rw}{m:Nat}(v:cQ w T rows)(o:1<=m)(I:E8 m)(hl:ad2 fE):jG [T,Ć m] w>=(Ð (CM m false),w):=by
 by_cases h0:rows=[]
 ·subst h0;have q1:aT6 0 m=1:=by
   obtain⟨a,b,c⟩:=TP.Jm (n:=0) o;unfold TP.qn at *;have:(az6 0+m-1) / m<=1:=by refine Nat.le_of_lt_succ ((bI5).mpr À)
   lia
  refine ý [! T,cB7,ļ,ļ,ļ,ļ] (wP (ZR (v.tu Á)) ?_);have:Je [] m false=[ì [Ę,bR6,bR6]]:=by unfold Je;rw[nv (eM ([]:TP.Rw)=0),q1];show[XH [] m false 0]=_;simp[XH,nT,sO,K2,TP.Zm]
  rw[this];rfl
 have P:ab8 1:=by cases rows with|nil=>exact av9 h0|cons _ _=>simp
 have O:az6 rows.length=rows.length:=À
 have ne:ć rows.isEmpty:=by cases rows with|nil=>exact av9 h0|cons _ _=>rfl
 have U:ab8 NO:=by obtain⟨a,b,c⟩:=bn8 n o;have:(NO-1) * 1<=(NO-1) * m:=Δ o;lia
 let q:=NO
 let J:bq6:=λ i=>[! T,cB7,PH (cH4 i m),df1 i (LT * m) i,r6 i (bo7 (Pe m i)) i,r6 i (db7 (Pe m i) r r.1) i]
 have u:xS ap6 w>=(EV q,w):=by
  have z:DG (Qc bp (Qc an6 gg)) ap6 w>=(Yi m q,w):=by unfold DG;rw[Qe (Xb (rfl:eC ↥0 ap6 w>=(cL3,w)) (v.len Á) (Á:Qb 1 ap6 w>=(Ì m,w)))];have e:=QoB (n:=rows.length) o;rw[O]at e;have ok:œ (Hv 0 (Î rows.length) as1):=C0 ⟨rfl,À,À,À,À⟩;show(QI (Hv 0 (Î rows.length) as1) >>= (aL0 (Yi m (c7 rows.length m))):aS6) w=_;rw[ok,e];rfl
  have len:⇑(Yi as1 q)=q:=Ģ Yi
  have j:=MH (b:=aX3 d 3 d (qN env')) J w (Yi as1 q) (λ i d hd=>by
   obtain⟨hi,G⟩:=Qgl hd;subst G;have hi:i<NO:=hi;have cl:=TP.QfD (rows:=rows) o hi;obtain⟨_,c1⟩:=TP.qp (rows:=rows) (fork:=false) o Ê P hi;have c2:=Qj5 rows m false i;obtain⟨y,E,C⟩:∃y E,Pe m i=y::E:=by
    cases e:Pe m i with
    |nil=>rw[e]at c1;simp at c1
    |cons a b=>exact υ a b
   let e3:En:=[! T,cB7,PH (cH4 i m),Ô (LT * m),r6 i (bo7 (Pe m i)) i,r6 i (db7 (Pe m i) r r.1) i]
   let F:En:=[! T,cB7,PH (cH4 i m),Ô (LT * m),sR (aQ (Pe m i)),r6 i (db7 (Pe m i) r r.1) i]
   let e5:En:=[! T,cB7,PH (cH4 i m),Ô (LT * m),sR (aQ (Pe m i)),mT (ax1 (Pe m i) r r.1)]
   show qN e3 w=_;have L:(LT * as1)=Î (i * m:Nat):=Ê
   have x:(LT * as1+as1)=Î (i * m+m:Nat):=Ê
   have Q:oZ Ä (Zh Š) (Zh (lT Š ė)) e3 w>=(bo7 (Pe m i),w):=by rw[QjB (a:=i * m) (b:=i * m+m) (d:=T) (ds:=al6) Á (ð L Á) (ð x (vh Á Á)) À v,QlE,QlF,cl,Nat.add_sub_cancel_left]
   refine bV3 F w Q;refine bV3 e5 w (Nq (Qka Á À));have fd:Z0 (Qc (Pd 5) (Β 5 (Ē Gf xM))) e5 w>=(XH rows m false i,w):=by refine ω (Jj (ds:=[Ì y.1,db7 (Pe m i) r r.1,db7 (Pe m i) r r.2]) (Xb (ae3 i 0 Á (ÿ C)) Á (Nq (Qkb Á À))) Ê);unfold XH nT sO K2;rw[C];rfl
   rw[v_ fd (rfl:e5[2]?=_) (an9 Bm List.length_range)];show í (aE4 _,w)=_;congr 3;show[_,_,Sl.acc (cH4 i m++[XH rows m false i]),_,_,_]=J (i+1);show _=[_,_,Sl.acc (cH4 (i+1) m),_,_,_];rw[List.range_succ,List.map_append];rfl)
  rw[len]at j;exact qw z j
 refine av8 (Y2 (J q) 2 (Ó (Ð (CM m false))));refine Ŀ (Ũ (ZR (v.tu Á)) ne) (ϯ (rfl:wO 2 _ w>=(EV 0,w)) u ?_);exact Qv rfl
def yN(rows:TP.Rw)(m:Nat)(fork:Bool):⇑aC6=NO:=Ģ Je
def jk(rows:TP.Rw)(m:Nat)(fork:Bool)(lv first:Nat):⇑(Xr rows m fork lv first)=NO:=Ģ Xr
def Qek{n i:Nat}{d:DV}(h:Ϥ (ZL 0 n) d):i<n/\d=Ć i:=N8 h
def Qbf(w:Hs)(rows:TP.Rw)(m:Nat)(fork:Bool)(lv first:Nat)(hq:NO<=fE):xO [Ć lv,bo8,Ć first] w>=(TD,w++[Ð (Xr rows m fork lv first)]):=by
 let q:=NO
 let e:=aC6
 let last:d9 Bool:=λ i=>(LT+1==dh3)
 let hi:d9 DV:=λ i=>CY (i+1) q Ę (nT rows m fork (i+1))
 let sd:d9 DV:=λ i=>CY (i+1) q Ę (Ć (first+(i+1):Nat))
 let J:bq6:=λ i=>[Ô lv,sR e,ai5,! Į,r6 i dz i,df1 i (LT+1) i,r6 i bh8 i,sl3 hi i,sl3 sd i]
 let W:de2:=λ i=>w++[Ð (tS i (Gw rows m fork lv first))]
 have z:⇑e=q:=yN rows m fork;have C:∀i,aB1=FY (i+1) q:=λ i=>by
  show(LT+1==dh3)=_;rw[z];by_cases c:i+1=q
  ·rw[C0 c];simp;lia
  ·rw[C5 c];simp;lia
 have o:=Qkz (b:=aX3 d 4 d (V1 env')) J W (ZL 0 q) (λ i d hd=>by
  obtain⟨r,F⟩:=Qek hd;subst F;have y:Ϥ e (XH rows m fork i):=jm r
  let u:Sl:=Ô (LT+1)
  let E:En:=[Ô lv,sR e,ai5,! Į,nt,df1 i (LT+1) i,r6 i bh8 i,sl3 hi i,sl3 sd i]
  let e5:En:=[Ô lv,sR e,ai5,! Į,nt,u,r6 i bh8 i,sl3 hi i,sl3 sd i]
  let v:En:=[Ô lv,sR e,ai5,! Į,nt,u,! bh8,sl3 hi i,sl3 sd i]
  let x:En:=[Ô lv,sR e,ai5,! Į,nt,u,! bh8,!(hi i),sl3 sd i]
  let e8:En:=[Ô lv,sR e,ai5,! Į,nt,u,! bh8,!(hi i),!(sd i)]
  show V1 E al8=_;have c1:(LT+1)=Î (i+1:Nat):=Ê
  refine bV3 e5 al8 (vh Á rfl);refine bV3 v al8 (M9 Á (j2 Á));refine bV3 x al8 ?_
  ·have t:eB i9 v al8>=(aB1,al8):=QS Á;rw[C i]at t;by_cases c:i+1=q
   ·rw[C0 c]at t;rw[Gj t];show _>=(CY (i+1) q DV.non _,_);rw[cS3];rfl
   ·rw[C5 c]at t;rw[v9 t];show _>=(CY (i+1) q DV.non _,_);rw[Cw c];exact cF5 i 0 (Y3 (i:=i+1) (d:=XH rows m fork (i+1)) Á (ð c1 Á) (jm (dm (i+1<q))))
  refine bV3 e8 al8 ?_
  ·have t:eB i9 x al8>=(aB1,al8):=QS Á;rw[C i]at t;by_cases c:i+1=q
   ·rw[C0 c]at t;rw[Gj t];show _>=(CY (i+1) q DV.non _,_);rw[cS3];rfl
   ·rw[C5 c]at t;rw[v9 t];show _>=(CY (i+1) q DV.non _,_);rw[Cw c];exact jL (j:=i+1) Á (ð c1 Á)
  have tp:Z0 (Qc Ä (Qc (dh9 ũ 1) (Qc (dh9 ũ 2) (aC 7 8)))) e8 al8>=(Gw rows m fork lv first i,al8) :=
   Jj (sV Á (cF5 i 1 (Y3 (i:=i) Á Á y)) (cF5 i 2 (Y3 (i:=i) Á Á y)) Á Á) Ø
  rw[ZH (X0 (a:=Ĥ) (ds:=tS i (Gw rows m fork lv first)) (d:=Gw rows m fork lv first i) Á (KD w _ []) tp (by rw[Bm,List.length_range];have:i<NO:=r;lia)),Fy];show í (aE4 e8,w++[ez _])>=(aE4 (J (i+1)),w++[ez (tS (i+1) (Gw rows m fork lv first))]);rw[List.range_succ,List.map_append];rfl)
 rw[Xt]at o;refine av8 (J q);refine Tb ap6 bn1 rfl (TC ?_ rfl);refine qw (ds:=ZL 0 q) (cK9 m q ?_ (dm (NO<=_))) o;rw[j2 (ds:=e) Á,z]
def Qiv{n m:Nat}(I:3<=m)(o:E8 m)(hn:2<=n)(hl:n<=fE):Y9 [Ć n,Ć m]=am4 (tP (TP.wY n m) (λ(k:Nat)=>f4 IS)):=by
 have j:Yy ↥iH aZ1=db8 (n / m:Nat):=Ϝ (JX _ _ À À)
 have u:Xg ↥iH aZ1=db8 (n % m:Nat):=Ϝ (Jw _ _ À)
 have F:n / m<=n:=Nat.div_le_self _ _
 let R:Û:=ö (n / m) aZ1
 have v:Dt (Ð [Ć m]) (rg (n / m:Nat))=am4 R:=bg8 ((cz (0<=Î (n / m:Nat)/\bF4 (n / m:Nat)<=ŀ) >>= (aL0 (DV.lst (ö (bF4 (n / m:Nat)) aZ1))):ġ)=_) (C0 (İ (Int.natCast_nonneg _) (ĸ Bu))) Bu
 let e3:En:=[Ô n,cB7,sR R,ķ (n % m:Nat)]
 have pre:∀r,(Qr (aN (aL3 dU 3 1) (QR (lT (bK ĳ Zy cK2) (YY (Ś (ò qS 1 1) bp3)))) Zg) (QR (cP (aL3 dh 3 0) (lT ĳ bN6) ĳ))) e3=r->Up [Ô n,cB7,ļ,ļ]=r:=λ r h=>by refine F6 d (Ð R) (bo5 x (Ð [Ć m]) y (Ć (n / m:Nat)) (bo5 x bo4 y (Ì m) rfl j) v);exact à (p9 d (Ć (n % m:Nat)) (bo5 x bo4 y (Ì m) rfl u)) h
 have e:Œ a b Û (a<=fE->⇑b<=5->Zq (bC6 a aZ1) (Ð b)=î (Fs (ö a aZ1) b)):=λ a b ha G=>ł (ai9 (ö a (f4 as1)++b) >>= (aL0 (DV.lst _)):ġ) _ (Ju (an9 Am List.length_replicate))
 refine aG1 e3 (pre _ ?_);unfold TP.wY;by_cases c:n % m=1
 ·rw[cS3];refine MT (à (SM (Ey (bo5 x (Ć (n % m:Nat)) y (Ì 1) rfl (aG9 (qi _ _) c)))) (Yj ?_));have q1:1<=n / m:=by
   have i:=bA5 n;rcases at5 (n / m)with z|z
   ·rw[z,Nat.mul_zero]at i;lia
   ·exact z
  have cut:Vd R none (í (-1))=ö (n / m-1) aZ1:=by unfold D.Vd;show(R.drop 0).take (É (Î (-1)<0) (IL (Î (-1)+aB5 R)) (min (bF4 (-1)) ⇑R)-0)=_;rw[Cy Â,List.drop_zero,Nat.sub_zero];have C:⇑R=n / m:=List.length_replicate;rw[C,List.take_replicate];congr 1;lia
  have E:bK ĳ Zy cK2 e3=am4 (ö (n / m-1) aZ1):=by have:bK ĳ Zy cK2 e3=am4 (Vd R none (í (-1))):=rfl;rw[this,cut]
  refine ω (Xx E (y:=Ð [Ì (as1-1),Ì 2]) rfl (e _ _ À Ø));rw[List.map_append,List.map_replicate];congr 3;simp;lia
 ·rw[Cw c];have z:Î (n % m:Nat)≠1:=λ h=>c À;refine à (Jl (aJ1 (SN (Ey (bo5 x (Ć (n % m:Nat)) y (Ì 1) rfl (Ī (qi _ _) (show l8 (Î (n % m:Nat)) 1 by simpa using z))))))) (Yj ?_);have t:eB (ò dh 3 0) e3=î (LU 0 (Î (n % m:Nat))):=Ey rfl;by_cases r:0<n % m
  ·rw[Cy r];rw[aq0]at t;have:cP (aL3 dh 3 0) (lT ĳ bN6) ĳ e3=Qh Zq ĳ bN6 e3:=aP6 cP t C6 cq
   rw[this];refine ω (bo5 x (Ð R) y (Ð [Ć (n % m:Nat)]) rfl (e _ _ À Ø));rw[List.map_append,List.map_replicate];rfl
  ·rw[Cw r];rw[ap0]at t;have:cP (aL3 dh 3 0) (lT ĳ bN6) ĳ e3=Qb 2 e3:=aP6 cP t C6 aE3
   rw[this,List.map_replicate];rfl
def QoX{f g:aG}{w:Hs}{a b:Nat}(hf:ο w>=(Ć a,w))(d:NE w>=(Ć b,w))(c:a<=b)(j:b<=10000):Bl (Ś f g) env w>=(ì (ZL a (b-a)),w):=by
 unfold Bl;rw[Qe (ZS hf d)];have e:Dm [Ć a,Ć b] w>=(ZL a (b-a),w):=by show(QI (zT (Î a)&&zT (Î b)) >>= (aL0 (ZL a (IL (Î b-a)))):aS6) w=_;rw[Gd À,Gd À,Ő (IL (Î b-a)=b-a)];rfl
 rw[Qe e];have i:œ (Yl (ZL (Î a) (b-a))):=Ju (ĸ Xt);rw[Qe (show QI (Yl (ZL (Î a) (b-a))) w>=((),w)by rw[i];rfl)];rfl
def SD{rows:TP.Rw}{m:Nat}{fork:Bool}{k:Nat}(h:1<=⇑(hF m fork k)):nT rows m fork k=Ì (TP.YO rows m fork k):=by
 unfold nT TP.YO;cases e:hF m fork k with
 |nil=>rw[e]at h;simp at h
 |cons a b=>rfl
def QiK{rows:TP.Rw}{m:Nat}{fork:Bool}(c:1<=m)(hf:bD3->3<=m)(hn:ab8 1)(first:Nat):tP aC6 Ln=ax1 bX6 r r.1:=by unfold Je TP.xt;rw[List.map_map,List.map_map];refine List.map_congr_left (ż k a);show nT rows m fork k=_;exact SD (TP.qp c hf hn (bc1 a)).2
def Qlb(rows:TP.Rw)(m:Nat)(fork:Bool)(first:Nat)(a b:Nat)(c:b<=NO):tT (((bX6).drop a).take (b-a)) r (f4 r.2)=ZL (Î (first+a:Nat)) (b-a):=by
 apply List.ext_getElem?;intro i;rw[Bq,List.getElem?_take];by_cases h:i<b-a
 ·rw[cv1,B0];have l:a+i<NO:=À
  unfold TP.xt;rw[Bq,Eg l];unfold ZL;rw[jm h];simp only[Option.map_some];congr 2;lia
 ·rw[Cw h,Cj (ĸ Xt)];rfl
def Qnz{w:Hs}{rows:TP.Rw}{m:Nat}{fork:Bool}{first M:Nat}(hm:1<=m)(hf:bD3->3<=m)(hn:ab8 1)(hM:3<=M)(F:E8 M)(h2:2<=NO)(hl:NO<=fE)(a8:first<=2000):
  Y8 [bo8,Ć first,Ć M] w>=(Ð (Je bX6 M true),w):=by
 let N:=bX6
 have u:aZ5=NO:=TP.KQ rows m fork first
 let n:=NO
 have ql:bs1 M<n:=Æ u (TP.Hb À h2)
 let q:=bs1 M
 let K:=aC6
 have P:⇑K=n:=yN rows m fork
 let S:et:=TP.sx aZ5 M true
 have U:S 0=0:=TP.Nt À true;have z:∀i,i<q->S i<S (i+1):=λ i h=>TP.Ls À (λ_=>hM) À h;have v:∀i,i<=q->S i<=n:=λ i h=>by have:=TP.Lw (n:=aZ5) (m:=M) À true h À;exact Bh this (aR9 u)
 let C:Û:=tS q (λ i=>Ć (S (i+1)-S i:Nat))
 have cl:⇑C=q:=Ģ C
 have cn:tP (TP.wY n M) (λ(k:Nat)=>f4 IS)=C:=by rw[TP.Qnd hM h2,List.map_map];show _=tS (bs1 M) (λ i=>f4 (Î (TP.sx aZ5 M true (i+1)-TP.sx aZ5 M true i:Nat)));rw[u];rfl
 let J:bq6:=λ i=>[sR K,ai5,Ô M,PH (bE5 i N M true),Ô (S i:Nat),r6 i (Ć (S (i+1)-S i:Nat)) i,df1 i (S (i+1):Nat) i,r6 i (Ð (ax1 (ay2 N M i) r r.1)) i]
 have c:=ja (b:=aX3 d 5 d (qK env')) J (λ_=>w) C (by rw[cl];show bs1 M<_;lia) (λ i d hd=>by
  have hi:i<q:=bA3 aM6 cl
  have Z:d=Ć (S (i+1)-S i:Nat):=ID (é (Ű C=_) (jm hi)) hd (bv3 hd)
  subst Z;have s1:=z i hi;have s2:=v (i+1) hi;obtain⟨_,c1⟩:=TP.qp (rows:=N) (m:=M) (fork:=true) À (λ_=>hM) À hi;have L:ay2 N M i=(N.drop (S i)).take (S (i+1)-S i):=rfl;obtain⟨G,Q,E⟩:∃G Q,ay2 N M i=G::Q:=by
   cases e:ay2 N M i with
   |nil=>rw[e]at c1;simp at c1
   |cons a b=>exact υ a b
  let I:Sl:=ķ (S (i+1)-S i:Nat)
  let A:Sl:=PH (bE5 i N M true)
  let e5:En:=[sR K,ai5,Ô M,A,Ô (S i:Nat),I,df1 i (S (i+1):Nat) i,r6 i (Ð (ax1 (ay2 N M i) r r.1)) i]
  let O:En:=[sR K,ai5,Ô M,A,Ô (S i:Nat),I,Ô (S (i+1):Nat),r6 i (Ð (ax1 (ay2 N M i) r r.1)) i]
  let o:En:=[sR K,ai5,Ô M,A,Ô (S i:Nat),I,Ô (S (i+1):Nat),sR (ax1 (ay2 N M i) r r.1)]
  show qK e5 w=_;refine ň aH O w (Qs (d:=Ì (S (i+1):Nat)) ?_) ?_
  ·rw[jL (i:=S i) (j:=S (i+1)-S i) Á Á,Ő (S i+(S (i+1)-S i)=S (i+1))]
  refine bV3 o w ?_
  ·have sl:bK Ä (Zh ũ) cx6 O w>=(Ð ((K.drop (S i)).take (S (i+1)-S i)),w):=Qmg Á Á Á À;refine ω (yI (m:=Ln) (nw:=false) (qU sl) im A4 (by rw[A7,Bk,P];show _<ŀ;have:n<=fE:=hl;lia))
   ·have hx:=B7 (Br hx);obtain⟨k,hk,rfl⟩:=Fm;exact cF5 i 0 rfl
   ·rw[List.map_take,List.map_drop,QiK hm hf hn first,L,List.map_take,List.map_drop]
  have tp:Z0 (N0 (Pd 7) (Ē Gf (co7 AN)) (Bl (Ś (lT ė ũ) (lT ė i9)))) o w>=(XH N M true i,w):=by have t1:B6 AN bp o w>=(Ì G.1,w):=Y3 (i:=0) Á rfl (ÿ E);have t2:aq8 Gf (co7 AN) o w>=(ì ((tT (ay2 N M i) r (f4 r.1)).drop 1),w):=Nq (QoU (a:=1) Á rfl);have t3:=QoX (a:=first+S i) (b:=first+S (i+1)) (w:=w) (env:=o) (jL Á Á:Qh Zq ė ũ o w=_) (jL Á Á:Qh Zq ė i9 o w=_) À (sn (n<=fE) hl);rw[Jj (Xb t1 t2 t3) Ø];unfold XH sO K2 nT;rw[Ő (first+S (i+1)-(first+S i)=S (i+1)-S i),<- Qlb rows m fork first (S i) (S (i+1)) s2,<- List.map_drop];rw[E];rw[<- L,E];rfl
  refine dA (v_ tp (rfl:o[3]?=_) (by rw[Bm,List.length_range];have:q<n:=ql;have:n<=fE:=hl;lia));refine ω (Qs Á);show í (aE4 [_,_,_,Sl.acc (bE5 i N M true++[XH N M true i]),aM8 ↥(S (i+1):Nat),_,_,_],w)>=(aE4 [_,_,_,Sl.acc (bE5 (i+1) N M true),aM8 ↥(S (i+1):Nat),_,_,_],w);rw[List.range_succ,List.map_append];rfl)
 rw[cl]at c;refine av8 (Y2 (J q) 3 (Ó (Ð (Je N M true))));refine Qo (rfl:wO 3 _ w>=(Ŭ _,w)) (ň aH ap6 w (Qs (d:=Ì (S 0:Nat)) (ÿ U)) (ň aH (J q) w ?_ (é (QR Š (Y2 (J q) 3 (Ó (Ð (Je N M true)))) w=_) (Qv rfl))));refine xb (qU (f:=LJ Y9 (Qc an6 sD)) (ds:=C) ?_) c;refine QiE (x:=Ć n) (y:=Ć M) ?_ Á (ZT (Ī (Qiv hM F h2 hl) cn) w);rw[j2 (ds:=K) Á,P]
def QkP{n:Nat}(h:1<=n):ixN n (-1)>=(n-1):=by unfold ixN;rw[Cw Â,aE2];congr 1;lia
def emp:DV:=ì [cL3,bR6,bR6,Ę,Ę]
def QnH(r:Int)(hp:Hs):Z7 [bp0,Ì r] (hp++[bD5 á])>=(Ę,hp++[ga r (eI+1) 0 0 0,Ð cw2]):=by
 let E:En:=[fS,Ô r]
 have st:∀{X:AX} {t t':Ã OV} {f:Str} {e:aG} {v:DV},e E (hp++ŭ á X::t)>=(v,hp++ŭ á X::t')->⇑X<fE->Zu á f Ä e E (hp++ŭ á X::t)>=(Ŭ E,hp++dc9 á f v X::t'):=λ{X t t' f e v} a hl=>bP8 (Z2 a Á (KD ..) hl) Fy
 have nl:Xj (Ò (eC (ì [cL3,bR6,bR6,Ę,Ę]))) E (hp++[ŭ á [(PD, Ì r)]])>=(æ (eI+1),hp++ŭ á [(PD, Ì r)]::[Ð cw2]):=bg8 (í (NG ⇑(hp++[OV.ins á [(PD, Ì r)]]),(hp++[_])++[ez cw2])=_) Am Az
 exact aM7 E (ϯ (st (X:=[]) (t:=[]) (t':=[]) Á Â) (st nl (ec ((1:Nat)<fE))) (ϯ (st rfl (i3 (ec ((2:Nat)<fE)))) (st rfl (i3 (ec ((3:Nat)<fE)))) (st rfl (i3 (ec ((4:Nat)<fE))))))
def cX(w:Hs)(O4 t b:Int)(ps:Û):Hs:=w++[ga O4 (Ĥ+1) t 0 b,Ð ps]
def km(w:Hs)(O4 t b:Int)(ps:Û):cO0 (cZ7 t b)[Ĥ]? O4 (Ĥ+1) t 0 b:=Ģ cX
def El(w:Hs)(O4 t b:Int)(ps:Û):eH (cZ7 t b) (Ĥ+1) ps:=bE cX al2 Nat.add_sub_cancel_left
def HV(w:Hs)(O4 t b t' c:Int)(ps a:Û):Y2 (Y2 (cZ7 t b) Ĥ (ga O4 (Ĥ+1) t' 0 c)) (Ĥ+1) (Ð a)=cZ6 t' c a:=by unfold cX;rw[du _ đ,Nat.sub_self,du _ À,Nat.add_sub_cancel_left];rfl
def Qmf(w:Hs)(O4 t b t' a:Int)(ps:Û):Y2 (cZ7 t b) Ĥ (ga O4 (Ĥ+1) t' 0 a)=cZ7 t' a:=bE cX (du _ đ) Nat.sub_self
def HZ{w:Hs}{i:Nat}(h:i<Ĥ)(O4 t b:Int)(ps:Û):Ű (cZ7 t b)=Ű w:=Ag h
def kz{r:Int}{fa:cB}{hp0 hp:Hs}(ha:aY4 hp0>=([Ì r],hp)):JY á 2 Z7 fa env hp0>=(bp0,cX hp r 0 0 cw2):=by unfold JY;rw[cf8];have a:XC (bD5 á) hp>=(bp0,hp++[bD5 á]):=rfl;have c:QI (FY (eM [f4 r]+1) 2) hp>=((),hp):=rfl;rw[bz5,Qe a,Qe (QnH r hp)];rfl
def QeR{w:Hs}{a O4:Nat}{ps:Û}(ha:de3 a ps)(h1:1<=a0)(hl:a0<=5000):VI [ν,Ć O4] w>=(TD,cZ7 (Î (a0-1:Nat)) a0):=by
 have E:a<Ĥ:=Zx ha;have o:∀t b u,eH (cZ6 t b u) a ps:=λ t b u=>Æ (HZ E) ha
 obtain⟨c,pr,j⟩:∃c pr,ps=c::pr:=by cases ps with|nil=>simp at h1|cons x y=>exact υ x y
 let e1:Sl->En:=λ z=>[IF,Ô O4,! Į,z]
 refine av8 (e1 (r6 i (cL0 i) pr.length));refine bV3 (e1 ļ) (cZ6 0 0 cw2) (kz Ÿ);refine ň aH (e1 ļ) (cZ6 0 1 [c]) (ZH (QT (a:=Ĥ) Á bB4 (zE ..) (ZS rfl (zO (i:=0) (d:=c) Á (o _ _ _) rfl (ÿ j))) rfl (aG9 (Ki (i:=0) (d:=c) bB4 (El ..) À Ê) HV))) ?_
 let J:bq6:=λ i=>e1 (r6 i (cL0 i) i)
 let W:de2:=λ i=>cZ6 0 (Î (1+i:Nat)) (c::pr.take i)
 have G:pr.length+1=a0:=ÿ j
 have e:=ja (b:=aX3 d 3 d (jZ env')) J W pr À (λ i d hd=>by
  have hi:i<pr.length:=aM6;have C:cL0 i=d:=Ũ Ce hd
  show jZ (e1 cL4) al8>=(Ŭ (e1 (Ó (cL0 i))),W (i+1));rw[C];have F:Xo [TD,d] al8>=(Ć ⇑(c::pr.take i),W (i+1)):=à (M5 (pg:=d) bB4 (El ..) À (an9 A8 A7)) (by rw[HV];show í (_,cZ6 0 (Î (1+i:Nat)+1) (c::pr.take i++[d]))>=(_,cZ6 0 (Î (1+(i+1):Nat)) (c::pr.take (i+1)));rw[List.take_add_one,hd,Ő ((Î (1+i:Nat)+1)=Î (1+(i+1):Nat))];rfl)
  exact ZH (QT (a:=Ĥ) Á bB4 (Gb ..) Ÿ rfl F))
 refine ň aH ce0 (cZ7 0 (Î (1+pr.length:Nat))) ?_ ?_
 ·refine ω (xb (qU (ds:=pr) ?_) e)
  ·have:=Qmt (a:=1) (n:=a) (ds:=ps) (f:=Ä) (g:=bS) (env:=ap6) (hp:=bn1) Á (o _ _ _) rfl;exact this.trans (ÿ j)
  ·show í ((_,ce0),cZ6 0 _ (c::pr.take pr.length))=_;rw[List.take_length,<- j]
 have r:=QcH (i:=a0-1) (hp:=cZ7 0 (Î (1+pr.length:Nat))) bB4 (El ..) À;rw[Qmf]at r;refine ň aH ce0 (cZ7 (Î (a0-1:Nat)) a0) (ZH (QT (a:=Ĥ) Á bB4 (Qgy ..) (QG (v:=Ć (a0-1:Nat)) ?_) rfl (r.trans (fN (Ő (Î (1+pr.length:Nat)=Î a0)))))) (Qv rfl);rw[vt (cA0 n a (o _ _ _)) rfl];congr 3;lia
def Gu(M:Nat):d9 (TP.Rw->d9 (cu5 (bT0 (Û->Û))))
 |0,_,_,_,_,_,P=>P
 |k+1,rows,m,fork,lv,first,P=>É (NO<=1) P (Gu M k bX6 M true (lv+1) cp9 (P++Xr bX6 M true (lv+1) cp9))
def Mf{n m:Nat}(a:1<=m):aT6 n m<=aO7:=by obtain⟨q1,c,d⟩:=TP.Jm (n:=n) a;have:(aT6 n m-1) * 1<=(aT6 n m-1) * m:=Δ a;lia
def VU{o:aG}{fa:cB}{hp hp1:Hs}{a b:Nat}{ds es:Û}(d:cY6>=(ν,hp))(h:aw8 a)(ha:cb6>=([cL6],hp1))(h1:eH hp1 a ds)(c:eH hp1 b es)(hl:ã+cR7<=ŀ):ZP ĉ Xl o fa env hp>=(Ę,hp1.set a cE7):=by
 unfold ZP;rw[Qe d];have e2:xr ĉ ş hp>=((),hp):=ł ((ZK a >>= _) hp) _ bt6
 rw[cf9,cf8];show(ZK a >>= _) hp1=_;rw[Φ h1];show(ZK b >>= _) hp1=_;rw[Φ c];show(cz (ã+cR7<=lim) >>= λ_=>Ub a cE7 >>= cn9) hp1=_;rw[PY (Ib (ã+cR7) lim) ce9];rfl
def Qej{rows:TP.Rw}{m:Nat}(a:1<=m)(h:¬ NO<=1):ab8 1:=ī (cA1 n a)
def Qi6{T:DV}{O4:Nat}(hr:2<=O4)(F:O4<=50)(w:Hs):∀(k:Nat)(rows:TP.Rw)(m:Nat)(fork:Bool)(lv first:Nat)(P:Û)(t:Hs)(d:Nat),NO<=k->k<d->1<=m->(bD3->3<=m)->ad2 fE->cp9=first+NO->cp9+2 * NO<=2000 ->
    ∃e fs t',J7 (eB (Þ dh (Ic 3) 1)) V3 d [! T,ķ O4,ķ lv,sR aC6,! Į] (w++Ð P::t)>=(Ŭ [! T,Ô O4,! e,! fs,! Į],w++Ð (Gu (O4+1) k rows m fork lv first P)::t')/\eM (Gu (O4+1) k rows m fork lv first P)<=cp9+2 * NO/\cp9<=⇑(Gu (O4+1) k rows m fork lv first P):=by
  intro k;induction k with
  |zero =>
    intro rows m fork lv first P t d h1 h2 i
    have:=(bn8 n i).1;lia
  |succ k G =>
    intro rows m fork lv first P t d hq C i hf hl hP z
    obtain⟨d,rfl⟩:∃f,d=f+1:=EU (d-1);have r:eB (Þ dh (Ic 3) 1) [! T,ķ O4,ķ lv,sR aC6,! Į] (w++Ð P::t)>=(LU 1 NO,w++Ð P::t):=by
      refine ω (QS (ud (j2 (ds:=aC6) Á) rfl));rw[yN];congr 2;by_cases c:1<NO
      . rw[C0 c,aq0]
      . rw[C5 c,ap0]
    unfold Gu;by_cases c:NO<=1
    . rw[cS3]
      refine⟨Ì lv,bo8,t,QmB (r.trans (fN ap0)),À,đ⟩
    . rw[Cw c]
      have J:=Qej i c;have Ht:=cA1 n i
      let N:=bX6
      have u:aZ5=NO:=TP.KQ rows m fork first
      have Rf:bs1 (O4+1)<NO:=Æ u (TP.Hb À À)
      have o:2 * bs1 (O4+1)<=NO+1:=by obtain⟨a1,a2,a3⟩:=TP.Jm (n:=aZ5) (Ő (1<=O4+1));have:(bs1 (O4+1)-1) * 2<=(bs1 (O4+1)-1) * (O4+1):=Δ À;lia
      let Q:=P++Xr N (O4+1) true (lv+1) cp9
      have v:⇑Q=cp9+bs1 (O4+1):=ϓ Am jk
      let E:Rq (Rq En):=λ x y=>[! T,Ô O4,! x,! y,! Į]
      have hp:eH (w++Ð P::t) Ĥ P:=KD w _ t;have Z:oV 2 xF bS (E ↥lv bo8) (w++Ð P::t)>=(Ŭ (E ↥(Î lv+1) bo8),w++Ð P::t):=rfl;have c1:(Î lv+1)=Î (lv+1:Nat):=Ê
      have s2:QA 3 Y8 (Ç 3 (Ś (Qh qS br6 (Ic 3)) (be0 1))) (E ↥(Î lv+1) bo8) (w++Ð P::t)>=(Ð (Je N (O4+1) true),w++Ð P::t):=by refine Ο (Xb Á (v':=Ć first) ?_ (jL (j:=1) Á rfl)) (Qnz i hf J À À À À À);rw[vt (cA0 n Ĥ hp) (j2 (ds:=aC6) Á),yN];congr 3;lia
      have I:=Qbf (w++Ð P::t) N (O4+1) true (lv+1) cp9 À;have s3:ZP ĉ Xl ũ (Ò (IN 3 xO 2 (Β 3 br6))) (E ↥(Î lv+1) (Ð (Je N (O4+1) true))) (w++Ð P::t)>=(Ę,w++Ð Q::(t++[Ð (Xr N (O4+1) true (lv+1) cp9)])):=by
        have e0:(w++Ð P::t)++[ez (Xr N (O4+1) true (lv+1) cp9)]=w++Ð P::(t++[Ð (Xr N (O4+1) true (lv+1) cp9)]):=Ê
        refine Ī (VU (a:=Ĥ) (b:=⇑(w++Ð P::t)) (ds:=P) (es:=Xr N (O4+1) true (lv+1) cp9) (hp1:=w++Ð P::(t++[Ð (Xr N (O4+1) true (lv+1) cp9)])) Á hp (QG ?_) (KD w _ _) ?_ (ĸ jk)) Fy
        . refine Ο (Xb Á Á (cA0 n Ĥ hp)) ?_
          rw[c1,<- e0];exact I
        . rw[<- e0,ba7,Nat.sub_self];rfl
      have step:V3 (E ↥lv bo8) (w++Ð P::t)>=(Ŭ (E (rg (lv+1:Nat)) (Ð (Je N (O4+1) true))),w++Ð Q::(t++[Ð (Xr N (O4+1) true (lv+1) cp9)])):=ð c1 (ϯ Z (Qs s2) (ZH s3))
      obtain⟨e,fs,t',L,O,U⟩:=G N (O4+1) true (lv+1) cp9 Q (t++[Ð (Xr N (O4+1) true (lv+1) cp9)]) d À À À (λ_=>À) À v À;refine⟨e,fs,t',à (yZ (r.trans (fN aq0)) step) L,Bh O À,Bh À U⟩
def xu(rows:TP.Rw)(O4:Nat):Û:=Gu (O4+1) (ù O4) rows O4 false 0 0 (Xr rows O4 false 0 0)
def K0{w:Hs}{T:DV}{rows:TP.Rw}{O4:Nat}(o:cQ w T rows)(r:2<=O4)(i:O4<=50)(hl:ad2 300):∃t,qD [T,Ć O4] w>=(æ ⇑(w++t),cZ5 (w++t) (Î (⇑ar6-1:Nat)) ⇑ar6 ar6)/\1<=⇑ar6/\eM ar6<=2000:=by have x:=cA1 n (Ő (1<=O4));have q1:=(bn8 n (Ő (1<=O4))).1;have lf:=QnN o (Ő (1<=O4)) À À;have u:=Qbf w rows O4 false 0 0 À;obtain⟨j,fs,t',e,c,d⟩:=Qi6 (T:=T) r i w (ù O4) rows O4 false 0 0 (Xr rows O4 false 0 0) [] ŀ đ À À Ê À (ĸ jk) (ĸ jk);rw[jk]at c d;have c:⇑ar6<=ù O4+2 * ù O4:=c;have d:ù O4<=⇑ar6:=d;refine N4 (Ð ar6::t') À À;have v:=QeR (w:=w++Ð ar6::t') (a:=Ĥ) (O4:=O4) (ps:=ar6) (KD w _ t') À À;refine av8 [! T,Ô O4,! j,! fs,! Į];refine bV3 [! T,Ô O4,ķ (0:Nat),ļ,ļ] w rfl;refine bV3 [! T,Ô O4,ķ (0:Nat),sR (CM O4 false),ļ] w (Ο FM lf);refine bV3 [! T,Ô O4,ķ (0:Nat),sR (CM O4 false),! Į] (w++[Ð (Xr rows O4 false 0 0)]) (Ο (Xb Á Á rfl) u);refine dA (show VL _ _=_ by unfold VL;exact e);exact Qv (Ο FM v)
def Ja(l:Int)(ks ps:Ŗ)(hi sd:Ý):DV:=ì [Ì l,dC,db6,opt hi,opt sd]
def Rm(hi:Ý)(k:Int):Bool:=match hi with
 |none=>false
 |some h=>Ib h k
def aM(ks:Ŗ)(k:Int):Nat:=⇑(af2 x (Ib x k))
def bF(ks:Ŗ)(k:Int):Nat:=⇑(af2 x (LU x k))
def Yx(ks:Ŗ)(k:Int):oP<=ft:=Bz _ _
def Kt(ks:Ŗ)(k:Int):EH<=ft:=Bz _ _
def QrE{f:aG}(hf:aE>=(ny,hp)):lB f env hp>=(ds,hp):=hL lB hf
def Wp{t:cg}{p:cb0}(ks:Ŗ)(k:Int)(hl:E8 ft)(a:∀x hp,t [Ô x,Ô k] hp>=(p x,hp))(hp:Hs):aq8 ZD (OT cX6 [1] t Ä) [! dC,Ô k] hp>=(Ì ⇑(ks.filter p),hp):=by
 have q:Z5 false cX6 [1] t Ä [! dC,Ô k] hp>=(Ð (ww (tT (ks.filter p) x x)),hp):=Ϭ Z5 (Qe (EY (QrE (ds:=ċ) Á))) (cb4 (QfE (p:=p) (g:=λ x=>x) ks (λ i hi=>KR ċ i (Æ Bm hi) hp) (λ x=>a x hp) (λ x=>rfl) À))
 rw[g8 q (SH ..),Bm,Bm]
def FQ(ks:Ŗ)(k:Int)(hl:E8 ft):Jc [dC,NN]=Lu oP:=BH λ hp=>aH1 [! dC,Ô k] (Wp ks k hl im hp)
def Tt(ks:Ŗ)(k:Int)(hl:E8 ft):YD [dC,NN]=Lu EH:=BH λ hp=>aH1 [! dC,Ô k] (Wp ks k hl im hp)
def Qio(l:Int)(ks ps:Ŗ)(hi sd:Ý)(k:Int):zU [aU6,NN]=fz (Rm hi k):=fI hi
def Qqp(l:Int)(ks ps:Ŗ)(hi sd:Ý)(k:Int)(hl:E8 ft)(hp:a0=ft+1):zV [aU6,NN]=Lu (ps.getD oP 0):=by
 have h:=Yx ks k;have a:=Oq ps (i:=Î oP) À À;rw[Bu]at a;refine qm (Yj (bo5 x db6 y (Ì oP) (cr9 x dC y NN rfl (FQ ks k hl)) ?_))<;>try exact[]
 simp[bB,a]
def QmI(l:Int)(ks ps:Ŗ)(hi sd:Ý)(k:Int)(hl:E8 ft)(hp:a0=ft):XT [aU6,NN]=î (CY EH oP Ę (Ì (ps.getD EH 0))):=by
 have h:=Yx ks k;have o:=Kt ks k;refine aG1 [! aU6,Ô k,! dC,Ô EH] ?_;refine df8 d dC;refine F6 d (Ì EH) (cr9 x dC y NN rfl (Tt ks k hl));have j:eB (Qh dU Š (cm5 Jc 2 1)) [! aU6,Ô k,! dC,Ô EH]=î (FY EH oP):=by refine Ey (bo5 x (Ì EH) y (Ì oP) (cr9 x dC y NN rfl (FQ ks k hl)) ?_);rw[qi];congr 2;rw[Bool.eq_iff_iff];simp only[beq_iff_eq,decide_eq_true_eq];lia
 by_cases c:EH=oP
 ·rw[cS3];exact MT (à (SM (cW1 (Ģ c))) (Yj rfl))
 ·rw[Cw c];refine ω (Jl (aJ1 (SN (cW1 (Ģ c)))));have e:EH<ft:=by
   have:EH<=oP:=by unfold bF aM;rw[<- List.countP_eq_length_filter,<- List.countP_eq_length_filter];exact List.countP_mono_left λ x _ hx=>by simp at hx ⊢;lia
   lia
  have a:=Oq ps (i:=Î EH) À À;rw[Bu]at a;exact Yj (bo5 x db6 y (Ì EH) rfl (fA bB a))
def Wt{F:Ee}{f e a i:aG}(h:bb=bZ8)(h':e env=î y)(c:by2=î z)(h3:i env=î u)(j:F [x,y,z,u]=cj4):QA 4 F (Qc f (N0 e a i)) env=cj4:=by simp[QA,Qc,Qj,h,h',c,h3,QI,j]
def Gx(l:Int)(ks ps:Ŗ)(hi sd:Ý)(a b:DV):jH [aU6,a,b]=Pa [Ì l,a,b,opt hi,opt sd]:=rfl
def Dl(ks ns:Ŗ)(a b:Nat)(h:ft<=fE)(hn:F8<=10):(aS8 x (iV dC none (iL a)) y (Zq x (ì Ϲ)) d (iV dC (iL b) none) (Zq y d):ġ)=Pa (ww (Lm a++ns++aj2 b)):=by rw[kr,ko];simp only[C6,Zq];rw[Ju ŉ];simp only[QI,if_true,C6];rw[Ju ŉ];simp[List.map_take,List.map_drop]
def Tf{f g h q:aG}{ks ns:Ŗ}{a b:Nat}(hf:bb=î dC)(c:To=db8 a)(hh:h env=db8 b)(hq:q env=Pa Ϲ)(hl:ft<=fE)(hn:F8<=10):Qh Zq (lT (bK f Zy aD4) q) (br4 f h) env=Pa (ww (Lm a++ns++aj2 b)):=by
 have e1:bK f Zy aD4 env=iV dC none (iL a):=by simp only[bK,hf,c,Zy,Zh,dH,C6]
 have e2:bK f (Zh h) Zy env=iV dC (iL b) none:=by simp only[bK,hf,hh,Zy,Zh,dH,C6]
 rw[<- Dl ks ns a b hl hn];simp only[Qh,e1,e2,hq,C6,bind_assoc]
def GO(l:Int)(ks ps nk nw:Ŗ)(hi sd:Ý)(k:Int)(hl:E8 ft)(hp:E8 a0)(h1:nk.length<=10)(h2:nw.length<=10):jJ [aU6,NN,ì (nk.map .int),ì (nw.map .int)]=î (aU3 l (Lm EH++nk++aj2 oP) (ps.take EH++nw++ps.drop oP)):=by refine aG1 [! aU6,Ô k,mT (nk.map .int),mT (nw.map .int),! dC,mT ϫ,ķ EH,ķ oP] ?_;refine df8 d dC;refine df8 d db6;refine F6 d (Ć EH) (cr9 x dC y NN rfl (Tt ks k hl));refine F6 d (Ć oP) (cr9 x dC y NN rfl (FQ ks k hl));exact Yj (Wu (x:=aU6) rfl (Tf rfl rfl rfl rfl À h1) (Tf rfl rfl rfl rfl À h2) (Gx l ks ps hi sd _ _))
def q_(ks:Ŗ)(c:Nat)(k:Int):Ŗ:=Lm c++k::aj2 c
def Qru(ks:Ŗ)(c:Nat)(k:Int)(h:ft<=fE):(aS8 a (iV dC none (iL c)) b (Zq a (ì [NN])) d (iV dC (iL c) none) (Zq b d):ġ)=Pa (ww (q_ ks c k)):=by rw[kr,ko];simp only[C6,Zq];rw[Ju ŉ];simp only[QI,if_true,C6];rw[Ju ŉ];simp[q_,List.map_take,List.map_drop]
def MQ{f g h:aG}{ks:Ŗ}{c:Nat}{k:Int}(hf:bb=î dC)(a:To=db8 c)(d:h env=Lu k)(hl:ft<=fE):Qh Zq (lT (bK f Zy aD4) (Z0 (Ò h))) (br4 f g) env=Pa (ww (q_ ks c k)):=by
 have e1:bK f Zy aD4 env=iV dC none (iL c):=by simp only[bK,hf,a,Zy,Zh,dH,C6]
 have e2:bK f aD4 Zy env=iV dC (iL c) none:=by simp only[bK,hf,a,Zy,Zh,dH,C6]
 have e3:Z0 (Ò h) env=Pa [NN]:=by simp only[Z0,Qc,Qj,d,C6];rfl
 rw[<- Qru ks c k hl];simp only[Qh,e1,e2,e3,C6,bind_assoc]
def QiU(l:Int)(ks ps:Ŗ)(hi sd:Ý)(k kid:Int)(hl:E8 ft)(hp:a0<=fE):jI [aU6,NN,Ì kid]=î (aU3 l (q_ ks oP k) (q_ ps (oP+1) kid)):=by
 refine aG1 [! aU6,Ô k,Ô kid,! dC,mT ϫ,ķ oP,Ô (Î oP+1)] ?_;refine df8 d dC;refine df8 d db6;refine F6 d (Ć oP) (cr9 x dC y NN rfl (FQ ks k hl));refine df8 d (Ì (Î oP+1));refine Yj (Wu (x:=aU6) (y:=ì (ww (q_ ks oP k))) (z:=ì (ww (q_ ps (oP+1) kid))) rfl ?_ ?_ (Gx l ks ps hi sd _ _))
 ·exact MQ rfl rfl rfl À
 ·exact MQ rfl (Fh ((î (f4 (Î oP+1)):ġ)=_) (Ő ((Î oP+1)=Î (oP+1:Nat)))) rfl hp
def Z3(l:Int)(n:Nat):Nat:=CY l 0 (n / 2) (n / 2+1)
def LQ(l:Int)(ks ps:Ŗ)(hi sd:Ý)(a:Int):DV :=
 ì [Ja l cU5 (ps.take (Z3 l ft)) (í (ks.getD cU4 0)) (í a),aU3 l (aj2 (Z3 l ft)) (ps.drop (Z3 l ft)),Ì (ks.getD cU4 0)]
def Qi8(l:Int)(ks ps:Ŗ)(hi sd:Ý)(c:Int)(h3:3<=ft)(hl:E8 ft):Ue [aU6,Ì c]=î (LQ l ks ps hi sd c):=by
 have E:(Î ft) / 2=Î (cU4:Nat):=À
 have a:=Oq ks (i:=Î (cU4:Nat)) À À;rw[Bu]at a;have r:CY l 0 (f4 (Î (cU4:Nat))) (Ì (Î (cU4:Nat)+1))=Ć (Z3 l ft:Nat):=aF8 Z3
 generalize v:Z3 l ft=C at r;generalize z:ks.getD cU4 0=e at a;have u:cP (aL3 dU 2 0) i8 (be0 5) [! aU6,Ô c,bI9,! dC,mT ϫ,ķ (cU4:Nat),Ô e,ļ,ļ,ļ]=db8 C:=by
  rw[<- r];by_cases q:l=0
  ·simp[cP,eB,Qh,Qb,eC,qi,lE,q]
  ·have:l8 l 0:=Ë q
   simp[cP,eB,Qh,Qb,eC,qi,lE,q,this,QjO]
 unfold LQ;rw[v,z];refine aG1 [! aU6,Ô c,bI9,! dC,mT ϫ,ķ (cU4:Nat),Ô e,ķ C,!(Ja l cU5 bn9 bJ1 cs3),!(aU3 l (aj2 C) (ps.drop C))] ?_;refine df8 d (Ì l);refine df8 d dC;refine df8 d db6;refine F6 d (Ć (cU4:Nat)) ?_
 ·refine Xx (x:=Ć ft) (y:=Ì 2) ?_ rfl (Ī (JX _ 2 Â Â) E);show(î (f4 (aB5 (ks.map DV.int))):ġ)=_;rw[Bm]
 refine F6 d (Ì e) (bo5 x dC y (Ć (cU4:Nat)) rfl (QnJ a));refine F6 d (Ć C) u;refine F6 d (Ja l cU5 bn9 bJ1 cs3) ?_
 ·have j:=Sf (f:=Š) (g:=i8) (env:=[! aU6,Ô c,bI9,! dC,mT ϫ,ķ (cU4:Nat),Ô e,ķ C,ļ,ļ]) (ds:=ċ) (m:=cU4) rfl rfl;have o:=Sf (f:=ũ) (g:=AN) (env:=[! aU6,Ô c,bI9,! dC,mT ϫ,ķ (cU4:Nat),Ô e,ķ C,ļ,ļ]) (ds:=ϫ) (m:=C) rfl rfl;simp only[List.set_cons_succ,List.set_cons_zero,A9,List.map_nil,A8,List.length_nil,List.cons_append,List.nil_append,List.replicate,Z0,Qc,Qj,j,o,C6];simp only[Ja,List.map_take,opt];rfl
 refine F6 d (aU3 l (aj2 C) (ps.drop C)) ?_
 ·have j:=Si (f:=Š) (g:=AN) (env:=[! aU6,Ô c,bI9,! dC,mT ϫ,ķ (cU4:Nat),Ô e,ķ C,!(Ja l cU5 bn9 bJ1 cs3),ļ]) (ds:=ċ) (m:=C) rfl rfl;have o:=Si (f:=ũ) (g:=AN) (env:=[! aU6,Ô c,bI9,! dC,mT ϫ,ķ (cU4:Nat),Ô e,ķ C,!(Ja l cU5 bn9 bJ1 cs3),ļ]) (ds:=ϫ) (m:=C) rfl rfl;simp only[List.set_cons_succ,List.set_cons_zero,A9,List.map_nil,A8,List.length_nil,List.cons_append,List.nil_append,List.replicate,Z0,Qc,Qj,j,o,C6];simp only[Ja,List.map_drop];rfl
 exact Yj rfl
def YA(p:TR.Pg):ť=Ja p.lv p.ks p.ps p.hi (bB5 n iH):=by unfold aK Ja;cases p.sd<;>rfl
def Qjb(p:TR.Pg)(k:Int):zU [ť,NN]=fz (TR.Xh p k):=by rw[YA,Qio];unfold Rm TR.Xh;cases p.hi<;>rfl
def Qq2(p:TR.Pg)(k c:Int)(hl:bU4)(hp:iP=ϖ+1)(a:p.ps[cL1 k]?>=c):zV [ť,NN]=Lu c:=by rw[YA,Qqp _ _ _ _ _ _ hl hp];rw[Ce,é (p.ps[aN4]?>=c) a];rfl
def QlB(p:TR.Pg)(k:Int)(hl:bU4)(hp:iP=ϖ):XT [ť,NN]=î (opt (TR.Zr p k)):=by
 rw[YA,QmI _ _ _ _ _ _ hl hp];unfold TR.Zr;by_cases h:EI=aN4
 ·rw[cv1,Cy (é (bB6 k=cL1 k) h)];rfl
 ·rw[Cw h,Cw (é (¬ bB6 k=cL1 k) h)];have h1:=TR.Om p.ks k;have h2:=TR.Yx p.ks k;have h3:¬ bB6 k=cL1 k:=h;rw[Ce,é (p.ps[EI]?>=(p.ps[bB6 k]' À)) (Ab _),Ab (Ő (bB6 k<iP))];rfl
def Qoi(p:TR.Pg)(k x:Int)(hl:bU4)(hp:E8 iP):xP [ť,NN,Ì x]=î (aK (TR.Zj p k x)):=by have e:=GO p.lv p.ks p.ps [k] [x] p.hi (bB5 n iH) k hl hp Ê Ê;rw[YA,YA];refine aG1 [!(Ja p.lv p.ks p.ps p.hi (bB5 n iH)),Ô k,Ô x] (Yj (Wt rfl rfl rfl rfl (cU8 ?_)));simp[TR.Zj,TR.bF,TR.aM,bF,aM]
def Qgg(p:TR.Pg)(k:Int)(hl:bU4)(hp:E8 iP):Kl [ť,NN]=î (aK (TR.without p k)):=by have e:=GO p.lv p.ks p.ps [] [] p.hi (bB5 n iH) k hl hp Ê Ê;rw[YA,YA];refine aG1 [!(Ja p.lv p.ks p.ps p.hi (bB5 n iH)),Ô k] (Yj (Wt rfl rfl rfl rfl (cU8 ?_)));simp[TR.without,TR.bF,TR.aM,bF,aM]
def Qgf(p:TR.Pg)(k:Int)(c:Nat)(hl:bU4)(hp:iP<=fE):jI [ť,NN,Ì c]=î (aK (TR.ZO p k c)):=by rw[YA,QiU _ _ _ _ _ _ _ hl hp,YA];rfl
def Qoh(p:TR.Pg)(O4:Nat):qo [ť,Ì O4]=fz (LU O4 ϖ):=by
 have e:LU (Î O4) (aB5 ie)=LU O4 ϖ:=by rw[Bm];congr 1;rw[eq_iff_iff];lia
 refine aG1 [! ť,Ô O4] (Yj (bo5 x (Ć ⇑ie) y (Ì O4) rfl (ω (QnE _ _))));rw[<- e]
def Qjc(p:TR.Pg)(n:Nat)(h3:3<=ϖ)(hl:bU4):Ue [ť,bo4]=Pa [aK (TR.ZB p n),aK (TR.Zn p),Ì (TR.XE p)]:=by
 rw[YA,Qi8 _ _ _ _ _ _ h3 hl];unfold LQ;rw[YA,YA];have a:Z3 p.lv ϖ=TR.Z3 p:=by
  unfold Z3 TR.Z3 TR.mid;by_cases h:cr6
  ·simp[h]
  ·rw[Cw h,fw]
 rw[a];rfl
structure At(hp:Hs)(n k a f q:Nat)(S:TR.Sh)(w:TR.Wk):ç where
 h1:cO1 S.O4 k S.top S.rd S.wr
 h2:kw k Ε
 h3:PK a>=(fC n f q w)
 h4:aC5 f (fK w.O5)
 h5:kw q (aQ w.pairs)
structure fU(n k a f q:Nat):ç where
 nk:n≠k
 na:n≠a
 nf:n≠f
 nq:n≠q
 ka:k≠a
 kf:k≠f
 kq:k≠q
 af:a≠f
 aq:a≠q
 fq:f≠q
def Fr(hp hp':Hs)(n k a f q:Nat):ç:=eI<=hp'.length/\∀i,i<eI->i≠n->i≠k->i≠a->i≠f->i≠q->Ű hp'=Ű hp
section
variable{hp hp' hp2:Hs}{n k a f q:Nat}{S S':TR.Sh}{w w':TR.Wk}
def Fr.refl:cA2 hp n k a f q:=İ đ (λ_ _ _ _ _ _ _=>rfl)
def Fr.trans(x:cA3 n k a f q)(y:Fr hp' hp2 n k a f q):cA2 hp2 n k a f q:=İ (Bh x.1 y.1) (λ i hi c d e j o=>à (y.2 i (Ax hi x.1) c d e j o) (x.2 i hi c d e j o))
def gs{n m:Nat}{Y:ď OV}(h:n≠m)(h':PK m=Y):(ϙ n X)[m]?=Y:=bC8 _ _ _ _ h h'
def eY{n:Nat}(h':cN9>=Y):(ϙ n X)[n]?>=X:=JZ _ _ _ (ÿ h')
def At.walk(A:At hp n k a f q S w)(D:fU n k a f q)(w':TR.Wk)(e1:w'.O5=w.O5)(e2:w'.pairs=w.pairs):At (ϙ a (fC n f q w')) n k a f q S w'/\cA2 (ϙ a (fC n f q w')) n k a f q :=
 cq0 ⟨gs D.na.symm A.h1,gs D.ka.symm A.h2,eY A.h3,cZ8 D.af e1 A.h4,cZ8 D.aq e2 A.h5⟩ (λ i hi d e c j o=>Za _ _ _ _ (Ł c))
def At.shelf(A:At hp n k a f q S w)(D:fU n k a f q)(S':TR.Sh)(e:S'.O4=S.O4):At (Y2 (aH5 n S.O4 k S'.top S'.rd S'.wr) k (Ð (S'.pg.map aK))) n k a f q S' w/\cA2 (Y2 (aH5 n S.O4 k S'.top S'.rd S'.wr) k (Ð (S'.pg.map aK))) n k a f q :=
 cq0 ⟨cZ8 D.nk.symm e (eY A.h1),eY (gs D.nk A.h2),bQ1 D.ka D.na A.h3,bQ1 D.kf D.nf A.h4,bQ1 D.kq D.nq A.h5⟩ (λ i hi c d j o r=>bC8 _ _ _ _ (Ł d) (Za _ _ _ _ (Ł c)))
def At.count(A:At hp n k a f q S w)(D:fU n k a f q)(S':TR.Sh)(e:S'.O4=S.O4)(e2:S'.pg=S.pg):At (aH5 n S.O4 k S'.top S'.rd S'.wr) n k a f q S' w/\cA2 (aH5 n S.O4 k S'.top S'.rd S'.wr) n k a f q :=
 cq0 ⟨Æ e (eY A.h1),cZ8 D.nk e2 A.h2,gs D.na A.h3,gs D.nf A.h4,gs D.nq A.h5⟩ (λ i hi c d j o r=>Za _ _ _ _ (Ł c))
def At.fork(A:At hp n k a f q S w)(D:fU n k a f q)(w':TR.Wk)(h:fC n f q w'=fC n f q w)(e:w'.pairs=w.pairs):At (an3 f (fK w'.O5)) n k a f q S w'/\cA2 (an3 f (fK w'.O5)) n k a f q :=
 cq0 ⟨gs D.nf.symm A.h1,gs D.kf.symm A.h2,cZ8 D.af.symm h A.h3,eY A.h4,cZ8 D.fq e A.h5⟩ (λ i hi d j o c r=>Za _ _ _ _ (Ł c))
def At.pair(A:At hp n k a f q S w)(D:fU n k a f q)(w':TR.Wk)(h:fC n f q w'=fC n f q w)(e:w'.O5=w.O5):At (ϙ q (bo7 w'.pairs)) n k a f q S w'/\cA2 (ϙ q (bo7 w'.pairs)) n k a f q :=
 cq0 ⟨gs D.nq.symm A.h1,gs D.kq.symm A.h2,cZ8 D.aq.symm h A.h3,cZ8 D.fq.symm e A.h4,eY A.h5⟩ (λ i hi d j o r c=>Za _ _ _ _ (Ł c))
def At.more(A:At hp n k a f q S w)(x:OV):At (hp++[x]) n k a f q S w/\cA2 (hp++[x]) n k a f q:=by
 have c:E6 i y OV (Ϥ hp y->Ϥ (hp++[x]) y):=λ{i y} h=>Æ (Ag (Zx h)) h
 exact cq0 ⟨c A.h1,c A.h2,c A.h3,c A.h4,c A.h5⟩ (λ i hi _ _ _ _ _=>Ag hi)
def WV(ps:bQ4)(p:TR.Pg):ps.map aK++[ť]=tP (ps++[p]) aK:=Ê
def map_set(ps:bQ4)(i:Nat)(p:TR.Pg):Y2 (ps.map aK) i ť=tP (ps.set i p) aK:=fN List.map_set
def bA(A:At hp n k a f q S w){env:En}(h:aQ4 0>=ah5):QN å Ġ Ä env hp>=(O0,hp):=QO aT9 A.h3 (QjH ..)
def SY(A:At hp n k a f q S w)(D:fU n k a f q){i:Nat}(hi:i<Ú)(P:TR.Pg)(h3:S.O4<Ϩ->3<=Ϩ)(L:E8 Ϩ)(hl:Ú<MM):
  ∃hp',Pp (YC [ν,dz,cr2] hp) (oN (cF8 w P).1)/\At hp' n k a f q (cF8 w P).2.1 (cF8 w P).2.2/\cA3 n k a f q:=by
 have t0:QA 2 qo (Β 2 (aO2 tK Jo FL)) [IF,nt,! cr2,ļ] hp>=(dd1 S.O4 Ϩ,hp) :=
  be6 (Ϛ ci1 A.h1 (Rl ..) Xz (MW A.h1)) (ZT (Qoh P S.O4) hp)
 unfold TR.QU;by_cases C:Ϩ<=S.O4
 ·rw[Cy C];have hd:ć (LU S.O4 Ϩ):=ap0;rw[hd]at t0;have u:Xn (eB (LL qo 2 (aO2 tK Jo FL))) [IF,nt,! cr2,ļ] hp>=cI8:=ac8 b false t0;have wr:=Ki (d:=cr2) (i:=i) A.h1 A.h2 D.nk bo3;rw[map_set]at wr;obtain⟨e,o⟩:=A.shelf D (Ħ S pg (FU i P) wr (S.wr+1)) rfl;obtain⟨c,r⟩:=e.walk D ca3 rfl rfl;refine N4 _ c (o.trans r);refine ý [IF,nt,! cr2,ļ] (l6 u ?_);refine dA (ZH (Ϛ ci1 A.h1 (zE ..) FM wr));exact Qo (ci2 v Η rfl e.h3 wl) (Qv (d:=Ę) rfl)
 ·rw[Cw C];have hd:œ (LU S.O4 Ϩ):=aq0;rw[hd]at t0;have u:Xn (eB (LL qo 2 (aO2 tK Jo FL))) [IF,nt,! cr2,ļ] hp>=(ź hp):=bu3 b t0;have pl:⇑Ε=Ú:=Ê
  have O:=Qjc P Ú (h3 À) L;have E:=M5 (pg:=aK bP9) A.h1 A.h2 D.nk (ĸ pl);rw[pl,WV]at E;obtain⟨e,o⟩:=A.shelf D (Ħ S pg (FC [bP9]) wr (S.wr+1)) rfl;obtain⟨c,r⟩:=e.walk D (bZ9 O1 (í Ú)) rfl rfl;have wr:=Ki (d:=aK (TR.ZB P Ú)) (i:=i) c.h1 c.h2 D.nk ŉ;rw[map_set]at wr;obtain⟨x,F⟩:=c.shelf D (Ħ S pg (ae6 [bP9] i (TR.ZB P Ú)) wr (S.wr+1+1)) rfl;obtain⟨y,G⟩:=x.walk D (Ħ w O1 (í Ú) aim bQ0) rfl rfl;obtain⟨j,I⟩:=y.walk D { w with O1:=í Ú,aim:=bQ0,O6:=P.lv+1 } rfl rfl;obtain⟨z,J⟩:=j.walk D { w with O1:=í Ú,aim:=bQ0,O6:=P.lv+1,place:=TR.Xy w.O5 (P.lv+1) } rfl rfl;refine N4 _ z (o.trans (r.trans (F.trans (G.trans (I.trans J)))));refine av8 [IF,nt,! cr2,mT [aK (TR.ZB P Ú),aK bP9,Ì bQ0]];refine Ŀ u ?_;have pg:=uW A.h1 A.h2;rw[pl]at pg;refine cD6 (be6 (Ϛ ci1 A.h1 (yB ..) Xz pg) (ZT O hp));refine dA (Z2 (Ϛ ci1 A.h1 (Gb ..) (QG (ng (cs7 1 _))) E) Á e.h3 wl);refine dA (ZH (Ϛ (ci0 c) c.h1 (zE ..) (AA (ng (cs7 0 _))) wr));refine dA (Z2 (ng (cs7 2 _)) Á x.h3 wl);refine dA (ci2 v (Ć (P.lv+1:Nat)) (ĩ (ng (T7 P _)) rfl) y.h3 wl);have dg:ZP AM Vt aw2 (Ò CB) [IF,nt,! cr2,mT [aK (TR.ZB P Ú),aK bP9,Ì bQ0]] _>=(oN (TR.Xy w.O5 (P.lv+1)),_) :=
   Qnn (Ι j.h3 (QbC ..)) j.h4 (QG (Ι j.h3 (RF ..)))
  refine dA (Z2 dg Á j.h3 wl);exact Qv (Ι z.h3 (Nm ..))
#where
def Qax{r a b:Int}{n k:Nat}{ps:Û}{hp:Hs}{t i:Nat}{key:Int}{l:Int}{ks e:Ŗ}{hi sd:Ý}(h1:cO1 r k t a b)(h2:kw k ps)(c:n≠k)(j:i<a0)(o:ps[t]?>=(aU4 l e))(hl:a0<99999):
  J1 [O0,Ì key,dz] hp>=(Ì a0,Y2 (aH5 n r k a0 a (b+1)) k (Fs ps [Ja (l+1) [key] [Î t,LT] none none])):=by
 let pg:DV:=Ja (l+1) [key] [Î t,LT] none none
 let w1:Hs:=Y2 (aH5 n r k t a (b+1)) k (Fs ps [pg])
 have y:Xo [O0,pg] hp>=(Ì a0,w1):=M5 h1 h2 c hl;have g1:cO0 w1[n]? r k t a (b+1):=bC8 _ _ _ _ c.symm (JZ _ _ _ (ÿ h1));have g2:bZ2 n (ga r k a0 a (b+1))=Y2 (aH5 n r k a0 a (b+1)) k (Fs ps [pg]):=by show Y2 (Y2 (ϙ n _) k _) n _=_;rw[List.set_comm _ _ c.symm,List.set_set]
 show _>=(_,Y2 (ϙ n _) k (Fs ps [pg]));rw[<- g2]
 let E:Sl->En:=λ z=>[bK0,Ô key,nt,z]
 have tp:∀z,QN á bn6 Ä (E z) hp>=(Ì t,hp):=λ z=>Ι h1 (Oj ..);have lv:Qh Zq (bf1 an8 (Ď á bn6) 0) bS bn5 hp>=(Ì (l+1),hp):=ĩ (cv x (aU4 l e) (Qk (Ι h1 aU0) (tp _) (yQ h2 o)) dj1) rfl
 let d:En:=ch2 (l+1)
 have u:Z0 (Ç 3 (Qc (Z0 gg) (N0 (nS (Ď á bn6) sD) dO dO))) d hp>=(pg,hp):=Jj (ds:=[Ì (l+1),ì [Ì key],ì [Ì t,dz],Ę,Ę]) (TJ Á (TJ (Jj Ÿ Ø) (Xb (Jj (ZS (tp _) Á) Ø) rfl rfl))) Ø;refine ý d (Qo (ZH (FA h1 (yW ..) Ÿ (Uq (i:=LT) h1 h2 À À))) (AB aH d lv (TC (Ī (Z2 (FA h1 (Gb ..) (QG u) y) Á g1 (ec ((5:Nat)<fE))) Rc) (Ι (JZ _ _ _ (ÿ g1)) (Oj ..)))))
def QlS{n k a f q:Nat}{S:TR.Sh}{w:TR.Wk}(A:At hp n k a f q S w)(D:fU n k a f q){c:Nat}{key:Int}(d:c<Ú)(j:ai0 r)(hl:Ú<MM):
  J1 [O0,Ì key,Ì c] hp>=(Ì Ú,Y2 (aH5 n S.O4 k Ú S.rd (S.wr+1)) k (cB5 (FC [(CC (r.lv+1) [key] [je,aY7]:TR.Pg)]) aK)):=by
 have o:Ε[S.top]?>=(Ja r.lv r.ks r.ps r.hi (r.sd.map λ n=>iH)):=by rw[Bq,j,Option.map_some,YA]
 have e:=Qax (key:=key) A.h1 A.h2 D.nk (i:=c) (Ë d) o ŉ;rw[e,Bm];rw[nv (Ja (Î r.lv+1) [key] [je,aY7] none none=aK (CC (r.lv+1) [key] [je,aY7])),WV]
def Qc8(S:TR.Sh)(w:TR.Wk)(i:Nat)(P:TR.Pg):(cF8 w P).2.2.O3=w.O3:=ac0 TR.QU
section
variable{hp:Hs}{n k a f q:Nat}{S:TR.Sh}{w:TR.Wk}{i:Nat}{p:TR.Pg}
def RU(A:At hp n k a f q S w)(D:fU n k a f q)(word:Str)(t:am5):∃hp',Pp (Xu [ν,Ü word,dz,oN t] hp) (ì [Ü word,dz,oN t])/\At hp' n k a f q S (cp6 t)/\cA3 n k a f q:=by obtain⟨c,d⟩:=A.walk D (cp6 t) rfl rfl;refine N4 _ c d;refine av8 [IF,Op word,nt,!(oN t)];exact TC (Z2 Á Á A.h3 wl) (aG0 Á Á Á)
def Qaw(A:At hp n k a f q S w)(D:fU n k a f q){c:Nat}(C:bi8 c)(y:c<Ú)(z:ai0 r)(hl:Ú<MM):∃hp',Pp (Jx [ν,dz] hp) (ì [Ü cg9, dz,Ì Ú])/\At hp' n k a f q { S with pg:=FC [CC (r.lv+1) ba2 [je,aY7]],top:=Ú,wr:=S.wr+1 } ca3/\cA3 n k a f q:=by obtain⟨j,u⟩:=A.walk D ca3 rfl rfl;have e:=QlS (key:=w.aim) j D y z hl;obtain⟨o,x⟩:=j.shelf D { S with pg:=FC [CC (r.lv+1) ba2 [je,aY7]],top:=Ú,wr:=S.wr+1 } rfl;refine N4 _ o (u.trans x);refine av8 [IF,nt];refine dA (ci2 v Η rfl A.h3 wl);refine cK8 Á (Ϛ (ci0 j) j.h1 (QeN ..) (ZS (aw3 j.h3) (QO (d:=Ì c) Á j.h3 (à (Nm ..) (as6 (oN w.O1) _ C)))) e)
def kL(A:At hp n k a f q S w)(D:fU n k a f q){env:En}(e0:aQ4 0>=ah5)(e2:aQ4 2>=(Ó ť))(h1:bU4)(h2:iP=ϖ):
  ∃hp',Pp (Zu å AE Ä (LL XT 2 ow) env hp) m4/\At hp' n k a f q S ca1/\cA3 n k a f q:=by
 obtain⟨c,d⟩:=A.walk D ca1 rfl rfl;exact cc3 (Z2 (Ο (ZS (ak e2) (QO (ak e0) A.h3 (zF ..))) (ZT (QlB p w.aim h1 h2) hp)) (ak e0) A.h3 wl) c d
def Qnu(A:At hp n k a f q S w)(D:fU n k a f q)(h1:bU4)(h2:iP=ϖ):
  ∃hp',Pp (Yc [ν,dz,ť] hp) (ì [Ü cg8, dz,opt ph])/\At hp' n k a f q S bU9/\cA3 n k a f q:=by
 obtain⟨hp1,e1,c,e⟩:=kL (env:=[IF,nt,! ť]) A D rfl rfl h1 h2;obtain⟨d,j⟩:=c.walk D bU9 rfl rfl;refine N4 _ d (cU8 j);refine av8 [IF,nt,! ť];refine ϯ e1 (ci2 v Η rfl c.h3 wl) ?_;exact cK8 Á (bD7 d.h3)
def Qre(A:At hp n k a f q S w)(D:fU n k a f q)(hi:i<Ú){x y:Int}(hd:w.O2=.put y x)(h1:ϖ<=90)(h2:iP=ϖ)(h3:S.O4<cl4 p x->3<=cl4 p x)(h4:E8 (cl4 p x))(hl:Ú<MM):
  ∃hp',Pp (YW [ν,dz,ť] hp) (ì [Ü xz, dz,opt ph,oN (cI4 p x).1])/\At hp' n k a f q (cI4 p x).2.1 (cI4 p x).2.2/\cA3 n k a f q:=by
 obtain⟨hp1,e1,c,j⟩:=kL (env:=[IF,nt,! ť,ļ]) A D rfl rfl À h2;obtain⟨d,e2,e,o⟩:=SY c D hi (iw p x) h3 h4 hl;refine N4 d e (cW1 o);refine av8 [IF,nt,! ť,!(oN (cI4 p x).1)];refine dA e1;have r:aB bm9 ↥2 hp1>=(Ì x,hp1):=da9 (cs7 2 hp1)
 refine cD6 (FA c.h3 (T5 ..) (AA (Ο (Xb Á (aw3 c.h3) (ĩ (Ι c.h3 (yF ..)) r)) (ZT (Qoi p w.aim x À À) hp1))) e2);refine Qv (aF9 (sW rfl Á (Ι e.h3 (ω (qy ..))) Á));rw[Qc8]
def QpS(A:At hp n k a f q S w)(D:fU n k a f q)(hi:i<Ú)(h1:bU4)(h2:iP=ϖ):
    ∃hp',Pp (qB [ν,dz,ť] hp) (ì [Ü D2, dz,opt ph])/\At hp' n k a f q (π (tm ph) (Ħ S pg (FU i (aD7 p)) wr (S.wr+1)) S) bU9/\cA3 n k a f q:=by
  obtain⟨hp1,e1,c,r⟩:=kL (env:=[IF,nt,! ť]) A D rfl rfl h1 h2;have t:∀b:Bool,tm ph=b->eB (cE3 bS3) [IF,nt,! ť] hp1>=(b,hp1):=λ b y=>PF (bD7 c.h3) (Ũ Qgb y);cases u:tm ph with
  |true=>rw[cq];have wr:=Ki (d:=aK (aD7 p)) (i:=i) c.h1 c.h2 D.nk bo3;rw[map_set]at wr;obtain⟨o,x⟩:=c.shelf D (Ħ S pg (FU i (aD7 p)) wr (S.wr+1)) rfl;obtain⟨e,j⟩:=o.walk D bU9 rfl rfl;refine N4 _ e (r.trans (x.trans j));refine av8 [IF,nt,! ť];refine dA e1;refine dA (Jf (t true u) (ZH (Ϛ (ci0 c) c.h1 (zE ..) (AA (be6 (aw3 c.h3) (ZT (Qgg p w.aim À À) hp1))) wr)));refine dA (ci2 v Η rfl o.h3 wl);exact cK8 Á (bD7 e.h3)
  |false=>rw[aE3];obtain⟨e,j⟩:=c.walk D bU9 rfl rfl;refine N4 _ e (r.trans j);refine av8 [IF,nt,! ť];refine dA e1;refine Ŀ (t false u) ?_;refine dA (ci2 v Η rfl c.h3 wl);exact cK8 Á (bD7 e.h3)
def QoV(A:At hp n k a f q S w)(D:fU n k a f q)(hi:i<Ú){c:Nat}(o:bi8 c)(h1:ϖ<=90)(h2:E8 iP)(h3:S.O4<f8 (OY p c)->3<=f8 (OY p c))(h4:E8 (f8 (OY p c)))(hl:Ú<MM):
  ∃hp',Pp (Yr [ν,dz,ť] hp) (ì [Ü at4, dz,oN (cF8 w (OY p c)).1])/\At hp' n k a f q (cF8 w (OY p c)).2.1 (cF8 w (OY p c)).2.2/\cA3 n k a f q:=by
 obtain⟨d,e2,e,j⟩:=SY A D hi (OY p c) h3 h4 hl;refine N4 d e j;refine av8 [IF,nt,! ť,!(oN (cF8 w (OY p c)).1)];have nw:QN å wC Ä [IF,nt,! ť,ļ] hp>=(Ì c,hp):=bp9 (aG9 (Nm ..) o);refine cD6 (FA A.h3 (T5 ..) (AA (Ο (Xb Á (aw3 A.h3) nw) (ZT (Qgf p w.aim c À À) hp))) e2);exact cK8 Á Á
#where
section
variable{hp:Hs}{n k a f q:Nat}{S:TR.Sh}{w:TR.Wk}{i:Nat}{p:TR.Pg}
def Qlr(A:At hp n k a f q S w){l h:Int}(hl:bU4):
  JS [IF,nt,! ť,bI9,bt3,ļ] hp>=(bp0,hp++[cO8 l h]):=by
 have e0:nH (ϕ 2 1) (ϕ 2 2) [IF,nt,! ť,bI9,bt3,ļ] hp>=(aQ OH,hp):=by have e:B6 ĳ bS [IF,nt,! ť,bI9,bt3,ļ] hp>=(S0,hp):=ng (Qq0 p hp);have o:B6 ĳ bp3 [IF,nt,! ť,bI9,bt3,ļ] hp>=(PZ,hp):=ng (Qq1 p hp);unfold nH;rw[Qe e];show(kD S0 >>= _) hp=_;rw[nv (kD S0=î ĺ),C6,Qe o,nv (kD PZ=î Ĩ),C6,WH];rfl
 have e1:iT (nH (ϕ 2 1) (ϕ 2 2)) [IF,nt,! ť,bI9,bt3,ļ] hp>=(cN (aQ OH),hp):=hL iT e0
 have hz:E8 ⇑OH:=ĸ List.length_zip
 have e2:=Qit (hp:=hp) (t:=λ d=>eB (JQ eN cC ė Q1 ĳ) (cE [3,4] [IF,nt,! ť,bI9,bt3,ļ] d)) (f:=λ d=>Qb 0 (cE [3,4] [IF,nt,! ť,bI9,bt3,ļ] d)) (p:=Dh l h) (aQ OH) (λ d hd=>by
   obtain⟨z,_,rfl⟩:=cy5 hd;have c:cE [3,4] [IF,nt,! ť,bI9,bt3,ļ] (ì [Ì z.1,Ì z.2])=[mT [Ì z.1,Ì z.2],bI9,bt3]:=rfl;show bz6 (JQ eN cC ė Q1 ĳ) (cE [3,4] [IF,nt,! ť,bI9,bt3,ļ] (ì [Ì z.1,Ì z.2]))=_;rw[c];have e:B6 Ä bp [mT [Ì z.1,Ì z.2],bI9,bt3] hp>=(Ì z.1,hp):=ng dj1;by_cases q1:l<=z.1
   ·by_cases j:z.1<h<;>simp[eB,JQ,DD,DC,e,Qb,Og,Od,lE,Dh,q1,j]
   ·simp[eB,JQ,DD,DC,e,Qb,Og,Od,lE,Dh,q1])
  (λ d hd=>rfl) (ĸ YJ)
 rw[Qgi]at e2;unfold JS Z5;rw[IE,Qe (é (JW _ _ _ lim 0 hp=_) e2)];rfl
def Qay(A:At hp n k a f q S w)(D:fU n k a f q){l h:Int}(hd:w.O2=bL6 l h)(h1:bU4)(hw:aD1<=50000)(L:(bD8/\bD9)∨∃x s,aZ6 x/\cR9):
  ∃hp',Pp (Yd [ν,dz,ť] hp) (va (bb9 w i p).1)/\At hp' n k a f q (bb9 w i p).2.1 (bb9 w i p).2.2/\cA3 n k a f q:=by
 have d1:aB bm9 ↥1 hp>=(Ì l,hp):=da9 (cs8 1)
 have d2:aB bm9 ↥2 hp>=(Ì h,hp):=da9 (cs8 2)
 obtain⟨z,P⟩:=A.more (cO8 l h);obtain⟨u,Q⟩:=z.pair D (bZ9 pairs dh5) rfl rfl;have pl:E8 ⇑(me l h):=bs7 TR.Zl (Bh (Bz _ _) ?_)
 have Z:cD8 (hp++[cO8 l h]) eI (me l h):=Ê
 have ql:q≠eI:=λ e=>ī (Zx A.h5)
 have ex:=QiI (o:=dd0) (fa:=bC9) (env:=[IF,nt,! ť,bI9,bt3,fS]) (Ι z.h3 (QbD ..)) z.h5 Ÿ Z (an9 YJ YJ);rw[HC]at ex;have tw:∀{c:Hs}{env:En},cD8 c eI (me l h)->aQ4 5>=(bI hp.length)->QK Gf bC9 env c>=(ì (aQ (me l h)),c):=λ{c env} hx he=>m2 QK (QG (ak he)) ((ZK eI >>= _) c=_) (Φ hx)
 have U:cD8 (Y2 (hp++[cO8 l h]) q (aW2 dh5)) eI (me l h):=gs ql Z;have I:a≠eI:=λ e=>ī (Zx A.h3)
 have start:∀(g:aF)(r:cS1 × Hs),g [IF,nt,! ť,bI9,bt3,fS] (Y2 (hp++[cO8 l h]) q (aW2 dh5))>=r ->
   Qr (QP 3 (db5 1)) (dE 4 (db5 2) 5 JS (Py (ZP ĉ Xl dd0 bC9) g)) [IF,nt,! ť,ļ,ļ,ļ] hp>=r:=λ g r hg=>by
  refine cD6 (ĩ bW8 d1);refine cD6 (ĩ bW8 d2);refine cD6 (Qlr A h1);exact Qo (ZH ex) hg
 have j:∃hp',Pp (Qr (Zu å EK Ä bl6) (bN7 aA3 (Ç 1 (N0 (ű Gf 5) dO dO))) [IF,nt,! ť,bI9,bt3,fS] (Y2 (hp++[cO8 l h]) q (aW2 dh5))) (.rt (va (.read i (me l h) none)),[IF,nt,! ť,bI9,bt3,fS])/\At hp' n k a f q S di7/\cA3 n k a f q:=by obtain⟨y,F⟩:=u.walk D di7 rfl rfl;refine N4 _ y (P.trans (Q.trans F));refine dA (ci2 v Η rfl u.h3 wl);exact Qv (aF9 (sV rfl Á (tw (gs I U) rfl) rfl rfl))
 have d:∀c:Hs,B6 ĳ (Ě 3) [IF,nt,! ť,bI9,bt3,fS] c>=(ϻ,c):=λ c=>ng (QqZ p c);have O:∀c:Hs,B6 ĳ (Ě 4) [IF,nt,! ť,bI9,bt3,fS] c>=(iE,c):=λ c=>ng (Wm p c);rcases L with ⟨e1,e2⟩|⟨x,s,e1,e2⟩
 ·rw[QiW hd e1];obtain⟨hp',J,E,G⟩:=j;refine⟨hp',Qu (start _ _ (Ze (Jf (hp1:=_) ?_ J))),E,G⟩;exact Tg (PF (d _) (Ũ KY e1))
 ·rw[QkZ hd e1 e2];by_cases hx:h<=x
  ·rw[Cy hx];obtain⟨hp',J,E,G⟩:=j;refine⟨hp',Qu (start _ _ (Ze (Jf (hp1:=_) ?_ J))),E,G⟩;exact bd6 (EM b (ĩ (d _) (Ũ KY e1))) (aU1 (d _) Á (by rw[e1];show mD ↥x ↥h _=_;rw[ME,C0 hx];rfl))
  ·rw[Cw hx];obtain⟨y,F⟩:=u.walk D (Ħ w pairs dh5 aim x) rfl rfl;obtain⟨C,F4⟩:=y.walk D (bM6 w pairs dh5 aim place cj3) rfl rfl;refine cc3 (ý [IF,nt,! ť,bI9,bt3,fS] (start _ _ ?_)) C (P.trans (Q.trans (F.trans F4)));refine Ŀ (bd6 (EM b (ĩ (d _) (Ũ KY e1))) (EM b (Qk (d _) Á (by rw[e1];show mD ↥x ↥h _=_;rw[ME,C5 hx];rfl)))) ?_;refine dA (ci2 v (Ì x) (aG9 (d _) e1) u.h3 wl);refine dA (ci2 v (Ì s) (aG9 (O _) e2) y.h3 wl);exact Qv (aF9 (sV rfl Á (tw (bQ1 I I U) rfl) (Ι C.h3 cA5) (aw3 C.h3)))
#where
section
variable{hp:Hs}{n k a f q:Nat}{S:TR.Sh}{w:TR.Wk}{i:Nat}{p:TR.Pg}
def yC:Ŕ tI:=È
def Kf:Ŕ xz:=È
def Ke:Ŕ D2:=È
def xf:Ŕ ų:=È
def vV:TR.aJ->Str
 |.find _ => tI
 |.put _ _ => xz
 |.cut _ => D2
 |.stretch _ _ => ų
def Qiz(d:TR.aJ)(hp:Hs):aB wc ↥0 hp>=(Ü (vV d),hp):=bP2 dj1
def QfK(A:At hp n k a f q S w)(D:fU n k a f q)(hi:i<Ú)(h1:ϖ<=90)(h2:iP=ϖ)(h3:∀x,S.O4<cl4 p x->3<=cl4 p x)(h4:∀x,E8 (cl4 p x))(hl:Ú<MM)(F:aD1<=50000)(C:(bD8/\bD9)∨∃x s,aZ6 x/\cR9):
    ∃hp',Pp (qC [ν,dz,ť] hp) (va (bb9 w i p).1)/\At hp' n k a f q (bb9 w i p).2.1 (bb9 w i p).2.2/\cA3 n k a f q:=by
  have z:QP 3 (db5 0) [IF,nt,! ť,ļ] hp>=(Ŭ [IF,nt,! ť,Op aU7],hp):=Qs (ĩ bW8 (Qiz w.O2 hp));have c:∀(x:Str)(b:Bool),Ŕ aU7->Ŕ x->(aU7==x)=b->bz6 (Å bM Š ϧ) [IF,nt,! ť,Op aU7]>=(b,hp):=λ x b G o2 e=>QS (ng (oK hp G o2 e));have v:∀(nm:Str) (fn:Ee) (d:DV) (hp':Hs),Ν (List.lookup nm (dG n f q bm9 ↥w.aim ↥w.O6 (oN w.place) (oN w.O1) (opt w.O3) (Ζ w.O7)))->cN8 (fn [ν,dz,ť] hp)->Pp (QR (bH4 nm 3 fn (aC 1 2)) [IF,nt,! ť,Op aU7] hp) (.rt d,[IF,nt,! ť,Op aU7]):=λ nm fn d hp' e1 e2=>Qv (FA A.h3 e1 FM e2);cases hd:w.O2 with
  |find y =>obtain⟨hp',e,j,o⟩:=Qnu (i:=i) A D À h2;refine N4 hp' (Æ (uC hd) j) o;rw[uC hd];have t:=c tI true (da9 yC) yC (jc (œ (Ĭ tI==Ĭ tI)));exact Qu (Qo z (l6 t (v _ _ _ _ (QrN ..) e)))
  |put y x =>obtain⟨hp',e,j,o⟩:=Qre (i:=i) A D hi hd h1 h2 (h3 x) (h4 x) hl;refine N4 hp' (Æ (Qbe hd) j) o;rw[Qbe hd];have r:=c tI false (da9 Kf) yC (cM3 xz tI);have u:=c xz true (da9 Kf) Kf (jc (œ (Ĭ xz==Ĭ xz)));exact Qu (cZ4 z r (l6 u (v _ _ _ _ (QrO ..) e)))
  |cut y =>obtain⟨hp',e,j,o⟩:=QpS (i:=i) A D hi À h2;refine N4 hp' (Æ (Qbd hd) j) o;rw[Qbd hd];have r:=c tI false (da9 Ke) yC (cM3 D2 tI);have u:=c xz false (da9 Ke) Kf (cM3 D2 xz);have E:=c D2 true (da9 Ke) Ke (jc (œ (Ĭ D2==Ĭ D2)));exact Qu (cZ4 z r (Ŀ u (l6 E (v _ _ _ _ (QrP ..) e))))
  |stretch l h =>obtain⟨hp',e,j,o⟩:=Qay (i:=i) A D hd À F C;refine N4 hp' j o;have r:=c tI false (da9 xf) yC (cM3 ų tI);have u:=c xz false (da9 xf) Kf (cM3 ų xz);have E:=c D2 false (da9 xf) Ke (cM3 ų D2);exact Qu (cZ4 z r (Ŀ u (Ŀ E (v _ _ _ _ (QrQ ..) e))))
def QoP{r:TR.Row}(T:nX S)(W:TR.aP S bg w)(hr:S.O4<=50)(A:At hp n k a f q S w)(D:fU n k a f q)(hl:Ú<MM)(hf:⇑w.O5<5000)(hw:aD1<=50000)(hs:TR.Xm S w>=(r,S',w')):
    ∃hp',Pp (qX cw3 hp) cs0/\At hp' n k a f q S' w'/\cA3 n k a f q:=by
  cases he:w.O7 with
  |true=>unfold TR.Xm at hs;rw[Cy he]at hs;cases hs;refine N4 hp A Fr.refl;exact ý [IF,ļ,ļ] (l6 (QS (bp9 (Ī (y0 ..) he))) (Qv (d:=Ę) rfl))
  |false =>
    obtain⟨p,u,v⟩:=TR.yY he hs;clear hs;generalize I:ñ=m at u v;have J:s0 m∨(ξ/\aJ7 m):=by
      cases e:w.place with
      |none=>rw[e]at I;exact Ĉ (ā I.symm)
      |some z=>rw[e]at I;exact ë (dg1 I)
    have ok:=AR m p u;have a9:m<Ú:=Zx u;have ac:E8 iP:=by have a1:=ok.parts;have a2:=ok.few;split at a1<;>lia
    have a8:ϖ<=90:=by have a2:=ok.few;lia
    have r2:=T.aX
    let E:En:=[IF,cB7,! ť]
    let h1:Hs:=aH5 n S.O4 k S.top cM9 S.wr
    have am:aN (eB bS4) cx4 Zg [IF,ļ,ļ] hp>=(Ŭ [IF,ļ,ļ],hp):=(Q8 (QS (bp9 (Ī (y0 ..) he))));have ah:cP (eB aO4) (cQ7 FL) am8 [IF,ļ,ļ] hp>=(Ì m,hp):=by
      rcases J with e|⟨e,e2⟩
      . exact à (v9 (EM b (ĩ (bp9 cA5) (Ũ uO e)))) (bp9 (aG9 cA5 e))
      . exact à (Gj (PF (bp9 cA5) (Ũ uO e))) (Ī (Ϛ ci1 A.h1 (Uc ..) Xz (N7 A.h1)) e2)
    have rd:=QoC (i:=m) (d:=ť) A.h1 A.h2 D.nk (Ũ Bq u);obtain⟨o,Z⟩:At h1 n k a f q IB w/\cA2 h1 n k a f q:=A.count D IB rfl rfl;have ar:=Qs (i:=1) ah;have aw:QP 2 (QC á aA3 2 Yb FL gg) [IF,cB7,ļ] hp>=(Ŭ E,h1):=Qs (Ϛ ci1 A.h1 (Qgz ..) Ÿ rd);have Q:B6 ĳ bp E h1>=(sf,h1):=ng (T7 p h1);have PJ:eB aO4 E h1>=(w.place.isNone,h1):=PF (Ι o.h3 cA5) (ÿ uO);have Ik:QN å cx9 Ä E h1>=(Ì w.O6,h1):=Ι o.h3 (RF ..);have P:∀x y:Nat,LU (Î x) y=LU x y:=λ x y=>dc2
    have t1:qV (eB aO4) (nB cC ax7 CB) E h1>=(ß (ξ/\Wd),h1):=by
      rcases J with e|⟨e,_⟩
      . rw[C5 (λ h=>ı e h h.1)]
        exact VT (PJ.trans (ÿ e))
      . refine à (ya (PJ.trans (ÿ e))) (ω (aU1 Q Ik rfl))
        rw[P,(decide_eq_decide (q:=ξ/\Wd)).mpr (cC6 (λ h=>İ e h) h h.2)]
    have go:∀(g:aF) (x:cS1 × Hs),g E h1>=x->Qr (aN (eB bS4) cx4 Zg) (dE 1 (cx0 aO4 (cQ7 FL) am8) 2 (QC á aA3 2 Yb FL gg) g) [IF,ļ,ļ] hp>=x:=λ g x u=>ϯ am ar (Qo aw u);have t2:eB (LL zU 2 ow) E h1>=(TR.Xh p w.aim,h1):=QS (be6 (aw3 o.h3) (ZT (Qjb p w.aim) _));have G:¬ (ξ/\Wd)->∀(g:aF) (x:cS1 × Hs),g E h1>=x->Qr (aN (aq6 aO4 (nB cC ax7 CB)) (QR (bH4 Ty 2 Jx gg)) Zg) g E h1>=x:=λ z g x u=>Ŀ (t1.trans (fN (C5 z))) u;have t3:eB (Qh dh ax7 CB) E h1>=(LU w.O6 p.lv,h1):=à (aU1 Q Ik rfl) (by rw[<- P]);have Rr:¬ œ (TR.Xh p w.aim)->¬ bj6->∀(g:aF) (x:cS1 × Hs),g E h1>=x->Qr (aN (eB (LL zU 2 ow)) (QR (bH4 bA1 4 Xu (Qc (ĝ cy0) (Β 1 (ϕ 2 4))))) Zg) (ŧ (Qh dh ax7 CB) (xk (cf7 ė aw2 ax7) (bH4 bA1 4 Xu (Qc (ĝ cy1) (Β 1 (LL zV 2 ow))))) Zg g) E h1>=x:=λ y z g x u=>Ŀ (cZ9 (ah1 y)) (Ŀ (t3.trans (fN (C5 z))) u);have t4:eB (Þ dh CB 0) E h1>=(LU 0 w.O6,h1):=à (PF Ik rfl) (cX3 P);cases v with
    |raised j hn =>
      have ab:aJ7 m:=by
        rcases J with e|⟨_,e⟩
        . rw[j.1]at e;cases e
        . exact e
      subst ab;obtain⟨c',z,L,U,_⟩:=W.tell À;have b3:=Aj (hn.symm.trans L);subst b3;obtain⟨hp',e,C,F⟩:=Qaw (i:=S.top) o D hn (Zx U) u hl;exact⟨hp',Qu (go _ _ (wP (t1.trans (fN (C0 j))) (FA o.h3 (QrM ..) Ÿ e))),C,ci3⟩
    |@side s j O ae =>obtain⟨hp',e,C,F⟩:=RU (i:=m) o D cy0 cj3;refine N4 hp' C ci3;refine Qu (go _ _ (G j _ _ (wP (cZ9 O) (FA o.h3 (T6 ..) (Xb rfl Á (ng (Wm p _))) ?_))));rw[ae];exact e
    |@down c j O hd hc =>have pl:=ok.parts;rw[fw]at pl;obtain⟨c',z,L,U,_⟩:=T.kid m p u À _ _ hc;subst L;obtain⟨A2,F2⟩:=o.fork D (bZ9 O5 (TR.xJ w.O5 p.lv m)) rfl rfl;obtain⟨hp',e,C,F⟩:=RU (i:=m) A2 D cy1 (í c');refine N4 hp' (Æ Bu C) (Z.trans (F2.trans F));have ke:=Qq2 p w.aim c' À pl hc;have pt:xa ė (eZ aw2 ax7) E h1>=(Ŭ E,h1.set f (si (fK (TR.xJ w.O5 p.lv m)))):=Qry Á (Ι o.h3 (QbC ..)) Q o.h4 hf;refine Qu (go _ _ (G j _ _ (Ŀ (cZ9 (ah1 O)) (l6 (t3.trans (fN (C0 hd))) (TC pt (FA A2.h3 (T6 ..) (Xb rfl Á (be6 (aw3 A2.h3) (ZT ke _))) ?_))))));rw[é (va (TR.Row.down m (bF4 c'))=ì [Ü cy1, Ì m,Ì c']) (ÿ Bu)];exact e
    |@told c j O hd h0 hn =>
      have ax:cS6:=by
        rcases J with e|⟨e,_⟩
        . obtain⟨p',L,U,_⟩:=W.at_ m e
          rw[Aj (u.symm.trans L)];exact U
        . exact Ck λ h=>j (İ e h)
      have kl:=TR.GN ok (k:=w.aim) (c:=c);obtain⟨hp',e,C,F⟩:=QoV (i:=m) (p:=p) o D a9 hn a8 ac (λ z=>sn (S.O4<f8 (OY p c)) z) À hl;exact⟨hp',Qu (go _ _ (G j _ _ (Rr O hd _ _ (wP (t4.trans (fN (C0 h0))) (FA o.h3 (QrL ..) FM e))))),C,ci3⟩
    |leaf j O hd g0 ad =>
      have hz:cr6:=À
      have pl:=ok.parts;rw[Cy hz]at pl;have kl:∀x,cl4 p x<=S.O4+1:=λ x=>TR.Kh ok;obtain⟨hp',e,C,F⟩:=QfK (i:=m) (p:=p) o D a9 a8 À (λ x z=>sn (S.O4<cl4 p x) z) (λ x=>ī (kl x)) hl hw ((aM1 m u).imp id λ⟨x,s,_,L,U,_⟩=>⟨x,s,L,U⟩);rw[ad]at e C;exact⟨hp',Qu (go _ _ (G j _ _ (Rr O hd _ _ (NR (t4.trans (fN ap0)) (FA o.h3 (QrK ..) FM e))))),C,ci3⟩
#where
def QmC(n:Nat)(d:TR.aJ)(hp:Hs):J9 [bp0,O0,wc] (hp++[bD5 å])>=(Ę,hp++[fC n (eI+1) (eI+2) aW4,F7,bG]):=by
 have st:∀(nm:Str) (e:aG) (v:DV) (fs:AX) (t t':Hs),e [fS,bK0,! wc] (hp++cG7::t)>=(v,hp++cG7::t')->aJ8<fE->Zu å nm Ä e [fS,bK0,! wc] (hp++cG7::t)>=(Ŭ [fS,bK0,! wc],hp++dc9 å nm v fs::t'):=λ nm e v fs t t' i hl=>ϓ (Z2 i Á (KD hp _ _) hl) Fy
 have a:∀fs,yc [fS,bK0,! wc] (hp++cG7::[])>=(æ (eI+1),hp++cG7::[F7]):=λ fs=>aG2 (í (NG ⇑(hp++[OV.ins å fs]),(hp++[OV.ins å fs])++[OV.aL []])=_)
 have c:∀fs,Xj Qj [fS,bK0,! wc] (hp++cG7::[F7])>=(æ (eI+2),hp++cG7::[F7,bG]):=λ fs=>aG2 (í (NG ⇑(hp++[OV.ins å fs,OV.aL []]),(hp++[OV.ins å fs,OV.aL []])++cd5)=_)
 refine aM7 [fS,bK0,! wc] ?_;refine dA (st Ġ _ ↑n [] [] [] Á (Ŧ m 20 up aY6 Â));refine dA (st r0 _ wc _ [] [] Á (Ŧ m 20 up aY6 Â));refine dA (st "aim" _ ↥d.key _ [] [] (ng (Qkg d _)) (Ŧ m 20 up aY6 Â));refine dA (st cx9 _ ↥0 _ [] [] rfl (Ŧ m 20 up aY6 Â));refine dA (st ky _ Ę _ [] [] rfl (Ŧ m 20 up aY6 Â));refine dA (st cY7 _ ↑(eI+1) _ [] [F7] (a _) (Ŧ m 20 up aY6 Â));refine dA (st wC _ Ę _ [F7] [F7] rfl (Ŧ m 20 up aY6 Â));refine dA (st AE _ Ę _ [F7] [F7] rfl (Ŧ m 20 up aY6 Â));refine dA (st LP _ ↑(eI+2) _ [F7] [F7,bG] (c _) (Ŧ m 20 up aY6 Â));exact st EK _ Θ _ [F7,bG] [F7,bG] rfl (Ŧ m 20 up aY6 Â)
def QmF{n:Nat}{d:TR.aJ}{fa:cB}{hp0 hp:Hs}(ha:aY4 hp0>=([O0,wc],hp)):JY å 3 J9 fa env hp0>=(bp0,hp++[fC n (eI+1) (eI+2) aW4,F7,bG]):=by unfold JY;rw[cf8];have a:XC (bD5 å) hp>=(bp0,hp++[bD5 å]):=rfl;have c:QI (FY (eM [NG n,wc]+1) 3) hp>=((),hp):=rfl;rw[bz5,Qe a,Qe (QmC n d hp)];rfl
def Qn8{hp:Hs}{n f q a:Nat}{w:TR.Wk}(h:PK a>=(fC n f q w)):YL cw3 hp>=(Ζ w.O7,hp):=Qu (Qv (Ι h (y0 ..)))
def QtT{α:rV}{d a:Nat}(i:d≠a){l:AU}{x c y e:α}:Y2 (Y2 (ct7 d x a y) d c) a e=ct7 d c a e:=by
 have:Y2 (ct7 d x a y) d c=ct7 d c a y:=ϓ (é (Y2 (ct7 d x a y) d c=Y2 (ct7 d x d c) a y) (List.set_comm _ _ (Ł i))) List.set_set
 rw[this,List.set_set]
def cT(seen:Ċ):h7:=seen.map λ m:Nat=>(aI m,Η)
def WU(k:Nat):∀seen:Ċ,JM IQ aC2=É (k∈seen) (í Η) none
  | []=>rfl
  |x::xs=>by
    have a:=WU k xs;unfold JM at a ⊢;show dh6 _ ((ai6 (Î x),DV.bl true)::cT xs)=_;rw[Bv];by_cases h:x=k
    . subst h;simp
    . have c:¬ (ai6 (Î x):Key)=ai6 IS:=λ e=>h (ah4 e e)
      rw[C5 c];show dh6 _ (cT xs)=_;rw[a];by_cases m:k∈xs
      . rw[Cy m,Cy (cT2 m)]
      . rw[Cw m,Cw (λ z=>II (pw z) e e (h e.symm) (m e))]
def QnV{seen:Ċ}{k:Nat}(h:k∉seen):X8 IQ aC2 Η=cT (seen++[k]):=by
 unfold X8;rw[Cw bX3]
 ·unfold cT;rw[List.map_append];rfl
 ·rw[List.any_eq_true]at z;obtain⟨a,m,e⟩:=z;obtain⟨x,hx,rfl⟩:=cy5 m;have e:=C4 e;have:x=k:=ah4 e e
  exact h (this▸hx)
def QqA{hp:Hs}{d k:Nat}{seen:Ċ}(h:aC5 d IQ):nQ cM7 ↑d hp>=(cC9 (ß (k∈seen)),hp):=by
 unfold nQ;have:Dw cM7 ↑d hp>=(ß (k∈seen),hp):=by
  show(ZK d >>= _) hp=_;rw[bt6];show í (tm (JM IQ aC2),hp)=_;rw[WU];by_cases m:k∈seen
  ·rw[Cy m,C0 m];rfl
  ·rw[Cw m,C5 m];rfl
 rw[EF];rfl
def Qqv{e f g:aG}{hp:Hs}{d k:Nat}{seen:Ċ}(a:aT2>=(Η,hp))(hf:aE>=(æ d,hp))(hd:aC5 d IQ)(c:aI4>=(Ć k,hp))(hn:k∉seen)(hl:cc5<ŀ):xa e (eZ f g) env hp>=(m4,an3 d (cT (seen++[k]))):=by
 unfold xa;rw[Qe a];have:eZ f g Η env hp>=(env,an3 d (cT (seen++[k]))):=by
  unfold eZ;rw[bb3,bz5];have q:rZ ↑d cM7 Η hp>=((),an3 d (cT (seen++[k]))):=by show(ZK d >>= _) hp=_;rw[Φ hd];show(cz (⇑IQ<lim) >>= λ_=>Ub d (si (X8 IQ aC2 Η))) hp=_;rw[PY (LU ⇑IQ lim) (C0 (Ϭ cT Bm hl)),QnV hn];rfl
  rw[Qe q];rfl
 rw[EF];rfl
section
variable{S:TR.Sh}{bg:TR.Bg}
def bR(S:TR.Sh):DV:=Ð Ε
def zr{n:Nat}(h:hU>=p):Ε[n]?>=ť:=Ũ Bq h
def QjA{d a:Nat}(E:d≠a)(lf:DV):∀{n:Nat}{r:Ċ},bh4 n r->∀(j:Nat)(seen done:Ċ)(hp:Hs),lP<j->aC5 d IQ->kw a bO0->Ps m r (m∉seen)->r.Nodup->cc5+lP<ŀ->done.length+lP<ŀ ->
    J7 (cE4 ũ (aq6 (JQ eN cC bp ũ an6) (nB nQ ũ ĳ))) j1 j [! bX,! lf,ϭ d,IF,ķ n] hp =
      í (Ŭ [! bX,! lf,ϭ d,IF,Ó Ę],Y2 (an3 d (cT (seen++r))) a (Ð (nD (done++r)))):=by
  have turn:∀(n:Nat)(p:TR.Pg)(seen done:Ċ)(hp:Hs),hU>=p->aC5 d IQ->kw a bO0->n∉seen->cc5<ŀ->done.length<ŀ ->
      (qV (eB (cE3 ũ)) (aq6 (JQ eN cC bp ũ an6) (nB nQ ũ ĳ))) [! bX,! lf,ϭ d,IF,ķ n] hp>=cI8 /\
      j1 [! bX,! lf,ϭ d,IF,ķ n] hp>=(Ŭ [! bX,! lf,ϭ d,IF,! iE],Y2 (an3 d (cT (seen++[n]))) a (Ð (nD (done++[n])))):=by
    intro n p seen done hp hn hd ha v o u;have nl:n<Ú:=Zx hn
    let e:En:=[! bX,! lf,ϭ d,IF,ķ n]
    constructor
    . rw[ya (QS (bG4 (Ć n) Á)),ya (QS (Qj4 (i:=iH) (n:=Ú) rfl Á (ϓ (j2 (ds:=Ε) Á) Bm) À À))]
      refine cz9;rw[Qk Á Á (QqA hd),C5 v];rfl
    . have F:eH (an3 d (cT (seen++[n]))) a bO0:=Æ (Ak E) ha
      refine ϯ (Qqv (d:=d) (k:=n) rfl Á hd Á v o) (ZH (X0 (a:=a) (ds:=bO0) (d:=Ć n) Á F Á (Æ j7 u))) ?_;rw[show bO0++[f4 iH]=nD (done++[n])by rw[<- Qqy];rfl];exact Qs (bT6 i 4 [sf,S0,PZ,ϻ,iE] (Y3 (i:=n) (ds:=Ε) (d:=ť) Á Á (zr hn)))
  intro n r c;induction c with
  |@last n p hn v=>intro j seen done hp hf hd ha C y o u;have o:cc5+1<ŀ:=o;have u:done.length+1<ŀ:=u;have hf:1<j:=hf;obtain⟨G,I⟩:=turn n p seen done hp hn hd ha (C n Ê) À À;obtain⟨f,rfl⟩:∃f,j=f+2:=EU (j-2);rw[yZ G I,v];exact vv (VT (QS (bG4 Ę Á)))
  |@next n p s r hn v c J =>
    intro j seen done hp hf hd ha C y o u;have hf:lP+1<j:=hf;have o:cc5+(lP+1)<ŀ:=o;have u:done.length+(lP+1)<ŀ:=u;obtain⟨G,I⟩:=turn n p seen done hp hn hd ha (C n Ê) À À;obtain⟨f,rfl⟩:∃f,j=f+1:=EU (j-1);have O:d<eI:=aM6;have L:a<eI:=Zx ha;obtain⟨P,nd⟩:=Ch.mp y;rw[yZ G I,v];refine ω (J f (seen++[n]) (done++[n]) _ À (ϓ (kb E) (As O)) (fN (As (at9 L))) (ĵ m h z) nd we we)
    . rcases cE2 with z|z
      . exact C m (cT2 h) z
      . rw[aS9 z]at h;exact P h
    . rw[Az,Az,QtT E];rfl
def QeS{n d:Nat}{r:Ċ}(c:bh4 n r){seen:Ċ}{w:Hs}(hd:zu w[d]? IQ)(o:∀m∈r,m∉seen)(e:r.Nodup)(h1:cc5+lP<MM):
  VJ [bX,Ć n,æ d] w>=(TD,bB7 d (si (cT (seen++r)))++[Ð AO]):=by
 have i:d<Ĥ:=aM6;have j:=QjA (S:=S) (d:=d) (a:=Ĥ) À ↥iH c ŀ seen [] (w++bX8) À (Æ (Ag i) hd) cG4 o e À ŉ;rw[List.nil_append,List.set_append_left _ _ i,du _ (at9 đ),List.length_set,Nat.sub_self]at j;refine av8 [! bX,ķ n,ϭ d,! Į,Ó Ę];refine Tb [! bX,ķ n,ϭ d,! Į,ļ] (w++bX8) rfl (cD6 Á);exact TC (é (Uh _ _=_) j) Á
def Qch{n c a:Nat}{r:Ċ}{p:TR.Pg}{w:Hs}(ha:de3 a (nD (n::r)))(hn:hU>=p)(d:p.ps[0]?>=aY7):YM [bX,ν] w>=(Ć c,w):=by
 let e:En:=[! bX,IF]
 have o:zL ė e w>=cJ0:=m2 zL (Á:Qb 1 e w>=(ν,w)) ((ZK a >>= _) w=_) (Φ ha)
 have v:B6 ė bp e w>=(Ć n,w):=zO (i:=0) Á ha rfl rfl;have x:B6 Ä aE0 e w>=(ť,w):=Y3 (i:=n) (ds:=Ε) Á v (zr hn);have j:B6 (cx Ä aE0) bp3 e w>=(PZ,w):=cF5 i 2 x;have u:zL (cu0 aE0 2) e w>=cJ0:=by
  unfold zL;rw[Qe j];show í (i7 (ce7 (p.ps.map DV.int)),w)=_;cases h:p.ps with
  |nil=>rw[h]at d;cases d
  |cons _ _=>rfl
 refine ý e (NR ?_ (ae3 i 0 j (Ũ Bq d)));exact bd6 (ZR o) (ZR u)
def Qai{n a:Nat}{r:Ċ}{w:Hs}(ha:de3 a (nD (n::r)))(hn:hU>=p):∃d,YM [bX,ν] w>=(d,w):=by
  cases h:p.ps with
  |cons x xs =>
    let e:En:=[! bX,IF]
    have j:zL ė e w>=cJ0:=m2 zL (Á:Qb 1 e w>=(ν,w)) ((ZK a >>= _) w=_) (Φ ha)
    have u:B6 ė bp e w>=(Ć n,w):=zO (i:=0) Á ha rfl rfl;have v:B6 Ä aE0 e w>=(ť,w):=Y3 (i:=n) (ds:=Ε) Á u (zr hn);have c:B6 (cx Ä aE0) bp3 e w>=(PZ,w):=cF5 i 2 v;have o:zL (cu0 aE0 2) e w>=cJ0:=bE zL bz5 h
    refine İ (Ì x) (ý e (NR ?_ (ae3 i 0 c (ÿ h))));exact bd6 (ZR j) (ZR o)
  |nil =>
    let e:En:=[! bX,IF]
    have j:zL ė e w>=cJ0:=m2 zL (Á:Qb 1 e w>=(ν,w)) ((ZK a >>= _) w=_) (Φ ha)
    have u:B6 ė bp e w>=(Ć n,w):=zO (i:=0) Á ha rfl rfl;have v:B6 Ä aE0 e w>=(ť,w):=Y3 (i:=n) (ds:=Ε) Á u (zr hn);have c:B6 (cx Ä aE0) bp3 e w>=(PZ,w):=cF5 i 2 v;have o:zL (cu0 aE0 2) e w>=(ź w):=bE zL bz5 h
    refine İ Ę (ý e (wP ?_ rfl));exact bd6 (ZR j) (ZR o)
#where
section
variable{S:TR.Sh}{bg:TR.Bg}
def yt(b k:Nat):Û:=tS k (λ i=>æ (b+i))
def yv(b k:Nat):⇑(yt b k)=k:=Ģ yt
def Qjk(b k:Nat):yt b k++[æ (b+k)]=yt b (k+1):=bE yt List.range_succ List.map_append
def yu{b k i:Nat}(h:i<k):Ϥ (yt b k) ↑(b+i):=bE yt Bq (Eg h)
def Wk(w:Hs)(a:av6):Hs:=w++Ð (yt (Ĥ+2) bv6)::si (cT a.flatten)::a.map λ r=>Ð AO
def MP(w:Hs)(a:av6):⇑cs2=Ĥ+2+bv6:=ao1 Wk
def DQ(w:Hs)(a:av6):eH cs2 Ĥ (yt (Ĥ+2) bv6):=bE Wk ba7 Nat.sub_self
def Qto(w:Hs)(a:av6):zu cs2[Ĥ+1]? (cT a.flatten):=bE Wk al2 (Ő (Ĥ+1-Ĥ=1))
def DP{w:Hs}{a:av6}{i:Nat}{r:Ċ}(h:Ϥ a r):eH cs2 (Ĥ+2+i) AO:=by unfold Wk;rw[al2,Ő (Ĥ+2+i-Ĥ=i+2)];show Ű (a.map λ r=>ez AO)=_;rw[Bq,h];rfl
def We{w:Hs}{a:av6}{i:Nat}(h:i<Ĥ):Ű cs2=Ű w:=Ag h
def QmY(w:Hs)(a:av6)(r:Ċ):(List.set (Y2 cs2 (Ĥ+1) (si (cT (a.flatten++r)))++[ez AO]) Ĥ (ez (yt (Ĥ+2) bv6++[NG ⇑cs2])):Hs)=cs1 (a++[r]):=by
 have e1:Y2 cs2 (Ĥ+1) (si (cT (a.flatten++r)))=w++ez (yt (Ĥ+2) bv6)::OV.aL (cT (a.flatten++r))::a.map λ r=>ez AO:=bE Wk (du _ À) (Ő (Ĥ+1-Ĥ=1))
 rw[MP,Qjk,e1,Az,du _ đ,Nat.sub_self];unfold Wk;rw[List.flatten_append,RB (([r]:av6).flatten=r),List.map_append,Am];rfl
def Row(S:TR.Sh)(n:Nat)(r:Ċ):ç:=∃p,hU>=p/\bh4 n r/\r.Nodup/\∀m,m∈r↔∃q,ct6/\q.lv=p.lv
inductive Rows(S:TR.Sh):Ċ->θ av6
 |nil:Rows S [] []
 |cons {n:Nat} {r:Ċ} {ls:Ċ} {rs:av6}:Row S n r->Rows S ls rs->Rows S (n::ls) (r::rs)
def Rows.len{a:Ċ}{c:av6}(h:Rows S a c):⇑c=bv6:=by
 induction h with
 |nil=>rfl
 |cons _ _ d=>simp[d]
def Rows.get{c:Ċ}{d:av6}(h:Rows S c d):E6 i n Nat (Ϥ c n->∃r,Ϥ d r/\Row S n r):=by
  induction h with
  |nil=>intro i n h;simp at h
  |cons a _ e =>
    intro i n h;cases i with
    |zero=>cases h;exact Ņ _ a
    |succ i=>exact e h
def jR{n:Nat}{r:Ċ}(c:bh4 n r):∃a,r=n::a:=by
 cases c with
 |last _ _=>exact bT []
 |next _ _ _=>exact TL
def Qf1(T:nX S)(top:Nat){R:Nat}{rt:TR.Pg}(ht:Nn top rt)(hR:rt.lv=R)(w:Hs)(hN:cU0 (R+1)<cA6):∀{n:Nat}{G:Ċ},TR.dI S bg n G->∀(p:TR.Pg)(j:av6)(o:Nat)(z5:Sl),hU>=p->p.lv+Tl=R->⇑G<o->(∀r∈j,∀m∈r,∃q,ct6/\p.lv<q.lv)->cv0<=cU0 Tl ->
    ∃(E : av6)(P O : Sl), Rows S G E /\ J7 (nB eN cN4 (cu0 ė 0)) Y4 o [! bX, ķ top, Ó Į, bI (Ĥ + 1), ķ n, z5] dj0 =
      í (Ŭ [! bX,ķ top,! Į,ϭ (Ĥ+1),P,O],cs1 (j++E)):=by
  have u:∀(j:av6)(z4 z5:Sl),eB (Qh eN cN4 (cu0 ė 0)) [! bX,ķ top,! Į,ϭ (Ĥ+1),z4,z5] dj0>=(Ib Tl R,dj0):=λ j z4 z5=>by
    refine cz9;rw[at8 (Ć Tl) y (Ć R) (ϓ (cA0 n Ĥ (DQ w j)) yv) (Z6 (i:=0) (d:=Ć R) (ds:=[Ì rt.lv,ì (rt.ks.map .int),ì (rt.ps.map .int),opt rt.hi,oN rt.sd]) (Y3 (i:=top) (ds:=Ε) (d:=aK rt) Á Á (zr ht)) rfl (ÿ hR)) rfl];show í (CO (Î Tl<=Î R),_)=_;congr 3;by_cases c:Tl<=R
    . rw[C0 c,aq0]
    . rw[C5 c,ap0]
  have turn:∀(n:Nat)(r:Ċ)(j:av6)(z5:Sl)(d:DV),Row S n r->Tl<=R->(∀x∈j,∀m∈x,m∉r)->cv0<=cU0 Tl->YM [bX,æ (Ĥ+2+Tl)] (cs1 (j++[r]))>=(d,cs1 (j++[r])) ->
      Y4 [! bX,ķ top,! Į,ϭ (Ĥ+1),ķ n,z5] dj0>=(Ŭ [! bX,ķ top,! Į,ϭ (Ĥ+1),! d,ϭ (Ĥ+2+Tl)],cs1 (j++[r]))/\lP<=Ú:=by
    intro n r j z5 d ⟨p,hn,c,nd,mem⟩ hle dis J fk;have rl:lP<=Ú:=Æ (TR.N6 T nd mem) (Bh (Bz _ _) Ê)
    have a8:cv0+lP<MM:=by
      have:cU0 Tl<=cU0 R:=Χ hle;have e:cU0 (R+1)=cU0 R+Ú:=T0
      lia
    have l1:1<=Ú:=ī (Zx hn)
    have l2:R * 1<=cU0 R:=Δ l1;have R9:R<ŀ:=by
      have e:cU0 (R+1)=cU0 R+Ú:=T0
      lia
    refine İ ?_ rl;have sr:=QeS (S:=S) (d:=Ĥ+1) c (seen:=j.flatten) (Qto w j) (λ m h z=>n8 x hx v (List.mem_flatten.mp z) (dis x hx m v h)) nd a8
    have ap:eH (Y2 dj0 (Ĥ+1) (si (cT (j.flatten++r)))++[Ð AO]) Ĥ (yt (Ĥ+2) Tl):=Pv (Ag (an9 List.length_set MP)) (Ak À) (DQ w j)
    refine ϯ (Qs (Ο (Xb Á Á Á) sr)) (ZH (X0 (a:=Ĥ) Á ap Á (Æ yv (Bs hle R9)))) ?_;rw[QmY,MP];exact Qs (Ο FM fk)
  intro n G lf;induction lf with
  |@leaf n L hn h0 U =>
    intro p j o z5 hp hl hf C J;rw[hn]at hp;cases hp;obtain⟨r,c,nd,mem⟩:=TR.Wf T hn U;have row:Row S n r:=⟨L,hn,c,nd,mem⟩;obtain⟨Z,Q⟩:=jR c;have wr:eH (cs1 (j++[r])) (Ĥ+2+Tl) (nD (n::Z)):=ð Q (DP cG4)
    obtain⟨d,fk⟩:=Qai (S:=S) wr hn;obtain⟨t1,_⟩:=turn n r j z5 d row À (λ x hx m v z=>by obtain⟨q,q1,q2⟩:=C x hx m v;obtain⟨I,F,q4⟩:=(mem m).mp z;rw[q1]at F;cases F;lia) J fk
    have hf:1<o:=hf;obtain⟨f,rfl⟩:∃f,o=f+2:=EU (o-2);have t0:=u j (ķ n) z5;rw[aq0]at t0;have t2:=u (j++[r]) cL4 (bI (Ĥ+2+Tl));rw[C5 we]at t2;exact⟨[r],! d,_,ϗ row lS,à (yZ t0 t1) (vv t2)⟩
  |@fork n c0 L G hn h0 U hk lf ih =>
    intro p j o z5 hp hl hf C J;rw[hn]at hp;cases hp;obtain⟨r,c,nd,mem⟩:=TR.Wf T hn U;have row:Row S n r:=⟨L,hn,c,nd,mem⟩;obtain⟨Z,Q⟩:=jR c;have wr:eH (cs1 (j++[r])) (Ĥ+2+Tl) (nD (n::Z)):=ð Q (DP cG4)
    obtain⟨t1,rl⟩:=turn n r j z5 (rg c0) row À (λ x hx m v z=>by obtain⟨q,q1,q2⟩:=C x hx m v;obtain⟨I,F,q4⟩:=(mem m).mp z;rw[q1]at F;cases F;lia) J (Qch (S:=S) wr hn hk)
    have hf:⇑G+1<o:=hf;obtain⟨f,rfl⟩:∃f,o=f+1:=EU (o-1);have t0:=u j (ķ n) z5;rw[aq0]at t0;obtain⟨cc,q,a1,a2,a3,a4⟩:=cY0 n L h0 0 _ hk;have:c0=cc:=À
    subst this;obtain⟨E,P,O,h1,h2⟩:=ih q (j++[r]) f (bI (Ĥ+2+Tl)) a2 we À (λ x hx m v=>by
      rcases cm3 with h|h
      . obtain⟨I,q1,q2⟩:=C x h m v
        exact aO8 I q1
      . rw[aS9 h]at v
        obtain⟨I,F,q4⟩:=(mem m).mp v;exact aO8 I F) (by rw[List.flatten_append,Am,Am,RB (([r]:av6).flatten=r),nv (eM ([r]:av6)=1),Nat.add_mul,Nat.one_mul];lia)
    exact⟨r::E,P,O,ϗ row h1,à (yZ t0 t1) (Ũ h2 Az)⟩
#where
section
variable{S:TR.Sh}{bg:TR.Bg}
def yp(T:nX S){rt:TR.Pg}(c:ai0 rt)(e:cU1<cA6)(w:Hs):∃(a:Ċ)(d:av6),TR.dI S bg S.top a/\bv6=bG3/\Rows S a d/\JP [bX,Ć S.top] w>=(TD,cs1 d):=by
 obtain⟨a,h1,h2⟩:=TR.uD T rt.lv S.top rt rfl c T.mj;have i:1<=Ú:=ī (Zx c)
 have v:bG3 * 1<=cU1:=Δ i;obtain⟨d,z4,z5,j,o⟩:=Qf1 T S.top c rfl w e h1 rt [] ŀ ļ c Ê À (Tk r h h) Ê;refine⟨a,d,h1,h2,j,av8 [! bX,ķ S.top,! Į,ϭ (Ĥ+1),z4,z5]⟩;have e0:cs1 []=(w++bX8)++[F7]:=õ Wk Az
 have u:yc [! bX,ķ S.top,! Į,ļ,ļ,ļ] (w++bX8)>=(æ (Ĥ+1),cs1 []):=by rw[e0];show í (NG ⇑(w++cd5),_)=_;rw[Am];rfl
 refine Tb [! bX,ķ S.top,! Į,ļ,ļ,ļ] (w++bX8) rfl (ϯ (Qs u) (Qs Á) ?_);exact TC (é (xi _ _=_) o) Á
def gb{hp:Hs}{n k:Nat}{r t a b:Int}(h1:cO1 r k t a b)(h2:kw k Ε):XL [O0] hp>=(bX,hp):=by
 refine aH1 [bK0] (g8 (QO (a:=n) Á h1 aU0) ?_);show((ZK k >>= λ o=>bi5 o ds cj5 failure aS6) >>= λ ds=>î (DV.lst ds)) hp=_;have:(ZK k >>= λ o=>bi5 o ds cj5 failure aS6) hp>=(Ε,hp):=ÿ (Φ h2)
 rw[EF];rfl
#where
def QkB{b:bV2}(J:bq6)(W:de2)(a:Nat)(ds:Û)(hl:ã<ŀ)(ha:∀i,i<=ã->eH al8 a ds)(c:∀(i:Nat) d,aI6->b d (J i) al8>=(EV (i+1),W (i+1))):yf (fQ a) b ŀ 0 ap6 bn1>=(df6,W ã):=by
 have:=Ow (b:=b) (env:=ap6) (hp:=bn1) (nxt:=fQ a) (Q:=λ r h=>r=df6/\h=W ã) ds (λ i env h=>i<=ã/\env=J i/\h=al8) hl (λ i env h hi ⟨_,e1,e2⟩=>by
  subst e2;exact KS (ha i hi) i) (Ņ up rfl) (λ i d hd env h ⟨_,e1,e2⟩=>by
  subst e1 e2;exact WP.of (c i d hd) (Ņ aM6 rfl)) (λ env h ⟨_,e1,e2⟩=>İ bT2 e2)
 obtain⟨r,h,e,rfl,rfl⟩:=this;exact e
def wW(w:Hs)(d:DV)(ds:Û):ç:=d=hV∨∃n,d=O0/\de3 n ds
def Ql2{f:aG}{g:iR}{a:aF}{hp:Hs}{ds:Û}(J:bq6)(W:de2)(hf:aE>=(d,hp))(hx:wW hp d ds)(hl:ã<ŀ)(h0:ap6=env)(c:bn1=hp)(keep:∀(i n:Nat),i<=ã->cN9>=(ez ds)->al8[n]?>=(ez ds))
  (hs:∀(i:Nat) d,aI6->(do let env' <- g d (J i);a env':M cS1) al8>=(EV (i+1),W (i+1))):Y6 (cR f) g a env hp>=(df6,W ã):=by
 subst h0 c;rcases hx with rfl|⟨n,rfl,hn⟩
 ·exact xb (qU hf) (ja J W ds hl hs)
 ·have x:cR f ap6 bn1>=(fQ n,bn1):=m2 cR hf ((LM >>= _) bn1=_) be7
  unfold Y6;rw[Qe x];exact QkB J W n ds hl (λ i hi=>keep i n hi hn) hs
section
variable{S:TR.Sh}{bg:TR.Bg}
def QaW{n:Nat}{r:Ċ}(c:bh4 n r):∀{i m:Nat},Ϥ r m->∃p,Nn m p/\p.sd=r[i+1]?:=by
  induction c with
  |@last n p hn a =>
    intro i m h;cases i with
    |zero=>cases h;exact⟨p,hn,a⟩
    |succ i=>simp at h
  |@next n p s r hn a c d =>
    intro i m h;cases i with
    |zero=>cases h;obtain⟨j,e⟩:=jR c;exact⟨p,hn,Ũ a e⟩
    |succ i=>exact d h
def eU(bg:TR.Bg)(r:Ċ):h7:=r.map λ m:Nat=>(aI m,PR m)
def Qm7{r:Ċ}{k:Nat}(h:k∉r):X8 aG4 aC2 (PR k)=aG3 (r++[k]):=by
 unfold X8;rw[Cw bX3]
 ·unfold eU;rw[List.map_append];rfl
 ·rw[List.any_eq_true]at z;obtain⟨a,m,e⟩:=z;obtain⟨x,hx,rfl⟩:=cy5 m;have e:=C4 e;have:x=k:=ah4 e e
  exact h (this▸hx)
def vi(k:Nat):∀{r:Ċ},k∈r->JM aG4 aC2>=(PR k)
  |x::xs,h=>by
    unfold JM;show dh6 _ ((ai6 (Î x),PR x)::aG3 xs)=_;rw[Bv];by_cases e:x=k
    . subst e;simp
    . have a:¬ (ai6 (Î x):Key)=ai6 IS:=λ z=>e (ah4 z z)
      rw[C5 a];rcases pw h with z|z
      . exact Ĝ z.symm e
      . exact vi k z
def qF(bg:TR.Bg)(r:Ċ)(i:Nat):DV:=match Ű r with
 |some m=>PR m
 |none=>Ę
def Hc{e f g:aG}{hp:Hs}{d:Nat}{k:Int}{kvs:h7}(a:aT2>=(x,hp))(hf:aE>=(æ d,hp))(hd:aC5 d kvs)(c:aI4>=(NN,hp))(hl:dQ<ŀ):xa e (eZ f g) env hp>=(m4,an3 d (aF7 cL7 x)):=by
 unfold xa;rw[Qe a];have:eZ f g x env hp>=(env,an3 d (aF7 cL7 x)):=by
  unfold eZ;rw[bb3,bz5];have q:rZ ↑d ↥k x hp>=((),an3 d (aF7 cL7 x)):=aT4 ((ZK d >>= _) hp=_) hd ((cz (dQ<lim) >>= λ_=>Ub d (si (aF7 cL7 x))) hp=_) (PY (LU dQ lim) ce9)
  rw[Qe q];rfl
 rw[EF];rfl
def QaO{r:Ċ}(F:∀{i m:Nat},Ϥ r m->∃p,Nn m p/\qF bg r (i+1)=ϻ)(h0:qF bg r 0=Ę)(u:r.Nodup)(hl:lP<MM){w:Hs}(hx:wW w d AO):qY [bX,d] w>=(TD,w++[si aG4]):=by
 let J:bq6:=λ i=>[! bX,! d,! Į,!(qF bg r i),match i with|0=>ļ|j+1=>Ó (match G1 r with|some m=>Ć m|none=>Ę)]
 let W:de2:=λ i=>w++[si (aG3 ac7)]
 have old:∀(i n:Nat)(ds:Û),w[n]?>=(ez ds)->al8[n]?>=(ez ds):=λ i n ds h=>rj ((w++_)[n]?=_) (Ag (Zx h)) h
 have v:wW bn1 d AO:=by
  rcases hx with h|⟨n,h,hn⟩
  ·exact aV0
  ·exact Ĉ ⟨n,h,old 0 n _ hn⟩
 have a:Vn ap6 bn1>=(EV ⇑AO,W ⇑AO):=by
  refine Ql2 J W (Á:Qb 1 ap6 bn1>=(d,bn1)) v (ĸ j7) rfl rfl (pM i n hi hn) (ĵ i x c)
  ·by_cases e:n=Ĥ
   ·subst e;have:zu bn1[Ĥ]? (aG3 (r.take 0)):=bg8 ((w++_)[Ĥ]?=_) ba7 Nat.sub_self
    rw[this]at hn;cases hn
   ·have nl:n<Ĥ:=by
     have:=Zx hn;have e2:⇑bn1=Ĥ+1:=Ģ W
     lia
    refine old i n _ ?_;have:bn1[n]?=w[n]?:=Ag nl;rw[<- this];exact hn
  ·have y:i<lP:=ir (Zx c) j7 this
   have o:Ϥ r r[i]:=Ab y;rw[Ft o]at c;cases c;obtain⟨p,I,L⟩:=F o;have bi:qF bg r i=PR r[i]:=ŵ qF o
   have wd:zu al8[Ĥ]? (aG3 ac7):=bg8 ((w++_)[Ĥ]?=_) ba7 Nat.sub_self
   let e:En:=[! bX,! d,! Į,!(qF bg r i),ķ r[i]]
   show Vr e al8=_;have C:r[i]∉ac7:=λ z=>by obtain⟨j,G,E⟩:=Cf.mp z;rw[A7]at G;rw[List.getElem_take]at E;exact(List.pairwise_iff_getElem.mp u j i À y À) E
   have st:Y2 al8 Ĥ (si (X8 (aG3 ac7) (aI r[i]) (qF bg r i)))=W (i+1):=by rw[bi,Qm7 C];show Y2 (w++_) Ĥ _=w++_;rw[du _ đ,Nat.sub_self,aa4 y];rfl
   refine dA (Hc (d:=Ĥ) (k:=Î r[i]) Á Á wd Á (cV2 eU Bm A7));rw[st];refine ω (Qs (Z6 (i:=3) (d:=ϻ) (ds:=[sf,S0,PZ,ϻ,iE]) (Y3 (i:=r[i]) (ds:=Ε) (d:=ť) Á Á (zr I)) rfl rfl));show í (aE4 [_,_,_,aM8 ϻ,_],_)>=(aE4 [_,_,_,aM8 (qF bg r (i+1)),aM8 (match Ű r with|some m=>f4 as1|none=>DV.non)],_);rw[L,o]
 rw[j7]at a;have O:W lP=w++[si aG4]:=Fh (w++_=_) List.take_length
 rw[O]at a;refine av8 (J lP);refine Tb [! bX,! d,! Į,ļ,ļ] (w++[F7]) rfl (ň aH ap6 bn1 ?_ (TC a Á));show í (aE4 [_,_,_,aM8 DV.non,_],_)>=(aE4 [_,_,_,aM8 (qF bg r 0),_],_);rw[h0];rfl
#where
def MB{f g:aG}(hf:aE>=(ny,hp))(a:aI4>=(ì es,hp)):nH f g env hp>=(qW ds es,hp):=by unfold nH;rw[bb3,Qe (rfl:kD ny hp>=(ds,hp)),Qe a];rfl
def yE{f g:aG}{ds:Û}{a:Nat}(hf:aE>=(ny,hp))(c:aI4>=(Ć a,hp)):bK f aD4 Zy env hp>=(ì cM5,hp):=by
 unfold bK Zh Zy;rw[bb3];have e1:(oE i cK1 bh5:M Ý) hp>=(iL a,hp):=ÿ bz5
 rw[IE,Qe (rfl:(bd7:M Ý) hp>=(none,hp)),<- xX ds a];rfl
def M7{f:aG}(hf:aE>=(ny,hp)):lB f env hp>=(ds,hp):=hL lB hf
def yM{f g:aG}{b:Bool}(h:aE>=(IU,hp1)):rB f g env hp=π b (í (Η,hp1)) cF2:=aj1 rB b
def SA:∀ds:Û,lD cN3>=(Af aR5)
  | []=>rfl
  |_::ds=>ł (tP (lD cN3) (true :: ·)) _ (SA ds)
def MN{c:aG}{ds:Û}(h:aS3>=(Ð cN3,hp)):aq8 vG c env hp>=(Η,hp):=by refine g8 h ?_;show(mZ (lD cN3) >>= λ bs=>î (DV.bl aM5)) hp=_;rw[SA,Qe (rfl:mZ (í (Af aR5)) hp>=(Af aR5,hp))];show í (DV.bl ((Af aR5).all id),hp)=_;congr 3;rw[List.all_eq_true];intro x hx;obtain⟨_,_,rfl⟩:=Fm;rfl
section
def Qgc{O4:Nat}{b:Ý}(ok:TR.JE O4 b p)(C:E8 O4)(hp:Hs):jE [ť,E1] hp>=(Η,hp):=by
  have few:=ok.few
  let e:En:=[! ť,! E1,mT ĺ,! ϻ]
  have d:⇑ie<ŀ:=cC7
  have j:∀x∈ie,∃k∈p.ks,x=NN:=λ x hx=>n8 k h rfl Fm (υ k h)
  have o:xL e hp>=(cB5 (qW ĺ ((ĺ).drop 1)) ae9,hp):=by refine yI (nw:=false) (m:=ae9) (EY (MB Á (yE (a:=1) Á rfl))) im A4 (ĸ Kk);obtain⟨i,hi⟩:=PX hx;obtain⟨u,v,h1,h2,rfl⟩:=Kj hi;rw[B0]at h2;rw[Bq]at h1 h2;obtain⟨k1,g1,rfl⟩:=by4 h1;obtain⟨k2,g2,rfl⟩:=by4 h2;have lt:=TR.qR ok.sorted g1 g2 À;refine ω (at8 (Ì k1) y (Ì k2) (cb9 i 0 [Ì k1,Ì k2]) (cb9 i 1 [Ì k1,Ì k2]) rfl);show í (CO (k1<k2),hp)=_;rw[C0 lt]
  have c2:∀v,b>=v->qA e hp>=(cB5 ie ae9,hp):=λ v hv=>by refine yI (nw:=false) (m:=ae9) (EY (M7 Á)) im A4 d;obtain⟨k,h,rfl⟩:=j x hx;have:=ok.low k h v hv;refine ω (at8 db0 y NN (as6 (E1,hp) _ hv) Á rfl);show í (CO (v<=k),hp)=_;rw[C0 this]
  have c1:∀v,aZ6 v->qz e hp>=(cB5 ie ae9,hp):=λ v hv=>by refine yI (nw:=false) (m:=ae9) (EY (M7 Á)) im A4 d;obtain⟨k,h,rfl⟩:=j x hx;have:=ok.high k h v hv;refine ω (at8 NN y db0 Á (as6 (ϻ,hp) _ hv) rfl);show í (CO (k<v),hp)=_;rw[C0 this]
  refine av8 e;refine Qo (Qs (cb9 i 1 [sf,S0,PZ,ϻ,iE])) (AB aH e (cb9 i 3 [sf,S0,PZ,ϻ,iE]) ?_);refine Ŀ (ZR (QS (MN o))) ?_;have z:aN (cE4 ė (df2 vG qA)) aF3 Zg e hp>=(Ŭ e,hp):=by
    refine(Q8 ?_);cases c:b with
    |none=>exact VT (QS (bG5 Ę (E1,hp) _ c))
    |some v=>exact à (ya (QS (bG5 db0 (E1,hp) _ c))) (ZR (QS (MN (c2 v c))))
  have r:aN (cE4 Š (df2 vG qz)) aF3 Zg e hp>=(Ŭ e,hp):=by
    refine(Q8 ?_);cases c:p.hi with
    |none=>exact VT (QS (bG5 Ę (ϻ,hp) _ c))
    |some v=>exact à (ya (QS (bG5 db0 (ϻ,hp) _ c))) (ZR (QS (MN (c1 v c))))
  refine ϯ z r (Qv ?_);cases c:b with
  |none=>exact yM (b:=true) (bG5 Ę (E1,hp) _ c)
  |some v =>
    refine ω (yM (b:=false) (bG5 db0 (E1,hp) _ c));cases hh:p.hi with
    |none=>exact yM (b:=true) (bG5 Ę (ϻ,hp) _ hh)
    |some u=>refine ω (yM (b:=false) (bG5 (Ì u) (ϻ,hp) _ hh));have:=ok.wide u hh v c;refine ω (at8 db0 y (Ì u) (as6 (E1,hp) _ c) (as6 (ϻ,hp) _ hh) rfl);show í (CO (v<u),hp)=_;rw[C0 this]
#where
def Wb(o:am5):oN o=opt (o.map λ n:Nat=>iH):=fI o
section
variable{S:TR.Sh}{bg:TR.Bg}
def QjG{O4:Nat}{b:Ý}{p:TR.Pg}(ok:TR.JE O4 b p)(hp:Hs):qE [ť] hp>=(Ì iP,hp):=by
 let e:En:=[! ť]
 have a:B6 Ä bp e hp>=(sf,hp):=cb9 i 0 [sf,S0,PZ,ϻ,iE];have c:aq8 ZD ao9 e hp>=(Ì ϖ,hp):=Ī (g8 (cb9 i 1 [sf,S0,PZ,ϻ,iE]) (UK _ hp)) Bm;have pl:=ok.parts;refine aH1 e ?_;by_cases z:cr6
 ·rw[Cy z,Nat.add_zero]at pl;refine ω (Gj (hp1:=hp) (cA4 b ?_))
  ·exact aG9 (M9 a rfl) z
  ·exact c.trans (fN pl)
 ·rw[Cw z]at pl;refine ω (v9 (hp1:=hp) (EM b ?_))
  ·refine ω (M9 a rfl);congr 2;simp;lia
  ·refine ω (vh c rfl);rw[pl];rfl
def uV{O4:Nat}{b:Ý}{p:TR.Pg}(ok:TR.JE O4 b p)(j:(bD8/\bD9)∨∃(x:Int)(s:Nat),aZ6 x/\cR9)(o:E8 O4)(w:Hs)(m:Int):XG [Ì m,ť,sf,E1,iE] w>=(TD,w++bX8):=by
 let e:En:=[cB7,! ť,Ô p.lv,! E1,! iE,! Į]
 let v:=w++cd5
 have r:B6 ė bp e v>=(sf,v):=cb9 i 0 [sf,S0,PZ,ϻ,iE];have u:aq8 ZD (ϕ 1 2) e v>=(Ì iP,v):=Ī (g8 (cb9 i 2 [sf,S0,PZ,ϻ,iE]) (UK _ v)) Bm;have c:B6 ė (Ě 3) e v>=(ϻ,v):=cb9 i 3 [sf,S0,PZ,ϻ,iE];have a:B6 ė (Ě 4) e v>=(iE,v):=cb9 i 4 [sf,S0,PZ,ϻ,iE];refine av8 e;refine bV3 e v rfl;refine Ŀ (aU1 r Á (R4 _ _)) ?_;refine Ŀ (ZR (QS (Ο FM (Qgc ok o v)))) ?_;refine Ŀ (aU1 u (bS7 (QjG ok v)) (R4 _ _)) ?_;refine NR ?_ Á;have d:Qh cI (OC (ϕ 1 3)) (OC (ϕ 1 4)) e v>=(Θ,v):=by
  rcases j with ⟨h1,h2⟩|⟨x,s,h1,h2⟩
  ·exact at8 Η y Η (bG4 Ę (Ũ c h1)) (bG4 Ę (Ũ a h2)) (RN _ _)
  ·exact at8 Θ y Θ (bG4 (Ì x) (Ũ c h1)) (bG4 (Ì s) (Ũ a h2)) (RN _ _)
 refine bd6 (QS d) cz9;rw[Wb]at a;refine ω (Qk a (y:=opt (p.sd.map λ n:Nat=>iH)) (Fh (í (iE,v)=_) Wb) (Q_ _ _ _));simp;rfl
def Qat{b:Ý}{p:TR.Pg}{r:Ċ}{a:Nat}{w:Hs}(E:zu w[a]? aG4)(Q:iP=ϖ+1)(hl:bU4)(P:Œ j x Int (cm4>=x->∃c:Nat,x=aY7/\c∈r/\bO9=TR.JB b p.ks j))(m:Int):qd [Ì m,ť,E1,ν] w>=(TD,w++bX8):=by
  let v:=w++cd5
  have Z:a<Ĥ:=Zx E;have u:zu v[a]? aG4:=rj ((w++_)[a]?=_) (Ag Z) E
  let o:Û:=E1::ĺ
  let J:bq6:=λ i=>[cB7,! ť,! E1,IF,mT Ĩ,mT o,! Į,match i with|0=>ļ|j+1=>ķ j,match i with|0=>ļ|j+1=>Ó (match cm4 with|some x=>Ì x|none=>Ę)]
  have e:=MH (b:=aX3 d 7 d (qL env')) J v (ZL 0 iP) (λ i d hd=>by
    obtain⟨hi,L⟩:=N8 hd;subst L;have hx:Ϥ p.ps p.ps[i]:=cf5;obtain⟨c,C,z,G⟩:=P i _ hx
    let z8:Sl:=match i with|0=>ļ|j+1=>Ó (match cm4 with|some x=>Ì x|none=>Ę)
    let I:En:=[cB7,! ť,! E1,IF,mT Ĩ,mT o,! Į,bt4,z8]
    let e8:En:=[cB7,! ť,! E1,IF,mT Ĩ,mT o,! Į,bt4,ķ c]
    have U:J (i+1)=e8:=by show[_,_,_,_,_,_,_,_,aM8 (match Ű p.ps with|some x=>f4 x|none=>DV.non)]=_;rw[hx,C]
    rw[U];show qL I v=_;refine Tb e8 v (lr i i Ĩ Á Á (by rw[Bq,hx,C];rfl)) (Q8 ?_);have O:Qh mD AN (Ic 5) e8 v>=(Θ,v):=by refine ω (at8 (Ć i) y (Ć ⇑o) Á (Zt Ÿ (UK _ v)) rfl);show í (CO (aB5 o<=LT),v)=_;rw[C5 (by show ¬ (aB5 (E1::ie)<=LT);rw[A8,Bm];lia)]
    have wi:Ϥ o (opt (TR.JB b p.ks i)):=by
      cases i with
      |zero=>rfl
      |succ i=>show Ϥ ie (opt (Ű p.ks));rw[Bq,Ab À];rfl
    refine bd6 (QS O) (bd6 (QS (at8 (Ć c) y ν Á Á (Qn0 u (vi c z)))) cz9);refine ω (at8 (PR c) y (PR c) (at8 ν y (Ć c) Á Á (WQ u (vi c z))) (lr i i o Á Á (ϓ wi G)) (Q_ _ _ _));simp)
  rw[Xt]at e;refine av8 (J iP)
  let F:En:=[cB7,! ť,! E1,IF,mT Ĩ,ļ,ļ,ļ,ļ]
  refine bV3 F w (cb9 i 2 [sf,S0,PZ,ϻ,iE]);have s5:Qh Zq cx2 (ϕ 1 1) F w>=(ì o,w):=aG5 (at8 (ì [E1]) y S0 (Jj Ÿ Ø) (cb9 i 1 [sf,S0,PZ,ϻ,iE]) ?_) ((ai9 ([E1]++ie) >>= λ_=>Pa ([E1]++ie):ġ) w=_) (Ju (by rw[Am,Bm];simp;lia))
  refine Qo (Qs s5) (Tb ap6 v rfl (TC (qw (ds:=ZL 0 iP) (cK9 m iP ?_ À) e) Á));exact Ī (Zt Ÿ (UK Ĩ v)) Bm
#where
section
variable{S:TR.Sh}{bg:TR.Bg}
def DF(T:nX S){n:Nat}{r:Ċ}(h:Row S n r)(o:Ν Μ):(∀{i m:Nat},Ϥ r m->∃p,Nn m p/\qF bg r (i+1)=ϻ)/\qF bg r 0=Ę:=by
 obtain⟨z,hn,c,nd,mem⟩:=h;refine CA (λ{i m} u=>?_)
 ·obtain⟨p,h1,h2⟩:=QaW c u;refine mY p h1;unfold qF;rcases aM1 m h1 with ⟨a,d⟩|⟨x,s,q,a,d,v,y,j⟩
  ·rw[<- h2,d,a];rfl
  ·rw[<- h2,d,a];show PR s=_;rw[j]
 ·obtain⟨C,e⟩:=jR c;unfold qF;rw[e];show opt Μ=_;rw[o];rfl
def vn{w v:Hs}{o:aG}{fa:cB}{a x:Nat}(d:cY5 w>=(ν,w))(ha:de3 a [])(hf:aY4 w>=([æ x],v))(c:eH v a [])(hx:eH v x []):ZV (ZP ĉ Xl o fa) env w>=(m4,v):=by have:=VU d ha hf c hx Ê;rw[nv (([]:Û)++[]=[]),Ol c]at this;exact ZH this
def QX{w t:Hs}{i:Nat}(h:AY w):AY (w++t):=Æ (Ag (Zx h)) h
def zj(w:Hs)(x:OV):(w++[x])[Ĥ]?>=x:=cG4
def yq(T:nX S)(hr:E8 S.O4){n:Nat}{r rb:Ċ}(row:Row S n r)(hb:Ν Μ){lv:Nat}(lU:∀p,hU>=p->cr5 lv)(a8:lP<cA6)(a9:rb.length<cA6)(P:rb.Nodup)
  (hbe:(∀{i m:Nat},Ϥ rb m->∃p,Nn m p/\qF bg rb (i+1)=ϻ)/\qF bg rb 0=Ę) (Ie:0<lv->∀c q,No c->q.lv+1=lv->c∈rb) {w:Hs} {a:Nat} {dB:DV} (ha:de3 a AO) (hB:wW w dB (nD rb)) :
  ∃(t:Hs)(x:Nat),zG [bX,ν,Ć lv,dB] w>=(æ x,w++t)/\eH (w++t) x []:=by
 have pA:=row;obtain⟨p0,hn,c,nd,mem⟩:=row;have l0:=lU p0 hn;obtain⟨J,I⟩:=DF T pA hb
 let w1:=w++[OV.aL aG4]
 let o:=w1++[OV.aL cO5]
 let e:=o++cd5
 have Z:az1=Ĥ+1:=Ģ w1
 have L2:⇑o=Ĥ+2:=fA o w1
 have d1:zu e[Ĥ]? aG4:=bb6 (zj w _);have d2:zu e[Ĥ+1]? cO5:=ir (zj w1 (OV.aL cO5)) Z (QX this)
 have y:eH e (Ĥ+2) []:=ir (zj o bq7) L2 this
 have a3:eH e a AO:=bb6 (QX ha);have O:wW w1 dB (nD rb):=by
  rcases hB with h|⟨k,h1,h2⟩
  ·exact aV0
  ·exact Ĉ ⟨k,h1,QX h2⟩
 let E:Sl->Sl->Sl->Sl->En:=λ z7 z8 z9 i_=>[! bX,IF,ķ lv,! dB,! Į,ϭ (Ĥ+1),ϭ (Ĥ+2),z7,z8,z9,i_]
 obtain⟨u,hp',e4,Q,y7,y8,y9,U,rfl,rfl⟩:=Gk (b:=IV d u (aP8 7 d) (XO u)) (λ_ env hp=>∃(t:Hs)(z7 z8 z9 i_:Sl),env=E z7 z8 z9 i_/\hp=e++t) lP (E ļ ļ ļ ļ) e ⟨[],ļ,ļ,ļ,ļ,rfl,Ê⟩ (λ i hi env hp aD=>by
  obtain⟨t,z7,z8,z9,i_,e1,e2⟩:=aD;subst e1 e2;have hm:Ϥ r r[i]:=cf5;obtain⟨p,z,p2⟩:=QaW c hm;have pl:cr5 lv:=by obtain⟨q,q1,q2⟩:=(mem r[i]).mp (Bx hi);rw[z]at q1;cases q1;lia
  have ok:=AR r[i] p z;have lk:(bD8/\bD9)∨∃(x:Int)(s:Nat),aZ6 x/\cR9:=by
   rcases aM1 r[i] z with h|⟨x,s,q,a1,a2,_⟩
   ·exact aV0
   ·exact aV4 x s a1 a2
  let v:=e++t
  let L:=E bt4 z8 z9 i_
  let e8:=E bt4 (ķ r[i]) z9 i_
  let e9:=E bt4 (ķ r[i]) (Ó ť) i_
  let e10:=E bt4 (ķ r[i]) (Ó ť) (Ó iE)
  have F:eH v a AO:=QX a3;have s8:B6 ė AN L v>=(Ć r[i],v):=zO (i:=i) Á F Á (Ft hm);have s9:B6 Ä bI0 e8 v>=(ť,v):=Y3 (i:=r[i]) (ds:=Ε) Á Á (zr z);have m8:QK ZD gg e9 v>=(Ì lP,v):=ϓ (cA0 n a F) j7
  have nx:Qh Zq AN bS e9 v>=(Ć (i+1:Nat),v):=jL (i:=i) (j:=1) Á rfl;have rJ:cP (nB cC (be0 7) (Ic 1)) (cx ė (be0 7)) dO e9 v>=(iE,v):=by
   by_cases q:i+1<lP
   ·have h':r[i+1]?>=r[i+1]:=Ab q;refine ω (Gj (hp1:=v) (cA4 b (Ī (W_ nx m8) aq0)));rw[p2,h'];exact zO (i:=i+1) Á F nx (Ft h')
   ·refine ω (v9 (hp1:=v) (EM b (Ī (W_ nx m8) ap0)));rw[p2,Cj À];rfl
  have RK:∀(v':Hs)(h:zu v'[Ĥ]? aG4),B6 ũ bI0 e10 v'>=(PR r[i],v'):=λ v' h=>Qk Á Á (WQ h (vi r[i] (Bx hi)));have pf:XG [Ć r[i],ť,Ć lv,PR r[i],iE] v>=(æ ⇑v,v++bX8):=ir (uV ok lk hr v (Î r[i])) pl this
  let v':=v++cd5
  have x1:ZV (eQ ĉ Xl i9 (IN 5 XG 8 (Ç 9 (Ç 2 (Qc (cx ũ bI0) (û 10)))))) e10 v>=(Ŭ e10,v') :=
   vn (a:=Ĥ+2) (x:=⇑v) Á (QX y) (QG (Ο (sV Á Á Á (RK v (QX d1)) Á) pf)) (bb6 y) (zj v _)
  by_cases lz:0<lv
  ·have pp:=ok.parts;rw[fw]at pp;have kf:qd [Ć r[i],ť,PR r[i],æ (Ĥ+1)] v'>=(æ ⇑v',v'++bX8):=Qat (r:=rb) (bb6 d2) pp (Bh ok.few hr) (λ j x hx=>by obtain⟨cc,q,G,C,b3,b4⟩:=T.kid r[i] p z À j x hx;exact⟨cc,G,Ie lz cc q C À,b4⟩) _
   refine⟨e10,v'++bX8,?_,t++bX8++bX8,_,_,_,_,rfl,fA v' v⟩;show XO L v=_;refine ϯ (Qs s8) (Qs s9) (ϯ (Qs rJ) x1 (Jf (hp1:=v') (cA4 b ?_) ?_))
   ·exact Ī (ud (i:=Î lv) Á rfl) aq0
   ·exact vn (a:=Ĥ+2) (x:=⇑v') Á (bb6 y) (QG (Ο (sW Á Á (RK v' (bb6 d1)) Á) kf)) (bb6 (QX y)) (zj v' _)
  ·refine⟨e10,v',?_,t++bX8,_,_,_,_,rfl,fA v' v⟩;show XO L v=_;refine ϯ (Qs s8) (Qs s9) (ϯ (Qs rJ) x1 (Q8 (hp1:=v') (EM b ?_)));exact Ī (ud (i:=Î lv) Á rfl) ap0)
 refine⟨[OV.aL aG4,OV.aL cO5,bq7]++Q,Ĥ+2,av8 (E y7 y8 y9 U),by have:=QX (t:=Q) y;simpa [e,o,w1]using this⟩;have G:=QaO (S:=S) (bg:=bg) J I nd À (w:=w) (d:=ν) (Ĉ (Ņ a ha));have C:=QaO (S:=S) (bg:=bg) hbe.1 hbe.2 P À (w:=w1) (d:=dB) O;rw[Z]at C;refine bV3 [! bX,IF,ķ lv,! dB,! Į,ļ,ļ,ļ,ļ,ļ,ļ] w1 (Ο FM G);refine bV3 [! bX,IF,ķ lv,! dB,! Į,ϭ (Ĥ+1),ļ,ļ,ļ,ļ,ļ] o (Ο FM C);have n3:Xj Qj [! bX,IF,ķ lv,! dB,! Į,ϭ (Ĥ+1),ļ,ļ,ļ,ļ,ļ] o>=(æ (Ĥ+2),e):=Fh (í (NG ⇑o,_)=_) L2
 refine Tb (E ļ ļ ļ ļ) e n3 (TC (qw (ds:=ZL 0 lP) (cK9 m lP (ϓ (cA0 n a a3) j7) À) e4) ?_);show í (NG (Ĥ+2),e++Q)=_;simp[e,o,w1]
#where
section
variable{S:TR.Sh}{bg:TR.Bg}
def Row.lt(T:nX S){n:Nat}{r:Ċ}(h:Row S n r):lP<=Ú:=by obtain⟨p,hn,c,nd,mem⟩:=h;rw[TR.N6 T nd mem];exact Bh (Bz _ _) Ê
def QiJ(T:nX S)(hr:E8 S.O4){rt:TR.Pg}(ht:ai0 rt)(hN:cU1<cA6){w:Hs}{n k:Nat}{rm a b:Int}(h1:cO0 w[n]? rm k je a b)(h2:de3 k Ε):
  ∃(t:Hs)(x:Nat),vB [O0] w>=(æ x,w++t)/\eH (w++t) x []:=by
 obtain⟨F,o,lf,ll,G,lv⟩:=yp T ht hN w;have rl:=G.len;have l1:1<=Ú:=ī (Zx ht)
 have pN:Ú<cA6:=sn (cU0 1<=cU1) dd4
 have R9:bG3<cA6:=sn (bG3 * 1<=cU1) (Δ l1)
 have lg:=lf.get T rt ht
 let w1:=cs1 o
 let y:=w1++cd5
 let N:=az1
 have I:eH y Ĥ (yt (Ĥ+2) ⇑o):=QX (DQ w o);have r2:E6 i r Ċ (Ϥ o r->eH y (Ĥ+2+i) AO):=λ h=>QX (DP h);have Q:eH y N []:=zj w1 _
 let E:Sl->Sl->Sl->En:=λ z4 z5 z6=>[bK0,! bX,! Į,ϭ N,z4,z5,z6]
 obtain⟨C,hp',J,t4,y4,y5,y6,rfl,rfl⟩:=Gk (b:=IV d C (aP8 4 d) (jY C)) (λ_ env hp=>∃(t:Hs)(z4 z5 z6:Sl),env=E z4 z5 z6/\hp=y++t) ⇑o (E ļ ļ ļ) y (NW [] ļ ļ ļ Ê) (λ i hi env hp aD=>by
  obtain⟨t,z4,z5,z6,e1,e2⟩:=aD;subst e1 e2
  let v:=y++t
  have il:i<⇑F:=À
  have hl:Ϥ F F[i]:=Ab il;obtain⟨r,P,row⟩:=G.get hl;obtain⟨q,q1,q2,q3⟩:=lg.2 i _ hl
  let lvl:=rt.lv-i
  have m8:∀e:En,Qb 2 e v>=(TD,v)->QK ZD sD e v>=(Ì ⇑o,v):=λ e he=>ϓ (JA (n:=Ĥ) he cY3) yv
  let J:=E bt4 z5 z6
  let e5:=E bt4 (ķ lvl) z6
  have s5:Qh qS (Þ qS cN4 1) ũ J v>=(Ć lvl,v):=by refine ω (vt (vt (m8 J Á) rfl) Á);congr 3;show aB5 o-1-LT=Î (rt.lv-i:Nat);lia
  have g0:B6 ĳ ũ e5 v>=(æ (Ĥ+2+i),v):=zO (i:=i) Á cY3 Á (yu hi);have wj:∀p,Nn F[i] p->cr5 lvl:=λ p hp=>by rw[q1]at hp;cases hp;show q.lv=rt.lv-i;lia
  by_cases z:0<lvl
  ·have i1:i+1<⇑F:=by show _;have:0<rt.lv-i:=z;lia
   have O:F[i+1]?>=F[i+1]:=Ab i1;obtain⟨rb,ab,U⟩:=G.get O;obtain⟨qb,tO,ad,ac⟩:=lg.2 (i+1) _ O;have nb:rb.Nodup:=let ⟨_,_,_,nd,_⟩:=U;nd;obtain⟨t',x,Z,f2⟩:=yq T hr row q3 wj (Bs (row.lt T) pN) (Bs (U.lt T) pN) nb (DF T U ac) (λ_ c qc a8 a9=>by obtain⟨pb,L,_,_,Hx⟩:=U;rw[tO]at L;cases L;exact(Hx c).mpr ⟨qc,a8,sn (qc.lv+1=rt.lv-i) a9⟩) (w:=v) (a:=Ĥ+2+i) (dB:=æ (Ĥ+2+(i+1))) (QX (r2 P)) (Ĉ (Ņ _ (QX (r2 ab))))
   have s6:cP (aL3 dh 5 0) (cx ĳ (be0 4)) (YY Qj) e5 v>=(æ (Ĥ+2+(i+1)),v):=by refine ω (Gj (hp1:=v) (cA4 b (Ī (ud (i:=Î lvl) Á rfl) aq0)));exact zO (i:=i+1) Á cY3 (jL (i:=i) (j:=1) Á rfl) (yu À)
   refine⟨E bt4 (ķ lvl) (bI (Ĥ+2+(i+1))),v++t',?_,t++t',_,_,_,rfl,Ģ v⟩;show jY J v=_;refine ϯ (Qs s5) (Qs s6) ?_;exact vn (a:=N) (x:=x) Á (QX Q) (QG (Ο (sW Á (zO (i:=i) Á cY3 Á (yu hi)) Á Á) Z)) (bb6 Q) f2
  ·obtain⟨t',x,Z,f2⟩:=yq T hr (rb:=[]) row q3 wj (Bs (row.lt T) pN) Ê List.nodup_nil (bT (λ{i m} h=>iS h)) (λ h=>Ĝ h z) (w:=v) (a:=Ĥ+2+i) (dB:=bG) (QX (r2 P)) ĭ;have s6:cP (aL3 dh 5 0) (cx ĳ (be0 4)) (YY Qj) e5 v>=(bG,v):=by refine aJ1 (v9 (hp1:=v) (EM b (Ī (ud (i:=Î lvl) Á rfl) ap0)))
   refine⟨E bt4 (ķ lvl) (Ó bG),v++t',?_,t++t',_,_,_,rfl,Ģ v⟩;show jY J v=_;refine ϯ (Qs s5) (Qs s6) ?_;exact vn (a:=N) (x:=x) Á (QX Q) (QG (Ο (sW Á (zO (i:=i) Á cY3 Á (yu hi)) Á Á) Z)) (bb6 Q) f2)
 have wk:∃u,y++t4=w++u:=İ ((ez (yt (Ĥ+2) ⇑o)::OV.aL (cT o.flatten)::o.map λ r=>ez AO)++cd5++t4) (by simp[y,w1,Wk]);obtain⟨u,eu⟩:=wk;refine⟨u,N,av8 (E y4 y5 y6),ð eu (QX Q)⟩;rw[<- eu];refine bV3 [bK0,! bX,ļ,ļ,ļ,ļ,ļ] w (QT (a:=n) Á h1 rfl Xz rfl (gb h1 h2));refine bV3 [bK0,! bX,! Į,ļ,ļ,ļ,ļ] w1 (be6 (QT (a:=n) Á h1 (Uc ..) Xz rfl (N7 h1)) lv);refine Tb (E ļ ļ ļ) y rfl (TC (qw (ds:=ZL 0 ⇑o) (cK9 m ⇑o (ϓ (cA0 n Ĥ I) yv) À) J) Á)
def Qmj(T:nX S)(j:E8 S.O4){rt:TR.Pg}(o:ai0 rt)(i:cU1<cA6){w:Hs}{n k:Nat}{rm a b:Int}(h1:cO0 w[n]? rm k je a b)(h2:de3 k Ε):
  ∃t:Hs,Ys [O0] w>=(Η,w++t):=by
 obtain⟨t,x,c,e⟩:=QiJ T j o i h1 h2;exact İ t (aH1 [bK0] (at8 (æ x) y bG (bS7 c) rfl (Qkt (n:=0) e (Tk d hd hd) Â)))
#where
section
variable{S:TR.Sh}{bg:TR.Bg}
def xw(S:TR.Sh)(m:Nat):â Int Int:=match ø m with
 |some p=>ar7
 |none=>[]
def RC:∀(a b:Ŗ),qW (a.map .int) (b.map .int)=aQ (a.zip b)
  | [],_=>fA qW aQ
  |_::_,[]=>fA qW aQ
  |x::xs,y::ys=>ł (DV.tup [Ì x,Ì y]::qW (nj .int) (ys.map .int)) _ (RC xs ys)
def Qmr{row tb:Nat}(rt:row≠tb){r:Ċ}{M:Nat}(G:∀m∈r,∃p,Nn m p/\eM ar7<=M)(hl:lP * M<MM)(O:lP<MM){w:Hs}(v:de3 row AO)(C:de3 tb [])(N:Nat):
    ∃(z3:Sl)(hp':Hs),Pp (yf (fQ row) (IV d c (aP8 3 d) (qk c)) ŀ 0 [ϭ N,! bX,ϭ tb,ļ] w) (Ŭ [ϭ N,! bX,ϭ tb,z3])/\cD8 hp' tb bB9/\∀i x,i≠tb->AY w->AY hp':=by
  have z:∀i,i<=lP->⇑((ac7).flatMap bB8)<=i * M:=by
    intro i;induction i with
    |zero=>intro _;simp
    |succ i U =>
      intro hi;have u:i<lP:=À
      have:=U À;obtain⟨p,y,Z⟩:=G r[i] (Bx u);rw[aa4 u,List.flatMap_append,Am];have e:([r[i]].flatMap bB8)=ar7:=fA xw y
      rw[e,Nat.add_mul,Nat.one_mul];lia
  have:=Ow (b:=IV d c (aP8 3 d) (qk c)) (env:=[ϭ N,! bX,ϭ tb,ļ]) (hp:=w) (nxt:=fQ row) (Q:=λ q h=>q.1=.nx/\∃z3:Sl,q.2=[ϭ N,! bX,ϭ tb,z3]/\cD8 h tb bB9/\∀i x,i≠tb->AY w->AY h)
    AO (λ i env h=>i<=lP/\∃z3:Sl,env=[ϭ N,! bX,ϭ tb,z3]/\cD8 h tb ((ac7).flatMap bB8)/\∀i x,i≠tb->AY w->AY h) (ĸ j7)
    (λ i env h hi ⟨_,z3,e1,e2,e3⟩=>KS (e3 row _ rt v) i) (t6 up ļ C (λ i x _ h=>h))
    (λ i d hd env h J=>by
      obtain⟨_,z3,e1,e2,e3⟩:=J;subst e1;have u:i<lP:=ir aM6 j7 this
      have P:Ϥ r r[i]:=Ab u;rw[Ft P]at hd;cases hd;obtain⟨p,y,Z⟩:=G r[i] (Bx u)
      let e:En:=[ϭ N,! bX,ϭ tb,ķ r[i]]
      have I:B6 ė Š e h>=(ť,h):=Y3 (i:=r[i]) (ds:=Ε) Á Á (zr y);have zz:Et (dh9 Š 1) (dh9 Š 2) e h>=(æ ⇑h,h++[bo7 ar7]):=bE Et (Qe (MB (ds:=ĺ) (es:=Ĩ) (bT6 i 1 [sf,S0,PZ,ϻ,iE] I) (bT6 i 2 [sf,S0,PZ,ϻ,iE] I))) RC
      have b:=z i À;have ml:i * M+M<=lP * M:=by have:=Nat.mul_le_mul_right M (Ő (i+1<=lP));rw[Nat.add_mul,Nat.one_mul]at this;exact this
      have ex:=VU (a:=tb) (b:=⇑h) (ds:=aQ ((ac7).flatMap bB8)) (es:=aQ ar7) (env:=e) (o:=ĳ) Á e2 (QG zz) (QX e2) (zj h _) (an9 YJ YJ);have tl:tb<⇑h:=Zx e2;refine WP.of (x:=Ŭ e) (hp':=Y2 (h++[aW2 ar7]) tb (ez (aQ ((ac7).flatMap bB8)++aQ ar7))) ?_ (t6 À _ ?_ (pM j x F hx))
      . show qk e h=_
        exact ZH ex
      . rw[As (ĸ Am),HC]
        congr 3;rw[aa4 u,List.flatMap_append];congr 1;simp[xw,y]
      . rw[kb F]
        exact QX (e3 j x F hx)) (λ env h ⟨_,z3,e1,e2,e3⟩=>⟨rfl,z3,e1,by rw[j7,List.take_length]at e2;exact e2,e3⟩)
  obtain⟨⟨L,c⟩,h',e,q1,z3,E,q3,q4⟩:=this;have q1:L=.nx:=q1;have E:c=[ϭ N,! bX,ϭ tb,z3]:=E;subst q1 E;exact⟨z3,h',e,q3,q4⟩
def Qms(T:nX S)(z:E8 S.O4){rt:TR.Pg}(E:ai0 rt)(P:cU1<cA6)(hM:Ú * (S.O4+1)<MM){w:Hs}{n k:Nat}{rm a b:Int}(h1:cO0 w[n]? rm k je a b)(h2:de3 k Ε):
  ∃(c:Nat)(r:Ċ)(hp':Hs),Row S c r/\Ν bO9/\(∀q,No c->q.lv=0)/\Pp (Jd [O0] w) TD/\cD8 hp' Ĥ bB9/\Œ i x OV (AY w->AY hp'):=by
 let w1:=w++cd5
 have L1:az1=Ĥ+1:=Ģ w1
 obtain⟨F,j,lf,ll,u,lv⟩:=yp T E P w1;have rl:=u.len;have Z:=lf.get T rt E;have hl:F[rt.lv]?>=(F[rt.lv]' À):=Ab _;obtain⟨r,v,row⟩:=u.get hl;obtain⟨q,q1,q2,q3⟩:=Z.2 rt.lv _ hl;have tH:=row.lt T;have pA:=row;obtain⟨pr,a8,_,_,I⟩:=row
 let d:=Wk w1 j
 have tb:eH d Ĥ []:=rj ((Wk w1 j)[Ĥ]?=_) (We À) (zj w _)
 have C:eH d (az1+2+rt.lv) AO:=DP v;have r9:lP<MM:=sn (Ú * 1<=Ú * (S.O4+1)) (Δ À)
 obtain⟨z3,hp',J,L,O⟩:=Qmr (S:=S) (row:=az1+2+rt.lv) (tb:=Ĥ) À (r:=r) (M:=S.O4+1) (λ m Q=>by obtain⟨p,G,p2⟩:=(I m).mp Q;refine mY p G;have ok:=AR m p G;have:=ok.few;unfold TR.prs;rw[List.length_zip];lia) (Bs (Χ tH) hM) r9 (w:=d) C tb n
 refine⟨_,r,hp',pA,q3,λ q' h'=>by rw[q1]at h';cases h';lia,av8 [bK0,! bX,! Į,z3],L,ĵ i x hx⟩
 ·refine bV3 [bK0,! bX,ļ,ļ] w (QT (a:=n) Á h1 rfl Xz rfl (gb h1 h2))
  let e:En:=[bK0,! bX,! Į,ļ]
  refine Tb e w1 rfl (TC ?_ Á);have o:cO0 w1[n]? rm k je a b:=QX h1;have cl:QA 2 JP (Β 1 cQ8) e w1>=(æ az1,d):=be6 (QT (a:=n) Á o (Uc ..) Xz rfl (N7 o)) lv;have U:B6 (LL JP 1 cQ8) bm1 e w1>=(æ (az1+2+rt.lv),d):=by
   refine Qk cl (y:=Ì (-1)) rfl ?_;show(ZK az1 >>= _) d=_;rw[Φ (DQ w1 j)];show(uR (atI (yt (az1+2) Tl) (-1))) d=_;have:atI (yt (az1+2) Tl) (-1)>=↑(az1+2+rt.lv):=by unfold atI;rw[yv,QkP À];show(yt (az1+2) Tl)[Tl-1]?=_;rw[yu À];congr 2;lia
   rw[this];rfl
  have x:cR (cx (LL JP 1 cQ8) bm1) e w1>=(fQ (az1+2+rt.lv),d):=m2 cR U ((ZK _ >>= _) d=_) (Φ C)
  show jK e w1=_;unfold jK Y6;rw[Qe x];exact J
 ·have il:i<Ĥ:=Zx hx;refine O i x À ?_;show Ű (Wk w1 j)=_;rw[We À];exact QX hx
#where
def Qlp{O4:Nat}{L:TP.Lv}(O:mE){k:Nat}(i:k<L.q):Gw L.rows L.m L.fork L.lv L.first k=aK (TP.Ji L k):=by
 have a:∀(c:TP.Rw)(f:Int × Int->Int),(c.map λ r=>f4 (f r))=tP (c.map f) DV.int:=λ c f=>ÿ List.map_map
 unfold Gw sO K2;show _=DV.tup [Ć L.lv,ì (ww (cE0 ((TP.Zm L.rows L.m L.fork k).drop (bd4 1 0)))),ì (ww (aN9 (TP.Zm L.rows L.m L.fork k))),opt (bL1 (k+1) (TP.YO L.rows L.m L.fork (k+1))),oN (bL1 (k+1) (pE (k+1)))];rw[a,a];by_cases e:k+1=L.q
 ·rw[Cy (é (k+1=dh7 ϰ) e),Cy (é (k+1=dh7 ϰ) e),aY0,aY0];rfl
 ·have d:=O.lO (k:=k) À;have c:=(TP.qp (rows:=L.rows) (m:=L.m) (fork:=L.fork) O.m_pos O.m3 d (k:=k+1) (sn (dh7 ϰ=L.q) rfl)).2;rw[Cw (é (¬ k+1=dh7 ϰ) e),Cw (é (¬ k+1=dh7 ϰ) e),ay0,ay0,SD c];rfl
def Qbi{O4:Nat}{L:TP.Lv}(O:mE):Xr L.rows L.m L.fork L.lv L.first=tP (TP.J6 L) aK:=by unfold Xr TP.J6;rw[List.map_map];exact List.map_congr_left λ k a=>Qlp O (bc1 a)
def DZ{O4:Nat}:bd3 k L TP.Lv P bQ4 (mE->cp9=pE L.q->Gu (O4+1) k L.rows L.m L.fork L.lv L.first (P.map aK)=tP (TP.Gv O4 k L P) aK)
  |0,L,P,O,h=>rfl
  |k+1,L,P,O,h=>by
    unfold Gu TP.Gv;have hq:dh7 ϰ=L.q:=rfl;rw[hq];have q1:=O.q1;by_cases c:L.q<=1
    . rw[cS3,cS3]
    . rw[Cw c,Cw c]
      have O':=O.next À;have a:=DZ k (TP.ZC O4 L) (P++TP.J6 (TP.ZC O4 L)) O' (by rw[Am,h];simp[TP.J6];rfl);rw[<- a,List.map_append,<- Qbi O',Bm,h];rfl
def iy(rows:TP.Rw)(O4:Nat):TP.Lv:=⟨rows,O4,false,0,0⟩
def Xq(rows:TP.Rw)(O4:Nat):bQ4:=TP.Gv O4 (ch5).q ch5 (TP.J6 ch5)
def W9{rows:TP.Rw}{O4:Nat}(c:2<=O4)(d:AS a b (a.1<b.1)):(ch5).Ok O4 where
 aX:=c
 m1:=rfl
 fk:=cC6 (λ h=>ē h) h (bh6 h)
 rise:=d
 two:=λ h=>ē h
def uU{rows:TP.Rw}{O4:Nat}(c:2<=O4)(d:AS a b (a.1<b.1)):ar6=tP Lq aK:=by have O:=W9 c d;unfold Xq;rw[<- DZ _ _ _ O (fA TP.J6 iy),<- Qbi O];rfl
def Qi5{rows:TP.Rw}{O4:Nat}(c:2<=O4)(d:AS a b (a.1<b.1)):∃bg L,TP.Pk O4 ch5 Lq bg L/\L.q=1 :=
 TP.Pk.all _ (TP.Pk.O8 (W9 c d) rfl rfl) sw
def cD(s v:Nat)(t:Int):AX:=[bK9 s,az2 OI (v+1),(aj7, Ì t),az2 "held" (v+2),az2 bZ1 (v+3)]
def QmO(s v:Nat)(t:Int):ι Ġ (cD s v t)>=(NG s):=ŕ
def jB(s v:Nat)(t:Int):ι OI (cD s v t)>=(NG (v+1)):=ŕ
def yG(s v:Nat)(t:Int):ι aj7 (cD s v t)>=(f4 t):=ŕ
def xh(s v:Nat)(t:Int):ι "held" (cD s v t)>=(NG (v+2)):=ŕ
def WN(s v:Nat)(t:Int):ι bZ1 (cD s v t)>=(NG (v+3)):=ŕ
def QrR(s v:Nat)(t u:Int):Xs (Ĭ aj7) ↥u (cD s v t)=cD s v u:=ŕ
def Qtd(s v:Nat)(t:Int):eE bA9 (cD s v t):=ŕ
def Qte(s v:Nat)(t:Int):eE bB0 (cD s v t):=ŕ
def LK(s v:Nat)(t:Int):eE oS (cD s v t):=ŕ
def LC(s v:Nat)(t:Int):eE cz4 (cD s v t):=ŕ
def Tz(s v:Nat)(t:Int):eE ae2 (cD s v t):=ŕ
def Tw(s v:Nat)(t:Int):eE Ϡ (cD s v t):=ŕ
section
variable{hp:Hs}{s v t h m:Nat}{hs ds ys:Û}
def QrD(h2:PK v>=br3)(h3:aw8 (v+1))(h4:kw (v+2) hs)(hl:h<⇑hs){d:TR.aJ}(hd:ds[t]?>=wc):
  J2 [cL5,Ì h] hp>=(ì [Ü "take", Ì h,Ì t],Y2 (Y2 (hp++[fC s (eI+1) (eI+2) aW4,F7,bG]) (v+2) (Ð (da0 h [Ì t,bp0]))) v (br2 (t+1))):=by
 let E:En:=[cl2,bt3,Ô t]
 let w1:Hs:=hp++[fC s (eI+1) (eI+2) aW4,F7,bG]
 have g:E6 i o OV (Ϥ hp o->Ϥ w1 o):=λ{i o} e=>Ej e
 let c:Hs:=bZ2 (v+2) (Ð (da0 h [Ì t,bp0]))
 have a:c[v]?>=br3:=bC8 _ _ _ _ À (g h2);have mk:JY å 3 J9 (Ś (bR9 Ġ) (cx bS0 ĳ)) E hp>=(bp0,w1):=QmF (d:=d) (ZS (Ι h2 (QmO ..)) (Qk bW0 Á (yQ h3 hd)));refine ý E (AB aH E (Ι h2 cA7) ?_);refine ň aH E c (N_ (aF9 (AA mk)) (aC0 (g h2)) (g h4) Á hl) ?_;refine ň aH E (c.set v (br2 (t+1))) (Ī (NK Á a cA7 rfl (ec ((5:Nat)<fE))) QrR) ?_;exact cK8 Á Á
#where
def QfF{nxt:NX}{t:cm9}{f:ck}{g:Rq DV}(ds:Û)(hx:∀i,i<=ã->nxt i hp>=(bD6,hp))(j:∀d∈ds,t d hp>=cI8)(hf:∀d∈ds,f d hp>=(g d,hp))(hl:ã<ŀ):JW nxt t f ŀ 0 hp>=(Af g,hp):=by
  suffices h:∀(m i n:Nat),m+i=ã->m<n->JW nxt t f n i hp>=(tP bq8 g,hp)by simpa using h ã 0 ŀ rfl hl
  intro m;induction m with
  |zero =>
    intro i n e c;obtain⟨n,rfl⟩:∃k,n=k+1:=EU (n-1);have:i=ã:=À
    subst this;have e1:=hx ã đ;rw[dg2 ds[ã]?]at e1;rw[JW,IE,Co];rfl
  |succ m o =>
    intro i n e c;obtain⟨n,rfl⟩:∃k,n=k+1:=EU (n-1);have a:i<ã:=À
    have e1:=hx i À;rw[bz4]at e1;rw[JW,IE];simp only;rw[Qe (j ds[i] cg5),Bf a];simp only[if_true];rw[Qe (hf ds[i] cg5),Qe (o (i+1) n À À)];rfl
def WJ{f:aG}{hp:Hs}{n:Nat}(h:aE>=(O0,hp))(hn:cn7):cR f env hp>=(fQ n,hp):=m2 cR h ((LM >>= _) hp=_) be7
def KS{hp:Hs}{n:Nat}{ds:Û}(hn:cn7)(i:Nat):fQ n i hp>=(bD6,hp):=õ fQ be7
def QnP{hp:Hs}{n:Nat}(hn:cn7):iW ↑n hp>=(ds,hp):=ł ((LM >>= _) hp) _ be7
def BG(p:IW DV):∀ds:Û,lD (Af (λ d=>Ζ (p d)))>=(Af p)
 | []=>rfl
 |d::r=>by rw[A9,lD,BG p r];rfl
section
variable{hp:Hs}{s v t h:Nat}{hs ds:Û}{x:Int}
def Qqa(h2:PK v>=br3)(h3:aw8 (v+1))(h4:kw (v+2) hs)(hl:⇑hs<fE):JO [cL5] hp>=(Ζ ((Î t==Î ã)&&hs.all iB),hp):=by
  let E:En:=[cl2]
  have a:YV E hp>=(Ð (hs.map λ d=>Ζ bb0),hp):=by unfold YV Z5;rw[Qe (WJ (aC0 h2) h4)];have c:=QfF (nxt:=fQ (v+2)) (t:=λ d=>X9 dj7) (f:=λ d=>Qh isD Ä dO dj7) (g:=λ d=>Ζ bb0) (hp:=hp) hs (λ i _=>KS h4 i) (λ d _=>rfl) (λ d _=>bt8) À;rw[nv (lim=ŀ),bz5];rfl
  refine aH1 E ?_;rw[Sk (Qk (Ι h2 cA7) (JA bW0 h3) (rR _ _ _))];cases (Î t==Î ã)with
  |false=>rfl
  |true=>rw[cq];refine g8 a ?_;show(iW (Ð (hs.map λ d=>Ζ bb0)) >>= _) hp=_;rw[Qe (rfl:iW (Ð (hs.map λ d=>DV.bl bb0)) hp>=(hs.map λ d=>Ζ bb0,hp)),BG];show í (DV.bl ((hs.map iB).all id),hp)=_;rw[List.all_map];rfl
def Qp9(h2:PK v>=br3)(h3:aw8 (v+1))(hl:ã<fE):ZI [cL5,d] hp>=(db1,ϙ (v+1) (cE6 [d])):=by have a:(ϙ (v+1) (cE6 [d]))[v]?>=br3:=bC8 _ _ _ _ À h2;have c:eH (ϙ (v+1) (cE6 [d])) (v+1) (ds++[d]):=JZ _ _ _ (ÿ h3);refine ý [cl2,! d] (TC (ZH (X0 bW0 h3 Á À)) (ĩ (JA (aQ1 a) c) ?_));show í (f4 (aB5 (ds++[d])-1),_)=_;rw[Am];simp
def Qr7(h2:PK v>=br3)(h4:kw (v+2) hs):Xn (eB (JQ eN cC bp ė cD9)) [cl2,Ô x] hp>=(i7 (Ib 0 x&&LU x ⇑hs),hp) :=
 ZR (QS (vQ rfl Á (JA (aC0 h2) h4) rfl rfl))
def Ng(h2:PK v>=br3)(h4:kw (v+2) hs)(hl:h<⇑hs):Xn (eB (JQ eN cC bp ė cD9)) [cl2,bt3] hp>=(ź hp):=by rw[Qr7 h2 h4,C0 (p:=cB1<=h) À,C0 (p:=Î h<⇑hs) À];rfl
def Ml(h2:PK v>=br3)(h4:kw (v+2) hs)(hd:hs[h]?>=d):bz6 (cE3 (cx Rb ė)) [cl2,bt3]>=(i7 bb0,hp) :=
 PF (Qk (aC0 h2) Á (yQ h4 hd)) rfl
def Td(h2:PK v>=br3)(h4:kw (v+2) hs)(hd:hs[h]?>=d)(hn:ć bb0)(e:Pp (XS [cL5,Ì h] hp) r):Pp (ZZ [cL5,Ì h] hp) r :=
 be1 [cl2,bt3] (Ng h2 h4 aM6) (wP (aG9 (Ml h2 h4 hd) hn) (FA h2 (Qtd ..) Ÿ e))
def Qsy(h2:PK v>=br3)(h3:aw8 (v+1))(h4:kw (v+2) hs)(hd:hs[h]?>=d)(hn:œ bb0)(a:t<ã)(e:Pp (J2 [cL5,Ì h] hp) r):Pp (ZZ [cL5,Ì h] hp) r :=
 be1 [cl2,bt3] (Ng h2 h4 aM6) (Ŀ (aG9 (Ml h2 h4 hd) hn) (wP (aU1 (Ι h2 cA7) (JA bW0 h3) (show í (CO (Î t<ã),hp)>=(Η,hp)by rw[aq0])) (FA h2 (Qte ..) Ÿ e)))
def Qsx(h2:PK v>=br3)(h3:aw8 (v+1))(h4:kw (v+2) hs)(hd:hs[h]?>=d)(hn:œ bb0)(a:¬ t<ã):ZZ [cL5,Ì h] hp>=(ì [cB8, Ì h],hp) :=
 be1 [cl2,bt3] (Ng h2 h4 aM6) (Ŀ (aG9 (Ml h2 h4 hd) hn) (NR (aU1 (Ι h2 cA7) (JA bW0 h3) (show í (CO (Î t<ã),hp)>=(Θ,hp)by rw[ap0])) (aF9 (ZS rfl Á))))
#where
def hdD(v:TR.Wk)(n a:Nat):DV:=π v.O7 Ę (ì [bo4,ν])
def Dr(i n:Nat):Rq DV
 |.tup (x::xs)=>ì ([x,dz,bo4]++xs)
 |_=>Ę
def pY(i:Nat):TR.Out->DV
 |.rest=>ì [cB8, dz]
 |.take n=>ì [Ü "take", dz,bo4]
 |.did n r=>Dr i n cs0
abbrev Dn:=d6 (Nat × TR.Wk)
def nu(x:Nat × Nat × TR.Wk):DV:=ì [Ì x.1,æ x.2.1]
def bw(Q:Dn):iO:=Q.map λ x=>(x.1,x.2.2)
def lH(s v a:Nat):ç:=(a+2<s∨s+1<a)/\(a+2<v∨v+3<a)
structure WB(w:Hs)(s v:Nat)(ds:eS)(t:TR.St)(L:et)(Q:Dn):ç where
 h1:cO0 w[s]? t.S.O4 (s+1) t.S.top t.S.rd t.S.wr
 h2:de3 (s+1) (t.S.pg.map aK)
 hv:w[v]?>=di2
 hd:de3 (v+1) cm2
 hh:∃hs,de3 (v+2) hs/\⇑hs=cc4/\dc5 i u (be9 u->Ϥ hs (hdD u (ch3 0) cW5))
 hn:de3 (v+3) bI6
 hq:⇑Q+TR.lc t.ws<=t.tk
 sv:s+1<v∨v+3<s
 ob:dc5 i u (be9 u->aB7->w[cW5]?>=(fC s (cW5+1) (cW5+2) u)/\zu w[cW5+1]? (fK u.O5)/\de3 (cW5+2) aA4/\lH s v cW5)
 dj:∀(i j:Nat)(u u':TR.Wk),i≠j->be9 u->aB7->G1 t.ws>=u'->ć u'.O7->cW5+2<L j∨L j+2<cW5
 od:∀x∈Q,(∃s',w[x.2.1]?>=(fC s' (x.2.1+1) (x.2.1+2) x.2.2))/\cD8 w (x.2.1+2) x.2.2.pairs/\œ x.2.2.O7/\lH s v x.2.1/\dc5 i u (be9 u->aB7->cW5+2<x.2.1∨x.2.1+2<cW5)
def Fp(s v:Nat)(t:TR.St)(L:et)(Q:Dn)(x:Nat):ç:=(s<=x/\x<=s+1)∨(v<=x/\x<=v+3)∨(∃i u,be9 u/\aB7/\cW5<=x/\x<=cW5+2)∨∃q∈Q,q.2.1<=x/\x<=q.2.1+2
structure Fx(P:aJ3)(w w':Hs)(P':aJ3):ç where
 len:Ĥ<=aJ9
 old:∀x,x<Ĥ->¬ P x->w'[x]?=w[x]?
 new:∀x,P' x->P x∨Ĥ<=x
section
variable{P P1 P2:aJ3}{w w1 w2:Hs}
def Fx.refl:Fx P w w P:=⟨đ,bM5,tj h h⟩
def Fx.trans(a:Fx P w w1 P1)(b:Fx P1 w1 w2 P2):Fx P w w2 P2:=by
 have l:=a.len;refine⟨Bh a.len b.len,ĵ x hx hp,A4⟩
 ·rw[b.old x À (bv1 h)]
  ·exact a.old x hx hp
  ·rcases a.new x h with h|h
   ·exact hp h
   ·lia
 ·rcases b.new x hx with h|h
  ·exact a.new x h
  ·exact Ĉ À
#where
section
variable{bg:TR.Bg}
def Eh{v:TR.Wk}{n a:Nat}(h:œ v.O7):hdD v n a=Ę:=ŵ hdD cv1
def Ei{v:TR.Wk}{n a:Nat}(h:bp1):hdD v n a=ì [bo4,ν]:=ŵ hdD (Cw (Ϝ h))
def D8{v v':TR.Wk}(a:bp1)(h:TR.Xm S v>=(Ę,S',v')):False:=by
  obtain⟨p,hp,z⟩:=TR.yY a h;cases z with
  |leaf _ _ _ _ e =>
    unfold TR.J0 at e;split at e
    . cases e
    . cases e
    . cases e
    . split at e
      . split at e<;>cases e
      . cases e
def QlV{v v':TR.Wk}{r:TR.Row}(h:TR.Xm S v>=(r,S',v'))(c:bp1):∃x xs,cs0=ì (x::xs)/\ŝ<=10:=by
  cases r with
  |non=>exact(D8 c h).elim
  |side n t=>exact fh _ _ Ø
  |down n t=>exact fh _ _ Ø
  |found n t=>exact fh _ _ Ø
  |put n t k=>exact fh _ _ Ø
  |cut n t=>exact fh _ _ Ø
  |read n ps t=>cases t with
    |none=>exact fh _ _ Ø
    |some t=>obtain⟨t,a⟩:=t;exact fh _ _ Ø
  |told n k=>exact fh _ _ Ø
  |raised n t=>exact fh _ _ Ø
def WL{v v':TR.Wk}{ws:Ã TR.Wk}{i:Nat}(h:aV9 v):TR.lc (EJ v')+É bp1 1 0=TR.lc ws+É (ć v'.O7) 1 0:=by have:=TR.Ur TR.lf ws i v v' h;unfold TR.lf at this;unfold TR.lc TR.lf;simpa using this
#where
section
variable{w:Hs}{s v f:Nat}{cF ds:eS}{t1 t t':TR.St}{L:et}{Q:Dn}{bg:TR.Bg}{b:et}{o:TR.Out}{i:Nat}
def WB.lw(A:da7):s+1<Ĥ/\v+3<Ĥ:=İ (Zx A.h2) (Zx A.hn)
def Nh(A:da7)(R:TR.Rel f cF t1 ds t)(Y:TR.aY cF t1 bg b)(hi:i<cc4)(pP:cF.length<=60)(hb:b i<=6000)(Z:cK6 t i>=(o,t')):∃w' L' Q',ZZ [cL5,dz] w>=(pY i o,w')/\da3 w' t' L' Q'/\Fx (Fp s v t L Q) w w' (Fp s v t' L' Q')/\bw Q'=sB++TR.iC t t' i:=by
  obtain⟨hs,k6,b7,ar⟩:=A.hh;have k7:=A.hn;have be:=A.hq;have bq:=Y.tk;have Pu:=R.tk;have bm:=R.len;have bh:=R.nm;have br:=R.ln;have lw:=A.lw;have sv:=A.sv;have O:=cf5;generalize t.ws[i]=u at O;have J:=ar i u O;unfold TR.mv at Z;rw[O]at Z;dsimp only at Z;cases G:u.O7 with
  |true =>
    rw[G,cq]at Z;rw[Eh G]at J;cases hd:ds[t.tk]? with
    |none =>
      rw[hd]at Z;cases Z;have le:ã<=t.tk:=Ë hd
      exact⟨w,L,Q,Qsx A.hv A.hd k6 J rfl cC7,A,Fx.refl,ϓ (TR.YQ O G) Bo⟩
    |some d =>
      rw[hd]at Z;cases Z;have lt:t.tk<ã:=aM6;have e:=QrD (h:=i) A.hv A.hd k6 À (d:=d) (Ũ Bq hd);have old:E6 x z OV (x≠v->x≠v+2->w[x]?>=z->(Y2 (Y2 (w++[fC s (Ĥ+1) (Ĥ+2) aW4,F7,bG]) (v+2) (Ð (da0 i [Ì t.tk,TD]))) v (br2 (t.tk+1)))[x]?>=z):=λ{x z} n4 n6 hx=>bQ1 (Ł n4) (Ł n6) (Ej hx);have gap:∀j x,G1 [fC s (Ĥ+1) (Ĥ+2) aW4,F7,bG]>=x->(w++[fC s (Ĥ+1) (Ĥ+2) aW4,F7,bG])[Ĥ+j]?>=x:=λ j x h=>Pv al2 Nat.add_sub_cancel_left h
      have ab:=WL (v':=aW4) O;rw[Cw (Ϝ G),Cy (nv (ć (aW4).O7))]at ab;have small:dc5 j u (G1 t.ws>=u->aB7->L j+2<Ĥ):=λ j u c C=>Zx (A.ob j u c C).2.2.1;refine⟨_,λ j=>CY j i Ĥ (L j),Q,Qsy A.hv A.hd k6 J rfl (Æ Bm lt) e,⟨cX9 A.h1,cX9 A.h2,eY (gs À (Ej A.hv)),cX9 A.hd,⟨da0 i [Ì t.tk,TD],gs À (eY (Ej k6)),Ģ b7,ĵ j u c⟩,cX9 k7,dm (⇑Q+TR.lc (ai4 aW4)<=t.tk+1),sv,pM j u c C,λ j j' u u' ad c C ac ae=>?_,A4⟩,⟨Ê,ĵ x hx hC,A4⟩,ϓ (TR.YQ O G) Bo⟩
      . rcases aM9 with ⟨rfl,e2,_⟩|⟨ne,c⟩
        . rw[e2,As À]
          show _>=(hdD aW4 ((t.ns.set j t.tk).getD j 0) (CY j j Ĥ (L j)));rw[cq,Ei rfl,TR.Uw À,cq]
        . rw[kb ne]
          show _>=(hdD u ((t.ns.set i t.tk).getD j 0) (CY j i Ĥ (L j)));rw[cv2,TR.Uw À,cv2];exact ar j u c
      . rcases aM9 with ⟨rfl,e2,_⟩|⟨ne,c⟩
        . rw[e2,cq]
          exact⟨bQ1 À À (gap 0 _ rfl),bQ1 À À (gap 1 _ rfl),bQ1 À À (gap 2 _ rfl),ag6 lH⟩
        . rw[cv2]
          obtain⟨o1,o2,o3,o4⟩:=A.ob j u c C;have o5:=o4;unfold lH at o5;exact⟨cX9 o1,cX9 o2,cX9 o3,o4⟩
      . rcases aM9 with ⟨rfl,e2,_⟩|⟨ne,b6⟩
        . rcases TR.Zd ac with ⟨rfl,e3,_⟩|⟨ax,am⟩
          . exact av9 ad
          . rw[cq,Cw ax];exact Ĉ (small _ _ am ae)
        . rcases TR.Zd ac with ⟨rfl,e3,_⟩|⟨ax,am⟩
          . rw[cv2,cq];exact ë (small _ _ b6 C)
          . rw[cv2,Cw ax];exact A.dj j j' u u' ad b6 C am ae
      . obtain⟨⟨s',p1⟩,p2,p3,p4,p5⟩:=A.od x hx
        have lx:x.2.1+2<Ĥ:=Zx p2;have p6:=p4;unfold lH at p6;refine⟨İ s' (cX9 p1),cX9 p2,p3,p4,pM j u c C⟩;rcases aM9 with ⟨rfl,e2,_⟩|⟨ne,c⟩
        . rw[cq];exact Ĉ lx
        . rw[cv2];exact p5 j u c C
      . have n1:x≠v:=λ h=>hC aW5
        have n2:x≠v+2:=λ h=>hC aW5;rw[Za _ _ _ _ (Ł n1),Za _ _ _ _ (Ł n2),Ag hx]
      . rcases hx with h|h|⟨j,u,c,C,h⟩|h
        . exact ë aV0
        . exact ë (mm h)
        . rcases aM9 with ⟨rfl,e2,_⟩|⟨ne,c⟩
          . dsimp only at h;rw[cq]at h;exact Ĉ h.1
          . dsimp only at h;rw[cv2]at h;exact ë (cj7 ⟨j,u,c,C,h⟩)
        . exact ë (cb3 h)
  |false =>
    rw[G,aE3]at Z;have Ij:Ϥ t1.ws u:=by have g:=Ab (l:=t1.ws) (i:=i) À;obtain⟨a,b⟩:=R.ws i _ u g O;rw[g,(b (a.trans G)).1]
    have W:=Y.A.ok i u Ij G;have T:=Y.T;have rm:=Y.rm;have pg:=Y.pages;have fl:=(Y.fk i u Ij G).len Y.T;have pl:=Y.pr i u Ij G;rw[R.S]at W T rm pg fl;cases es:TR.Xm t.S u with
    |none=>rw[es]at Z;cases Z
    |some q =>
      obtain⟨r,S2,F⟩:=q;rw[es]at Z;cases Z;rw[Ei G]at J;obtain⟨o1,o2,o3,o4⟩:=A.ob i u O G;have o5:=o4;unfold lH at o5;have D:fU s (s+1) cW5 (cW5+1) (cW5+2):=⟨À,À,À,À,À,À,À,À,À,À⟩;obtain⟨w1,e1,A1,F1⟩:=QoP T W (aK6 rm) ⟨A.h1,A.h2,o1,o2,o3⟩ D À À À es;obtain⟨x,xs,ex,xl⟩:=QlV es G;have k:E6 j z OV (j≠s->j≠s+1->(j<cW5∨cW5+2<j)->G1 w>=z->G1 w1>=z):=λ{j z} n2 n3 nL c=>à (F1.2 j (Zx c) n2 n3 À À À) c;have aw:=k À À À A.hv;have HF:=k À À À k6;have Rj:=k À À À k7
      let n:=ch3 0
      let Hd:DV:=ì [bo4,æ cW5]
      let E:Sl->Sl->Sl->En:=λ x y z=>[cl2,nt,x,y,z]
      let E5:En:=at1 Hd (bI cW5) (Ó cs0)
      have u1:QP 2 (cx Rb ė) (E ļ ļ ļ) w>=(Ŭ (aI5 Hd ļ),w):=Qs (Qk (aC0 A.hv) Á (yQ k6 J));have u2:QP 3 (ϕ 2 1) (aI5 Hd ļ) w>=(Ŭ (aI5 Hd (bI cW5)),w):=Qs (cs9 x Hd Á 1 w);have u3:QP 4 (AD å cy4 qX Š) (aI5 Hd (bI cW5)) w>=(Ŭ E5,w1):=Qs (FA o1 (Qo1 ..) Xz e1);have CK:eB (AD å "over" YL Š) E5 w1>=(F.O7,w1):=QS (FA A1.h3 (Qo2 ..) Xz (Qn8 A1.h3));have b8:∀w':Hs,QR (lT (nS (Pd 4) (Β 1 ax7)) (co7 ũ)) E5 w'>=((.rt (Dr i n cs0),E5),w'):=λ w'=>by
        have e0:Qb 4 E5 w'>=(ì (x::xs),w'):=ð ex Á
        refine Qv (Qk (aG0 (ĩ e0 (cs7 0 w')) Á (cs9 x Hd Á 0 w')) (yE (a:=1) e0 rfl) ?_);rw[ex];show(ai9 ([x,dz,bo4]++xs) >>= (aL0 (DV.tup ([x,dz,bo4]++xs)))) w'=_;rw[Ju ŉ];rfl
      have ab:=WL (v':=F) O;rw[Cy G]at ab;have ay:i<⇑hs:=À
      have dn:=TR.x6 (t:=t) (t':=Ħ t S S2 ws br9) O G (As hi);have ah:∀(w':Hs)(a8:Û)(Q':Dn),(Q'=π F.O7 (Q++[(n,cW5,F)]) Q)->Œ j z OV (j≠v+2->j≠v+3->G1 w1>=z->G1 w'>=z)->az1<=aJ9->(∀j,j<az1->j≠v+2->j≠v+3->G1 w'=G1 w1)->eH w' (v+2) a8->⇑a8=⇑hs->(∀j,j≠i->G1 a8=G1 hs)->Ϥ a8 (hdD F n cW5)->eH w' (v+3) (Q'.map nu)->da4 w' (Ħ t S S2 ws br9) Q'/\Fx (Fp s v t L Q) w w' (Fp s v (Ħ t S S2 ws br9) L Q')/\bw Q'=sB++TR.iC t (Ħ t S S2 ws br9) i:=by
        intro w' a8 Q' I U ll fr g6 bc ba b9 g7;have lv:dc5 j u (G1 br9>=u->aB7->∃u0,G1 t.ws>=u0/\ć u0.O7):=λ j u' c C=>by
          rcases aM9 with ⟨rfl,e2,_⟩|⟨ne,c⟩
          . exact⟨u,O,G⟩
          . exact⟨u',c,C⟩
        refine mY ⟨U s _ À À A1.h1,U _ _ À À A1.h2,U v _ À À aw,U _ _ À À (k À À À A.hd),⟨a8,g6,fA bc b7,ĵ j u c⟩,g7,?_,sv,pM j u c C,λ j j' u u' ad c C ac ae=>?_,ż y P⟩ ⟨Bh F1.1 ll,ĵ y P hC,ż y P⟩
        . rcases aM9 with ⟨rfl,e2,_⟩|⟨ne,c⟩
          . rw[e2];exact b9
          . rw[ba j ne];exact ar j u c
        . show ⇑Q'+TR.lc br9<=t.tk
          cases h2:F.O7 with
          |true=>rw[h2,cq]at I;rw[Cw (Ϝ h2)]at ab;rw[I];simp;lia
          |false=>rw[h2,aE3]at I;rw[Cy h2]at ab;rw[I];lia
        . rcases aM9 with ⟨rfl,e2,_⟩|⟨ne,c⟩
          . rw[e2];exact⟨U _ _ À À A1.h3,U _ _ À À A1.h4,U _ _ À À A1.h5,o4⟩
          . obtain⟨p1,p2,p3,p4⟩:=A.ob j u c C
            have p5:=p4;unfold lH at p5;have dd:=A.dj i j _ u (Ł ne) O G c C;exact⟨U _ _ À À (k À À À p1),U _ _ À À (k À À À p2),U _ _ À À (k À À À p3),p4⟩
        . obtain⟨u0,a1,a2⟩:=lv j u c C
          obtain⟨u1,a3,a4⟩:=lv j' u' ac ae;exact A.dj j j' u0 u1 ad a1 a2 a3 a4
        . have tR:y∈Q->(∃s',w'[y.2.1]?>=(fC s' (y.2.1+1) (y.2.1+2) y.2.2))/\cD8 w' (y.2.1+2) y.2.2.pairs/\œ y.2.2.O7/\lH s v y.2.1/\dc5 j u (G1 br9>=u->aB7->L j+2<y.2.1∨y.2.1+2<L j):=λ P=>by obtain⟨⟨s',p1⟩,p2,p3,p4,p5⟩:=A.od y P;have p6:=p4;unfold lH at p6;have q:=p5 i u O G;refine⟨İ s' (U _ _ À À (k À À À p1)),U _ _ À À (k À À À p2),p3,p4,pM j u c C⟩;obtain⟨u0,a1,a2⟩:=lv j u c C;exact p5 j u0 a1 a2
          cases h2:F.O7 with
          |false=>rw[h2,aE3]at I;rw[I]at P;exact tR P
          |true =>
            rw[h2,cq]at I;rw[I]at P;rcases A6 P with P|P
            . exact tR P
            . rw[Aq]at P
              subst P;refine⟨İ s (U _ _ (dm (cW5≠_)) (dm (cW5≠_)) A1.h3),U _ _ (dm (cW5+2≠_)) (dm (cW5+2≠_)) A1.h5,h2,o4,pM j u c C⟩;rcases aM9 with ⟨rfl,e2,_⟩|⟨ne,c⟩
              . rw[e2,h2]at C;cases C
              . exact A.dj j i u _ ne c C O G
        . have l1:=F1.1
          have n1:¬ (s<=y/\y<=s+1):=λ h=>hC aV0;have n2:¬ (v<=y/\y<=v+3):=λ h=>hC (mm h);have n3:¬ (cW5<=y/\y<=cW5+2):=λ h=>hC (cj7 ⟨i,u,O,G,h⟩);rw[fr y À À À];exact F1.2 y P À À À À À
        . rcases P with h|h|⟨j,u',c,C,h⟩|⟨q,hq,h⟩
          . exact ë aV0
          . exact ë (mm h)
          . obtain⟨u0,a1,a2⟩:=lv j u' c C
            exact ë (cj7 ⟨j,u0,a1,a2,h⟩)
          . cases h2:F.O7 with
            |false=>rw[h2,aE3]at I;rw[I]at hq;exact ë (cb3 ⟨q,hq,h⟩)
            |true =>
              rw[h2,cq]at I;rw[I]at hq;rcases A6 hq with hq|hq
              . exact ë (cb3 ⟨q,hq,h⟩)
              . rw[Aq]at hq
                subst hq;exact ë (cj7 ⟨i,u,O,G,h⟩)
        . rw[dn,I]
          cases F.O7 with
          |false=>rw[aE3,aE3,Bo]
          |true=>rw[cq,cq];unfold bw;rw[List.map_append];rfl
      cases a9:F.O7 with
      |false =>
        rw[a9]at CK;have I:Q=π F.O7 (Q++[(n,cW5,F)]) Q:=ÿ a9
        obtain⟨b1,b2,b3⟩:=ah w1 hs Q I (λ_ _ _ _ h=>h) đ (Ŝ rfl) HF rfl im (Æ (Ei a9) J) Rj;exact⟨w1,L,Q,Td A.hv k6 J rfl (bD0 E5 u1 u2 (cZ4 u3 CK (b8 w1))),b1,b2,b3⟩
      |true =>
        rw[a9]at CK;have I:Q++[(n,cW5,F)]=π F.O7 (Q++[(n,cW5,F)]) Q:=ÿ a9
        let w2:Hs:=bZ2 (v+2) (Ð (hs.set i Ę))
        have H_:w2[v]?>=di2:=gs À aw;have Ri:eH w2 (v+3) bI6:=gs À Rj
        let w3:Hs:=w2.set (v+3) (Fs bI6 [Hd])
        have u4:aN (eB (AD å "over" YL Š)) (Qr (cf7 dO Rb ė) (ZV (ZP ĉ Jg (bR9 bZ1) sD))) Zg E5 w1>=(Ŭ E5,w3):=Jf CK (ň aH E5 w2 (N_ rfl (aC0 aw) HF Á ay) (ZH (X0 (Ι H_ (WN ..)) Ri Á cC7)));obtain⟨b1,b2,b3⟩:=ah w3 (hs.set i Ę) (Q++[(n,cW5,F)]) I (λ j z n6 n7 h=>bQ1 (Ł n7) (Ł n6) h) (aG2 (az1<=⇑(Y2 (bZ2 (v+2) _) (v+3) _))) (λ j _ n6 n7=>bC8 _ _ _ _ (Ł n7) (Za _ _ _ _ (Ł n6))) (gs À (eY HF)) Ê (λ j c=>kb c) (Æ (Eh a9) (As ay)) (Æ List.map_append (eY Ri));exact⟨w3,L,Q++[(n,cW5,F)],Td A.hv k6 J rfl (bD0 E5 u1 u2 (ϯ u3 u4 (b8 w3))),b1,b2,b3⟩
#where
def Qm3{o e:aG}{hp hp1:Hs}{a:Nat}{c ds:Û}(j:cY6>=(ν,hp))(h0:kw a c)(i:aT2>=(d,hp1))(h:eH hp1 a ds)(hl:ã<ŀ):ZP ĉ Jg o (Ò e) env hp>=(Ę,hp1.set a (cE6 [d])):=by
 unfold ZP;rw[Qe j];have e2:xr ĉ ş hp>=((),hp):=ł ((ZK a >>= _) hp) _ (Φ h0)
 rw[cf9,Qe (QG i)];show(ZK a >>= _) hp1=_;rw[bt6];show(cz (ã<lim) >>= _) hp1=_;rw[C0 (ľ lim hl)];rfl
def Qm1{c:Û}{ws:Ã TR.Wk}(hl:⇑c=cR6)(h:dc5 i v (aV9 v->∃d,Ϥ c d/\bb0=v.O7)):c.all iB=ws.all cS8:=by
 rw[Bool.eq_iff_iff,List.all_eq_true,List.all_eq_true];constructor
 ·intro a v hv;obtain⟨i,hi⟩:=NL hv;obtain⟨d,h1,h2⟩:=h i v hi;rw[<- h2];exact a d (Av h1)
 ·intro a d hd;obtain⟨i,hi⟩:=NL hd;have e:=Zx hi;have hv:aV9 ws[i]:=Ab À;obtain⟨d',h1,h2⟩:=h i _ hv;rw[hi]at h1;cases h1;rw[h2];exact a _ (Av hv)
section
variable{w w':Hs}{s v f:Nat}{cF ds:eS}{t1 t t' rH:TR.St}{L:et}{Q:Dn}
def WB.lt(A:da7){x:Nat}(h:Fp s v t L Q x):x<Ĥ:=by
 have lw:=A.lw;rcases h with h|h|⟨i,u,hi,a,h⟩|⟨q,hq,h⟩
 ·lia
 ·lia
 ·have:=Zx (A.ob i u hi a).2.2.1;lia
 ·have:=Zx (A.od q hq).2.1;lia
def WB.keep(A:da7)(h:∀x,Fp s v t L Q x->w'[x]?=w[x]?):da6 w':=by
 have F:E6 j z OV (j<=1->w[s+j]?>=z->w'[s+j]?>=z):=λ{j z} l e=>à (h _ (ë À)) e;have d:E6 j z OV (j<=3->w[v+j]?>=z->w'[v+j]?>=z):=λ{j z} l e=>à (h _ aW5) e;have o:∀{i j:Nat}{u:TR.Wk}{z:OV},be9 u->aB7->j<=2->w[cW5+j]?>=z->w'[cW5+j]?>=z:=λ{i j u z} hi c l e=>à (h _ (cj7 ⟨i,u,hi,c,À⟩)) e;have E:∀{q:Nat × Nat × TR.Wk}{j:Nat}{z:OV},q∈Q->j<=2->w[q.2.1+j]?>=z->w'[q.2.1+j]?>=z:=λ{q j z} hq l e=>à (h _ (cb3 (aO8 q hq))) e;obtain⟨a,G,c1⟩:=A.hh;exact⟨F (j:=0) À A.h1,F À A.h2,d (j:=0) À A.hv,d À A.hd,⟨a,d À G,c1⟩,d À A.hn,A.hq,A.sv,λ i u hi c=>by
  obtain⟨r,y,C,I⟩:=A.ob i u hi c;exact⟨o (j:=0) hi c À r,o hi c À y,o hi c À C,I⟩,A.dj,λ x hx=>by
  obtain⟨⟨s',r⟩,y,C⟩:=A.od x hx;exact⟨İ s' (E (j:=0) hx À r),E hx À y,C⟩⟩
def WB.app(A:da7)(g:Ã OV):da6 (w++g):=A.keep λ x hx=>Ag (A.lt hx)
def Mq(A:da7)(hl:cc4<fE):JO [cL5] w>=(Ζ (TR.still ds t),w):=by
 obtain⟨j,k6,c,a⟩:=A.hh;rw[Qqa A.hv A.hd k6 À,Qm1 c λ i v hi=>⟨_,a i v hi,by
  cases d:v.O7 with
  |true=>rw[Eh d];rfl
  |false=>rw[Ei d];rfl⟩]
 congr 2;unfold TR.still;rw[Bm];congr 1;have:(Î t.tk==Î ã)=FY t.tk ã:=by
  by_cases e:t.tk=ã
  ·rw[e];simp
  ·rw[C5 e,beq_eq_false_iff_ne];lia
 rw[this]
def M8(A:da7)(d:TR.aJ)(hl:ã<fE):∃w',ZI [cL5,wc] w>=(db1,w')/\WB w' s v (ds++[d]) t L Q/\w'=bB7 (v+1) (cB5 (ds++[d]) ZQ):=by
 have sv:=A.sv;have e:=Qp9 (d:=wc) A.hv A.hd (Æ Bm hl);rw[Bm]at e;have e2:cm2++[wc]=tP (ds++[d]) ZQ:=ÿ List.map_append
 rw[e2]at e;have g:E6 j z OV (j≠v+1->G1 w>=z->G1 (bB7 (v+1) (cB5 (ds++[d]) ZQ))>=z):=λ{j z} n h=>gs (Ł n) h;obtain⟨a,E,c1⟩:=A.hh;exact⟨_,e,⟨g À A.h1,g À A.h2,g À A.hv,eY A.hd,⟨a,g À E,c1⟩,g À A.hn,A.hq,sv,λ i u hi F=>by
  obtain⟨o,r,y,c⟩:=A.ob i u hi F;have C:=c;unfold lH at C;exact⟨g À o,g À r,g À y,c⟩,A.dj,λ x hx=>by
  obtain⟨⟨s',o⟩,r,y,c,C⟩:=A.od x hx;have G:=c;unfold lH at G;exact⟨İ s' (g À o),g À r,y,c,C⟩⟩,rfl⟩
def Qkx{H fr:Nat}(pP:cF.length<=60)(Dc:0<H)(C_:H<=8){h:Nat}{os:Ã TR.Out}(R:TR.Run cF H 6000 h t1 os rH):∀(t:TR.St)(w:Hs)(L:et)(Q:Dn)(d:Û)(a:Nat),ab4 cF rH->⇑t1.ws=H->TR.Rel f cF t1 ds t->da7->¬ Fp s v t L Q fr->de3 fr d->⇑d+AH<MM->AH<a ->
    ∃t' w' L' Q' h' C,J7 (ss (bF1 cz4 JO Ä)) zo a [cl2,ϭ fr,bt3] w>=(Ŭ [cl2,ϭ fr,Ô h'],w')/\TR.Rel f cF rH ds t'/\da3 w' t' L' Q'/\eH w' fr C/\⇑C=⇑d+AH/\Fx (λ x=>Fp s v t L Q x∨x=fr) w w' (λ x=>Fp s v t' L' Q' x∨x=fr)/\bw Q'=sB++TR.K4 ds H AH h t/\TR.fX ds H AH h t>=t':=by
  induction R with
  |nil h t1=>intro t w L Q d a I hl X A nf gf hn hu;obtain⟨g,rfl⟩:∃g,a=g+1:=EU (a-1);rw[X.still]at I;have wl:=X.ln;exact⟨t,w,L,Q,h,d,vv (bu3 b (Ī (FA A.hv (LC ..) Xz (Mq A À)) I)),X,A,gf,rfl,Fx.refl,Fh (sB=sB++[]) Bo,rfl⟩
  |@cons h t1 t2 t3 o os i O yy em R ih =>
    intro t w L Q d a I hl X A nf gf hn hu;obtain⟨g,rfl⟩:∃g,a=g+1:=EU (a-1);obtain⟨bg,b,Y,hb⟩:=yy;have wl:=X.ln;have lf:=Zx gf;obtain⟨o2,t',P,_,X1,_⟩:=X.mv em;obtain⟨w1,F,G,e1,A1,r,q1⟩:=Nh A X Y À pP (hb h) P;have Ru:eH w1 fr d:=à (r.old fr lf nf) gf;have P_:¬ Fp s v t' F G fr:=λ z=>by
      rcases r.new fr z with z|z
      . exact nf z
      . lia
    obtain⟨_,_,_,u,_,l1,_⟩:=TR.Ms Y O;rw[em]at u;cases u;have Z:=X1.ln;obtain⟨a8,k6,ab,_⟩:=A1.hh;simp only[A8]at hn hu
    let j:Hs:=bZ2 fr (Fs d [pY h o2])
    have J:da3 j t' F G:=A1.keep λ x hx=>Za _ _ _ _ λ z=>P_ (z▸hx)
    let E:En:=[cl2,ϭ fr,bt3]
    have u1:ZV (eQ ĉ Jg ė (bz7 è oS 2 ZZ sD)) E w>=(Ŭ E,j):=ZH (Qm3 Á gf (FA A.hv (LK ..) Ÿ e1) Ru À);have md:((Î h+1) % (Î (H:Nat)))=Î ((h+1) % H:Nat):=Ũ Int.natCast_emod Int.natCast_add
    obtain⟨a9,k7,Ia,_⟩:=J.hh;have u2:QP 2 (Qh Xg bW4 cD9) E j>=(Ŭ [cl2,ϭ fr,Ô ((h+1) % H:Nat)],j):=Qs (at8 (Ì (Î h+1)) y (Ì (H:Nat)) bt8 (à (JA (aC0 J.hv) k7) (by rw[Ia,<- Z,l1,hl])) (Ī (aB3 _ _ À j) md));obtain⟨t4,w3,L3,Q3,h3,U,e3,X3,A3,g3,n3,F3,r3,y3⟩:=ih t' j F G (d++[pY h o2]) g I (Æ l1 hl) X1 J P_ (eY Ru) ŉ À;have i:ć (TR.still ds t):=ð X.still i
    refine⟨t4,w3,L3,Q3,h3,U,à (yZ (ac8 b false (Ī (FA A.hv (LC ..) Xz (Mq A À)) i)) (Qo u1 u2)) e3,X3,A3,g3,by rw[n3];simp;lia,?_,?_,?_⟩
    . refine Fx.trans (w1:=j) (P1:=λ x=>Fp s v t' F G x∨x=fr) ⟨rj (Ĥ<=⇑(bZ2 fr _)) List.length_set r.len,ĵ x hx hC,A4⟩ F3
      . show(bZ2 fr _)[x]?=_
        rw[Za _ _ _ _ (λ e=>hC (Ĉ e.symm))];exact r.old x hx (λ c=>hC (ë c))
      . rcases hx with hx|hx
        . rcases r.new x hx with c|c
          . exact ë (ë c)
          . exact Ĉ c
        . exact ë (Ĉ hx)
    . rw[r3,q1,Az]
      show _=sB++TR.K4 ds H (AH+1) h t;rw[TR.K4,P]
    . rw[A8,TR.fX,P];exact y3
def ua{H:Nat}(A:da7)(X:TR.Rel f cF t1 ds t)(J:cF.length<=60)(y:0<H)(u:H<=8){os:Ã TR.Out}(R:TR.Run cF H 6000 0 t1 os rH)(G:ab4 cF rH)(hl:⇑t1.ws=H)(P:AH<MM):∃t' w' d c i,ZE [cL5] w>=(TD,w')/\TR.Rel f cF rH ds t'/\da3 w' t' d c/\eH w' Ĥ i/\cu8=AH/\Fx (Fp s v t L Q) w w' (Fp s v t' d c)/\bw c=sB++TR.K4 ds H AH 0 t/\TR.fX ds H AH 0 t>=t':=by
 let fr:=Ĥ
 let a:Hs:=w++cd5
 have o:da6 a:=A.app _;obtain⟨t',w',d,c,h',i,e,C,j,gf,I,F,r⟩:=Qkx J (fr:=fr) y u R t a L Q [] ŀ G hl X o (λ z=>ī (A.lt z)) (aG2 ((w++cd5)[Ĥ]?=_)) ŉ À;have u1:QP 1 PQ [cl2,ļ,ļ] w>=(Ŭ [cl2,ϭ fr,ļ],a):=Qs rfl;have u2:QP 2 bp [cl2,ϭ fr,ļ] a>=(Ŭ [cl2,ϭ fr,Ô 0],a):=Qs rfl;have U:bv6=Ĥ+1:=Ģ a
 have O:=F.len;refine⟨t',w',d,c,i,bD0 [cl2,ϭ fr,Ô h'] u1 u2 (TC e Á),C,j,gf,Ë I,⟨À,ĵ x hx E,A4⟩,r⟩
 ·rw[F.old x À (λ z=>II z z z (E z) (Ĝ z (Bc hx)))];exact Ag hx
 ·rcases F.new x (ë hx)with (z|z)|z
  ·exact ë z
  ·exact Ĉ (aR9 z.symm)
  ·exact Ĉ À
#where
def cu(S:TR.Sh)(bg:TR.Bg)(rows:TP.Rw):ç:=∃c r p,bh4 c r/\Nn c p/\cr6/\Ν bO9/\r.Nodup/\(∀m,m∈r↔∃q,ct6/\q.lv=0)/\rows=TR.uB S r
structure Sm(S:TR.Sh)(bg:TR.Bg):ç where
 T:nX S
 rm:S.O4<=8
 ln:Ú<=130
section
variable{S:TR.Sh}{bg:TR.Bg}{rows rows':TP.Rw}{w:Hs}{s:Nat}
def cu.uniq(T:nX S)(a:cQ4 S)(b:cu S bg rows'):rows=rows':=by obtain⟨c,r,p,h1,h2,h3,h4,_,_,i⟩:=a;obtain⟨j,o,p',g1,g2,g3,g4,_,_,d⟩:=b;have e:=TR.QiX T h2 g2 À h4 g4;subst e;rw[i,d,TR.QfB h1 g1]
def cu.sorted(T:nX S)(a:cQ4 S):AS a b (a.1<b.1):=by obtain⟨c,r,p,h1,h2,h3,h4,_,_,d⟩:=a;rw[d];exact TR.Qb2 T h1 h2 h3
def cu.len(T:nX S)(a:cQ4 S):ad2 (Sc S * S.O4)/\1<=Sc S:=by obtain⟨c,r,p,h1,h2,h3,h4,h5,d,e⟩:=a;have l:=TR.N6 T h5 d;rw[e];refine İ ?_ (TR.BD h2 h3);show _<=Sc S * _;unfold TR.JF;rw[<- l];exact TR.Qbc T r
def cu.qn(T:nX S)(a:cQ4 S):ù S.O4<=Sc S:=by
 obtain⟨l,o⟩:=a.len T;have c:=T.aX;unfold TP.qn;have:(az6 rows.length+S.O4-1) / S.O4<Sc S+1:=by rw[bI5,Nat.succ_mul];have:1 * S.O4<=Sc S * S.O4:=Χ o;lia
 lia
def Sm.rt(M:Sm S bg):∃rt,ai0 rt/\cU1<cA6:=by obtain⟨rt,h1,_⟩:=M.T.root;have l:=TR.TV M.T;rw[TR.Jv h1]at l;have:=M.ln;refine⟨rt,h1,Bs (af3 (Ő (bG3<=131)) M.ln) Â⟩
def Sm.hM(M:Sm S bg):Ú * (S.O4+1)<MM:=Bs (af3 M.ln (aI9 M.rm)) Â
def Qq7:bB8=TR.oW S:=by funext m;unfold xw TR.oW;cases ø m<;>rfl
def Nr(M:Sm S bg)(h1:cO0 w[s]? S.O4 (s+1) S.top S.rd S.wr)(h2:de3 (s+1) Ε):∃rows w',cQ4 S/\Jd [æ s] w>=(TD,w')/\eH w' Ĥ al6/\∀x,x<Ĥ->w'[x]?=w[x]?:=by
 obtain⟨rt,g1,g2⟩:=M.rt;obtain⟨c,r,w',row,b,lv,e,i,kp⟩:=Qms M.T aX6 g1 g2 M.hM h1 h2;obtain⟨p,d,j,o,u⟩:=row;have a:=lv p d;refine⟨_,w',⟨c,r,p,j,d,a,b,o,λ m=>ϓ u a,rfl⟩,e,?_,A4⟩
 ·rw[i,Qq7];rfl
 ·have:=Ab hx;rw[this];exact kp x _ this
def QoO(M:Sm S bg)(h1:cO0 w[s]? S.O4 (s+1) S.top S.rd S.wr)(h2:de3 (s+1) Ε):∃g,Ys [æ s] w>=(Η,w++g):=n8 rt g1 g2 M.rt (Qmj M.T aX6 g1 g2 h1 h2)
#where
def bV(rows:TP.Rw)(O4:Nat):TR.Sh:=⟨O4,Lq,⇑Lq-1,0,⇑Lq⟩
def Qrr{rows:TP.Rw}{O4:Nat}(j:2<=O4)(i:AS a b (a.1<b.1)):∃bg,nX P8/\TR.Fk P8/\(∀n,n<ae1 P8->n≠(P8).top->TR.Kd P8 n)/\Sc P8<=ù O4:=by
 obtain⟨bg,L,P,d⟩:=Qi5 (rows:=rows) (O4:=O4) j i;obtain⟨T,r,u⟩:=P.tree d;refine⟨bg,⟨T.aX,T.root,T.mj,T.page,T.link,T.kid,T.dis,T.pred⟩,P.ne,ĵ s h1 h2,?_⟩
 ·have hp:Lq[s]?>=Lq[s]:=Ab h1;obtain⟨o,e⟩:=P.pt.lvl s _ hp;by_cases c:Lq[s].lv<L.lv
  ·exact P.pt.told s _ hp c
  ·have b:=e À;have ln:=P.pt.len;have h2:s≠eM Lq-1:=h2;have h1:s<⇑Lq:=h1;lia
 ·show _<=(ch5).q;unfold TR.JF;have:=TR.XI (l:=CD (ą ⇑Lq) (TR.cU P8 λ x=>FY x 0)) (m:=ą (ch5).q) (List.Pairwise.filter _ List.nodup_range) λ x hx=>by obtain⟨h1,h2⟩:=Bj.mp hx;have h1:x<⇑Lq:=bc1 h1;have hp:Lq[x]?>=Lq[x]:=Ab h1;refine cv7 (P.Hz x _ hp ?_);unfold TR.cU at h2;have hp':(P8).pg[x]?>=Lq[x]:=hp;rw[hp']at h2;simpa using h2
  rwa [List.length_range]at this
def QqR{rows:TP.Rw}{O4:Nat}(c:2<=O4)(j:O4<=8)(e:AS a b (a.1<b.1))(hl:ad2 300){w:Hs}{T:DV}(d:cQ w T rows):∃n w',qD [T,Ć O4] w>=(O0,w')/\Ĥ<=n/\n+1<aJ9/\(∀x,x<Ĥ->w'[x]?=w[x]?)/\cO0 w'[n]? (P8).O4 (n+1) (P8).top (P8).rd (P8).wr/\eH w' (n+1) ((P8).pg.map aK):=by
 obtain⟨t,e1,i,q1⟩:=K0 d c À hl;have pp:=uU (rows:=rows) (O4:=O4) c e;have pl:⇑ar6=⇑Lq:=ϓ pp Bm
 rw[pl]at e1 i q1;rw[pp]at e1;refine⟨_,_,e1,Ê,by simp[cX];lia,A4,bB4,El ..⟩;rw[HZ (ĸ Am),Ag hx]
def txt(i:Int):Str:=dd3 i
def pt(a b:Int):Str:=txt a++Ĭ ":"++txt b
def Ep(x y:Str):Bool:=ß (Ă (rq+⇑y))
section
variable{hp:Hs}
def Ym{i:Int}(h:i.natAbs<2 ^ 200):JD [dz] hp>=(bd5,hp):=ł ((cz (i.natAbs<2 ^ 200) >>= _) hp) _ (C0 h)
def Ov{x y:Str}(h:œ (Ep x y)):xT ϧ bC7 hp>=(Ü (x++y),hp):=ł ((QI (Ep x y) >>= _) hp) _ h
#where
def cl(x:Str):Ċ:=x.cps.toList
def WA{x y:Str}(h:FX=cl y):x=y:=by obtain⟨a⟩:=x;obtain⟨b⟩:=y;congr 1;exact Array.toList_inj.mp h
def VP(x y:Str):cl (x++y)=FX++cl y:=ł (x.cps++y.cps).toList _ Array.toList_append
def XU(x:Str):rq=⇑FX:=Fh (x.cps.size=⇑x.cps.toList) Array.length_toList
def lj(c:Nat):ő->Ċ
 | []=>[]
 | [x]=>FX
 |x::y::r=>FX++c::lj c (y::r)
def vj(c:Nat):∀ws:ő,cl (Str.join re ws)=lj c ws
  | []=>rfl
  | [x]=>rfl
  |x::y::r=>by show cl (x++re++Str.join re (y::r))=_;rw[VP,VP,vj c (y::r),Az];rfl
def BC{c:Nat}:∀(a b s t:Ċ),c∉a->c∉b->a++c::s=b++c::t->a=b/\s=t
  | [],[],s,t,_,_,h=>ā (by cases h;rfl)
  | [],y::b,s,t,_,d,h=>by cases h;simp at d
  |x::a,[],s,t,ha,_,h=>by cases h;simp at ha
  |x::a,y::b,s,t,ha,d,h=>at2 h1 h2 (List.cons.inj h) e1 e2 (BC a b s t (λ z=>ha (cT2 z)) (λ z=>d (cT2 z)) h2) (İ (ϓ h1 e1) e2)
def X_{c:Nat}:∀(ws vs:ő),ws≠[]->vs≠[]->Ps p ws (c∉cl p)->Ps p vs (c∉cl p)->lj c ws=lj c vs->ws=vs
  | [],_,h,_,_,_,_=>av9 h
  |_,[],_,h,_,_,_=>av9 h
  | [x],[y],_,_,_,_,h=>fN (WA h)
  | [x],y::z::r,_,_,hx,_,h=>by
    have:c∈FX:=rj (c∈lj c [x]) h (Ai _ ό)
    exact Ĝ this (hx x ό)
  |x::z::r,[y],_,_,_,a,h=>by
    have:c∈cl y:=by show c∈lj c [y];rw[<- h];exact Ai _ ό
    exact Ĝ this (a y ό)
  |x::d::r,y::e::q,_,_,hx,a,h=>by obtain⟨e1,e2⟩:=BC FX (cl y) _ _ (hx x ό) (a y ό) h;rw[WA e1,X_ (d::r) (e::q) Ê Ê (λ p hp=>hx p (ſ hp)) (λ p hp=>a p (ſ hp)) e2]
def blank:Str:=i0 32
def Qmk{x:Str}{ws:ő}(hn:ws≠[])(hf:∀p∈ws,32∉cl p)(hx:FX=lj 32 ws)(h0:FX≠[]):aj6 x=ws:=by
 have j:=StrLaws.join_split x blank;have a:lj 32 (aj6 x)=FX:=ð vj (OP cl j)
 refine X_ _ _ (λ z=>h0 ?_) hn (λ p hp=>StrLaws.split_free x 32 p hp) hf (ϓ a hx);rw[<- a,z];rfl
def cJ(x:Str):Str:=π (Hw x "-") (Txt.slice x (í 1) none) x
def dg(x:Str):Bool:=(FX).all λ c=>cF7
def c1(x:Str)(m:Nat):Bool:=LU 0 cc6&&Ib cc6 m&&dg oT
def c2(x:Str):Bool:=Hw oT "0" && i7 (x == "0")
def Y_{α:rV}(p:IW α):∀l:AU,lD (l.map λ a=>Ζ (p a))>=(l.map p)
 | []=>rfl
 |a::r=>by rw[A9,lD,Y_ p r];rfl
def qq{f:ck}{α:rV}(h:α->DV)(g:α->DV):∀(l:AU),Ps a l (f (h a) hp>=(g a,hp))->sS (aL0 true) f (l.map h) hp>=(l.map g,hp)
  | [],_=>rfl
  |a::r,k=>by have e:=qq (f:=f) h g r λ b c=>k b (ſ c);show((bR7:OS) >>= _) hp=_;rw[Qe (rfl:(bR7:OS) hp>=cI8)];show(f (h a) >>= _) hp=_;rw[Qe (k a ό),Qe e];rfl
section
variable{hp:Hs}{x:Str}{m:Nat}{n:Int}
def Qsd(hl:rq<=600){env:En}(h:aQ4 2>=cB6):aq8 vG (YR (pK ĳ) [] X9 (ee pJ Ä wf)) env hp>=(Ζ (dg x),hp):=by
 have c:YR (pK ĳ) [] X9 (ee pJ Ä wf) env hp>=(Ð (tT FX c (Ζ cF7)),hp):=by
  unfold YR;have s:pK ĳ env hp>=(D.kn x,hp):=hL pK aT9
  rw[Qe s,Ju (by unfold D.kn;rw[Bm];rw[XU]at hl;exact aK6 hl)];rw[Qe (rfl:cW3 hp>=((),hp))];show(sS _ _ (tT FX c (aN0 re)) >>= _) hp=_;have q:=qq (hp:=hp) (f:=λ d=>Qh pJ Ä (ĝ wf) (aP2 [] d)) (λ c=>aN0 re) (λ c=>DV.bl cF7) FX λ c _=>bG4 cj2 Á;exact cb4 q
 refine g8 c ?_;show(iW (Ð _) >>= _) hp=_;rw[Qe (rfl:iW (Ð (tT FX c (DV.bl cF7))) hp>=(_,hp)),Y_];show í (DV.bl ((tP FX _).all id),hp)=_;rw[List.all_map];rfl
def Qp1(hl:rq<=600){env:En}(h:aQ4 0>=cB6):cP (eB (eQ sM zp Ä am6)) (Dq Ä (Zh bS) Zy) Ä env hp>=(Ü oT,hp):=by
  have t:bz6 (eQ sM zp Ä am6) env>=(Hw x "-", hp):=ac1 cz9 ZP aT9
  unfold cJ;cases q:Hw x "-" with
  |true=>rw[q]at t;rw[Gj t,cq];unfold Dq;rw[Qe aT9];show(Hq ϧ (í 1) none) hp=_;show(cz (Ă rq) >>= _) hp=_;rw[C0 (Bh hl È)];rfl
  |false=>rw[q]at t;rw[v9 t,aE3];exact aT9
def neS{y:Str}(h1:Ŕ x)(h2:Ŕ y):CP ϧ bC7 hp>=(cC9 (x==y),hp):=bg8 ((QI (fO ϧ&&fO bC7) >>= _) hp=_) (yT h1) (yT h2)
def Qt8(hl:rq<=600){env:En}(h2:aQ4 2>=(Ó (Ü oT)))(h1:aQ4 1>=cB7)(hf:cc6<=600):iJ (ss (JQ cC eN bp (ű sE 2) ė)) (df2 vG (YR (pK ĳ) [] X9 (ee pJ Ä wf))) env hp>=(i7 (c1 x m),hp):=by
 have ln:QK sE sD env hp>=(Ì cc6,hp):=aG5 (g8 (ak h2) ?_) ((cz (cc6<2 ^ 62) >>= _) hp=_) (C0 (Bs hf Â))
 have ch:bz6 (JQ cC eN bp (ű sE 2) ė) env>=(LU cB1 cO4&&Ib cO4 as1,hp):=QS (vQ rfl ln (ak h1) rfl rfl);have e1:(LU cB1 cO4&&Ib cO4 as1)=(LU 0 cc6&&Ib cc6 m):=by
  congr 1
  ·exact aU8 À
  ·exact aU8 À
 rw[e1]at ch;unfold c1;cases q:(LU 0 cc6&&Ib cc6 m)with
 |false=>rw[q]at ch;exact Tg (ZR ch)
 |true=>rw[q]at ch;exact bd6 (ZR ch) (ZR (QS (Qsd hf h2)))
def Qt9{env:En}(h2:aQ4 2>=(Ó (Ü oT)))(h0:aQ4 0>=cB6)(a:Ŕ x):qV (eB (eQ sM zp ĳ (ĝ "0"))) (eB (ee CP Ä "0")) env hp>=(c2 x,hp):=by
 have t:bz6 (eQ sM zp ĳ (ĝ "0")) env>=(Hw oT "0", hp):=ac1 cz9 ZP (ak h2)
 unfold c2;cases q:Hw oT "0" with
 |false=>rw[q]at t;exact VT t
 |true=>rw[q]at t;exact à (ya t) (PF (ak h0) (neS a È))
structure NT(x:Str):ç where
 l:rq<=600
 f:cc6<=600
 s:Ŕ x
def SX(N:NT x)(h1:œ (c1 x m))(h2:ć (c2 x))(hi:ao4>=n):YF [ϧ,Ì m] hp>=(bo4,hp):=by
 let E:En:=[! ϧ,cB7,Op oT]
 refine ý E (AB aH E (Qp1 N.l rfl) ?_);refine Ŀ (aG9 (Qt8 (m:=m) N.l rfl rfl N.f) h1) ?_;refine NR (Ī (Qt9 rfl rfl N.s) h2) (Zt Ÿ ?_);show(cz (rq<=640) >>= _) hp=_;rw[C0 (aK6 N.l)];rw[Qe (rfl:cW3 hp>=((),hp)),hi];rfl
#where
def big:Nat:=þ
structure KO(x:Str)(n:Int):ç where
 N:NT x
 h1:œ (c1 x 31)
 h2:ć (c2 x)
 hi:ao4>=n
 ha:n.natAbs<=big
structure SO(x:Str)(n:Int):ç where
 N:NT x
 h1:œ (c1 x 3)
 h2:ć (c2 x)
 hi:ao4>=n
 ha:0<=n
section
variable{hp:Hs}{x y wd row:Str}{m:Nat}{n i:Int}
def QpF(env:En)(h:aQ4 1>=(Ô n)):bz6 (Qh dh (ű DN 1) bQ9) env>=(LU big n.natAbs,hp):=by refine QS (ω (bP3 (g8 aT9 rfl) (ĩ rfl (ZT S8 hp))));show í (CO ((É (n<0) (-n) n) > þ),hp)=_;congr 3;refine aU8 ?_;unfold big;split<;>lia
def QsY(K:KO x n):Yv [ϧ] hp>=(bo4,hp):=by
 let E:En:=[! ϧ,Ô n]
 exact ý E (AB aH E (be6 rfl (SX (m:=31) K.N K.h1 K.h2 K.hi)) (NR (Ī (QpF E rfl) (C5 (ī K.ha))) Á))
def Qs1(K:SO x n):qf [ϧ] hp>=(bo4,hp):=by
 let E:En:=[! ϧ,Ô n]
 exact ý E (AB aH E (be6 rfl (SX (m:=3) K.N K.h1 K.h2 K.hi)) (NR (QS (ng (show í (CO (n<0),hp)>=(Θ,hp)by rw[C5 (ī K.ha)]))) Á))
abbrev Tx:=TK
def mU(ts:Tx):Û:=ts.map λ p=>Ü oB
def pF(ts:Tx):Û:=ts.map λ p=>Ì p.2
def QnM{ts:Tx}(a:∀p∈ts,KO oB p.2)(hl:bv9 10):YR (rA ė) [] X9 (cP7 Yv) [! qs,sR bd0,ļ] hp>=(Ð (pF ts),hp):=by unfold YR;have q:=qq (hp:=hp) (f:=λ d=>QA 1 Yv bQ6 (dj6 [! qs,sR bd0,ļ])) (λ p:Str × Int=>aN0 oB) (λ p=>f4 p.2) ts λ p hp'=>bS7 (QsY (a p hp'));have s:rA ė [! qs,sR bd0,ļ] hp>=(bd0,hp):=rfl;rw[Qe s,Ju (ae0 mU Bm),Qe (rfl:cW3 hp>=((),hp))];exact cb4 q
def HP{ts:Tx}(a:∀p∈ts,KO oB p.2)(hl:bv9 10):Qh Zq (Z0 bQ6) (Ē su (YR (rA ė) [] X9 (cP7 Yv))) [! qs,sR bd0,ļ] hp>=(ì (qs::pF ts),hp):=aG5 (Qk (aF9 Ÿ) (g8 (QnM a hl) rfl) ?_) ((ai9 ([aN0 wd]++pF ts) >>= _) hp=_) (Ju (ao1 pF))
def RQ(h1:Ŕ x)(h2:Ŕ y):dU ϧ bC7 hp>=(Ζ (x==y),hp):=bg8 ((QI (fO ϧ&&fO bC7) >>= _) hp=_) (yT h1) (yT h2)
def QsX{ts:Tx}(a:∀p∈ts,KO oB p.2)(hl:bv9 10)(d:Ŕ wd)(c:l8 wd ų):XZ [qs,Ð bd0] hp>=(ì (qs::pF ts),hp):=by
 let E:En:=[! qs,sR bd0,cl7 qs (pF ts)]
 exact ý E (AB aH E (HP a hl) (NR (VT (QS (Ī (ng (RQ d xf)) c))) Á))
#where
def T1:TK:=[(tI, 1),(xz, 2),(D2, 1),(ų, 2)]
def T2:TK:=[(oS, 1),(Ϡ, 0),(eA, 1),(nr, 0),(wh, 0),(at7, 0)]
structure RW(row wd:Str)(ts:ő):ç where
 s:aj6 row=wd::ts
 l:row.length<=600
 t:bv9 10
section
variable{hp:Hs}{x y wd row:Str}{ts:ő}{n:Int}{v:DV}{r:Str × Hs}
def E3(row wd:Str)(ts:ő):En:=[! Ψ,sR (E4 (wd::ts)),! qs,sR av5]
def Px(R:RW row wd ts):QP 1 (eQ sM uI Ä am7) [! Ψ,ļ,ļ,ļ] hp>=(Ŭ [! Ψ,sR (E4 (wd::ts)),ļ,ļ],hp):=by
 refine Qs (d:=Ð (E4 (wd::ts))) ?_;unfold ZP;rw[Qe (ak (d:=Ψ) rfl)];show(uI Ψ [Ü blank]) hp=_;show(cz (0<blank.length/\Ă (row.length+2)/\Ă (eM (aj6 row))) >>= (aL0 (DV.lst (E4 (aj6 row))))) hp=_;have sz:Ă fE:=È
 have hl:=R.l;have a:=R.t;rw[R.s,C0 (é (0<blank.length/\Ă (row.length+2)/\Ă (eM (wd::ts))) ⟨Â,À,ĸ A8⟩)];rfl
def ix0{E:En}(h:E[1]?>=(Ó (Ð (E4 (wd::ts))))):Qh bB ė bp E hp>=(qs,hp):=by refine ĩ aT9 ?_;show bB (Ð (qs::av5)) (rg (0:Nat)) hp=_;have a:atI (aN0 wd::av5) (Î (0:Nat))>=qs:=jM rfl;simp[bB,dH,uR]at a ⊢;rw[a];rfl
def R7(R:RW row wd ts){f:aF}:Qr (QP 2 (ò bB 1 0)) (ú 3 (co7 ė) f) [! Ψ,sR (E4 (wd::ts)),ļ,ļ] hp=f bt1 hp:=by refine Tb [! Ψ,sR (E4 (wd::ts)),! qs,ļ] hp (ix0 rfl) (MU (aH:=bt1) (hp1:=hp) (Qs (d:=Ð av5) ?_));show(iV (Ð (E4 (wd::ts))) (í 1) none) hp=_;show í (DV.lst _,hp)=_;rw[nv (iL 1>=(Î (1:Nat))),xX];rfl
def RJ(T:TK):bz6 (bl7 dU (v8 T ĳ) UJ 3) bt1>=(ß (NM wd>=bC5),hp):=by
  have e1:v8 T ĳ bt1 hp>=(oI (NM wd),hp):=rfl;have e2:QK UJ ao6 bt1 hp>=(Ć ts.length,hp):=Fh (í (f4 (aB5 (ts.map DV.str)),hp)=_) Bm
  refine aU1 e1 e2 ?_;cases q:NM wd with
  |none=>rfl
  |some j=>show dU ↥j (rg ts.length) hp=_;rw[ZT (qi j bC5) hp];congr 3;rw[Bool.eq_iff_iff];simp
def Qtr{T:TK}{c:Nat}(h:NM wd≠iL c)(a:cR1 c):bz6 (bl7 dU (v8 T ĳ) UJ 3) bt1>=(ź hp):=by rw[RJ,a,C5 h]
def Ss{T:TK}{c:Nat}(h:NM wd>=aY7)(a:cR1 c):bz6 (bl7 dU (v8 T ĳ) UJ 3) bt1>=cI8:=by rw[RJ,a,C0 h]
def QtO(R:RW row wd ts)(h:T1.lookup wd>=bC5)(hd:XZ [qs,Ð av5] hp>=(v,hp)):Zz [Ψ] hp>=(v,hp):=by refine ý bt1 (Qo (Px R) (ω (R7 R)));exact wP (Ss (T:=T1) h rfl) (Ο FM hd)
def QtP(R:RW row wd [x])(h1:T1.lookup wd≠iL (1:Nat))(h2:T2.lookup wd>=(Î (1:Nat)))(K:SO x n):Zz [Ψ] hp>=(ì [qs,bo4],hp):=by
 refine ý (bt0 [x]) (Qo (Px R) (ω (R7 R)));refine Ŀ (Qtr (T:=T1) (c:=1) h1 rfl) ?_;have a:jD (bt0 [x]) hp>=(Ð [bo4],hp):=by
  unfold jD YR;rw[Qe (rfl:rA Š (bt0 [x]) hp>=([ϧ],hp)),Qe (rfl:QI (Yl (List.map DV.str [x])) hp>=((),hp))];have q:=qq (hp:=hp) (f:=λ d=>QA 1 qf bQ6 (dj6 (bt0 [x]))) (λ p:Str=>aN0 p) (λ_=>f4 n) [x] λ p hp'=>r8 hp' (bS7 (Qs1 K))
  exact cb4 q
 exact wP (Ss (T:=T2) (c:=1) h2 rfl) (bP3 (aF9 Ÿ) (g8 a rfl))
#where
def Lx(x:Str)(c:Nat):Hw x re=ß (FX[0]?>=c):=by
 rw[Bool.eq_iff_iff];unfold Txt.startswith
 rw[Ba,decide_eq_true_eq,decide_eq_true_eq];exact StrLaws.subAt_one x c 0
def Qp2{x:Str}(h:FX[0]?≠í 45):oT=x:=by unfold cJ;rw[nv (Ĭ "-"=i0 45),Lx,C5 h];rfl
def Qts:∀c:Nat,c<128->cF7=(Ib 48 c&&Ib c 57):=È
def RG(l:Ċ):Bool:=l.all λ c=>Ib 48 c&&Ib c 57
def Qse{x:Str}(h:œ (RG FX)):œ (dg x):=by
 unfold dg;rw[List.all_eq_true];intro c a;have:=ci5 h c a;have q:c<128:=by simp only[Ba,decide_eq_true_eq]at this;lia
 rw[Qts c q];exact this
def L_{x:Str}(h:∀c∈FX,c<128):Ŕ x:=by unfold PyData.strOk;rw[Array.all_eq_true'];intro c a;have:=h c (Array.mem_toList_iff.mpr a);exact aq0
def Qsg:∀d:Nat,d<10->IL (Nat.digitChar d)=48+d:=Â
def Tr{n:Nat}(h:n<10):bE4 (HX n)=[48+n]:=by rw[Nat.toDigits_of_lt_base h,A9,Qsg n h];rfl
def Qr8{n:Nat}(h:10<=n):bE4 (HX n)=bE4 (HX (n / 10))++[48+n % 10]:=by have t:HX (n / 10)++HX (n % 10)=HX (10 * (n / 10)+n % 10):=Nat.toDigits_append_toDigits Â À À;rw[Nat.div_add_mod]at t;rw[<- t,List.map_append,Tr (n:=n % 10) À]
def fu(n:Nat):Ċ:=bE4 (HX n)
def FW(n:Nat):cl ar8=bZ3:=PySem.W.KIN.signs_num n
def QpR(n:Nat):cl bs8=45::fu (n+1):=by show(dd3 EN).cps.toList=_;rw[PyProof.Rows.signs_ofString];show("-" ++ Nat.repr (n+1)).toList.map Char.toNat=_;rw[String.toList_append,List.map_append,Nat.toList_repr];rfl
def jS(n:Nat):∀c∈bZ3,48<=c/\c<=57:=λ c d=>by obtain⟨ch,a,e⟩:=cy5 d;rw[<- e];exact PyProof.Rows.digit_range (Nat.isDigit_of_mem_toDigits Â Â a)
def vX(n:Nat):bZ3≠[]:=λ e=>by have h:=PySem.toDigits_len_ge 10 n;rw[List.map_eq_nil_iff.mp e]at h;exact Ĝ h Â
def Qsc(n:Nat):bZ3[0]?>=48->n=0:=by
  induction n using Nat.strongRecOn with
  |_ n a =>
    intro h;by_cases q:n<10
    . unfold fu at h
      rw[Tr q]at h;have e:=Aj h;lia
    . have l:0<⇑(fu (n / 10)):=bZ4 _
      have e:bZ3=fu (n / 10)++[48+n % 10]:=Qr8 À;rw[e,Ag l]at h;have:=a (n / 10) À h;lia
def NZ{n k:Nat}(a:0<k)(h:n<10 ^ k):⇑bZ3<=k:=by have:=PyProof.Rows.toString_length_le (v:=iH) À a (bA3 (Int.ofNat_lt.mpr h) Int.natCast_pow);rw[<- FW,<- XU];exact this
structure TQ(i:Int):ç where
 l:⇑ϡ<=32
 f:∀c∈cA8,c=45∨(48<=c/\c<=57)
 g:cA8≠[]
 n:NT ϡ
 k:KO ϡ i
def TF{x:Str}{n:Nat}(h:cl oT=bZ3)(hn:n≠0∨x = "0"):ć (c2 x):=by
 unfold c2;rw[nv (Ĭ "0"=i0 48),Lx,h];rcases hn with hn|hn
 ·rw[C5 λ z=>hn (Qsc n z)];rfl
 ·rw[hn];have:œ (Ĭ "0"==Ĭ (i0 48)):=È
  rw[this,Bool.not_true,Bool.and_false]
def Mv{x:Str}{n m k:Nat}(h:cl oT=bZ3)(d:0<k)(hn:n<10 ^ k)(i:k<=m):œ (c1 x m):=by
 have l:=NZ d hn;have p:0<⇑bZ3:=bZ4 n;have e:cc6=⇑bZ3:=ϓ XU h
 unfold c1;rw[aq0,aq0,Qse (by rw[h];unfold RG;rw[List.all_eq_true];intro c a;have:=jS n c a;rw[C0 this.1,C0 this.2];rfl)];rfl
def ML(n:Nat):cJ ar8=ar8:=Qp2 (by rw[FW];intro z;have:=jS n 45 (Av z);lia)
def Qnt{x:Str}{l:Ċ}(h:FX=45::l):cl oT=l:=by
 have c:rq=⇑l+1:=Ũ XU h
 unfold cJ;rw[nv (Ĭ "-"=i0 45),Lx,h,Cy Ê];have e:Builtin.Str.strSliceIndices (í 1) none 1 rq=Builtin.Str.strSliceIndices (iL (1:Nat)) (iL (rq:Nat)) 1 rq:=by
  have e1:É (Î (rq:Nat)<0) (Î (rq:Nat)+rq) (Î (rq:Nat))=rq:=fw;have e2:max cB1 (min (Î (rq:Nat)) rq)=rq:=À
  unfold Builtin.Str.strSliceIndices sliceRange;simp[e1,e2]
 unfold Txt.slice;rw[e];have p:=StrLaws.sliced_plain x (a:=1) (b:=rq) À đ;have q:=StrLaws.strSliceIndices_plain (a:=1) (b:=rq) (len:=rq) À đ;rw[Cw (by rw[q,Bm,List.length_range];simp;lia),p];show((x.cps.toList.drop 1).take (rq-1)).toArray.toList=l;rw[é (x.cps.toList=45::l) h];simp[c]
def TQ.of{i:Int}(h:i.natAbs<=big):TQ i:=by
  have r:big<10 ^ 31:=È
  cases i with
  |ofNat n =>
    show TQ iH;have h:(iH).natAbs<=big:=h;have hn:n<10 ^ 31:=sn (n<=big) h
    have e:=FW n;have d:=ML n;have l:=NZ Â hn;have u:⇑ar8=⇑bZ3:=ϓ XU e
    have j:NT ar8:=⟨À,ĸ d,L_ λ c a=>by rw[e]at a;have:=jS n c a;lia⟩;refine⟨dm (eM ar8<=32),λ c a=>Ĉ (jS n c (ð e a)),λ z=>vX n (e.symm.trans z),j,j,Mv (Æ d e) Â hn đ,TF (Æ d e) ?_,?_,h⟩
    . by_cases z:n=0
      . rw[z];exact Ĉ È
      . exact ë z
    . have:=PySem.intText_digits (x:=ar8) (λ c a=>jS n c (ð e a)) (λ z=>vX n (e.symm.trans z)) À
      rw[é ((ar8).cps.toList=bZ3) e]at this;unfold fu at this;rw[PySem.W.KIN.val_back]at this;exact this
  |negSucc n =>
    have hn:n+1<10 ^ 31:=sn (n+1<=big) h
    have e:=QpR n;have d:=Qnt e;have l:=NZ Â hn;have u:⇑bs8=⇑(fu (n+1))+1:=Ũ XU e
    have v:⇑(cJ bs8)=⇑(fu (n+1)):=ϓ XU d
    have o:∀c∈cl bs8,c=45∨(48<=c/\c<=57):=λ c a=>by
      rw[e]at a;rcases pw a with z|z
      . exact ë z
      . exact Ĉ (jS _ c z)
    have j:NT bs8:=⟨À,À,L_ λ c a=>ī (o c a)⟩;refine⟨À,o,λ z=>ı e z z,j,j,Mv d Â hn đ,TF d (ë aA5),?_,h⟩;have:=PySem.intText_neg (x:=bs8) e (λ c a=>jS _ c a) (vX _) À;unfold fu at this;rw[PySem.W.KIN.val_back]at this;exact this
def SO.of{i:Int}(h0:0<=i)(h:i<fE):SO ϡ i:=by obtain⟨n,rfl⟩:=Int.eq_ofNat_of_zero_le h0;have T:TQ iH:=TQ.of (ag6 big);exact⟨T.n,Mv (Æ ML (FW n)) (k:=3) Â À đ,T.k.h2,T.k.hi,h0⟩
def vR{nxt:NX}{t:cm9}{f:ck}(ds es:Û)(r:cR7=ã)(hn:∀i,i<=ã->nxt i hp>=(bD6,hp))(u:∀d∈ds,t d hp>=cI8)(hf:∀(i:Nat)(d e:DV),aI6->Ϥ es e->f d hp>=(e,hp))(hl:ã<ŀ):JW nxt t f ŀ 0 hp>=(es,hp):=by
  suffices h:∀(m i n:Nat),m+i=ã->m<n->JW nxt t f n i hp>=(es.drop i,hp)by simpa using h ã 0 ŀ rfl hl
  intro m;induction m with
  |zero =>
    intro i n e j;obtain⟨n,rfl⟩:∃k,n=k+1:=EU (n-1);have:i=ã:=À
    subst this;have e1:=hn ã đ;rw[dg2 ds[ã]?]at e1;rw[JW,IE,<- r,Co];rfl
  |succ m v =>
    intro i n e j;obtain⟨n,rfl⟩:∃k,n=k+1:=EU (n-1);have c:i<ã:=À
    have a:i<cR7:=À
    have o:=Ab c;have e1:=hn i À;rw[o]at e1;have hi:=v (i+1) n À À;rw[JW,IE];simp only;rw[Qe (u ds[i] (Bx c)),Bf a];simp only[if_true];rw[Qe (hf i _ _ o bz4),Qe hi];rfl
def pT(ps:Eb):Str:=π ps.isEmpty "-" (ar1 "," (bb4 q (pt q.1 q.2)))
def aU(x:Int):ç:=x.natAbs<=big
def aU.abs{x:Int}(h:aU x):x.natAbs<2 ^ 200:=Bs h È
def SeqAt(hp:Hs)(D:DV)(ds:Û):ç:=D=hV∨D=ny∨∃n,D=O0/\cn7
def Tq(a b:Int):cl (pt a b)=cl (txt a)++(58::cl (txt b)):=by unfold pt;rw[VP,VP,Az];rfl
def Wi{a b:Int}(ha:aU a)(c:aU b):⇑(pt a b)<=65:=by have h1:=aG6 ha;have h2:=aG6 c;rw[XU,Tq,Am,A8,<- XU,<- XU];lia
def vF{x y:Str}(h:rq+⇑y<=fE):œ (Ep x y):=ľ Ep (C0 (Bh h È))
section
variable{hp:Hs}{D:DV}{ds:Û}{f:aG}{env:En}{ps:Eb}
def QrS(h:ay3 D ds)(hf:aE>=(D,hp)):∃nxt,j_ f env hp>=(nxt,hp)/\∀i,i<=ã->nxt i hp>=(bD6,hp):=by
 rcases h with rfl|rfl|⟨n,rfl,hn⟩
 ·exact⟨Ff,hL j_ hf,λ i hi=>õ cN (Cy hi)⟩
 ·exact⟨Ff,hL j_ hf,λ i hi=>õ cN (Cy hi)⟩
 ·refine⟨fQ n,?_,λ i _=>KS hn i⟩;unfold j_;rw[bb3];show(LM >>= _) hp=_;rw[be7];rfl
def QrF(h:ay3 D ds)(hf:aE>=(D,hp)):zL f env hp>=(aC4,hp):=by
 unfold zL;rw[bb3];rcases h with rfl|rfl|⟨n,rfl,hn⟩
 ·rfl
 ·rfl
 ·show(LM >>= _) hp=_;rw[be7];rfl
def j2(h:ay3 D ds)(hf:aE>=(D,hp)):aq8 ZD f env hp>=(db1,hp):=by
 rcases h with rfl|rfl|⟨n,rfl,hn⟩
 ·exact g8 hf rfl
 ·exact g8 hf rfl
 ·exact JA hf hn
def Qqg(h:ay3 D ds)(hf:aE>=(D,hp)):Eu f env hp>=(Η,hp):=by
 unfold Eu;rw[bb3];rcases h with rfl|rfl|⟨n,rfl,hn⟩
 ·rfl
 ·rfl
 ·show(LM >>= _) hp=_;rw[be7];rfl
def Qqf(h:ay3 D ds)(hf:aE>=(D,hp)):Ew bl3 f env hp>=(Θ,hp):=by
 unfold Ew;rw[bb3];rcases h with rfl|rfl|⟨n,rfl,hn⟩
 ·rfl
 ·rfl
 ·show(LM >>= _) hp=_;rw[be7];rfl
def Mo(h:ay3 D ds):isD D Ę hp>=(Θ,hp):=by rcases h with rfl|rfl|⟨n,rfl,hn⟩<;>rfl
def vf:aG:=OT (j_ Ä) [] X9 (Qh xT (ee xT cE1 ":") bU2)
def Qoa{x y:Int}(hx:aU x)(a:aU y)(env:En)(h:aQ4 0>=(Ó (ì [Ì x,Ì y]))):Qh xT (ee xT cE1 ":") bU2 env hp>=(Ü (pt x y),hp):=by
 have h1:=aG6 hx;have h2:=aG6 a;have c:⇑(txt x++Ĭ ":")=⇑(txt x)+1:=by rw[XU,VP,Am,<- XU];rfl
 exact Qk (ĩ (g8 (ĩ aT9 dj1) (Ym hx.abs)) (Ov (vF (dm (eM (txt x)+1<=fE))))) (g8 (ĩ aT9 (cs8 1)) (Ym a.abs)) (Ov (vF (ĸ c)))
def Qi7(h:ay3 D al5)(r:∀q∈ps,aU q.1/\aU q.2)(hl:a0<=MM):vf [! D] hp>=(Ð (bb4 q (Ü (pt q.1 q.2))),hp):=by
  obtain⟨nxt,e1,e2⟩:=QrS (f:=Ä) (env:=[! D]) h Á;unfold vf Z5;rw[IE];have c:=vR (nxt:=nxt) (t:=λ d=>X9 (dj6 [! D])) (f:=λ d=>Qh xT (ee xT cE1 ":") bU2 (dj6 [! D])) (hp:=hp) al5 (bb4 q (Ü (pt q.1 q.2))) (by unfold aQ;simp) e2 im (λ i d e hd a=>by
    unfold aQ at hd;rw[Bq]at hd a;cases hq:Ű ps with
    |none=>rw[hq]at hd;cases hd
    |some q=>rw[hq]at hd a;have e1:=Aj hd;have e2:=Aj a;rw[<- e1,<- e2];obtain⟨j,o⟩:=r q (Av hq);exact Qoa j o _ rfl) (ae0 aQ Bm)
  rw[nv (lim=ŀ),bz5];rfl
def MJ{α:rV}(f:α->Nat)(m:Nat):∀l:AU,Ps a l (f a<=m)->(l.map f).sum<=⇑l * m
  | [],_=>up
  |a::r,h=>by have h1:=MJ f m r λ b c=>h b (ſ c);have h2:=h a ό;rw[A9,List.sum_cons,A8,Nat.succ_mul];lia
def Ef{xs:ő}{m n:Nat}{c:Nat}(hx:∀x∈xs,rq<=m)(hn:ŝ<=n)(a:n * (m+1)<=10000000):aN5 re xs:=by refine joinOk_of ?_;have h1:=MJ (λ x:Str=>rq) m xs hx;have h2:ŝ * (m+1)<=n * (m+1):=Χ hn;rw[Nat.mul_succ]at h2;have:⇑(Ĭ re)=1:=rfl;rw[this];lia
def Mj{c:Nat}{xs:ő}{e:aG}(a:aT2>=(Ð ae5,hp1))(d:aN5 re xs):ZP sM jf (ĝ re) (Ò e) env hp>=(Ü (ar1 re xs),hp1):=by unfold ZP;rw[Qe (rfl:eC cj2 env hp>=(cj2,hp)),Qe (rfl:xr sM cj2 hp>=((),hp)),Qe (QG a)];show(iW (Ð ae5) >>= _) hp1=_;rw[Qe (rfl:iW (Ð (nj DV.str)) hp1>=(ae5,hp1)),Np];rw[Qe (rfl:mZ (í xs) hp1>=(xs,hp1)),d];rfl
def Te(h:ay3 D al5)(d:∀q∈ps,aU q.1/\aU q.2)(hl:a0<=MM)(a:ć ps.isEmpty):ZP sM jf (ĝ ",") (Ò vf) [! D] hp>=(Ü bd1,hp):=by
 have c:=Qi7 h d hl;have j:=Mj (c:=44) (xs:=bb4 q (pt q.1 q.2)) (e:=vf) (env:=[! D]) (hp:=hp) (hp1:=hp) (Ũ c List.map_map) (Ef (m:=65) (n:=MM) (λ x hx=>by obtain⟨q,hq,rfl⟩:=Fm;obtain⟨i,o⟩:=d q hq;exact Wi i o) (Æ Bm hl) Â)
 unfold pT;rw[a,aE3];exact j
def Gc(h:ay3 D al5)(c:∀q∈ps,aU q.1/\aU q.2)(hl:a0<=MM):Jy [D] hp>=(Ü bd1,hp):=by
  let E:En:=[! D]
  have a:ce7 al5=ps.isEmpty:=fI ps
  have t:=QrF (f:=Ä) (env:=E) h Á;rw[a]at t;have sp:zH [D] hp>=(Ü bd1,hp):=by
    cases q:ps.isEmpty with
    |true=>rw[q]at t;refine ý E (wP (ZR (b:=false) t) ?_);unfold pT;rw[q,cq];rfl
    |false=>rw[q]at t;exact ý E (NR (ZR (b:=true) t) (Te h c hl q))
  exact be1 E (QS (ng (Mo h))) (wP (QS (Qqg h Á)) (bS7 sp))
def SU:Jy [Ę] hp>=(Ü "-", hp):=rfl
def ST(x:Str):Jy [ϧ] hp>=(ϧ,hp):=rfl
def yX{i:Int}(h:aU i):Jy [dz] hp>=(bd5,hp) :=
 be1 [nt] (EM b rfl) (NR (EM b rfl) (Zt Ÿ (Ym h.abs)))
def kK(h:ay3 D al5)(a:∀q∈ps,aU q.1/\aU q.2)(hl:a0<=MM):ZX [D] hp>=(Ü bd1,hp):=by
  let E:En:=[! D]
  have ln:=j2 (f:=Ä) (env:=E) h Á;have pl:⇑al5=a0:=ŵ aQ Bm
  rw[pl]at ln;have t:bz6 (Þ bM an6 0) E>=(ps.isEmpty,hp):=by
    refine ω (PF ln (rR _ _ _));cases ps with
    |nil=>rfl
    |cons q r=>show í (Î (lP+1:Nat)==0,hp)=_;rw[eW À];rfl
  refine be1 E (QS (ng (Mo h))) (Ŀ (QS (Qqf h Á)) ?_);cases q:ps.isEmpty with
  |true=>rw[q]at t;refine wP t ?_;unfold pT;rw[q,cq];rfl
  |false=>rw[q]at t;exact NR t (Te h a hl q)
def QmH:ZX [Ę] hp>=(Ü "-", hp):=rfl
def QmG{i:Int}(h:aU i):ZX [dz] hp>=(bd5,hp) :=
 be1 [nt] (EM b rfl) (wP (cA4 b rfl) (Zt Ÿ (Ym h.abs)))
#where
def fj(x:Str):ç:=∀c∈FX,c<128
def fj.ok{x:Str}(h:fj x):Ŕ x:=L_ h
def zd{i:Int}(h:aU i):fj ϡ:=λ c a=>ī ((TQ.of h).f c a)
def QpI{a b:Int}(ha:aU a)(e:aU b):fj (pt a b):=λ c d=>by
 rw[Tq]at d;rcases A6 d with h|h
 ·exact zd ha c h
 ·rcases pw h with h|h
  ·lia
  ·exact zd e c h
def y_{c:Nat}(a:c<128):∀{ws:ő},Ps x ws (fj x)->∀d∈lj c ws,d<128
  | [],_=>Tk d h h
  | [x],h=>h x ό
  |x::y::r,h=>λ d hd=>by
    rcases A6 hd with z|z
    . exact h x ό d z
    . rcases pw z with z|z
      . lia
      . exact y_ a (λ p hp=>h p (ſ hp)) d z
def vJ{c:Nat}(a:c<128)(h:∀x∈ws,fj x):fj (ar1 re ws):=λ d hd=>ID (é (cl (ar1 re ws)=lj c ws) (à (OP cl (aB4 ws)) (vj c ws))) hd (y_ a h d hd)
def MK{ps:Eb}(e:∀q∈ps,aU q.1/\aU q.2):fj bd1:=by
 unfold pT;split
 ·intro c i;have:c=45:=Ë (é (c∈[45]) i)
  lia
 ·refine vJ (c:=44) Â A4;obtain⟨q,hq,rfl⟩:=Fm;obtain⟨a,d⟩:=e q hq;exact QpI a d
def aZ(d:DV)(x:Str):ç:=(d=Ę/\x = "-")∨(∃i,d=dz/\aU i/\x=ϡ)∨∃ps,d=ì al5/\Ps q ps (aU q.1/\aU q.2)/\a0<=8/\x=bd1
section
variable{hp:Hs}{d:DV}{x:Str}
def aZ.shown(h:aZ d x):Jy [d] hp>=(ϧ,hp):=by
 rcases h with ⟨rfl,rfl⟩|⟨i,rfl,h,rfl⟩|⟨ps,rfl,h,l,rfl⟩
 ·exact SU
 ·exact yX h
 ·exact Gc (Ĉ ĭ) h À
def aZ.word(h:aZ d x):ZX [d] hp>=(ϧ,hp):=by
 rcases h with ⟨rfl,rfl⟩|⟨i,rfl,h,rfl⟩|⟨ps,rfl,h,l,rfl⟩
 ·exact QmH
 ·exact QmG h
 ·exact kK (Ĉ ĭ) h À
def Sr:fj "-" := λ c a=>by
 have:c=45:=Ë (é (c∈[45]) a)
 lia
def aZ.asc(h:aZ d x):fj x:=by
 rcases h with ⟨rfl,rfl⟩|⟨i,rfl,h,rfl⟩|⟨ps,rfl,h,l,rfl⟩
 ·exact Sr
 ·exact zd h
 ·exact MK h
def QqK{ps:Eb}(e:∀q∈ps,aU q.1/\aU q.2):⇑bd1<=a0 * 66+1:=by
 unfold pT;split
 ·exact Nat.le_add_left _ _
 ·have h1:=StrLaws.join_length_le "," (bb4 q (pt q.1 q.2));have h2:=MJ (λ x:Str=>rq) 65 (bb4 q (pt q.1 q.2)) λ x hx=>by obtain⟨q,hq,rfl⟩:=Fm;obtain⟨a,c⟩:=e q hq;exact Wi a c
  have h3:⇑(Ĭ ",")=1:=rfl;rw[Bm]at h1 h2;rw[h3]at h1;rw[é (ar1 "," (bb4 q (pt q.1 q.2))=Str.join "," (bb4 q (pt q.1 q.2))) (aB4 _)];lia
def aZ.len(h:aZ d x):rq<=600:=by
 rcases h with ⟨rfl,rfl⟩|⟨i,rfl,h,rfl⟩|⟨ps,rfl,h,l,rfl⟩
 ·exact(Â:(1:Nat)<=600)
 ·have:=aG6 h;lia
 ·have:=QqK h;lia
def V4{i:Int}(h:aU i):aZ bH6 ϡ:=mm ⟨i,rfl,h,rfl⟩
def Le(o:Ý):Str:=match o with
 |none => "-"
 |some i=>ϡ
def K3{o:Ý}(h:∀i,o>=i->aU i):aZ (opt o) (Le o):=by
 cases o with
 |none=>exact cB9
 |some i=>exact V4 (h i rfl)
def S9{o:am5}(h:∀i,o>=i->aU LT):aZ (oN o) (Le (o.map λ n:Nat=>iH)):=by
 cases o with
 |none=>exact cB9
 |some i=>exact V4 (h i rfl)
def YI{n N:Nat}(h:n<=N)(a:N<=fE):aU iH:=by show n<=big;unfold big;lia
#where
inductive Parts:Û->θ ő
 |nil:Parts [] []
 |cons {d:DV} {x:Str} {ds:Û} {xs:ő}:aZ d x->cG2->Parts (d::ds) (x::xs)
abbrev dD(x:Str):ç:=x∈([at6, "take", cy0, cy1, cg8, xz, D2, aA3, at4, cg9]:ő)
def RE:∀x∈([at6, "take", cy0, cy1, cg8, xz, D2, aA3, at4, cg9]:ő),rq<=6/\œ ((FX).all (λ c=>LU c 128)):=È
def dD.asc{x:Str}(h:dD x):fj x:=λ c a=>db (ci5 (RE x h).2 c a)
def Qjp{r:TR.Row}{N R:Nat}(j:r≠Ę)(h:TR.Lj aU N R r)(d:N<=fE)(i:R<=8):∃wd ds xs,cs0=ì (qs::ds)/\dD wd/\cG2/\ã<=5:=by
  have a:∀{n:Nat},n<=N->aZ ↥n ar8:=λ h=>V4 (YI h d);cases r with
  |non=>exact av9 j
  |side n t=>exact bx1 _ _ _ È (cn2 h.1 (a h.2) lS) Ø
  |down n t=>exact bx1 _ _ _ È (cn2 h.1 (a h.2) lS) Ø
  |found n x=>exact bx1 _ _ _ È (cn2 h.1 (K3 h.2) lS) Ø
  |put n x k=>exact bx1 _ _ _ È (cn2 h.1 (K3 h.2.1) (ϗ (S9 λ c e=>YI (h.2.2 c e) d) lS)) Ø
  |cut n x=>exact bx1 _ _ _ È (cn2 h.1 (K3 h.2) lS) Ø
  |read n ps t =>
    have pp:aZ (ì al5) bd1:=ak1 ⟨ps,rfl,h.2.1,Bh h.2.2.1 i,rfl⟩;cases t with
    |none=>exact bx1 _ _ _ È (cn2 h.1 pp (an0 cB9 cB9 lS)) Ø
    |some t=>obtain⟨s,x⟩:=t;have q:=h.2.2.2 s x rfl;exact bx1 _ _ _ È (cn2 h.1 pp (cn2 q.1 (V4 q.2) lS)) Ø
  |told n k=>exact bx1 _ _ _ È (cn2 h.1 (S9 λ c e=>YI (h.2 c e) d) lS) Ø
  |raised n t=>exact bx1 _ _ _ È (cn2 h.1 (a h.2) lS) Ø
def dW:TR.aJ->Str
 |.find _ => tI
 |.put _ _ => xz
 |.cut _ => D2
 |.stretch _ _ => ų
def dN:TR.aJ->Ŗ
 |.find k=>[k]
 |.put k x=>[k,x]
 |.cut k=>[k]
 |.stretch l h=>[l,h]
def N5(d:TR.aJ):wc=ì (bJ0::ww Os):=fI d
structure cV(d:TR.aJ):ç where
 n:∀i∈Os,aU i
 s:∀l h,d=bL6 l h->l<h
def FN(d:TR.aJ):⇑Os<=2:=bP2 Ø
def pX(d:TR.aJ):Str:=ar1 " " (ar9::cN1)
def Eo:∀x∈([tI, xz, D2, ų, oS, eA]:ő),rq<=7/\Ŕ x/\œ ((FX).all (λ c=>i7 (c==32)))/\ć (ce7 FX):=È
def FJ(d:TR.aJ):ar9∈([tI, xz, D2, ų, oS, eA]:ő):=by
 cases d with
 |find _=>exact ό
 |put _ _=>exact ύ
 |cut _=>exact fR
 |stretch _ _=>exact rc
def Qp6{i:Int}(h:aU i):32∉cA8:=λ z=>ī ((TQ.of h).f 32 z)
section
variable{hp:Hs}{d:TR.aJ}{wd row:Str}{ns:Ŗ}
def SQ(y:wd∈([tI, xz, D2, ų, oS, eA]:ő))(hn:∀i∈ns,aU i)(hl:F8<=2)(o:cl row=lj 32 (wd::cV5)):RW row wd cV5:=by
  obtain⟨v,C,x,u⟩:=Eo wd y;have fr:∀p∈wd::cV5,32∉cl p:=λ p hp=>by
    rcases pw hp with rfl|hp
    . intro z
      have:=ci5 x 32 z;simp at this
    . obtain⟨i,hi,rfl⟩:=cy5 hp
      exact Qp6 (hn i hi)
  have c:row.length<=600:=by
    rw[XU,o];have E:⇑(cl wd)<=7:=ð XU v
    have a:∀i∈ns,⇑cA8<=32:=λ i hi=>ð XU (aG6 (hn i hi))
    match ns,hl,a with
    | [],_,_=>show eM (cl wd)<=600;lia
    | [i],_,a=>show eM (cl wd++32::cA8)<=600;have:=a i ό;rw[Am,A8];lia
    | [i,j],_,a=>show eM (cl wd++32::(cA8++32::cl (txt j)))<=600;have:=a i ό;have:=a j ύ;rw[Am,A8,Am,A8];lia
    |_::_::_::_,h,_=>exact Ĝ h Ê
  refine⟨Qmk Ê fr o ?_,c,cC7⟩;rw[o];intro z;have e:cl wd≠[]:=λ q=>ı q u u
  cases ns with
  |nil=>exact e z
  |cons i r=>exact e (List.append_eq_nil_iff.mp z).1
def Qnc(d:TR.aJ):cl ci6=lj 32 (ar9::cN1):=à (OP cl (aB4 _)) (vj 32 _)
def Qrn(h:cV d):Yu [wc] hp>=(Ü ci6,hp):=by
 let E:En:=[! wc]
 have e0:Qb 0 E hp>=(ì (bJ0::ww Os),hp):=Ī Á N5;have u:Qh bB Ä bp E hp>=(bJ0,hp):=by refine ĩ e0 ?_;have a:atI (aN0 ar9::tP Os DV.int) (Î (0:Nat))>=bJ0:=jM rfl;simp[bB,dH,uR]at a ⊢;rw[a];rfl
 have r:bK Ä (Zh bS) Zy E hp>=(ì (ww Os),hp):=yE (a:=1) e0 rfl;have e:Y7 E hp>=(Ð (E4 cN1),hp):=by unfold Y7 YR;rw[Qe (M7 r),Ju (by rw[Bm];have:=FN d;lia),Qe (rfl:cW3 hp>=((),hp))];have q:=qq (hp:=hp) (f:=λ d=>QK JD bQ6 dj7) (λ i:Int=>f4 i) (λ i=>aN0 ϡ) Os λ i hi=>Zt Ÿ (Ym (h.n i hi).abs);refine ω (Qe q);rw[List.map_map];rfl
 have o:Qh Zq (YY (Ò bV6)) Y7 E hp>=(Ð (E4 (ar9::cN1)),hp):=by
  have j:YY (Ò bV6) E hp>=(Ð [bJ0],hp):=hL YY (QG u)
  refine Qk j e ?_;show(ai9 ([aN0 ar9]++E4 cN1) >>= _) hp=_;rw[Ju (aF6 (FN d))];rfl
 have ln:∀x∈ar9::cN1,E8 rq:=λ x hx=>by
  rcases pw hx with rfl|hx
  ·have:=(Eo _ (FJ d)).1;lia
  ·obtain⟨i,hi,rfl⟩:=Fm;have:=aG6 (h.n i hi);lia
 exact aH1 E (Mj (c:=32) o (Ef (m:=100) (n:=3) ln (aF6 (FN d)) Â))
def Qrh{ts:Tx}{x y:Str}{l u:Int}(k1:KO x l)(k2:KO y u)(h:l<u):XZ [Ü ų, Ð [ϧ,bC7]] hp>=(ì [Ü ų, Ì l,Ì u],hp):=by
 let ts:Tx:=[(x,l),(y,u)]
 have a:∀p∈ts,KO oB p.2:=λ p hp=>by
  rcases pw hp with rfl|hp
  ·exact k1
  ·rcases pw hp with rfl|hp
   ·exact k2
   ·cases hp
 let T:DV:=ì [Ü ų, Ì l,Ì u]
 let E:En:=[Op ų,sR bd0,! T]
 refine ý E (AB aH E (HP (wd := ų) (ts:=ts) a (bZ5 (2<=10))) (NR (à (ya (QS (à (ng (RQ xf xf)) ŕ))) (QS (ω (bP3 (bG4 T Á) (bG4 T Á))))) Á));show í (CO (GE.ge l u),hp)=_;rw[ap0]
def Qri(h:cV d):Zz [Ü ci6] hp>=(wc,hp):=by
 have R:=SQ (FJ d) h.n (FN d) (Qnc d);have one:∀i∈Os,KO ϡ i:=λ i hi=>(TQ.of (h.n i hi)).k;have a:=(Eo _ (FJ d)).2.1;have go:∀(ts:Tx),cN1=ts.map μ->Ps p ts (KO oB p.2)->bv9 10->l8 ar9 ų->wc=ì (bJ0::pF ts)->XZ [bJ0,Ð (E4 cN1)] hp>=(wc,hp):=λ ts e k l ns de=>by rw[e,de,List.map_map];exact QsX k l a ns
 refine QtO R ?_ ?_
 ·cases d<;>rfl
 ·cases d with
  |find k=>exact go [(txt k,k)] rfl (λ p hp=>r8 hp (one k ό)) Ê (bo0 (aC7 tI ų)) rfl
  |cut k=>exact go [(txt k,k)] rfl (λ p hp=>r8 hp (one k ό)) Ê (bo0 (aC7 D2 ų)) rfl
  |put k x=>exact go [(txt k,k),(txt x,x)] rfl (λ p hp=>by
    rcases pw hp with rfl|hp
    ·exact one k ό
    ·rw[aS9 hp];exact one x ύ) Ê (bo0 (aC7 xz ų)) rfl
  |stretch l u=>exact Qrh (ts:=[]) (one l ό) (one u ύ) (h.s l u rfl)
def HU{i:Int}(a:wd∈([oS, eA]:ő))(h0:0<=i)(h1:i<fE)(e:cl row=cl wd++32::cA8):Zz [Ψ] hp>=(ì [qs,dz],hp):=by
 have o:aU i:=by show i.natAbs<=big;unfold big;lia
 have R:RW row wd [ϡ]:=SQ (ns:=[i]) (by rcases pw a with rfl|a;decide +kernel;rw[aS9 a];decide +kernel) (λ j c=>r8 c o) Ê e;refine QtP R ?_ ?_ (SO.of h0 h1)
 ·rcases pw a with rfl|a
  ·decide +kernel
  ·rw[aS9 a];decide +kernel
 ·rcases pw a with rfl|a
  ·decide +kernel
  ·rw[aS9 a];decide +kernel
#where
def d7(s v:Nat)(c:Int):AX:=[bK9 s,az2 eD v,(EL, Ì c)]
def xZ(s v:Nat)(c:Int):ι Ġ (d7 s v c)>=(NG s):=ŕ
def qt(s v:Nat)(c:Int):ι eD (d7 s v c)>=(NG v):=ŕ
def Qkk(s v:Nat)(c:Int):ι EL (d7 s v c)>=(f4 c):=ŕ
def QiC(s t v:Nat)(c:Int):Xs (Ĭ Ġ) ↑t (d7 s v c)=d7 t v c:=ŕ
def QiB(s v:Nat)(c d:Int):Xs (Ĭ EL) ↥d (d7 s v c)=d7 s v d:=ŕ
def Qsh(s v:Nat)(c:Int):eE bB1 (d7 s v c):=ŕ
def Qsi(s v:Nat)(c:Int):eE ar3 (d7 s v c):=ŕ
def Qsj(s v:Nat)(c:Int):eE ai2 (d7 s v c):=ŕ
def Gh(s v:Nat)(c:Int):eE "say" (d7 s v c):=ŕ
def Lz(s v:Nat)(t:Int):eE FF (cD s v t):=ŕ
def Qtf(s v:Nat)(t:Int):eE aJ0 (cD s v t):=ŕ
def QjI(s u v:Nat)(t:Int):Xs (Ĭ Ġ) ↑u (cD s v t)=cD u v t:=ŕ
def nY:ő:=[oS, Ϡ, eA, nr, wh, at7]
def R6:∀x∈nY,Ŕ x:=È
def Rx{x y:Str}(hx:x∈nY)(a:y∈nY){b:Bool}(h:(x==y)=b)(hp:Hs):bM ϧ bC7 hp>=(IU,hp):=oK hp (R6 x hx) (R6 y a) h
section
variable{hp:Hs}
def skip{E:En}{x y:Str}(h:E[3]?>=cB6)(hx:x∈nY)(a:y∈nY)(hn:l8 x y):aN (eB (aW1 y)) f Zg E hp>=(Ŭ E,hp):=Q8 (PF aT9 (Rx hx a hn hp))
def hit{E:En}{x:Str}{f:aF}(h:E[3]?>=cB6)(hx:x∈nY)(hf:Pp (f E hp) (.rt v,E)):Pp (aN (eB (Å bM Š ϧ)) f Zg E hp) (.rt v,E):=Jf (PF aT9 (Rx hx hx Ê hp)) hf
#where
def QrJ:∀x∈nY,ć (tm (T1.lookup x)):=È
def WR(x:Str)(xs:Û)(w:Hs):yH [ì (ϧ::xs)] w>=(Ζ (tm (T1.lookup x)),w):=by
 refine aH1 [cl7 ϧ xs] ?_;have e0:Qh bB Ä bp [cl7 ϧ xs] w>=(ϧ,w):=by refine ng ?_;have a:atI (aN0 x::xs) (Î (0:Nat))>=ϧ:=jM rfl;simp[bB,dH,uR]at a ⊢;rw[a];rfl
 exact cb4 e0
structure Dk(w:Hs)(k s v:Nat)(ds:eS)(t:TR.St)(L:et)(Q:Dn):ç where
 A:da7
 dk:w[k]?>=(ck4 Ğ s v ã)
 no:¬ Fp s v t L Q k
def Fd(k s v:Nat)(t:TR.St)(L:et)(Q:Dn)(x:Nat):ç:=x=k∨Fp s v t L Q x
section
variable{w w':Hs}{k s v:Nat}{ds:eS}{t t':TR.St}{L L':et}{Q Q':Dn}
def Dk.lt(D:Dk w k s v ds t L Q){x:Nat}(h:Fd k s v t L Q x):x<Ĥ:=by
 rcases h with rfl|h
 ·exact Zx D.dk
 ·exact D.A.lt h
def Dk.keep(D:Dk w k s v ds t L Q)(h:∀x,Fd k s v t L Q x->w'[x]?=w[x]?):Dk w' k s v ds t L Q:=⟨D.A.keep λ x hx=>h x (Ĉ hx),à (h k ĭ) D.dk,D.no⟩
def Dk.step(D:Dk w k s v ds t L Q)(a:da3 w' t' L' Q')(F:Fx (Fp s v t L Q) w w' (Fp s v t' L' Q')):Dk w' k s v ds t' L' Q'/\Fx (Fd k s v t L Q) w w' (Fd k s v t' L' Q'):=by
 have c:=Zx D.dk;refine⟨⟨a,à (F.old k c D.no) D.dk,bX3⟩,F.len,λ x hx h=>F.old x hx λ z=>h (Ĉ z),A4⟩
 ·rcases F.new k z with z|z
  ·exact D.no z
  ·lia
 ·rcases hx with rfl|hx
  ·exact ë ĭ
  ·rcases F.new x hx with z|z
   ·exact ë (Ĉ z)
   ·exact Ĉ z
def QtS:aF:=aZ0 oS (eQ sM jf am7 jC) (aZ0 Ϡ (bK3 Ϡ ZE ah9) (aZ0 eA (bK1 Jy (ic Ğ ar3 2 JV Ä (ϕ 2 1))) (aZ0 nr (bK1 Jy cP9) (aI1 (aW1 wh) (cx0 (cP8 Ys) bJ2 (ĝ "no")) (AW (AD Ğ ai2 JI Ä))))))
def yV{row x:Str}(rd:Zz [Ψ] w>=(ì (ϧ::xs),w))(hx:x∈nY)(h:QtS [AZ,! Ψ,cl7 ϧ xs,! ϧ] w>=((.rt d,[AZ,! Ψ,cl7 ϧ xs,! ϧ]),w')):QL [bR3,Ψ] w>=(d,w'):=by
 let T:DV:=ì (ϧ::xs)
 let E:En:=[AZ,! Ψ,! T,! ϧ]
 have a:yH [T] w>=(Θ,w):=Ī (WR x xs w) (QrJ x hx);refine ý E (AB aH [AZ,! Ψ,! T,ļ] (bS7 rd) ?_);refine AB aH E (cs9 x T Á 0 w) ?_;exact Ŀ (QS (bS7 a)) h
#where
section
variable{w w':Hs}{k:Nat}{row:Str}{xs:Û}{d:DV}
def Ql5(rd:Zz [Ψ] w>=(ì (Ü oS :: xs),w))(h:(QR (eQ sM jf am7 jC)) [AZ,! Ψ,cl9 oS,Op oS] w>=((.rt d,[AZ,! Ψ,cl9 oS,Op oS]),w')):QL [bR3,Ψ] w>=(d,w'):=by refine yV rd ό ?_;exact Ze (hit rfl ό h)
def Qgq(rd:Zz [Ψ] w>=(ì (Ü Ϡ :: xs),w))(h:(QR (bK3 Ϡ ZE ah9)) [AZ,! Ψ,cl9 Ϡ,Op Ϡ] w>=((.rt d,[AZ,! Ψ,cl9 Ϡ,Op Ϡ]),w')):QL [bR3,Ψ] w>=(d,w'):=by refine yV rd ύ ?_;refine aW8 ύ ό;exact Ze (hit rfl ύ h)
def Qgp(rd:Zz [Ψ] w>=(ì (Ü eA :: xs),w))(h:(QR (bK1 Jy (ic Ğ ar3 2 JV Ä (ϕ 2 1)))) [AZ,! Ψ,cl9 eA,Op eA] w>=((.rt d,[AZ,! Ψ,cl9 eA,Op eA]),w')):QL [bR3,Ψ] w>=(d,w'):=by refine yV rd fR ?_;refine aW8 fR ό;refine aW8 fR ύ;exact Ze (hit rfl fR h)
def Qjs(rd:Zz [Ψ] w>=(ì (Ü nr :: xs),w))(h:(QR (bK1 Jy cP9)) [AZ,! Ψ,cl9 nr,Op nr] w>=((.rt d,[AZ,! Ψ,cl9 nr,Op nr]),w')):QL [bR3,Ψ] w>=(d,w'):=by refine yV rd rc ?_;refine aW8 rc ό;refine aW8 rc ύ;refine aW8 rc fR;exact Ze (hit rfl rc h)
def Qjr(rd:Zz [Ψ] w>=(ì (Ü wh :: xs),w))(h:(QR (cx0 (cP8 Ys) bJ2 (ĝ "no"))) [AZ,! Ψ,cl9 wh,Op wh] w>=((.rt d,[AZ,! Ψ,cl9 wh,Op wh]),w')):QL [bR3,Ψ] w>=(d,w'):=by refine yV rd P7 ?_;refine aW8 P7 ό;refine aW8 P7 ύ;refine aW8 P7 fR;refine aW8 P7 rc;exact Ze (hit rfl P7 h)
def Ql6(rd:Zz [Ψ] w>=(ì (Ü at7 :: xs),w))(h:(QR (AW (AD Ğ ai2 JI Ä))) [AZ,! Ψ,cl9 at7,Op at7] w>=((.rt d,[AZ,! Ψ,cl9 at7,Op at7]),w')):QL [bR3,Ψ] w>=(d,w'):=by refine yV rd bS5 ?_;refine aW8 bS5 ό;refine aW8 bS5 ύ;refine aW8 bS5 fR;refine aW8 bS5 rc;refine aW8 bS5 P7;exact h
#where
def WI{f:aG}(hf:aE>=(ny,hp1)):j_ f env hp>=(Ff,hp1):=hL j_ hf
def Parts.len{ds:Û}{xs:ő}(h:cG2):ŝ=ã:=by
 induction h with
 |nil=>rfl
 |cons _ _ a=>rw[A8,A8,a]
def Parts.get{ds:Û}{xs:ő}(h:cG2):∀{i:Nat}{d:DV}{x:Str},aI6->bU3->aZ d x:=by
  induction h with
  |nil=>intro i d x h;cases h
  |@cons d x ds xs p _ a =>
    intro i d' c h1 h2;cases i with
    |zero=>have e1:=cv3;have e2:=Aj h2;rw[<- e1,<- e2];exact p
    |succ i=>exact a h1 h2
def Parts.mem(h:cG2):∀x∈xs,∃d,aZ d x:=by
  induction h with
  |nil=>intro x h;cases h
  |cons p _ c =>
    intro y a;rcases pw a with rfl|a
    . exact İ _ p
    . exact c y a
def Qi4{f i N R:Nat}{o:TR.Out}(B:TR.Sd aU N R (TR.CG f o))(hn:∀n r,o=.did n r->r≠Ę)(d:N<=fE)(j:R<=8):o=.rest∨∃n wd ds xs,pY i o=ì (qs::dz::Ì (n:Nat)::ds)/\pY i (TR.CG f o)=ì (qs::dz::Ì (f+n:Nat)::ds)/\dD wd/\cG2/\ã<=5/\f+n<=60:=by
  cases o with
  |rest=>exact ĭ
  |take n=>exact Ĉ ⟨n, "take", [],[],rfl,rfl,È,lS,up,B⟩
  |did n r =>
    obtain⟨a,c⟩:=B;obtain⟨wd,ds,xs,e,h1,h2,h3⟩:=Qjp (hn n r rfl) c d j;refine Ĉ ⟨n,wd,ds,xs,?_,?_,h1,h2,h3,a⟩
    . show Dr i n cs0=_
      rw[e];rfl
    . show Dr i (f+n) cs0=_
      rw[e];rfl
def Qqx{ds:eS}{t t':TR.St}{i n:Nat}{r:TR.Row}(h:cK6 t i>=(.did n r,t')):r≠Ę:=by
 intro e;subst e;unfold TR.mv at h;split at h
 ·cases h
 ·rename_i w c;split at h
  ·split at h<;>cases h
  ·rename_i a;have a:gu:=Ë a
   split at h
   ·cases h
   ·rename_i r S' w' es;cases h;exact D8 a es
def SK{n:Nat}(h:n<=fE):fj ar8:=zd (YI h đ)
def mvT(wd:Str)(i n:Nat)(xs:ő):Str:=ar1 " " (wd::ϡ::ar8::xs)
def Qqw{wd:Str}{i n:Nat}{ds:Û}(e:dD wd)(hi:i<=fE)(hn:n<=fE)(P:cG2)(hl:ã<=5):aN5 " " (wd::ϡ::ar8::xs)/\fj (mvT wd i n xs):=by
 have a:∀x∈wd::ϡ::ar8::xs,rq<=600/\fj x:=λ x hx=>by
  rcases pw hx with rfl|hx
  ·exact İ (aK6 (RE _ e).1) e.asc
  ·rcases pw hx with rfl|hx
   ·exact İ (V4 (YI hi đ)).len (SK hi)
   ·rcases pw hx with rfl|hx
    ·exact İ (V4 (YI hn đ)).len (SK hn)
    ·obtain⟨d,p⟩:=P.mem x hx;exact İ p.len p.asc
 refine İ (Ef (c:=32) (m:=600) (n:=8) (λ x hx=>(a x hx).1) ?_ Â) (vJ (c:=32) Â λ x hx=>(a x hx).2);have:=P.len;simp;lia
section
variable{w w':Hs}{k s v i:Nat}{ds:eS}{t:TR.St}{L:et}{Q:Dn}{row:Str}
def Qrs{f:aG}{a:Û}{xs:ő}(hf:f E w>=(ì a,w'))(o:ŝ=bv6)(hl:E8 bv6)(r:bd3 j d DV x Str (G1 a>=d->G1 xs>=x->Jy [d] w'>=(ϧ,w'))):Z5 false (j_ f) [] X9 (cP7 Jy) E w>=(Ð ae5,w'):=by
  unfold Z5;rw[Qe (WI hf)];have c:=vR (nxt:=cN a) (t:=λ d=>X9 dj7) (f:=λ d=>QA 1 Jy bQ6 dj7) (hp:=w') a ae5 (ϓ Bm o) (λ i hi=>õ cN (Cy hi)) im (λ j d e hd hx=>by
    rw[Bq]at hx;cases hq:G1 xs with
    |none=>rw[hq]at hx;cases hx
    |some x=>rw[hq]at hx;have e2:=cS4;rw[<- e2];exact bS7 (r j d x hd hq)) À
  rw[nv (lim=ŀ),bz5];rfl
def Qrp(D:Dk w k s v ds t L Q)(rd:Zz [Ψ] w>=(ì [Ü oS, dz],w)){a:Û}{xs:ő}(e:ZZ [cL5,dz] w>=(ì a,w'))(o:ŝ=bv6)(hl:E8 bv6)(u:bd3 j d DV x Str (G1 a>=d->G1 xs>=x->Jy [d] w'>=(ϧ,w')))(r:aN5 " " xs):QL [bR3,Ψ] w>=(Ü (ar1 " " xs),w'):=by
 let T:DV:=ì [Ü oS, dz]
 refine Ql5 rd (Qv (Mj (c:=32) (xs:=xs) ?_ r));exact Qrs (Ϛ aX7 D.A.hv (LK ..) (QG (cs9 x T Á 1 w)) e) o hl u
def MR{os:Nat}{a:Û}(D:Dk w k s v ds t L Q)(e:ZE [cL5] w>=(TD,w'))(d:eH w' Ĥ a)(hn:bv6=os)(c:os<=ŀ):QL [bR3,Ü Ϡ] w>=(ao5 os,w'):=by
 have rd:Zz [Ü Ϡ] w>=(ì [Ü Ϡ],w):=am0
 refine Qgq rd (Qv (g8 (g8 (Ϛ aX7 D.A.hv (Tw ..) Xz e) (Ī (uE d) hn)) (Ym ?_)));show os<2 ^ 200;exact Bs c È
def QoJ(D:Dk w k s v ds t L Q)(M:Sm t.S bg):∃g,QL [bR3,Ü wh] w>=(Ü "yes", w++g):=by
 obtain⟨g,e⟩:=QoO M D.A.h1 D.A.h2;have rd:Zz [Ü wh] w>=(ì [Ü wh],w):=am0
 exact İ g (Qjr rd (Qv (aJ1 (Gj (QS (aH4 (bS6 D.dk) e))))))
def QoK(D:Dk w k s v ds t L Q)(M:Sm t.S bg)(X:TR.iZ aU t):∃rows w',cQ4 t.S/\QL [bR3,Ü nr] w>=(Ü (pT rows),w')/\(∀x,x<Ĥ->w'[x]?=w[x]?)/\Ĥ<=aJ9/\Ps q rows (aU q.1/\aU q.2)/\ad2 1100:=by
 obtain⟨rows,w',a,e,j,kp⟩:=Nr M D.A.h1 D.A.h2;have rd:Zz [Ü nr] w>=(ì [Ü nr],w):=am0
 have d:∀q∈rows,aU q.1/\aU q.2:=by obtain⟨c,r,p,h1,h2,h3,h4,h5,o,u⟩:=a;rw[u];exact X.leaf r λ m y=>(o m).mp y
 have hl:ad2 1100:=by
  have l:=(a.len M.T).1;have c:Sc t.S<=⇑t.S.pg:=ľ TR.JF (Bh (Bz _ _) (Æ List.length_range đ))
  have:Sc t.S * t.S.O4<=130 * 8:=af3 (Bh c M.ln) M.rm;lia
 exact⟨rows,w',a,Qjs rd (Qv (aH4 (aH4 (bS6 D.dk) e) (Gc (ak1 (Ņ _ j)) d À))),kp,eK (Zx j),d,hl⟩
#where
def YN(u:TR.Wk):DV:=π u.O2.far (Ð aA4) (opt u.O3)
def zY(u:TR.Wk):Str:=π u.O2.far (pT u.pairs) (Le u.O3)
structure lJ(u:TR.Wk):ç where
 b:TR.Bw aU u
 l:⇑u.pairs<=50000
def qh(P:iO):Û:=P.map λ x=>ì [Ì (x.1:Nat),YN x.2]
def XA(n:Nat)(acc:aD9)(P:iO):aD9:=P.foldl (λ acc x=>bF2 x.1 n x.2 acc) acc
def kP:aD9->Str
 |none => "-"
 |some u=>zY u
section
variable{w hp:Hs}{u:TR.Wk}
def lJ.shown(h:lJ u):Jy [YN u] hp>=(as2 u,hp):=by
 unfold YN zY;split
 ·exact Gc ĭ h.b.pairs (aK6 h.l)
 ·exact(cA9).shown
def lJ.word(h:lJ u):ZX [YN u] hp>=(as2 u,hp):=by
 unfold YN zY;split
 ·exact kK ĭ h.b.pairs (aK6 h.l)
 ·exact(cA9).word
def lJ.asc(h:lJ u):fj (zY u):=by
 unfold zY;split
 ·exact MK h.b.pairs
 ·exact(cA9).asc
def QjP{a s f q:Nat}(h1:w[a]?>=(fC s f q u))(h5:de3 q aA4)(j:œ u.O7):XF cw3 w>=(YN u,w):=by
  let E:En:=[IF]
  have d:Xn (eB bS4) E w>=(ź w):=bu3 b (Ī (Ι h1 (y0 ..)) j);have fd:QN å r0 Ä E w>=(ZQ u.O2,w):=Ι h1 (yF ..);rw[N5]at fd;have e:∀b,(dW u.O2 == ų)=b->eB (aW0 (db5 0) ų) E w>=(b,w):=λ b c=>PF (ĩ fd (cs7 0 w)) (oK _ (Eo _ (FJ _)).2.1 xf c);have wo:QN å AE Ä E w>=(opt u.O3,w):=bD7 h1;have no:ć u.O2.far->l8 (dW u.O2) ų->XF cw3 w>=(YN u,w):=λ hf c=>bx3 YN hf aE3 (be1 E d (NR (e _ c) wo))
  cases hd:u.O2 with
  |find k=>exact no aV2 (ac2 hd (aC7 tI ų))
  |put k x=>exact no aV2 (ac2 hd (aC7 xz ų))
  |cut k=>exact no aV2 (ac2 hd (aC7 D2 ų))
  |stretch l h =>
    have r:QN å LP Ä E w>=(æ q,w):=Ι h1 (QbD ..);have o:aq8 Dz dd0 E w>=(Ð aA4,w):=by
      refine g8 r ?_;have v:Dj ↑q w>=(aA4,w):=ł ((ZK q >>= _) w) _ (Φ h5)
      show(Dj ↑q >>= λ ds=>î (DV.lst ds)) w=_;rw[Qe v];rfl
    unfold YN;rw[hd,nv (œ (TR.aJ.stretch l h).far),cq];exact be1 E d (wP (e true (ac2 hd (œ (Ĭ ų==Ĭ ų)))) o)
#where
section
variable{w:Hs}{k s v:Nat}{ds:eS}{t:TR.St}{L:et}{Q:Dn}
def Km(A:da7)(hq:⇑Q<=fE):Zw [cL5] w>=(Ð ci7,w):=by
 let E:En:=[cl2]
 suffices h:XR E w>=(Ð ci7,w)from aH1 E h;have c:=vR (nxt:=fQ (v+3)) (t:=λ d=>X9 dj7) (f:=λ d=>Z0 (Ś Q1 (AD å eA XF ao9)) dj7) (hp:=w) bI6 ci7 (by unfold qh bw;simp) (λ i _=>KS A.hn i) im (λ i d x hd hx=>by unfold qh bw at hx;rw[Bq]at hd;rw[Bq,Bq]at hx;obtain⟨y,e,rfl⟩:=by4 hd;rw[e]at hx;have ex:=cS4;rw[<- ex];obtain⟨⟨s',a⟩,j,o,_⟩:=A.od y ce2;have e0:B6 Ä bp (cW9 E (nu y)) w>=(Ì y.1,w):=cs9 x (nu y) Á 0 w;have e1:B6 Ä bS (cW9 E (nu y)) w>=(æ y.2.1,w):=cs9 x (nu y) Á 1 w;exact aF9 (ZS e0 (Ϛ e1 a (Qo3 ..) Xz (QjP a j o)))) cC7
 unfold XR Z5;rw[Qe (WJ (Ι A.hv (WN ..)) A.hn),Qe (é (JW _ _ _ lim 0 w=_) c)];rfl
def Hn:∀P:iO,pB (qh P)>=(P.map λ x=>(aI x.1,YN x.2))
  | []=>rfl
  |x::r=>ł (match mR (rg x.1),pB (qh r)with|some k,some ps=>í ((k,YN x.2)::ps)|_,_=>none) _ (Hn r)
def RH(n:Nat):∀(P:iO)(kvs:h7)(acc:aD9),df5=acc.map YN->JM (zR kvs (P.map λ x=>(aI x.1,YN x.2))) cl3=tP (XA n acc P) YN
  | [],kvs,acc,h=>h
  |x::r,kvs,acc,h=>by
    refine RH n r (aF7 (aI x.1) (YN x.2)) (bF2 x.1 n x.2 acc) ?_;rw[RO];by_cases e:x.1=n
    . rw[aY0,Cy aJ5];rfl
    . rw[ay0,Cw (λ z=>e (ī (Sum.inl.inj z))),h]
def KN(n:Nat):∀(P:iO)(acc:aD9)(u:TR.Wk),XA n acc P>=u->acc>=u∨∃x∈P,x.2=u
  | [],acc,u,h=>aV0
  |x::r,acc,u,h=>by
    rcases KN n r (bF2 x.1 n x.2 acc) u h with z|⟨y,a,e⟩
    . split at z
      . exact Ĉ ⟨x,ό,Aj z⟩
      . exact ë z
    . exact Ĉ ⟨y,ſ a,e⟩
def Qm2(D:Dk w k s v ds t L Q){m:Nat}(i:m<ã)(hq:⇑Q<=fE):∃g,JV [bR3,Ì m] w>=((tP (as0 m sB) YN).getD Ę,w++g):=by
 let E:En:=[AZ,cB7]
 let ps:h7:=tT sB x (aI x.1,YN x.2)
 let a:Hs:=w++[si (zR [] ps)]
 have c:aq8 Ds (bF1 FF Zw ah9) E w>=(TD,a):=by refine g8 (Ϛ aX7 D.A.hv (Lz ..) Xz (Km D.A hq)) ?_;show(iW (Ð ci7) >>= _) w=_;rw[Qe (rfl:iW (Ð ci7) w>=(ci7,w)),Hn];rfl
 have g2:zu a[Ĥ]? (zR [] ps):=Ģ a
 have e:ZP AM Vt (Ē Ds (bF1 FF Zw ah9)) gg E w>=((tP (as0 m sB) YN).getD Ę,a):=by
  unfold ZP;rw[bz5];have e2:xr AM Į a>=((),a):=ł ((ZK Ĥ >>= _) a) _ (Φ g2)
  rw[cf9,Qe (QG (ak (d:=Ì m) rfl))];show(ZK Ĥ >>= _) a=_;rw[Φ g2];show í ((JM (zR [] ps) (aI m)).getD Ę,a)=_;rw[RH m sB [] none rfl]
 exact İ _ (ý E (NR (aU1 Á (Ι D.dk (Qkk ..)) (show í (CO (GE.ge as1 (Î ã)),w)>=(Θ,w)by rw[ap0])) e))
def QoI(D:Dk w k s v ds t L Q){m:Nat}{row:Str}(c:m<ã)(hq:⇑Q<=fE)(a:∀x∈sB,lJ x.2)(rd:Zz [Ψ] w>=(ì [Ü eA, Ì m],w)):∃g,QL [bR3,Ψ] w>=(Ü (cL2 m sB),w++g):=by
  obtain⟨g,e⟩:=Qm2 D c hq
  let T:DV:=ì [Ü eA, Ì m]
  refine İ g (Qgp rd (Qv (aH4 (FA D.dk (Qsi ..) (QG (cs9 x T Á 1 w)) e) ?_)));cases h:as0 m sB with
  |none=>exact SU
  |some u =>
    rcases KN m sB none u h with z|⟨x,hx,e⟩
    . cases z
    . exact(e▸a x hx:lJ u).shown
def Qro(D:Dk w k s v ds t L Q){d:TR.aJ}(h:cV d)(hl:ã<900):∃w',QL [bR3,Ü ci6] w>=(ao5 (ã:Nat),w')/\Dk w' k s v (ds++[d]) t L Q/\Fx (Fd k s v t L Q) w w' (Fd k s v t L Q):=by
 obtain⟨w1,e1,o,rfl⟩:=M8 D.A d À;have nk:k≠v+1:=λ z=>D.no aW5;have e:(bB7 (v+1) (cB5 (ds++[d]) ZQ))[k]?>=(ck4 Ğ s v ã):=gs (Ł nk) D.dk
 let w1:Hs:=bB7 (v+1) (cB5 (ds++[d]) ZQ)
 let a:Hs:=bZ2 k (ck4 Ğ s v (⇑(ds++[d]):Nat))
 have r:WB a s v (ds++[d]) t L Q:=o.keep λ x hx=>Za _ _ _ _ λ z=>D.no (z▸hx)
 let E:Sl->En:=λ z=>[AZ,! wc,z]
 let c:En:=E aG8
 have u:QP 2 (QC è ae2 2 ZI ah9 gg) bn5 w>=(Ŭ c,w1):=Qs (Ϛ aX7 D.A.hv (Tz ..) Ÿ e1);have y:Zu Ğ EL Ä bW4 c w1>=(Ŭ c,a):=by refine ω (ci2 v (Ì (Î ã+1)) bt8 e (bZ5 (3<fE)));rw[QiB];show _>=(_,bZ2 k (OV.ins Ğ (d7 s v (⇑(ds++[d]):Nat))));rw[Am];rfl
 have j:Yq [bR3,wc] w>=(db1,a):=bD0 c u y (Qv Á);refine N4 a ⟨r,eY e,D.no⟩ ⟨fA a w1,λ x _ hx=>?_,λ x hx=>ë hx⟩
 ·have rd:=Qri (hp:=w) h;rw[N5]at rd j
  let T:DV:=ì (bJ0::ww Os)
  let F:En:=[AZ,Op ci6,! T,Op ar9]
  refine ý F (AB aH [AZ,Op ci6,! T,ļ] (bS7 rd) ?_);refine AB aH F (cs9 x T Á 0 w) ?_;refine wP (QS (bS7 (à (WR _ _ w) (fI d)))) (g8 (FA D.dk (Qsh ..) Ÿ j) (Ym ?_))
  show ã<2 ^ 200;exact Ax hl È
 ·show(Y2 (bB7 (v+1) _) k _)[x]?=_;rw[Za _ _ _ _ (λ z=>hx (ë z.symm)),Za _ _ _ _ (λ z=>hx (Ĉ aW5))]
#where
section
variable{w:Hs}{k s v:Nat}{ds:eS}{t:TR.St}{L:et}{Q:Dn}{bg:TR.Bg}{S:TR.Sh}
def Wg(M:Sm S bg)(i:Sc S * S.O4<=300){f:aG}(h1:cO0 w[s]? S.O4 (s+1) S.top S.rd S.wr)(h2:de3 (s+1) Ε)(hf:∀w':Hs,(∀x,x<Ĥ->w'[x]?=w[x]?)->ο w'>=(æ s,w')):
  ∃rows n w',cQ4 S/\QA 2 qD (Ś (bK1 Jd f) (aO2 tK Jo f)) env w>=(O0,w')/\Ĥ<=n/\n+1<aJ9/\(∀x,x<Ĥ->w'[x]?=w[x]?)/\cO0 w'[n]? (bq5).O4 (n+1) (bq5).top (bq5).rd (bq5).wr/\eH w' (n+1) ((bq5).pg.map aK):=by
 obtain⟨rows,w1,a,e1,c,k1⟩:=Nr M h1 h2;have r:=Zx c;obtain⟨n,o,e2,u,j,k2,g1,g2⟩:=QqR (w:=w1) (T:=TD) M.T.aX M.rm (a.sorted M.T) (Bh (a.len M.T).1 i) (Ĉ (Ņ _ c));have e:=hf w1 k1;have d:cO0 w1[s]? S.O4 (s+1) S.top S.rd S.wr:=à (k1 s (Zx h1)) h1;exact⟨rows,n,o,a,Ο (ZS (aH4 (hf w im) e1) (Ϛ e d (Rl ..) Xz (MW d))) e2,À,j,λ x hx=>à (k2 x À) (k1 x hx),g1,g2⟩
def Qrq(D:Dk w k s v ds t L Q)(M:Sm t.S bg)(hs:ab4 ds t)(hw:cc4<=8)(hc:Sc t.S * t.S.O4<=300):
  ∃rows n w',cQ4 t.S/\QL [bR3,Ü at7] w>=(ao5 (ae1 an4:Nat),w')/\Dk w' k n v ds (ü t S an4) L Q/\Fx (Fd k s v t L Q) w w' (Fd k n v (ü t S an4) L Q):=by
 have A:=D.A;have sv:=A.sv;have lw:=A.lw;have lk:=Zx D.dk;have st:=TR.jx hs;have nk:¬ (v<=k/\k<=v+3):=λ z=>D.no (mm z)
 let E:En:=[AZ]
 obtain⟨rows,n,o,J,e,n1,n2,kp,g1,g2⟩:=Wg (f:=Hg) (env:=E) M hc A.h1 A.h2 λ w' h=>bS6 (à (h k lk) D.dk);have O:o[k]?>=(ck4 Ğ s v ã):=à (kp k lk) D.dk
 let r:Hs:=o.set k (ck4 Ğ n v ã)
 let c:Hs:=r.set v (br0 n v t.tk)
 have g4:E6 x z OV (x≠k->x≠v->o[x]?>=z->c[x]?>=z):=λ{x z} h h' hz=>bQ1 (Ł h') (Ł h) hz;have d:E6 x z OV (x≠k->x≠v->w[x]?>=z->c[x]?>=z):=λ{x z} h h' hz=>g4 h h' (à (kp x (Zx hz)) hz);have y:r[v]?>=di2:=gs À (à (kp v À) A.hv);have C:r[k]?>=(ck4 Ğ n v ã):=eY O;have U:c[k]?>=(ck4 Ğ n v ã):=gs À C;have F:=g4 À À g1;have P:=g4 À À g2;have cs:Xf [cL5,O0] r>=(Ę,c):=by refine aM7 [cl2,bK0] (ω (Z2 Á Á y (bZ5 (5<fE))));rw[QjI];rfl
 have u1:aN (ss (bF1 cz4 JO ah9)) xy Zg E w>=(Ŭ E,w):=(Q8 (bu3 b (Ī (Ϛ aX7 A.hv (LC ..) Xz (Mq A À)) hs)));have u2:Zu Ğ Ġ Ä (LJ qD (Ś cP9 (aO2 tK Jo Hg))) E w>=(Ŭ E,r):=bP8 (Z2 e Á O (bZ5 (3<fE))) QiC
 have pt:JI [bR3] w>=(Ì (ae1 an4:Nat),c):=by refine ý E (dA u1);refine dA u2;refine ň aH E c (ZH (Ϛ (aQ2 C) y (Qtf ..) (QG (bS6 C)) cs)) ?_;refine Qv (ω (Ϛ (bS6 U) F (yB ..) Xz (uW F P)));rw[Bm]
 have no:E6 i u TR.Wk (be9 u->aB7->False):=λ{i u} hi a=>ba1 (st.2 i u hi) a this
 have rd:Zz [Ü at7] w>=(ì [Ü at7],w):=am0
 have G:∀x,Fd k n v (ü t S an4) L Q x->Fd k s v t L Q x∨Ĥ<=x:=λ x hx=>by
  rcases hx with h|h|h|⟨i,u,hi,a,_⟩|h
  ·exact ë aV0
  ·exact Ĉ À
  ·exact ë (cj7 h)
  ·exact di9
  ·exact ë (ak1 (ak1 h))
 obtain⟨I,b1,c1⟩:=A.hh;refine⟨rows,n,c,J,Ql6 rd (Qv (g8 (FA D.dk (Qsj ..) Xz pt) (Ym ?_))),⟨⟨F,P,eY y,d À À A.hd,⟨I,d À À b1,c1⟩,d À À A.hn,A.hq,Ĉ À,λ i u hi a=>di9,λ i j u u' _ hi a=>di9,A4⟩,U,bX3⟩,⟨?_,ĵ x hx Z,G⟩⟩
 ·have e5:=(Zx g2);have l5:ae1 an4<=2000:=by have:=K0 (w:=[]) (T:=Ð al6) (rows:=rows) (O4:=t.S.O4) ĭ M.T.aX aX6 (Bh (J.len M.T).1 hc);obtain⟨_,_,_,q⟩:=this;rw[uU M.T.aX bC0,Bm]at q;exact q
  exact Bs l5 È
 ·obtain⟨⟨s',p1⟩,p2,p3,p4,p5⟩:=A.od x hx;have lx:=Zx p2;have p6:=p4;unfold lH at p6;have nx:∀j,j<=2->x.2.1+j≠k:=λ j hj z=>D.no (cb3 (aO8 x hx));exact⟨İ s' (d (nx 0 À) À p1),d (nx 2 À) À p2,p3,İ (ë À) p6.2,λ i u hi a=>di9⟩
 ·rcases z with h|h|⟨i,u,hi,a,_⟩|h
  ·lia
  ·exact nk h
  ·exact no hi a
  ·exact D.no (cb3 h)
 ·show Ĥ<=⇑(Y2 (o.set k _) v _);rw[List.length_set,List.length_set];lia
 ·show(Y2 (o.set k _) v _)[x]?=_;rw[Za _ _ _ _ (λ z=>Z (Ĉ aW5)),Za _ _ _ _ (λ z=>Z (ë z.symm))];exact kp x hx
#where
structure Ws(w:Hs)(k s v s2 v2:Nat)(ds aO:eS)(t t2:TR.St)(L L2:et)(Q Q2:Dn)(O:aJ3):ç where
 D:Dk w k s v ds t L Q
 B:WB w s2 v2 aO t2 L2 Q2
 dj:∀x,Fd k s v t L Q x->Fp s2 v2 t2 L2 Q2 x->False
 ox:∀x,O x->x<Ĥ/\¬ Fd k s v t L Q x/\¬ Fp s2 v2 t2 L2 Q2 x
section
variable{w w':Hs}{k s v s2 v2 s' v':Nat}{ds aO ds':eS}{t t2 t':TR.St}{L L2 L':et}{Q Q2 Q':Dn}{O:aJ3}
def Ws.two(W:Ws w k s v s2 v2 ds aO t t2 L L2 Q Q2 O)(d:WB w' s' v' ds' t' L' Q')(F:Fx (Fp s2 v2 t2 L2 Q2) w w' (Fp s' v' t' L' Q')):Ws w' k s v s' v' ds ds' t t' L L' Q Q' O/\∀x,O x->w'[x]?=w[x]?:=by
 have no:∀x,x<Ĥ->¬ Fp s2 v2 t2 L2 Q2 x->¬ Fp s' v' t' L' Q' x:=λ x hx h z=>by
  rcases F.new x z with a|a
  ·exact h a
  ·lia
 refine İ ⟨W.D.keep λ x hx=>F.old x (W.D.lt hx) (W.dj x hx),d,λ x h1 h2=>no x (W.D.lt h1) (W.dj x h1) h2,A4⟩ A4
 ·obtain⟨a,b,c⟩:=cH8;exact⟨Ax a F.len,b,no x a c⟩
 ·obtain⟨a,b,c⟩:=cH8;exact F.old x a c
def Ws.one(W:Ws w k s v s2 v2 ds aO t t2 L L2 Q Q2 O)(d:Dk w' k s' v' ds' t' L' Q')(F:Fx (Fd k s v t L Q) w w' (Fd k s' v' t' L' Q')):Ws w' k s' v' s2 v2 ds' aO t' t2 L' L2 Q' Q2 O/\∀x,O x->w'[x]?=w[x]?:=by
 have no:∀x,x<Ĥ->¬ Fd k s v t L Q x->¬ Fd k s' v' t' L' Q' x:=λ x hx h z=>by
  rcases F.new x z with a|a
  ·exact h a
  ·lia
 refine İ ⟨d,W.B.keep λ x hx=>F.old x (W.B.lt hx) λ z=>W.dj x z hx,λ x h1 h2=>no x (W.B.lt h2) (λ z=>W.dj x z h2) h1,A4⟩ A4
 ·obtain⟨a,b,c⟩:=cH8;exact⟨Ax a F.len,no x a b,c⟩
 ·obtain⟨a,b,c⟩:=cH8;exact F.old x a b
def Ws.more(W:Ws w k s v s2 v2 ds aO t t2 L L2 Q Q2 O)(hl:Ĥ<=aJ9)(h:∀x,x<Ĥ->w'[x]?=w[x]?):Ws w' k s v s2 v2 ds aO t t2 L L2 Q Q2 O/\∀x,O x->w'[x]?=w[x]? :=
 İ ⟨W.D.keep λ x hx=>h x (W.D.lt hx),W.B.keep λ x hx=>h x (W.B.lt hx),W.dj,λ x hx=>İ (Ax cH8.1 hl) cH8.2⟩ (λ x hx=>h x cH8.1)
def Ws.add(W:Ws w k s v s2 v2 ds aO t t2 L L2 Q Q2 O)(x:OV):Ws (w++[x]) k s v s2 v2 ds aO t t2 L L2 Q Q2 (λ y=>O y∨y=Ĥ):=by
 obtain⟨c,_⟩:=W.more (w':=w++[x]) Ê λ y a=>Ag a;refine⟨c.D,c.B,c.dj,ż y a⟩;rcases a with a|rfl
 ·exact c.ox y a
 ·exact⟨Ê,λ z=>bh6 (W.D.lt z),λ z=>bh6 (W.B.lt z)⟩
def Ws.put(W:Ws w k s v s2 v2 ds aO t t2 L L2 Q Q2 O){y:Nat}(a:O y)(x:OV):Ws (bB7 y x) k s v s2 v2 ds aO t t2 L L2 Q Q2 O:=by obtain⟨_,c,d⟩:=W.ox y a;exact⟨W.D.keep λ z hz=>Za _ _ _ _ λ e=>c (e▸hz),W.B.keep λ z hz=>Za _ _ _ _ λ e=>d (e▸hz),W.dj,λ z hz=>at9 (W.ox z hz)⟩
def Ws.less{O':aJ3}(W:Ws w k s v s2 v2 ds aO t t2 L L2 Q Q2 O)(h:∀x,O' x->O x):Ws w k s v s2 v2 ds aO t t2 L L2 Q Q2 O':=⟨W.D,W.B,W.dj,λ x hx=>W.ox x (h x hx)⟩
#where
structure Pn(ds aO:eS)(t t2:TR.St)(Q Q2:Dn)(f H m c:Nat)(P0:iO):ç where
 R:TR.Rel f ds t aO t2
 Y:∃bg b,TR.aY ds t bg b/\∀i,b i<=c
 X:TR.iZ aU t
 de:∀d∈ds,cV d
 qe:sB=P0++TR.lK f bQ2
 an:∀x∈sB,lJ x.2
 hl:cc4=H
 rm:t.S.O4<=5
 tb:m<=t.tk
 pd:ã<=m+23
 rK:m<=23
 h0:0<H
 h8:H<=8
def cV.wH{d:TR.aJ}(h:cV d):TR.G_ aU d:=by
 refine İ ?_ (ĵ k x e)
 ·cases d<;>exact h.n _ ό
 ·subst e;exact h.n x ύ
section
variable{ds aO:eS}{t t2 t':TR.St}{Q Q2:Dn}{f H m c i:Nat}{P0:iO}{o:TR.Out}
def Pn.fL(P:Pn ds aO t t2 Q Q2 f H m c P0):ã<=46:=cy7 P.pd P.rK
def Pn.wH(P:Pn ds aO t t2 Q Q2 f H m c P0):∀d∈ds,TR.G_ aU d:=λ d hd=>(P.de d hd).wH
def Pn.sm(P:Pn ds aO t t2 Q Q2 f H m c P0):∃bg,Sm t.S bg/\Sc t.S * t.S.O4<=300:=by obtain⟨bg,b,Y,_⟩:=P.Y;have pg:=Y.pages;have tk:=Y.tk;have d:=P.fL;have cn:=Y.cn;have:Sc t.S * t.S.O4<=47 * 5:=af3 À P.rm;exact aO8 bg (aO8 Y.T Y.rm)
def Pn.more(P:Pn ds aO t t2 Q Q2 f H m c P0){d:TR.aJ}(hd:cV d)(hl:ã<m+23):Pn (ds++[d]) (aO++[d]) t t2 Q Q2 f H m c P0:=by
 obtain⟨bg,b,Y,a⟩:=P.Y;exact⟨P.R.more d,⟨bg,b,Y.more d,a⟩,P.X,λ e j=>by
  rcases A6 j with z|z
  ·exact P.de e z
  ·rw[aS9 z];exact hd,P.qe,P.an,P.hl,P.rm,P.tb,ŉ,P.rK,P.h0,P.h8⟩
#where
def gk{f:lF}{g:iR}{r:cS1 × Hs}(h:aE>=(nxt,hp1))(h':yf nxt (ak7 d (g d env) cX7) ŀ 0 env hp1>=r):Y6 f g body env hp>=r:=Ϭ Y6 ag4 h'
def Mr{i:Nat}{env:En}{a:aF}{r:cS1 × Hs}(h:a cb2 hp>=r):(do let env' <- aP8 i d;a env':M cS1) hp>=r:=by
 have:gN i d env hp>=(cb2,hp):=ŕ
 rw[EF];exact h
section
variable{w w':Hs}{k s v s2 v2:Nat}{ds aO:eS}{t t2:TR.St}{L L2:et}{Q Q2:Dn}{O:aJ3}{f H m c:Nat}{P0:iO}
def QkF(W:Ws w k s v s2 v2 ds aO t t2 L L2 Q Q2 O)(P:Pn ds aO t t2 Q Q2 f H m c P0){d:TR.aJ}(hd:cV d)(hl:ã<m+23):∃w1 a,ZI [æ v2,wc] w>=(Ì aO.length,w1)/\QL [bR3,Ü ci6] w1>=(ao5 ã,a)/\Ws a k s v s2 v2 (ds++[d]) (aO++[d]) t t2 L L2 Q Q2 O/\(∀x,O x->a[x]?=w[x]?)/\Pn (ds++[d]) (aO++[d]) t t2 Q Q2 f H m c P0:=by have fL:=P.fL;have u:=P.R.len;obtain⟨w1,e1,i,rfl⟩:=M8 W.B d À;obtain⟨e,k1⟩:=W.two i ⟨Ê,λ x _ hx=>Za _ _ _ _ λ z=>hx aW5,λ x hx=>ë hx⟩;obtain⟨a,e2,j,o⟩:=Qro e.D hd À;obtain⟨r,k2⟩:=e.one j o;exact⟨_,a,e1,e2,r,λ x hx=>à (k2 x hx) (k1 x hx),P.more hd hl⟩
def uN{a:Nat}{pre r:Û}{xs:ő}{T:DV}(P:aP9 r)(hl:lP<=10)(hp:E8 pre.length)(ha:de3 a pre)(F:∀w':Hs,bK ũ (Zh (Ě 3)) Zy [e0,e1,e2,e3,! T,IF,ļ] w'>=(ì r,w')):∃z,Vo [e0,e1,e2,e3,! T,IF,ļ] w>=(Ŭ [e0,e1,e2,e3,! T,IF,z],bB7 a (Fs pre ae5)):=by
 have I:=P.len
 let J:bq6:=λ i=>[e0,e1,e2,e3,! T,IF,r6 j (r.getD j Ę) i]
 let u:de2:=λ i=>bB7 a (Fs pre (bK5 i))
 have G:u 0=w:=rj (bB7 a (Fs pre [])=w) Bo (Ol ha)
 have x:=ja (b:=aX3 d 6 d (Vs env')) J u r À λ i d hd=>by
  refine Mr ?_;have U:=aM6;have hx:Ϥ xs xs[i]:=Ab À;have E:r.getD i Ę=d:=Ũ Ce hd
  have po:=P.get hd hx;have C:eH (u i) a (pre++bK5 i):=eY ha;show ZV (eQ ĉ Jg i8 (dh2 ZX 6)) [e0,e1,e2,e3,! T,IF,! d] (u i)>=(EV (i+1),u (i+1));have y:=X0 (hp:=u i) (env:=[e0,e1,e2,e3,! T,IF,! d]) (o:=i8) (e:=dh2 ZX 6) (a:=a) (d:=Ü xs[i]) Á C (bS7 po.word) (by rw[Am,Bm,A7];lia)
  refine ω (ZH y);show í (aE4 [e0,e1,e2,e3,! T,IF,! d],Y2 (bB7 a _) a _)>=(aE4 [e0,e1,e2,e3,! T,IF,!(r.getD i Ę)],bB7 a (Fs pre (bK5 (i+1))));rw[E,List.set_set,Az,List.take_succ,hx,List.map_append];rfl
 refine CA (r6 j (r.getD j Ę) lP);refine gk (WI (F w)) ?_;rw[G]at x;refine x.trans ?_;show í (_,bB7 a (Fs pre (bK5 lP)))=_;rw[<- I,List.take_length]
def QkS{a:Nat}{xs:ő}{e:aG}(d:aT1 w>=(ν,w))(ha:de3 a ae5)(i:aN5 " " xs):ZP sM jf am7 (Ò e) env w>=(Ü (ar1 " " xs),w):=by unfold ZP;rw[Qe (rfl:eC (Ü " ") env w>=(Ü " ", w)),Qe (rfl:xr sM (Ü " ") w>=((),w)),Qe (QG d)];show(iW ş >>= _) w=_;rw[Qe (QnP ha),Np];rw[Qe (rfl:mZ (í xs) w>=(xs,w)),i];rfl
#where
def Qtx{α:rV}{hp l:AU}{j:Nat}{x:α}(h:G1 l>=x):(hp++l)[eI+j]?>=x:=Pv al2 Nat.add_sub_cancel_left h
def Gm{α:rV}{hp l:AU}{x:α}:(hp++x::l)[eI]?>=x:=Qtx (j:=0) rfl
def Qrl(i:Nat):cl (Ĭ "move "++ϡ)=cl oS ++ 32::cA8:=ÿ VP
def Qrk(i:Nat):cl (Ĭ "answer "++ϡ)=cl eA ++ 32::cA8:=ÿ VP
def RX{x:Str}{i:Nat}{e:aG}{w:Hs}(a:aT1 w>=(dz,w))(hx:rq<=10)(hi:i<=fE):Qh xT (ĝ x) (AW e) env w>=(Ü (x++ϡ),w):=by have l:=YI hi đ;have:=aG6 l;exact Qk rfl (g8 a (Ym l.abs)) (Ov (vF À))
section
variable{w w':Hs}{k s v s2 v2:Nat}{ds aO:eS}{t t2 t' dM:TR.St}{L L2:et}{Q Q2 Q' dF:Dn}{O:aJ3}{f H m c i:Nat}{P0:iO}{o o2:TR.Out}{bg aR:TR.Bg}{b:et}
def Pn.mv(P:Pn ds aO t t2 Q Q2 f H m c P0)(Y:TR.aY ds t bg b)(d:∀i,b i<=c)(J:c<64)(C:TR.aY ds t' aR (TR.n_ b i))(a:cK6 t i>=(o,t'))(u:TR.Rel f ds t' aO dM)(r:TR.iC t t' i=TR.lK f (TR.iC t2 dM i))(q1:bw Q'=sB++TR.iC t t' i)(E:bw dF=bQ2++TR.iC t2 dM i):Pn ds aO t' dM Q' dF f H m (c+1) P0:=by
 obtain⟨y,_,e⟩:=P.X.mv Y (ī P.fL) P.wH a;obtain⟨F,G,I⟩:=TR.HK a;refine⟨u,⟨aR,_,C,bv1 j⟩,y,P.de,?_,A4,G.trans P.hl,Æ F P.rm,Bh P.tb I,P.pd,P.rK,P.h0,P.h8⟩
 ·unfold TR.n_;have:=d i;have:=d j;split<;>lia
 ·rw[q1,E,P.qe,r,Az];unfold TR.lK;rw[List.map_append]
 ·rw[q1]at hx;rcases cm3 with z|z
  ·exact P.an x z
  ·have:=TR.Qa1 Y a x z;have:=d i;exact EU (e x z)
def QnW(W:Ws w k s v s2 v2 ds aO t t2 L L2 Q Q2 O)(P:Pn ds aO t t2 Q Q2 f H m c P0)(hc:c<64)(hi:i<H):∃w' t' dM F J Q' dF,q8 [bR3,æ v2,Ì f,dz] w>=(Η,w')/\Ws w' k s v s2 v2 ds aO t' dM F J Q' dF O/\(∀x,O x->w'[x]?=w[x]?)/\Pn ds aO t' dM Q' dF f H m (c+1) P0:=by
  obtain⟨bg,b,Y,hb⟩:=P.Y;have fL:=P.fL;have h8:=P.h8;have a9:i<cc4:=Æ P.hl hi
  have rn:=P.R.ln;have PL:=Y.pages;have Hi:=Y.tk;have ae:=hb i;obtain⟨o,t',aR,em,Y',l',ah,_⟩:=TR.Ms Y a9;obtain⟨X',ob,Df⟩:=P.X.mv Y À P.wH em;obtain⟨o2,dM,rT,eo,R',Ip⟩:=P.R.mv em;obtain⟨w1,J,dF,e2,B1,F2,q2⟩:=Nh W.B P.R Y À À À rT;obtain⟨W1,k1⟩:=W.two B1 F2;subst eo
  let a:=az1
  let E:Sl->Sl->Sl->En:=λ x y z=>[AZ,aw5,Ô f,nt,x,y,z]
  let T:DV:=pY i o2
  have s1:QP 4 (QC è oS 2 ZZ ė ao6) (E ļ ļ ļ) w>=(Ŭ (aI5 T ļ),w1):=Qs (FA W.B.hv (LK ..) Ÿ e2);have li:=YI (Ő (i<=fE)) đ;have ab:∀(z y:Sl)(x:Sl)(w':Hs),QK JD ao6 (E x y z) w'>=(bd5,w'):=λ z y x w'=>Zt Ÿ (Ym li.abs);have a8:∀(xs:ő) (u:Û) (w4:Hs) (z:Sl),Ws w4 k s v s2 v2 ds aO t dM L J Q dF (λ y=>O y∨y=a)->(∀x,O x->w4[x]?=w1[x]?)->eH w4 a ae5->pY i (TR.CG f o2)=ì u->ŝ=⇑u->E8 ⇑u->(∀(w':Hs) (j:Nat) (d:DV) (x:Str),G1 u>=d->G1 xs>=x->Jy [d] w'>=(ϧ,w'))->aN5 " " xs->fj (ar1 " " xs)->∃w' F Q',QR (Qh bM (mw Ğ 2 QL Ä (bl7 xT (ĝ "move ") JD 3)) (ZP sM jf am7 bC9)) (at1 T ah5 z) w4>=((.rt Η,at1 T ah5 z),w')/\Ws w' k s v s2 v2 ds aO t' dM F J Q' dF O/\(∀x,O x->w'[x]?=w[x]?)/\Pn ds aO t' dM Q' dF f H m (c+1) P0:=by intro xs u w4 z W4 k4 ha eT hx hl hs hj as;obtain⟨w5,F,Q',e5,A5,F5,q5⟩:=Nh W4.D.A (bC1 ds ds s t) Y a9 À À em;obtain⟨D5,G5⟩:=W4.D.step A5 F5;obtain⟨Z,k5⟩:=W4.one D5 G5;rw[eT]at e5;have sy:=Qrp W4.D (HU (wd := oS) ό À À (Qrl i)) e5 hx hl (hs w5) hj;refine⟨w5,F,Q',Qv (Qk (FA W4.D.dk aU9 (QG (RX Á Â À)) sy) (QkS Á (à (k5 a ot) ha) hj) (oK _ as.ok as.ok Ê)),Z.less λ x h=>aV0,λ x hx=>à (k5 x (ë hx)) (à (k4 x hx) (k1 x hx)),P.mv Y hb hc Y' em R' Ip q5 q2⟩
  have T2:∀{w':Hs}{d:DV}{u:Û},T=ì (d::u)->(j:Nat)->(e:DV)->G1 (d::u)>=e->aB T ↥j w'>=(e,w'):=λ{w' d u} h j e he=>Æ h (Jb he w')
  rcases Qi4 (f:=f) (i:=i) ob (λ n r h=>cU6 h (Qqx rT)) (Ő (⇑t.S.pg<=fE)) (aK6 P.rm)with rfl|⟨n,wd,u,xs,eT,ac,hw,PP,ad,fn⟩
  . -- rest
    let C:Hs:=w1++[Ð [cB8, bd5]]
    have W2:=W1.add (Ð [cB8, bd5]);have g2:eH C a [cB8, bd5]:=Gm;have I:QP 5 (Xj (Ś (Pd 4) (ű JD 3))) (aI5 T ļ) w1>=(Ŭ bG9,C):=ac1 (Qs ?_) Xj (ZS (cs9 x T Á 0 w1) (ab _ _ _ w1))
    have s3:aN (eB (Þ dh br6 2)) (cP5 i8 (AW (lT ĳ (ϕ 4 2)))) Zg bG9 C>=(Ŭ bG9,C):=rfl;obtain⟨z,lp⟩:=uN (w:=C) (a:=a) (e0:=bI k) (e1:=bI v2) (e2:=Ô f) (e3:=nt) (T:=T) Parts.nil Â Ø g2 (λ w'=>aJ1 (yE (a:=3) (ds:=[cB8, dz]) Á rfl));obtain⟨w',F,Q',e5,Z,k5,P5⟩:=a8 [at6, ϡ] [cB8, dz] _ z (W2.put ot (Fs [aN0 at6, bd5] (E4 ([]:ő)))) (λ x hx=>by
      have U:=(W1.ox x hx).1;exact bC8 _ _ _ _ (Cr U) (Ag U)) (eY g2) rfl rfl Ø (λ w' j d x hd hx=>by
      match j,hd,hx with
      |0,hd,hx=>have e1:=Aj hd;have e2:=cS4;rw[<- e1,<- e2];exact ST _
      |1,hd,hx=>have e1:=Aj hd;have e2:=cS4;rw[<- e1,<- e2];exact yX li
      |j+2,hd,hx=>cases hd) (Ef (c:=32) (m:=600) (n:=2) (λ x hx=>by
        rcases pw hx with rfl|hx
        . exact(Â:(4:Nat)<=600)
        . rw[aS9 hx];exact(V4 li).len) Ø Â) (vJ (c:=32) Â λ x hx=>by
        rcases pw hx with rfl|hx
        . exact dD.asc È
        . rw[aS9 hx];exact zd li)
    exact⟨w',t',dM,F,J,Q',dF,Qu (ϯ s1 I (ϯ s3 lp e5)),Z,k5,P5⟩
  . let G:Nat:=f+n
    have ln:=YI (show G<=fE by show f+n<=fE;lia) đ
    let C:Hs:=w1++[Ð [qs,bd5]]
    have W2:=W1.add (Ð [qs,bd5]);have g2:eH C a [qs,bd5]:=Gm;have Dd:T=ì (qs::dz::Ì (n:Nat)::u):=eT;have I:QP 5 (Xj (Ś (Pd 4) (ű JD 3))) (aI5 T ļ) w1>=(Ŭ bG9,C):=ac1 (Qs ?_) Xj (ZS (cv x T Á (T2 Dd 0 _ rfl)) (ab _ _ _ w1))
    let w3:Hs:=C.set a (Ð [qs,bd5,ao5 G])
    have W3:=W2.put ot (Ð [qs,bd5,ao5 G]);have g3:eH w3 a [qs,bd5,ao5 G]:=eY g2;have s3:aN (eB (Þ dh br6 2)) (cP5 i8 (AW (lT ĳ (ϕ 4 2)))) Zg bG9 C>=(Ŭ bG9,w3):=by
      have len:QK ZD (û 4) bG9 C>=(Ì (⇑u+3:Nat),C):=by refine Zt Ÿ ?_;rw[Dd];rfl
      have tt:eB (Þ dh br6 2) bG9 C>=(cI7 C):=bP8 (PF len rfl) (C0 (Ő ((Î (⇑u+3:Nat)) > 2)))
      refine Jf tt (ZH (X0 Á g2 (g8 (bP3 Á (cv x T Á (T2 Dd 2 _ rfl))) ?_) Ø));exact Ym ln.abs
    obtain⟨z,lp⟩:=uN (w:=w3) (a:=a) (e0:=bI k) (e1:=bI v2) (e2:=Ô f) (e3:=nt) (T:=T) PP À Ø g3 (λ w'=>by refine aJ1 (yE (a:=3) (ds:=qs::dz::Ì (n:Nat)::u) ?_ rfl);rw[<- Dd];exact Á)
    have jo:=Qqw hw (Ő (i<=fE)) (show G<=fE by show f+n<=fE;lia) PP ad;have xl:=PP.len;obtain⟨w',F,Q',e5,Z,k5,P5⟩:=a8 (wd::ϡ::txt G::xs) (qs::dz::Ì G::u) _ z (W3.put ot (Fs [aN0 wd,bd5,ao5 G] ae5)) (λ x hx=>by
      have U:=(W1.ox x hx).1;exact bC8 _ _ _ _ (Cr U) (bC8 _ _ _ _ (Cr U) (Ag U))) (eY g3) ac (Ģ xl) ŉ (λ w' j d x hd hx=>by
      match j,hd,hx with
      |0,hd,hx=>have e1:=Aj hd;have e2:=cS4;rw[<- e1,<- e2];exact ST _
      |1,hd,hx=>have e1:=Aj hd;have e2:=cS4;rw[<- e1,<- e2];exact yX li
      |2,hd,hx=>have e1:=Aj hd;have e2:=cS4;rw[<- e1,<- e2];exact yX ln
      |j+3,hd,hx=>exact(PP.get (i:=j) hd hx).shown) jo.1 jo.2
    exact⟨w',t',dM,F,J,Q',dF,Qu (ϯ s1 I (ϯ s3 lp e5)),Z,k5,P5⟩
#where
def WX{i j:Nat}{env:En}{c:aF}{r:cS1 × Hs}(h:c (Y2 (Ta a) j (Ó b)) hp>=r):(do let env' <- gT [i,j] (ì [a,b]) env;c env':M cS1) hp>=r:=by have:gT [i,j] (ì [a,b]) env hp>=(Y2 (Ta a) j (Ó b),hp):=rfl;rw[EF];exact h
def neT{x:Str}(h:Ŕ x):cI ϧ ϧ hp>=(Θ,hp):=by
  have e:=oK hp h h (b:=true) Ê;unfold bM at e;unfold cI;obtain⟨b,hp1,e1,e2⟩:=Ū;rw[IE];cases b with
  |true=>obtain⟨_,z⟩:=bd;rw[<- z];rfl
  |false=>obtain⟨z,_⟩:=bd;cases z
def mQ(f n:Nat)(a:Str)(P:iO):Str:=P.foldl (λ acc x=>CY (f+x.1) n (zY x.2) acc) a
def Qa4(f n:Nat):∀(P:iO)(acc:aD9),mQ f n (kP acc) P=kP (XA n acc (TR.lK f P))
  | [],_=>rfl
  |x::r,acc=>by show mQ f n (CY (f+x.1) n (zY x.2) (kP acc)) r=kP (XA n (bF2 (f+x.1) n x.2 acc) (TR.lK f r));rw[<- Qa4 f n r];split<;>rfl
def Qbb(n:Nat)(acc:aD9)(P P':iO):XA n acc (P++P')=XA n (XA n acc P) P':=ŵ XA List.foldl_append
def DY(kvs:h7)(a:iO):ç:=∀n:Nat,df5=tT (as0 n a) u (as2 u)
section
variable{w:Hs}{k s v s2 v2 pa:Nat}{ds aO:eS}{t t2:TR.St}{L L2:et}{Q Q2:Dn}{O:aJ3}{f H m c n:Nat}{P0:iO}{kvs:h7}
def Pn.an2(P:Pn ds aO t t2 Q Q2 f H m c P0):∀x∈bQ2,lJ x.2:=λ x hx=>by refine P.an (f+x.1,x.2) ?_;rw[P.qe];exact Ai _ (Cs.mpr (υ x hx))
def WB.ql(A:da7)(h:t.tk<=fE):⇑Q<=fE:=ī A.hq
def Qsf{a fk fd:aG}(o:a env w>=(æ pa,w))(h:cN2 w[pa]?)(j:fk env w>=(Ć n,w))(hd:fd env w>=(d,w))(i:(df5).getD d=e):ZP AM Vt a (Ś fk fd) env w>=(e,w):=by
 unfold ZP;have e2:xr AM ↑pa w>=((),w):=ł ((ZK pa >>= _) w) _ bt6
 rw[Qe o,cf9,Qe (ZS j hd)];show(ZK pa >>= _) w=_;rw[bt6];show í ((df5).getD d,w)=_;rw[i]
def Qfk(W:Ws w k s v s2 v2 ds aO t t2 L L2 Q Q2 O)(P:Pn ds aO t t2 Q Q2 f H m c P0)(r:cN2 w[pa]?)(pk:DY kvs P0)(hn:n<ã):∃g,Ye [bR3,æ v2,Ì f,æ pa,bo4] w>=(Η,w++g):=by
  obtain⟨bg,b,Y,hb⟩:=P.Y;have fL:=P.fL;have Hi:=Y.tk;have Pu:=P.R.tk
  let A:=bQ2
  let a:Str:=cL2 n P0
  let J:bq6:=λ i=>[AZ,aw5,Ô f,cD5,Ô n,Op (mQ f n a aj9),df1 j ((bt2 j (0,bX2)).1:Nat) i,r6 j (YN (bt2 j (0,bX2)).2) i]
  let E0:En:=[AZ,aw5,Ô f,cD5,Ô n,ļ,ļ,ļ]
  have s1:QP 5 (ZP AM Vt Š (Β 4 am6)) E0 w>=(EV 0,w):=Qs (Qsf Á r Á rfl (by rw[pk n];show _=aN0 (cL2 n P0);cases as0 n P0<;>rfl))
  have al:⇑A=⇑Q2:=by show eM bQ2=_;unfold bw;rw[Bm]
  have ql:=W.B.ql À;have an:=Km W.B ql;have G:=ja (b:=ak7 d (gT [6,7] d env) (Yz env')) J (λ_=>w) bI7 (ae0 qh Bm) λ i d hd=>by
    unfold qh at hd;rw[Bq]at hd;obtain⟨x,hx,rfl⟩:=by4 hd;refine WX ?_;have gx:bt2 i (0,bX2)=x:=Ũ Ce hx
    have tk:mQ f n a (A.take (i+1))=CY (f+x.1) n (zY x.2) (mQ f n a aj9):=bC2 List.take_succ hx mQ
    let E:En:=[AZ,aw5,Ô f,cD5,Ô n,Op (mQ f n a aj9),Ô (x.1:Nat),!(YN x.2)]
    have Z:J (i+1)=[AZ,aw5,Ô f,cD5,Ô n,Op (mQ f n a (A.take (i+1))),Ô (x.1:Nat),!(YN x.2)]:=Fh ([_,_,_,_,_,_,aM8 ↥((bt2 i (0,bX2)).1:Nat),aM8 (YN (bt2 i (0,bX2)).2)]=_) gx
    show Yz E w>=(EV (i+1),w);have o:eB (Qh bM (lT ĳ i9) ũ) E w>=(FY (f+x.1) n,w):=by
      refine ω (QS (Qk (x:=Ì (Î f+(x.1:Nat))) (bP3 Á Á) Á (rR _ _ _)));by_cases e:f+x.1=n
      . rw[C0 e,ab5 À]
      . rw[C5 e,eW À]
    rw[Z,tk];by_cases e:f+x.1=n
    . rw[C0 e]at o
      rw[aY0];exact Jf o (Qs (bS7 (P.an2 x (Av hx)).word))
    . rw[C5 e]at o
      rw[ay0];exact(Q8 o)
  have xx:cR (bF1 FF Zw ė) ap6 w>=(cN bI7,w):=by have em:QC è FF 1 Zw ė Qj ap6 w>=(Ð bI7,w):=FA W.B.hv (Lz ..) Xz an;unfold cR;rw[Qe em];rfl
  have C:zX ap6 w>=(EV ⇑A,w):=by
    have I:⇑bI7=⇑A:=ŵ qh Bm
    rw[I]at G;exact gk xx G
  obtain⟨g,sy⟩:=QoI W.D hn (W.D.A.ql À) P.an (HU (wd := eA) ύ À À (Qrk n));have U:mQ f n a (A.take ⇑A)=cL2 n sB:=by rw[List.take_length,Qa4 f n A (as0 n P0),P.qe,Qbb]
  have F:fj (cL2 n sB):=by
    cases h:as0 n sB with
    |none=>exact Sr
    |some u =>
      rcases KN n sB none u h with z|⟨x,hx,e⟩
      . cases z
      . exact(e▸P.an x hx:lJ u).asc
  refine İ g (bD0 (J ⇑A) s1 C (Qv (Qk (FA W.D.dk aU9 (QG (RX Á Â À)) sy) (y:=Ü (cL2 n sB)) (ak ?_) (oK _ F.ok F.ok Ê))));show í (aM8 (Ü (mQ f n a (A.take ⇑A))))=_;rw[U]
def D6(W:Ws w k s v s2 v2 ds aO t t2 L L2 Q Q2 O)(P:Pn ds aO t t2 Q Q2 f H m c P0){env:En}{i j:Nat}(hi:bh9 (bI k))(y:cF1>=(bI s2)):∃(w1 w':Hs) (x:Str),Ĥ<=aJ9/\(∀x,x<Ĥ->w'[x]?=w[x]?)/\fj x/\QC Ğ "say" 2 QL (Qb i) (Ò (ĝ nr)) env w>=(ϧ,w1)/\QA 1 ZX (Ò (dh2 Jd j)) env w1>=(ϧ,w'):=by
 obtain⟨bg,M,_⟩:=P.sm;obtain⟨rows,w1,z,e1,k1,C,o,hl⟩:=QoK W.D M P.X;obtain⟨e,_⟩:=W.more C k1;have M2:Sm t2.S bg:=ð P.R.S M
 obtain⟨a,w',d,e2,r,k2⟩:=Nr M2 e.B.h1 e.B.h2;rw[<- P.R.S]at d;have u:=d.uniq M.T z;subst u;have E:=Zx r;exact⟨w1,w',pT a,À,λ x hx=>à (k2 x À) (k1 x hx),MK o,Ϛ (ak hi) W.D.dk aU9 bP1 e1,aH4 (aH4 (ak y) e2) (kK (ak1 (Ņ _ r)) o À)⟩
def T4(W:Ws w k s v s2 v2 ds aO t t2 L L2 Q Q2 O)(P:Pn ds aO t t2 Q Q2 f H m c P0){env:En}{i:Nat}(hi:bh9 (bI k)):∃g,Qh bM (dg5 (Qb i) wh) bJ2 env w>=(Η,w++g):=by obtain⟨bg,M,_⟩:=P.sm;obtain⟨g,e⟩:=QoJ W.D M;exact İ g (ĩ (Ϛ (ak hi) W.D.dk aU9 bP1 e) (oK _ È È È))
def QnO(W:Ws w k s v s2 v2 ds aO t t2 L L2 Q Q2 O)(P:Pn ds aO t t2 Q Q2 f H m c P0)(q:Int):∃w',qZ [bR3,æ s2,Ì q] w>=(Η,w')/\Ĥ<=aJ9/\∀x,x<Ĥ->w'[x]?=w[x]?:=by
  let E:En:=[AZ,ϭ s2,Ô q]
  have y:∀w':Hs,Qh Xg ĳ (Ě 4) E w'>=(Ì (q % 4),w'):=λ w'=>ng (cO3 q 4 w');have t0:eB (Þ bM (ò Xg 2 4) 0) E w>=(q % 4==0,w):=PF (y w) (rR _ _ _);have snd:∀w1:Hs,Ĥ<=az1->(∀x,x<Ĥ->w1[x]?=w[x]?)->∃w',QR (rB (Þ cI (ò Xg 2 4) 1) (aW0 (dg5 Ä wh) "yes")) E w1>=((.rt Η,E),w')/\Ĥ<=aJ9/\∀x,x<Ĥ->w'[x]?=w[x]?:=by
    intro w1 u k1;obtain⟨z,_⟩:=W.more u k1;have a:Qh cI (ò Xg 2 4) bS E w1>=(cC9 (q % 4==1),w1):=ĩ (y w1) (Ra _ _ _);obtain⟨g,ys⟩:=T4 z P (env:=E) (i:=0) rfl;cases e:(q % 4==1)with
    |false=>rw[e]at a;exact⟨w1,Qv (aJ1 (yM a)),u,k1⟩
    |true=>rw[e]at a;exact⟨w1++g,Qv (à (yM a) ys),ĸ Am,λ x hx=>à (Ag À) (k1 x hx)⟩
  cases e:(q % 4==0)with
  |false=>rw[e]at t0;obtain⟨w',d,r,o⟩:=snd w đ im;exact⟨w',be1 E (VT t0) d,r,o⟩
  |true=>rw[e]at t0;obtain⟨w1,G,x,F,k2,C,e1,e2⟩:=D6 W P (env:=E) (i:=0) (j:=1) rfl rfl;obtain⟨w',d,r,o⟩:=snd G F k2;exact⟨w',be1 E (à (ya t0) (aU1 e1 e2 (neT C.ok))) d,r,o⟩
#where
section
variable{w:Hs}{k s v s2 v2:Nat}{ds aO:eS}{t t2:TR.St}{L L2:et}{Q Q2:Dn}{O:aJ3}{f H m c:Nat}{P0:iO}
def Lp(W:Ws w k s v s2 v2 ds aO t t2 L L2 Q Q2 O)(P:Pn ds aO t t2 Q Q2 f H m c P0)(hc:c<=64){env:En}{i j:Nat}(hi:bh9 (bI k))(hj:cF1>=(bI v2)):∃w' t' o r y d e,Qh cI (dg5 (Qb i) Ϡ) (bK3 Ϡ ZE (Qb j)) env w>=(Θ,w')/\Ws w' k s v s2 v2 ds aO t' o r y d e O/\(∀x,O x->w'[x]?=w[x]?)/\Pn ds aO t' o d e f H m 0 P0/\ab4 ds t':=by
 obtain⟨bg,b,Y,hb⟩:=P.Y;have fL:=P.fL;obtain⟨os,t',aR,a,st,C,Y'⟩:=TR.Qp4 (m:=0) Y hb hc P.h0 P.h8 P.hl fL (cy7 P.pd P.tb);obtain⟨ta,w1,r,d,rs,e1,_,E,g1,n1,J,q1,y1⟩:=ua W.D.A (bC1 ds ds s t) À P.h0 P.h8 a st P.hl C;have ea:=Aj (y1.symm.trans a.fX);subst ea;obtain⟨G,Z⟩:=W.D.step E J;obtain⟨u,k1⟩:=W.one G Z;obtain⟨o,w2,y,e,a8,e2,R2,F,g2,n2,U,q2,_⟩:=ua u.B P.R À P.h0 P.h8 a st P.hl C;obtain⟨W2,k2⟩:=u.two F U;have sy:=MR W.D e1 g1 n1 À;obtain⟨X',I⟩:=P.X.run a À P.wH;have dp:=TR.Qgn a;obtain⟨r1,r2,r3⟩:=TR.QlY a;have al:(Î (AH:Nat)).natAbs<2 ^ 200:=Nat.lt_trans (é (AH<MM) C) È;have as:fj (txt (AH:Nat)):=zd (show AH<=big by unfold big;lia);refine⟨w2,ta,o,r,y,d,e,Qk (Ϛ (ak hi) W.D.dk aU9 bP1 sy) (g8 (g8 (Ϛ (ak hj) u.B.hv (Tw ..) Xz e2) (Ī (uE g2) n2)) (Ym al)) (neT as.ok),W2,λ x hx=>à (k2 x hx) (k1 x hx),⟨R2,⟨aR,_,Y',λ_=>đ⟩,X',P.de,?_,A4,r2.trans P.hl,Æ r1 P.rm,Bh P.tb r3,P.pd,P.rK,P.h0,P.h8⟩,st⟩
 ·rw[q1,q2,P.qe,P.R.run a,Az];unfold TR.lK;rw[List.map_append]
 ·rw[q1]at hx;rcases cm3 with z|z
  ·exact P.an x z
  ·exact İ (I x z) (aK6 (dp x z))
def Qtt(W:Ws w k s v s2 v2 ds aO t t2 L L2 Q Q2 O)(P:Pn ds aO t t2 Q Q2 f H m c P0)(st:ab4 ds t):∃w' d a,QL [bR3,Ü Ϡ] w>=(ao5 (0:Nat),w')/\Ws w' k s v s2 v2 ds aO t t2 d L2 a Q2 O/\(∀x,O x->w'[x]?=w[x]?)/\bw a=sB:=by obtain⟨bg,b,Y,C⟩:=P.Y;have fL:=P.fL;obtain⟨F,w1,d,a,E,e1,_,e,g1,y,j,q1,z⟩:=ua W.D.A (bC1 ds ds s t) À P.h0 P.h8 (.nil 0 t) st P.hl Â;have u:=Aj z;subst u;obtain⟨i,o⟩:=W.D.step e j;obtain⟨r,k1⟩:=W.one i o;exact⟨w1,d,a,MR W.D e1 g1 y Â,r,k1,q1.trans (Bo _)⟩
#where
def lu(f:Nat)(kvs:h7)(P:iO):h7:=P.foldl (λ acc x=>X8 acc (aI (f+x.1:Nat)) (as2 x.2)) kvs
def DL(kvs:h7)(k:Key)(v:DV):⇑(aF7 k v)<=dQ+1:=by
 unfold X8;split
 ·rw[Bm];lia
 ·rw[Am];exact đ
def Nv(f:Nat):∀(P:iO)(kvs:h7),⇑(di6 P)<=dQ+cp9
  | [],_=>đ
  |x::r,kvs=>by have h1:=Nv f r (aF7 (aI (f+x.1:Nat)) (as2 x.2));have h2:=DL kvs (aI (f+x.1:Nat)) (as2 x.2);show eM (lu f (aF7 (aI (f+x.1:Nat)) (as2 x.2)) r)<=dQ+(lP+1);lia
def Mc(f n:Nat):∀(P:iO)(kvs:h7)(acc:aD9),df5=(acc.map λ u=>as2 u)->JM (di6 P) cl3=tT (XA n acc (TR.lK f P)) u (as2 u)
  | [],_,_,h=>h
  |x::r,kvs,acc,h=>by
    refine Mc f n r (aF7 (aI (f+x.1:Nat)) (as2 x.2)) (bF2 (f+x.1) n x.2 acc) ?_;rw[RO];by_cases e:f+x.1=n
    . rw[aY0,Cy aJ5];rfl
    . rw[ay0,Cw (λ z=>e (ī (Sum.inl.inj z))),h]
section
variable{w:Hs}{k s v s2 v2 pa:Nat}{ds aO:eS}{t t2:TR.St}{L L2:et}{Q Q2:Dn}{f H m c:Nat}{P0:iO}{kvs:h7}
def Qn1(W:Ws w k s v s2 v2 ds aO t t2 L L2 Q Q2 (· = pa))(P:Pn ds aO t t2 Q Q2 f H m c P0)(a:cN2 w[pa]?)(kl:dQ<=fE):∃z6 z7,xR [AZ,aw5,e2,Ô f,cD5,ļ,ļ,ļ] w>=(Ŭ [AZ,aw5,e2,Ô f,cD5,ļ,z6,z7],bB7 pa (si (di6 bQ2))):=by
 obtain⟨bg,b,Y,hb⟩:=P.Y;have fL:=P.fL;have O:=Y.tk;have U:=P.R.tk
 let A:=bQ2
 let J:bq6:=λ i=>[AZ,aw5,e2,Ô f,cD5,ļ,df1 j ((bt2 j (0,bX2)).1:Nat) i,r6 j (YN (bt2 j (0,bX2)).2) i]
 let o:de2:=λ i=>bB7 pa (si (di6 aj9))
 have G:o 0=w:=Ol a;have Z:⇑A=⇑Q2:=by show eM bQ2=_;unfold bw;rw[Bm]
 have ql:=W.B.ql À;have an:=Km W.B ql;have u:=ja (b:=ak7 d (gT [6,7] d env) (qM env')) J o bI7 (ae0 qh Bm) λ i d hd=>by
  unfold qh at hd;rw[Bq]at hd;obtain⟨x,hx,rfl⟩:=by4 hd;refine WX ?_;have E:bt2 i (0,bX2)=x:=Ũ Ce hx
  have tk:di6 (A.take (i+1))=X8 (di6 aj9) (aI (f+x.1:Nat)) (as2 x.2):=bC2 List.take_succ hx lu
  let r:En:=[AZ,aw5,e2,Ô f,cD5,ļ,Ô (x.1:Nat),!(YN x.2)]
  have z:J (i+1)=r:=Fh ([_,_,_,_,_,_,aM8 ↥((bt2 i (0,bX2)).1:Nat),aM8 (YN (bt2 i (0,bX2)).2)]=_) E
  show qM r (o i)>=(EV (i+1),bB7 pa (si (di6 (A.take (i+1)))));have F:=Hc (hp:=o i) (env:=r) (e:=dh2 ZX 7) (f:=ũ) (g:=lT Š i9) (d:=pa) (x:=as2 x.2) (k:=Î (f+x.1:Nat)) (kvs:=di6 aj9) (bS7 (P.an2 x (Av hx)).word) Á (eY a) (Ī (bP3 Á Á) Int.natCast_add) (by have:=Nv f aj9 kvs;rw[A7]at this;lia)
  refine F.trans ?_;rw[z,tk];show í (_,Y2 (bB7 pa _) pa _)=_;rw[List.set_set]
 have I:cR (bF1 FF Zw ė) ap6 w>=(cN bI7,w):=by have C:QC è FF 1 Zw ė Qj ap6 w>=(Ð bI7,w):=FA W.B.hv (Lz ..) Xz an;unfold cR;rw[Qe C];rfl
 have y:⇑bI7=⇑A:=ŵ qh Bm
 rw[y,G]at u;refine⟨df1 j ((bt2 j (0,bX2)).1:Nat) ⇑A,r6 j (YN (bt2 j (0,bX2)).2) ⇑A,ω (gk I u)⟩;show í (_,bB7 pa (si (di6 (A.take ⇑A))))=_;rw[List.take_length]
def Qlo(W:Ws w k s v s2 v2 ds aO t t2 L L2 Q Q2 (· = pa))(P:Pn ds aO t t2 Q Q2 f H m c P0)(hc:c<=64)(ac:cN2 w[pa]?)(pk:DY kvs P0)(kl:dQ<=⇑P0):∃w' n o rows t' C u e,Yf [bR3,æ v2,æ s2,Ì f,æ pa] w>=(æ o,w')/\Dk w' k n v ds (ü t' S wq) C u/\cO0 w'[o]? (wq).O4 (o+1) (wq).top (wq).rd (wq).wr/\eH w' (o+1) ((wq).pg.map aK)/\(∀x,x=pa∨x=o∨x=o+1->x<aJ9/\¬ Fd k n v (ü t' S wq) C u x)/\pa≠o/\pa≠o+1/\zu w'[pa]? e/\DY e (bw u)/\⇑e<=⇑(bw u)/\(∃bg,TR.aY ds (ü t' S wq) bg IJ)/\TR.iZ aU (ü t' S wq)/\Ps x (bw u) (lJ x.2)/\⇑t'.ws=H/\t'.S.O4<=5/\m<=t'.tk/\ab4 ds t'/\⇑t'.ns=⇑t'.ws:=by
 let E:Sl->Sl->Sl->En:=λ x y z=>[AZ,aw5,ϭ s2,Ô f,cD5,x,y,z]
 obtain⟨w1,t',dM,C,iD,u,O,e1,W1,k1,P1,st⟩:=Lp W P hc (env:=E ļ ļ ļ) (i:=0) (j:=1) rfl rfl;obtain⟨bg,b,Y,hb⟩:=P1.Y;have fL:=P1.fL;have Hi:=Y.tk;have wg:cN2 w1[pa]?:=à (k1 pa rfl) ac;have Ht:⇑(bw u)=⇑P0+⇑(bw O):=by rw[P1.qe];unfold TR.lK;simp
 have ql:=W1.D.A.ql À;have pl:⇑(bw u)=⇑u:=ŵ bw Bm
 obtain⟨z6,z7,e2⟩:=Qn1 W1 P1 wg À (e2:=bI s2)
 let e:=di6 (bw O)
 have am:=Nv f (bw O) kvs
 let w2:Hs:=bZ2 pa (si e)
 have U:Ws w2 k s v s2 v2 ds aO t' dM C iD u O (· = pa):=W1.put rfl _;have u_:zu w2[pa]? e:=eY wg;obtain⟨a9,M,I⟩:=P1.sm;have M2:Sm dM.S a9:=ð P1.R.S M
 obtain⟨rows,o,w3,J,e3,ar,aw,Rg,g1,g2⟩:=Wg (f:=ĳ) (env:=E ļ z6 z7) M2 (ð P1.R.S I) U.B.h1 U.B.h2 λ w' _=>Á;rw[<- P1.R.S]at J g1 g2;obtain⟨W3,k3⟩:=U.more À Rg;obtain⟨d,n,F,ad,e4,D4,F4⟩:=Qrq W3.D M st (Æ P1.hl P1.h8) I;have er:=ad.uniq M.T J;subst er;have ae:=Zx u_;have ah:¬ Fd k s v t' C u pa:=(U.ox pa rfl).2.1;have out:∀x,x<⇑w3->¬ Fd k s v t' C u x->F[x]?=w3[x]?/\x<⇑F/\¬ Fd k n v (ü t' S aO3) C u x:=λ x hx h=>⟨F4.old x hx h,Ax hx F4.len,λ z=>by
  rcases F4.new x z with a|a
  ·exact h a
  ·lia⟩
 have nn:∀x,⇑w2<=x->¬ Fd k s v t' C u x:=λ x hx z=>Ĝ (U.D.lt z) À;have o1:=out pa À ah;have o2:=out o À (nn o À);have o3:=out (o+1) À (nn (o+1) À);have h1:cO0 F[o]? (aO3).O4 (o+1) (aO3).top (aO3).rd (aO3).wr:=à o2.1 g1;have h2:eH F (o+1) ((aO3).pg.map aK):=à o3.1 g2;obtain⟨aR,T',K',D',ab⟩:=Qrr M.T.aX bC0;have G:∀q∈d,aU q.1/\aU q.2:=by obtain⟨c,r,p,a1,a2,a3,a4,a5,a6,a7⟩:=J;rw[a7];exact P1.X.leaf r λ m hm=>(a6 m).mp hm
 have a8:dg8<=2000:=by obtain⟨_,_,_,q⟩:=K0 (w:=[]) (T:=bo7 d) (rows:=d) (O4:=t'.S.O4) ĭ M.T.aX aX6 (Bh (J.len M.T).1 I);rw[uU M.T.aX bC0,Bm]at q;exact q
 have PL:aq8 JD (aO2 mG JN i8) (E (bI o) z6 z7) F>=(ao5 (dg8:Nat),F):=by refine g8 (FA h1 (yB ..) Xz (uW h1 h2)) ?_;rw[Bm];exact Ym (Bs (é (dg8<=2000) a8) È)
 have as:fj (txt (dg8:Nat)):=zd (show dg8<=big by unfold big;lia);have t5:eB (Qh cI (dg5 Ä at7) (AW (aO2 mG JN i8))) (E (bI o) z6 z7) w3>=(ź F):=aU1 (FA W3.D.dk aU9 bP1 e4) PL (neT as.ok);refine⟨F,n,o,d,t',C,u,e,be1 (E (bI o) z6 z7) (QS e1) (Qo e2 (AB aH (E (bI o) z6 z7) e3 (NR t5 Á))),D4,h1,h2,A4,À,À,à o1.1 (à (Rg pa ae) u_),bv1 q,dm (eM (di6 (bw O))<=_),İ aR (Y.pack st T' K' D' aX6 (Bh ab (J.qn M.T)) _),⟨?_,P1.X.ws,P1.X.ns⟩,P1.an,P1.hl,P1.rm,P1.tb,st,Y.len⟩
 ·rcases hx with rfl|rfl|rfl
  ·exact o1.2
  ·exact o2.2
  ·exact o3.2
 ·rw[P1.qe,Qbb];exact Mc f q (bw O) kvs _ (pk q)
 ·exact TP.HI (P:=aU) (é ((0:Nat)<=big) up) _ (iy d t'.S.O4) _ (λ r Z=>(G r Z).1) λ p hp=>ab2 j (cy5 hp) (TP.T_ (é ((0:Nat)<=big) up) (λ r Z=>(G r Z).1) (λ_ r Z=>(G r Z).2) j)
#where
def jP{c k:Int}(h:J3 c)(a:0<k):J3 (c / k):=Qip (by
 have:=PySem.natAbs_fdiv_le c k
 rwa [bM8 _]at this) h
def QnY{x y:Int}(hx:J3 x)(a:J3 y):Du ↥x ↥y=Lu (x * y):=by have:œ (Tv x y):=C0 (İ hx a);simp[Du,jW,this]
def QtG:jl ↥1000000007 ↥3=Lu hX:=rfl
def Mi(c:Int)(h:J3 c)(hp:Hs):∃k,Yt [Ì c] hp>=(NN,hp)/\aU k:=by
  have j:=ch9 c 6 Â Â hp;have y:=cO3 c 6 hp
  let E:En:=[Ô c,Ô (c / 6)]
  have d:QP 1 (ϝ Yy 6) [Ô c,ļ] hp>=(Ŭ E,hp):=Qs (ng j);have t:∀i:Int,bz6 (Þ dU (ϝ Xg 6) i) E>=(c % 6==i,hp):=λ i=>PF (ng y) (ZT (qi _ _) _);have e:Qh jl FH (Ě 30) E hp>=(Ì þ,hp):=ĩ rfl (ZT S8 _);cases h0:(c % 6==0)with
  |true =>
    have o:J3 (Î hX):=Â
    have m1:=ZT (QnY (jP h (k:=6) Â) o) hp;have u:=cO3 (c / 6 * hX) (2 * þ+1) hp;have m3:=ZT (W8 2 þ Â Â) hp;refine mY _ (ý E (Qo d (wP (Ī (t 0) h0) (bP3 (Qk (Qk Á (ĩ rfl (ZT QtG _)) m1) (ĩ (Qk rfl e m3) rfl) u) e))));unfold aU big;have:=sC (c / 6 * hX) (ec (Î (2 * þ+1)≠0));have:=l7 (c / 6 * hX) (ec (cB1<2 * þ+1));generalize (c / 6 * hX) % (2 * þ+1)=q at *;lia
  |false =>
    cases h1:(c % 6==1)with
    |true =>
      have x:=cO3 (c / 6) 4 hp;have g0:0<=c / 6 % 4:=sC _ Â;have g1:c / 6 % 4<4:=l7 _ Â;obtain⟨v,hv,lv⟩:∃v:Int,bB (Ð [Ì þ,Ì (-þ),Ì (þ-1),Ì (1-þ)]) ↥(c / 6 % 4) hp>=(db0,hp)/\aU v:=by rcases(À:c / 6 % 4=0∨c / 6 % 4=1∨c / 6 % 4=2∨c / 6 % 4=3)with q|q|q|q<;>rw[q]<;>exact Ņ _ (by unfold aU big;decide)
      have r:YY (Qc bQ9 (N0 bR0 (Þ qS bQ9 1) (Qh qS bS bQ9))) E hp>=(Ð [Ì þ,Ì (-þ),Ì (þ-1),Ì (1-þ)],hp):=rfl;exact⟨v,ý E (cZ4 d (Ī (t 0) h0) (wP (Ī (t 1) h1) (Qk r (ng x) hv))),lv⟩
    |false=>have a:=cO3 (c / 6) 17 hp;refine mY _ (ý E (cZ4 d (Ī (t 0) h0) (NR (Ī (t 1) h1) (ĩ (ng a) rfl))));unfold aU big;lia
def Tn{d:TR.aJ}{k:Int}(h:aU k)(e:Os=[k])(a:∀l h,d≠bL6 l h):cV d:=İ (λ i hi=>by rw[e]at hi;rw[aS9 hi];exact h) (λ l h z=>Ĝ z (a l h))
def Mg{d:TR.aJ}{k x:Int}(h:aU k)(h':aU x)(e:Os=[k,x])(a:∀l h,d=bL6 l h->l<h):cV d:=⟨λ i hi=>by
 rw[e]at hi;rcases pw hi with rfl|hi
 ·exact h
 ·rw[aS9 hi];exact h',a⟩
def QpX(c:Int)(h:J3 c)(hp:Hs):∃d,jF [Ì c] hp>=(wc,hp)/\cV d:=by
  have Q:=cO3 c 9 hp;have L:=ch9 c 9 Â Â hp;obtain⟨k,O,r⟩:=Mi (c / 9) (jP h Â) hp
  let E:Sl->En:=λ z=>[Ô c,Ô (c % 9),Ô k,z]
  have v:QP 1 (ϝ Xg 9) [Ô c,ļ,ļ,ļ] hp>=(Ŭ [Ô c,Ô (c % 9),ļ,ļ],hp):=Qs (ng Q);have C:QP 2 (bK1 Yt (ϝ Yy 9)) [Ô c,Ô (c % 9),ļ,ļ] hp>=(Ŭ bn5,hp):=Qs (aH4 (ng L) O);have t0:bz6 (ò dU 1 0) bn5>=(c % 9==0,hp):=QS (ng (ZT (qi _ _) _));have u:∀i:Int,bz6 (ò cC 1 i) bn5>=(LU (c % 9) i,hp):=λ i=>QS bt8;cases h0:(c % 9==0)with
  |true=>exact⟨bu9 k,bD0 bn5 v C (wP cP2 (aF9 (ZS rfl Á))),Tn r rfl λ_ _ z=>ē z⟩
  |false =>
    cases h5:LU (c % 9) 5 with
    |true=>obtain⟨x,xe,xl⟩:=Mi (c / 37) (jP h Â) hp;have F:=ch9 c 37 Â Â hp;exact⟨.put k x,bD0 bn5 v C (Ŀ cP2 (wP (Ī (u 5) h5) (bG7 Á (aH4 (ng F) xe)))),Mg r xl rfl λ_ _ z=>ē z⟩
    |false =>
      cases G:LU (c % 9) 7 with
      |true=>exact⟨.cut k,bD0 bn5 v C (Ŀ cP2 (Ŀ (Ī (u 5) h5) (wP (Ī (u 7) G) (aF9 (ZS rfl Á))))),Tn r rfl λ_ _ z=>ē z⟩
      |false =>
        obtain⟨y,ye,yl⟩:=Mi (c / 131) (jP h Â) hp;have J:=ch9 c 131 Â Â hp;have Z:QP 3 (bK1 Yt (ϝ Yy 131)) bn5 hp>=(Ŭ (ch2 y),hp):=Qs (aH4 (ng J) ye);obtain⟨o,s4,U,l1⟩:∃o:Int,aN (nB dU Š ĳ) (QP 3 (ò qS 2 1)) Zg (ch2 y) hp>=(Ŭ (ch2 o),hp)/\o≠k/\(aU o∨o=k-1):=by
          have t:bz6 (Qh dU Š ĳ) (ch2 y)>=(y==k,hp):=aU1 Á Á (ZT (qi _ _) _);cases e:(y==k)with
          |true=>exact⟨k-1,Jf aN1 (Qs bt8),À,ot⟩
          |false=>exact⟨y,(Q8 aN1),λ z=>by rw[z]at e;simp at e,ë yl⟩
        obtain⟨j,s5,n2,I⟩:∃j:Int,aN (nB cC Š bR0) (QP 3 bW4) Zg (ch2 o) hp>=(Ŭ (ch2 j),hp)/\j≠k/\aU j:=by
          have t:bz6 (Qh cC Š bR0) (ch2 o)>=(LU o (-þ),hp):=QS (as7 y (Ì (-þ)) Á);unfold aU big at *;cases e:LU o (-þ)with
          |true=>have:=C4 e;exact⟨k+1,Jf aN1 (Qs bt8),À,À⟩
          |false=>have:=of_decide_eq_false e;exact⟨o,(Q8 aN1),U,À⟩
        have P:Dv [NN,bI8]=Lu (É (j<k) j k):=rfl;have hi:Dy [NN,bI8]=Lu (É (j > k) j k):=rfl;refine⟨bL6 (É (j<k) j k) (É (j > k) j k),bD0 (ch2 j) v C (Ŀ cP2 (Ŀ (Ī (u 5) h5) (Ŀ (Ī (u 7) G) (ϯ Z s4 (TC s5 (bG7 (Zt FM (ZT P _)) (Zt FM (ZT hi _)))))))),Mg ?_ ?_ rfl (ĵ a b z)⟩
        . split
          . exact I
          . exact r
        . split
          . exact I
          . exact r
        . obtain⟨rfl,rfl⟩:=TR.aJ.stretch.inj z
          split<;>split<;>lia
def Dg(st:Int)(n:Nat):eS:=tS n (λ j:Nat=>.put (bZ7 * st % 47-9) (100+j))
def Qm0(c:Int)(hp:Hs):∃ds:eS,ã<=23/\xN [Ì c] hp>=(Ð cm2,hp)/\∀d∈ds,cV d:=by
 have a:=ch9 c 24 Â Â hp;have u:=cO3 (c / 24) 5 hp;have o:=cO3 c 24 hp;have g0:0<=c / 24 % 5:=sC _ Â;have g1:c / 24 % 5<5:=l7 _ Â;have g2:0<=c % 24:=sC _ Â;have g3:c % 24<24:=l7 _ Â;obtain⟨n,hn⟩:=Mz g2;obtain⟨st,i,v,C⟩:∃st:Int,bB (Ð [Ì 7,Ì 11,Ì 23,Ì 1,Ì 46]) ↥(c / 24 % 5) hp>=(Ì st,hp)/\0<=st/\st<=46:=by rcases(À:c / 24 % 5=0∨c / 24 % 5=1∨c / 24 % 5=2∨c / 24 % 5=3∨c / 24 % 5=4)with q|q|q|q|q<;>rw[q]<;>exact cc3 rfl Â Â
 let E:En:=[Ô c,Ô st]
 have u1:QP 1 (Qh bB (YY (Qc (Ě 7) (Qc (Ě 11) (N0 (Ě 23) bS (Ě 46))))) (Þ Xg (ϝ Yy 24) 5)) [Ô c,ļ] hp>=(Ŭ E,hp):=Qs (Qk rfl (ĩ (ng a) u) i);have r:=qq (hp:=hp) (f:=λ d=>Z0 (N0 (ĝ xz) (Þ qS (Þ Xg (Qh rD Ä ė) 47) 9) (lT (Ě 100) Ä)) (cE [1] E d)) (λ j:Nat=>f4 ((0:Nat)+bZ7)) (λ j=>ZQ (.put (bZ7 * st % 47-9) (100+j))) (ą n) λ j e=>by
  have lj:=bc1 e;have z:Î (0:Nat)+bZ7=j:=À
  rw[z];exact bG7 (ĩ (ĩ (at8 (Ć j) y (Ì st) rfl rfl (ZT (W8 bZ7 st À À) hp)) (cO3 _ 47 hp)) rfl) (ĩ rfl rfl)
 refine⟨Dg st n,ao1 Dg,ý E (TC u1 ?_),ż d hd⟩
 ·unfold Vm YR;rw[Qe (cK9 m n (Ī (ng o) hn) À),Ju (ĸ Xt),Qe (rfl:cW3 hp>=((),hp))];refine ω (Qe r);unfold Dg;rw[List.map_map];rfl
 ·unfold Dg at hd;obtain⟨j,e,rfl⟩:=cy5 hd;have:=bc1 e;refine Mg ?_ ?_ rfl λ_ _ z=>ē z
  ·unfold aU big;have:=sC (bZ7 * st) (ec (Î 47≠0));have:=l7 (bZ7 * st) (ec (cB1<47));lia
  ·unfold aU big;lia
def QtR{α:rV}(hp l:AU)(j:Nat)(x:α):Y2 (hp++l) (eI+j) x=hp++l.set j x:=cs5 (du _ À)
def Ek{α:rV}(hp l:AU)(x y:α):Y2 (hp++x::l) eI y=hp++y::l:=QtR hp (x::l) 0 y
def rC:TR.Wk:=⟨bu9 0,0,0,none,[],none,none,[],true⟩
def YS(S:TR.Sh)(H:Nat):TR.St:=⟨S,ö H rC,ö H 0,0⟩
section
variable{w hp:Hs}{s v k pa H n r:Nat}{S:TR.Sh}
def QoZ(j:H<=8):Zp [bp0,æ s,Ì H] (hp++[bD5 è])>=(Ę,hp++[br1 eI 0,bG,cP6 H,bG]):=by
 let E:En:=[fS,ϭ s,cj1]
 let n:=eI
 let w:AX->Hs->Hs:=λ fs t=>hp++be3 è::t
 have st:∀(nm:Str) (e:aG) (v:DV) (fs:AX) (t t':Hs),e E (w fs t)>=(v,w fs t')->aJ8<fE->Zu è nm Ä e E (w fs t)>=(Ŭ E,w (Xs nm v fs) t'):=λ nm e v fs t t' d hl=>ϓ (Z2 d Á Gm hl) Ek
 have c:∀(fs:AX)(t:Hs)(o:OV),XC o (w fs t)>=(æ (n+(⇑t+1)),w fs (t++[o])):=λ fs t o=>by show í (NG ⇑(hp++_::t),(hp++_::t)++[o])=_;simp[w,n]
 have nl:∀(fs:AX)(t:Hs),Xj Qj E (w fs t)>=(æ (n+(⇑t+1)),w fs (t++bX8)):=λ fs t=>c fs t bG
 let a:AX:=[bK9 s,az2 OI (n+1),(aj7, cL3)]
 have i:Qh wV (YY (Ò dO)) ĳ E (w a bX8)>=(æ (n+2),w a [bG,cP6 H]):=by refine at8 (Ð [Ę]) y (Ì H) rfl Á ?_;unfold wV;show(cz (0<=Î H/\bF4 H<=ŀ) >>= λ_=>XC (cP6 (bF4 H)):ġ) _=_;rw[C0 (EU À),Qe (rfl:cW3 (w a bX8)>=((),w a bX8))];exact c a bX8 _
 refine aM7 E ?_;refine dA (st Ġ _ ↑s [] [] [] Á Â);refine dA (st OI _ ↑(n+1) [bK9 s] [] bX8 (nl _ []) Ø);refine dA (st aj7 _ ↥0 [bK9 s,az2 OI (n+1)] bX8 bX8 rfl Ø);refine dA (st "held" _ ↑(n+2) a bX8 [bG,cP6 H] i Ø);exact st bZ1 _ ↑(n+3) [bK9 s,az2 OI (n+1),(aj7, cL3),az2 "held" (n+2)] [bG,cP6 H] [bG,cP6 H,bG] (nl _ [bG,cP6 H]) Ø
def nW(s v H:Nat):Hs:=[br2 0,bG,cP6 H,bG]
def Nk(d:H<=8){fa:cB}(ha:fa E w>=([æ s,Ì H],w)):JY è 3 Zp fa E w>=(TD,w++nW s Ĥ H):=by unfold JY;rw[cf8];have c:QI (FY (eM [NG s,f4 (Î H)]+1) 3) w>=((),w):=rfl;have a:XC (bD5 è) w>=(TD,w++[bD5 è]):=rfl;rw[bz5,Qe a,Qe (QoZ d)];rfl
def QpY(u:H<=8){fa:cB}(ha:fa E w>=([Ì r,Ì H],w)):JY Ğ 3 J8 fa E w>=(TD,w++([ck4 Ğ (Ĥ+1) (Ĥ+3) 0,ga r (Ĥ+2) 0 0 0,Ð cw2]++nW (Ĥ+1) (Ĥ+3) H)):=by
 let b:=Ĥ
 let D:AX->OV:=λ fs=>be3 Ğ
 let Sh:OV:=ga r (b+2) 0 0 0
 let a:Hs:=w++[D []]
 let e:AX:=[bK9 (b+1)]
 let w1:Hs:=w++[D e,Sh,Ð cw2]
 let c:AX->Hs:=λ fs=>w++([D fs,Sh,Ð cw2]++nW (b+1) (b+3) H)
 let F:En:=[ϭ b,Ô r,cj1]
 have i:bv6=b+1:=fA a b
 have x:az1=b+3:=fA w1 b
 have y:Zu Ğ Ġ Ä (JY á 2 Z7 gg) F a>=(Ŭ F,w1):=by have sm:=kz (r:=r) (hp:=a) (hp0:=a) (env:=F) (fa:=gg) Ÿ;unfold cX at sm;rw[i]at sm;refine ω (Z2 sm Á (fs:=[]) (à (Ag (Æ i (Cn b))) Gm) Â);show í (_,Y2 ((w++[_])++[_,_]) Ĥ _)=_;rw[Az];show í (_,Y2 (w++_::_) Ĥ _)=_;rw[Ek];rfl
 have G:JY è 3 Zp (Qc Hg sD) F w1>=(æ (b+3),c e):=by refine ω (Nk u (ZS (Ι Gm rfl) Á));rw[x];show í (NG (b+3),(w++[_,_,_])++_)=_;rw[Az]
 have z:Zu Ğ eD Ä (JY è 3 Zp (Qc Hg sD)) F w1>=(Ŭ F,c [bK9 (b+1),az2 eD (b+3)]):=aG5 (ω (Z2 G Á Gm Ø)) (í (_,Y2 (w++_::_) Ĥ _)=_) Ek
 have C:Zu Ğ EL Ä bp F (c [bK9 (b+1),az2 eD (b+3)])>=(Ŭ F,c (d7 (b+1) (b+3) 0)):=aG5 (ω (ci2 v cL3 rfl Gm Ø)) (í (_,Y2 (w++_::_) Ĥ _)=_) Ek
 unfold JY;rw[cf8];have o:QI (FY (eM [f4 (Î r),f4 (Î H)]+1) 3) w>=((),w):=rfl;have j:XC (bD5 Ğ) w>=(TD,a):=rfl;have d:J8 [cL6,Ì r,Ì H] a>=(Ę,c (d7 (b+1) (b+3) 0)):=aM7 F (ϯ y z C);rw[Qe o,Qe j,Qe d];rfl
def qj{i:Nat}{u:TR.Wk}(h:Ϥ (YS S H).ws u)(a:aB7):False:=ı (CS (Av h)) a a
def QnG:TR.lc (YS S H).ws=0:=by
 show TR.lc (ö H rC)=0;unfold TR.lc;rw[Cm.mpr (ż v hv)]
 ·rfl
 ·rw[CS hv];decide
def WB.idle(h1:cO0 w[s]? S.O4 (s+1) S.top S.rd S.wr)(h2:de3 (s+1) Ε)(hv:∀j:Nat,j<4->w[v+j]?=G1 (nW s v H))(sv:s+1<v∨v+3<s):WB w s v [] (YS S H) IJ []:=by
 refine⟨h1,h2,hv 0 Â,hv 1 Â,⟨ö H Ę,hv 2 Â,aG2 (_=⇑(ö H rC)),ĵ i u hi⟩,hv 3 Â,Æ QnG đ,sv,λ i u hi a=>ap3 hi a,λ i j u d _ hi a=>ap3 hi a,Tk x hx hx⟩;have a:œ u.O7:=ÿ (CS (Av hi))
 have c:i<H:=ir (Zx hi) (é ((YS S H).ws.length=H) List.length_replicate) this
 rw[Eh a,List.getElem?_replicate,cS3]
def Uf{x:Nat}(h:Fp s v (YS S H) IJ [] x):(s<=x/\x<=s+1)∨(v<=x/\x<=v+3):=by
 rcases h with h|h|⟨i,u,h1,h2,_⟩|⟨q,hq,_⟩
 ·exact aV0
 ·exact Ĉ h
 ·exact ap3 h1 h2
 ·cases hq
#where
def Qmw(r:Nat)(h:2<=r):TR.Tree ⟨r,[CC 0 [] []],0,0,0⟩ aa9:=by
 have one:Œ n p TR.Pg (([CC 0 [] []]:bQ4)[n]?>=p->n=0/\p=CC 0 [] []):=λ n p hp=>by
  match n,hp with
  |0,hp=>cases hp;exact ed
  |n+1,hp=>simp at hp
 refine⟨h,Ņ _ (ĵ n p hp),rfl,ĵ n p hp,ĵ n p hp,pM n p hp h0,λ n m p q hn c _ e=>?_,λ n p hp v hv=>ē hv⟩
 ·rw[(one n p hp).2];exact đ
 ·rw[(one n p hp).2];exact⟨List.Pairwise.nil,up,rfl,Tk k a a,λ_ k a=>ē a,Tk k a a,Tk h hh hh⟩
 ·rw[(one n p hp).2];exact cB9
 ·rw[(one n p hp).2]at h0;exact Ĝ h0 Â
 ·exact Ĝ (à (one n p hn).1 (one m q c).1.symm) e
def tE(r:Nat):TR.Sh:=⟨r,[CC 0 [] []],0,0,0⟩
def aY.idle{r H:Nat}(h2:2<=r)(h5:r<=5):TR.aY [] (YS (tE r) H) aa9 IJ:=by
 refine⟨Qmw r h2,⟨λ i v hv a=>ap3 hv a,λ i v c hv a=>ap3 hv a,λ i j v u c _ hv _ a=>ap3 hv a⟩,pM n p hp e,ĵ n d x,aK6 h5,aG2 (eM (ö H 0)=⇑(ö H rC)),up,?_,λ i v hv a=>ap3 hv a,λ i v hv a=>ap3 hv a⟩
 ·have:p=CC 0 [] []:=by
   match n,hp with
   |0,hp=>cases hp;rfl
   |n+1,hp=>simp[YS,tE]at hp
  rw[this]at e;exact Ĝ e Â
 ·have o:n<1:=d;exact Ĝ (Ő (n=0)) x
 ·have z0:TR.zc (ö H rC)=0:=by
   unfold TR.zc;rw[Cm.mpr (ż v hv)]
   ·rfl
   ·rw[CS hv];decide
  show Sc (tE r)+TR.zc (ö H rC)<=1+0;rw[z0];exact Ae 1
def iZ.idle{r H:Nat}:TR.iZ aU (YS (tE r) H):=⟨λ p hp=>r8 hp ⟨Tk k c c,λ_ x hx=>ē hx,Tk h hh hh⟩,λ i v hv a=>ap3 hv a,λ x hx=>Æ (CS hx) up⟩
def Iv(w:Hs)(k d H m c i j f:Nat)(ds:eS):ç:=∃s v a t e L L2 Q Q2 P0 kvs,Ws w k s v i j ds a t e L L2 Q Q2 (· = d)/\Pn ds a t e Q Q2 f H m c P0/\cN2 w[d]?/\DY kvs P0/\dQ<=⇑P0
section
variable{w:Hs}{k pa H m c s2 v2 f j:Nat}{ds:eS}{ns:Ŗ}{a:Int}{e1 e3 e8:Sl}
def eL(ns:Ŗ)(e1:Sl)(H:Nat)(e3:Sl)(k s2 v2 n:Nat)(e8:Sl)(f pa j:Nat):En:=[sR Ϲ,e1,cj1,e3,AZ,ϭ s2,aw5,Ô n,e8,Ô f,cD5,Ô j]
def wQ{o d e r:Nat}(i:G1 ns>=a)(w:Hs):B6 Ä ag2 (eL ns e1 H e3 o d e r e8 f pa j) w>=(Ì a,w):=by refine at8 cj0 y (Ć j) Á Á ?_;have a:=jM (xs:=OF) (j:=j) (v:=Ì a) (Ũ Bq i);show(bB cj0 (rg j)) w=_;simp only[bB,dH,C6,a];rfl
def Qr6(I:Iv w k pa H m c s2 v2 f ds)(hc:c<=64)(hk:G1 ns>=a):∃w' O r U Z,aN (eB (Þ bM (Þ Xg (ix Yy Ä ag2 9) 8) 5)) (ú 5 (IN 5 Yf 4 (Ç 6 (Ç 5 (aC 9 10)))) (ni (OC i8) CI (ú 6 (JY è 3 Zp (aC 5 2)) (QP 9 AN)))) Zg (eL ns e1 H e3 k s2 v2 ã e8 f pa j) w>=(Ŭ (eL ns e1 H e3 k r U ã e8 Z pa j),w')/\O<=c/\Iv w' k pa H m O r U Z ds:=by
  have t0:eB (Þ bM (Þ Xg (ix Yy Ä ag2 9) 8) 5) (eL ns e1 H e3 k s2 v2 ã e8 f pa j) w>=(a / 9 % 8==5,w):=PF (ĩ (ĩ (wQ hk w) (ch9 a 9 Â Â w)) (cO3 (a / 9) 8 w)) (rR _ _ _);cases e:(a / 9 % 8==5)with
  |false=>rw[e]at t0;exact⟨w,c,s2,v2,f,(Q8 t0),đ,I⟩
  |true =>
    rw[e]at t0;obtain⟨s,v,aO,t,t2,L,L2,Q,Q2,P0,kvs,W,P,E,pk,kl⟩:=I;obtain⟨w',n,d,rows,t',L',J,o,ep,D,g1,g2,out,a8,a9,gp,G,F,⟨bg,Y⟩,X,an,hl,rm,tb,st,nl⟩:=Qlo W P hc E pk kl
    let y:=wq
    let i:Hs:=w'++nW d aJ9 H
    have l2:cu8=aJ9+4:=fA i nW
    have old:∀x,x<aJ9->i[x]?=w'[x]?:=λ x hx=>Ag hx;have u:=out pa ĭ;have o2:=out d (Ĉ ĭ);have o3:=out (d+1) (Ĉ ot);have mk:JY è 3 Zp (aC 5 2) (eL ns e1 H e3 k d v2 ã e8 f pa j) w'>=(æ aJ9,i):=Nk P.h8 FM;have B:WB i d aJ9 [] (YS y H) IJ []:=WB.idle (à (old d o2.1) g1) (à (old (d+1) o3.1) g2) (λ j hj=>cs5 al2) (ë o3.1)
    have s1:QP 5 (IN 5 Yf 4 (Ç 6 (Ç 5 (aC 9 10)))) (eL ns e1 H e3 k s2 v2 ã e8 f pa j) w>=(Ŭ (eL ns e1 H e3 k d v2 ã e8 f pa j),w'):=Qs (Ο (sV Á Á Á Á Á) ep);refine⟨i,0,d,aJ9,ã,Jf t0 (Qo s1 (Qo (aH:=eL ns e1 H e3 k d v2 ã e8 f pa j) rfl (AB aH (eL ns e1 H e3 k d aJ9 ã e8 f pa j) mk (Qs Á)))),up,n,v,[],ü t' S y,YS y H,L',IJ,J,[],bw J,o,⟨D.keep λ x hx=>old x (D.lt hx),B,ĵ x h1 h2,A4⟩,⟨TR.Rel.anew rfl st hl nl,⟨bg,_,Y,λ_=>đ⟩,X,P.de,(Bo _).symm,an,hl,rm,tb,P.pd,P.rK,P.h0,P.h8⟩,à (old pa u.1) gp,G,F⟩
    . rcases Uf h2 with ⟨C,a2⟩|⟨C,_⟩
      . rcases(À:x=d∨x=d+1)with rfl|rfl
        . exact o2.2 h1
        . exact o3.2 h1
      . exact Ĝ (D.lt h1) À
    . subst hx
      refine⟨ī u.1,u.2,bX3⟩;have:=u.1;rcases Uf z with ⟨C,a2⟩|⟨C,_⟩<;>lia
def MC{O:aJ3}{s v:Nat}{i:eS}{t o:TR.St}{L L2:et}{Q Q2:Dn}{y:iO}(W:Ws w k s v s2 v2 ds i t o L L2 Q Q2 O)(P:Pn ds i t o Q Q2 f H m c y){d:TR.aJ}(hd:cV d)(hl:ã<m+23):∃e,Qr (ZV (QC è ae2 2 ZI i9 (û 8))) (ni (bl7 cI (mw Ğ 2 QL ũ (dh2 Yu 8)) JD 7) CI (oV 7 xF bS)) [e0,e1,e2,e3,AZ,e5,aw5,aG8,! wc,e9,e10,h_] w>=(Ŭ [e0,e1,e2,e3,AZ,e5,aw5,!(Ì ⇑(ds++[d])),! wc,e9,e10,h_],e)/\Ws e k s v s2 v2 (ds++[d]) (i++[d]) t o L L2 Q Q2 O/\(∀x,O x->e[x]?=w[x]?)/\Pn (ds++[d]) (i++[d]) t o Q Q2 f H m c y:=by
 obtain⟨w1,e,C,U,I,kp,G⟩:=QkF W P hd hl;have fL:=P.fL;have E:=YI (Ő (ã<=fE)) đ;have J:fj (txt ã):=zd E;have r:w1[k]?>=(ck4 Ğ s v ã):=by obtain⟨Z,u,F,rfl⟩:=M8 W.B d (ī P.R.len);have:=(Prod.mk.inj (Aj (C.symm.trans u))).2;rw[this];obtain⟨r,_⟩:=W.two F ⟨Ê,λ x _ hx=>Za _ _ _ _ λ z=>hx aW5,λ x hx=>ë hx⟩;exact r.D.dk
 refine⟨e,cZ4 (ZH (FA W.B.hv (Tz ..) Ÿ C)) (aU1 (FA r aU9 (QG (bS7 (Qrn hd))) U) (Zt Ÿ (Ym E.abs)) (neT J.ok)) ?_,I,kp,G⟩;rw[Am];exact dg1 ŕ
def QpQ(I:Iv w k pa H m c s2 v2 f ds)(hc:c<64)(F:G1 ns>=a)(hb:J3 a)(hd:ã=m+min j 20):∃w' c' o u r e C,Nu (eL ns e1 H e3 k s2 v2 ã e8 f pa j) w>=(Ŭ (eL ns e1 H e3 k o u ⇑e C r pa j),w')/\c'<=c+1/\Iv w' k pa H m c' o u r e/\⇑e=m+min (j+1) 20:=by
 obtain⟨w1,c1,o,u,r,u1,a9,s,v,aO,t,t2,L,L2,Q,Q2,P0,kvs,W,P,G,pk,kl⟩:=Qr6 (e1:=e1) (e3:=e3) (e8:=e8) I À F;obtain⟨y,e,J,C,u2,Z,a8,P2,dl⟩:∃y e J C,aN (aL3 cC 11 20) (ú 8 (bK1 jF (cx Ä ag2)) (Py (QC è ae2 2 ZI i9 (û 8)) (ni (bl7 cI (mw Ğ 2 QL ũ (dh2 Yu 8)) JD 7) CI (oV 7 xF bS)))) Zg (eL ns e1 H e3 k o u ã e8 r pa j) w1>=(Ŭ (eL ns e1 H e3 k o u ⇑e C r pa j),y)/\Ws y k s v o u e J t t2 L L2 Q Q2 (· = pa)/\cN2 y[pa]?/\Pn e J t t2 Q Q2 r H m c1 P0/\⇑e=m+min (j+1) 20:=by
  have tt:eB (ò cC 11 20) (eL ns e1 H e3 k o u ã e8 r pa j) w1>=(LU bZ7 20,w1):=QS (bG4 (Ć j) Á);by_cases h:j<20
  ·rw[aq0]at tt;obtain⟨d,de,dk⟩:=QpX a hb w1;obtain⟨y,e2,Z,kp,P2⟩:=MC (e0:=Ó cj0) (e1:=e1) (e2:=cj1) (e3:=e3) (e5:=bI o) (e9:=Ô r) (e10:=bI pa) (h_:=Ô j) W P dk À;exact⟨y,ds++[d],aO++[d],! wc,Jf tt (AB aH (eL ns e1 H e3 k o u ã (Ó wc) r pa j) (aH4 (wQ F w1) de) e2),Z,à (kp pa rfl) G,P2,ŉ⟩
  ·rw[ap0]at tt;exact⟨w1,ds,aO,e8,(Q8 tt),W,G,P,À⟩
 let E:=eL ns e1 H e3 k o u ⇑e C r pa j
 have h0:=P.h0;have g0:0<=a / 3 % (Î H):=sC _ À;have g1:a / 3 % (Î H)<H:=l7 _ À;obtain⟨i,hi⟩:=Mz g0;rw[hi]at g1;have mH:=aB3 (a / 3) (Î H) À y;rw[hi]at mH;obtain⟨O,t',dM,L',iD,Q',dF,em,W3,k3,U⟩:=QnW Z P2 À (Ő (i<H));have u3:Xn (eB (IN 4 q8 4 (Ç 6 (Β 9 (Qh Xg (ix Yy Ä ag2 3) ĳ))))) E y>=(ź O):=bu3 b (Ο (sW Á Á Á (Qk (ĩ (wQ F y) (ch9 a 3 Â Â y)) Á mH)) em);obtain⟨z,el,l4,k4⟩:=QnO W3 U (a / 7);have u4:Xn (eB (IN 3 qZ 4 (Β 5 (ix Yy Ä ag2 7)))) E O>=(ź z):=bu3 b (Ο (Xb Á Á (ĩ (wQ F O) (ch9 a 7 Â Â O))) el);obtain⟨W4,_⟩:=W3.more l4 k4;have cO:cN2 z[pa]?:=à (k4 pa (W3.ox pa rfl).1) (à (k3 pa rfl) a8);have dp:cB1<dh3:=À
 have n0:0<=a / 11 % dh3:=sC _ À;have n1:a / 11 % dh3<⇑e:=l7 _ À;obtain⟨n,hn⟩:=Mz n0;rw[hn]at n1;have mN:=aB3 (a / 11) dh3 dp z;rw[hn]at mN;obtain⟨g,ea⟩:=Qfk W4 U cO pk (Ő (n<⇑e));have u5:Xn (eB (IN 5 Ye 4 (Ç 6 (Ç 9 (Β 10 (Qh Xg (ix Yy Ä ag2 11) AN)))))) E z>=(ź (z++g)):=bu3 b (Ο (sV Á Á Á Á (Qk (ĩ (wQ F z) (ch9 a 11 Â Â z)) Á mN)) ea);obtain⟨W5,k5⟩:=W4.more (w':=z++g) Ê λ x hx=>Ag hx;exact⟨z++g,c1+1,o,u,r,e,C,ϯ u1 u2 (Ŀ (bd6 u3 u4) (Q8 u5)),À,⟨s,v,J,t',dM,L',iD,Q',dF,P0,kvs,W5,U,à (k5 pa rfl) cO,pk,kl⟩,dl⟩
#where
def Qr5(ns:Ŗ)(hp:Hs):∃x,YE [cj0,cL3] hp>=(Ì x,hp):=by
  cases ns with
  |nil=>exact bT 0
  |cons a r =>
    let E:En:=[sR (ww (a::r)),Ô 0]
    have ln:aq8 UJ Ä E hp>=(Ć (lP+1:Nat),hp):=Zt Ÿ (as6 (f4 (⇑(tP (a::r) DV.int):Nat),hp) _ Bm)
    have t:bz6 (Qh cC ė (Ē UJ Ä)) E>=cI8:=bP8 (QS (Qk (x:=cL3) Á ln rfl)) (C0 (Ő (cB1<Î (lP+1:Nat))))
    exact İ a (ý E (wP t (at8 (Ð (ww (a::r))) y cL3 Á Á (by have b:=jM (xs:=tP (a::r) DV.int) (j:=0) (v:=Ì a) rfl;simp only[bB,dH,C6];rw[nv (cB1=Î (0:Nat)),b];rfl))))
section
variable{w:Hs}{k H m c s2 v2 f:Nat}{ds:eS}{ns:Ŗ}{e1 e3:Sl}
def Qfi{O:aJ3}{s v:Nat}{t a:TR.St}{L L2:et}{Q Q2:Dn}{j:iO}(W:Ws w k s v s2 v2 [] [] t a L L2 Q Q2 O)(P:Pn [] [] t a Q Q2 f H 0 c j)(hd:∀d∈ds,cV d)(hl:ã<=23):∃w' z,yf (cN cm2) (aX3 d 8 d (Oi env')) ŀ 0 [e0,e1,e2,e3,AZ,e5,aw5,Ô 0,ļ,e9,e10,h_] w>=(Ŭ [e0,e1,e2,e3,AZ,e5,aw5,aG8,z,e9,e10,h_],w')/\Ws w' k s v s2 v2 ds ds t a L L2 Q Q2 O/\Pn ds ds t a Q Q2 f H 0 c j:=by
 have y:WP (yf (cN cm2) (aX3 d 8 d (Oi env')) ŀ 0 [e0,e1,e2,e3,AZ,e5,aw5,Ô 0,ļ,e9,e10,h_]) w λ q w'=>∃z,q=Ŭ [e0,e1,e2,e3,AZ,e5,aw5,aG8,z,e9,e10,h_]/\Ws w' k s v s2 v2 ds ds t a L L2 Q Q2 O/\Pn ds ds t a Q Q2 f H 0 c j:=by
  refine RS cm2 (λ i env w'=>∃z,env=[e0,e1,e2,e3,AZ,e5,aw5,!(Ì ⇑cn4),z,e9,e10,h_]/\Ws w' k s v s2 v2 cn4 cn4 t a L L2 Q Q2 O/\Pn cn4 cn4 t a Q Q2 f H 0 c j) cC7 (cc3 rfl W P) (bx5 i d hi env w' zz) (ĵ env w' zz)
  ·obtain⟨z,rfl,r,o⟩:=zz;rw[Bq]at hi;obtain⟨x,hx,rfl⟩:=by4 hi;have E:=Zx hx;obtain⟨C,e,u,_,P2⟩:=MC (e0:=e0) (e1:=e1) (e2:=e2) (e3:=e3) (e5:=e5) (e9:=e9) (e10:=e10) (h_:=h_) r o (hd x (Av hx)) (ĸ A7);have tk:cn4++[x]=aq3 (i+1):=Ũ List.take_succ hx
   rw[tk]at e u P2;exact⟨_,C,Mr e,_,rfl,u,P2⟩
  ·obtain⟨z,rfl,r,o⟩:=zz;rw[Bm,List.take_length]at *;exact⟨z,rfl,r,o⟩
 obtain⟨q,w',e,z,rfl,h⟩:=y;exact⟨w',z,e,h⟩
def Qnb{y:Nat}(I:Iv w k y H m 0 s2 v2 f ds)(h:F8<=63)(hb:∀x∈ns,J3 x)(hd:ã=m):∃(w':Hs)(o i r u:Nat)(a:eS)(v z:Sl),BO [sR Ϲ,e1,cj1,e3,AZ,ϭ s2,aw5,aG8,e8,Ô f,ϭ y,ļ] w>=(Ŭ [sR Ϲ,e1,cj1,e3,AZ,ϭ i,ϭ r,Ô bv6,v,Ô u,ϭ y,z],w')/\o<=63/\Iv w' k y H m o i r u a:=by
 let G:bT0 (d9 (Sl->d9 (Sl->En))):=λ s2 v2 n e8 f z=>[sR Ϲ,e1,cj1,e3,AZ,ϭ s2,aw5,Ô n,e8,Ô f,ϭ y,z]
 have U:WP (jU (aX3 d 11 d (Nu env')) (ZL 0 F8) (G s2 v2 ã e8 f ļ)) w λ q w'=>∃o i r u a v z,q=Ŭ (G i r bv6 v u z)/\o<=63/\Iv w' k y H m o i r u a:=by
  refine QmV (λ j env w'=>∃o i r u a v z,env=G i r bv6 v u z/\o<=j/\Iv w' k y H m o i r u a/\bv6=m+min j 20) (ZL 0 F8) ⟨0,s2,v2,f,ds,e8,ļ,rfl,đ,I,ĸ hd⟩ (bx5 j d hj env w' zz) (ĵ env w' zz)
  ·obtain⟨o,i,r,u,a,v,z,rfl,F,C,E⟩:=zz;obtain⟨lj,rfl⟩:=N8 hj;have hk:G1 ns>=ns[j]:=Ab lj;obtain⟨w2,c2,O,P,f2,Z,J,e,a8,Q,L⟩:=QpQ (e1:=e1) (e3:=e3) (e8:=v) C À hk (hb _ (Bx lj)) E;exact⟨_,w2,Mr e,c2,O,P,f2,Z,J,_,rfl,À,Q,L⟩
  ·obtain⟨o,i,r,u,a,v,z,rfl,F,C,E⟩:=zz;rw[Xt]at F;exact⟨o,i,r,u,a,v,z,rfl,À,C⟩
 obtain⟨q,w',e,o,i,r,u,a,v,z,rfl,F,C⟩:=U;refine⟨w',o,i,r,u,a,v,z,qw (cK9 m F8 (Zt Ÿ ?_) À) e,F,C⟩;show í (f4 (⇑OF:Nat),w)=_;rw[Bm]
#where
def Qua:txt (Î (0:Nat)) = "0" := È
def QkX(ns:Ŗ)(h:F8<=63)(hb:∀x∈ns,J3 x):∃hp,z_ [cj0] []>=(Η,hp):=by
 obtain⟨a,e0⟩:=Qr5 ns [];have g0:0<=a % 8:=sC _ Â;have g1:a % 8<8:=l7 _ Â;obtain⟨H,hn,n1,U⟩:∃n:Nat,1+a % 8=iH/\1<=n/\n<=8:=⟨IL (1+a % 8),À,À,À⟩;have q0:0<=a / 8 % 4:=sC _ Â;have q1:a / 8 % 4<4:=l7 _ Â;obtain⟨r,hr,r2,r5⟩:∃n:Nat,2+a / 8 % 4=iH/\2<=n/\n<=5:=⟨IL (2+a / 8 % 4),À,À,À⟩
 let X:Sl:=Ó cj0
 let C:Sl:=Ô a
 let E:Sl->Sl->Sl->Sl->Sl->Sl->Sl->Sl->Sl->En:=λ z2 z3 z4 z5 z6 z7 z8 z9 i_=>[X,C,z2,z3,z4,z5,z6,z7,z8,z9,i_,ļ]
 have s1:QP 1 (LJ YE (Ś Ä bp)) [X,ļ,ļ,ļ,ļ,ļ,ļ,ļ,ļ,ļ,ļ,ļ] []>=(Ŭ (E ļ ļ ļ ļ ļ ļ ļ ļ ļ),[]):=Qs (be6 rfl e0);have s2:QP 2 (lT bS (ò Xg 1 8)) (E ļ ļ ļ ļ ļ ļ ļ ļ ļ) []>=(Ŭ (E cj1 ļ ļ ļ ļ ļ ļ ļ ļ),[]):=Qs (Qk rfl (ng (cO3 a 8 _)) (show í (f4 (1+a % 8),[])>=(f4 H,[])by rw[hn]));have s3:QP 3 (lT bp3 (Þ Xg (ò Yy 1 8) 4)) (E cj1 ļ ļ ļ ļ ļ ļ ļ ļ) []>=(Ŭ (E cj1 (Ô r) ļ ļ ļ ļ ļ ļ ļ),[]):=Qs (Qk rfl (ĩ (ng (ch9 a 8 Â Â _)) (cO3 (a / 8) 4 _)) (show í (f4 (2+a / 8 % 4),[])>=(f4 r,[])by rw[hr]))
 let e:Sl->Sl->Sl->Sl->Sl->Sl->Sl->En:=λ z4 z5 z6 z7 z8 z9 i_=>E cj1 (Ô r) z4 z5 z6 z7 z8 z9 i_
 let w7:Hs:=[]++([ck4 Ğ 1 3 0,ga r 2 0 0 0,Ð cw2]++nW 1 3 H)
 let J:Hs:=cX w7 r 0 0 cw2
 let y:Hs:=J++nW 7 9 H
 have s4:QP 4 (JY Ğ 3 J8 (aC 3 2)) (e ļ ļ ļ ļ ļ ļ ļ) []>=(Ŭ (e aw6 ļ ļ ļ ļ ļ ļ),w7):=Qs (QpY (w:=[]) U FM);have s5:QP 5 (JY á 2 Z7 ao6) (e aw6 ļ ļ ļ ļ ļ ļ) w7>=(Ŭ (e aw6 aJ4 ļ ļ ļ ļ ļ),J):=Qs (kz Ÿ);have s6:QP 6 (JY è 3 Zp (aC 5 2)) (e aw6 aJ4 ļ ļ ļ ļ ļ) J>=(Ŭ (e aw6 aJ4 bq3 ļ ļ ļ ļ),y):=Qs (Nk (w:=J) (s:=7) U FM)
 let S:=tE r
 have B1:WB y 1 3 [] (YS S H) IJ []:=WB.idle rfl rfl (λ j I=>by
  match j,I with
  |0,_=>rfl
  |1,_=>rfl
  |2,_=>rfl
  |3,_=>rfl
  |j+4,I=>lia) Â
 have B2:WB y 7 9 [] (YS S H) IJ []:=WB.idle rfl rfl (λ j I=>by
  match j,I with
  |0,_=>rfl
  |1,_=>rfl
  |2,_=>rfl
  |3,_=>rfl
  |j+4,I=>lia) Â
 have W0:Ws y 0 1 3 7 9 [] [] (YS S H) (YS S H) IJ IJ [] [] (λ_=>False):=⟨Ņ B1 (λ z=>by rcases Uf z with z|z<;>lia),B2,λ x h1 h2=>by
  have:=Uf h2;rcases h1 with h1|h1
  ·lia
  ·have:=Uf h1;lia,λ x hx=>hx.elim⟩
 have P:(YS S H).ws.length=H:=List.length_replicate;have P0:Pn [] [] (YS S H) (YS S H) [] [] 0 H 0 0 []:=⟨TR.Rel.refl (aG2 (eM (ö H 0)=⇑(ö H rC))),cc3 _ (aY.idle r2 r5) (λ_=>đ),iZ.idle,Tk d hd hd,rfl,Tk x hx hx,P,r5,up,up,up,n1,U⟩;obtain⟨ds,dl,ea,hd⟩:=Qm0 (a / 32) y;obtain⟨wB,z8,e7,W1,P1⟩:=Qfi (ds:=ds) (e0:=X) (e1:=C) (e2:=cj1) (e3:=Ô r) (e5:=aJ4) (e9:=ļ) (e10:=ļ) (h_:=ļ) W0 P0 hd dl;have s8:BN (e aw6 aJ4 bq3 (Ô 0) ļ ļ ļ) y>=(Ŭ (e aw6 aJ4 bq3 aG8 z8 ļ ļ),wB):=xb (qU (aH4 (ng (ch9 a 32 Â Â _)) ea)) e7;obtain⟨u,t',dM,L',iD,Q',dF,f1,W2,_,P2,st⟩:=Lp W1 P1 Â (env:=e aw6 aJ4 bq3 aG8 z8 ļ ļ) (i:=4) (j:=6) rfl rfl;have tk:=(TR.jx st).1;have W3:=(W2.add F7).less (O':=(· = ⇑u)) λ x hx=>Ĉ hx;have I0:Iv (u++[F7]) 0 ⇑u H ã 0 7 9 0 ds:=⟨1,3,ds,t',dM,L',iD,Q',dF,[],[],W3,⟨P2.R,P2.Y,P2.X,P2.de,P2.qe,P2.an,P2.hl,P2.rm,À,À,dl,P2.h0,P2.h8⟩,Gm,au4,đ⟩;obtain⟨wD,c,Z,cL,f',G,eO,z,e9,hc,s,v,aO,t,t2,L,L2,Q,Q2,PP,kvs,W4,P4,_⟩:=Qnb (e1:=C) (e3:=Ô r) (e8:=z8) I0 h hb rfl;have s9:QP 9 bp (e aw6 aJ4 bq3 aG8 z8 ļ ļ) u>=(Ŭ (e aw6 aJ4 bq3 aG8 z8 (ķ (0:Nat)) ļ),u):=rfl;have rJ:QP 10 yc (e aw6 aJ4 bq3 aG8 z8 (ķ (0:Nat)) ļ) u>=(Ŭ (e aw6 aJ4 bq3 aG8 z8 (ķ (0:Nat)) (bI u.length)),u++[F7]):=rfl
 let F:En:=[X,C,cj1,Ô r,ϭ 0,ϭ Z,ϭ cL,Ô ⇑G,eO,Ô f',ϭ u.length,z]
 obtain⟨wE,t5,a9,L5,ab,Q5,O,f5,W5,_,o,a8⟩:=Lp W4 P4 À (env:=F) (i:=4) (j:=6) rfl rfl;obtain⟨wF,L6,Q6,f6,W6,_,q6⟩:=Qtt W5 o a8;rw[Qua]at f6;have P6:Pn G aO t5 a9 Q6 O f' H ã 0 PP:=⟨o.R,o.Y,o.X,o.de,Æ q6 o.qe,Æ q6 o.an,o.hl,o.rm,o.tb,o.pd,o.rK,o.h0,o.h8⟩;obtain⟨w1,wG,x,lG,kG,as,ta,tb⟩:=D6 W6 P6 (env:=F) (i:=4) (j:=5) rfl rfl;obtain⟨W7,_⟩:=W6.more lG kG;obtain⟨g,ys⟩:=T4 W7 P6 (env:=F) (i:=4) rfl;have u1:iJ (nB cI dg7 (bK3 Ϡ ZE i9)) (eB (ee cI dg7 "0")) F wD>=(ź wF):=bd6 (QS f5) (PF (FA W5.D.dk aU9 bP1 f6) (neT È));have u2:QR (v0 (Qh bM (dg6 nr) (bK1 ZX (dh2 Jd 5))) (aW0 (dg6 wh) "yes")) F wF>=((.rt Η,F),wG++g):=Qv (à (Sk (b:=true) (Qk ta tb (oK _ as.ok as.ok Ê))) (à cq ys));exact İ (wG++g) (bD0 F s1 s2 (ϯ s3 s4 (ϯ s5 s6 (Qo (aH:=e aw6 aJ4 bq3 (Ô 0) ļ ļ ļ) rfl (cZ4 s8 (QS f1) (ϯ s9 rJ (cZ4 e9 u1 u2)))))))
def QaL{K:Aa}{d a c:Addr}{d0 d1 e:OL}{r u v:Nat}{x y z:ap1}{C:Tok}(i:δ d>=⟨aw0, d0,.seq #[iA 0 C,ν,æ c,ey,ey] r,x⟩)(o:δ c>=⟨aw0, e,.seq #[] v,z⟩)(j:δ a>=⟨aw0, d1,.seq #[] u,y⟩):bU K (ì [cL3,bR6,bR6,Ę,Ę]) ↑d:=(M6 (xs:=[cL3,ν,æ c,Ę,Ę]) i Ø (ϗ TL (an0 rfl rfl (an0 rfl rfl lS))) (yn Qqq (yn (M6 (xs:=[]) j Ø lS Nx) (yn (M6 (xs:=[]) o Ø lS Nx) (yn WM (yn WM Nx))))))
def Qqr{P:Program}{w:World}{K:Aa}{h:Heap}{mg:C9}{fa f:Addr}{j kV e i a ct:Value}{od an:OL}{o:ap1}(X:bx2)(G:sA mg)(d:mg cZ3 = aV1 fa)(Z:Al K mg)(n:ε K cZ3 = í aX8)(l:δ f>=⟨j,od,.func (PySem.W.fnOf cZ3 cZ3 (Xv GF) (Jr GF) (Qp GF) ey kV e i an a ct),o⟩)(c:wn K a cZ3)(k:cM1 K):∃fd:FuncData,bH8 s v Value (bY2 s (FI [v]) [(ai3, v)])/\∀O8:Heap,K.In O8->aa8 mg->xQ P w K mg O8 CX0 12 fa fd [ai3] (lC K 1 z_):=bz9 (d.symm.trans (ab3 G n)) ⟨PySem.W.fnOf cZ3 cZ3 (Xv GF) (Jr GF) (Qp GF) ey kV e i an a ct,λ s v=>.of_eq rfl,λ O8 _ _=>law_fn Z (Fi l c k)⟩
def walk{l:PySem.W.OpenLaw}{q:Program}{c:ő}{j:(C9)->be8}{i:World->be8}{d:DefRec}{K:Params->Aa}(hn:l.most>=63)(e:d.params.defaults=[])
  (hY:∀(w:World)(h:Heap),i w h->(pe).In h)
  (F:∀(w:World)(mg:C9)(fa:Addr)(h:Heap),(pe).In h->sA mg->mg d.name>=↑fa ->
   ∃fd:FuncData,bH8 s u Value (bY2 s (FI [u]) [(ai3, u)])/\∀O8:Heap,(pe).In O8->aa8 mg->xQ l.prog w pe mg O8 CX0 12 fa fd [ai3] (lC pe 1 z_)) :
  PySem.W.WalkO q c j i l.row.toRowW d [] (λ f vs=>PySem.call f vs) :=
 L2.QmA (n:=63) (k:=12) (x := ai3) (CX:=λ_=>CX0) (sp:=λ w=>lC pe 1 z_) hn Â e ⟨rfl,Â,Â⟩ hY F (λ w _ a ns hl r _ o=>Qqs (QkX ns hl r) o) λ_ _ _ _ _ z=>z
#print K71
namespace PySem.W.Fast
def tw14328196683189630471:=0
def tw11357570278517926698:=0
def tw7929764727547885588:=0
def tw11279036328078444166:=0
def tw9706573350600867530:=0
def tw16945532741294652193:=0
def tw14045071028336808536:=0
def tw11997637002378269719:=0
def tw11815223957575898031:=0
def tw7284772899760344080:=0
def tw2719873563076516809:=0
def tw225910962261835351:=0
def tw6622455061669337871:=0
def tw15933398211850976098:=0
def tw13619106906376355766:=0
def tw13966147361272107550:=0
def tw9011457659426933276:=0
def tw17893016367826875134:=0
def tw6156828505807309064:=0
def tw4992799448657037088:=0
def tw14303073634663187052:=0
def tw1771645203247806879:=0
def tw6599671505134642275:=0
def tw2503711157334826635:=0
def tw7528949739318930003:=0
def tw16555600575311035553:=0
def tw17137847722664349032:=0
def tw16214255662712776298:=0
def tw14129214972366486535:=0
def tw12797880716131876240:=0
def tw6764968369339052289:=0
def tw18007225652763638477:=0
def tw8228693924672455352:=0
def tw13382892947360301292:=0
def tw8819355494547985881:=0
def tw8566700154058309317:=0
def tw11920685245298375065:=0
def tw7596948524285298874:=0
def tw9435866502971966456:=0
def tw14690452349106761170:=0
def tw1914984582992038821:=0
def tw13756760843562363595:=0
def tw3419705121265520169:=0
def tw3998045674311507609:=0
def tw17482984939670613173:=0
def tw5971790298473134751:=0
def tw3840359978235588360:=0
def tw46634411392431315:=0
def tw13753008763372068131:=0
def tw554152733796088639:=0
def tw17609336482809061450:=0
def tw11554935356247678842:=0
def tw10515341987846753909:=0
def tw13945534703205628982:=0
def tw9875304680025248966:=0
def tw3778061941613773687:=0
def tw12103625740601298717:=0
def tw5409708126838152670:=0
def tw718811544815441403:=0
def tw17311202932889401525:=0
def tw1983314867073866299:=0
def tw7636515195552598309:=0
def tw9608144140368754571:=0
def tw5586500146928436808:=0
def tw9335135642829566561:=0
def tw4825014747154756752:=0
def tw13627785557743275293:=0
def tw16211361219337243245:=0
def tw10327620171269230649:=0
def tw13207799854169382357:=0
def tw5346546023526695512:=0
def tw7483937286253773562:=0
def tw8608260253406680030:=0
def tw17636142435232957536:=0
def tw13164022477937540849:=0
def tw16219885186251044301:=0
def tw4620691351109962005:=0
def tw17735863440432726153:=0
def tw12575728083754331118:=0
def tw4327653903027203857:=0
def tw2714048461312316727:=0
def tw1568337124779226753:=0
def tw16689036067310444911:=0
def tw11285182631382048708:=0
def tw1398700692147697808:=0
def tw6287565308927096010:=0
def tw18192764321947199328:=0
def tw1092713210232287924:=0
def tw8070989815864074505:=0
def tw6267034346176604516:=0
def tw10901984304914862495:=0
def tw17055311024163677958:=0
def tw2284362985649182172:=0
def tw9263587725697219306:=0
def tw12379800188493660885:=0
def tw5721613086889094294:=0
def tw7882349150381619027:=0
def tw6770828069959641848:=0
def tw10272508654704117771:=0
def tw4800157437442512529:=0
def tw7788180614740728171:=0
def tw9816810548300187382:=0
def tw5952715119820585984:=0
def tw15526268328691490224:=0
def tw788029062684039305:=0
def tw13731421827493448641:=0
def tw9643783968950152270:=0
def tw881840111600117486:=0
def tw16783291731351176113:=0
def tw15842033034566093688:=0
def tw7831036297989307219:=0
def tw10019870369087254472:=0
def tw1737344545738691743:=0
def tw18261343724531678912:=0
def tw6789202300337300908:=0
def tw3461930805977253691:=0
def tw13254052453671720785:=0
def tw3141162453262347444:=0
def tw6416710639426918367:=0
def tw9735726036411561248:=0
def tw18295137358825557175:=0
def tw11025394069591298761:=0
def tw12440368183735419707:=0
def tw15115943435821084928:=0
def tw18155663013138012959:=0
def tw5189689094357466116:=0
def tw7897455064178144356:=0
def tw4340609570477811135:=0
def tw14758005366478656745:=0
def tw14756089063618342964:=0
def tw7305298495787651503:=0
def tw8551428870320105890:=0
def tw12988405280407901816:=0
def tw10663133338474321133:=0
def tw6501985093657058707:=0
def tw1103024606926596613:=0
def tw2407617789661405309:=0
def tw4203234914245554566:=0
def tw3279422740180590503:=0
def tw1641914918160357667:=0
def tw4213041488460029338:=0
def tw3431674966275569775:=0
def tw10335525944157112892:=0
def tw15502282050866288900:=0
def tw13657102855763443966:=0
def tw10751174604209556403:=0
def tw12330444193254608079:=0
def tw9395785539729610485:=0
def tw17107741579533545101:=0
def tw13959423547018482900:=0
def tw1845121925010710087:=0
def tw7804736373664241470:=0
def tw12474147384252727630:=0
def tw15813016801164992417:=0
def tw14761509712960518908:=0
def tw10101556828004580164:=0
def tw5517405167241554836:=0
def tw13102014930074262711:=0
def tw5557476044850638193:=0
def tw7894359809486584497:=0
def tw8856142060682099291:=0
def tw8215506159887930895:=0
def tw1996425557947320978:=0
def tw4511449135515413883:=0
def tw1740820260349424954:=0
def tw7220845451432777050:=0
def tw17185455227031744086:=0
def tw8007279788694339007:=0
def tw17875586969123319154:=0
def tw18389145038387248973:=0
def tw4962925744501163111:=0
def tw12405777659111438039:=0
def tw3757840156270982288:=0
def tw15708112748414888188:=0
def tw11672653144753321561:=0
def tw14795106415243220196:=0
def tw10143152161818439373:=0
def tw2960281797406336856:=0
def tw3526355566783638122:=0
def tw11321391752498867871:=0
def tw12435980377891582354:=0
def tw11567619675731775054:=0
def tw5507306244783981540:=0
def tw13803901596282070166:=0
def tw15798523616027728043:=0
def tw1919439534959922412:=0
def tw9693122480495053429:=0
def tw10965862539172909747:=0
def tw174290989273258973:=0
def tw1781720461893538495:=0
def tw855914804060167866:=0
def tw11519692579261765105:=0
def tw3462166227550510666:=0
def tw10264169765481504844:=0
def tw113747604707165646:=0
def tw10789365383572462680:=0
def tw7119400208347018526:=0
def tw11340730013931428081:=0
def tw10943022027542708594:=0
def tw11375308845976091642:=0
def tw17780251314518131445:=0
def tw5817519431370217260:=0
def tw17995887303403766858:=0
def tw9377708993819302891:=0
def tw12085626215943499451:=0
def tw1365542067181094764:=0
def tw10411334591274751121:=0
def tw1478292629635135980:=0
def tw13458946742110451694:=0
def tw16228820557721671037:=0
def tw5614890020661603863:=0
def tw10730759083942928842:=0
def tw18168520380200989258:=0
def tw13973944137421565372:=0
def tw1133211350942670788:=0
def tw7742023870399890771:=0
def tw6377412022552055085:=0
def tw11428756326147644247:=0
def tw9217410241746228200:=0
def tw8702239601477028365:=0
def tw4046060737830130015:=0
def tw6266528201437032050:=0
def tw18320800211672307383:=0
def tw12661668063782858787:=0
def tw7243199446473805921:=0
def tw1392945157687645821:=0
def tw2564663421838735841:=0
def tw4211915246399996974:=0
def tw15916676213859423976:=0
def tw11942917955726732808:=0
def tw13920675402378219257:=0
def tw3214558079254407551:=0
def tw5627972060105974782:=0
def tw2537867344226538466:=0
def tw7340252156370941930:=0
def tw16313447860983928913:=0
def tw10457924012432618241:=0
def tw9652309868830500027:=0
def tw15919616212138784694:=0
def tw14625187274207483262:=0
def tw15568590517163211796:=0
def tw9621749213470573:=0
def tw5996153421707730537:=0
def tw12211007325510771000:=0
def tw18289683202782815571:=0
def tw8527331066183303822:=0
def tw11047798333847599775:=0
def tw15205202463926838298:=0
def tw1550118071412965825:=0
def tw5201548264503827376:=0
def tw3627569995926557063:=0
def tw11294673578448703382:=0
def tw8900078854799209640:=0
def tw2813269205309133862:=0
def tw14772644254386339999:=0
def tw870552778859791937:=0
def tw17849401281042952884:=0
def tw10186083900920165678:=0
def tw6875858207841434307:=0
def tw6715466658673295350:=0
def tw15919231719384421983:=0
def tw14625142470042941516:=0
def tw16637036750636724645:=0
def tw1277234234910527130:=0
def tw3719640585653524908:=0
def tw10376724489497246739:=0
def tw2811808570384522767:=0
def tw370090820607452760:=0
def tw14956133544021146831:=0
def tw9213706449064128057:=0
def tw16766393639853826089:=0
def tw5128463987412777715:=0
def tw5108506282318837603:=0
def tw252977680208550096:=0
def tw15684383600061760895:=0
def tw692490245471901690:=0
def tw4290960271402110950:=0
def tw11250813702865464079:=0
def tw7192965246057738591:=0
def tw868575274586059679:=0
def tw3934304368619887426:=0
def tw5530347616054326292:=0
def tw14464719664430006933:=0
def tw13604183150058135297:=0
def tw12742979636934085965:=0
def tw7436783016967658944:=0
def tw1753436792983128501:=0
def tw16884060783373481682:=0
def tw4486603198088223223:=0
def tw1771823737127819175:=0
def tw6888618923116043089:=0
def tw2934056545910145417:=0
def tw10774284688315960342:=0
def tw15508710820732659196:=0
def tw1049508790097865746:=0
def tw14037998005181566825:=0
def tw275452193554311137:=0
def tw5059237237795350783:=0
def tw17553007177784370434:=0
def tw5368511439641850045:=0
def tw8326167807518365416:=0
def tw3970095562631178522:=0
def tw16464001191525213933:=0
def tw7767511322149530718:=0
def tw12586956654230530308:=0
def tw13824184993520638174:=0
def tw1469640423390597709:=0
def tw896958737929380451:=0
def tw3013852179738887560:=0
def tw11902346642806962846:=0
def tw9858375692567972062:=0
def tw2154272786447209466:=0
def tw12861424577093822334:=0
def tw9858346494324880709:=0
def tw11016125042164121888:=0
def tw13115459196813249667:=0
def tw1724893582671630549:=0
def tw8166185180141314440:=0
def tw7241191140200772333:=0
def tw10463390390858625655:=0
def tw18095216815329953438:=0
def tw6512143776299688209:=0
def tw410097782815941304:=0
def tw5649108619625913639:=0
def tw8866514639699250990:=0
def tw16697682243794570297:=0
def tw11543858965929595248:=0
def tw2766933527964190383:=0
def tw10898225993120312465:=0
def tw15783316081028421258:=0
def tw4612102306850476080:=0
def tw11524992116574829205:=0
def tw7950124971651217488:=0
def tw3263429919210241994:=0
def tw2956210809211781966:=0
def tw4759875582742476539:=0
def tw11868771742376918441:=0
def tw17711909392940911807:=0
def tw12251387855010602187:=0
def tw8679809744298480742:=0
def tw13504099149079622095:=0
def tw4230646778929838023:=0
def tw2109174016555686394:=0
def tw4337209810435091011:=0
def tw10798937045104110859:=0
def tw2905180260690252095:=0
def tw2250761914965187988:=0
def tw6207513535687180174:=0
def tw6736433135566477755:=0
def tw11516911303320267595:=0
def tw7026142542865269928:=0
def tw15627519781483974203:=0
def tw10265955127727887895:=0
def tw7941929235307938006:=0
def tw12283732443388745279:=0
def tw2626446810312080091:=0
def tw909914399100321778:=0
def tw3377138466362279730:=0
def tw7418017118625332649:=0
def tw2209683830182721657:=0
def tw2221147041395679530:=0
def tw17694848537126976122:=0
def tw4511179658417394660:=0
def tw10176495441060840784:=0
def tw16440841403038999497:=0
def tw5030146696006666653:=0
def tw3393245778974367710:=0
def tw8073060607562148920:=0
def tw17917613704407741124:=0
def tw13815980866670943469:=0
def tw14630796446520403622:=0
def tw10683537252919887655:=0
def tw10361776664189342573:=0
def tw1696425428062737515:=0
def tw16327969559412620236:=0
def tw8838949836404028729:=0
def tw14493433489502054732:=0
def tw3293170630989605206:=0
def tw1492583632516051262:=0
def tw4220454742387201032:=0
def tw13721052157322204267:=0
def tw2190749669375078564:=0
def tw3284834647251960477:=0
def tw4132738931256950922:=0
def tw16913752067358108781:=0
def tw148099060145479685:=0
def tw7140440308747160591:=0
def tw4634413595531941815:=0
def tw1785755564190106724:=0
def tw6077685592590856925:=0
def tw16857545241757198730:=0
def tw11221173486142390816:=0
def tw15541912495464527346:=0
def tw12991460915343991335:=0
def tw6362451943980851150:=0
def tw3527106104773010546:=0
def tw16876193631689365387:=0
def tw8236412735616851551:=0
def tw10081438333681996138:=0
def tw1696264207230342338:=0
def tw3371704003260121089:=0
def tw5549402272984766349:=0
def tw8555954600590217075:=0
def tw11559647907726052760:=0
def tw3050014329543575401:=0
def tw12260985982289979888:=0
def tw6951746960294546693:=0
def tw16365141484513393573:=0
def tw11128617666736761683:=0
def tw12425342128675987748:=0
def tw16500420046766330153:=0
def tw7594987696986591756:=0
def tw7005655521695092740:=0
def tw10453917539001181220:=0
def tw12973443213180964980:=0
def tw10838786460500486232:=0
def tw13813552981965926558:=0
def tw10654400005406949545:=0
def tw6415946641228387795:=0
def tw4757833006719965159:=0
def tw9574165436905781426:=0
def tw10115724588789725984:=0
def tw2605682781338240710:=0
def tw11810938420075130799:=0
def tw1730983835209638057:=0
def tw13428097649548639592:=0
def tw8576849761067631661:=0
def tw3173623612883446170:=0
def tw13933250764888104553:=0
def tw4219454018641399100:=0
def tw4508406810201362016:=0
def tw15110488926790394456:=0
def tw14319823052924293868:=0
def tw17784006265018903411:=0
def tw9247907411252854186:=0
def tw10079876410877192878:=0
def tw13716327191020597251:=0
def tw13784770574826432885:=0
def tw17450096829534694396:=0
def tw5486416622234407319:=0
def tw10586382712436784636:=0
def tw13886522825603148011:=0
def tw9078123293809092969:=0
def tw40616859976911925:=0
def tw4549244342344782993:=0
def tw13034526495092518717:=0
def tw3178735192357781497:=0
def tw9797477330293912795:=0
def tw11094686279782747917:=0
def tw14631688079809750189:=0
def tw5263525386718498576:=0
def tw14504382722666568123:=0
def tw2899505986976689497:=0
def tw17012175425253661535:=0
def tw187922570837979379:=0
def tw5542242757488595117:=0
def tw15417915574094817401:=0
def tw14645051594953938359:=0
def tw16554675266715495655:=0
def tw13272713182886249865:=0
def tw9682458766385315755:=0
def tw9179836917207625127:=0
def tw5953307436216409527:=0
def tw3803735998023375501:=0
def tw9093649985270178073:=0
def tw798253573772060016:=0
def tw12036277672429583416:=0
def tw14231434689574173832:=0
def tw2491489376712936989:=0
def tw6549799127724211913:=0
def tw14556051658272790061:=0
def tw2238053133259749333:=0
def tw10367591231353136644:=0
def tw4418752664647920146:=0
def tw2325273183185304468:=0
def tw3713642232003163122:=0
def tw17546374649566535086:=0
def tw10256384430596517514:=0
def tw4291795861584268296:=0
def tw13304244528905859265:=0
def tw1905320715155066893:=0
def tw3153954283204279792:=0
def tw9063680203628336435:=0
def tw15927792578409078004:=0
def tw11100553380936290550:=0
def tw686143822590888163:=0
def tw11107998762183416008:=0
def tw8906754570915601074:=0
def tw13300488721938479784:=0
def tw17147669029138916100:=0
def tw5107166571313709430:=0
def tw8513639906915273783:=0
def tw4115462818991182389:=0
def tw9855901758185917538:=0
def tw205939191264795182:=0
def tw3736414562822955275:=0
def tw16200596469263879767:=0
def tw16009176061792931201:=0
def tw5328165021757008928:=0
def tw11878773371358229023:=0
def tw6335607823756296941:=0
def tw7640502870723925303:=0
def tw1584057179252373470:=0
def tw1968111002620776598:=0
def tw15216124486902286736:=0
def tw16659646372665178579:=0
def tw10130493286374428388:=0
def tw9578404714021691504:=0
def tw4471838964886187074:=0
def tw16371949833080339480:=0
def tw9400972480187449521:=0
def tw13569795917157423894:=0
def tw2973173321428020161:=0
def tw7037825765179785424:=0
def tw1402301406130219831:=0
def tw450152469079591430:=0
def tw10998572828050007999:=0
def tw5446226275265851705:=0
def tw9896740823877116738:=0
def tw17486320029653188534:=0
def tw5165453842040147449:=0
def tw14445090057007629767:=0
def tw2283431540736789734:=0
def tw13556766504178590209:=0
def tw11987647770165787421:=0
def tw7564673701407854910:=0
def tw4415024084005769311:=0
def tw15022924328005815634:=0
def tw7724665595215074863:=0
def tw7434039827141407100:=0
def tw2303326238380400169:=0
def tw16776910201284775201:=0
def tw13111502031362120458:=0
def tw7332579300272129855:=0
def tw10391064663876003262:=0
def tw218523172575807198:=0
def tw16482407015938708479:=0
def tw7139835645318109928:=0
def tw11676785820413526273:=0
def tw6628991229123429844:=0
def tw14261581023832051973:=0
def tw9243566983944126601:=0
def tw17882354500687503658:=0
def tw16492752416381509216:=0
def tw8323941519487958864:=0
def tw614256602317347555:=0
def tw11138332003081817303:=0
def tw2438588147186112177:=0
def tw6612598406152046369:=0
def tw5731025315357457864:=0
def tw6481706691024973703:=0
def tw10402933598237849263:=0
def tw17051347475035460009:=0
def tw17540513357393882548:=0
def tw2828134064466601270:=0
def tw779328112379307664:=0
def tw1079418377222823741:=0
def tw15252784828614699476:=0
def tw8361628287078438702:=0
def tw16906288090348262321:=0
def tw11632593107709864282:=0
def tw9214067643440631120:=0
def tw3064226033176244495:=0
def tw13200033495368685302:=0
def tw5477071790760924926:=0
def tw1584928608425920325:=0
def tw12387407869523040829:=0
def tw9671147353928356892:=0
def tw12937129591167911590:=0
def tw10121202236668362617:=0
def tw16153498328645868583:=0
def tw6420605271559035930:=0
def tw7618153949731187672:=0
def tw9572795376798348363:=0
def tw3130243083760681446:=0
def tw16033513897583807696:=0
def tw5431778939050550969:=0
def tw8622351954534735004:=0
def tw12670109428721591706:=0
def tw10550710006510601994:=0
def tw10164565335549051679:=0
def tw14042262897772312629:=0
def tw13495622485241100022:=0
def tw12012847796148529763:=0
def tw1088127087977238136:=0
def tw2004646632134762611:=0
def tw12214321310901040538:=0
def tw14369409627854556797:=0
def tw8904671031696063664:=0
def tw13739338393960443562:=0
def tw17738800734273041671:=0
def tw309125469221855127:=0
def tw9759415198049505209:=0
def tw13279206117444223896:=0
def tw9896315366580318439:=0
def tw6996371833851785824:=0
def tw15398762586122791258:=0
def tw13310375825417601676:=0
def tw2939951101396940531:=0
def tw542373548162872466:=0
def tw16675052308738743462:=0
def tw11152056626390082414:=0
def tw14359619022198550893:=0
def tw16742553467672770068:=0
def tw5914778566261063082:=0
#print PySem.W.Fast
end
open PySem PySem.W PyProof.Rows
open D in
set_option maxRecDepth 100000 in
set_option maxHeartbeats 0 in
theorem PySem.Challenge.cw_sidelink_k71_rows_answered_holds : PySem.Challenge.rw_sidelink_k71_rows_answered.Holds := by
 w_on;o_law;k_head;(case hw=>w_witness2)
 k_fill
 refine K71.walk (l:=PySem.Challenge.rw_sidelink_k71_rows_answered) rfl rfl (fun w h Y=>PySem.W.kIn_of Y) ?F
 case F =>
  intro w mg fa h KX G hmg;have c0:UC _ "Shelf" := uc KX (by k_is) (by k_is) (by k_is) (by k_is) (by k_is);have c1:UC _ "Weaver" := uc KX (by k_is) (by k_is) (by k_is) (by k_is) (by k_is);have c2:UC _ "Desk" := uc KX (by k_is) (by k_is) (by k_is) (by k_is) (by k_is);have c3:UC _ "Walk" := uc KX (by k_is) (by k_is) (by k_is) (by k_is) (by k_is);exact K71.Qqr KX G hmg (by constructor;all_goals first|exact PySem.W.mg_none_of KX G (by k_is)|exact uf KX G (by k_is) (by k_is) (by k_is) (by k_is)|exact ug KX G (by k_is)|exact Sw KX G (by k_is) (by k_is) (by first|rfl|with_unfolding_all rfl)|exact Sw KX G (by k_is) (by k_is) (by first|rfl|with_unfolding_all rfl)|exact ut KX G (by k_is) (K71.QaL (by k_is) (by k_is) (by k_is))|exact uk KX c0 (by k_is) (by k_is)|exact um KX c0 (by k_is) (by k_is) (by k_is) (by k_is) (by k_is) (by k_is)|exact uk KX c1 (by k_is) (by k_is)|exact um KX c1 (by k_is) (by k_is) (by k_is) (by k_is) (by k_is) (by k_is)|exact uk KX c2 (by k_is) (by k_is)|exact um KX c2 (by k_is) (by k_is) (by k_is) (by k_is) (by k_is) (by k_is)|exact uk KX c3 (by k_is) (by k_is)|exact um KX c3 (by k_is) (by k_is) (by k_is) (by k_is) (by k_is) (by k_is)|exact ui KX G (by k_is) (by k_is) (by k_is) (by k_is) (by k_is) (by k_is) (by k_is) (by k_is)) (by k_is) (by k_is) (by k_is) (by k_is)

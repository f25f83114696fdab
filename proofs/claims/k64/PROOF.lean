import PyProof.Rows.All
import Wide.All
import OpenK.AllK
import Wide.FinOn
import Lean
import PyProof.EqAt
import PyProof.EqKinds
import PyProof.TupleCall
import PySem.Challenge.RW_sidelink_k64_whole_packed_goes_on
set_option compiler.extract_closed false
theorem an2{A B G:Prop}(h:A/\B)(k:A->B->G):G:=k h.1 h.2
theorem an3{A B C G:Prop}(h:A/\B/\C)(k:A->B->C->G):G:=k h.1 h.2.1 h.2.2
theorem an4{A B C D G:Prop}(h:A/\B/\C/\D)(k:A->B->C->D->G):G:=k h.1 h.2.1 h.2.2.1 h.2.2.2
theorem an5{A B C D E G:Prop}(h:A/\B/\C/\D/\E)(k:A->B->C->D->E->G):G:=k h.1 h.2.1 h.2.2.1 h.2.2.2.1 h.2.2.2.2
theorem an6{A B C D E F G:Prop}(h:A/\B/\C/\D/\E/\F)(k:A->B->C->D->E->F->G):G:=k h.1 h.2.1 h.2.2.1 h.2.2.2.1 h.2.2.2.2.1 h.2.2.2.2.2
theorem an7{A B C D E F H G:Prop}(h:A/\B/\C/\D/\E/\F/\H)(k:A->B->C->D->E->F->H->G):G:=k h.1 h.2.1 h.2.2.1 h.2.2.2.1 h.2.2.2.2.1 h.2.2.2.2.2.1 h.2.2.2.2.2.2
theorem an8{A B C D E F H I G:Prop}(h:A/\B/\C/\D/\E/\F/\H/\I)(k:A->B->C->D->E->F->H->I->G):G:=k h.1 h.2.1 h.2.2.1 h.2.2.2.1 h.2.2.2.2.1 h.2.2.2.2.2.1 h.2.2.2.2.2.2.1 h.2.2.2.2.2.2.2
theorem an9{A B C D E F H I J G:Prop}(h:A/\B/\C/\D/\E/\F/\H/\I/\J)(k:A->B->C->D->E->F->H->I->J->G):G:=k h.1 h.2.1 h.2.2.1 h.2.2.2.1 h.2.2.2.2.1 h.2.2.2.2.2.1 h.2.2.2.2.2.2.1 h.2.2.2.2.2.2.2.1 h.2.2.2.2.2.2.2.2
theorem ex1{A:Sort _}{P:A->Prop}{G:Prop}(h:∃a,P a)(k:∀a,P a->G):G:=by obtain⟨a,h⟩:=h;exact k a h
theorem ex2{A:Sort _}{B:Sort _}{P:A->B->Prop}{G:Prop}(h:∃a b,P a b)(k:∀a b,P a b->G):G:=by obtain⟨a,b,h⟩:=h;exact k a b h
theorem ex3{A:Sort _}{B:Sort _}{C:Sort _}{P:A->B->C->Prop}{G:Prop}(h:∃a b c,P a b c)(k:∀a b c,P a b c->G):G:=by obtain⟨a,b,c,h⟩:=h;exact k a b c h
theorem ex4{A:Sort _}{B:Sort _}{C:Sort _}{D:Sort _}{P:A->B->C->D->Prop}{G:Prop}(h:∃a b c d,P a b c d)(k:∀a b c d,P a b c d->G):G:=by obtain⟨a,b,c,d,h⟩:=h;exact k a b c d h
theorem ex5{A:Sort _}{B:Sort _}{C:Sort _}{D:Sort _}{E:Sort _}{P:A->B->C->D->E->Prop}{G:Prop}(h:∃a b c d e,P a b c d e)(k:∀a b c d e,P a b c d e->G):G:=by obtain⟨a,b,c,d,e,h⟩:=h;exact k a b c d e h
theorem ex6{A:Sort _}{B:Sort _}{C:Sort _}{D:Sort _}{E:Sort _}{F:Sort _}{P:A->B->C->D->E->F->Prop}{G:Prop}(h:∃a b c d e f,P a b c d e f)(k:∀a b c d e f,P a b c d e f->G):G:=by obtain⟨a,b,c,d,e,f,h⟩:=h;exact k a b c d e f h
theorem ex7{A:Sort _}{B:Sort _}{C:Sort _}{D:Sort _}{E:Sort _}{F:Sort _}{H:Sort _}{P:A->B->C->D->E->F->H->Prop}{G:Prop}(h:∃a b c d e f i,P a b c d e f i)(k:∀a b c d e f i,P a b c d e f i->G):G:=by obtain⟨a,b,c,d,e,f,i,h⟩:=h;exact k a b c d e f i h
open Lean in
local macro_rules(kind:=Lean.Parser.Command.mutual)|s=>do
 let c:=s[1].getArgs
 let e:=c[0]!
 let M:=e[0].rewriteBottomUp (·.setInfo .none)
 if e[1].getKind != `Lean.Parser.Command.example then Macro.throwUnsupported
 let rec sub(p:Array Name)(a:Array Syntax):Nat→Syntax→Syntax
  |n+1,s=>match s with
   |.node i k b=>.node i k (b.map (sub p a n))
   |.ident _ _ x _=>(p.idxOf? x).elim s λi=>a[i]!
   |s=>s
  |_,s=>s
 let nl:=λa=>Syntax.node .none `null a
 let id:=λ(s:String)=>Syntax.ident .none s.toRawSubstring (.mkSimple s) []
 let m:=(e.find? (·.isOfKind `Lean.Parser.Term.matchAlts)).get![0].getArgs
 let fs:=λ(x:Syntax)=>(x.find? (·.isOfKind `Lean.Parser.Tactic.first)).get!
 let k:=fs m[0]!
 let R:=fs m[1]!
 let G:=R[1][0]
 let P:=G[1][0][0][0]
 let Z:=P[1][0][0].getArgs
 let A:=Z[0]![1]
 let F:=A[1][1]
 let sq:=λ(s t:Syntax)=>s.setArg 1 (s[1].setArg 0 (s[1][0].setArg 0 t))
 let ap:=λf xs=>(A.setArg 0 f).setArg 1 (nl xs)
 let fn:=λxs b=>F.setArg 1 ((F[1].setArg 0 (nl xs)).setArg 3 b)
 let an:=λ(r:Array Syntax)(z:Syntax)(xs:Array Syntax)(b:Syntax)=>ap (id s!"an{r.size}") #[z,fn xs b]
 let V:=(c[1]!.find? (·.isOfKind `Lean.Parser.Command.declSig)).get![0].getArgs.map (·[3][0][2])
 let rec o(s:Syntax):Syntax:=
  let t:=s[3][1][0]
  if t.isIdent&&(s[1].find? (·.getId==t.getId)).isSome then s else
  let u:=s[1][0][0][0]
  let p:=u[1].getSepArgs
  let y:=λx:Syntax=>x[0][0][0]
  let h:=λx:Syntax=>(y x).isOfKind `Lean.Parser.Tactic.rcasesPat.one&&(y x)[0].getId != `rfl
  let g:=λx:Syntax=>(y x).isOfKind `Lean.Parser.Tactic.rcasesPat.ignore
  let j:=p.findIdx (λx=>!(h x||g x))+1
  let j:=if j+1=p.size then j+1 else j
  let ob:=λ(a i:Syntax)=>s.setArgs #[s[0],a,s[2],s[3].setArg 1 (nl #[i])]
  let (q,f):=(p.extract 0 j).foldl (λ(q,f) x=>if h x then (q.push (y x)[0],f) else if g x then (q.push ((y x).setKind `Lean.Parser.Term.hole),f) else let i:=id s!"z{q.size}";(q.push i,f.push (ob (nl #[x[0]]) i))) (#[],if t.isIdent then #[sub #[`z_9] #[t] 99 Z[2]!] else #[])
  let (q,f):=if j<p.size then (q.push (id "zR"),f.push (ob (s[1].setArg 0 (s[1][0].setArg 0 (s[1][0][0].setArg 0 (u.setArg 1 (nl (u[1].getArgs.extract (2*j) u[1].getNumArgs)))))) (id "zR"))) else (q,f)
  let n:=q.size
  let B:=λ(r:Array Syntax)(z:Syntax)=>if r.size<2 then F[1][3] else if r.size<10 then an r z r F[1][3] else let r2:=r.extract 8 n;an (r.extract 0 9) z ((r.extract 0 8).push (id "y_9")) (an r2 (id "y_9") r2 F[1][3])
  R.setArg 1 (nl (((Array.range (min 8 n)).map λe=>
   let r:=q.extract e n
   sq G (nl #[sq P (nl (f.foldl (λx y=>(x.push Z[1]!).push y) (Z.set! 0 (Z[0]!.setArg 1 (if e=0 then B r t else ap (id s!"ex{e}") #[t,if r.size<2 then fn q F[1][3] else fn ((q.extract 0 e).push (id "z_9")) (B r (id "z_9"))])))))])).push (sq G (nl #[s]))))
 let rec go(T:NameMap (Array Name×Syntax))(U:Array Syntax):Nat→Syntax→Syntax
  |n+1,s=>
   let s:Syntax:=match s with
    |.node _ k b=>Syntax.node .none k (b.map (go T U n))
    |s=>s.setInfo .none
   let (n,a):=if s.isIdent then (s.getId,#[]) else if s[0].isIdent&&s.isOfKind `Lean.Parser.Term.app then (s[0].getId,s[1].getArgs) else (s.getKind,s.getArgs)
   match T.find? n with
   |some (p,b)=>if a.size=p.size then sub p a 999 b else s
   |_=>if n=`Lean.Parser.Command.where||n=`Lean.Parser.Command.print then s.setKind `Lean.Parser.Command.end|>.setArgs #[s[0],nl (if a.size<2 then #[] else #[s[1],nl #[]])] else
   if n=`Lean.Parser.Tactic.cases then if s[1].getNumArgs=1&&s[1][0][0].getNumArgs=0&&s[1][0][1].isIdent&&s[2].getNumArgs+s[3].getNumArgs=0 then sub #[`x] #[s[1][0][1]] 99 k else s else
   if n=`Lean.Parser.Tactic.obtain then if s[2].getNumArgs=0&&s[1][0][0].getNumArgs=1&&s[1][0][0][0].isOfKind `Lean.Parser.Tactic.rcasesPat.tuple&&s[1][0][0][0][1].getNumArgs>6&&s[3][1].getNumArgs=1 then o s else s else
   if n=`Lean.Parser.Term.explicitBinder then (U.findIdx? (· == s[3][0][2])).elim s λi=>s.setArgs #[s[0],s[1],nl #[s[2][0],ap (id "autoParam") #[s[2][1],Syntax.ident .none "".toRawSubstring (.mkStr `At s!"_auto_{i+1}") []]],nl #[],s[4]] else
   if n=`Lean.Parser.Command.declaration&&(s[0].find? (·.isAtom)).isNone&&(s[1].isOfKind `Lean.Parser.Command.definition||s[1].isOfKind `Lean.Parser.Command.abbrev) then s.setArg 0 M else s
  |_,s=>s
 let T:=(m.extract 2 m.size).foldl (λT x=>let h:=x[1][0][0];let (n,a):=if h.isIdent then (h.getId,#[]) else if h[0].isIdent&&h.isOfKind `Lean.Parser.Term.app then (h[0].getId,h[1].getArgs) else (h.getKind,h.getArgs);T.insert n (a.map (·.getId),go T #[] 999 x[3])) {}
 return nl #[c[1]!,go T (go T #[] 99 (nl V)).getArgs 9999 (nl (c.extract 2 c.size))]
set_option Elab.async false
set_option linter.all false
set_option maxRecDepth 100000
noncomputable section
mutual
noncomputable example:=λ
|Zq9=>(by first|(replace x:=Option.some.inj x;subst x)|(exfalso;injection x;done)|cases x)
|Zq8=>(by first|(refine f t λa=>?_;(try clear z_9);(try clear y_9)))
|a>=b=>a=some b
|↥x=>.int x
|↑x=>.ref x
|⇑x=>(x).length
|!x=>.val x
|À=>by lia
|Á=>by decide
|Â=>ak rfl
|Ã a=>List a
|Ä a=>by simpa using a
|Å a b=>by rw[a];exact b
|Æ a b c=>Qh a b (eC c)
|Ç a b=>Qc (Qb a) b
|È a=>.int a
|É a b c=>if a then b else c
|Ê=>by simp
|Ë=>Qb 0
|Ì a=>(a:Int)
|Í a b c d e f g=>wpAny (model a b) c d e f g
|Î=>⇑S.pg
|Ï a b=>Qd (Qa a) b
|Ð a=>Option a
|Ñ a=>starEach a X.env
|Ò a b c=>Æ a b ↥c
|Ó a=>decide a
|Ô a=>pure a
|Õ a=>.val a
|Ö a=>Õ ↥a
|Ø a=>.lst a
|Ù a=>eval a X.env
|Ú=>Array Keyed
|Û=>Prop
|Ü=>"Shelf"
|Ý a b=>show a from b
|Þ a b=>λ s _ _ _ _ _ _ _ a=>b
|ß=>w.place.getD S.top
|à=>Qa 0
|á=>Ã DV
|â a b=>Ã (a × b)
|ã=>"Walk"
|ä a=>S.pg[a]?
|å a b=>(a).trans b
|æ a b=>by rw[<- a];exact b
|ç a b c d=>Inv a b σ c d
|è a=>some a
|é a=>Qc a Qj
|ê a=>.inl a
|ë a=>.ref a
|ì a=>eC ↥a
|í=>by with_unfolding_all rfl
|î a b c=>({ a with b:=c })
|ï a=>TP.qn rows.length a
|ð a=>show a by lia
|ñ a=>.tup a
|ò a b c=>Ò a (Qb b) c
|ó=>Ã Value
|ô a b=>s.heap.get? a>=b
|õ a=>⟨a,rfl⟩
|ö a b c=>Qs (QI a b) c
|ø=>ks.map .int
|ù a b c d=>Qx a b (Ç c d)
|ú a=>È (Ì a)
|û a=>by rw[a];rfl
|ü a=>arrOf a
|þ a b=>by unfold a;rw[b];rfl
|ÿ a=>a<=sizeLine
|Ā=>"list"
|ā=>by decide +kernel
|ą a=>by simp[a]
|Ć=>⇑ds
|ć=>Ã Nat
|Ĉ a=>List.range a
|ĉ a=>Qo (QC a)
|ċ a=>s.heap.objs.size+a
|Č=>Ð Int
|č=>by simp;lia
|Ď=>Ã Int
|ď a b=>absurd a b
|Đ a=>Ç a Qj
|đ a b c=>ç a O9 b c
|Ē a b c d e=>Qq (a:=b) (hp1:=c) d e
|ē a=>pendingOf a
|Ĕ=>1000000000000000000000000000000
|ĕ a=>aL p.ks a
|Ė a b c d e=>({ a with b:=c,d:=e })
|ė a=>a=false
|Ę=>p.ps.map .int
|ę=>Ae _
|Ě a=>by have:=a;lia
|ě a=>Qd a Qi
|Ĝ a=>a=true
|ĝ=>↑w.length
|Ğ a=>.inr a
|ğ a b c=>Qz a b (Qp c)
|Ġ=>Qb 1
|ġ a=>â Key a
|Ģ a b=>seqObj a vs.toArray b
|ģ a=>Ö (Ì a)
|Ĥ a b=>QE (env:=a) b
|ĥ a=>(by cases a)
|Ħ a b c d e f g=>QH (a:=b) (c:=È d) e f g
|ħ=>p.ks.map .int
|Ĩ a b c d e=>JA a PySem.F.plainAttrs_list b c d e
|ĩ a b c=>(by rw[a]at b;cases c)
|Ī a b=>List.replicate a b
|ī=>.non
|Ĭ a b=>⟨a,b⟩
|ĭ a=>.type a
|Į=>Nat.le_of_ble_eq_true rfl
|į=>M DV
|ı=>ê rfl
|Ĳ a b=>X.env.cells.lookup a>=b
|ĳ=>⇑w
|Ĵ a=>by rw[a];lia
|ĵ a b c d=>ù a b c (é d)
|Ķ=>↑s.heap.objs.size
|ķ a b=>h'.get? a>=b
|ĸ a b=>⟨a,rfl,b⟩
|Ĺ a b=>Qc a (é b)
|ĺ a b=>StateT SortSt a b
|Ļ=>Array Value
|ļ=>(·.1)
|Ľ=>ns.map .int
|ľ a=>s.heap.push a
|Ŀ a=>Ï a Qi
|ŀ a b=>QX a b Ë
|Ł a b c=>λ a b c=>?_
|ł a b c d e=>wpAny _ a b c d e
|Ń a b c d=>envOfC a b s.heap.objs.size c d
|ń a b=>by unfold a;exact b
|Ņ=>100000
|ņ=>"tuple"
|Ň a b=>a>=(Ø b)
|ň=>bg n
|ŉ=>QK _
|Ŋ a b=>đ X a b
|ŋ a b=>X.env.scope.names.lookup a>=b
|Ō=>aK p
|ō a b c d=>thn a (Ł b c d)
|Ŏ=>Qb 2
|ŏ a b c d e=>(Bx (a:=b) (by repeat (first|exact c|refine d)) e)
|Ő a b=>by show a;rw[b];rfl
|ő=>Qa 1
|Œ a b=>⟨a,b,rfl⟩
|œ a b=>å a (by rw[b])
|Ŕ a=>(a : Str)
|ŕ=>⇑xs
|Ŗ=>↑a
|ŗ a b c d=>∀(a:Nat)(b:c),d
|Ř=>vs.toArray.zip vs.toArray
|ř b c=>a.extract b c
|Ś=>.un
|ś a=>Nat.mul_le_mul_left _ a
|Ŝ a b=>upd H a b
|ŝ=>Qa 2
|Ş a=>Ne.symm a
|ş a=>Tree a bg
|Š=>⇑p.ks
|š=>"number"
|Ţ a b c d e=>Í X.prog X.w a b c d e
|ţ a=>ŀ ã a
|Ť a=>Ĭ rfl a
|ť a b c=>.Attribute a b c
|Ŧ a b=>sIx items.size a b
|ŧ a=>Builtin.SmallTypes.nextOf ↑a
|Ũ a b=>.Name a b
|ũ=>Qg e
|Ū a=>a=none
|ū a=>Ū (H a)
|Ŭ a=>by have:=a;simpa using this
|ŭ a b=>QY a (Đ b)
|Ů=>S.pg.map aK
|ů a b=>î a heap b
|Ű a b c d e f=>k a b c d Gr.refl e f
|Ų a b=>s.heap.IsTuple a b
|ų=>ë a
|Ŵ a=>Ŋ H a
|ŵ a=>a[i]?
|Ŷ a=>by rw[a];simp
|ŷ a b c=>Qh a b (Qb c)
|Ÿ=>ì 1
|Ź a b=>λ a b=>?_
|ź a c=>b.extract a c
|Ż a b=>by unfold a;rw[b]
|ż a b=>h.get? a>=b
|Ž a=>(false,a)
|ž a=>Ž (Ù a)
|Α a b c=>⟨a,b,rfl,c⟩
|Β=>Ã V
|Δ a=>a->Û
|Ε=>Δ Shared
|Ζ a=>Ĝ (PyData.strOk a)
|Η=>"range"
|Θ a=>by exact a
|Ι a=>â Str a
|Κ=>ë s.heap.objs.size
|Λ a=>C.key a
|Μ a b c d e f g=>Ħ a (È b) c d e f g
|Ν=>⇑P.ks
|Ξ a b=>by rw[a,b]
|Ο a=>K.lookup a
|Ρ a b=>by rw[a,b];rfl
|Τ a=>Value.ref a
|Υ a b c=>by unfold a;rw[b,c];rfl
|Φ a=>Qe (Q2 a)
|Χ=>"self"
|Ψ a b c d=>Ţ X.A a b c d
|Ω a=>(Ac.mp a).1
|η a=>f env a
|θ=>ü f
|μ a b=>hp.set a b
|ν=>bA S
|ξ a=>.bl a
|ο=>ξ true
|π=>ξ false
|ς a b=>PySem.W.nsIn a mainGlobals b
|τ a b c=>by have:=a;rw[b]at this;exact c
|χ a b c=>Ψ a b X.xe c
|ψ a=>.builtin a
|ω a=>res.push a
|ϊ a b=>Qr a b Qm
|ϋ=>ps.map .int
|ό=>"shelf"
|ώ a b c d=>QA a b Á QD (Ï c d)
|Ϗ a b c=>{ a:=b, data:=c }
|ϑ a b=>Ϗ cls (ĭ a) b
|ϒ=>(·.2)
|ϓ=>opt p.hi
|ϔ a b c=>Qf (Qu a s b) c
|ϕ a b=>Qs a (QT b)
|ϖ=>⇑L.rows
|ϗ a b c=>PyProof.Rows.callWith_type1 a b c
|ϙ=>Ĝ X.calm
|ϛ a b c=>Ĩ a PySem.F.slot_list_append PySem.F.type_list_append b c
|Ϝ=>Ŵ s
|ϝ a b=>backTo a (Ñ b)
|Ϟ=>⇑kvs
|ϟ a=>RelV a u
|Ϡ=>Ã Expr
|Ϣ a b=>Ò aB a b
|ϣ a=>compareOp a
|Ϥ a b=>Qf a (ĉ b)
|Ϧ=>ġ DV
|ϧ a=>(.nx,a)
|Ϩ a=>.str a
|ϩ a=>Nat.mul_le_mul_right _ a
|Ϫ a=>QO a à
|ϫ b c=>QB (QG a) b c
|Ϭ=>Ū w.place
|ϭ=>Ã Keyed
|Ϯ=>Ì k
|ϯ a=>å a ?_
|ϰ=>p.1
|ϱ=>by rfl
|ϲ=>aM rows
|ϴ a b c=>Ė a heap b toks c
|Ϸ a b=>.ins a b
|Ϲ=>⇑p.ps
|Ϻ a=>wpAny_holding a
|ϻ a b c=>by unfold a;rw[b];exact c
|ag=>Qa 3
|av a b=>ä a>=b
|aw a=>av a p
|aC a b c=>Qq a (Qq b c)
|aE=>Eg À
|aI=>(· < ·)
|aS a b c=>PySem.W.findIn a ↑b c
|aT=>η hp
|a0 a=>show a by decide
|a7 a=>(a).ks.length
|bb a b=>DE X a b
|bd a b c=>by unfold a at b;exact c
|bm a=>p.ks.drop (ĕ a)
|bn a b c d e=>ö a b (ö c d e)
|bp a b=>ò aB a b
|bw=>⇑ks
|bE=>.none
|bG a b=>QU a rfl b
|bI a b=>Ĝ (PySem.W.keepIn a b)
|bS a=>Ô (ϧ a)
|bT=>↑hp.length
|bX a b=>PE X a b
|ck a=>OV.lst a
|cm a b=>List.set_append_right _ a b
|cr=>Ã Str
|cs=>ñ ø
|cK=>Zi O4 L
|cS a b c d=>ώ a b c (ě d)
|c9 a=>by simp at a
|da a b c=>⟨a,b,c⟩
|db a=>X.s₀.heap.objs.size<=a
|dc=>f env
|dd=>Qb 4
|de a b c d e f=>Zq (a:=b) (ds:=c) d e f
|df a b c=>É (Ĝ a) b c
|dl a b c=>.Call a b [] c
|dm a b c d=>dl (Ũ a b) c d
|dq a b=>seqObj Ā a b
|dr a b c d=>aA.grow S1.wo.rb a b c d
|dt a=>λ_ _ _ _=>a
|du a=>g1.trans a
|dz=>ì 10
|dA=>aw n
|dC a b=>ŵ a>=b
|dE a b c d=>⟨a,b,c,rfl,d⟩
|dL a b c d e=>ϔ a b (ϔ c d e)
|dO=>⇑ps
|dP a b=>by have:=a;simpa [b]using this
|dQ=>Qa 4
|dS a b=>Qd a (ě b)
|dX=>Ì S.top
|eg a=>Ū (X.mg a)
|eh a b c d=>ĵ a b c (ì d)
|eD a b=>kx C a b
|eH a=>Bool.eq_false_iff.mpr a
|eI a b c=>by rw[a,b];exact c
|eJ=>715827883
|eK=>Δ Hp
|eL b c=>ϫ b (Zp c)
|eP a b c d=>(by obtain⟨a,b⟩:=c;exact d)
|eQ a b=>î a rd b
|eR a b=>Zf a Z.z0 PySem.boot_len b
|eT a b c=>aQ (eB a) b c
|eW a b c=>T.page a b c
|eY=>"page"
|ff a b c d e f=>Í prog a b c d e f
|fg a b c d e=>(λ a=>by rw[b,c]at d;cases e)
|fh a b c d e f g=>Qn (a:=È b) (c:=d) e f g
|fj a b=>.int a b
|fm=>I.tok _
|ft=>õ rfl
|fx=>ü c
|fy=>Đ 1
|fz a b c=>Ef (wpAny_seqItems a b c)
|fA a=>a≠X.env.locals
|fE a=>SeqAt.shaped (toP a)
|fF=>"stretch"
|fI=>Ø ds
|fK a=>by unfold a;rfl
|fN a b c=>QW a b c ŉ
|fP a=>a->į
|fR=>fP á
|fS=>fP DV
|fT a b c d e f g h i=>thn a λ b c ⟨d,e,f,g,h⟩=>i
|fX a b=>.cons a b
|f6 a=>Obj.mapSeq λ_=>a
|f7 a=>Sum.inl a
|f8 a=>Vals a us
|gd a=>I.tuple a
|gp a b=>Qn a rfl b
|g8 a b=>ZI (top a) b
|hA a=>Ô ↥a
|hH a b c d=>∃(a:Nat)(b:c),d
|hJ a b c=>do let a <- b;Ô c
|hL a=>env.set i a
|hO a b=>QZ Â a b
|hU a b c d=>by unfold a;rw[Qe b];show c;rw[d];rfl
|hV a b=>List.lookup (a : Str) b
|hW a b c=>by show a;rw[b];exact c
|hX a b c=>TP.Q1 rows a b c
|hZ=>Y4 a.units
|h7 a b c d=>å (Heap.get?_update_other a b c) d
|h8=>ĕ aim
|ic a b c=>Ĩ a PySem.F.slot_list_extend PySem.F.type_list_extend b c
|ie a b c=>Ň a[b]? c
|ig=>oN p.sd
|im a b=>congrArg a b
|io=>Qb 3
|ip=>g1.gs S.wo.rb
|iq a b=>seg L a b
|ir=>p.ks.map DV.int
|ix a b c d=>wpAny_mono a b λ_ _ c=>d
|iE a=>by rw[<- a];simp
|iF a=>(a).toList
|iL a b=>Å (QP a) b
|iN=>eC ī
|iO a b=>TR.QM a w.aim b
|iP a=>Loc X.env.scope a
|iS a=>S.rd+a
|i3=>Ŀ 1
|i6 a b c=>au a ρ B H b c
|i8=>aL ks k
|i9=>"place"
|je=>ė w.O7
|jk a b c=>SqT a b c xs
|jl a=>Ad _ a
|kb a=>(by cases a <;> rfl)
|kw=>ì 0
|ky a b=>by simp[a,b]
|lc=>⇑r
|ld a=>failedOf a
|li a=>by rw[hd];show a;decide
|lw a b=>þ a (Qe b)
|lx a b=>i6 K a b
|lB a=>(L.first+a)
|lI a b c d e=>Ϸ Ü (aR a b c d e)
|lL a=>by show a;lia
|lP=>Nat.le_succ _
|lS=>ks.Pairwise aI
|lT=>"pages"
|l5 a=>Qq a ?_
|l6=>ľ PySem.W.emptyDict
|l7=>Ø []
|l8 a=>(a).objs.size
|l9 a b=>HT.sIx a b lo
|md a b c d e=>Qh a b (Ò c d e)
|me a b=>Zb a w.aim b
|mh=>⇑ns
|mi a b=>TR.Za p a b
|mm a b=>ZB a b QV
|mo a b=>mm a (ĉ b)
|mr a=>PySem.W.instObj a s.heap.objs.size
|mv a=>Around.under_plainId a _
|mw a b c=>bG (Zk a b) c
|mx a=>fs.lookup a
|my a=>PySem.mem_of_lookup a
|mz a b=>wpAny_setField_rec a Ê b
|mB=>L.Ok O4
|mE a b c=>by rw[a]at b;exact c
|mG a b=>tD.run S a b
|mI a=>Ju w.O5 a
|mN=>Ð Value
|mP a=>not a
|mS a=>lx ds a
|mT=>.nil
|mY a=>by simp[a] at h
|m4 a b c=>rows.Pairwise (λ a b=>c)
|ng=>È i
|ni a=>.fields a
|nj a=>.aH a
|nl=>nj kvs
|nt a=>I.hok.fresh a
|nv a=>Ô (ξ a)
|ny=>ns.map V.int
|nz a b=>by unfold a PyData.depth;exact b
|nB a b=>Ç a (é b)
|nC=>Ì m
|nE a b=>ľ (ϑ a b)
|nI=>Ū A.handled
|nK a b c d=>Ē aF a b (Qw c) d
|nL a b c d=>λ a b c d=>?_
|nP=>"zip"
|nS a b c=>OpR a (binaryOp b) c
|nT a=>scope.names.lookup a
|nV a=>by rw[a]
|nW=>Ì i
|nX a b c d e f=>ł a (b >>= c) d e f
|n4 a=>S.pg++a
|n5 a b=>ê (Ĭ a b)
|n7 a b=>Ŝ a (Ø b)
|n9 a=>Am (Ş a)
|oa a=>(ē a).size
|og a=>p.ks.take a
|oh a b=>S.pg.set a b
|om a b c d=>zo PassesOwn.never a b c d
|oq=>Ì n
|or=>ţ "aim"
|ot=>⇑hp
|ou a b=>CallR X a b
|ow=>Str.ofString "__next__"
|oy=>Δ SortSt
|oB=>.local
|oC a=>Av a rfl
|oI=>ns.map DV.int
|oP a=>aU a k
|oQ=>oP ks
|oS=>oP p.ks
|oT a=>DV.int a
|oU a b c=>Zc (Zr (a:=b) c)
|oX a b=>Ó (a=b)
|o0=>ñ ds
|o6 a b c=>aA a ρ B H b c
|o7 a b=>o6 K a b
|pc a b=>(a).map b
|pd a=>pc a .int
|pe a b=>pc (Ĉ a) b
|ph=>Ei ?_
|pk a b=>ė (a==b)
|py=>λ_ _=>False
|pD a b=>by have:a:=b;lia
|pE a b c=>QN a b % c
|pF=>K w.params
|pM a=>qn a m
|pS a b=>Ğ (Ĭ a b)
|pT=>TR.Q4 p w.aim
|pV a=>beq_eq_false_iff_ne.mpr a
|qs a=>Eh (Ä a)
|qv a=>wpAny_truthy_bool a
|qz a=>ds.drop a
|q0 a=>eC (Ϩ a)
|q7 a=>.acc a
|re=>Type
|rg=>nD r
|rj a b=>Ej (ZQ a b)
|rn a b c d e f g h=>wpS_mono (wpS_forRange (a:=b) (c:=d) e f g) h
|rp=>È p.lv
|rq a=>av a q
|rG=>Ì O4
|rL a=>p.lv=a
|rO a b=>ZO (Qc a b)
|rP=>A.take p
|rS=>p.ks.Pairwise aI
|r0=>Ö i
|se=>pM n
|sg a b=>aA.bC W a b
|sh a b c d=>PyProof.Rows.mirror a b c d
|si a b c=>Qf a (Qf b c)
|sj=>Eh rfl
|sk a=>Eg (Ä a)
|sm a b c=>SqL a H b c
|ss=>"dict"
|sv a=>Ej (wpS_get a)
|sC a=>List.Pairwise.filter _ a
|sF b=>ϫ b Qm
|sL=>eQ S (iS 1)
|sM=>mS xs
|sN a=>Ai.mp a
|sP a b c d=>aO a ρ b c d
|sR a b=>QY a (é b)
|sT a b=>Ū (hV a b)
|s0=>↑n
|tf a b=>Room a (A.deeper b)
|tj=>by omega
|tm a=>(ü a).size
|tq a b c d e=>Zd Ü a b c d e
|tr=>Qa 5
|ts=>Ì c
|tz a=>Ý a rfl
|tF a=>Ĝ (a).isSome
|tG a b c=>Builtin.Range.rangeSize a b c
|tI=>"put"
|tM=>Δ VK
|tN a=>.done a
|tP a=>Ô (tN a)
|tR a=>w.place>=a
|tS a=>a≠s.heap.objs.size
|tT=>SqL.of h1
|tU=>QR P
|tY a b c d e=>by rw[a];intro b c;have:=h1 d e;simp;lia
|t9=>"find"
|uq=>Zn Â
|wa a=>codeAny_builtin a ?_
|wb a b c d=>hM a b (Þ c d)
|wc a=>TR.Tree a bg
|wd=>Ð Nat
|we=>ş S
|wf a=>Ϣ Ë a
|wh a=>wpAny_passesOwn hp a
|wm a=>wpAny_Call_Name_kw a
|wn a=>kindOf a
|wp=>by simp only[Ao]<;>lia
|wq=>by rw[An];simp;lia
|wv a b=>Zm (Qd a b)
|ww=>Đ 2
|wx a b c=>Ĝ (PySem.W.codeIn a b c)
|wy a b c d=>Qh aB a b c d
|wE a b c d e f g=>Q6 (a:=b) c d e f rfl g
|wP a=>Ĭ a []
|wS a=>ŭ Z2 a
|w8 a b c=>swapsWith a b c X.env
|xk a b c d e f g=>bK a b env c d e f g
|x5 a b c=>by unfold a at h;unfold b;exact c
|zg=>"deed"
|zu=>"new_page"
|Af a b=>É a none b
|AA a b=>ė (behindInMarks a b)
|AB a b=>da a b ?_
|AC a b c d e=>dl (ť a b c) d e
|AD a=>a->Bool
|AF a=>Ef (wpAny_rule a)
|AG a=>X.A.units+a
|AH a b c=>Qs a (Qs b c)
|AI a=>ź a b.size
|AJ=>Ap e
|AK a=>k.after a
|AL=>a.toList.drop i
|AM a b c=>Xc (a:=b) rfl c
|AN a b=>Ó (a<b)
|AO=>ê k
|AQ a b c=>ď (Ý a b) c
|AR=>ē c
|AS=>Ŀ 2
|AT a b c d e f=>Μ a b c d e rfl f
|AU a b c d=>(by rw[a]at b;cases c;exact d)
|AV=>"worth"
|AW a b=>ZE a à b
|AX=>Ã Stmt
|AY=>ñ Ę
|AZ a b c=>ŗ a b Pg c
|A0 a=>Value.type a
|A4 a=>xs.map a
|A5 a b c d=>⟨a,b,rfl,c,d⟩
|A6 a=>Builtin.Tuple.tupleExact a
|BR a b c d e f=>Gr a ρ b c d e f
|B6 a b c=>Qc a (Ĺ b c)
|Cl a=>Jv kvs a
|CA a=>List.Perm.append_right _ a
|CB a=>Ĭ a ?_
|CC a b c=>eh a Qy b c
|CD a=>pc a ϒ
|CF a b c=>sP a b hp c
|CH a b=>JE (env:=a) b
|CL=>ţ "goal"
|CM a=>⇑(l.filter a)
|CO=>Be _
|CS a=>(a).length
|CU=>vs.zip vs
|CY a b c=>ZV a b Ë c
|Da=>m8 a.units
|Dn a b=>ZR rows a b
|EA a=>du (g2.trans a)
|EB a=>dC a x
|EC a b c d e=>⟨a,b,c,d,rfl,e⟩
|ED=>ps.zip us
|EE a=>kvs.map a
|EF a=>ks.take a
|EG a=>List.getElem?_range a
|EH a b=>(a).take b
|EI a=>a<s.heap.objs.size
|EJ a b=>λ_ _ _ a=>b
|EK=>λ_ _=>rfl
|EL=>1073741824
|EM a b=>wpAny_newObj_type a b
|EN a=>h.Ns mainGlobals a
|EO a b=>by unfold a at h ⊢;exact b
|EQ a=>bN C a
|ER a=>List.Perm.append_left _ a
|ES=>mid P
|ET=>prs p
|EU=>Ã Key
|EV=>ċ 1
|EW a=>Ĝ (X.fn a)
|EX b=>ř b a.size
|EZ a=>Ξ a Nat.one_mul
|E2 a b c d e f g=>fh a b c (È d) e f g
|E3=>â Addr Obj
|E4 a b c=>eB (Qh a b c)
|E5=>opt b
|E6 a=>Ô (Ø a)
|E7 a=>.bool a
|E8 a=>hp[a]?
|E9 a=>a<=100
|Fa a=>a<w.O6
|Fc a=>by have:=a;simp at this;lia
|Ff=>J9 P
|Fh=>QS Z
|Fi a b c=>nK a b c ?_
|Fj a b=>λ_ a=>ê b
|Fm=>Sem Value
|Fn a=>Value->a
|Fs a=>Ar.mp a
|Fu a=>Q9 a Î
|Fv=>Fu P
|Fy=>"write_count"
|FB a=>sl3 a i
|FC a=>TR.eO a S.top
|FD a=>â κ a
|FE=>Ĉ Î
|FF=>ţ ό
|FG a=>λ env=>a
|FH a b c d=>(Qt a b c d).2
|FI=>1000
|FK a b c d e f g=>λ a ρ1 b c d e f=>g
|FO a=>I.list a
|FP a b c d e=>wpAny_call_entry a b c d e
|FR a=>IntsAre a ns
|FS=>B.take q
|FT=>"room"
|FV=>JL rows O4
|FX a b=>Ó (a<=b)
|FY=>jl e
|F0 a b=>UF K mg a b
|F5 a=>nj (cI a)
|F6=>H a
|F7=>"ended"
|F8=>"key"
|F9 a b=>Qr Zo a b
|G2 a b c d=>Zq (a:=b) c rfl d
|G5 a b c d e f g=>XF (a:=b) (c:=È d) e f g
|G6 a b=>a s.heap.objs.size b
|HJ a=>g env a
|Ic=>Qp stm
|Id=>Qb 5
|Iq=>B.drop j
|Ix a=>(a).reverse
|Iy=>List.Perm.refl _
|IB=>ĕ w.aim
|IC a b c d=>ğ a [b, c] d
|ID a b c=>ϯ (oU a b c)
|IE=>oC _
|IF=>pM rows.length
|IG=>relabel scope X.env
|IH a b=>.BoolOp a b pos
|IJ a b=>Qh Q7 a b
|IL b=>a.toList.take b
|IM a b=>Qq a (QF b)
|IN a=>Ŧ items.size a
|IO a=>pk a sysModules
|IP a b=>(a).filter b
|IQ=>⇑vs
|IR=>bootBuiltins x
|IS a=>(a).toNat
|IT=>Qk e
|IU a b=>ds.mapM (cM a b)
|IX=>pairsOf vs
|IY=>"sorted"
|IZ=>Nat.succ_pos _
|Lc=>"keys"
|Ll=>"check_number"
|Lm=>! Ŗ
|Lq=>TR.fresh d
|Lu=>Ã Env
|LA=>Ö cell
|LB a=>â Nat a
|LD=>ë n
|LE=>ñ xs
|LF a=>ů s a
|LG a=>eD θ a
|LH a=>eR ZY a
|LI a=>fj a t
|LJ=>rL 0
|LL=>Zv X.prog X.w
|LM=>EZ Nat.add_mul
|LN a=>(List.of_mem_zip a).1
|LO a b c=>attributeBase a b X.env c
|LP a b c d=>Qn (a:=b) c rfl d
|LS a=>Ū (Ο a)
|LT=>nj []
|LU=>a.names.lookup x
|LV=>Qb 6
|LW=>Qe this
|LX=>"read_count"
|LZ=>ξ b
|L3=>ϧ env
|L4 a b=>ie hp a b
|L5 a b=>rO (q0 a) b
|L6 a b c=>(by cases a<;>first|rfl|exact ď b c)
|L7 a b=>HT.sIx a b hi
|L8 a b=>s.heap.update a b
|L9 a=>show a by simp
|My a=>List.map_congr_left a
|MN a=>Qv (Qv a)
|MP=>ñ ħ
|Na a b=>(a).drop b
|Nb a b=>(a).eraseIdxIfInBounds b
|Nc a b c d=>⟨a,b,c,d⟩
|Nd a=>a ≠ "__name__"
|Nf a=>a<p.lv
|Nl=>#[]
|Nm a=>Bk.mp a
|Nn a b c=>Heap.SameBut a b c
|No=>λ_ _=>true
|Nt a=>False.elim a
|Nw a b c=>au.gs a _ b c
|NA a=>List.prefix_append _ a
|NB=>Qe h
|NC a b c d=>by have:=a;unfold b at this ⊢;rw[c,d];rfl
|ND a=>Sm st₀ a
|NE a=>Builtin.SmallTypes.ownedTupleIsFree ↑a
|NF a=>ii.extBut a D.iz
|NG=>Jt d
|NH=>ï m
|NJ a=>av S.top a
|NL a b c=>dm a b c pos
|NM a b c=>pc a (λ b=>c)
|NN a b=>Ef (wpAny_typeOf a b)
|NO a b=>Qh aB a b
|NR a b c d e f g=>k3.extBut a b c (k2.extBut d e f g)
|NS=>sF à
|NU a=>Nat->a
|NV a=>λ a=>?_
|NW a=>without p a
|NY a=>X.K.lookup a
|N0 a b c=>eB (Æ a b c)
|N1=>A.drop i
|N2 a b c=>by show a=b;rw[c]
|N3=>"cut"
|N4=>"script"
|N7=>Ô false
|N9 a=>Ô (ñ a)
|Oa=>è v
|Oe a=>Ĥ a ?_
|Of a=>Ũ x a
|On b c d=>hf b c (Þ a d)
|Op=>Ϫ Z.k10
|Oy=>E7 true
|OA a b c=>⟨a,b,c,none,none⟩
|OB=>z.2
|OC=>OB.2
|OE=>OC.2
|OF a b=>holding a b
|OG a b c=>P2 a (binaryOp b) c
|OH a b c d=>Z7 (JC a b c d)
|OI=>p.ks.zip p.ps
|OK=>Ð Addr
|OL=>Ϫ Z.k7
|OM a b=>CY ã a b
|ON a=>w.pairs++a
|OO=>Eg e
|OP=>λ_ _ _=>False
|OQ a b=>by rw[a,b];lia
|OR a=>X3 kvs a
|OS=>M Bool
|OT=>Qb 7
|OU=>Zx n
|OW a b=>JQ kvs a b
|OX a=>p.ps.take a
|OY=>Zz P
|OZ a=>ks.drop a
|O0 a=>Qo (Zu a)
|Pc a b=>TR.Zb a w.aim b
|Pd a b=>Q5 (a:=false) b
|Pe=>ĕ k
|Pf a b c=>Ĝ (PySem.W.plainGet a b c)
|Pi a=>ķ b a
|Pm a b=>ϴ a h' b
|Po a b=>hX a false b
|Pp a b c d=>λ a env=>do let b <- c;d
|Ps a b=>sm a b xs
|Pv a b c=>FG (do if <- a then b else c)
|Pw=>"page_room"
|PD=>"numbers"
|PH a b=>Ĝ (a==b)
|PK a b=>(a).toList.drop b
|PM a=>Paired.length a
|PP=>p.2
|PQ=>↑f
|PR a b=>call (ψ a) b
|PU a b c=>Heap.get?_update_self a b c
|PV a b=>au.cons a b
|PZ a=>opt (bg a)
|P1=>Qa 6
|P3 a b=>Int.mul_nonneg a b
|P4=>ü st
|P5 a b=>pE c a b
|P7 a b c d e f=>mG a (FK b c H1 g1 d e f)
|P8 a b c d e=>P7 a b c S1 d e
|P9 a b c d=>P8 a b B1 c d
|Ql=>Nf 0
|Rs a=>Vis X.env.scope a
|RI a=>Nat.min_eq_left a
|RO a=>iu a p.hi
|Sa a=>plainId_quiet a _
|Sc a b c=>Ĭ a (ń b c)
|Sf a b c=>hH a b Pg c
|Sj=>⇑ys
|Sk a=>p.lv+a
|ST=>Sk 1
|SU=>g env
|S0 a b=>by have:=a;show b;lia
|S6 a=>tupleKind_room_in1 a
|Ta a b c d e f g=>JT a scope b c d e f g
|Th=>P.ks.take ES
|Tk=>aM v.pairs
|Tl=>"raise_root_over"
|Tm a b c d e=>Q6 a b c d rfl e
|To=>Ã α
|Ts=>Ã ć
|Tu a b=>Ï a (ě b)
|Tx=>ê Ϯ
|Ty=>Ğ rfl
|TB b=>Ŝ a b
|TC a=>ϝ pos a
|TD a=>ϧ (J a)
|TH a b c d=>lI a k b c d
|TK a=>o7 d a
|TN a b c d=>Has P w K mg O8 a b c d
|TU=>Fa p.lv
|TW a b c=>FH a w b c
|TZ a b c d e=>λ a b c d e=>?_
|T0 a b c d e f g h=>(by unfold a at b;obtain⟨c,d,rfl,e,f⟩:=g;exact h)
|T1=>d7 ds
|W0=>F.args_zip_next_1 _
|XP a b c=>TR.Qt S a b c
|YP=>W i
|aa0=>h1.symm.trans e
|aa1 a b=>L2.PE.imp a b
|aa2 a=>List.filter_cons_of_neg a
|aa3=>List.getElem_of_mem h
|aa4=>Nat.sub_add_cancel q1
|aa5 a=>List.take_succ_eq_append_getElem a
|aa6=>Ť trivial
|aa7=>P.ks.drop OY
|aa8 a b c d=>jZ PassesOwn.never a b c d
|aa9 a=>s.heap.objs.size<=a
|ab0 a=>O8.Ns mainGlobals a
|ab1=>f.map .ref
|ab2 a=>ds.map λ_=>a
|ab4 a b=>f.toList.take (a+b)
|ab5 a b=>(by cases w;simp only at a;subst b;rfl)
|ab6=>ñ ϋ
|ab7 a b c=>Ĝ (Builtin.Range.small a b c)
|ab8 a=>im List.length a
|ab9 a=>a<=rows.length
|ac0 a=>X.env.kindOf a
|ac1 a b c d e=>(by rcases a with b|c;exact d;exact e)
|ac2 a b=>(by cases a;exact b)
|ac3 a b c d=>by show a;rw[Φ b];show c;rw[d];rfl
|ac5=>"__init__"
|ac6=>r.take i
|ac7 a b=>Ĝ (PySem.W.hasDictIn a b)
|ac8=>Θ trivial
|ac9 a=>a=s.heap.objs.size
|ad0=>AllBare s'.gens
|ad1=>standAt apos.atName
|ad2 a=>L.heap.objs.size+a
|ad3=>"type.__call__"
|ad4 a b=>by simpa [a,b]using h
|ad5=>"StopIteration"
|ad6 a=>Option.map _ a
|ad7 a=>p.ps.drop a
|ad8 a b=>Ĝ (PySem.W.isFn a b)
|ad9=>Cz _
|ae0 a=>λ_ _ _ _ _ _ _ q=>a
|ae1=>wpAny_onRaise ?_
|ae2 a b=>ks.filter λ a=>b
|ae4=>gj a.units
|ae5 a=>by show a;split<;>lia
|ae6=>Of pos
|ae7 a b=>(a).names.lookup b
|ae8 a b c=>by subst a;rw[b]at mu;exact c
|ae9 a b=>isTrue a X.env b
|af0 a b=>getMethod a b pl
|af1 a b=>by simp[a,B7,b]
|af2 a b c d=>(by subst a;rw[b]at c;cases d)
|af3 a b=>lW s.heap a b
|af4 b c=>a.setIfInBounds b c.1
|af5 a=>by unfold a PyData.canLay0;rfl
|af6 a b=>Builtin.List.listExtendWith Ķ a b
|af7 a b=>(by injection a with b;lia)
|af9=>ĭ ņ
|ag0=>ψ "object.__setattr__"
|ag1=>du g2
|ag2=>Of px
|ag3=>H' b
|ag4 a b c d e f g=>I.turned (a:=s.toks) b c d e f g
|ag5 a=>Obj.mapSeq a
|ag6 a b c d e f g h i=>(by rw[a]at b;rw[Fs c];obtain⟨d,e,f,g⟩:=h;have:=i;lia)
|ag7=>(Ö first)
|ag8 a=>a=w.pairs
|ag9=>ag8 a.pairs
|ah0 a=>Value.int i a
|ah1 a b c d e=>(by obtain⟨a,b,c⟩:=d;exact e)
|ah2 a=>(Bm.mp a).2
|ah3 a b c=>SqT X.K a b c
|ah4 a=>I.ok.hd a
|ah5 a b c d e=>let ⟨a,_,_,b,_⟩:=c;Ĭ d e
|ah6 a=>Option.isSome_iff_exists.mp a
|ah7=>c.val k
|ah9 a=>ForInStep.yield a
|ai0 a b=>by simp only[a,b,Er]
|ai1 a b c d=>SortSt.mk' a b c d none
|ai3=>dN rows O4
|ai4=>(cK).rows.length
|ai5 a=>L0.rows.take (L0.s a)
|ai6=>Qa 7
|ai7 a b=>å (Zc a) b
|ai8 a=>è (Ì a)
|aj0=>Ϫ Z.k1
|aj1=>CA List.perm_append_comm
|aj2=>λ_=>rfl
|aj3 a b c=>OpR a (ϣ b) c
|aj4 a b=>get?_update_seq a λ_=>b
|aj6 a b=>.stretch a b
|aj7 a=>nomatch a
|aj8=>I.mod.glob.keeps I.bk
|aj9 a b c d e f g=>by intro a b σ c d e f;exact g
|ak0=>Or.inl rfl
|ak1=>ds.all Xt
|ak2 a b=>(by unfold a;rw[NB];cases b<;>rfl)
|ak3 a=>Ej (wpS_modify a)
|ak4=>C.same rfl
|ak5 a=>updateSeq s.heap.objs.size a
|ak6=>"root"
|ak7 a b c d e f g h=>XA (caps:=a) (b:=c) d e f g h
|ak8 a=>Ŝ s.heap.objs.size a
|ak9=>ţ i9
|al0 a=>Ρ a Nat.sub_self
|al1=>model prog w
|al2 a=>YE L.rows L.m L.fork a
|al3=>wf 1
|al4=>FD Value
|al5=>model X.prog X.w
|al6=>ŀ Ü "kept"
|al7 a=>rows.length<=a
|al8 a=>a<=1000000
|al9 a=>KV kvs a
|am0=>al9 vs
|am1 a=>Room k a
|am2=>unsupported "internal:list.sort.merge-bound"
|am3=>Bo _
|am4=>ì 2
|am5 a=>ĺ Sem (ForInStep a)
|am7=>Q1 L.rows L.m L.fork k
|am8=>wf 0
|am9 a b c d=>call_meetsIn PySem.F.slot_dict_get a PySem.F.entry_dict_get b c d
|an0=>e x.symm
|an1=>Array mN
|an2 a b=>s₁.heap.get? a>=b
|an3=>K.In s.heap
|an4 a b=>bindArgs a (wP b)
|an5 a b=>Builtin.Slice.slicePlaces a b 1
|an6 a b=>s.TypeIs ↑a b
|an7 a b c=>by rw[<- a,<- ⇑b];exact c
|an8 a b c d e f=>Gr.laid (a:=b) (ρ:=c) (d:=e) f
|an9 a b=>by rw[<- a,b]
|ao0 a=>List.pairwise_singleton _ a
|ao1 a=>jj.extBut a D.jz
|ao2 a=>Xb p.ks a
|ao3 a b=>d8 a (bg b)
|ao4=>"pairs"
|ao5=>L.s k
|ao6 a b=>PySem.W.mg_of X a b
|ao7=>z.map ļ
|ao8=>"level"
|ao9 a b=>ZN (JG a b)
|ap1=>zT rows O4
|ap2=>TR.prs p
|ap3 a=>List.mem_of_find?_eq_some a
|ap4=>Ð Expr
|ap5=>Ι Value
|ap6=>mP xs.isEmpty
|ap7 a b=>ou (ψ a) b
|ap8 a b=>w8 a b pos.line
|ap9=>NW w.aim
|aq0=>TC es
|aq2 a=>Calls.spliced_cons a
|aq3 a=>List.Perm.trans ?_ a
|aq4=>Ö f
|aq5=>LB Nat
|aq6 a b=>(a).toList.Perm b
|aq7 a b c=>(a).setIfInBounds b c
|aq8 a=>(a).isSome
|aq9 a b c d e f g=>let ⟨a,b,c⟩:=d;da e f g
|ar0 a=>Calls.spliced_nil a
|ar1=>h1.trans z
|ar2=>Ze g
|ar3 a=>Int.emod_nonneg _ a
|ar4=>YJ Qj
|ar5=>Sm.refl _
|ar6 a b=>Builtin.List.listUpdate a (λ_=>b)
|ar7 a=>bL s.heap a
|ar8 a b c d=>(by obtain⟨a,b,_⟩:=c;exact d)
|ar9 a=>Nat.le_succ_of_le a
|as0=>XB Qi
|as1 a b=>z.filter λ a=>b
|as2 a b=>Ó (a≠b)
|as3=>Õ d
|as4=>è Ff
|as5=>Ŀ 3
|as6=>ţ "forks"
|as7 a b c d e=>μ a (TH b c d e)
|as8=>Ϻ ?_
|as9 a=>hO a (qf ..)
|at0 a b c d=>mo (fN a b c) d
|at1=>q7 es
|at2=>q7 ϲ
|at3=>Fn Fm
|at4 a b c d=>Nc a b c (R.trans d)
|at5 a b c=>NM a b (È c)
|at6=>Z6 stm
|at7 a b=>h1.push (Ģ a b)
|at8 a b=>QM a w.aim b
|at9 a b=>T.link a p b
|au0 a b c=>TP.Q1 a b true c
|au1=>by split<;>lia
|au2=>Ĝ false
|au3=>Ž hp1
|au4=>Q4 p w.aim
|au5 a=>Value.str x a
|au6 a b c=>λ a b => ĥ c
|au7 a=>Vals xs a
|au8 a b=>tupleKind (Zv a b)
|au9=>fs.map ļ
|av0 b=>b<a.size
|av1 a b c d=>⟨a,b,c,d,h3⟩
|av2 a=>Cg.mpr (Zl a)
|av3=>frs X.stack
|av5=>λ_=>none
|av6 a b c=>PassesOwn a b X.env c
|av7 a=>(a).toArray
|av8 a=>max 1 a
|av9 a b c=>s.heap.IsSliceOf a b c bE
|aw0 a b c d=>wpAny_callSpecial?_slot (name:=a) b c d
|aw1 a=>Builtin.List.listTooLong a
|aw2 a b=>elem' a b
|aw3 a=>(a).toList.length
|aw4 a b=>r.toList.zipIdx.foldl a (ü b)
|aw5 a=>bs.getD a false
|aw6 a=>!(Ø a)
|aw7=>last i
|aw9=>90000
|ax0 a b=>Ò a Ë b
|ax1 a=>ax0 bF a
|ax2=>ë a.heap.objs.size
|ax4 a=>ò Q7 a 1
|ax5=>Ĝ L.fork
|ax6 a b c d=>Ğ (Nc a b c d)
|ax7 a=>Ĭ a À
|ax8 a=>Ū (ld a)
|ax9 a b=>ŷ aB a b
|ay0 a b c=>Ϣ (ax9 a b) c
|ay1=>Δ Heap
|ay2=>Ι Addr
|ay3=>Ι DV
|ay4=>Τ s.heap.objs.size
|ay5 a=>ϊ Zo a
|ay6 a=>hL (q7 a)
|ay7 a=>l9 items.size a
|ay8 a b=>pk (Ŕ a) b
|ay9=>EB X.N
|az0=>HJ hp
|az1=>Dn m fork
|az2=>OR k
|az3 a b=>.ListComp a b scope pos
|az4 a=>a s.heap.objs.size
|az5 a b=>.builtin a b
|az6 a=>RelV a v
|az7=>(· <= ·)
|az8 a b=>Ef (wpAny_newList a b)
|az9 a=>Ef (wpAny_letGo a)
|aA1 a b=>fG.run S a b
|aA2 a=>Nat.min_eq_right a
|aA3 a b c d e f g=>T.kid a b c d e f (Ab g)
|aA4 a b c d e f=>by show a;have:=ok.parts;rw[b,c];unfold d e;split at f<;>split<;>simp_all<;>lia
|aA5 a=>TR.without a w.aim
|aA6=>"readings"
|aA7 a=>ď rfl a
|aA8=>Đ 3
|aA9 a b=>⇑(IP a b)
|aB0 a b=>Ef (wpAny_updateSeq_pair a b)
|aB1 a b c=>PySem.W.methodCall_KW (pl:=a) b c
|aB2=>eC π
|aB3 a b=>tD.run S1 a b
|aB4=>Xg Qj
|aB5=>xp Ÿ
|aB6 a=>by unfold a;split<;>simp
|aB7 a=>f.toList.drop a
|aB8=>by rw[<- O]
|aB9 a b c=>(by subst e;rw[a]at b;cases c;lia)
|aC0 a=>List.length_pos_of_mem a
|aC2 a b c d=>(by obtain⟨a,_,b⟩:=Eb.mp c;exact d)
|aC3 a b=>gN a b env
|aC4 a b c d e=>Pp a b (aC3 c d) e
|aC6 a b c=>ZL a b c hi sd
|aC7 a b=>aC6 a ks b
|aC9=>aC7 l ps
|aD0 a b=>TR.Chain S a b
|aD1 a=>eF bg a
|aD2 a=>nj (aD1 a)
|aD3=>10000000000000000000
|aD4=>zK z
|aD5=>ê ϰ
|aD6=>ĭ Ā
|aD7=>Ŕ "__classdict__"
|aD8 a b=>mw Â a b
|aE0=>LF h'
|aE1 a=>(none,a)
|aE2 a b c d e f g=>(by obtain⟨a,b⟩:=Ac.mp c;obtain⟨d,e⟩:=f;exact g)
|aE3 b=>a.size-b
|aE4=>aE3 1
|aE5 a b=>by subst a;exact b
|aE7 a b c=>by simpa [Kh,a,b]using c
|aE8=>LI i
|aF0=>Ep À
|aF1=>⇑fs
|aF2 a b c d e=>ObjOk P a b c d e
|aF3 a b c d e=>ObjOk X.prog a b c d e
|aF4 a=>a<pg.length
|aF6=>.cell
|aF7=>X.O8.get? b
|aF8 a=>Nat.le_of_lt a
|aF9 a=>s.heap.FunFrames X.O8 a
|aG0 a=>Ef (Ef a)
|aG1=>Data.cell v
|aG2=>Aq À
|aG3 a b c=>by rw[a,<- b];exact c
|aG4 a=>valueAt a k
|aG5 a=>Gr.laid a
|aG6=>QT aB2
|aG7=>ds.map .val
|aG8 a=>iH X.K a
|aG9 a b c=>bH a (Ze b) c
|aH0 a b=>field ↑a b
|aH1 a b c=>List.nodup_append.mpr (da a b c)
|aH2 a=>leB ň a
|aH3 a b c=>bf a bg b c
|aH6 a=>yT ok.sorted a
|aH7 a=>fa env a
|aH8 a b c=>sx rows.length a b c
|aH9 a b=>TP.qn ⇑a b
|aI0 a=>Nat.lt_of_not_le (NV a)
|aI1 a=>by unfold a;split<;>rfl
|aI2=>more.take i
|aI3=>bs.all id
|aI4=>"items"
|aI5=>QG a
|aI6=>cI seen
|aI7=>Ä hi
|aI8 a b c=>É a (è b) c
|aI9=>Ô none
|aJ0 a b c=>Ý (Ų a b) c
|aJ1=>ë ĳ
|aJ2 a=>Ū (mg a)
|aJ4=>Ϩ x
|aJ6 a b c d=>de a b c d rfl rfl
|aJ7 a b=>pE cell a b
|aJ8=>CD θ
|aJ9 a=>IH .And a
|aK1=>av8 n
|aK2 a=>az3 elt a
|aK3=>aH3 S S' aN
|aK4 a=>p.ps[a]?
|aK5 a=>σ.set i a
|aK6=>by rw[rangeSize_one];split<;>lia
|aK7=>F.args_tuple_iterator_next_1 _
|aK8=>rule "list.sort.comparison-raised"
|aK9 a b=>by have:=a;exact b
|aL0 a=>Zy a w.aim
|aL1 a b c d e f=>Qn (x:=a) (b:=c) d e f
|aL2 a=>hO a (qS ..)
|aL4 a=>(Ak a).symm
|aL5 a=>p.hi>=a
|aL6 a=>env[a]?
|aL7=>Eh e
|aL8=>Eh À
|aL9 a=>(a).Nodup
|aM0 a=>PySem.W.methodObj PQ a
|aM2 a b=>Bf (Ay a b)
|aM3=>.function
|aM4 a=>a::rest
|aM5=>aM4 b
|aM6=>X.s₀.heap.get? b
|aM7=>Sem Bool
|aM8=>truthy v
|aM9=>X.wish E
|aN0 a=>wpAny_execs_nil a
|aN1=>Ef ?_
|aN2 a=>A.units+a
|aN3 a b=>Ei (ĸ a b)
|aN4 a=>wpAny_pyIter_list a ?_
|aN5 a b=>A.under (az5 a b)
|aN7=>c env hp
|aN8=>J 0
|aN9 a b=>items.toList.drop (Ŧ a b)
|aO0=>xs.all Y1
|aO1=>kV k
|aO2=>eC ο
|aO3 a=>qk (eB a)
|aO4=>zs.map some
|aO5 a=>Int.emod_lt_of_pos _ a
|aO6=>List.getElem?_eq_none_iff.mp q
|aO7 a=>DV.ref ⇑a
|aO8=>by simp at c;omega
|aO9 a b=>Int.lt_of_le_of_lt a (Eo b)
|aP0 a=>out.map (bL a)
|aP1=>eG ns
|aP2=>.ellipsis
|aP3=>"read"
|aP5 a b=>Nat.eq_zero_or_pos (a / b)
|aP6 a b=>Bv.mpr (Ĭ a b)
|aP7 a b c d=>Steps a S b c d
|aP8 a b=>(by obtain⟨_,rfl⟩:=a;exact b)
|aP9=>am_miss_of_fast ā
|aQ0=>"dict.update.loop"
|aQ1=>"picture"
|aQ2=>Yd ..
|aQ3 a b c=>Jc (a:=b) (Q5 c)
|aQ4=>YZ w.O2
|aQ5=>Ì mh
|aQ6=>è PQ
|aQ7=>ü a
|aQ8 a=>ď a ad9
|aQ9=>ė w'.O7
|aR0 a b=>Ĝ (PySem.W.plainOver a b)
|aR1 a=>ĺ Sem a
|aR3=>Ť (by simp;omega)
|aR4=>Ω h
|aR5 a=>ck (aM a)
|aR6 a=>dq Nl a
|aR7=>aR6 0
|aR8 a=>dC ds a
|aR9=>aR8 d
|aS0 a b=>eT a (QT b) ZD
|aS1 a b c d e f=>xk a b σ c d e f
|aS4 a=>Jw à (Zp a)
|aS5=>aS4 Z.g0
|aS8=>ax4 4
|aT2 a=>aS1 a Z ρ B hp H
|aT3=>aT2 K
|aT4=>aS4 Z.g1
|aT5=>OE.2
|aT6=>aT5.2
|aT7=>P.zip vs
|aT8 a=>by simp at a;lia
|aT9 a=>r.flatMap (Ym a)
|aU0=>Xi ?_
|aU1=>Ð V
|aU2=>Ù o
|aU3=>õ _
|aU5=>ġ V
|aU6=>ģ i
|aU7=>Ŀ 0
|aU8=>Ŀ 5
|aU9 a=>dq out.toArray a
|aV0 a=>aM2 a I.ok.above
|aV1 a=>a=S.top
|aV2 a b=>(a).Pairwise b
|aV3=>⇑w.pairs
|aV4 a b=>IsTup s.heap a b
|aV5 a=>(Fl.nx,a)
|aV7 a=>(Ý False a).elim
|aV8 a b c=>h.IsTupleIter a b c
|aV9=>IsRange.new ..
|aW0 a b c d=>λ a b ⟨c,d⟩=>?_
|aW1 a=>PySem.W.lookIn name a
|aW2 a=>PySem.W.plainGet_of a
|aW3 a=>e.trans a
|aW4 a b c d e=>callWith a b c (TC d) e
|aW5=>Cy.mp nd
|aW6=>Aq ę
|aW7 a=>List.take_sublist _ a
|aW8=>"dict.pop"
|aW9 a b=>au.append a b
|aX0=>Or.inr rfl
|aX1 a b=>by simpa [a]using b
|aX2 a b=>Nat.le_total a b
|aX3 a b=>cM a hp b
|aX4 a=>aX3 40 a
|aX6 c d e f=>MI c a.toList b.toList d e f
|aX7 c d e=>aX6 c res.toList d e
|aX8 a b=>seqEpoch_at a rfl b
|aX9 a b=>Bf (Ap a) b
|aY0 a=>List.map_id a
|aY1 a b c=>TR.Jp S a b c
|aY2=>"begin"
|aY3 a b=>Q5 (gp a b)
|aY4 a=>OV.aH (aD1 a)
|aY5=>80000
|aY6=>Ã Keyword
|aY7=>È k
|aY8=>Ø Ľ
|aY9=>è Ŗ
|aZ0=>Ĉ h.objs.size
|aZ1 a=>ķ s.heap.objs.size a
|aZ2=>Ū p.hi
|aZ3 a b=>ϑ a (ni b)
|aZ4 a=>aZ3 "tuple_iterator" a
|aZ6 a b c d=>dE (ξ a) b c d
|aZ7=>fK aA
|aZ8=>f8 xs
|aZ9 a b c=>iL (ZS a b) c
|ba0 a b=>nj (OW a b)
|ba1=>nt ę
|ba4 a=>Bs C st₀ a lo
|ba6 a b c=>tq a 1 b c Qj
|ba7 a b c d=>tY List.filter_eq_nil_iff a b c d
|ba8 a b=>Af a (è b)
|bb0 a=>FB (λ i=>a)
|bb1=>Nf w.O6
|bb2=>am1 X.A
|bb3 a b=>ap7 a (aG8 b)
|bb4=>aL9 ao7
|bb6 a b c d=>(by have a:b:=c;cases d)
|bb7=>opt v.O3
|bb8=>unsupported "internal:collect"
|bb9=>List.Pairwise.and_mem.mp Q
|bc0 a b=>Y2 (a:=b) À
|bc1 a b=>W.kept a f b
|bc2=>"find_worth"
|bc3=>"read_pairs"
|bc4 a b c=>by unfold a b;exact c
|bc5=>"raise_root"
|bc6=>"leaf"
|bc7=>"cell"
|bc8 a b=>TP.ZT (n:=a) b
|bc9=>Ä q
|bd0=>è i
|bd1=>Ū ag3
|bd2 a c=>(∀b∈a,c)
|bd3=>hL as3
|bd5=>pd aD4
|bd6 a b=>PyData.eqv (toP a) (toP b)
|bd8 a=>QF (Jk a Ê)
|bd9 a=>a × Value
|be1 a=>s.heap.objs.size≠a
|be2 a=>a<sizeLine
|be3=>.free
|be4 a=>by rw[a];decide
|be5 a=>Gl X a
|be6 a b c d=>do let a <- b;standAt c;d
|be7 a=>Ef (Ei a)
|be8=>λ_=>ο
|be9 a=>λ a _=>rfl
|bf0 a b=>λ_ _ _ _ _ a h=>b
|bf1=>beq_iff_eq.mpr h
|bf2 a=>Aq (by rw[<- a];lia)
|bf3 a=>atI a i
|bf4=>bf3 ds
|bf5=>eqU x
|bf6=>Em À
|bf7=>Qp st
|bf8 a b c=>by rw[a,b,c]
|bg1 a b c d=>Gs a ρ B H b c d
|bg2 a b c=>bg1 K a b c
|bg5=>bg2 ρ' B' H'
|bg6=>lookup_relabel_local S.hx
|bg7=>Ab a
|bg8 a=>b.toList.take a
|bg9=>L.take sa
|bh0 a=>PySem.W.kat_cons (wpAny_eqBool_int a)
|bh1=>yU kvs
|bh2 a b=>xs.filter (λ a=>b)
|bh3=>h.filter _
|bh4=>bg c
|bh5 a b=>Jh a ň b
|bh6 a=>W.at_ a hp
|bh7=>Jt w.O2
|bh8=>fJ fs
|bh9 a b=>ZT (n:=a) b
|bi0=>W 0
|bi1 a=>TP.qn a L.m
|bi2 a=>a.1.pg.length
|bi3=>"top"
|bi4 a b c=>yD a b boot_tuple c
|bi7 b c d=>ZH b a Á QD c d
|bi8 b c=>bi7 b à c
|bi9=>ZC hd
|bj0=>ps.take C
|bj1=>zE rows
|bj2=>Ã Pg
|bj3=>Ä h1
|bj4=>Ä T.last
|bj5 a=>Å List.length_set a
|bj6 a b=>Å (Fs a) b
|bj7=>È PP
|bj8 a b=>É L.fork a b
|bj9=>Ö lo
|bk0=>Ø az1
|bk2=>â Int Int
|bk3 a=>â EU a
|bk4 a b=>å a (û b)
|bk5=>ą PyData.eqvAll
|bk6 a b=>Ĝ (PySem.W.makesIn a b)
|bk7 a b=>Ĥ a (QF b)
|bk8=>Φ h
|bk9 a b=>τ a b this
|bl1 a=>ϑ Ā a
|bl3=>Ϫ Z.k3
|bl4 a=>bX a ta
|bl5=>ck []
|bl6=>mP ds.isEmpty
|bl7 a=>pk a (Ŕ "__debug__")
|bl8 a=>wv ZZ a
|bl9 a=>AN a lim
|bm0=>bl9 Ϟ
|bm1=>Cl k
|bm2=>Fa 0
|bm3=>F5 seen
|bm4 a=>LH (ě a)
|bm6 b c d e f g h=>On b c (dL d e f g h)
|bm8 a b=>.Subscript a b pos
|bm9 a b=>ax7 (a-b)
|bn0 a b c=>aD8 a (Z5 b c)
|bn1=>bk3 (bd9 Addr)
|bn2=>bl7 x
|bn3 a=>λ_ _ q=>a
|bn4 a b c d e=>Ef (listUpdate_at a b c d e)
|bn5 a b c=>by show a;rw[b,c];rfl
|bn6 a b c d=>RelO.some_of (v:=a) (b:=c) d
|bn7=>Str.ofString "__getitem__"
|bn8 a b=>jc kvs a b
|bn9 a b c d e=>aP a b c d kvs e
|bo0 a b c d=>bn9 a b c d xs
|bo1 a b c d=>Jb false a b c d
|bo2 a=>(a).toList.reverse
|bo3 a b=>by unfold a;refine b;rw[List.length_zip];lia
|bo4=>Ö c
|bo5 a=>ô b a
|bo6=>bo5 o
|bo7 a b c d e=>ğ a [b, c, d] e
|bo8 a=>Œ _ a
|bo9 a b c d e=>Ef (wpAny_field a b (c:=d) rfl e)
|bp0 a b=>mo (DW.pt a) b
|bp4 a b=>aJ0 a ia.toArray b
|bp5 a b=>aJ0 a ib.toArray b
|bp6 a=>d.params.defaults=a
|bp9=>bl1 (.seq vs.toArray)
|bq0 a=>Value.bool a
|bq1=>⇑env
|bq2 a=>w.O1>=a
|bq3 a=>a≠S.top
|bq4 a=>PySem.W.instObj C a
|bq5=>h1.get? b
|bq6 a b c d=>⟨a, b,PyProof.Rows.slot_tuple_getitem.lookup,c,d⟩
|bq7 a b c d e f=>∀(a:Nat)(b:c)(d:e),f
|bq8 a b c d=>by unfold a;rw[b,c];exact d
|bq9 a b=>Q ↑a b
|br0=>↥i
|br1 a=>Ef (wpAny_standAt a)
|br2 a b c=>letOwnedTupleGo a b c
|br4 a=>Cls a C
|br5 a b c d=>codeAny_mono a (Ł b c d)
|br6 a b c d=>au.grow a b _ c d
|br7 a b c=>eB (ò a b c)
|br8 a=>QJ (qO a)
|br9 a b=>aQ a b ZD
|bs0=>Qe hf
|bs1 a b c=>getElem?_pos a b c
|bs2 a=>of_decide_eq_false a
|bs3 a=>L.drop a
|bs4 a=>e env a
|bs5=>bs4 hp
|bs6=>"list modified during sort"
|bs8=>List.nodup_range.filter _
|bs9=>"go_on"
|bt0=>"tell_fork"
|bt1 a b c d e f=>by simp only[a,b,c,d,e,f,Er]
|bt2=>"tuple.__new__"
|bt3 a=>Nat.div_add_mod a m
|bt4 a b=>Jj (Zn a) b
|bt5=>"write"
|bt6=>"make_root"
|bt7=>"kids"
|bt8=>"table"
|bt9=>vg ..
|bu0 a b=>p.sd.map λ a=>b
|bu1 a=>TR.aU p.ks a
|bu3=>nO rows O4
|bu4 a b c d=>XI (QN a b) c d
|bu5=>Ã Addr
|bu6 a b c d=>Å (bo a b c) d
|bu7=>Ð NameKind
|bu8=>Ñ es
|bu9 a b=>Ø (a++b)
|bv0 a=>Ø (aM a)
|bv1=>Đ 5
|bv2=>Ĝ fork
|bv3 a=>Ī n.toNat a
|bv4=>Ŕ tI
|bv5=>Ū p.sd
|bv6 a=>ξ (mP a)
|bv9 a=>Ϸ a fs
|bw0=>bv9 c
|bw1 a=>bp a 0
|bw2=>bw1 1
|bw3=>bw1 2
|bw4 b=>eL b Z.g2
|bw5 a=>hO a (Yy ..)
|bw6 a=>jl (jl a)
|bw7 a=>pc a ļ
|bw8 a b=>bw7 (Na a b)
|bw9 a b c d=>pe a (Xh b c d)
|bx0=>sN hx
|bx1=>AD Int
|bx2=>Fn at3
|bx4 a b=>Nc a iter ifs b
|bx5=>NF k1.extBut
|bx6=>az6 x
|bx7 a=>aA9 FE a
|bx8=>aH7 hp
|bx9=>aL0 p
|by2=>ba4 st
|by3 a=>bm9 a 1
|by5=>⇑f
|by6 a b c=>HOk X.prog a b c
|by8=>λ_ h=>h
|by9=>[ų]
|bz0=>wP by9
|bz1=>Builtin.«list.sort» bz0
|bz2 a=>s.toks+a
|bz3=>bz2 1
|bz4=>"dict_reverseitemiterator"
|bz5 a b c d=>∀(a:Shared)(b:c),d
|bz6=>Heap.SameBut.update ..
|bz7 a=>XD kvs a
|bz8 a b=>wpS_mono (key a) b
|bz9 a b c d=>Runs C a b c d
|bA0 a=>l.mem_iff.mp a
|bA1 a=>t.trans (nV a)
|bA2=>J.trans g3
|bA3=>CG.trans i
|bA4=>z_.trans U
|bA5 a=>ZF L a
|bA6=>bA5 k
|bA7=>È j
|bA8=>Ö l
|bA9=>è c
|bB0=>ë p
|bB1=>ü o
|bB2=>ü s
|bB3=>ĭ "method_descriptor"
|bB4 a b c=>Ń a scope b c
|bB5=>ŵ env
|bB6=>Ϫ Z.k14
|bB7 a b=>da rfl a b
|bB8=>rt.lv+1
|bB9 a=>bB8 * a
|bC0=>bB9 Î
|bC1=>wS 0
|bC2 a b=>CF K a b
|bC3 a=>bC2 B a
|bC4=>bC3 H
|bC5=>E8 n
|bC6 a=>IH .Or a
|bC7=>Sa F.plain_extend_loop
|bC8 a b=>Sc a toP b
|bC9 a b c=>kvs.any λ a=>oX b c
|bD3 a=>nE Η (ni a)
|bD4 a=>ba6 ak6 ZG a
|bD5=>bD4 Ë
|bD6 a=>Bool->a
|bD7=>bD6 eK
|bD8 a b c d=>∀{a:Nat}{b:c},d
|bD9 a=>q.lv=a
|bE0=>bD9 p.lv
|bE1 a b=>(a).toList.Pairwise b
|bE2 a b c=>(a).extract b c
|bE3=>⇑b
|bE4=>⇑P
|bE5 a=>pg[a]?
|bE6=>bE5 n
|bE7 a b c d e f=>⟨a,b,c,rfl,d,e,f⟩
|bE9 a b=>HOk P w a b
|bF0 a=>bE9 H a
|bF1=>bF0 h
|bF2=>Bf AJ
|bF3 a b=>by rw[a,b];simp
|bF4=>a env
|bF5 a b c d e f=>λ a b c d e f=>?_
|bF6 a b=>Am (λ a=>b)
|bF8=>bF6 x an0
|bF9 a b=>Ef (wpAny_newTuple a b)
|bG0 a b c d e f=>({ a with b:=c,d:=x,e:=f })
|bG1 a=>Aj _ a
|bG2 a b=>NoAttr a C b
|bG3 a=>Builtin.Tuple.tupleItemsOf ↑a
|bG4=>Z6 st
|bG5 a=>Cf.mp a
|bG6=>ds.take m
|bG7=>Xg aA8
|bG8 a b=>Heap.ExtBut a s.heap b
|bH0 a=>I a env hp
|bH1=>Qe b
|bH2=>nD done
|bH3=>rule "list.sort.modified"
|bH4=>by kernel_rfl
|bH5 a b=>by rw[<- a];simp[b,List.getElem_drop]
|bH6 a b c d=>by rw[a]at b;rw[Fs c];exact d
|bH7 a b=>seg a b n
|bH8 a=>bH7 c.toList a
|bH9 a b=>reverseSlice' a b
|bI0=>by congr 1;lia
|bI1=>tuples' true
|bI2 a=>Builtin.«zip.__next__» (wP a)
|bI3 a=>Nat.succ_le_succ a
|bI4 a=>Eb.mp a
|bI5 a b c=>In a bg b c
|bI6 a b=>bI5 a b w.aim
|bI7 a b=>A.tree.page a p b
|bI8 a b=>Qr XJ a b
|bI9 a b c d e=>JA a PySem.F.plainAttrs_dict b c d e
|bJ0=>Z1 ai6
|bJ1=>wL rfl
|bJ2=>Zt ?_
|bJ3=>TR.QR P
|bJ4=>TR.J9 P
|bJ5 a b c=>JG (hp1:=a) b c
|bJ6 a=>Wk w a
|bJ7=>bJ6 a
|bJ8=>zE z
|bK0=>È c
|bK1=>Ô true
|bK2=>Ô d
|bK3 a b=>î w a b
|bK4 a=>bK3 O3 a
|bK5=>bK4 pT
|bK7=>bK3 O7 true
|bK8=>ñ []
|bK9=>ÿ more.length
|bL0 a=>Ĝ (Y1 a)
|bL1 a b=>Ĝ (ao3 a b)
|bL2=>ţ AV
|bL3=>Ū X.A.handled
|bL4=>Δ Β
|bL5 a b c=>Ϣ (NO a b) c
|bL6=>dt j6
|bL7=>dt aZ7
|bL8=>f6 Nl
|bL9 a=>gp Â a
|bM0=>mP kvs.isEmpty
|bM1 a=>oX ϰ a
|bM2=>bM1 k
|bM3=>q7 ds
|bM4=>sF (Ϫ Z.k4)
|bM5=>AK g1
|bM6=>EE ļ
|bM7=>E9 Š
|bM8 a=>L4 a ds
|bN0 a b=>Ė w a b O7 true
|bN1 a=>bN0 pairs a
|bN2 a=>bN0 O3 a
|bN3=>bN2 pT
|bN4 b c d=>On b c (ĉ d)
|bN5=>Å e True.intro
|bN8=>ax1 1
|bN9 a b=>aG9 a b Zw
|bO0 a=>Ek (ê (Α a _ ?_))
|bO1 a b=>aN3 a (Ei b)
|bO2 a b=>Q1 L0.rows L0.m a b
|bO3=>be9 t
|bO6=>BR K B H ρ' B' H'
|bO7=>by3 n
|bO8 b=>ϊ Jy (cS Fh a b Qm)
|bO9=>bO8 0
|bP0=>(TP.zS rows m fork first)
|bP1=>List.mem_filterMap.mp hp
|bP2=>K.In h
|bP4=>n4 [tU]
|bP5 a=>eval a env
|bP6 a=>assign a X.env
|bP7=>by simp only[Ao];lia
|bP8 a=>KW I.hok a
|bP9 a=>Uw I.hok a
|bQ0=>"dict.get"
|bQ1=>V.ref s.heap.objs.size
|bQ2 a b c=>by unfold a at b;subst c;simp;exact au.nil
|bQ3=>Qe c
|bQ4=>g.perm.mem_iff.mp hp
|bQ5=>"told"
|bQ6=>"put_pair"
|bQ7 a=>List.getElem?_zip_eq_some.mp a
|bQ8=>"high"
|bQ9 a b c=>J7 (a:=b) Â c
|bR0=>E Ś
|bR1 a b=>Nat.mul_le_mul a b
|bR2=>List.mem_map_of_mem hx
|bR3 a=>Ä (ah2 a)
|bR4=>Ö h
|bR5 a b c=>ñ (at5 a b c)
|bR6=>ξ aw7
|bR7 a b c=>ix a b c h'.elim
|bR8 a b=>jk a H b
|bR9 a=>bR8 K a
|bS0=>bR9 a
|bS2 a=>l8 (bD3 a)
|bS3=>rq m
|bS4 a b c d=>AC a b c d pos
|bS5=>HJ hp1
|bS6 a b=>TW a n b
|bS8=>bS6 S P
|bS9=>bS8.2
|bT0=>ab2 true
|bT1=>be5 Η
|bT2=>ky Array.toList_extract List.extract_eq_take_drop
|bT3 a b c=>bS4 a b apos c
|bT4 a=>a=more.length
|bT5 a=>Sum.inr a
|bT6 a b=>λ a=>NameKind.noConfusion (Ak (Ý (è NameKind.cell>=NameKind.local) b))
|bT7 a=>Vals ys a
|bT8=>⇑S'.pg
|bT9=>⇑seen
|bU0 a b c d e=>a>=(TH b c d e)
|bU1 a b c d=>bU0 bC5 a b c d
|bU2 b=>b<=a.size
|bU3 a=>a<h.objs.size
|bU4 a b c d e=>⟨a,b,rfl,c,d,e⟩
|bU5 a b c=>.Assign a b c
|bU6=>[bl5]
|bU7=>↥x
|bU8=>"itertools.zip_longest"
|bU9 a=>Data.fields a
|bV0=>Ae s.heap.objs.size
|bV1=>"__setattr__"
|bV2 a b c d e f g=>⟨a,b,c,rfl,d,e,f,g⟩
|bV3 a b=>(none,a,b)
|bV4 b c=>a.heap.push (aZ3 b c)
|bV5 a=>seqIndex_neg À a
|bV6=>"list.append"
|bV7 a=>DecidableEq a
|bV8 a=>atKey a k
|bV9 a=>merged [] a
|bW0 a b c d=>aA.grow a b _ c d
|bW1=>f.map some
|bW2=>newList []
|bW3=>F k
|bW4=>opt bW3
|bW5=>Õ bW4
|bW6=>toP d
|bW7=>g3.trans g4
|bW8=>g0.trans g1
|bW9=>rule "list.sort.gallop"
|bX0 a=>by show a;simp
|bX1 a=>xs.lookup a
|bX2 a b c=>k1.extBut _ a b c
|bX3=>F.args_zip_iter_1 _
|bX4=>P.ps.take OY
|bX5 a b=>iR.still T a b
|bX6 a b=>Chain S a b
|bX7 a b=>Nat.lt_trichotomy a b
|bX8=>"settle"
|bX9 a b c d=>QY a (é b) c d
|bY0 a b c=>by unfold a;rw[b,c]
|bY1 a=>Bv.mp a
|bY2 a=>Lf.split a hz
|bY3=>"worths"
|bY4 a b=>Qf a (Qo b)
|bY5=>Qa 8
|bY6 a=>YI (Y0 a)
|bY7 a b=>Dr (a:=rows.length) b
|bY8 a=>aX a rfl
|bY9=>bY8 A
|bZ0 a=>TR.JS a 0
|bZ2=>dF c t
|bZ3 a b c d e f g=>qm (a := b) (u c d) e f g
|bZ4=>ns.take 40
|bZ5=>Ã TR.Pg
|bZ6 a b c=>Ç a (Qc b c)
|bZ7=>Ð Bool
|bZ8=>Ô x
|bZ9=>Ö O4
|ca0 a b=>Ý (Ĝ a) b
|ca1=>ê h
|ca2=>ë b
|ca3=>ì 3
|ca4 a b=>î a toks b
|ca5=>û e
|ca6=>ė a.O7
|ca7 a=>Ĝ (eV a)
|ca8=>Ĝ w'.O7
|ca9=>ġ Value
|cb0 a b c=>Ĭ (λ a=>b) c
|cb1 a=>Ŋ H' a
|cb2=>cb1 s'
|cb3=>Ŕ t9
|cb4=>ū b
|cb6=>ϊ qF Qm
|cb7=>Ϫ Z.k0
|cb8=>Ϫ Z.k8
|cb9 a b=>a7 (iO a b)
|cc0=>bS env
|cc1 a=>dC env a
|cc2 a=>fX rfl a
|cc3 a b=>fX (Ť a) b
|cc4 a=>g8 50 a
|cc5 a=>hA (Ì a)
|cc6=>iS 1
|cc7=>mx f
|cc9=>H1.push (Ģ ņ 0)
|cd0=>qz i
|cd1=>sv ?_
|cd2=>tm st₀
|cd3=>wn st
|cd4=>wS 2
|cd5 a b c d=>Ò Z4 (CC a b c) d
|cd6 a b c d e f=>Ò a (cd5 b c d e) f
|cd7=>NU En
|cd8 a=>NU (Δ a)
|cd9 a b=>N0 a b ī
|ce0 a=>cd9 isD a
|ce1=>ce0 ak9
|ce2=>TK v
|ce4 c d e=>MH c a.toList b.toList res.toList.reverse d e
|ce5 a=>ae9 a whole
|ce6 a b=>P2 X (ϣ a) b
|ce7=>ai8 a
|ce8 a=>as2 ϰ a
|ce9=>ce8 k
|cf0 a=>aD8 Â a
|cf1=>aE1 ()
|cf2=>aG5 hp'
|cf3=>aJ9 aM5
|cf4=>aL6 k
|cf5 a b=>.Constant a b pos
|cf6 a b=>aJ6 i a b Â
|cf7 a=>bc8 rows.length a
|cf8=>be5 x
|cf9 a=>bh9 a O.m_pos
|cg0=>bl4 a
|cg2=>bn3 q
|cg3=>(n-L.first)
|cg4=>br4 X.K
|cg5 a=>Z8 ň p.ks a
|cg6 a=>bx4 ag2 a
|cg7=>bC6 aM5
|cg8 a=>bK3 place a
|cg9 a=>bO2 L0.fork a
|ch0 a=>bR8 X.K a
|ch2=>ca4 s bz3
|ch3=>⇑c
|ch4=>⇑N
|ch5 a=>X.s₀.heap.FunFrames X.O8 a
|ch6 a=>Ax _ a
|ch7 a b=>h a (ch6 b)
|ch8 a b c=>Calls.Name_function_global I.ok.kind a b c
|ch9 a=>q.lv+a
|ci0=>ch9 1
|ci1 a=>a=p.lv
|ci2=>ci1 ci0
|ci3=>ci1 P.lv
|ci4=>rawInt h.objs.size
|ci5=>H1 a.heap.objs.size
|ci6 a b c=>BindsTo a fd b c
|ci7 a=>PySem.F.args_tuple_add_2 _ a
|ci8 a b=>IsPart a b
|ci9 a b c=>bB.gs a (QP b) c
|cj0 a b=>Keeps s.heap a b
|cj1=>aK P
|cj2=>YZ d
|cj3=>row.lt T
|cj4=>È x
|cj5 a b c=>ĵ 2 a b c
|cj6 a b=>Α a b rfl
|cj7=>Λ x
|cj8=>ω w
|cj9 b c d=>ώ b a c d
|ck0=>mv F.plain_extend_loop
|ck1=>wa F.entry_extend_loop
|ck2=>E7 false
|ck3 a=>Pm s a
|ck4=>ck3 t'
|ck5 a b=>ah3 a b ys
|ck6 a b=>Binds a fd ps b
|ck7 a b c=>OH Ā a b (é c)
|ck8 a b=>cj5 a b or
|ck9 a=>Unit->a
|cl0=>ck9 Ε
|cl1 a b c d e=>((match a with|.lst b=>c|_=>d:e))
|cl2 a=>a==items.size
|cl3=>⇑b.flatten
|cl5=>p.sd>=s
|cl6=>aT5.1
|cl7=>aT6.1
|cl8=>aT6.2
|cl9=>Eg Ê
|cm0 a=>a<=S.O4
|cm1=>cm0 Ν
|cm2=>c env
|cm3=>↑d
|cm4 a b c d=>⟨a,b,c,d,q⟩
|cm6 a b=>.ins C a b
|cm7 a b c d=>upd a b (cm6 c d)
|cm8 a=>cm6 a fs
|cm9=>cm8 dx
|cn0=>env.kindOf x
|cn1 a b c=>I.O8.there a b c hx
|cn2 a=>I.pin p a
|cn4=>2 ^ 64
|cn5 a=>seqIndex_of h0 a
|cn7=>J6 st
|cn8=>ks.map kV
|cn9 a=>PySem.F.args_dict_get_2 _ a
|co0=>M Unit
|co1 a b=>Qh J8 a b
|co2 a b=>idx.map λ a=>b
|co3=>f.map _
|co4 a b c=>yh a (gN b) c
|co5=>Ab hi
|co6 a b c=>QY a (Ĺ b c)
|co7=>Ze LV
|co8 a b c d e f g=>do let a <- b;let c <- d;let e <- f;g
|co9 a b c d e f g h=>I.laid (a:=s.heap.objs.size) (b:=c) (d:=e) f g h
|cp0=>? step
|cp1=>? post
|cp2 a b c=>Bu.mpr (da a b c)
|cp3 a b=>setPending a b
|cp4 a=>setArr st a
|cp5 a b=>wpAny_pyIter_slot a F.slot_zip_iter b
|cp6 a b=>aO a bg b
|cp7 a=>cp6 S a
|cp8=>"goal"
|cp9=>"do_deed"
|cq0=>"cut_key"
|cq1 a=>o env a
|cq2=>cq1 hp
|cq3 a b=>Xf a Â b
|cq4 a=>cq3 rfl a
|cq5 a=>bd8 (cq4 a)
|cq6 a=>by unfold bW;rw[a];simp;lia
|cq8 a=>L.s (a+1)
|cq9=>cq8 k
|cr0=>"kid_begins"
|cr1 a b c=>Zf a b boot_min c
|cr2=>Z1 P1
|cr3=>QF ?_
|cr4 a b c d e f=>Fr hp a b c d e f
|cr5 a b c d e=>cr4 hp' a b c d e
|cr6=>qU ..
|cr7=>qT ..
|cr8=>YW ..
|cr9=>Ä e
|cs0=>Ä a
|cs1=>Ä f
|cs2=>Ä h2
|cs3 a=>Å hd a
|cs4=>Ô ds
|cs5 a=>Ô (DV.lst a)
|cs6=>Ö key
|cs7 a=>å a rfl
|cs8=>è s
|cs9=>ë ot
|ct0=>ñ ys
|ct1=>û hd
|ct2 a=>Ĝ (T a)
|ct3=>ţ F7
|ct4=>Ū o.dict
|ct5=>ū p
|ct6=>ŵ ds
|ct7=>Δ Hs
|ct8=>Ω e
|ct9 a b c=>χ (Ù a) b c
|cu0=>ψ id
|cu1 a b c d=>ϔ a b (Ϥ c d)
|cu2 b=>eL b Z.g1
|cu3 a=>g8 22 a
|cu4 a=>iq sa a
|cu5=>lB L.q
|cu6 a=>l5 (Zt a)
|cu7 a=>l5 (Qw a)
|cu8 a=>rj a ?_
|cu9 a b=>rj a (Ej b)
|cv0=>sN z
|cv2 a b c=>Ű a ρ B H b c
|cv3 a b=>cv2 _ a b
|cv4 a=>cv3 W a
|cv5=>cv4 XZ
|cv6=>cv4 Jf
|cv7=>EA g3
|cv8=>EB xs
|cv9=>FD V
|cw0 a b c=>G2 a b c rfl
|cw1 a b=>G6 (a).update b
|cw2=>NY s.heap.objs.size
|cw3=>NY F.heap.objs.size
|cw4 b=>PH b a.size
|cw5 a=>cσs idx σ a
|cw6 a=>z.map λ p=>a
|cw7=>ag8 w'.pairs
|cw8=>al0 aW6
|cw9=>ao2 w.aim
|cx0=>au7 b.toList
|cx1=>ax1 2
|cx2=>ax4 1
|cx3=>aD2 r
|cx4=>kP s₁.heap H
|cx5=>aH2 w.aim
|cx6 a b=>aQ8 (Ay a b)
|cx7 a b=>av1 a q b h2
|cx8 a=>cx7 m a
|cx9=>bq2 k
|cy0 a=>bq9 p a
|cy1=>bv9 ã
|cy2 a b c=>bw9 a rows b c
|cy3 a b=>cy2 a b false
|cy5 a=>Ta X cl C a s₀ H₀ ex
|cy6=>bz7 k
|cy7 a=>cm6 b a
|cy8=>cy7 xs
|cy9=>cp7 w
|cz0=>cy7 xs'
|cz2 a=>Ô (.yield a)
|cz3 a b=>.seq a b
|cz4 a b=>bl1 (cz3 a b)
|cz5 a=>cz4 c.toArray a
|cz6=>⇑j
|cz7 a=>a∈P.ps
|cz8 a=>g.get? a
|cz9 a b=>I.cell a c b
|cA0 a b=>assign a X.env b
|cA2=>S.wr+1
|cA3 a b c d e f g h i=>({ a with b:=c,d:=n4 e,f:=g,h:=i })
|cA4=>"itertools.pairwise"
|cA5 b=>wpAny_pyIter_rangeiter a b
|cA6=>Aw e
|cA7=>ns.map WData.int
|cA8=>M α
|cA9=>M á
|cB0=>Qk h
|cB1=>Qk n
|cB2 a=>Zj ch4 a
|cB5 a b=>hJ a (dZ (<- b)) bd0
|cB6=>Ze aB5
|cB7 a b=>z0.elim (NV a) b
|cB8 a b c d=>Calls.call_function_entry a plain_sorted b c d
|cB9=>args_list_sort _
|cC0=>B8 a
|cC1 a b=>by unfold bW;rw[a];simpa using b
|cC2=>(by cases n<;>trivial)
|cC3=>A.iD b
|cC4 a=>TR.aL p.ks a
|cC5 a b c d e=>Yi (a:=b) Â c d e
|cC6=>Ym S
|cC7 a=>Dz kvs a
|cC8 a b c=>ç X a b c
|cC9 a b=>cC8 a H b
|cD0 a=>cC9 a s
|cD1=>cD0 a
|cD2 a=>ď h a
|cD3=>cD2 h0
|cD4=>cD2 À
|cD5=>ě (bl8 aU7)
|cD6=>Λ y
|cD7=>ϟ y
|cD8 a=>Ϣ (ţ zg) a
|cD9=>Ϩ aQ4
|cE0 a b=>a0 (ay8 a b)
|cE1=>lB k
|cE2=>mx m
|cE3 a b=>ou a (aG8 b)
|cE4=>pd aP1
|cE5=>qz a
|cE6=>LH aU7
|cE7 a b=>OA a [w.aim] b
|cE8=>ab2 ο
|cE9=>ay5 ő
|cF0=>ay5 dQ
|cF1=>aK5 Oa
|cF2 a b=>aR5 (mi a b)
|cF3 a b c d=>aS0 (ò a b c) d
|cF4 a=>backToKw a (keywordEach [] X.env)
|cF5=>cF4 pos
|cF6 a b c d e=>χ a (EP b c σ d) e
|cF7 a b c d=>bo9 a b c d ?_
|cF8 a=>bu9 ds a
|cF9=>cF8 es
|cG0=>bw4 ŝ
|cG1 a b=>Æ cP a (Ϩ b)
|cG2=>bV8 xs
|cG3 a b=>ca0 a (Em b)
|cG4 a b c d=>cm4 (È a) b c d
|cG5 a=>cE7 ST a
|cG6 a b=>(a).getD b
|cG7=>⇑a
|cG8=>⇑us
|cG9 a=>S'.pg[a]?
|cH0=>(F.slot_zip_next).1
|cH1=>Eh h
|cH2 a=>Eg (Ŷ a)
|cH3 a=>w.O6<=a
|cH4=>cH3 p.lv
|cH5 a=>a<=b.size
|cH6=>(·.isSome)
|cH7 a b c d=>Inv a b σ' c d
|cH8 a=>Q a H'
|cH9 a b=>storeName X.env a b
|cI0 a=>D.nx σ a
|cI1 a b=>Ef (wpAny_load a b)
|cI2 a=>(N.first+a)
|cI3=>"dict_itemiterator"
|cI5=>bw / 2
|cI6=>EF cI5
|cI8=>start N vs
|cI9=>"slice"
|cJ0 a b=>typeLookup (ĭ a) b
|cJ1 a b c=>by unfold a;rw[b,c];lia
|cJ2=>by rw[Ao]<;>lia
|cJ3=>pre_splitW hpre
|cJ4 a=>PySem.call a vs
|cJ5=>K b
|cJ6=>k.map kV
|cJ7 a=>V6 I.hok a
|cJ8 a=>uK I.hok a
|cJ9=>g.gs W.rb
|cK0=>i.trans e
|cK2 a=>g2.trans a
|cK3=>SqL.of h2
|cK4 a b c=>Qs a (ϕ b c)
|cK5=>Ab h1
|cK6 a b=>da _ a b
|cK7 a b=>Gr.banned a b
|cK9 a=>cE idx env a
|cL0=>cK9 d
|cL1=>ds.map nJ
|cL2=>body env'
|cL3=>Zx a
|cL4 a=>by rw[<- a];rfl
|cL5 a=>ds.set a d
|cL6 a=>iV (lF a)
|cL7=>cL6 Ë
|cL8 a b c d=>by unfold a;rw[b,c,d]
|cL9=>C.S p
|cM0 a=>Ek (Ğ a)
|cM1 a=>Ej (Uh a)
|cM2 a b=>Two C a b
|cM4=>cM2 a b
|cM5 a=>b.toList.drop a
|cM6 a b c=>m.high x a b c
|cM7=>Uu ds
|cM9 a=>xu w.O5 p.lv a
|cN0=>cM9 n
|cN1 a=>by unfold a;lia
|cN2 a=>hh.trans a
|cN3 a b c=>W.none_ hp a b c
|cN4=>cF.refl _
|cN5=>"forks"
|cN6 a=>Zk Â a
|cN7=>cN6 Â
|cN8 a b=>aB a b hp
|cN9 a b=>cN8 a ↥b
|cO0 a=>ws.set i a
|cO1 a=>Bool.and_eq_true_iff.mp a
|cO2=>N.s k
|cO3=>"fills"
|cO4 a b c=>JU a b c ŉ
|cO5=>"law"
|cO6=>ZC h
|cO7 a b c d=>dM a O4 b c d
|cO8 a b c=>cO7 w a b c
|cO9 a b=>cO8 a b ps
|cP0 a b c=>gs a (Å b c)
|cP1 a b c d e=>Ji (a:=b) c Â d e
|cP2 a=>l.set d a
|cP3 a b=>Zt (hp1:=a) b
|cP4=>d.mem_iff.mp hp
|cP5 a b=>Ç a (Đ b)
|cP6 a b=>É a b failure
|cP7=>Ì j
|cP8=>Ì 1
|cP9 a b c=>Ï a (Qd b c)
|cQ0=>Ð Ú
|cQ3=>Ñ (e::es)
|cQ4 a=>Õ (ξ a)
|cQ5=>Ø xs
|cQ6 a b=>å (yI a) b
|cQ7=>ü st₀
|cQ8=>ÿ ŕ
|cQ9 a=>Ě (ZC a)
|cR0=>ĥ h
|cR2=>λ h=>cR0
|cR3 a b=>ĸ a (iE b)
|cR4 a b=>Ň (H a) b
|cR5 a=>ŋ a oB
|cR6=>ū s.heap.objs.size
|cR7=>Ι V
|cR8 a b=>ξ (AN a b)
|cR9=>ϩ À
|cS0=>Ϫ Z.k12
|cS1 a=>Ϸ a []
|cS2 a b c d=>Ϸ a (XS b c d)
|cS3 a b c=>aC (Zt a) b c
|cS4 a=>bb a fa
|cS5=>cS4 a
|cS6 b=>eL b Z.g0
|cS7 b=>eL b Z.g3
|cS9=>fj hi u
|cT0 a=>hO A.h3 a
|cT2 a b c=>md a b JY dz c
|cT3 a b=>cT2 a b 30
|cT4 a=>me a k
|cT5=>cT4 p
|cT6=>cT4 q
|cT7 a b c d=>mm (fN a b c) d
|cT9 a b=>nL x hx a b
|cU0 a=>cT9 y a
|cU1=>cU0 a
|cU3=>AW Z.k6 YG
|cU4=>A4 ļ
|cU5=>EQ a.toList
|cU6 a b=>ID a b rfl
|cU7 a=>IS (Ì a)
|cU9=>L7 items.size items.size
|cV0 a=>L9 (Ū a)
|cV1 a b c=>Nc a ?_ b c
|cV2 a b=>Nn a s.heap b
|cV3=>ND st
|cV4=>TD Ć
|cV5 a b=>ad6 (List.find? a b)
|cV6 a b=>ay0 Ġ a b
|cV7=>b=h1.objs.size
|cV9=>ON (mi l h)
|cW0=>aL2 A.h3
|cW1=>aL5 h
|cW2 a b c=>aS0 (cG1 a b) c
|cW3=>aS4 Z.g3
|cW4 a b c d e=>⟨a,b,c,bT6 d e,trivial⟩
|cW5=>foldedSetIterable iter X.env x
|cW6 a=>bd2 a bd1
|cW7=>bk3 V
|cW8 a b=>LP x a b rfl
|cW9 a b c=>cW8 a (Ő b c)
|cX0=>br4 K
|cX3=>bo0 K ρ B H
|cX4=>bJ6 b
|cX5=>bN1 cV9
|cX6 a b=>bU5 a b pos
|cX7=>cc1 bM3
|cX8 a b=>cj5 Zh a b
|cY0 a b c=>Ĺ (cX8 a b) (ì c)
|cY1=>OldK s₁.heap s'.heap
|cY2 a b c=>cx8 (hW a b c)
|cY3=>cB2 body
|cY4 a b c=>cF7 a rfl b c
|cY5=>S.grow g W
|cY6=>cR5 x
theorem At(a:1=1:=by rfl)(b:1=1:=by decide)(c:1=1:=by intro _;rfl)(d:1=1:=by first|exact .inl rfl|exact .inr rfl|assumption)(e:1=1:=by first|exact Or.inl rfl|exact Or.inr rfl)(f:1=1:=by with_unfolding_all rfl)(g:1=1:=by intro s _ _ _ _ _ _ _ l;trivial)(h:1=1:=by intro _ _ _ _ _ _ us e;rcases us with _|⟨_,_|⟨_,_|⟨_,_|⟨_,_|⟨_,_|⟨_,_⟩⟩⟩⟩⟩⟩<;>first|rfl|cases e)(i:1=1:=by intro _ _;rfl)(j:1=1:=by first|exact Or.inl rfl|exact o2 rfl|exact o3 rfl):True:=trivial
section
open PySem PySem.Spec PyProof.Rows
abbrev Aa:=PySem.W.Frag
def Ab:=@List.getElem?_eq_getElem
def Ac:=@List.getElem?_eq_some_iff
def Ad:=@Heap.get?_push_of_some
def Ae:=@Nat.le_refl
def Ag:=@Array.toList_append
def Ah:=@List.getElem?_append_left
def Ai:=@List.mem_append
def Aj:=@List.mem_append_right
def Ak:=@Option.some.inj
def Am:=@List.getElem?_set_ne
def An:=@List.length_append
def Ao:=@List.size_toArray
def Ap:=@Heap.lt_size
def Aq:=@List.getElem?_append_right
def Ar:=@List.mem_singleton
def As:=@List.filter_cons
def Au:=@List.getElem?_set_self
def Av:=@Heap.get?_push_size
def Aw:=@List.mem_of_getElem?
def Ax:=@List.mem_cons_of_mem
def Ay:=@Nat.lt_of_lt_of_le
def Az:=@Bool.false_eq_true
def A7:=@List.mem_append_left
def A8:=@List.append_assoc
def A9:=@List.length_take
def Ba:=@List.length_cons
def Bb:=@List.map_cons
def Bc:=@Bool.and_eq_true
def Be:=@Nat.zero_le
def Bf:=@Nat.ne_of_lt
def Bh:=@Nat.lt_or_ge
def Bi:=@List.drop_eq_getElem_cons
def Bj:=@Nat.le_trans
def Bk:=@List.mem_cons
def Bm:=@List.mem_filter
def Bo:=@Int.le_refl
def Bp:=@List.length_drop
def Bq:=@List.length_map
def Br:=@List.append_nil
def Bt:=@List.getElem?_map
def Bu:=@List.pairwise_append
def Bv:=@List.mem_iff_getElem?
def Bw:=@List.mem_of_mem_take
def Bx:=@Nat.lt_of_le_of_lt
def By:=@Bool.false_ne_true
def Bz:=@List.take_append_drop
def B0:=@Int.toNat_natCast
def B7:=@List.find?_cons
def B8:=@List.getElem_mem
def B9:=@List.getElem?_take_of_lt
def Ca:=@List.length_filter_le
def Cb:=@List.getElem?_drop
def Cc:=@List.mem_of_mem_drop
def Cd:=@Array.toList_reverse
def Ce:=@List.not_mem_nil
def Cf:=@Option.map_eq_some_iff
def Cg:=@List.mem_range
def Ch:=@List.take_of_length_le
def Ci:=@Array.length_toList
def Cj:=@Int.le_of_lt
def Ck:=@List.prefix_rfl
def Cm:=@List.drop_of_length_le
def Cn:=@Heap.size_push
def Co:=@List.pairwise_cons
def Cp:=@List.getD_eq_getElem?_getD
def Cq:=@List.pairwise_iff_getElem
def Cr:=@Bool.not_eq_true'
def Cs:=@List.mem_iff_getElem
def Ct:=@List.any_cons
def Cu:=@List.filter_eq_self
def Cv:=@List.drop_drop
def Cw:=@List.filter_cons_of_pos
def Cy:=@List.nodup_cons
def Cz:=@Nat.lt_irrefl
def C0:=@List.getElem?_eq_none
def C1:=@List.getElem_take
def C4:=@Nat.le_of_not_lt
def C5:=@Int.le_trans
def C6:=@Nat.lt_succ_self
def C7:=@List.drop_length
def C8:=@List.all_cons
def C9:=@Nat.zero_add
def Ea:=@Nat.ne_of_gt
def Eb:=@List.mem_map
def Ec:=@List.mem_cons_self
def Ed:=@List.getElem?_take
def Ee:=@Nat.le_add_right
def Ef:=@wpAny_bind
def Eg:=@if_neg
def Eh:=@if_pos
def Ei:=@wpAny_pure
def Ej:=@wpS_bind
def Ek:=@wpS_pure
def Em:=@decide_eq_true
def Eo:=@of_decide_eq_true
def Ep:=@decide_eq_false
def Er:=@pure_bind
abbrev Es:=Value->Shared->Prop
abbrev Et:=List (Addr×Obj)
abbrev Eu:=Str->Option Value
abbrev Ew:=List (Int×Int)
abbrev Ex:=Addr->Prop
abbrev Ey:=List Addr
abbrev E1:=Int->Option Int
#where
namespace L2
open PySem PySem.Spec PyProof.Rows
abbrev Key:=Sum Int Str
def yV:Key->AD Value
 |.inl k,v=>Value.isInt k v
 |.inr x,v=>Value.isStrOf x v
def Qps(w:World):Key->Int
 |.inl k=>hashInt k
 |.inr x=>hashStr w x
def ZX:∀{k:Key}{v:Value},Ĝ (yV k v)->(∃i t,k=f7 i/\v=ah0 t)∨(∃x t,k=bT5 x/\v=au5 t)
  |.inl i,v,h=>eP t e (Value.isInt_shape (k:=i) (v:=v) h) (ê (Α i t e))
  |.inr x,v,h=>eP t e (Value.isStrOf_shape (x:=x) (v:=v) h) (Ğ (Α x t e))
def QgJ(i:Int)(t:Tok):Ĝ (yV (ê i) aE8):=ky yV Value.isInt
def QgK(x:Str)(t:Tok):Ĝ (yV (Ğ x) (.str x t)):=ky yV Value.isStrOf
def QmY(a b:Int):oX (f7 a:Key) (f7 b)=(a==b):=by
 by_cases e:a=b
 ·subst e;simp
 ·have h:¬ (f7 a:Key)=f7 b:=λ q=>e (Sum.inl.inj q);rw[Ep h];exact(pV e).symm
def Qm1(a b:Str):oX (bT5 a:Key) (bT5 b)=oX a b:=by
 by_cases e:a=b
 ·subst e;simp
 ·have h:¬ (bT5 a:Key)=bT5 b:=λ q=>e (Sum.inr.inj q);rw[Ep h,Ep e]
def QmZ(a:Int)(b:Str):ė (oX (f7 a:Key) (bT5 b)):=Ep (λ q=>aj7 q)
def Qm0(a:Str)(b:Int):ė (oX (bT5 a:Key) (f7 b)):=Ep (λ q=>aj7 q)
def Zv(prog:Program)(w:World):PySem.KeyKind prog w Key where
 is:=yV
 hash:=Qps w
 inj:=λ v a b n l=>by
  rcases ZX n with ⟨i,t,rfl,rfl⟩|⟨x,t,rfl,rfl⟩
  ·rcases ZX l with ⟨j,u,rfl,e⟩|⟨y,u,rfl,e⟩
   ·injection e with c _;rw[c]
   ·exact aj7 e
  ·rcases ZX l with ⟨j,u,rfl,e⟩|⟨y,u,rfl,e⟩
   ·exact aj7 e
   ·injection e with c _;rw[c]
 byValue:=λ k v h=>by rcases ZX h with ⟨i,t,rfl,rfl⟩|⟨x,t,rfl,rfl⟩<;>rfl
 pyHash:=λ f h=>by
  rcases ZX f with ⟨i,t,rfl,rfl⟩|⟨x,t,rfl,rfl⟩
  ·exact wpAny_pyHash_int h
  ·exact wpAny_pyHash_str h
 eqBool:=λ o f h=>by
  rcases ZX o with ⟨i,t,rfl,rfl⟩|⟨x,t,rfl,rfl⟩
  ·rcases ZX f with ⟨j,u,rfl,rfl⟩|⟨y,u,rfl,rfl⟩
   ·rw[QmY]at h;exact wpAny_eqBool_int h
   ·rw[QmZ]at h;exact SeqAt.EqAt.int_str i t y u _ _ _ _ h
  ·rcases ZX f with ⟨j,u,rfl,rfl⟩|⟨y,u,rfl,rfl⟩
   ·rw[Qm0]at h;exact SeqAt.EqAt.str_int x t j u _ _ _ _ h
   ·rw[Qm1]at h;exact wpAny_eqBool_str h
 «strs»:=λ k x t v h=>by
  rcases ZX h with ⟨i,u,rfl,e⟩|⟨y,u,rfl,e⟩
  ·exact aj7 e
  ·injection e with c _;subst c;cases v<;>rfl
def QbW(prog:Program)(w:World)(i:Int)(t:Tok):Ĝ ((Zv prog w).is (ê i) aE8):=QgJ i t
def QbX(prog:Program)(w:World)(x:Str)(t:Tok):Ĝ ((Zv prog w).is (Ğ x) (.str x t)):=QgK x t
inductive V where
 |non|bl (b:Bool)|int (i:Int)|str (x:Str)|byt (b:Array UInt8)|flt (b:UInt64)|ref (a:Addr)|ty (n:String)
 deriving DecidableEq
def RelV:V->Δ Value
 |.non,u=>u=Value.none
 |.bl b,u=>u=bq0 b
 |.int i,u=>∃t,u=ah0 t
 |.str x,u=>∃t,u=au5 t
 |.byt b,u=>∃t,u=Value.bytes b t
 |.flt b,u=>∃t,u=Value.float b t
 |.ref a,u=>u=Τ a
 |.ty n,u=>u=A0 n
abbrev Vals:Β->Δ ó:=Paired RelV
def Vals.length{xs:Β}{us:ó}(r:aZ8):ŕ=cG8:=PM r
def Vals.get:∀{xs:Β}{us:ó}{i:Nat}{x:V},aZ8->cv8->∃u,dC us u/\ϟ x
  |_,_,_,_,.nil,e=>c9 e
  |_,_,0,_,.cons r _,e=>by simp at e;subst e;exact ĸ _ r
  |_,_,i+1,x,.cons _ t,e=>ah1 u h1 h2 (Vals.get (i:=i) (x:=x) t cr9) (da u bj3 h2)
def Vals.set(r:ϟ x):∀{xs:Β}{us:ó}(i:Nat),aZ8->Vals (xs.set i x) (us.set i u)
 |_,_,_,.nil=>mT
 |_,_,0,.cons _ t=>fX r t
 |_,_,i+1,.cons q t=>fX q (Vals.set r i t)
def Vals.append:∀{xs ys:Β}{us a:ó},aZ8->bT7 a->Vals (xs++ys) (us++a)
 |_,_,_,_,.nil,s=>s
 |_,_,_,_,.cons r t,s=>fX r (Vals.append t s)
def Vals.take:∀{xs:Β}{us:ó}(n:Nat),aZ8->Vals (xs.take n) (us.take n)
 |_,_,0,_=>mT
 |_,_,_+1,.nil=>mT
 |_,_,n+1,.cons r t=>fX r (Vals.take n t)
def Vals.drop:∀{xs:Β}{us:ó}(n:Nat),aZ8->Vals (xs.drop n) (us.drop n)
 |_,_,0,r=>r
 |_,_,_+1,.nil=>mT
 |_,_,n+1,.cons _ t=>Vals.drop n t
def RelO:aU1->Δ mN
 |some v,some u=>ϟ v
 |none,none=>True
 |_,_=>False
def KV{κ:re}:cv9->Δ al4:=Paired λ(p:κ × V)(q:κ × Value)=>ϰ=q.1/\RelV PP q.2
def kV:Key->V
 |.inl i=>ng
 |.inr x=>aJ4
inductive HO where
  |lst (xs:Β)
  |tup (xs:Β)
  |dK (kvs:aU5)|dT (kvs:cW7)
  |set (S:bx1) (n:Nat)
  |ins (C dx:Addr) (fs:cR7)
  |own (x:Addr)
  |xd (fs:cR7)
  |met (f x:Addr)
  |rng (lo hi:Int)
  |frz (o:Obj) (u:HO)
  |tbl (ps:Ļ)
  |ext (φ:ay1)
abbrev Hp:=Addr->Ð HO
def upd(H:Hp)(a:Addr)(o:HO):Hp:=λ b=>aI8 (b=a) o (H b)
def Q0{a:Addr}:upd H a o a>=o:=Ż upd sj
def QP{H:Hp}{a b:Addr}(h:b≠a):upd H a o b=H b:=Ż upd (Eg h)
def QoI{H:Hp}{a b:Addr}{o u:HO}(h:F6>=o)(h':H b>=u)(d:o≠u):a≠b:=by intro e;subst e;rw[h]at h';exact d (Ak h')
def ZS{H:Hp}{a b:Addr}(h:F6>=o)(h':cb4):a≠b:=by intro e;subst e;rw[h]at h';cases h'
section
variable(P:Program)(w:World)
def ObjOk(H:Hp)(h:Heap)(a:Addr):Δ HO
 |.lst xs=>cQ8/\∃(b:ó) (n:Nat),au7 b/\ż a (cz4 b.toArray n)
 |.tup xs=>cQ8/\∃b:ó,au7 b/\IsTup h a b.toArray
 |.dK kvs=>ÿ Ϟ/\IO a/\∃vs,am0/\h.DictOf (Zv P w) a vs
 |.dT kvs=>ÿ Ϟ/\IO a/\∃xs:bn1,
   Paired (λ(p:List Key × V)(q:List Key × Addr × Value)=>ϰ=q.1/\H q.2.1>=(ñ (pc ϰ kV))/\RelV PP q.2.2) kvs xs /\
   ∃o es ep,ż a o/\o.ExactDict/\o.data=.dict es ep/\es.toList=A4 (entryOfKey (au8 P w))/\aL9 cU4
 |.set S n=>h.SetOf (intKind P w) a S n
 |.ins C e fs=>H e>=(.own a)/\aF1<=FI/\e≠a/\ż a (bq4 e) /\
   ∃c,h.Ns1 e c/\(∀f,RelO cc7 (c f))/\PySem.Within c (au9)
 |.own _=>∃o,ż a o
 |.xd fs=>∃c,h.Ns1 a c/\∀f,RelO cc7 (c f)
 |.rng lo hi=>∃t u v,ż a (aZ3 Η #[LI lo,cS9,fj 1 v])
 |.frz o u=>ż a o/\ObjOk H h a u
 |.tbl ps=>ż a (Ϗ cls bE (ni ps))
 |.met f x=>ż a (aM0 ↑x)
 |.ext φ=>φ h/\(∃o,ż a o)/\∀h1 h2:Heap,φ h1->(∀o,h1.get? a>=o->h2.get? a>=o)->φ h2
def HOk(H:Hp)(h:Heap):Û:=∀a o,F6>=o->aF2 w H h a o
#where
section
variable{P:Program}{w:World}{H H':Hp}{h h':Heap}{a:Addr}{o:HO}
def ObjOk.lt(x:aF2 w H h a o):bU3 a:=by
 cases o with
 |lst xs=>obtain⟨_,_,_,_,e⟩:=x;exact AJ
 |tup xs=>obtain⟨_,_,_,p⟩:=x;exact p.lt
 |dK kvs=>obtain⟨_,_,_,_,o,_,_,e,_⟩:=x;exact AJ
 |dT kvs=>obtain⟨_,_,_,_,o,_,_,e,_⟩:=x;exact AJ
 |set S n=>obtain⟨o,_,_,_,e,_⟩:=x;exact AJ
 |ins C b fs=>obtain⟨_,_,_,e,_⟩:=x;exact AJ
 |own y=>obtain⟨_,e⟩:=x;exact AJ
 |xd fs=>obtain⟨_,⟨_,_,_,e,_⟩,_⟩:=x;exact AJ
 |rng lo hi=>obtain⟨_,_,_,e⟩:=x;exact AJ
 |frz c u=>obtain⟨e,_⟩:=x;exact AJ
 |tbl ps=>exact Ap (Ý (ż a _) x)
 |met f y=>exact Ap (Ý (ż a _) x)
 |ext φ=>obtain⟨_,⟨_,e⟩,_⟩:=x;exact AJ
def Paired.mapP{α β:re}{F G:α->Δ β}:∀{l₁:To}{l₂:Ã β},Paired F l₁ l₂->(∀a b,F a b->G a b)->Paired G l₁ l₂
 |_,_,.nil,_=>mT
 |_,_,.cons r t,f=>fX (f _ _ r) (Paired.mapP t f)
def ObjOk.stay(x:aF2 w H h a o)(k:∀b u,(b=a∨H b>=(.own a))->ż b u->Pi u)
    (ho:∀b,H b>=(.own a)->ag3>=(.own a)) (ht:∀b xs,H b>=LE->ag3>=LE):aF2 w H' h' a o:=by
  induction o with
  |lst xs=>obtain⟨z,j,n,r,e⟩:=x;exact⟨z,j,n,r,k _ _ ı e⟩
  |tup xs=>obtain⟨z,j,r,i,e,c⟩:=x;exact⟨z,j,r,i,k _ _ ı e,c⟩
  |dK kvs=>obtain⟨z,y,vs,r,i,es,ep,e,c⟩:=x;exact⟨z,y,vs,r,i,es,ep,k _ _ ı e,c⟩
  |dT kvs=>obtain⟨z,y,xs,r,i,es,ep,e,c⟩:=x;exact⟨z,y,xs,Paired.mapP r λ p q z=>da z.1 (ht _ _ OB.1) OC,i,es,ep,k _ _ ı e,c⟩
  |set S n=>obtain⟨i,es,ep,t,e,c⟩:=x;exact⟨i,es,ep,t,k _ _ ı e,c⟩
  |ins C O fs=>obtain⟨d,z,ne,e,l,⟨F,es,ep,J,c⟩,r⟩:=x;exact⟨ho _ d,z,ne,k _ _ ı e,l,⟨F,es,ep,k _ _ (Ğ d) J,c⟩,r⟩
  |own y=>obtain⟨i,e⟩:=x;exact Ĭ i (k _ _ ı e)
  |xd fs=>obtain⟨l,⟨F,es,ep,e,c⟩,r⟩:=x;exact da l ⟨F,es,ep,k _ _ ı e,c⟩ r
  |rng lo hi=>obtain⟨t,u,v,e⟩:=x;exact Nc t u v (k _ _ ı e)
  |frz i u L=>obtain⟨e,q⟩:=x;exact Ĭ (k _ _ ı e) (L q)
  |tbl ps=>have e:ż a (Ϗ cls bE (ni ps)):=x;show ķ a (Ϗ cls bE (ni ps));exact k a _ ı e
  |met f y=>have e:ż a (aM0 ↑y):=x;show ķ a (aM0 ↑y);exact k a _ ı e
  |ext φ=>obtain⟨p,⟨o,e⟩,I⟩:=x;exact da (I _ _ p λ o q=>k _ _ ı q) (Ĭ o (k _ _ ı e)) I
def HOk.lt(x:bF1)(e:F6>=o):bU3 a:=(x a o e).lt
def HOk.fresh(x:bF1)(e:h.objs.size<=a):ū a:=by
 cases q:F6 with
 |none=>rfl
 |some u=>exact cx6 (x.lt q) e
def HOk.kept(x:bF1)(k:∀b u,ż b u->Pi u):bF0 h':=λ a o e =>
 (x a o e).stay (λ b u _ q=>k b u q) (λ_ q=>q) cg2
def HOk.laid(x:bF1)(k:∀b u,ż b u->Pi u)(hp:h.objs.size<=a)(new:aF2 w (TB o) h' a o):bE9 (TB o) h':=λ b u e=>by
 have i:=x.fresh hp;by_cases f:b=a
 ·subst f;rw[Q0]at e;cases e;exact new
 ·rw[QP f]at e;exact(x b u e).stay (λ c v _ q=>k c v q) (λ c q=>aZ9 q i q) λ c xs q=>aZ9 q i q
#where
def Rd(H:Hp)(a:Addr)(u:HO):Û:=F6>=u∨∃o,F6>=(.frz o u)
def Rd.ok{w:World}{a:Addr}(r:Rd H a u)(x:bF1):aF2 w H h a u:=by
 rcases r with r|⟨o,r⟩
 ·exact x a u r
 ·obtain⟨_,q⟩:=x a _ r;exact q
def Mut:Δ (Ð HO)
 |some (.lst _)=>True
 |some (.dK _)=>True
 |some (.dT _)=>True
 |some (.set _ _)=>True
 |some (.ins _ _ _)=>True
 |some (.ext _)=>True
 |_=>False
section
variable{P:Program}{w:World}{H:Hp}{h h':Heap}{x e:Addr}{o':HO}
def HOk.write(ok:bF1)(mu:Mut (H x))(o:e=x∨H e>=(.own x))(k:∀b u,b≠e->ż b u->Pi u)(n:∃u,ķ e u)
  (new:aF2 w (Ŝ x o') h' x o'):bE9 (Ŝ x o') h':=λ b u q=>by
 have f:∀c y,H c>=(.own y)->c≠x:=λ c y r z=>ae8 z r mu
 have i:∀c xs,H c>=LE->c≠x:=λ c xs r z=>ae8 z r mu
 by_cases j:b=x
 ·subst j;rw[Q0]at q;cases q;exact new
 ·rw[QP j]at q;by_cases a:b=e
  ·have t:H b>=(.own x):=by
    rcases o with z|z
    ·exact ď (a.trans z) j
    ·rw[a];exact z
   rw[q]at t;cases t;obtain⟨v,C⟩:=n;exact Ĭ v (Å a C)
  ·refine(ok b u q).stay (λ c v l r=>k c v ?_ r) (λ c r=>iL (f c b r) r) λ c xs r=>iL (i c xs r) r
   rcases l with rfl|l
   ·exact a
   ·rintro rfl;rcases o with z|z
    ·exact f c b l z
    ·rw[l]at z;cases z;exact j rfl
#where
structure Un(fs ex:Ey)(H H':Hp)(h h':Heap):Û where
 keep:∀b o,ż b o->cb4->b∉fs->b∉ex->Pi o
 slot:∀b o,ż b o->cb4->b∈fs->b∉ex->∃sl,Pi (î o slots sl)
 free:∀b o,ż b o->cb4->b∉ex->bd1
 there:∀b o,ż b o->b∉ex->∃o',Pi o'
 tups:∀b xs,H b>=LE->ag3>=LE
 frzs:∀b o u,H b>=(.frz o u)->ag3>=(.frz o u)
 tbls:∀b ps,H b>=(.tbl ps)->∃more,ag3>=(.tbl (ps++more))
section
variable{fs fs' ex ex':Ey}{H H1 H2:Hp}{h h1 h2 h':Heap}{a x e:Addr}{o:HO}
def Un.any(u:Un fs ex H H1 h h1){b:Addr}{c:Obj}(q:ż b c)(n:cb4)(hx:b∉ex):∃i,bq5>=(î c slots i):=by
 by_cases f:b∈fs
 ·exact u.slot b c q n f hx
 ·exact Ĭ c.slots (u.keep b c q n f hx)
def Un.kept(k:∀b u,ż b u->Pi u):Un fs ex H H h h' :=
 ⟨λ b c q _ _ _=>k b c q,λ b c q _ _ _=>Ĭ c.slots (k b c q),λ_ _ _ n _=>n,λ b c q _=>Ĭ c (k b c q),cg2,EJ q q,λ_ ps q=>Ĭ Nl (Ŷ q)⟩
def Un.refl:Un fs ex H H h h:=Un.kept cg2
def Un.laid(k:∀b u,ż b u->Pi u)(hp:h.objs.size<=a)(c:ū a):Un fs ex H (TB o) h h' where
 keep:=λ b u q _ _ _=>k b u q
 slot:=λ b u q _ _ _=>Ĭ u.slots (k b u q)
 free:=λ b u q n _=>iL (aM2 (Ap q) hp) n
 there:=λ b u q _=>Ĭ u (k b u q)
 tups:=λ b xs q=>aZ9 q c q
 frzs:=λ b u xs q=>aZ9 q c q
 tbls:=λ b ps q=>Ĭ Nl (bF3 (QP (ZS q c)) q)
def Un.write(mu:Mut (H x))(l:e=x∨H e>=(.own x))(k:∀b u,b≠e->ż b u->Pi u)(f:∃u,ķ e u):Un fs ex H (Ŝ x o) h h':=by
 have hx:∀b,cb4->b≠x:=λ b n z=>ae8 z n mu
 have j:∀b,cb4->b≠e:=λ b n z=>by
  subst z;rcases l with r|r
  ·exact hx b n r
  ·rw[n]at r;cases r
 have i:∀b u,H b>=u->¬ Mut (è u)->b≠x:=λ b u q nm z=>ae8 z q (nm mu)
 refine⟨λ b u q n _ _=>k b u (j b n) q,λ b u q n _ _=>Ĭ u.slots (k b u (j b n) q),λ b u q n _=>iL (hx b n) n,λ b u q _=>?_,
  λ b xs q=>iL (i b _ q λ z=>z) q,λ b u xs q=>iL (i b _ q λ z=>z) q,λ b ps q=>Ĭ Nl (bF3 (QP (i b _ q λ z=>z)) q)⟩
 by_cases c:b=e
 ·subst c;exact f
 ·exact Ĭ u (k b u c q)
#where
def trk(h:Heap)(H:Hp):bu5:=IP aZ0 (λ a=>aq8 F6)
def kP(h:Heap)(H:Hp):Heap:=PySem.W.hideAll h (trk h H)
def QgF(h:Heap)(H:Hp):l8 (kP h H)=h.objs.size:=PySem.W.hideAll_size _ _
def Qir{h:Heap}{H:Hp}{b:Addr}(e:ż b o)(n:cb4):(kP h H).get? b>=o :=
 PySem.W.hideAll_get _ e λ a=>by have q:tF (H b):=ah2 a;rw[n]at q;simp at q
def Qle{h:Heap}{H:Hp}{b:Addr}(e:(kP h H).get? b>=o):ż b o/\cb4:=by
  have a:ż b o:=PySem.W.of_hideAll (trk h H) e;refine CB a;cases q:H b with
  |none=>rfl
  |some x=>have c:b∈trk h H:=Bm.mpr (Ĭ (Cg.mpr (Ap a)) (ą q));have z:Ū ((kP h H).get? b):=PySem.W.hideAll_none (trk h H) c;rw[z]at e;cases e
def gP(g h:Heap)(L:Addr):E3:=(aZ0).filterMap λ a=>Af (a=L∨tF (cz8 a)) (NM (h.get? a) o (a,o))
def GJ{g h:Heap}{L:Addr}{p:Addr × Obj}(hp:p∈gP g h L):ϰ≠L/\Ū (cz8 ϰ)/\ż ϰ PP:=by
  obtain⟨b,_,e⟩:=bP1;split at e
  . cases e
  . rename_i a
    cases q:h.get? b with
    |none=>rw[q]at e;simp at e
    |some u =>
      rw[q]at e;simp only[Option.map_some,Option.some.injEq]at e;subst e;refine da (λ z=>a (ê z)) ?_ q;show Ū (cz8 b);cases r:cz8 b with
      |none=>rfl
      |some v=>exact(a (Ğ (ą r))).elim
def rest(g h:Heap)(L d:Addr):E3:=IP (gP g h L) (λ p=>ce8 d)
def QiS{L:Addr}:News g L h (gP g h L):=λ p hp=>aq9 a b c (GJ hp) c a b
structure Mod(K:Aa)(mg:Eu)(O8:Heap):Û where
 kin:K.In O8
 glob:ab0 mg
 blt:∃mb,O8.Ns builtinsNs mb/\∀x:Str,Nd x -> mb x=IR
 nolimit:O8.NoLimit
structure Cx where
 prog:Program
 w:World
 K:Aa
 mg:Str->mN
 O8:Heap
 A:Around
 N:cr
 s₀:Shared
 H₀:Hp
 env:Env
 outer:Lu
 stack:Lu
 ex:bu5
 fn:AD Str
 calm:Bool
 pn:E3
 xe:Fn Ε
def frs(l:Lu):bu5:=l.filterMap (·.frame)
abbrev Cx.fs(X:Cx):bu5:=frs X.outer
def Vis(a:Scope)(x:Str):Û:=LU>=oB∨LU>=aF6∨LU>=be3
def Loc(a:Scope)(x:Str):Û:=LU>=oB∨LU>=aF6
def Qpl(env:Env)(h:Heap)(m:Eu)(x:Str)(u:Value):Û :=
 (cn0>=oB/\m x>=u)∨((cn0>=aF6∨cn0>=be3)/\∃c,env.cells.lookup x>=c/\h.IsCell c (è u))
structure Cx.Ok(X:Cx):Û where
 mod:Mod X.K X.mg X.O8
 kind:X.env.scope.kind=aM3
 glob:X.env.globals=mainGlobals
 blt:X.env.builtins=builtinsNs
 above:db X.env.locals
 inj:∀x y c,Ĳ x c->Ĳ y c->x=y
 has:∀x,(ac0 x>=aF6∨ac0 x>=be3)->∃c,Ĳ x c
 cab:∀x c,EW x->Ĳ x c->db c
 hd:ϙ->bL3
 frames:X.A.frames>=X.stack
 stk:X.stack=X.outer∨(X.stack=X.env::X.outer/\X.env.frame>=X.env.locals)
 exf:∀b∈X.ex,fA b/\∀x c,Ĳ x c->c≠b
 bs:∀b o,aF7>=o->aM6>=o/\Ū (X.H₀ b)
 bsz:X.O8.objs.size<=X.s₀.heap.objs.size
 noex:∀b o,aF7>=o->b∉X.ex
 exfs:∀b∈X.ex,b∉X.fs
 funs:ch5 X.outer
 frf:∀b∈X.fs,Ū (X.H₀ b)
structure Inv(X:Cx)(O9:Et)(σ:Ã aU1)(H:Hp)(s:Shared):Û where
 ok:X.Ok
 os:s.os=X.s₀.os
 bare:AllBare s.gens
 O8:Un X.fs X.ex X.H₀ H X.s₀.heap s.heap
 loc:∃m,s.heap.Ns X.env.locals m/\bq7 i x Str v V (ay9->dC σ Oa->Rs x->∃u,ϟ v/\Qpl X.env s.heap m x u)
 cell:∀x c,Ĳ x c->∃v,s.heap.IsCell c v
 free:ū X.env.locals
 freeC:∀x c,Ĳ x c->ū c
 pin:∀p∈X.pn++O9,ô ϰ PP/\ū ϰ/\fA ϰ/\ϰ∉X.fs/\∀v,(PP).data≠.cell v
 hok:by6 X.w H s.heap
 len:⇑σ=⇑X.N
section
variable{X:Cx}{O9:Et}{σ:Ã aU1}{H H':Hp}{s:Shared}{h':Heap}
def Cx.Ok.nofr(ok:X.Ok){b:Addr}(e:aF7>=o):b∉X.fs:=λ a=>by have:=(ok.funs.mem a).1;rw[e]at this;cases this
def Inv.bs(I:Ϝ):∀b o,aF7>=o->bo6/\cb4:=λ b o e =>
 Ĭ (I.O8.keep b o (I.ok.bs b o e).1 (I.ok.bs b o e).2 (I.ok.nofr e) (I.ok.noex b o e)) (I.O8.free b o (I.ok.bs b o e).1 (I.ok.bs b o e).2 (I.ok.noex b o e))
def Inv.bk(I:Ϝ):∀b o,aF7>=o->bo6:=λ b o e=>(I.bs b o e).1
def Inv.mod(I:Ϝ):Mod X.K X.mg X.O8:=I.ok.mod
def Inv.kIn(I:Ϝ):X.K.In s.heap:=I.ok.mod.kin.keeps I.bk
def Inv.fr(I:Ϝ):∃m,Fr X.O8 X.env.locals s.heap m :=
 let ⟨m,a,_⟩:=I.loc
 Nc m a I.bk (Bj I.ok.bsz I.ok.above)
def Inv.lt(I:Ϝ):EI X.env.locals:=let ⟨_,a,_⟩:=I.loc;a.lt
def Inv.sz(I:Ϝ):db s.heap.objs.size:=Bj I.ok.above (aF8 I.lt)
def Inv.nofs(I:Ϝ){a:Addr}(h:aa9 a):a∉X.fs:=λ b=>by obtain⟨_,o,c,_⟩:=I.ok.funs.mem b;exact cx6 (Ap c) (Bj I.sz h)
def Inv.cne(I:Ϝ):∀x c,Ĳ x c->fA c:=λ x c e z=>by obtain⟨v,o,f,hd⟩:=cz9 x e;obtain⟨m,⟨o',es,ep,b,a,_⟩,_⟩:=I.loc;rw[z,b]at f;cases f;rw[a]at hd;cases hd
def Inv.funs(I:Ϝ):aF9 X.outer:=by
  have all:∀(l:Lu),bd2 (frs l) (b∈X.fs)->ch5 l->aF9 l:=by
    intro l;induction l with
    |nil=>intro _ _;trivial
    |cons env r u=>intro f i;obtain⟨h,⟨L,o,hf,j,n,hd⟩,t⟩:=i;have a:L∈X.fs:=f L (bq8 frs List.filterMap_cons hf Ec);obtain⟨v,e⟩:=I.O8.slot L o n (I.ok.frf L a) a λ z=>I.ok.exfs L z a;exact da h ⟨L,_,hf,j,e,hd⟩ (u (λ b c=>f b (bq8 frs List.filterMap_cons hf (ch6 c))) t)
  exact all X.outer (λ_ c=>c) I.ok.funs
def Inv.stack(I:Ϝ):aF9 X.stack:=by
 rcases I.ok.stk with e|⟨e,hf⟩
 ·rw[e];exact I.funs
 ·rw[e];obtain⟨m,a,_⟩:=I.loc;refine .cons (be4 I.ok.kind) hf a ?_ I.funs;exact Heap.get?_none_of_le (Bj I.ok.bsz I.ok.above)
def Inv.stkSub(I:Ϝ):∀b∈av3,b∈X.env.locals::X.fs:=λ b a=>by
 rcases I.ok.stk with e|⟨e,hf⟩
 ·rw[e]at a;exact ch6 a
 ·rw[e]at a;unfold frs at a;rw[List.filterMap_cons,hf]at a;exact a
def Inv.stkFree(I:Ϝ):∀b∈av3,cb4:=λ b a=>by
 rcases Nm (I.stkSub b a)with e|a
 ·rw[e];exact I.free
 ·obtain⟨_,o,c,_⟩:=I.ok.funs.mem a;exact I.O8.free b o c (I.ok.frf b a) λ z=>I.ok.exfs b z a
def Inv.step{g':Array GenState}{t':Nat}{d':Drawn}{ch:Ey}(I:Ϝ)
  (hch:∀b∈ch,(b∈X.ex∨db b)/\fA b/\(∀x c,Ĳ x c->c≠b)/\∀p∈X.pn++O9,ϰ≠b)
  (keep:∀b o,fA b->b∉X.fs->b∉ch->bo6->cb4->Pi o)
  (slot:∀b o,fA b->b∈X.fs->b∉ch->bo6->cb4->∃F,Pi (î o slots F)) (free:∀b o,b∉ch->bo6->cb4->bd1)
  (there:∀b o,b∉ch->bo6->∃o',Pi o')
  (tups:∀b xs,H b>=LE->ag3>=LE) (frzs:∀b o u,H b>=(.frz o u)->ag3>=(.frz o u)) (tbls:∀b ps,H b>=(.tbl ps)->∃more,ag3>=(.tbl (ps++more)))
  (ns:∀m,s.heap.Ns X.env.locals m->h'.Ns X.env.locals m) (hok:by6 X.w H' h') (hg:AllBare g') :
  cb1 { s with heap:=h',gens:=g',drawn:=d',toks:=t' }:=by
 have C:∀b o,aM6>=o->fA b:=λ b o e=>aV0 AJ;have h:∀b o,aM6>=o->b∉X.ex->b∉ch:=λ b o e hx j=>by
  rcases(hch b j).1 with z|z
  ·exact hx z
  ·exact cx6 AJ z
 have cellK:∀x c,Ĳ x c->∀v,s.heap.IsCell c v->h'.IsCell c v:=λ x c e v ⟨o,t,hd⟩=>by
  have a:c∉ch:=λ z=>(hch c z).2.2.1 x c e rfl;by_cases L:c∈X.fs
  ·obtain⟨F,q⟩:=slot c o (I.cne x c e) L a t (I.freeC x c e);exact cK6 q hd
  ·exact da o (keep c o (I.cne x c e) L a t (I.freeC x c e)) hd
 refine⟨I.ok,I.os,hg,⟨bF5 b o e n j hx,bF5 b o e n j hx,TZ b o e n hx,nL b o e hx,λ b xs e=>tups b xs (I.O8.tups b xs e),λ b o xs e=>frzs b o xs (I.O8.frzs b o xs e),Ł b ps e⟩,?_,Ł x c e,?_,Ł x c e,Ź p hp,hok,I.len⟩
 ·exact keep b o (C b o e) j (h b o e hx) (I.O8.keep b o e n j hx) (I.O8.free b o e n hx)
 ·obtain⟨F,f⟩:=I.O8.slot b o e n j hx;obtain⟨J,y⟩:=slot b _ (C b o e) j (h b o e hx) f (I.O8.free b o e n hx);exact Ĭ J y
 ·obtain⟨o',f⟩:=cn1 b o e;exact free b o' (h b o e hx) f (I.O8.free b o e n hx)
 ·obtain⟨o',f⟩:=cn1 b o e;exact there b o' (h b o e hx) f
 ·obtain⟨m1,f⟩:=I.O8.tbls b ps e;obtain⟨R,y⟩:=tbls b _ f;exact Ĭ (m1++R) (Ξ y Array.append_assoc)
 ·obtain⟨m,Q,P⟩:=I.loc;refine da m (ns m Q) (bF5 i x v f y O);obtain⟨u,r,l⟩:=P i x v f y O;refine AB u r;rcases l with l|⟨k,c,e,z⟩
  ·exact ê l
  ·exact ax6 k c e (cellK x c e _ z)
 ·obtain⟨v,z⟩:=cz9 x e;exact Ĭ v (cellK x c e v z)
 ·obtain⟨m,⟨o,_,_,t,_⟩,_⟩:=I.loc;exact free _ o (λ z=>(hch _ z).2.1 rfl) t I.free
 ·obtain⟨v,o,t,hd⟩:=cz9 x e;exact free c o (λ z=>(hch c z).2.2.1 x c e rfl) t (I.freeC x c e)
 ·obtain⟨e,n,ne,nf,d⟩:=cn2 hp;have a:ϰ∉ch:=λ z=>(hch ϰ z).2.2.2 p hp rfl;exact⟨keep ϰ PP ne nf a e n,free ϰ PP a e n,ne,nf,d⟩
def Inv.un{t':Nat}(I:Ϝ)(u:Un X.fs [] H H' s.heap h')(hok:by6 X.w H' h'):cb1 ck4:=by
 obtain⟨m,⟨o,es,ep,i,r⟩,_⟩:=id I.loc;obtain⟨x,j⟩:=u.any i I.free Ê;exact I.step (g':=s.gens) (d':=s.drawn) (ch:=[]) (λ_ z=>aj7 z) (λ b o _ h _ e n=>u.keep b o e n h Ê) (λ b o _ h _ e n=>u.slot b o e n h Ê) (λ b o _ e n=>u.free b o e n Ê) (λ b o _ e=>u.there b o e Ê) u.tups u.frzs u.tbls (λ v l=>by obtain⟨o',f,c,a,t⟩:=l;rw[i]at a;cases a;exact⟨_,f,c,j,t⟩) hok I.bare
def Inv.call{g':Array GenState}{t':Nat}{d':Drawn}(I:Ϝ)(u:Un av3 ch H H' s.heap h')(hok:by6 X.w H' h')(v:AllBare g')
  (hch:∀b∈ch,(b∈X.ex∨db b)/\fA b/\(∀x c,Ĳ x c->c≠b)/\∀p∈X.pn++O9,ϰ≠b) :
  cb1 { s with heap:=h',gens:=g',drawn:=d',toks:=t' }:=by
 obtain⟨m,⟨o,es,ep,l,r⟩,_⟩:=id I.loc;obtain⟨J,j⟩:=u.any l I.free λ z=>(hch _ z).2.1 rfl;exact I.step (ch:=ch) hch (λ b o j t a e n=>u.keep b o e n (λ z=>(Nm (I.stkSub b z)).elim j t) a) (λ b o _ _ a e n=>u.any e n a) (λ b o a e n=>u.free b o e n a) (λ b o a e=>u.there b o e a) u.tups u.frzs u.tbls (λ F y=>by obtain⟨o',i,h,f,C⟩:=y;rw[l]at f;cases f;exact⟨_,i,h,j,C⟩) hok v
def Inv.turned{t':Nat}{a:Addr}(I:Ϝ)(k:∀b o,b≠a->bo6->Pi o)(t:ū a)(i:fA a)
  (h1:a∈X.ex∨db a) (h2:∀x c,Ĳ x c->c≠a) (h3:∀p∈X.pn++O9,ϰ≠a):Ŵ ck4:=by
 have h:∀b u,H b>=u->b≠a:=λ b u e z=>by rw[z,t]at e;cases e
 refine I.step (g':=s.gens) (d':=s.drawn) (ch:=[a]) (Ź b j) (λ b o _ _ f e _=>k b o (λ z=>f (ą z)) e) (λ b o _ _ f e _=>Ĭ o.slots (k b o (λ z=>f (ą z)) e)) (λ_ _ _ _ n=>n)
  (λ b o f e=>Ĭ o (k b o (λ z=>f (ą z)) e)) (λ_ _ e=>e) (EJ e e) (λ b ps e=>Ĭ Nl (Ŷ e)) (Ź m l) (Ł b u e) I.bare
 ·have e:b=a:=Ä j
  subst e;exact Nc h1 i h2 h3
 ·obtain⟨o,es,ep,y,r⟩:=l;exact⟨o,es,ep,k _ o (Ş i) y,r⟩
 ·refine(I.hok b u e).stay (λ c v f q=>k c v ?_ q) (λ_ q=>q) cg2;rcases f with z|z
  ·rw[z];exact h b u e
  ·exact h c _ z
def Inv.tok(I:Ϝ)(t:Nat):Ŵ (ca4 s t):=I.un (h':=s.heap) (t':=t) Un.refl I.hok
def Inv.kept{t':Nat}(I:Ϝ)(k:∀b u,bo5 u->Pi u):Ŵ ck4:=I.un (Un.kept k) (I.hok.kept k)
def Inv.laid{a:Addr}{t':Nat}(I:Ϝ)(k:∀b u,bo5 u->Pi u)(hp:aa9 a)(new:aF3 X.w (TB o) h' a o):
  Ŋ (TB o) ck4:=I.un (Un.laid k hp (nt hp)) (I.hok.laid k hp new)
def Inv.write{x e:Addr}{o:HO}{t':Nat}(I:Ϝ)(mu:Mut (H x))(c:e=x∨H e>=(.own x))(k:∀b u,b≠e->bo5 u->Pi u)(a:∃u,ķ e u)
  (new:aF3 X.w (Ŝ x o) h' x o):Ŋ (Ŝ x o) ck4:=I.un (Un.write mu c k a) (I.hok.write mu c k a new)
def Inv.pins_of(I:Ϝ)(h:∀p∈pins',ô ϰ PP/\ū ϰ/\fA ϰ/\ϰ∉X.fs/\∀v,(PP).data≠.cell v):cD0 pins' :=
 ⟨I.ok,I.os,I.bare,I.O8,I.loc,I.cell,I.free,I.freeC,λ p hp=>(sN hp).elim (λ z=>cn2 (A7 _ z)) (h p),I.hok,I.len⟩
def Mn{N:cr}(hN:N.Nodup){i j:Nat}{x:Str}(a:EB N)(b:N[j]?>=x):i=j:=aE2 h1 c a h2 e (Ac.mp b) ((List.getElem_inj hN).mp (c.trans e.symm))
def gH{M:Model}{A:Around}{E:Es}{i:Nat}{x:Str}{Q:cl0}(I:Ϝ)(hN:X.N.Nodup)(hi:ay9)(hx:iP x)(r:ϟ v)
  (h:∀s',Inv X O9 cF1 H s'->(∃a,cV2 a s'.heap/\(a=X.env.locals∨Ĳ x a))->Q () s') (hf:EW x∨cY6:=by first|exact ı|exact Ty|assumption):wpAny M A (cH9 x u) Q E s:=by
 obtain⟨m,hn,hl⟩:=id I.loc;have Y:ė (X.env.scope.kind==.class||(X.env.scope.kind==.module&&X.env.locals != X.env.globals)):=û I.ok.kind
 have hiσ:i<⇑σ:=Å I.len (Ω hi)
 have cne:=I.cne;have tracked:∀{a:Addr}{h':Heap},(∃o,ô a o/\ū a)->cV2 a h'->by6 X.w H h':=λ{a h'} ha f b ob e=>by
  obtain⟨_,_,C⟩:=ha;refine(I.hok b ob e).stay (λ c w' t q=>å (f.2 c ?_) q) (λ_ q=>q) cg2;rintro rfl;rcases t with rfl|t
  ·rw[C]at e;cases e
  ·rw[C]at t;cases t
 rcases hx with J|J
 ·refine wpAny_storeName_local J hn (Ł h' ad f) Y;obtain⟨oL,_,_,ae,_⟩:=id hn;refine h _ ⟨I.ok,I.os,I.bare,⟨bF5 b o e n L hx,bF5 b o e n L hx,I.O8.free,nL b o e hx,I.O8.tups,I.O8.frzs,I.O8.tbls⟩,cK6 ad (bF5 j y v' l F e3),Ł y c e,I.free,I.freeC,Ź p hp,tracked (da oL ae I.free) f,Ä I.len⟩ (cK6 f ı)
  ·exact å (f.2 b (aV0 AJ)) (I.O8.keep b o e n L hx)
  ·obtain⟨sl,l⟩:=I.O8.slot b o e n L hx;exact Ĭ sl (å (f.2 b (aV0 AJ)) l)
  ·obtain⟨o',l⟩:=cn1 b o e;exact Ĭ o' (å (f.2 b (aV0 AJ)) l)
  ·by_cases P:j=i
   ·subst P;rw[hi]at l;cases l;rw[Au hiσ]at F;cases F;exact da u r (n5 J Ê)
   ·rw[n9 P]at F;obtain⟨u',r',q⟩:=hl j y v' l F e3;refine AB u' r';rcases q with ⟨k,e⟩|⟨k,c,e,z⟩
    ·refine n5 k ?_;have:y≠x:=λ e=>P (Mn hN l (e▸hi));simp[this,e]
    ·exact ax6 k c e (z.sameBut f (cne y c e))
  ·obtain⟨w',z⟩:=cz9 y e;exact Ĭ w' (z.sameBut f (cne y c e))
  ·obtain⟨e,n,ne,nf,d⟩:=cn2 hp;exact⟨å (f.2 ϰ ne) e,n,ne,nf,d⟩
 ·have O:EW x:=by
   rcases hf with z|z
   ·exact z
   ·rw[z]at J;cases J
  obtain⟨c,t⟩:=I.ok.has x (ê J);obtain⟨w',z⟩:=cz9 x t;refine wpAny_storeName_cell I.ok.kind J t z (Ł h' R f);obtain⟨oc,a8,a9⟩:=id z;refine h aE0 ⟨I.ok,I.os,I.bare,⟨bF5 b o e n L hx,bF5 b o e n L hx,I.O8.free,nL b o e hx,I.O8.tups,I.O8.frzs,I.O8.tbls⟩,da m (hn.sameBut f (Ş (cne x c t))) (bF5 j y v' l F e3),Ł y c' e,I.free,I.freeC,Ź p hp,tracked (da oc a8 (I.freeC x c t)) f,Ä I.len⟩ (da c f (Ğ t))
  ·exact å (f.2 b (aM2 AJ (I.ok.cab x c O t))) (I.O8.keep b o e n L hx)
  ·obtain⟨sl,l⟩:=I.O8.slot b o e n L hx;exact Ĭ sl (å (f.2 b (aM2 AJ (I.ok.cab x c O t))) l)
  ·obtain⟨o',l⟩:=cn1 b o e;exact Ĭ o' (å (f.2 b (aM2 AJ (I.ok.cab x c O t))) l)
  ·by_cases P:j=i
   ·subst P;rw[hi]at l;cases l;rw[Au hiσ]at F;cases F;exact da u r (ax6 (ê J) c t R)
   ·rw[n9 P]at F;obtain⟨u',r',q⟩:=hl j y v' l F e3;refine AB u' r';rcases q with q|⟨k,c',e,z'⟩
    ·exact ê q
    ·refine ax6 k c' e (z'.sameBut f ?_);rintro rfl;exact P (Mn hN l (I.ok.inj _ _ _ e t▸hi))
  ·by_cases U:c'=c
   ·subst U;exact Ĭ _ R
   ·obtain⟨w2,z2⟩:=I.cell y c' e;exact Ĭ w2 (z2.sameBut f U)
  ·obtain⟨e,n,ne,nf,d⟩:=cn2 hp;refine⟨å (f.2 ϰ ?_) e,n,ne,nf,d⟩;intro q;rw[q,a8]at e;have q':oc=PP:=Ak e;exact d w' (æ q' a9)
def vp{M:Model}{A:Around}{E:Es}{i:Nat}{x:Str}{Q:cl0}(I:Ϝ)(hN:X.N.Nodup)(hi:ay9)(hx:iP x)(r:ϟ v)
  (h:∀s',Inv X O9 cF1 H s'->Q () s') (hf:EW x∨cY6:=by first|exact ı|exact Ty|assumption):wpAny M A (cH9 x u) Q E s :=
 gH I hN hi hx r (λ s' I' _=>h s' I') hf
def Inv.call'{s':Shared}(I:Ϝ)(f:s'.os=s.os)(u:Un av3 ch H H' s.heap s'.heap)(hok:by6 X.w H' s'.heap)(a:ad0)
  (hch:∀b∈ch,(b∈X.ex∨db b)/\fA b/\(∀x c,Ĳ x c->c≠b)/\∀p∈X.pn++O9,ϰ≠b):cb2:=by
 obtain⟨h',g',d',t',o'⟩:=s';have e:o'=s.os:=f;subst e;exact I.call (g':=g') (t':=t') (d':=d') u hok a hch
#where
abbrev XK:=Fn (OK->eK)
abbrev St:=Ã aU1
abbrev VK:=V->eK
abbrev TE:=St->Hp->tM
abbrev TT:=St->Hp->Δ bD7
abbrev TA:=St->Hp->Δ (Β->eK)
structure KB where
 nx:St->eK
 rt:VK
 bk:St->eK:=py
 ct:St->eK:=py
abbrev TS:=KB->St->eK
def EP(X:Cx)(a:Et)(σ:St)(Q:VK)(u:Value)(s':Shared):Û:=∃v H',cC8 a H' s'/\ϟ v/\cH8 v
def TP(X:Cx)(a:Et)(σ:St)(Q:bD7)(b:Bool)(s':Shared):Û:=∃H',cC8 a H' s'/\cH8 b
def AP(X:Cx)(a:Et)(σ:St)(Q:Β->eK)(us:ó)(s':Shared):Û:=∃vs H',cC8 a H' s'/\f8 vs/\cH8 vs
def SP(X:Cx)(a:Et)(D:KB)(f:Flow)(s':Shared):Û :=
 match f with
 |.next=>∃σ' H',cH7 X a H' s'/\D.nx σ' H'
 |.brk=>∃σ' H',cH7 X a H' s'/\D.bk σ' H'
 |.cont=>∃σ' H',cH7 X a H' s'/\D.ct σ' H'
 |.ret u=>∃v σ' H',cH7 X a H' s'/\ϟ v/\D.rt v H'
def PE(X:Cx)(e:Expr)(t:TE):Û :=
 ∀(a:Et)(s:Shared)(σ:St)(H:Hp)(Q:VK),cD1->t σ H Q->cF6 (Ù e) X a Q s
def PT(X:Cx)(e:Expr)(t:TT):Û :=
 ∀(O9:Et)(s:Shared)(σ:St)(H:Hp)(Q:bD7),Ϝ->t σ H Q->χ (ae9 e (Ù e)) (TP X O9 σ Q) s
def PW(X:Cx)(e:Expr)(t:TT):Û :=
 ∀(whole:Fm)(O9:Et)(s:Shared)(σ:St)(H:Hp)(Q:bD7),Ϝ->t σ H Q->χ (ce5 e) (TP X O9 σ Q) s
def PA(X:Cx)(es:Ϡ)(t:TA):Û :=
 ∀(pos:Pos)(O9:Et)(s:Shared)(σ:St)(H:Hp)(Q:Β->eK),Ϝ->t σ H Q->χ (spliced aq0) (AP X O9 σ Q) s
def PS(X:Cx)(b:Stmt)(t:TS):Û :=
 ∀(a:Et)(s:Shared)(σ:St)(H:Hp)(D:KB),cD1->t D σ H->χ (exec b X.env) (SP X a D) s
def PSs(X:Cx)(b:AX)(t:TS):Û :=
 ∀(a:Et)(s:Shared)(σ:St)(H:Hp)(D:KB),cD1->t D σ H->χ (execs b X.env) (SP X a D) s
def thn{α:re}{t:Sem α}{Q Q':α->Ε}(h:wpAny M A t Q E s)(b:∀a s,Q a s->Q' a s):wpAny M A t Q' E s:=ix h b x x
section
variable{X:Cx}
def bin{l tb:TE}(r:bX a l)(t:bX b tb){R:V->V->eK}(I:Ϝ)(h:l σ H λ x i=>tb σ i λ y c=>R x y c)
  {α:re} {Q:α->Ε} {f:Fn (Fn (Sem α))}
  (hf:∀v u e x y c,Ŋ c e->bx6->cD7->R x y c->χ (f v u) Q e) :
  ct9 a (λ v s₁=>ct9 b (λ u s₂=>χ (f v u) Q s₂) s₁) s:=by
 refine ō (r O9 s σ H _ I h) v J j;obtain⟨x,i,n,C,q1⟩:=j;refine ō (t O9 J σ i _ n q1) u e j;obtain⟨y,c,o,F,z⟩:=j;exact hf v u e x y c o C F z
def QpQ(i:Nat):TE:=λ σ H Q=>∃v,dC σ Oa/\Q v H
def tC(v:V):TE:=λ_ H Q=>Q v H
def Rp{i:Nat}{x:Str}{pos:Pos}(hN:ay9)(C:Rs x)(hd:bn2:=by decide)(j:pk x aD7:=by decide):bX ae6 (QpQ i):=by
 intro o s σ H Q I h;obtain⟨v,e,h⟩:=h;obtain⟨m,z,t⟩:=I.loc;obtain⟨u,r,l⟩:=t i x v hN e C;have b:EP X o σ Q u s:=⟨v,H,I,r,h⟩;rcases l with ⟨f,y⟩|⟨f,c,n,a⟩
 ·exact wpAny_Name (wpAny_loadName_local I.ok.kind f z y b) hd
 ·rcases f with f|f
  ·exact wpAny_Name (wpAny_loadName_cell I.ok.kind f n a b) hd
  ·exact wpAny_Name (wpAny_loadName_free I.ok.kind f n a b j) hd
def Qnt{i j pos}:bX (cf5 br0 j) (tC br0):=λ_ _ _ H _ I h=>wpAny_Constant_int ⟨ng,H,fm,aU3,h⟩
def QoT{b j pos}:bX (cf5 (E7 b) j) (tC LZ):=λ_ _ _ H _ I h=>Constant_bool (dE LZ H I h)
def Qnu{j pos}:bX (cf5 bE j) (tC ī):=λ_ _ _ H _ I h=>Constant_none (dE ī H I h)
def Qnw{x j pos}:bX (cf5 aJ4 j) (tC aJ4):=λ_ _ _ H _ I h=>Calls.Constant_str ⟨aJ4,H,fm,aU3,h⟩
def Gl(X:Cx)(x:Str):Û:=ac0 x>=.globalImplicit
def Ms{E:Es}{x:Str}{pos:Pos}{Q:Es}(I:Ϝ)(a:cf8)(b:X.mg x>=u)(h:Q u s)
  (hd:bn2:=by decide):Ψ (Ù ae6) Q E s :=
 ch8 a (Calls.loadGlobal_global (Å I.ok.glob aj8) b h) hd
def YO{E:Es}{x:Str}{pos:Pos}{Q:Es}(I:Ϝ)(a:cf8)(b:eg x)(c:IR>=u)(h:Q u s)
  (hn:Nd x := by decide) (hd:bn2:=by decide):Ψ (Ù ae6) Q E s:=by
 obtain⟨mb,h1,h2⟩:=I.mod.blt;exact ch8 a (Calls.loadGlobal_builtin (Å I.ok.glob aj8) b (Å I.ok.blt (h1.keeps I.bk)) (å (h2 x hn) c) h) hd
def SJ{x:Str}{pos:Pos}(a:cf8)(b:X.mg x>=u)(r:ϟ v)(hd:bn2:=by decide):bX ae6 (tC v) :=
 λ_ _ _ H _ I h=>Ms I a b ⟨v,H,I,r,h⟩ hd
variable{a b:Expr}{ta tb:TE}{pos:Pos}
def PC(X:Cx)(e:CmpOp)(a b:Expr)(t:TE):Û :=
  ∀(c : E3)(s : Shared)(σ : St)(H : Hp)(Q : VK), cD0 c -> t σ H Q ->
    ct9 a (λ v s₁=>ct9 b (λ u s₂=>cF6 (compareOp e v u) X c Q s₂) s₁) s
def QiU(b:Expr){c:CmpOp}(h:c≠.In)(h2:c≠.NotIn):AA c b:=by
 have e:pk c CmpOp.In:=L6 c rfl h
 have f:pk c CmpOp.NotIn:=L6 c rfl h2
 cases b<;>simp[behindInMarks,e,f]
def tB(t:TE):TT:=λ σ H Q=>t σ H λ x H1=>∃c,x=ξ c/\Q c H1
def Qpw{e:CmpOp}(h:PC X e a b t)(h1:AA e b:=by first|exact QiU _ Á Á|rfl):PT X (.Compare a [e] [b] pos) (tB t):=by intro j s σ H Q I hw;refine wpAny_isTrue_Compare1 (thn (h j s σ H _ I hw) λ v o h1=>thn h1 λ u r h2=>ō h2 c y l) h1;obtain⟨x,f,i,n,q1⟩:=l;obtain⟨d,rfl,q⟩:=q1;cases n;exact qv (da f i q)
def QnM{e:Expr}(h:bX e t)(l:∀whole,ce5 e=be6 v whole e.pos (OF [v] aM8):=by intro _;rfl):PT X e (tB t):=by intro i s σ H Q I hw;refine isTrue_plain (ō (h i s σ H _ I hw) v o j) (l _);obtain⟨x,c,f,n,q1⟩:=j;obtain⟨d,rfl,q⟩:=q1;cases n;exact qv (da c f q)
variable{tA tB':TT}{rest:Ϡ}
def QpG(t u:TT):TT:=λ σ H Q=>t σ H λ c H1=>df c (u σ H1 Q) (Q false H1)
def tOr(t u:TT):TT:=λ σ H Q=>t σ H λ c H1=>df c (Q true H1) (u σ H1 Q)
def QpL(t:TT):TT:=λ σ H Q=>t σ H λ c H1=>Q (mP c) H1
def QlI(f:PT X a tA):PW X (aJ9 [a]) tA:=by
 intro j O9 s σ H Q I h;refine isTrue_and (ō (f O9 s σ H Q I h) c i e);cases c with
 |true=>exact isTrue_and_nil e
 |false=>exact e
def QnP(f:PT X a tA):PW X (bC6 [a]) tA:=by
 intro j O9 s σ H Q I h;refine isTrue_or (ō (f O9 s σ H Q I h) c i e);cases c with
 |false=>exact isTrue_or_nil e
 |true=>exact e
def QnO(j:PT X a tA)(l:PW X cf3 tB'):PW X (aJ9 (a::aM5)) (QpG tA tB'):=by
 intro o O9 s σ H Q I h;refine isTrue_and (ō (j O9 s σ H _ I h) c n i);obtain⟨e,f,q1⟩:=i;cases c with
 |true=>exact l o O9 n σ e Q f q1
 |false=>exact da e f q1
def QoZ(j:PT X a tA)(l:PW X cg7 tB'):PW X (bC6 (a::aM5)) (tOr tA tB'):=by
 intro o O9 s σ H Q I h;refine isTrue_or (ō (j O9 s σ H _ I h) c n i);obtain⟨e,f,q1⟩:=i;cases c with
 |true=>exact da e f q1
 |false=>exact l o O9 n σ e Q f q1
def QnL(f:PT X a tA):PT X (.UnaryOp .Not a pos) (QpL tA):=aj9 e s H Q I h (isTrue_not (f e s σ H (λ c H1=>Q (mP c) H1) I h))
def Qo7(ta tb:TE):TE:=λ σ H Q=>ta σ H λ x H1=>∃c,x=ξ c/\df c (tb σ H1 Q) (Q π H1)
def QpM(ta tb:TE):TE:=λ σ H Q=>ta σ H λ x H1=>∃c,x=ξ c/\df c (Q ο H1) (tb σ H1 Q)
def Qnv{op}(h:bX a t):bX (IH op [a]) t:=λ c s σ H Q I e=>BoolOp_one (h c s σ H Q I e)
def Qnr(l:cg0)(n:bX cf3 tb):bX (aJ9 (a::aM5)) (Qo7 ta tb):=by
 intro i s σ H Q I h;refine BoolOp_and (ō (l i s σ H _ I h) v r j);obtain⟨x,e,f,o,q1⟩:=j;obtain⟨c,rfl,q1⟩:=q1;cases o;refine qv ?_;cases c with
 |true=>exact n i r σ e Q f q1
 |false=>exact dE π e f q1
def QoV(l:cg0)(n:bX cg7 tb):bX (bC6 (a::aM5)) (QpM ta tb):=by
 intro i s σ H Q I h;refine BoolOp_or (ō (l i s σ H _ I h) v r j);obtain⟨x,e,f,o,q1⟩:=j;obtain⟨c,rfl,q1⟩:=q1;cases o;refine qv ?_;cases c with
 |false=>exact n i r σ e Q f q1
 |true=>exact dE ο e f q1
def tIf(t:TT)(ta tb:TE):TE:=λ σ H Q=>t σ H λ c H1=>df c (ta σ H1 Q) (tb σ H1 Q)
def Qjb(r:PT X c tA)(n:cg0)(o:bX b tb):bX (.IfExp c a b pos) (tIf tA ta tb):=by
 intro e s σ H Q I h;refine wpAny_IfExp (ō (r e s σ H _ I h) d j l);obtain⟨f,i,q1⟩:=l;cases d with
 |true=>exact n e j σ f Q i q1
 |false=>exact o e j σ f Q i q1
#where
def SqL(K:Aa)(H:Hp)(a:Addr)(xs:Β):Û :=
 Rd H a cQ5 ∨
  ∃(o:Obj) (b:Ļ) (n:Nat),Ο a>=o/\o.cls=aD6 /\ ct4/\o.data=cz3 b n/\ÿ b.size/\cx0
def SqT(K:Aa)(H:Hp)(a:Addr)(xs:Β):Û :=
 Rd H a LE ∨
  ∃(o:Obj) (b:Ļ) (n:Nat),Ο a>=o/\o.cls=af9 /\ o.data=cz3 b n/\ÿ b.size/\cx0
def Qpo:Fn aU1
 |.none=>è ī
 |.bool b=>è LZ
 |.int i _=>è br0
 |.str x _=>è aJ4
 |.bytes b _=>è (.byt b)
 |.float b _=>è (.flt b)
 |.ref a=>aY9
 |.type n=>è (.ty n)
 |_=>none
def RelV.abs(r:ϟ x):Qpo u>=x:=by
 cases x with
 |non=>cases r;rfl
 |bl _=>cases r;rfl
 |int _=>obtain⟨t,rfl⟩:=r;rfl
 |str _=>obtain⟨t,rfl⟩:=r;rfl
 |byt _=>obtain⟨t,rfl⟩:=r;rfl
 |flt _=>obtain⟨t,rfl⟩:=r;rfl
 |ref _=>cases r;rfl
 |ty _=>cases r;rfl
def RelV.inj{x y:V}(r:ϟ x)(q:cD7):x=y:=Ak (r.abs.symm.trans q.abs)
def Vals.inj:∀{xs ys:Β}{us:ó},aZ8->f8 ys->xs=ys
 |_,_,_,.nil,.nil=>rfl
 |_,_,_,.cons r t,.cons a t'=>Ξ (r.inj a) (Vals.inj t t')
section
variable{X:Cx}{O9:Et}{σ:St}{H:Hp}{s:Shared}{a:Addr}{xs ys:Β}
def SqL.of{K:Aa}(h:Ň F6 xs):Ps K a:=ê ca1
def SqT.of{K:Aa}(h:F6>=LE):bS0:=ê ca1
def Inv.list(I:Ϝ)(h:Ps X.K a):∃b:ó,au7 b/\PlainL s.heap a b.toArray/\cQ8:=by
 rcases h with h|⟨o,b,n,f,c,hd,i,hz,r⟩
 ·obtain⟨z,b,n,r,e⟩:=h.ok I.hok;exact Nc b r (EC _ n e rfl rfl) z
 ·refine Nc b.toList r ⟨o,n,I.kIn a o f,c,hd,Ä i⟩ ?_;have e:=lc;simp only[Ci]at e;lia
def Inv.tuple(I:Ϝ)(h:ch0 a):∃b:ó,au7 b/\aV4 a b.toArray/\cQ8:=by
 rcases h with h|⟨o,b,n,f,c,i,hz,r⟩
 ·obtain⟨z,b,r,p⟩:=h.ok I.hok;exact Nc b r p z
 ·refine Nc b.toList r ⟨o,I.kIn a o f,c,n,Ä i⟩ ?_;have e:=lc;simp only[Ci]at e;lia
def Inv.list_inj(I:Ϝ)(h:Ps X.K a)(h':sm X.K a ys):xs=ys:=by
 obtain⟨b,r,⟨o,n,e,_,_,d⟩,_⟩:=FO h;obtain⟨its',f,⟨o',i,c,_,_,d'⟩,_⟩:=FO h';rw[e]at c;cases c;rw[d]at d';injection d' with d1 _;have:b=its':=Ä (im Array.toList d1)
 subst this;exact r.inj f
def Inv.tuple_inj(I:Ϝ)(h:ch0 a)(h':ck5 H a):xs=ys:=by
 obtain⟨b,r,⟨o,e,_,n,d⟩,_⟩:=gd h;obtain⟨its',f,⟨o',c,_,i,d'⟩,_⟩:=gd h';rw[e]at c;cases c;rw[d]at d';injection d' with d1 _;have:b=its':=Ä (im Array.toList d1)
 subst this;exact r.inj f
#where
abbrev Cx.wish(X:Cx)(E:Es):Cx:=î X xe E
abbrev Cx.nox(X:Cx):Cx:=X.wish py
def Cx.Ok.wish{X:Cx}(ok:X.Ok)(E:Es):(aM9).Ok :=
 ⟨ok.mod,ok.kind,ok.glob,ok.blt,ok.above,ok.inj,ok.has,ok.cab,ok.hd,ok.frames,ok.stk,ok.exf,ok.bs,ok.bsz,ok.noex,ok.exfs,ok.funs,ok.frf⟩
def Cx.Ok.unwish{X:Cx}(ok:(aM9).Ok):X.Ok :=
 ⟨ok.mod,ok.kind,ok.glob,ok.blt,ok.above,ok.inj,ok.has,ok.cab,ok.hd,ok.frames,ok.stk,ok.exf,ok.bs,ok.bsz,ok.noex,ok.exfs,ok.funs,ok.frf⟩
section
variable{X:Cx}{O9:Et}{σ:St}{H:Hp}{s:Shared}{E:Es}
def Inv.wish(I:Ϝ)(E:Es):đ aM9 H s:=⟨I.ok.wish E,I.os,I.bare,I.O8,I.loc,I.cell,I.free,I.freeC,I.pin,I.hok,I.len⟩
def Inv.unwish(I:đ aM9 H s):Ϝ:=⟨I.ok.unwish,I.os,I.bare,I.O8,I.loc,I.cell,I.free,I.freeC,I.pin,I.hok,I.len⟩
def SP.unwish{D:KB}{f:Flow}(h:SP aM9 O9 D f s'):SP X O9 D f s':=by
 cases f with
 |next=>obtain⟨σ',H',I,q⟩:=h;exact Nc σ' H' I.unwish q
 |brk=>obtain⟨σ',H',I,q⟩:=h;exact Nc σ' H' I.unwish q
 |cont=>obtain⟨σ',H',I,q⟩:=h;exact Nc σ' H' I.unwish q
 |ret u=>obtain⟨v,σ',H',I,r,q⟩:=h;exact⟨v,σ',H',I.unwish,r,q⟩
def PSs.nox{a:AX}(h:PSs X.nox a t):PSs X a t:=λ O9 s σ H D I b =>
 ix (h O9 s σ H D (I.wish _) b) (bn3 q.unwish) z (Nt z)
#where
section
variable{X:Cx}{st:Stmt}{rest:AX}{t u:TS}{e:Expr}{te:TE}{pos:Pos}
def Qpb:TS:=λ D σ H=>cI0 H
def Oh(t u:TS):TS:=λ D σ H=>t (î D nx (u D)) σ H
def pss_nil:PSs X [] Qpb:=λ_ _ σ H _ I h=>aN0 (Nc σ H I h)
def Qjt(h1:PS X st t)(h2:PSs X rest u):PSs X (aM4 st) (Oh t u):=by
  intro a s σ H D I h;refine wpAny_execs_cons (ō (h1 a s σ H (î D nx (u D)) I h) f c q);cases f with
  |next=>obtain⟨σ',H',b,q⟩:=q;exact h2 a c σ' H' D b q
  |ret v=>exact q
  |brk=>exact q
  |cont=>exact q
def QlB(h1:PS X st t):PSs X [st] t:=by
 intro a s σ H D I h;refine wpAny_execs_cons (ō (h1 a s σ H D I h) f b q);cases f with
 |next=>exact aN0 q
 |ret v=>exact q
 |brk=>exact q
 |cont=>exact q
def Inv.quiet(I:Ϝ):ė (interactive X.env):=ky interactive I.ok.kind
def Ph(te:TE):TS:=λ D σ H=>te σ H λ_ H1=>cI0 H1
def Sq(b:bX e te)(c:ap8 e none=N7:=by rfl):PS X (.Expr e pos) (Ph te):=aj9 a s H D I h (wpAny_Expr_any (fT (b a s σ H _ I h) v f x H1 I1 r1 q1 (Nc σ H1 I1 q1)) I.quiet c)
def QpO(te:TE):TS:=λ D σ H=>te σ H D.rt
def QnK(b:bX e te):PS X (.Return (è e) pos) (QpO te):=aj9 a s H D I h (wpAny_Return_some (fT (b a s σ H _ I h) v c x H1 I1 r1 q1 ⟨x,σ,H1,I1,r1,q1⟩))
def QpJ(c:TT)(t u:TS):TS:=λ D σ H=>c σ H λ b H1=>df b (t D σ H1) (u D σ H1)
def QoY{a b:AX}{n:TT}(x:PT X c n)(r:PSs X a t)(v:PSs X b u):PS X (.If c a b pos) (QpJ n t u):=by
 intro f s σ H D I h;refine wpAny_If (ō (x f s σ H _ I h) d l o);obtain⟨i,j,q1⟩:=o;cases d with
 |true=>exact r f l σ i D j q1
 |false=>exact v f l σ i D j q1
def QnY:TS:=OP
def Qjq:PS X st QnY:=λ_ _ _ _ _ _ h=>h.elim
#where
abbrev TG:=V->St->Hp->Δ (St->eK)
def PG(X:Cx)(target:Expr)(t:TG):Û :=
  ∀(O9 : E3)(s : Shared)(σ : St)(H : Hp)(v : V)(u : Value)(Q : St -> eK), Ϝ -> ϟ v -> t v σ H Q ->
    χ (cA0 target u) (λ_ s'=>∃σ' H',cH7 X O9 H' s'/\cH8 σ') s
abbrev Dc:=V->V->V->Hp->Δ eK
def Dd(X:Cx)(t:Dc):Û :=
  ∀(O9 : E3)(s : Shared)(σ : St)(H : Hp)(o i v : V)(ov iv u : Value)(Q : eK), Ϝ -> RelV o ov -> RelV i iv -> ϟ v -> t o i v H Q ->
    χ (setItem ov iv u) (λ_ s'=>∃H',cb2/\Q H') s
abbrev TIp:=V->V->Hp->tM
def PIp(X:Cx)(b:Operator)(t:TIp):Û :=
  ∀(a : E3)(s : Shared)(σ : St)(H : Hp)(x y : V)(v u : Value)(Q : VK), cD1 -> bx6 -> cD7 -> t x y H Q ->
    cF6 (inplaceOp b v u) X a Q s
section
variable{X:Cx}{pos:Pos}
def uU(i:Nat):TG:=λ v σ H Q=>Q cF1 H
def Sy{i:Nat}{x:Str}(hN:X.N.Nodup)(hi:ay9)(hx:iP x)(hf:EW x∨cY6:=by first|exact ı|exact Ty|assumption):PG X ae6 (uU i):=by intro b s σ H v u Q I r h;exact wpAny_assign_Name (vp I hN hi hx r (λ s' a=>Nc _ H a h) hf)
def Qpq(to b:TE)(t:Dc):TG:=λ v σ H Q=>to σ H λ o H1=>b σ H1 λ i H2=>t o i v H2 λ a=>Q σ a
def QnC{t:Dc}(F:bX o to)(hi:bX i ti)(J:Dd X t)
  (ha:∀v,cA0 (bm8 o i) v=(do
   let a <- OF [v] aU2
   let c <- OF [v,a] (Ù i)
   standAt pos
   OF [v,a,c] (setItem a c v)
   release [v,a,c] []):=by intro _;rfl):PG X (bm8 o i) (Qpq to ti t):=by
 intro e s σ H v u Q I r h;rw[ha];refine Ef (Ϻ (ō (F e s σ H _ I h) a U b));obtain⟨x,f,n,P,q1⟩:=b;refine Ef (Ϻ (ō (hi e U σ f _ n q1) c Y b));obtain⟨y,j,z,R,L⟩:=b;refine br1 (Ef (Ϻ (thn (J e Y σ j x y v a c u _ z P R r L) λ_ s3 b=>?_)));obtain⟨l,C,O⟩:=b;exact wpAny_release (Nc σ l C O)
def C_(te:TE)(g:TG):TS:=λ D σ H=>te σ H λ x H1=>g x σ H1 D.nx
def QnH(i:bX e te)(j:PG X tg g)(l:swapsWithSole [tg] e pos.line X.env=N7:=by rfl)(n:swappedStores [tg] e X.env=aI9:=by rfl)
  (h1:CD (assignEach [tg] X.env)=[bP6 tg]:=by rfl):PS X (cX6 [tg] e) (C_ te g):=by
 intro a s σ H D I h;refine wpAny_Assign_stores (ō (i a s σ H _ I h) v r f) l n;obtain⟨x,b,c,o,q1⟩:=f;rw[h1];exact thn (j a r σ b x v _ c o q1) λ_ t q=>q
def Ri{i:Nat}{x:Str}(hN:X.N.Nodup)(hi:ay9)(hx:iP x)(l:bX e te)(n:ap8 e (è (Of pos'))=N7:=by rfl)(hf:EW x∨cY6:=by first|exact ı|exact Ty|assumption):
  PS X (cX6 [Of pos'] e) (C_ te (uU i)):=by
 intro f s σ H D I h;refine wpAny_Assign_Name (ō (l f s σ H _ I h) v r j) n;obtain⟨y,a,b,o,q1⟩:=j;exact vp b hN hi hx o (λ t c=>Nc _ a c q1) hf
def O_(i:Nat)(te:TE)(a:TIp):TS:=λ D σ H=>∃x,dC σ (è x)/\te σ H λ y H1=>a x y H1 λ z H2=>D.nx (aK5 (è z)) H2
def QnI{i:Nat}{x:Str}{o:Operator}{C:TIp}{f:Pos}(hN:X.N.Nodup)(hi:ay9)(hx:iP x)(U:bX e te)(ho:PIp X o C)(hf:EW x∨cY6:=by first|exact ı|exact Ty|assumption):
  PS X (.AugAssign (Of f) o e pos) (O_ i te C):=by
 intro j s σ H D I h;obtain⟨v,Q,h⟩:=h;obtain⟨m,hn,Y⟩:=I.loc;have t:Rs x:=ac1 hx k k AO (Ğ AO)
 obtain⟨u,r,l⟩:=Y i x v hi Q t;refine wpAny_AugAssign_Name ?_;have go:ct9 e (λ w s₂=>χ (inplaceOp o u w) (λ r s₃=>χ (cH9 x r) (λ_=>SP X j D .next) s₃) s₂) s:=by refine ō (U j s σ H _ I h) w s1 n;obtain⟨y,F,L,r1,q1⟩:=n;refine ō (ho j s1 σ F v y u w _ L r r1 q1) z s2 n;obtain⟨zv,J,O,r2,q2⟩:=n;exact vp O hN hi hx r2 (λ s3 P=>Nc _ J P q2) hf
 rcases l with ⟨a,hm⟩|⟨a,c,R,b⟩
 ·exact wpAny_loadName_local I.ok.kind a hn hm go
 ·rcases a with a|a
  ·exact wpAny_loadName_cell I.ok.kind a R b go
  ·rcases hx with k|k
   ·have:ŋ x be3:=a;rw[k]at this;cases this
   ·have:ŋ x be3:=a;rw[k]at this;cases this
def ipI(f:Int->Int->Int):TIp:=λ x y H Q=>∃i j,x=ng/\y=bA7/\Q ↥(f i j) H
def QmU:PIp X .Add (ipI λ i j=>i+j):=by intro c s σ H x y v u Q I r1 r2 h;obtain⟨i,j,a,b,q⟩:=h;subst a;subst b;obtain⟨t,rfl⟩:=r1;obtain⟨t',rfl⟩:=r2;exact iadd_int (cG4 _ H fm aU3)
#where
section
variable{X:Cx}{pos:Pos}
def QnZ(c:TT)(tb:TS):TS:=λ D σ H=>∃W:NU (St->eK),(∃m,W m σ H)/\∀m σ H,W m σ H ->
 c σ H λ b H1=>df b (∃N:St->eK,(∀σ' H',N σ' H'->∃a,a<m/\W a σ' H')/\tb { D with nx:=N,ct:=N,bk:=D.nx } σ H1) (cI0 H1)
def Qjs{a:AX}{F:TT}(hp:av6 al5 X.A X.xe)(O:PT X c F)(L:PSs X a tb):PS X (.While c a [] pos) (QnZ F tb):=by
  intro r s σ H D I h;obtain⟨W,⟨P,U⟩,i⟩:=h;refine wpAny_While (codeAny_whileLoop (λ n s'=>∃σ' H',cH7 X r H' s'/\W n σ' H') ?_ P (Nc σ H I U));rintro n Q ⟨σ1,H1,I1,w1⟩;refine wh (ō (O r Q σ1 H1 _ I1 (i n σ1 H1 w1)) b R J);obtain⟨z,C,j⟩:=J;cases b with
  |true =>
    obtain⟨N,hN,j⟩:=j;rw[sj];refine wh (ō (L r R σ1 z _ C j) f Y l);cases f with
    |next=>obtain⟨σ3,e,o,x⟩:=l;obtain⟨u,t,y⟩:=hN σ3 e x;exact⟨u,t,σ3,e,o,y⟩
    |cont=>obtain⟨σ3,e,o,x⟩:=l;obtain⟨u,t,y⟩:=hN σ3 e x;exact⟨u,t,σ3,e,o,y⟩
    |brk=>exact l
    |ret v=>exact l
  |false=>rw[Eg By];exact aN0 (Nc σ1 z C j)
#where
structure It where
 go:NU eK
 yld:NU (Hp->V->eK)
 stop:NU eK
def U6(X:Cx)(a:Et)(H:Hp)(b:Addr):Û :=
 cb4/\fA b/\b∉X.fs/\(b∈X.ex∨db b)/\(∀x c,Ĳ x c->c≠b)/\∀p∈X.pn++a,ϰ≠b
def Inv.fpOk{H H':Hp}{s:Shared}{b:Addr}(I:Ϝ)(a:aa9 b)(f:bd1):U6 X O9 H' b:=by
 refine⟨f,Ea (Ay I.lt a),I.nofs a,Ğ (Bj I.sz a),nL x c e z,Ł p hp z⟩
 ·obtain⟨v,q⟩:=cz9 x e;exact cx6 q.lt (Å z a)
 ·exact cx6 (Ap (cn2 hp).1) (Å z a)
structure sO(P:Program)(w:World)(K:Aa)(tg:Expr)(J:It)(fp:Ey)(it:Addr)(tn:NU ay1):Û where
 mem:it∈fp
 obj:∀i h,tn i h->∀b∈fp,∃o,ż b o/\∀v,o.data≠.cell v
 keep:∀i h h',tn i h->bd2 fp (∀o,ż b o->Pi o)->tn i h'
 item:∀(X:Cx),X.prog=P->X.w=w->X.K=K->ϙ->∀(i:Nat)(O9:Et)(s:Shared)(σ:St)(H:Hp)(E:Es),Ϝ->bd2 fp (U6 X O9 H b)->tn i s.heap->J.go i H ->
  wpAny (model P w) X.A (pyNext ↑it) (λ r s1=>∃u,r>=u /\
   Í P w X.A (br2 tg ↑it u) (λ_ s2=>∃x H',cb1 s2/\ϟ x/\J.yld i H x H'/\tn (i+1) s2.heap/\∀b∈fp,bd1) E s1) E s
 done:∀(X:Cx),X.prog=P->X.w=w->X.K=K->ϙ->∀(i:Nat)(O9:Et)(s:Shared)(σ:St)(H:Hp)(E:Es),Ϝ->bd2 fp (U6 X O9 H b)->tn i s.heap->J.stop i H ->
  Í P w X.A (pyNext ↑it) (λ r s1=>Ū r/\Ŵ s1) E s
 self:∀(A:Around)(i:Nat)(s:Shared)(Q:Es)(E:Es),tn i s.heap->bq9 it s->Í P w A (pyIter ↑it) Q E s
abbrev TI:=St->Hp->Δ (It->eK)
def PIE(X:Cx)(c:Et)(σ:St)(tg:Expr)(R:It->eK)(a:Value)(e:Shared):Û :=
 ∃(it:Addr)(fp:Ey)(tn:NU ay1)(J:It)(H':Hp),a=ë it/\cC8 c H' e/\sO X.prog X.w X.K tg J fp it tn/\tn 0 e.heap/\bd2 fp (U6 X c H' b)/\R J H'
def PI(X:Cx)(tg a:Expr)(c:TI):Û :=
  ∀(O9 : E3)(s : Shared)(σ : St)(H : Hp)(R : It -> eK), Ϝ -> c σ H R ->
    ct9 a (λ v b=>χ (pyIter v) (PIE X O9 σ tg R) b) s
def DK{M:Model}{A:Around}{E:Es}{s:Shared}{tg:Expr}{a:Addr}{u:Value}{o:Obj}{n:String}{vs:Ļ}{Q:cl0}(c:ô a o)(b:o.cls=ĭ n)(hd:o.data=ni vs)
    (hn:ė (["enumerate", nP, cI3, bz4, "odict_iterator", bU8, cA4].contains n)) (hQ:Q () s):wpAny M A (br2 tg Ŗ u) Q E s:=by
  unfold letOwnedTupleGo;cases tg<;>first
    |exact Ei hQ
    | (cases u<;>first
        |exact Ei hQ
        | (refine cI1 c ?_
           rw[b,hd];show wpAny M A (df (["enumerate", nP, cI3, bz4, "odict_iterator", bU8, cA4].contains n&&vs[0]?==è (rawInt _)) _ _) Q E s;rw[Eg (by intro h;rw[hn,Bool.false_and]at h;cases h)];exact Ei hQ))
def Itl(K:Aa)(a:Addr):It :=
 da (λ i H=>∃xs x,Ps K a/\cv8) (λ i H x H'=>H'=H/\∀xs,Ps K a->cv8) (λ i H=>∃xs,Ps K a/\ŕ<=i)
def Itt(K:Aa)(a:Addr):It :=
 da (λ i H=>∃xs x,bS0/\cv8) (λ i H x H'=>H'=H/\∀xs,bS0->cv8) (λ i H=>∃xs,bS0/\ŕ<=i)
def Itr(lo:Int)(n:Nat):It:=da (λ i _=>i<n) (λ i H x H'=>H'=H/\x=È (lo+i)) (λ i _=>n<=i)
def Qhx{w:World}{K:Aa}(a l:Addr):sO P w K tg (Itl K a) [l] l (λ i h=>h.IsListIter l a i) where
 mem:=Ê
 obj:=λ i h f b j=>by
  have e:b=l:=Ä j
  subst e;obtain⟨o,e,c,d⟩:=f;exact da o e (λ v z=>ĩ d z z)
 keep:=λ i h h' f k=>f.at λ o e=>k l Ê o e
 item:=by intro X O Q L Y i O9 s σ H E I hf f hg;subst O Q L;obtain⟨xs,x,r,hx⟩:=hg;obtain⟨R,U,p,hz⟩:=FO r;obtain⟨u,hu,ru⟩:=U.get hx;obtain⟨t,y,f2,C,F,J⟩:=hf l Ê;refine wpAny_pyNext_list_item f p.isList (x:=u) (Ä hu) (Ł h' n sb);have I1:Ŵ aE0:=ag4 t' (λ b o j e=>å (sb.2 b j) e) t y C F J;obtain⟨o,e,c,d⟩:=id n;exact ĸ u (DK (s:=aE0) e c d Á ⟨x,H,I1,ru,Ť (λ ys hy=>Å (I.list_inj hy r) hx),n,λ b j=>(hf b j).1⟩)
 done:=by intro X O Q L Y i O9 s σ H E I hf f hg;subst O Q L;obtain⟨xs,r,hx⟩:=hg;obtain⟨R,U,p,hz⟩:=FO r;obtain⟨t,y,f2,C,F,J⟩:=hf l Ê;have hl:=⇑U;exact wpAny_pyNext_list_end (ah4 Y) f p.isList č λ h' eb=>Ť (ag4 t' (λ b o j e=>eb b o j e) t y C F J)
 self:=bf0 f (wpAny_pyIter_listiter f h)
def QeB{w:World}{K:Aa}(a l:Addr):sO P w K tg (Itt K a) [l] l (λ i h=>aV8 l a i) where
 mem:=Ê
 obj:=λ i h f b j=>by
  have e:b=l:=Ä j
  subst e;obtain⟨o,e,c,d⟩:=f;exact da o e (λ v z=>ĩ d z z)
 keep:=λ i h h' f k=>f.at λ o e=>k l Ê o e
 item:=by intro X Q R O Y i O9 s σ H E I hf f hg;subst Q R O;obtain⟨xs,x,t,hx⟩:=hg;obtain⟨n,U,p,hz⟩:=gd t;obtain⟨u,hu,ru⟩:=U.get hx;obtain⟨y,C,f2,F,J,L⟩:=hf l Ê;refine wpAny_pyNext_tuple_item f (aJ0 a n.toArray p) (x:=u) (Ä hu) (Ł h' r sb);have I1:Ŵ aE0:=ag4 t' (λ b o j e=>å (sb.2 b j) e) y C F J L;obtain⟨o,e,c,d⟩:=id r;exact ĸ u (DK (s:=aE0) e c d Á ⟨x,H,I1,ru,Ť (λ ys hy=>Å (I.tuple_inj hy t) hx),r,λ b j=>(hf b j).1⟩)
 done:=by intro X Q R O Y i O9 s σ H E I hf f hg;subst Q R O;obtain⟨xs,t,hx⟩:=hg;obtain⟨n,U,p,hz⟩:=gd t;obtain⟨y,C,f2,F,J,L⟩:=hf l Ê;have hl:=⇑U;exact wpAny_pyNext_tuple_end (ah4 Y) f (aJ0 a n.toArray p) č λ h' eb=>Ť (ag4 t' (λ b o j e=>eb b o j e) y C F J L)
 self:=bf0 f (wpAny_pyIter_tupleiter f h)
def QeA{w:World}{K:Aa}(c:Addr)(lo:Int)(n:Nat):sO P w K tg (Itr lo n) [c] c (λ i h=>IsRangeIter h c (lo+(i:Nat) * 1) (oq-(i:Nat)) 1) where
 mem:=Ê
 obj:=λ i h a b f=>by
  have e:b=c:=cs1
  subst e;exact cK6 a (λ v z=>bb6 z' (bU9 _=aG1) z z')
 keep:=λ i h h' a k=>k c Ê _ a
 item:=by intro X F L C J i O9 s σ H E I hf a hg;subst F L C;obtain⟨l,r,U,u,x,y⟩:=hf c Ê;have W:=Walks.range (prog:=X.prog) (w:=X.w) (ah4 J) c lo 1 n;refine W.item i s _ _ hg a (bF5 v h' O Y j kk);obtain⟨t,rfl⟩:=Y;have Q:Ŵ (ck3 O):=I.turned (λ b o f e=>kk b o cs1 e) l r u x y;refine ĸ _ (DK (s:=ck3 O) (n := "range_iterator") j rfl rfl Á ⟨È (lo+i),H,Q,CB t,ft,j,λ b f=>(hf b f).1⟩);rw[Int.mul_one]
 done:=by intro X F L C J i O9 s σ H E I hf a hg;subst F L C;obtain⟨l,r,U,u,x,y⟩:=hf c Ê;exact wpAny_pyNext_range_end (ah4 J) a (pD (n<=i) hg) λ h' R=>Ť (ag4 t' (λ b o f e=>R b o f e) l r u x y)
 self:=bf0 a (cA5 h)
section
variable{X:Cx}{tg:Expr}
def Qov(K:Aa)(b:TE):TI:=λ σ H R=>b σ H λ x H1=>∃a,x=ų/\(∃xs,SqL K H1 a xs)/\R (Itl K a) H1
def Qpr(K:Aa)(b:TE):TI:=λ σ H R=>b σ H λ x H1=>∃a,x=ų/\(∃xs,jk K H1 a)/\R (Itt K a) H1
def Qlt(t:bX l tl):PI X tg l (Qov X.K tl):=by
 intro j s σ H R I h;refine ō (t j s σ H _ I h) v f n;obtain⟨x,i,c,z,q1⟩:=n;obtain⟨a,e,⟨xs,u⟩,q⟩:=q1;subst e;cases z;obtain⟨y,C,p,hz⟩:=c.list u;refine aN4 p.isList;refine⟨f.heap.objs.size,[f.heap.objs.size],_,_,i,rfl,c.kept (t':=f.toks) λ b o e=>FY,Qhx a _,cj6 _ IE,Ź b r,q⟩;have e:b=f.heap.objs.size:=Ä r
 subst e;exact c.fpOk ę (c.hok.fresh ę)
def QnD(u:bX l tl):PI X tg l (Qpr X.K tl):=by
 intro n s σ H R I h;refine ō (u n s σ H _ I h) v c r;obtain⟨x,j,f,z,q1⟩:=r;obtain⟨a,e,⟨xs,y⟩,q⟩:=q1;subst e;cases z;obtain⟨i,C,p,hz⟩:=f.tuple y;refine wpAny_pyIter_tuple (Ý (c.heap.IsTuple a i.toArray) p) ?_;refine⟨c.heap.objs.size,[c.heap.objs.size],_,_,j,rfl,f.kept (t':=c.toks) λ b o e=>FY,QeB a _,cj6 _ IE,Ź b t,q⟩;have e:b=c.heap.objs.size:=Ä t
 subst e;exact f.fpOk ę (f.hok.fresh ę)
def W_{R:It->eK}{E:Es}{lo hi:Int}{t u v:Tok}{c:Nat}(I:Ϝ)(h1:-(2 ^ 62)<=lo)(h2:lo<2 ^ 62)(h3:-(2 ^ 62)<=hi)(h4:hi<2 ^ 62)
  (q:R (Itr lo (IS (hi-lo))) H):Ψ (pyIter Ķ) (PIE X O9 σ tg R) E (ϴ s (bD3 #[LI lo,cS9,fj 1 v]) c):=by
 refine wpAny_pyIter_range aV9 (small_one h1 h2 h3 h4) ?_;have a:Ŵ (ϴ s (bD3 #[LI lo,cS9,fj 1 v]) c):=I.kept λ b o e=>FY;refine⟨bS2 #[LI lo,cS9,fj 1 v],[bS2 #[LI lo,cS9,fj 1 v]],_,_,H,rfl,
  a.kept (t':=c) λ b o e=>FY,QeA _ lo (IS (hi-lo)),?_,Ź b i,q⟩
 ·have f:lo+Ì (0:Nat) * 1=lo:=Ê
  have h:Ì (IS (hi-lo):Nat)-Ì (0:Nat)=tG lo hi 1:=aK6
  show IsRangeIter _ _ (lo+Ì (0:Nat) * 1) (Ì (IS (hi-lo):Nat)-Ì (0:Nat)) 1;rw[f,h];exact IE
 ·have e:b=bS2 #[LI lo,cS9,fj 1 v]:=Ä i
  subst e;exact a.fpOk ę (a.hok.fresh ę)
def Qow(a:TA):TI:=λ σ H R=>a σ H λ vs H1=>∃j:Int,vs=[bA7] /\ -(2 ^ 62)<=j/\j<2 ^ 62/\R (Itr 0 j.toNat) H1
def Qox(a:TA):TI:=λ σ H R=>a σ H λ vs H1=>∃i j:Int,vs=[ng,bA7]/\(-(2 ^ 62)<=i/\i<2 ^ 62 /\ -(2 ^ 62)<=j/\j<2 ^ 62)/\R (Itr i (IS (j-i))) H1
def Qg3{p pos:Pos}(l:bT1)(n:eg Η)(i:PA X [a] ta)(o:Ñ [a]=[ž a]:=by rfl):PI X tg (NL Η p [a]) (Qow ta):=by
  intro c s σ H R I h;refine Call_ (YO I l n boot_range (ϗ (ō (i pos c s σ H _ I h) us z f) o rfl));obtain⟨vs,y,b,v,q1⟩:=f;obtain⟨j,e,q1,u,q⟩:=q1;subst e;cases v with
  |cons r x=>cases x;obtain⟨t,rfl⟩:=r;exact call_range_1 (W_ b À À q1 u bc9)
def Qg4{p pos:Pos}(v:bT1)(x:eg Η)(u:PA X [a,b] ta)(y:Ñ [a,b]=[ž a,ž b]:=by rfl)(c:Ñ [b]=[ž b]:=by rfl):
    PI X tg (NL Η p [a,b]) (Qox ta):=by
  intro n s σ H R I h;refine Call_ (YO I v x boot_range (ϗ (ō (u pos n s σ H _ I h) us P o) (Ξ y c) (û c)));obtain⟨vs,O,l,L,q1⟩:=o;obtain⟨i,j,e,⟨q1,z,C,F⟩,q⟩:=q1;subst e;cases L with
  |cons r f =>
    cases f with
    |cons J f=>cases f;obtain⟨t,rfl⟩:=r;obtain⟨t',rfl⟩:=J;exact call_range_2 (W_ l q1 z C F q)
def QpI(b:TI)(g:TG)(tb:TS):TS:=λ D σ H=>b σ H λ J H1=>∃W:NU (NU (St->eK)),(∃m,W 0 m σ H1)/\∀i m σ H,W i m σ H ->
 (J.stop i H/\cI0 H)∨(J.go i H/\∃N:St->eK,(∀σ' H',N σ' H'->∃a,a<m/\W (i+1) a σ' H')/\∀x H',J.yld i H x H'->g x σ H' λ σ2 H2=>tb { D with nx:=N,ct:=N,bk:=D.nx } σ2 H2)
def GM(a:Ey)(h:Heap):E3:=a.filterMap λ b=>NM (h.get? b) o (b,o)
def zB{h:Heap}{b:Addr}(a:b∈fp)(e:ż b o):(b,o)∈GM fp h:=List.mem_filterMap.mpr (da b a ca5)
def QgU{a:Ey}{h:Heap}{p:Addr × Obj}(hp:p∈GM a h):ϰ∈a/\ż ϰ PP:=by
  obtain⟨b,f,e⟩:=bP1;cases q:h.get? b with
  |none=>rw[q]at e;cases e
  |some o=>rw[q]at e;have c:(b,o)=p:=Ak e;subst c;exact Ĭ f q
def Inv.pinned{a:Et}{s:Shared}(I:cD1)(hf:∀b∈fp,U6 X a H b)(l:∀b∈fp,∃o,bo6/\∀v,o.data≠.cell v):cD0 (a++GM fp s.heap) :=
 I.pins_of λ p hp=>(sN hp).elim (λ z=>cn2 (bG1 z)) λ z=>by obtain⟨f,e⟩:=QgU z;obtain⟨h,i,j,_⟩:=hf ϰ f;obtain⟨o,c,d⟩:=l ϰ f;rw[e]at c;cases c;exact⟨e,h,i,j,d⟩
def Inv.unpinned{a pl:Et}(I:cD0 (a++pl)):cD1:=I.pins_of λ p hp=>cn2 (bG1 (A7 _ hp))
def Rj{t:AX}{pos:Pos}(hp:av6 al5 X.A X.xe)(hc:ϙ)(hi:PI X tg iter wi)(hg:PG X tg g)(j:PSs X t tb)
  (hs:∀x,cW5=bZ8:=by intro _;rfl):PS X (.For tg iter t [] pos) (QpI wi g tb):=by
 intro z s σ H D I h;refine wpAny_For (thn (hi z s σ H _ I h) λ v s1 h1=>ō h1 a9 s2 h2) hs;obtain⟨it,F,tn,J,H2,e,I2,T,a8,f2,W,⟨m0,w0⟩,O⟩:=h2;subst e;have l:∀{H':Hp},cW6 F->∀b∈F,U6 X z H' b:=λ hn b j=>Ĭ (hn b j) (f2 b j).2;refine codeAny_forLoop_any (λ n s'=>∃i σ' H',cH7 X z H' s'/\tn i s'.heap/\cW6 F/\W i n σ' H') ?_ m0 ⟨0,σ,H2,I2,a8,λ b j=>(f2 b j).1,w0⟩;rintro n s3 ⟨i,σ3,H3,I3,st3,fr3,w3⟩;rcases O i n σ3 H3 w3 with ⟨stop,qn⟩|⟨go,N,hN,step⟩
 ·refine wh (thn (T.done X rfl rfl rfl hc i z s3 σ3 H3 X.xe I3 (l fr3) st3 stop) (aW0 r s4 U I4));subst U;exact aN0 (Nc σ3 H3 I4 qn)
 ·refine wh (thn (T.item X rfl rfl rfl hc i z s3 σ3 H3 X.xe I3 (l fr3) st3 go) λ r s4 ⟨u,U,h4⟩=>?_);subst U;refine wh (thn h4 λ_ s5 Q=>?_);obtain⟨x,H5,I5,r5,y5,C,R⟩:=Q;have P:=I5.pinned (l R) (T.obj _ _ C);refine wh (thn (hg _ s5 σ3 H5 x u _ P r5 (step x H5 y5)) λ_ s6 Q=>?_);obtain⟨σ6,H6,I6,q6⟩:=Q;refine wh (ō (j _ s6 σ6 H6 _ I6 q6) f Y y);have again:∀{σ7:St}{a:Hp},Inv X (z++GM F s5.heap) σ7 a Y->N σ7 a->∃m,m<n/\∃i σ' H',cH7 X z H' Y/\tn i Y.heap/\cW6 F/\W i m σ' H':=λ{σ7 a} c L=>by obtain⟨m',hm,w7⟩:=hN σ7 a L;refine⟨m',hm,i+1,σ7,a,c.unpinned,T.keep _ _ _ C λ b j o e=>(c.pin (b,o) (bG1 (bG1 (zB j e)))).1,Ź b j,w7⟩;obtain⟨o,e,d⟩:=T.obj _ _ C b j;exact(c.pin (b,o) (bG1 (bG1 (zB j e)))).2.1
  cases f with
  |next=>obtain⟨σ7,a,c,L⟩:=y;exact again c L
  |cont=>obtain⟨σ7,a,c,L⟩:=y;exact again c L
  |brk=>obtain⟨σ7,a,c,y⟩:=y;exact Nc σ7 a c.unpinned y
  |ret v=>obtain⟨x7,σ7,a,c,r7,y⟩:=y;exact⟨x7,σ7,a,c.unpinned,r7,y⟩
#where
abbrev R2:=V->V->Hp->tM
def OpR(X:Cx)(f:bx2)(r:R2):Û :=
  ∀(a : E3)(s : Shared)(σ : St)(H : Hp)(x y : V)(v u : Value)(Q : VK), cD1 -> bx6 -> cD7 -> r x y H Q ->
    cF6 (f v u) X a Q s
def UnR(X:Cx)(f:at3)(r:V->Hp->tM):Û :=
  ∀(a : E3)(s : Shared)(σ : St)(H : Hp)(x : V)(v : Value)(Q : VK), cD1 -> bx6 -> r x H Q ->
    cF6 (f v) X a Q s
def CallR(X:Cx)(f:Value)(r:Β->Hp->tM):Û :=
  ∀(a : E3)(s : Shared)(σ : St)(H : Hp)(xs : Β)(us : ó)(Q : VK), cD1 -> aZ8 -> r xs H Q ->
    cF6 (call f us) X a Q s
def Qpm(X:Cx)(r:V->Hp->Δ bD7):Û :=
  ∀(O9 : E3)(s : Shared)(σ : St)(H : Hp)(x : V)(v : Value)(Q : bD7), Ϝ -> bx6 -> r x H Q ->
    χ aM8 (TP X O9 σ Q) s
def tOp(r:R2)(a tb:TE):TE:=λ σ H Q=>a σ H λ x H1=>tb σ H1 λ y H2=>r x y H2 Q
def tUn(r:V->Hp->tM)(a:TE):TE:=λ σ H Q=>a σ H λ x H1=>r x H1 Q
def rI(C:Int->Δ Int)(g:Int->Int->V):R2:=λ x y H Q=>∃i j,x=ng/\y=bA7/\C i j/\Q (g i j) H
def rI0(g:Int->Int->V):R2:=λ x y H Q=>∃i j,x=ng/\y=bA7/\Q (g i j) H
def rU(g:Int->V):V->Hp->tM:=λ x H Q=>∃i,x=ng/\Q (g i) H
section
variable{X:Cx}{a b c:Expr}{ta tb tc:TE}{pos:Pos}
def Ik(r:cg0)(t:bX b tb){R:V->V->eK}(I:Ϝ)
  (h:ta σ H λ x j=>tb σ j λ y e=>R x y e) {Q:Es} {f:bx2}
  (hf:∀v u i x y e,Ŋ e i->bx6->cD7->R x y e->χ (f v u) Q i) :
  ct9 a (λ v s₁=>ct9 b (λ u s₂=>χ (f v u) Q s₂) s₁) s:=by
 refine ō (r O9 s σ H _ I h) v J l;obtain⟨x,j,n,C,q1⟩:=l;refine ō (t O9 J σ j _ n q1) u i l;obtain⟨y,e,o,F,z⟩:=l;exact hf v u i x y e o C F z
def QoU{e:Operator}{r:R2}(l:nS X e r)(i:cg0)(j:bX b tb):bX (.BinOp a e b pos) (tOp r ta tb):=aj9 f s H Q I h (wpAny_BinOp (Ik i j I h λ v u t x y H2 I2 n o q=>l f t σ H2 x y v u Q I2 n o q))
def QoW{f:UnaryOp}{r:V->Hp->tM}(j:UnR X (unaryOp f) r)(i:cg0):bX (.UnaryOp f a pos) (tUn r ta):=aj9 e s H Q I h (UnaryOp_ (fT (i e s σ H _ I h) v l x H1 I1 r1 q1 (j e l σ H1 x v Q I1 r1 q1)))
def opI{f:bx2}{C:Int->Δ Int}{g:Int->Int->Int}
  (rule:∀(i j:Int)(t u:Tok)(s:Shared)(Q:Es)(E:Es),C i j->Q (fj (g i j) s.toks) ch2->Ψ (f aE8 (fj j u)) Q E s) :
  OpR X f (rI C λ i j=>È (g i j)):=by
 intro l s σ H x y v u Q I rx ry h;obtain⟨i,j,rfl,rfl,e,q⟩:=h;obtain⟨t,rfl⟩:=rx;obtain⟨t',rfl⟩:=ry;exact rule i j t t' s _ _ e (cG4 (g i j) H fm aU3)
def Ov{f:bx2}{g:Int->Int->Int}
  (rule:∀(i j:Int)(t u:Tok)(s:Shared)(Q:Es)(E:Es),Q (fj (g i j) s.toks) ch2->Ψ (f aE8 (fj j u)) Q E s) :
  OpR X f (rI0 λ i j=>È (g i j)):=by
 intro e s σ H x y v u Q I rx ry h;obtain⟨i,j,rfl,rfl,q⟩:=h;obtain⟨t,rfl⟩:=rx;obtain⟨t',rfl⟩:=ry;exact rule i j t t' s _ _ (cG4 (g i j) H fm aU3)
def CV{f:bx2}{g:Int->bx1}
  (rule:∀(i j:Int)(t u:Tok)(s:Shared)(Q:Es)(E:Es),Q (E7 (g i j)) s->Ψ (f aE8 (fj j u)) Q E s) :
  OpR X f (rI0 λ i j=>ξ (g i j)):=by
 intro e s σ H x y v u Q I rx ry h;obtain⟨i,j,rfl,rfl,q⟩:=h;obtain⟨t,rfl⟩:=rx;obtain⟨t',rfl⟩:=ry;exact rule i j t t' s _ _ (aZ6 (g i j) H I q)
def Qpi(i j:Int):Û:=0<j/\j<EL
def Qpj(i j:Int):Û:=0<=j/\al8 j/\i.natAbs<cn4
def CMul(i j:Int):Û:=(-cn4<i/\i<cn4)∨(-cn4<j/\j<cn4)
def CMul.ok{i j:Int}(h:CMul i j):IntMulOk i j:=by
 rcases h with ⟨h1,h2⟩|⟨h1,h2⟩
 ·exact .of_left (intBits_le_64 h1 h2)
 ·exact .of_right (intBits_le_64 h1 h2)
def Qni:nS X .Add (rI0 λ i j=>È (i+j)):=Ov (ae0 (add_int q))
def Qnn:nS X .Sub (rI0 λ i j=>È (i-j)):=Ov (ae0 (sub_int q))
def Qnl:nS X .Mult (rI CMul λ i j=>È (i * j)):=opI λ_ _ _ _ _ _ _ e q=>mul_int q e.ok
def Qlh:nS X .FloorDiv (rI Qpi λ i j=>È (i / j)):=opI λ i j _ _ _ _ _ e q=>by have h1:Ì 0<j:=e.1;have h2:j<EL:=e.2;exact floordiv_int À (Å (Int.fdiv_eq_ediv_of_nonneg i À) q) (ê (PyProof.noPylong_small À))
def Qnk:nS X .Mod (rI (λ_ j=>0<j) λ i j=>È (i % j)):=opI λ i j _ _ _ _ _ e q=>by have h1:Ì 0<j:=e;exact mod_int' À (Å (Int.fmod_eq_emod_of_nonneg i À) q)
def Qnm:nS X .Pow (rI Qpj λ i j=>È (i ^ j.toNat)):=opI λ_ _ _ _ _ _ _ e q=>pow_int_small e.1 e.2.1 e.2.2 q
def unI{f:at3}{g:Int->Int}
  (rule:∀(i:Int)(t:Tok)(s:Shared)(Q:Es)(E:Es),Q (fj (g i) s.toks) ch2->Ψ (f aE8) Q E s) :
  UnR X f (rU λ i=>È (g i)):=by
 intro e s σ H x v Q I rx h;obtain⟨i,rfl,q⟩:=h;obtain⟨t,rfl⟩:=rx;exact rule i t s _ _ (cG4 (g i) H fm aU3)
def Qn4:UnR X (unaryOp .USub) (rU λ i=>È (-i)):=unI λ_ _ _ _ _ q=>neg_int q
#where
section
variable{X:Cx}{a b c:Expr}{ta tb tc:TE}{pos:Pos}
def RB{Q:VK}{k f:Bool}(I:Ϝ)(q:Q (ξ k) H)(e:k=f):EP X O9 σ Q (E7 f) s:=aE5 e (aZ6 k H I q)
def QoO:aj3 X .Lt (rI0 λ i j=>cR8 i j):=CV (ae0 (lt_int q))
def QoN:aj3 X .LtE (rI0 λ i j=>ξ (FX i j)):=CV (ae0 (le_int q))
def QoM:aj3 X .Gt (rI0 λ i j=>cR8 j i):=CV (ae0 (gt_int q))
def QoL:aj3 X .GtE (rI0 λ i j=>ξ (FX j i)):=CV (ae0 (ge_int q))
def Qnj:aj3 X .Is (λ x y H Q=>y=ī/\Q (ξ (oX x ī)) H):=by
 intro e s σ H x y v u Q I rx ry h;obtain⟨rfl,q⟩:=h;cases ry;refine is_none_gen (RB I q ?_);cases x<;>first
  | (cases rx;rfl)
  | (obtain⟨t,rfl⟩:=rx;rfl)
def Qli:aj3 X .IsNot (λ x y H Q=>y=ī/\Q (bv6 (oX x ī)) H):=by
 intro e s σ H x y v u Q I rx ry h;obtain⟨rfl,q⟩:=h;cases ry;refine isnot_none_gen (RB I q ?_);cases x<;>first
  | (cases rx;rfl)
  | (obtain⟨t,rfl⟩:=rx;rfl)
def QK(b:Expr){e:CmpOp}(h:e≠.In:=by decide)(h2:e≠.NotIn:=by decide):AA e b:=by
 have f:pk e CmpOp.In:=L6 e rfl h
 have i:pk e CmpOp.NotIn:=L6 e rfl h2
 cases b<;>simp[behindInMarks,f,i]
def Qlm{e:CmpOp}{r:R2}(n:aj3 X e r)(i:cg0)(j:bX b tb)(l:AA e b):bX (.Compare a [e] [b] pos) (tOp r ta tb):=aj9 f s H Q I h (wpAny_Compare1 (Ik i j I h λ v u z x y H2 I2 o t q=>n f z σ H2 x y v u Q I2 o t q) l)
def Pb(t:TE):TT:=λ σ H Q=>t σ H λ x H'=>∃k,x=ξ k/\cH8 k
def QlC{i:CmpOp}{r:R2}(o:aj3 X i r)(j:cg0)(l:bX b tb)(n:AA i b):PT X (.Compare a [i] [b] pos) (Pb (tOp r ta tb)):=by
 intro f s σ H Q I h;refine wpAny_isTrue_Compare1 (thn (j f s σ H _ I h) λ v t ⟨x,H1,I1,r1,q1⟩=>thn (l f t σ H1 _ I1 q1) λ u C ⟨y,H2,I2,r2,q2⟩ =>
  thn (o f C σ H2 x y v u _ I2 r1 r2 q2) λ c F ⟨z,H3,I3,r3,k,e,q3⟩=>?_) n
 subst e;cases r3;exact qv (da H3 I3 q3)
def Rt(r e:R2)(ta tb tc:TE):TE:=λ σ H Q=>ta σ H λ x H1=>tb σ H1 λ y H2=>r x y H2 λ z H3=>∃k,z=ξ k /\
 df k (tc σ H3 λ f H4=>e y f H4 Q) (Q π H3)
def Qju{l f:CmpOp}{r n:R2}(R:aj3 X l r)(j:aj3 X f n)(L:cg0)(O:bX b tb)(P:bX c tc)
    (hm:ė (lastMarks [l,f] [b,c]):=by with_unfolding_all rfl):PT X (.Compare a [l,f] [b,c] pos) (Pb (Rt r n ta tb tc)):=by
  intro i s σ H Q I h;refine isTrue_chain (thn (L i s σ H _ I h) λ v s1 ⟨x,H1,I1,r1,q1⟩=>test_link (thn (O i s1 σ H1 _ I1 q1) λ u s2 ⟨y,H2,I2,r2,q2⟩ =>
    thn (R i s2 σ H2 x y v u _ I2 r1 r2 q2) λ d s3 ⟨z,H3,I3,r3,k,e,q3⟩=>?_)) hm
  subst e;cases r3;refine qv ?_;cases k with
  |false=>obtain⟨k',F,U⟩:=q3;cases F;exact ite_ff (da H3 I3 U)
  |true=>refine ite_tt (test_last (fT (P i s3 σ H3 _ I3 q3) w' s4 z' H4 I4 r4 q4 (ō (j i s4 σ H4 y z' u w' _ I4 r2 r4 q4) d' s5 C)));obtain⟨z2,o,t,r5,k2,J,Y⟩:=C;subst J;cases r5;exact qv (da o t Y)
def Im(K:Aa)(x:V)(H:Hp)(k:Bool):Û :=
 match x with
 |.non=>ė k
 |.bl b=>k=b
 |.int i=>k=(i != 0)
 |.str y=>ÿ ⇑y/\k=((Ì ⇑y) != 0)
 |.byt y=>ÿ y.size/\k=((Ì y.size) != 0)
 |.ref p=>(∃xs,Ps K p/\k=ap6)∨(∃xs,bR9 p/\k=ap6)∨∃kvs,H p>=(.dK kvs)/\k=bM0
 |_=>False
def QdO{κ:re}{kvs:cv9}{vs:al4}(r:am0):mP vs.isEmpty=bM0:=kb r
def Gm{xs:Β}{e:ó}(r:au7 e):mP e.toArray.isEmpty=ap6:=by cases r<;>simp
def Gw:(sizeLine:Nat)<2 ^ 63:=be4 sizeLine_eq
def Qn1:Qpm X (λ x H Q=>∃k,Im X.K x H k/\Q k H):=by
  intro u s σ H x v Q I rx h;obtain⟨k,e,q⟩:=h;have z:=Gw;have C:sizeLine=16777216:=sizeLine_eq;cases x with
  |non=>cases rx;have f:ė k:=e;subst f;exact truthy_none (da H I q)
  |bl b=>cases rx;have f:k=b:=e;subst f;exact qv (da H I q)
  |int i=>obtain⟨t,rfl⟩:=rx;have f:k=(i != 0):=e;subst f;exact PySem.P.truthy_int (da H I q)
  |str y=>obtain⟨t,rfl⟩:=rx;obtain⟨o,f⟩:ÿ ⇑y/\k=((Ì ⇑y) != 0):=e;subst f;exact PySem.P.truthy_str À (da H fm q)
  |byt y=>obtain⟨t,rfl⟩:=rx;obtain⟨o,f⟩:ÿ y.size/\k=((Ì y.size) != 0):=e;subst f;exact PySem.W.truthy_bytes À (da H fm q)
  |ref p =>
    cases rx;have f:(∃xs,Ps X.K p/\k=ap6)∨(∃xs,ch0 p/\k=ap6)∨∃kvs,H p>=(.dK kvs)/\k=bM0:=e;rcases f with ⟨xs,hx,f⟩|⟨xs,hx,f⟩|⟨kvs,hx,f⟩
    . subst f
      obtain⟨l,r,pl,hz⟩:=FO hx;have j:=lc;exact wpAny_truthy_list pl.isList bP7 (da H fm (Å (Gm r) q))
    . subst f
      obtain⟨l,r,pl,hz⟩:=gd hx;have j:=lc;exact truthy_tuple pl bP7 (da H fm (Å (Gm r) q))
    . subst f
      obtain⟨hz,n,vs,r,m⟩:ÿ Ϟ/\IO p/\∃vs,am0/\s.heap.DictOf LL p vs:=I.hok p _ hx;have j:Ϟ=IQ:=PM r;exact wpAny_truthy_dict n m À (da H fm (Å (QdO r) q))
  |_=>exact aV7 e
def Qjv(f:cg0)(i:∀whole,ce5 a=be6 v whole a.pos (OF [v] aM8)):
  PT X a (λ σ H Q=>ta σ H λ x H'=>∃k,Im X.K x H' k/\cH8 k):=by
 intro e s σ H Q I h;exact isTrue_plain (fT (f e s σ H _ I h) v j x H1 I1 r1 q1 (Qn1 e j σ H1 x v Q I1 r1 q1)) (i _)
def VC{us:ó}(r:f8 [x]):∃u,us=[u]/\ϟ x:=by
 cases r with
 |cons e f=>cases f;exact ĸ _ e
def Dk{us:ó}(r:f8 [x,y]):∃u e,us=[u,e]/\ϟ x/\RelV y e:=by
  cases r with
  |cons f h =>
    cases h with
    |cons i j=>cases j;exact A5 _ _ f i
def Qgi(f:ϙ):ap7 "max" (λ xs H Q=>∃i j,xs=[ng,bA7]/\Q ↥(É (j > i) j i) H):=by
 intro l s σ H xs us Q I r h;obtain⟨i,j,rfl,q⟩:=h;obtain⟨u,o,rfl,⟨t,rfl⟩,⟨t',rfl⟩⟩:=Dk r;refine max_two_ints (ah4 f) λ h' n k=>cm4 _ H (I.kept k) ?_;by_cases e:j > i
 ·rw[aL7,aL7];exact aU3
 ·rw[OO,OO];exact aU3
def Qgj(f:ϙ):ap7 "min" (λ xs H Q=>∃i j,xs=[ng,bA7]/\Q ↥(É (j<i) j i) H):=by
 intro l s σ H xs us Q I r h;obtain⟨i,j,rfl,q⟩:=h;obtain⟨u,o,rfl,⟨t,rfl⟩,⟨t',rfl⟩⟩:=Dk r;refine min_two_ints (ah4 f) λ h' n k=>cm4 _ H (I.kept k) ?_;by_cases e:j<i
 ·rw[aL7,aL7];exact aU3
 ·rw[OO,OO];exact aU3
#where
structure ObjM(h:Heap)(x dx C:Addr)(mA:Eu):Û where
 obj:ż x (bq4 dx)
 ns:h.Ns1 dx mA
 ne:dx≠x
def QgR{h:Heap}{c:Addr}{f:Eu}(n:h.Ns1 c f):∃i,ż c i/\∀name,aW1 i>=(f name):=by
 obtain⟨o,es,ep,u,hd,l,_,r⟩:=n;refine da o u (NV name);have e:=r name;unfold nsFind findBy at e;rw[<- Array.find?_toList]at e;unfold PySem.W.lookIn;rw[hd];dsimp only;split
 ·rename_i y q;rw[q]at e;exact im some e
 ·rename_i q;rw[q]at e;have a:ė (es.toList.any (·.refKey)):=by rw[List.any_eq_false];intro y v;obtain⟨z,t,b⟩:=l y (Array.mem_toList_iff.mp v);simp[DictEntry.refKey,b]
  have j:¬ Ĝ (es.toList.any (·.refKey)):=Å a By
  rw[Eg j];exact im some e
def ObjM.look{x b C:Addr}{c:Eu}(I:ObjM h x b C c):∃a,PySem.W.InstAt h x (bq4 b) C (è a)/\∀name,aW1 a>=(c name) :=
 let ⟨a,f,e⟩:=QgR I.ns
 da a (Α I.obj rfl f) e
section
variable{prog:Program}{w:World}{A:Around}{E:Es}{s:Shared}{K:Aa}{x dx C f:Addr}{mA:Eu}{name:Str}{v:Value}
def QkT{a:Bool}{Q:Es}(X:an3)(I:ObjM s.heap x dx C mA)(b:Pf K C name)(c:ac7 K C)
  (ha:aS K C name>=none) (hv:mA name>=v) (hv':Ĝ (PySem.W.handedIn v)) (h:Q v ch2) :
  ff w A (getAttr ↑x name a) Q E s:=by
 obtain⟨i,J,e⟩:=I.look;exact PySem.W.get_value X J (aW2 b).1 (PySem.W.findObj_own c ha rfl (Ξ e hv)) hv' h
def Qiq{pl:aM7}{Q:Value × ó->Ε}(X:an3)(I:ObjM s.heap x dx C mA)(a:Pf K C name)
  (hf:aS K C name>=aQ6) (ht:ad8 K PQ) (hv:Ū (mA name)) (h:Q (ë f,[ë x]) s) :
  ff w A (af0 ↑x name) Q E s:=by
 obtain⟨c,J,b⟩:=I.look;exact PySem.W.method_fn X J (aW2 a).1 (aW2 a).2 hf (beq_iff_eq.mp ht) (bn5 (pc (aW1 c) cH6>=false) b hv) h
def QlY{ns:cr}{Q:cl0}(X:an3)(I:ObjM s.heap x dx C mA)
  (hs:aS K C bV1 = è (è ag0)) (hp:aR0 K C) (ht:PySem.W.takerIn K C name>=none) (hh:ac7 K C)
  (hw:PySem.Within mA ns) (hsz:ÿ mh)
  (h:∀h',ObjM h' x dx C (λ y=>É (y=name) Oa (mA y))->cV2 dx h'->Q () (ck3 (bz2 2))) :
  ff w A (setAttr ↑x name v) Q E s:=by
 obtain⟨O,J,F⟩:=I.look;refine PySem.W.set_plain X J hs (PySem.W.osa_open (s:=ch2) (r:=none) X J hp ht (NV b));obtain⟨z,u,j⟩:=PySem.W.any_some hh;have hx:ô x (Nc (ë C) (è dx) .plain Nl):=I.obj;refine be7 (aG0 (wpAny_loadPart hx (Ef (PySem.W.Looks.here (s:=ch2) (PySem.W.looks_clsIn X u) ?_))));rw[j];refine Ei (a:=è dx) (be7 aN1);refine wpAny_nsSet1 (s:=ch2) I.ns (Ł h' c e);obtain⟨L,t,o,n,l,i⟩:=c.count (PySem.Within.cons name v hw);refine Ef (wpAny_lookBehind n (Å l (pastItsLine_dict (Bj i (Ĵ Ba)))) ?_);exact Ei (h _ (da (å (e.2 _ (Ş I.ne)) I.obj) c I.ne) e)
def QiL{R:Result->Ε}{vs:ó}{a:ap5}(X:an3)(b:bk6 K C)
  (hi:aS K C ac5 = è aQ6) (hf:PySem.W.typeIn K PQ>=(ĭ "function"))
  (h:codeAny al1 (aN5 ad3 (Ĭ (ë C::vs) a)) (.call PQ (Ĭ (ë EV::vs) a)) (PySem.W.InitBack EV R)
   (LF ((l6).push (mr C)))) :
  codeAny al1 A (.call ↑C (Ĭ vs a)) R s:=by
 obtain⟨c,g,d,t,os⟩:=s;exact PySem.W.make_core (PySem.W.makes_of X b) (PySem.W.looks_findIn X hi) (λ self=>PySem.W.bind_fn X self hf) ı h
#where
def qu(f:Str)(v:V):cR7->cR7
 | []=>[(f,v)]
 | (g,x)::r=>É (g=f) ((g,v)::r) ((g,x)::qu f v r)
def UE(f g:Str)(v:V):∀fs:cR7,(qu f v fs).lookup g=É (g=f) Oa (mx g)
  | []=>by
    show List.lookup g [(f,v)]=_;by_cases h:g=f
    . have a:PH g f:=bf1
      simp only[List.lookup,a,cH1]
    . have a:pk g f:=pV h
      simp only[List.lookup,a,Eg h]
  | (k,x)::r=>by
    have c:=UE f g v r;rw[tz (qu f v ((k,x)::r)=É (k=f) ((k,v)::r) ((k,x)::qu f v r))];by_cases b:k=f
    . rw[Eh b]
      by_cases h:g=k
      . have a:PH g k:=bf1
        simp only[List.lookup,a,Eh (h.trans b)]
      . have a:pk g k:=pV h
        simp only[List.lookup,a,Eg (λ e:g=f=>h (aW3 b.symm))]
    . rw[Eg b]
      by_cases h:g=k
      . have a:PH g k:=bf1
        simp only[List.lookup,a,Eg (λ e:g=f=>b (h.symm.trans e))]
      . have a:pk g k:=pV h
        simp only[List.lookup,a];exact c
def V7(f:Str)(v:V):∀fs:cR7,f∈bw7 (qu f v fs)/\∀g,g∈au9->g∈bw7 (qu f v fs)
  | []=>Ĭ (ą qu) (λ g h=>c9 h)
  | (k,x)::r=>by
    obtain⟨b,c⟩:=V7 f v r;rw[tz (qu f v ((k,x)::r)=É (k=f) ((k,v)::r) ((k,x)::qu f v r))];by_cases a:k=f
    . rw[Eh a]
      subst a;exact Ĭ Ê (λ g h=>Ä h)
    . rw[Eg a]
      refine Ĭ ?_ (Ź g h)
      . rw[Bb]
        exact ch6 b
      . rw[Bb]at h ⊢
        rcases Nm h with e|e
        . exact Bk.mpr (ê e)
        . exact ch6 (c g e)
def UD(f:Str)(v:V):∀fs:cR7,⇑(qu f v fs)<=aF1+1
  | []=>ą qu
  | (k,x)::r=>by
    have b:=UD f v r;rw[tz (qu f v ((k,x)::r)=É (k=f) ((k,v)::r) ((k,x)::qu f v r))];by_cases a:k=f
    . rw[Eh a,Ba,Ba];lia
    . rw[Eg a,Ba,Ba];lia
def RelO.some_of{o:mN}(r:RelO Oa o):∃u,o>=u/\ϟ v:=by
 cases o with
 |none=>exact aV7 r
 |some u=>exact ĸ u r
def RelO.none_of{o:mN}(r:RelO none o):Ū o:=by
 cases o with
 |none=>rfl
 |some u=>exact aV7 r
def QgE(r:ϟ v):Ĝ (PySem.W.handedIn u):=by
 cases v with
 |non=>cases Ý (u=Value.none) r;rfl
 |bl b=>cases Ý (u=bq0 b) r;rfl
 |int i=>obtain⟨t,e⟩:=Ý (∃t,u=ah0 t) r;cases e;rfl
 |str x=>obtain⟨t,e⟩:=Ý (∃t,u=au5 t) r;cases e;rfl
 |byt b=>obtain⟨t,e⟩:=Ý (∃t,u=Value.bytes b t) r;cases e;rfl
 |flt b=>obtain⟨t,e⟩:=Ý (∃t,u=Value.float b t) r;cases e;rfl
 |ref a=>cases Ý (u=Τ a) r;rfl
 |ty n=>cases Ý (u=A0 n) r;rfl
section
variable{P:Program}{w:World}{H H':Hp}{h h':Heap}{a C dx:Addr}{fs fs':cR7}
def kR(hok:bF1)(e:F6>=cm9):∃b,ObjM h a dx C b/\(∀f,RelO cc7 (b f))/\PySem.Within b (au9)/\aF1<=FI/\H dx>=(.own a):=by obtain⟨d,z,ne,c,b,n,r,q⟩:=Ý (aF2 w H h a cm9) (hok a _ e);exact⟨b,da c n ne,r,q,z,d⟩
#where
structure Cls(K:Aa)(C:Addr):Û where
 pg:Pf K C Str.empty
 hd:ac7 K C
 po:aR0 K C
 sa:aS K C bV1 = è (è ag0)
def Cls.get{K:Aa}{C:Addr}(c:cX0)(f:Str):Pf K C f:=c.pg
def NoAttr(K:Aa)(C:Addr)(f:Str):Û:=aS K C f>=none
def NoAttr.taker{K:Aa}{C:Addr}{f:Str}(n:bG2 K f):PySem.W.takerIn K C f>=none:=þ PySem.W.takerIn (Ý (aS K C f>=none) n)
structure rD(K:Aa)(C:Addr)(m:Str)(f:Addr):Û where
 at_:aS K C m>=aQ6
 fn:ad8 K PQ
 kp:bI K PQ
section
variable{X:Cx}{O9:Et}{σ:St}{H:Hp}{s:Shared}{a C dx:Addr}{fs:cR7}{f:Str}{v:V}{A:Around}{E:Es}
def K8{b:Bool}{Q:Es}(I:Ϝ)(e:F6>=cm9)(c:cg4)(n:bG2 X.K f)(l:cc7>=v)
  (h:∀u s',Ŵ s'->ϟ v->Q u s'):Ţ A (getAttr Ŗ f b) Q E s:=by
 obtain⟨t,O,r,_,_,_⟩:=kR I.hok e;obtain⟨u,j,i⟩:=bn6 v o (t f) (æ l (r f));exact QkT I.kIn O (c.get f) c.hd n j (QgE i) (h u _ fm i)
def xZ{m:Str}{g:Addr}{pl:aM7}{Q:Value × ó->Ε}(I:Ϝ)(e:F6>=cm9)(c:cg4)(k:rD X.K C m g)(l:Ū cE2)
  (h:Q (ë g,by9) s):Ţ A (af0 Ŗ m) Q E s:=by
 obtain⟨i,O,r,_,_,_⟩:=kR I.hok e;have b:Ū (i m):=RelO.none_of (æ l (r m));exact Qiq I.kIn O (c.get m) k.at_ k.fn b h
def vf{Q:cl0}(I:Ϝ)(e:F6>=cm9)(c:cg4)(n:bG2 X.K f)(P:aF1<FI)(L:cD7)
  (h:∀s',Ŋ (TB (cm6 dx (qu f y fs))) s'->Q () s'):Ţ A (setAttr Ŗ f u) Q E s:=by
 obtain⟨j,O,r,l,_,i⟩:=kR I.hok e;have hz:ÿ ⇑(au9):=OQ Bq sizeLine_eq
 refine QlY I.kIn O c.sa c.po n.taker c.hd l hz λ h' O' sb=>h _ ?_;have hd:∃o,ķ dx o:=ah5 o t O'.ns o t;refine I.write (x:=a) (e:=dx) bN5 (Ğ i) (λ b q F z=>å (sb.2 b F) z) hd ?_;refine⟨iL O.ne i,?_,O.ne,O'.obj,_,O'.ns,NV g,Ź g J⟩
 ·have:=UD f y fs;lia
 ·show RelO ((qu f y fs).lookup g) (aI8 (g=f) u (j g));rw[UE];by_cases q:g=f
  ·rw[Eh q,Eh q];exact L
  ·rw[Eg q,Eg q];exact r g
 ·by_cases q:g=f
  ·rw[q];exact(V7 f y fs).1
  ·refine(V7 f y fs).2 g (l g λ z=>J ?_);show Ū (aI8 (g=f) u (j g));rw[Eg q];exact z
def Inv.made(I:Ϝ):Inv X O9 σ (cm7 (ak8 (.own EV)) EV s.heap.objs.size [])
  (LF ((l6).push (mr C))):=by
 have c:az4 (l6).get?>=PySem.W.emptyDict:=oC s.heap;have i:((l6).push (mr C)).get? EV>=(mr C):=by
  have:=Av l6 (o:=mr C) rfl
  rwa [Cn]at this
 have j:G6 (l6).Ns av5:=⟨PySem.W.emptyDict,Nl,_,c,rfl,(λ e l=>ď l Ê),aj2⟩;have h:=I.laid (a:=s.heap.objs.size) (o:=.own EV) (h':=l6) (t':=s.toks) (λ b u q=>jl q) ę (Ĭ _ c);refine h.laid (a:=EV) (o:=cm6 s.heap.objs.size []) (t':=s.toks) (λ b u q=>jl q) (Nat.le_of_eq (Cn _ _)) ?_;have ne:be1 EV:=Bf (C6 _);refine⟨Ξ (QP ne) Q0,CO,ne,i,av5,(Heap.Ns1.of_empty j).at λ o q=>jl q,λ_=>True.intro,λ y n=>aA7 n⟩
def Qkt{prog:Program}{w:World}{f:Str}{pos:Pos}{s:Shared}{Q:Es}(b:attributeBase e f env (bP5 e)=bP5 e)
  (h:ff w A (bP5 e) (λ o s₁=>ff w A (getAttr o f true) Q E s₁) E s):ff w A (bP5 (ť e f pos)) Q E s :=
 Attribute_any_ h (Ξ arm_eval_Attribute b)
#where
def QpH(K:Aa)(c:TE)(f:Str):TE:=λ σ H Q=>c σ H λ x H1=>∃a C b fs v,x=ų/\H1 a>=(cm8 b)/\cX0/\bG2 K f/\cc7>=v/\Q v H1
def QpD(K:Aa)(c e:TE)(f:Str):TS:=λ D σ H=>e σ H λ y H1=>c σ H1 λ x H2=>∃a C b fs,x=ų/\H2 a>=(cm8 b)/\cX0/\bG2 K f/\aF1<FI /\
 cI0 (cm7 H2 a b (qu f y fs))
def Oq(X:Cx)(b:Operator)(rd:V->V->Hp->tM):Û :=
 ∀(a:Et)(s:Shared)(σ:St)(H:Hp)(x y:V)(u v:Value)(Q:VK),cD1->ϟ x->az6 y->rd x y H Q->cF6 (inplaceOp b u v) X a Q s
def QlU(K:Aa)(i j:TE)(rd:V->V->Hp->tM)(f:Str):TS:=λ D σ H=>i σ H λ x H1=>∃a C h fs v,x=ų/\H1 a>=(cm8 h)/\cX0/\bG2 K f/\cc7>=v /\
 j σ H1 λ y H2=>rd v y H2 λ z e=>∃c b,e a>=(cm6 c b)/\bE3<FI/\cI0 (cm7 e a c (qu f z b))
section
variable{X:Cx}{o e value:Expr}{f:Str}{pos pos' tpos:Pos}{ta tv:TE}
def Qns(F:bl4 e)(z:LO e f (Ù e)=Ù e):bX (ť e f pos) (QpH X.K ta f):=by intro r s σ H Q I h;refine Qkt z (ō (F r s σ H _ I h) u P t);obtain⟨x,b,i,L,a,C,O,fs,v,ex,y,c,n,l,q⟩:=t;subst ex;obtain rfl:u=Τ a:=L;exact K8 i y c n l λ U R j J=>cm4 v b j J
def QnJ(v:bl4 o)(F:bX value tv)(z:ap8 value (è (ť o f pos'))=N7):PS X (cX6 [ť o f pos'] value) (QpD X.K ta tv f):=by intro b s σ H D I h;refine plainObj_wpAny_Assign_Attribute (fT (F b s σ H _ I h) u P y H1 I1 ry q (ō (v b P σ H1 _ I1 q) J U r)) z;obtain⟨x,Q,i,O,a,C,R,fs,ex,t,c,n,l,L⟩:=r;subst ex;obtain rfl:J=Τ a:=O;exact vf i t c n l ry λ Y j=>Nc σ _ j L
def Qg7{t:Operator}{rd:V->V->Hp->tM}(U:bl4 o)(Y:bX value tv)(r:Oq X t rd):PS X (.AugAssign (ť o f tpos) t value pos) (QlU X.K ta tv rd f):=by intro b s σ H D I h;refine wpAny_AugAssign_AttributeAny (ō (U b s σ H _ I h) ov s1 i);obtain⟨x,F,J,rx,a,C,dx,fs,v,ex,Q,c,n,l,q⟩:=i;subst ex;obtain rfl:ov=Τ a:=rx;refine K8 J Q c n l λ u s2 I2 ru=>fT (Y b s2 σ F _ I2 q) w3 s3 y H2 I3 ry q3 (ō (r b s3 σ H2 v y u w3 _ I3 ru ry q3) w4 s4 i);obtain⟨z,H3,L,rz,P,R,j,l',q4⟩:=i;exact vf L j c n l' rz λ s5 O=>Nc σ _ O q4
def SZ:V->V->Hp->tM:=λ x y H Q=>∃i j,x=ng/\y=bA7/\Q ↥(i+j) H
def QmT:Oq X .Add SZ:=by rintro a s σ H x y u v Q I rx ry ⟨i,j,rfl,rfl,q⟩;obtain⟨t,rfl⟩:=Ý (∃t,u=ah0 t) rx;obtain⟨t',rfl⟩:=Ý (∃t',v=Value.int j t') ry;exact PyProof.Rows.iadd_int (cG4 (i+j) H fm aU3)
def Qmr{pl:aM7}{m:Str}{b:Pos}{args:Ϡ}{Q:Es}(y:bX e te)(I:Ϝ)
  (h:te σ H λ x j=>∃a C r fs g,x=ų/\j a>=(cm8 r)/\cg4/\rD X.K C m g/\Ū cE2 /\
   ∀i,Ŋ j i->χ (aW4 pos ↑g by9 args cF5) Q i)
  (ht:Ù (bS4 e m b args)=(do
   let ov <- Ù e
   standAt b.atName
   let (f,first) <- OF [ov] (af0 ov m)
   aW4 pos f first args cF5)) :
  ct9 (bS4 e m b args) Q s:=by
 refine aB1 pl (ō (y O9 s σ H _ I h) u i t) ht;obtain⟨x,j,n,z,a,C,r,fs,g,ex,v,c,k,l,q⟩:=t;subst ex;obtain rfl:u=Τ a:=z;exact xZ n v c k l (q i n)
#where
section
variable{X:Cx}{O9:Et}{σ:St}{H:Hp}{s:Shared}{A:Around}{E:Es}{Q:Es}{c:Value}{b:Bool}
#where
structure Room(k:Nat)(A:Around):Û where
 hd:nI
 dp:A.depth+3 * k+5<recursionLimit
 un:aN2 (16 * k)+200<cLine
def Room.mono{j k:Nat}(r:am1 A)(h:j<=k):Room j A:=da r.hd (Ě r.dp) (Ě r.un)
def Room.deeper{k:Nat}{A:Around}(r:Room (k+1) A)(env:Env):tf k env :=
 da r.hd (S0 r.dp (A.depth+1+3 * k+5<_)) (S0 r.un (aN2 3+16 * k+200<_))
def QdU{A:Around}{C:Addr}{a:ap5}:(aN5 ad3 (Ĭ (ë C::us) a)).depth=A.depth+1:=by
 first|rfl|simp[Around.under,Code.weight,Code.isCreation,Code.isGuard,Code.isCaller,Code.frames,Code.isFrame,guardIds]
def QdV{A:Around}{C:Addr}{a:ap5}:(aN5 ad3 (Ĭ (ë C::us) a)).units=aN2 1:=by
 first|rfl|simp[Around.under,Code.cUnits,Code.frames,Code.isFrame]
def Room.make{k:Nat}{A:Around}(r:Room (k+1) A)(C:Addr)(us:ó)(a:ap5):am1 (aN5 ad3 (Ĭ (ë C::us) a)) :=
 da r.hd (by have:=r.dp;rw[QdU];lia) (by have:=r.un;rw[QdV];lia)
def Room.depth{k:Nat}{A:Around}(r:am1 A):A.depth<recursionLimit:=Ě r.dp
def Room.units{k:Nat}{A:Around}(r:am1 A):aN2 64<cLine:=Ě r.un
def Oi:TA:=λ_ H Q=>Q [] H
def Qpa(a:TE)(b:TA):TA:=λ σ H Q=>a σ H λ x H1=>b σ H1 λ xs H2=>Q (x::xs) H2
section
variable{X:Cx}{e:Expr}{es:Ϡ}{te:TE}{t:TA}{pos:Pos}
def pa_nil:PA X [] Oi:=λ_ _ _ _ H Q I h=>ar0 ⟨[],H,I,mT,h⟩
def xh(f:bX e te)(i:PA X es t)(j:cQ3=ž e::bu8:=by rfl):PA X (e::es) (Qpa te t):=by intro pos O9 s σ H Q I h;rw[j];show ł _ (spliced (ž e::aq0)) _ _ s;refine aq2 (ō (f O9 s σ H _ I h) u n c);obtain⟨x,a,b,l,q1⟩:=c;exact fT (i pos O9 n σ a _ b q1) us o xs H2 I2 r2 q2 ⟨x::xs,H2,I2,fX l r2,q2⟩
def QpP(t:TA):TE:=λ σ H Q=>t σ H λ xs a=>cQ8/\∀p,Ū (a p)->cy0 (upd a p LE)
def QpK(t:TA):TE:=λ σ H Q=>t σ H λ xs a=>cQ8/\∀p,Ū (a p)->cy0 (upd a p cQ5)
def Qnx{x1}(h:PA X es t):bX (.Tuple es x1 pos) (QpP t):=by intro c s σ H Q I hq;refine wpAny_Tuple_spliced (thn (h pos c s σ H _ I hq) λ us a ⟨xs,H1,I1,r,z,q⟩=>CB (æ lc z));have hf:Ū ci5:=I1.hok.fresh ę;refine dE ax2 (upd H1 a.heap.objs.size LE) (I1.laid (t':=a.toks) (λ b u e=>FY) ę ?_) (q _ hf);exact Nc z us r (A5 _ IE _ rfl)
def L_(h:PA X es t):bX (.List es pos) (QpK t):=by intro c s σ H Q I hq;refine wpAny_List_spliced (thn (h pos c s σ H _ I hq) λ us a ⟨xs,H1,I1,r,z,q⟩=>CB (æ lc z));have hf:Ū ci5:=I1.hok.fresh ę;refine dE ax2 (upd H1 a.heap.objs.size cQ5) (I1.laid (t':=a.toks) (λ b u e=>FY) ę ?_) (q _ hf);exact⟨z,us,0,r,IE⟩
#where
abbrev Sp:=Β->Hp->VK->Δ XK
abbrev CXT:=Lu->Hp->Shared->XK->Fn Ε
structure Env0(P:Program)(w:World)(K:Aa)(mg:Eu)(O8:Heap)(A:Around)(outer:Lu)(s:Shared)(H:Hp):Û where
 frames:A.frames>=outer
 mod:Mod K mg O8
 bs:∀b o,O8.get? b>=o->bo6/\cb4
 bsz:O8.objs.size<=s.heap.objs.size
 funs:s.heap.FunFrames O8 outer
 frf:∀b∈frs outer,cb4
 hok:bF0 s.heap
 bare:AllBare s.gens
def CE(outer:Lu)(P:Program)(w:World)(H:Hp)(s:Shared)(Q:VK)(u:Value)(s':Shared):Û :=
 ∃v H',s'.os=s.os/\ad0/\Un (frs outer) [] H H' s.heap s'.heap/\bE9 H' s'.heap/\ϟ v/\cH8 v
def CR(CX:CXT)(outer:Lu)(P:Program)(w:World)(H:Hp)(s:Shared)(Q:VK)(E:XK)(r:Result)(s':Shared):Û :=
 match r with
 |.ok (.ret u)=>CE outer P w H s Q u s'
 |.ok _=>False
 |.error e=>CX outer H s E e s'
structure jq(P:Program)(w:World)(K:Aa)(mg:Eu)(O8:Heap)(CX:CXT)(k:Nat)(f:Addr)(fd:FuncData)(ps:cr)(sp:Sp):Û where
 len:∀vs H Q E,sp vs H Q E->IQ=dO
 run:∀(A:Around)(outer:Lu)(s:Shared)(H:Hp)(args:Args)(us:ó)(vs:Β)(Q:VK)(E:XK),am1 A->Env0 P w K mg O8 A outer s H->ci6 s args ED->f8 vs->sp vs H Q E ->
  codeAny (model P w) A (.call PQ args) (CR CX outer P w H s Q E) s
def Env0.make{w:World}{K:Aa}(e:Env0 P w K mg O8 A outer s H)(C:Addr)(us:ó)(a:ap5):
  Env0 P w K mg O8 (aN5 ad3 (Ĭ (ë C::us) a)) outer s H:=⟨by first|exact e.frames|(simpa [Around.under,Code.envs,Code.isFrame,pushEnvs]using e.frames),e.mod,e.bs,e.bsz,e.funs,e.frf,e.hok,e.bare⟩
section
variable{X:Cx}{O9:Et}{σ:St}{H:Hp}{s s':Shared}
def Inv.env0(I:Ϝ):Env0 X.prog X.w X.K X.mg X.O8 X.A X.stack s H :=
 ⟨I.ok.frames,I.ok.mod,I.bs,Bj I.ok.bsz I.sz,I.stack,I.stkFree,I.hok,I.bare⟩
def Inv.after(I:Ϝ)(h:CE X.stack X.prog X.w H s Q u s'):EP X O9 σ Q u s':=by obtain⟨v,H',os,bare,un,hok,r,q⟩:=h;obtain⟨c,g,d,t,a⟩:=s';obtain rfl:a=s.os:=os;exact cm4 v H' (I.call (h':=c) (g':=g) (d':=d) (t':=t) (ch:=[]) un hok bare (λ b z=>ď z Ê)) r
#where
def Qo9(sp:Sp)(a:Β)(E:XK)(t:TA):TE:=λ σ H Q=>t σ H λ vs H1=>sp (vs++a) H1 Q E
def Iz(C:Addr)(m:Str)(sp:Sp)(b:Β)(E:XK)(e:TE)(t:TA):TE:=λ σ H Q=>e σ H λ x H1=>∃a c fs,x=ų/\H1 a>=(cm8 c)/\Ū cE2 /\
 t σ H1 λ vs H2=>sp (x::(vs++b)) H2 Q E
def Binds(K:Aa)(fd:FuncData)(ps:cr)(ds:ó):Û :=
 bz5 s us ó (an3->⇑(us++ds)=dO->ci6 s (wP us) (ps.zip (us++ds)))
def Binds.all{K:Aa}{ps:cr}(h:∀us:ó,cG8=dO->an4 fd us=Ô ED):ck6 K []:=λ s us _ a=>by rw[Br]at a ⊢;exact .of_eq (h us a)
def qh(CX:CXT)(X:Cx)(E:XK):Û:=∀(a:Et)(σ:St)(H:Hp)(s:Shared)(e:Value)(s':Shared),cD1->CX X.stack H s E e s'->X.xe e s'
section
variable{X:Cx}{CX:CXT}{k:Nat}{f C:Addr}{fd:FuncData}{ps:cr}{sp:Sp}{dvs:Β}{ds:ó}{E:XK}{x m:Str}{p pos apos:Pos}{e o:Expr}{es:Ϡ}{ta:TE}{t:TA}
def Lh{b:Et}{σ:St}{H:Hp}{s:Shared}{Q:VK}{us:ó}{vs:Β}(F:jq X.prog X.w X.K X.mg X.O8 CX k f fd ps sp)(n:bb2)(j:ck6 X.K ds)(hd:Vals dvs ds)(hx:qh CX X E)
    (I:cD0 b) (r:f8 vs) (h:sp (vs++dvs) H Q E):cF6 (call PQ us) X b Q s:=by
  have c:Vals (vs++dvs) (us++ds):=r.append hd;have l:⇑(us++ds)=dO:=æ ch3 (F.len _ _ _ _ h)
  refine wpAny_call (br5 (F.run X.A X.stack s H (wP us) (us++ds) (vs++dvs) Q E n I.env0 (j s us I.kIn l) c h) r s' a);cases r with
  |error e=>exact hx b σ H s e s' I a
  |ok i =>
    cases i with
    |ret u=>exact I.after a
    |next=>exact Nt a
    |brk=>exact Nt a
    |cont=>exact Nt a
def Qll(F:jq X.prog X.w X.K X.mg X.O8 CX k f fd ps sp)(l:bb2)(c:cf8)(j:X.mg x>=PQ)(i:bI X.K PQ)(b:ck6 X.K ds)(hd:Vals dvs ds)(hx:qh CX X E)
  (ha:PA X (e::es) t) (hdb:bn2:=by decide) (he:cQ3=ž e::bu8:=by rfl) (hpl:ė ((aq0).any ļ):=by rfl) :
  bX (NL x p (e::es)) (Qo9 sp dvs E t):=by
 intro a s σ H Q I h;refine wm (Ms I c j ?_ hdb);refine PySem.W.callWith_K (h₀:=X.O8) I.ok.mod.kin i (fT (ha pos a s σ H _ I h) us n vs H1 I1 r q (CB I1.kIn)) he hpl;exact Lh F l b hd hx I1 r q
def Qlp{pl:aM7}(L:bl4 o)(c:cg4)(j:rD X.K C m f)(F:jq X.prog X.w X.K X.mg X.O8 CX k f fd ps sp)(O:bb2)(J:ck6 X.K ds)(hd:Vals dvs ds)(hx:qh CX X E)(z:PA X (e::es) t)
  (hst:cQ3=ž e::bu8:=by rfl) (hpl:ė ((aq0).any ļ):=by rfl)
  (ht:Ù (bT3 o m (e::es))=(do
   let ov <- aU2
   ad1
   let (f,first) <- OF [ov] (af0 ov m)
   aW4 pos f first (e::es) cF5):=by rfl) :
  bX (bT3 o m (e::es)) (Iz C m sp dvs E ta t):=by
 intro i s σ H Q I h;refine aB1 pl (ō (L i s σ H _ I h) u R v) ht;obtain⟨x,n,b,P,a,U,fs,ex,y,l,q⟩:=v;subst ex;obtain rfl:u=Τ a:=P;refine xZ b y c j l ?_;refine PySem.W.callWith_K (first:=by9) (h₀:=X.O8) I.ok.mod.kin j.kp (fT (z pos i R σ n _ b q) us Y vs H2 I2 r q2 (CB I2.kIn)) hst hpl;exact Lh (us:=ų::us) (vs:=ų::vs) F O J hd hx I2 (cc2 r) q2
def Qjc{pl:aM7}(y:bl4 o)(c:cg4)(i:rD X.K C m f)(F:jq X.prog X.w X.K X.mg X.O8 CX k f fd ps sp)(z:bb2)(v:ck6 X.K ds)(hd:Vals dvs ds)(hx:qh CX X E)
  (ht:Ù (bT3 o m [])=(do
   let ov <- aU2
   ad1
   let (f,first) <- OF [ov] (af0 ov m)
   aW4 pos f first [] cF5):=by rfl) :
  bX (bT3 o m []) (Iz C m sp dvs E ta Oi):=by
 intro j s σ H Q I h;refine aB1 pl (ō (y j s σ H _ I h) u P n) ht;obtain⟨x,L,b,J,a,O,fs,ex,r,l,q⟩:=n;subst ex;obtain rfl:u=Τ a:=J;refine xZ b r c i l ?_;exact PySem.W.callWith_K0 (first:=by9) b.kIn i.kp (Lh (us:=by9) (vs:=by9) F z v hd hx b (cc2 mT) q)
structure Mk(K:Aa)(C f:Addr):Û where
 makes:bk6 K C
 init:aS K C ac5 = è aQ6
 fn:ad8 K PQ
 kp:bI K ↑C
#where
section
variable{X:Cx}{CX:CXT}{k:Nat}{f C:Addr}{fd:FuncData}{ps ks:cr}{sp:Sp}{E:XK}{x m:Str}{p pos apos kpos:Pos}{e o:Expr}{es:Ϡ}{kws:aY6}{te ta:TE}{t tk:TA}{nm:Ð Str}
variable{g:ó->ó->ó}{gV:Β->Β->Β}
#where
structure Qz(N P:cr)(sc:Scope):Û where
 kind:sc.kind=aM3
 co:ė sc.isCoroutine
 gen:ė sc.isGenerator
 nd:N.Nodup
 pre:N.take bE4=P
 par:∀x∈P,sc.names.lookup x>=oB∨sc.names.lookup x>=aF6
 nofree:∀y∈sc.names,y.2≠be3
def uB{kindOf:Str->bu7}{x:Str}:∀{binds:ap5}{m:Eu},(∀v,(x,v)∉binds)->bindL kindOf binds m x=m x
  | [],_,_=>rfl
  | (n,v)::r,m,h=>by
    unfold bindL;rw[uB λ w a=>ch7 w a];split
    . have:x≠n:=by rintro rfl;exact h v Ec
      simp[this]
    . rfl
def uz{kindOf:Str->bu7}{x:Str}:∀{binds:ap5}{m:Eu},(∀v,(x,v)∉binds)->bindC kindOf binds m x=m x
  | [],_,_=>rfl
  | (n,v)::r,m,h=>by
    unfold bindC;rw[uz λ w a=>ch7 w a];split
    . rfl
    . have:x≠n:=by rintro rfl;exact h v Ec
      simp[this]
def uA{kindOf:Str->bu7}{x:Str}:∀{P:cr}{vs:ó}{i:Nat}{m:Eu},P.Nodup->EB P->dC vs v->wn x>=oB ->
    bindL kindOf aT7 m x>=v
  | [],_,_,_,_,h,_,_=>c9 h
  |_::_,[],_,_,_,_,h,_=>c9 h
  |p::P,w::vs,0,m,nd,h1,h2,a=>by simp at h1 h2;subst h1;subst h2;show bindL kindOf ((p,w)::aT7) m p=_;unfold bindL;rw[uB λ v b=>aW5.1 (LN b),Eh a];simp
  |p::P,w::vs,i+1,m,nd,h1,h2,a=>by show bindL kindOf ((p,w)::aT7) m x=_;unfold bindL;exact uA (i:=i) aW5.2 bj3 cs2 a
def uy{kindOf:Str->bu7}{x:Str}:∀{P:cr}{vs:ó}{i:Nat}{m:Eu},P.Nodup->EB P->dC vs v->wn x≠è oB ->
    bindC kindOf aT7 m x>=v
  | [],_,_,_,_,h,_,_=>c9 h
  |_::_,[],_,_,_,_,h,_=>c9 h
  |p::P,w::vs,0,m,nd,h1,h2,a=>by simp at h1 h2;subst h1;subst h2;show bindC kindOf ((p,w)::aT7) m p=_;unfold bindC;rw[uz λ v b=>aW5.1 (LN b),Eg a];simp
  |p::P,w::vs,i+1,m,nd,h1,h2,a=>by show bindC kindOf ((p,w)::aT7) m x=_;unfold bindC;exact uy (i:=i) aW5.2 bj3 cs2 a
def start(N:cr)(vs:Β):St:=vs.map some++Ī (ch4-IQ) none
def Kb(CX:CXT)(P:Program)(w:World)(K:Aa)(mg:Eu)(O8:Heap)(N:cr)(a:Str)(scope:Scope)(f:Addr)(c:Value)(A:Around)(outer:Lu)(s:Shared)(H:Hp)(E:XK):Cx where
 prog:=P
 w:=w
 K:=K
 mg:=mg
 O8:=O8
 A:=A.deeper (bB4 a f c)
 N:=N
 s₀:=s
 H₀:=H
 env:=bB4 a f c
 outer:=outer
 stack:=bB4 a f c::outer
 ex:=[]
 calm:=true
 fn:=λ_=>true
 pn:=[]
 xe:=λ e s'=>Í P w (A.deeper (bB4 a f c)) (leaving (bB4 a f c) e) (λ_ b=>CX outer H s E e b) (λ h b=>CX outer H s E h b) s'
def Md{a:Scope}{n:Nat}{x:Str}(h:LU>=aF6):∃c,(cellsFrom n a.names []).lookup x>=c:=by have q:=PySem.W.cellsFrom_some a.names n [] ca1;exact ah6 q
def QgH{CX:CXT}{P:Program}{w:World}{K:Aa}{mg:Eu}{O8:Heap}{N ps:cr}{j:Str}{scope:Scope}{f:Addr}{C:Value}{A:Around}{outer:Lu}{s J:Shared}{H:Hp}{E:XK}{us:ó}{vs:Β}
  (S:Qz N ps scope) (hd:nI) (e0:Env0 P w K mg O8 A outer s H) (hl:IQ=dO) (r:f8 vs)
  (x:InCallC s s.heap.objs.size (bindL (bB4 j f C).kindOf ED av5) (cellsFrom EV scope.names []) (bindC (bB4 j f C).kindOf ED av5) J) :
  Inv (Kb CX P w K mg O8 N j scope f C A outer s H E) [] cI8 H J:=by
 have O:dO<=ch4:=by have:=ab8 S.pre;rw[A9]at this;lia
 obtain⟨h1,R,rfl,F⟩:=x.done;have o:∀b:Addr,b∉(Kb CX P w K mg O8 N j scope f C A outer s H E).ex:=λ b z=>AQ (b∈([]:Ey)) z Ê;refine⟨⟨e0.mod,S.kind,rfl,rfl,ę,TZ y z c h1 h2,Ź y l,λ y c _ h=>?_,λ_=>hd,Around.frames_deeper e0.frames,Ğ ft,λ b z=>ď z (o b),e0.bs,e0.bsz,λ b _ _=>o b,λ b z=>ď z (o b),e0.funs,e0.frf⟩,
  rfl,e0.bare,Un.kept F,cK6 x.toInCall.ns (bF5 i y v h1 h2 h3),λ y c h=>Ĭ _ (x.cell y c h),e0.hok.fresh ę,Ł y c h,λ p hp=>AQ (p∈([]:Et)) hp Ê,e0.hok.kept F,?_⟩
 ·exact name_of_addr x.apart (my h1) (my h2)
 ·have l:nT y>=aF6∨nT y>=be3:=l;rcases l with l|l
  ·exact Md l
  ·exact aA7 (S.nofree _ (my l))
 ·exact aF8 (x.above y c (my h))
 ·have hi:i<IQ:=by
   unfold start at h2;by_cases hi:i<IQ
   ·exact hi
   ·rw[Aq aI7]at h2;rw[List.getElem?_replicate]at h2;split at h2<;>cases h2
  have L:dC vs v:=by
   unfold start at h2;rw[Ah aI7,Bt]at h2;cases e:ŵ vs with
   |none=>rw[e]at h2;cases h2
   |some a=>rw[e]at h2;cases h2;rfl
  obtain⟨u,I,Q⟩:=r.get L;have hp:dC ps y:=by rw[<- S.pre,B9 À];exact h1
  have t:ps.Nodup:=æ S.pre (S.nd.sublist (aW7 _))
  refine AB u Q;rcases S.par y (Aw hp)with k|k
  ·exact n5 k (uA t hp I k)
  ·obtain⟨c,e⟩:=Md (n:=EV) k;refine ax6 AO c e ?_;have q:=x.cell y c e;rw[uy t hp I (by show nT y≠_;rw[k];decide)]at q;exact q
 ·exact e0.hok.fresh (aF8 (x.above y c (my h)))
 ·unfold start;show _=ch4;rw[An,Bq,List.length_replicate];lia
def Qoq{CX:CXT}{P:Program}{w:World}{K:Aa}{mg:Eu}{O8:Heap}{k:Nat}{f:Addr}{name a:Str}{params:Arguments}{h:AX}{scope:Scope}{X kV l Y c ct oc:Value}{U od:OK}
    {osl:an1} {N ps:cr} {sp:Sp} (lk:Ο f>=(Nc oc od (.func (PySem.W.fnOf name a params h scope X kV l Y U c ct)) osl)) (hcd:wx K c a) (S:Qz N ps scope)
    (len:∀vs H Q E,sp vs H Q E->IQ=dO)
    (hbody:∀(A:Around)(outer:Lu)(s:Shared)(H:Hp)(vs:Β)(Q:VK)(E:XK),tf k (bB4 a f c)->sp vs H Q E ->
      ∃t,PSs (Kb CX P w K mg O8 N a scope f c A outer s H E) h t/\t { nx:=λ_ H'=>cH8 ī,rt:=Q } cI8 H) :
    jq P w K mg O8 CX (k+1) f (PySem.W.fnOf name a params h scope X kV l Y U c ct) ps sp:=by
  refine Ĭ len (λ A outer s H args us vs Q E L z hb r F=>?_);have hl:=len _ _ _ _ F;have R:an3:=z.mod.kin.keeps λ b o e=>(z.bs b o e).1;have lim:s.heap.NoLimit:=z.mod.nolimit.keeps λ b o e=>(z.bs b o e).1;have i:∀y∈ED,nT y.1>=oB∨(nT y.1>=aF6/\tF ((cellsFrom EV scope.names []).lookup y.1)):=λ⟨n,v⟩ hy=>by
    rcases S.par n (LN hy) with q|q
    . exact ê q
    . exact pS q (PySem.W.cellsFrom_some _ _ _ (ê q))
  refine codeAny_call_function L.depth (R _ _ lk) rfl S.co S.gen rfl (PySem.W.codeRec_of R hcd) (hb _ _ _ _ ?_);refine wpAny_newFunctionEnv_cells S.kind i (nL env he s1 x);subst he;refine Ĭ (lim.keeps x.toInCall.keep) (codeAny_func ?_);obtain⟨t,ht,hq⟩:=hbody A outer s H vs Q E (L.deeper _) F;have I:Inv (Kb CX P w K mg O8 N a scope f c A outer s H E) [] cI8 H s1:=QgH S L.hd z hl r x;refine wpAny_mono (ht [] s1 cI8 H _ I hq) (Ł fl s' j) λ e s' j=>j;have C:∀{σ':St}{H':Hp}{v:V}{u:Value},cH7 (Kb CX P w K mg O8 N a scope f c A outer s H E) [] H' s'->ϟ v->cH8 v->CE outer P w H s Q u s' :=
    λ{σ' H' v u} J O q=>⟨v,H',J.os,J.bare,J.O8,J.hok,O,q⟩
  cases fl with
  |ret u=>obtain⟨v,σ',H',J,O,q⟩:=j;exact C J O q
  |next=>obtain⟨σ',H',J,q⟩:=j;exact C (v:=V.non) (u:=Value.none) J rfl q
  |brk=>obtain⟨_,_,_,q⟩:=j;exact Nt q
  |cont=>obtain⟨_,_,_,q⟩:=j;exact Nt q
section
variable{X:Cx}{x:Str}{p pos:Pos}{e:Expr}{es:Ϡ}{t:TA}{id T:String}{r:Β->Hp->tM}
def tCB(r:Β->Hp->tM)(t:TA):TE:=λ σ H Q=>t σ H λ vs H1=>r vs H1 Q
def Qi8(f:ap7 id r)(i:cf8)(j:eg x)(n:IR>=cu0)(c:PA X (e::es) t)(l:Nd x := by decide)(a:bn2:=by decide)
  (he:cQ3=ž e::bu8:=by rfl) (hpl:ė ((aq0).any ļ):=by rfl):bX (NL x p (e::es)) (tCB r t):=by
 intro b s σ H Q I h;refine wm (YO I i j n ?_ l a);exact PyProof.Rows.callWith_builtin1 (fT (c pos b s σ H _ I h) us o vs H1 I1 r1 q1 (f b o σ H1 vs us Q I1 r1 q1)) he hpl
def QgZ(f:ou (ĭ T) r)(i:cf8)(j:eg x)(n:IR>=(ĭ T))(c:PA X (e::es) t)(l:Nd x := by decide)(a:bn2:=by decide)
  (he:cQ3=ž e::bu8:=by rfl) (hpl:ė ((aq0).any ļ):=by rfl):bX (NL x p (e::es)) (tCB r t):=by
 intro b s σ H Q I h;refine wm (YO I i j n ?_ l a);exact ϗ (fT (c pos b s σ H _ I h) us o vs H1 I1 r1 q1 (f b o σ H1 vs us Q I1 r1 q1)) he hpl
#where
#print L2
namespace HT
open PySem PyProof.Rows
section
open PySem.SeqAt
open PySem.AutoSeq1 (wpAny_loadPart')
open PySem.MeetsSeq PySem.MeetsSeq2 PySem.MeetsSeq3
#where
section
variable{prog:Program}{w:World}{A:Around}{E:Es}{s:Shared}
def cat_tup{t b:Addr}{vs a:ó}{Q:Es}(I:aV4 t vs.toArray)(C:aV4 b a.toArray)(x:vs≠[])
  (h1:a=[]->bq9 t s) (h2:a≠[]->Q Ķ (LF (nE ņ (.seq (av7 (vs++a))))))
  (hsz:ÿ (IQ+cG7)):ff w A (binaryOp .Add ↑t ↑b) Q E s:=by
 obtain⟨⟨cls,u,data,z⟩,l,v,n,hd⟩:=id I;obtain⟨⟨r,f,data2,j⟩,c,h,y,i⟩:=id C;simp only at v hd h i;subst v hd h i;have e:vs.toArray++a.toArray=av7 (vs++a):=Ê
 by_cases o:a=[]
 ·exact concat_meets (bo8 l) (bo8 c) noFill_tuple_add seq_tuple_add PySem.F.slot_tuple_add PySem.F.entry_tuple_add (ci7 _)
   (tuple_addW1 t b vs.toArray a.toArray n y u f z j (Ä x) (ą o)) (da l c (h1 o))
 ·refine concat_meets (bo8 l) (bo8 c) noFill_tuple_add seq_tuple_add PySem.F.slot_tuple_add PySem.F.entry_tuple_add (ci7 _)
   (tuple_addW2 t b vs.toArray a.toArray n y u f z j (Ä x) (Ä o) (eI Ao Ao hsz)) (AB l c)
  rw[e];exact h2 o
def sIx(n d:Nat):Č->Nat
 |none=>d
 |some v=>É (v<0) (IS (v+oq)) (min v.toNat n)
def sIx_nat(n d k:Nat):sIx n d (è Ϯ)=min k n:=by show É (Ϯ<0) (IS (Ϯ+oq)) (min (IS Ϯ) n)=min k n;rw[aE,B0]
def QnR(n d:Nat)(hd:d<=n)(o:Č):sIx n d o<=n:=by
  cases o with
  |none=>exact hd
  |some v =>
    show É (v<0) (IS (v+oq)) (min v.toNat n)<=n;by_cases a:v<0
    . rw[Eh a];lia
    . rw[Eg a];exact Nat.min_le_right _ _
def Ws(v:Int)(n d:Nat):É (v<0) (max (v+oq) 0) (min v oq)=Ì (sIx n d Oa:Nat):=by
 show É (v<0) (max (v+oq) 0) (min v oq)=Ì (É (v<0) (IS (v+oq)) (min v.toNat n):Nat);by_cases a:v<0
 ·simp only[Eh a];lia
 ·simp only[Eg a];lia
def Qc9(lo hi:Č)(n:Nat):Builtin.Slice.sliceAdjust lo hi 1 oq=(Ì (sIx n 0 lo:Nat),Ì (sIx n n hi:Nat)):=by
 have h1:¬ (cP8<0):=À
 unfold Builtin.Slice.sliceAdjust;simp only[h1,if_false];refine Prod.ext ?_ ?_
 ·cases lo with
  |none=>rfl
  |some v=>exact Ws v n 0
 ·cases hi with
  |none=>rfl
  |some v=>exact Ws v n n
def Qd8(i j:Nat):an5 nW cP7=j-i:=by
 unfold Builtin.Slice.slicePlaces;have h1:cP8 > 0:=À
 simp only[h1,if_true,Int.ediv_one];split<;>lia
def vk{o:Č}{Q:Č->Ε}(p:ci8 v o)(h:Q o s):ff w A (Builtin.Slice.slicePartIndex v) Q E s:=by
 cases p with
 |none=>exact slicePart_none h
 |int i t=>exact slicePart_int h
def sliceApplied_gen{c:Addr}{lo hi:Č}{n:Nat}{Q:Int × Int × Nat->Ε}(f:av9 c vl vu)(pl:ci8 vl lo)(i:ci8 vu hi)
  (h:Q (Ì (sIx n 0 lo:Nat),1,sIx n n hi-sIx n 0 lo) s):ff w A (Builtin.Slice.sliceApplied ↑c (Ô oq)) Q E s:=by
 obtain⟨os,b,e,a⟩:=id f;unfold Builtin.Slice.sliceApplied Builtin.Slice.sliceFields;refine Ef (bo9 b a x vl (bo9 b a x vu (bo9 b a x bE ph)));refine Ef (slicePart_none ?_);show ł _ (df (cP8==0) _ _) _ _ s;rw[Eg Á];refine Ef (vk pl (Ef (vk i (Ef ph))));show ł _ (match Builtin.Slice.sliceAdjust lo hi 1 oq with|(lo,hi)=>Ô (lo,cP8,an5 lo hi)) _ _ s;rw[Qc9 lo hi n];show ł _ (Ô (Ì (sIx n 0 lo:Nat),cP8,an5 (Ì (sIx n 0 lo:Nat)) (Ì (sIx n n hi:Nat)))) _ _ s;rw[Qd8];exact Ei h
def Qjj(xs:Ļ)(i k:Nat):av7 ((Ĉ k).filterMap λ(m:Nat)=>xs[IS (nW+nC * 1)]?)=av7 (EH (xs.toList.drop i) k):=by
 have e:(λ(m:Nat)=>xs[IS (nW+nC * 1)]?)=λ m=>xs[i+m]?:=by
  funext m;have:IS (nW+nC * 1)=i+m:=À
  rw[this]
 rw[e];have:=pick_run xs i k;rw[List.filterMap_map]at this;have a:((λ x=>xs[x]?)∘λ x=>i+x)=λ m=>xs[i+m]?:=rfl;rw[a]at this;rw[this]
def getItem_tuple_cut{t j:Addr}{items:Ļ}{lo hi:Č}{Q:Es}(b:aV4 t items)(l:av9 j vl vu)(pl:ci8 vl lo)(o:ci8 vu hi)
  (hw:¬ (Ŧ 0 lo=0/\IN hi=items.size))
  (h:Q Ķ (LF (nE ņ (.seq (av7 (EH (aN9 0 lo) (IN hi-Ŧ 0 lo)))))))
  (hsz:ÿ items.size):ff w A (getItem ↑t ↑j) Q E s:=by
 have a:sizeOk (.seq (av7 (EH (aN9 0 lo) (IN hi-Ŧ 0 lo)))):=by show ÿ (EH (aN9 0 lo) (IN hi-Ŧ 0 lo)).toArray.size;rw[Ao,A9,Bp,Ci];omega
 have r:IN hi<=items.size:=QnR _ _ ę hi;obtain⟨os,i,e,n⟩:=id l;have c:an6 j cI9 := da os i e;unfold getItem
 try with_reducible refine as8
 first|refine Ef ph|skip
 refine Ef (wpAny_sequenceKey b.typeIs Á ?_);refine Ef (wpAny_callSpecial?_slot (name:=bn7) b.typeIs PyProof.Rows.slot_tuple_getitem
  (FP PyProof.Rows.slot_tuple_getitem b.typeIs entry_tuple_getitem ?_ (args_tuple_getitem _ _)))
 show nX _ (bG3 t) _ _ _ s;refine Ef (tupleItemsOf_ b ?_);refine NN c ?_;rw[Eh Á];refine Ef (sliceApplied_gen l pl o ?_);have f:¬ Ĝ (Ì (Ŧ 0 lo:Nat)==0&&cP8==1&&cl2 (IN hi-Ŧ 0 lo)):=by intro q;rw[Bc,Bc]at q;have q1:Ì (Ŧ 0 lo:Nat)=0:=eq_of_beq q.1.1;have u:IN hi-Ŧ 0 lo=items.size:=eq_of_beq q.2;exact hw (Ĭ tj tj)
 show ł _ (df (Ì (Ŧ 0 lo:Nat)==0&&cP8==1&&cl2 (IN hi-Ŧ 0 lo)) _ _) _ _ s;rw[Eg f,Qjj]
 first
  |exact Ef (m:=A6 _) (EM (bO1 _ h) a)
  |exact Ef (m:=A6 _) (EM (be7 (bO1 _ h)) a)
  |exact Ef (Ef (m:=A6 _) (EM (Ei (bO1 _ h)) a))
  |exact Ef (Ef (m:=A6 _) (EM (bO1 _ h) a))
#where
#print HT
namespace L2
open PySem PySem.Spec PyProof.Rows
abbrev TO:=St->Hp->Δ (Č->eK)
def PO(X:Cx)(e:ap4)(t:TO):Û :=
  ∀(O9 : E3)(s : Shared)(σ : St)(H : Hp)(Q : Č -> eK), Ϝ -> t σ H Q ->
    χ (evalPart e X.env) (λ u s'=>∃o H',cb2/\ci8 u o/\cH8 o) s
def Ql4:TO:=λ_ H Q=>Q none H
def Qpd(t:TE):TO:=λ σ H Q=>t σ H λ x H1=>∃i,x=ng/\Q bd0 H1
section
variable{X:Cx}{e:Expr}{te:TE}{lo hi:ap4}{tl th:TO}{pos p2:Pos}
def Qlv:PO X none Ql4:=by intro a s σ H Q I h;rw[evalPart_none];exact Ei ⟨none,H,I,bE,h⟩
def Qlw(h:bX e te):PO X (è e) (Qpd te):=by intro c s σ H Q I hw;rw[evalPart_some];refine ō (h c s σ H _ I hw) u l f;obtain⟨x,a,b,j,q1⟩:=f;obtain⟨i,rfl,q⟩:=q1;obtain⟨t,rfl⟩:=j;exact cm4 bd0 a b aE8
def SlR(X:Cx)(r:V->Č->Č->Hp->tM):Û :=
  ∀(a : E3)(s : Shared)(σ : St)(H : Hp)(x : V)(v c f : Value)(lo hi : Č)(b : Addr)(Q : VK), cD1 -> bx6 -> av9 b c f -> ci8 c lo -> ci8 f hi -> r x lo hi H Q ->
    ∃T id,cJ0 T "__getitem__" = Ô (è cu0)/\s.TypeIs v T/\cF6 (getItem v ↑b) X a Q s
def tSl(r:V->Č->Č->Hp->tM)(te:TE)(tl th:TO):TE:=λ σ H Q=>te σ H λ x H1=>tl σ H1 λ l H2=>th σ H2 λ u H3=>r x l u H3 Q
def MX{r:V->Č->Č->Hp->tM}(O:SlR X r)(F:bX e te)(L:PO X lo tl)(R:PO X hi th):bX (bm8 e (.Slice lo hi none p2)) (tSl r te tl th):=by intro c s σ H Q I h;refine Subscript_ (ō (F c s σ H _ I h) v s1 j);obtain⟨x,o,t,r1,q1⟩:=j;refine wpAny_Slice (fT (L c s1 σ o _ t q1) f s2 l H2 I2 pl q2 (ō (R c s2 σ H2 _ I2 q2) i a j));obtain⟨u,n,y,U,Y⟩:=j;rw[evalPart_none];refine ph;have z:cC8 c n (ů a (bV4 cI9 #[f,i,bE])):=y.kept (t':=a.toks) λ b ob q=>jl q;obtain⟨T,id,C,P,J⟩:=O c (ů a (bV4 cI9 #[f,i,bE])) σ n x v f i l u a.heap.objs.size Q z r1 (Heap.IsSliceOf.new ..) pl U Y;show cF6 (subscriptTail e (.Slice lo hi none p2) v ↑a.heap.objs.size) X c Q (ů a (bV4 cI9 #[f,i,bE]));exact tail_any (ops:=[ax2,v]) P C J í
def oJ(xs:Β)(lo hi:Č):Β:=EH (xs.drop (l9 ŕ 0)) (L7 ŕ ŕ-l9 ŕ 0)
def Ut(xs:Β)(lo hi:Č):⇑(oJ xs lo hi)<=ŕ:=cJ1 oJ A9 Bp
def QpC(K:Aa):V->Č->Č->Hp->tM:=λ x lo hi H Q=>∃a xs,x=ų/\bS0 /\
 ¬ (l9 ŕ 0=0/\L7 ŕ ŕ=ŕ)/\∀p,ct5->cy0 (Ŝ p (ñ (oJ xs lo hi)))
def QnS:SlR X (QpC X.K):=by
 intro l s σ H x v vl vu lo hi sl Q I rx hs pl pu h;obtain⟨a,xs,rfl,hx,j,q⟩:=h;cases rx;obtain⟨f,r,i,hz⟩:=gd hx;have c:f.toArray.size=ŕ:=Å Ao r.length.symm
 refine bq6 ņ _ i.typeIs ?_;refine HT.getItem_tuple_cut i hs pl pu (Å c j) ?_ (Å c hz);rw[c];refine dE Κ _ (I.laid (t':=s.toks) (o:=ñ (oJ xs lo hi)) (λ b n q=>jl q) ę ?_) (q _ ba1);exact Nc (Bj (Ut xs lo hi) hz) _ (EH (r.drop (l9 ŕ 0)) (L7 ŕ ŕ-l9 ŕ 0)) (IsTup.new _ _)
def Qo0(K:Aa):R2:=λ x y H Q=>∃a b xs ys,x=ų/\y=ca2/\bS0/\SqT K H b ys/\xs≠[]/\ÿ (ŕ+Sj) /\
 (ys=[]->Q Ŗ H)/\(ys≠[]->∀p,ct5->cy0 (Ŝ p (ñ (xs++ys))))
def Vals.nil_iff{xs:Β}{us:ó}(r:aZ8):us=[]↔xs=[]:=by
 cases r with
 |nil=>simp
 |cons _ _=>simp
def Qlg:nS X .Add (Qo0 X.K):=by intro C s σ H x y v u Q I rx ry h;obtain⟨a,b,xs,ys,rfl,rfl,j,l,hx,hz,q1,t⟩:=h;cases rx;cases ry;obtain⟨n,f,r,_⟩:=gd j;obtain⟨i,c,p2,_⟩:=gd l;refine HT.cat_tup r p2 (λ z=>hx (f.nil_iff.mp z)) (λ z=>dE ų H I (q1 (c.nil_iff.mp z))) (NV z) (an7 by5 c hz);refine dE Κ _ (I.laid (t':=s.toks) (o:=ñ (xs++ys)) (λ b F q=>jl q) ę ?_) (t (λ w=>z (c.nil_iff.mpr w)) _ ba1);exact Nc (Å An hz) _ (f.append c) (IsTup.new _ _)
#where
def ixN(n:Nat)(i:Int):wd:=É (0<=i) (aI8 (i<n) i.toNat none) (aI8 (-oq<=i) (IS (i+n)) none)
def atI{α:re}(xs:To)(i:Int):Ð α:=(ixN ŕ i).bind λ j=>xs[j]?
def Tj{n:Nat}{i:Int}{j:Nat}(h:ixN n i>=j):seqIndex? i n>=j/\j<n /\ -oq<=i/\i<n:=by
 unfold ixN at h;by_cases h0:0<=i
 ·rw[Eh h0]at h;by_cases h1:i<n
  ·rw[Eh h1]at h;have e:i.toNat=j:=Ak h;exact Nc (Ξ (cn5 h1) e) À À h1
  ·rw[Eg h1]at h;cases h
 ·rw[Eg h0]at h;by_cases h1:-oq<=i
  ·rw[Eh h1]at h;have e:IS (i+n)=j:=Ak h;exact Nc (Ξ (bV5 h1) e) À h1 À
  ·rw[Eg h1]at h;cases h
def Wt{α:re}{xs:To}{i:Int}{v:α}(h:bf3 xs>=v):∃j,seqIndex? i ŕ>=j/\xs[j]?>=v/\j<ŕ /\ -(Ì ŕ)<=i/\i<ŕ:=by
  unfold atI at h;cases e:ixN ŕ i with
  |none=>rw[e]at h;cases h
  |some j=>rw[e]at h;obtain⟨h1,h2,h3,h4⟩:=Tj e;exact⟨j,h1,h,h2,h3,h4⟩
def Kq{α:re}{xs:To}{j:Nat}{v:α}(h:xs[j]?>=v):atI xs cP7>=v:=by
 have a:j<ŕ:=aR4;have e:ixN ŕ cP7>=j:=by unfold ixN;rw[aL8,aL8];simp
 unfold atI;rw[e];exact h
def gO(b:Expr):Û:=∀o i,subscripted b false o i=operate [o,i] (getItem o i)
def IxR(X:Cx)(r:R2):Û :=
  ∀(value slice : Expr)(a : E3)(s : Shared)(σ : St)(H : Hp)(x y : V)(v u : Value)(Q : VK), cD1 -> bx6 -> cD7 -> r x y H Q ->
    subscripted slice false v u=operate [v,u] (getItem v u)->cF6 (subscriptTail value slice v u) X a Q s
def MtR(X:Cx)(id:String)(r:V->Β->Hp->tM):Û :=
  ∀(a : E3)(s : Shared)(σ : St)(H : Hp)(x : V)(xs : Β)(v : Value)(us : ó)(Q : VK), cD1 -> bx6 -> aZ8 -> r x xs H Q ->
    cF6 (PR id (v::us)) X a Q s
section
variable{X:Cx}{a b:Expr}{ta tb:TE}{pos:Pos}
def Pr{r:R2}(i:IxR X r)(e:cg0)(f:bX b tb)(j:gO b):bX (bm8 a b) (tOp r ta tb):=aj9 c s H Q I h (Subscript_ (Ik e f I h λ v u o x y H2 I2 l n q=>i a b c o σ H2 x y v u Q I2 l n q (j _ _)))
def SW(K:Aa):R2:=λ x y H Q=>∃p xs i v,x=bB0/\y=ng/\Ps K p/\bf3 xs>=v/\Q v H
def QpA(K:Aa):R2:=λ x y H Q=>∃p xs i v,x=bB0/\y=ng/\bR9 p/\bf3 xs>=v/\Q v H
def Ti:IxR X (SW X.K):=by
 intro value slice O9 s σ H x y v u Q I rx ry h hs;obtain⟨p,xs,i,z,rfl,rfl,F,o,q⟩:=h;cases rx;obtain⟨t,rfl⟩:=ry;obtain⟨f,r,pl,hz⟩:=FO F;obtain⟨j,h1,h2,h3,h4,h5⟩:=Wt o;obtain⟨w,n,l⟩:=r.get h2;have C:=lc;have J:=Gw;have c:EP X O9 σ Q w s:=cm4 z H I l;by_cases h0:0<=i
 ·have e:i.toNat=j:=mE (cn5 h5) h1 (Ak h1)
  exact item_listR pl.isList h0 À (by rw[e];simpa using n) c hs
 ·have e:IS (i+Ì f.toArray.size)=j:=by rw[bV5 h4]at h1;rw[Ao,<- C];exact Ak h1
  exact subscriptTail_builtinR (x:=w) pl.isList.typeIs slot_list_getitem.lookup
   (wpAny_getItem_list_neg (Q:=λ r s'=>r=w/\EP X O9 σ Q r s') pl.isList À cJ2 À (by rw[e];simpa using n) (Ť c)) hs
def QmX:IxR X (QpA X.K):=by
 intro value slice O9 s σ H x y v u Q I rx ry h hs;obtain⟨p,xs,i,z,rfl,rfl,o,l,q⟩:=h;cases rx;obtain⟨t,rfl⟩:=ry;obtain⟨C,r,pl,hz⟩:=gd o;obtain⟨j,h1,h2,h3,h4,h5⟩:=Wt l;obtain⟨w,f,e⟩:=r.get h2;have n:=lc;have F:=Gw;have c:EP X O9 σ Q w s:=cm4 z H I e;exact subscriptTail_builtinR (x:=w) pl.typeIs slot_tuple_getitem.lookup
  (getItem_tuple (j:=j) (Q:=λ r s'=>r=w/\EP X O9 σ Q r s') pl À À (aG3 Ao n h1) cs1 (Ť c)) hs
def QdW(c:ó)(n j:Nat)(u:Value):Obj.mapSeq (·.setIfInBounds j u) (cz5 n)=cz4 (av7 (c.set j u)) n:=ą Obj.mapSeq
def Inv.lst{H:Hp}{p:Addr}(I:Ϝ)(h:cR4 p xs):
  ∃(c:ó) (n:Nat),au7 c/\ô p (cz5 n)/\cQ8:=by
 obtain⟨z,c,n,r,e⟩:=I.hok p _ h;exact⟨c,n,r,e,z⟩
def Inv.lstUpd{H:Hp}{p:Addr}{xs ys:Β}{c its':ó}{n i:Nat}{f:Obj->Obj}(I:Ϝ)(h:cR4 p xs)
  (ho:ô p (cz5 n)) (hf:f (cz5 n)=cz4 its'.toArray i) (r:bT7 its') (hz:ÿ Sj) (t:Nat) :
  Ŋ (n7 p ys) (ϴ s (L8 p f) t):=by
 have e:(L8 p f).get? p>=(cz4 its'.toArray i):=Ξ (PU f ho (by rw[hf]<;>rfl)) hf
 refine I.write (x:=p) (e:=p) (by rw[h];trivial) ı (λ b u j q=>h7 _ _ (Ş j) q) (Ĭ _ e) ?_;exact⟨hz,its',i,r,e⟩
def Qo4:V->V->V->Hp->Δ eK:=λ o i v H Q=>∃p xs k j,o=bB0/\i=aY7/\cR4 p xs/\ixN ŕ k>=j/\Q (n7 p (xs.set j v))
def QjP:Dd X Qo4:=by
 intro y s σ H o i v ov iv u Q I ro ri rv h;obtain⟨p,xs,k,j,rfl,rfl,hp,z,q⟩:=h;cases ro;obtain⟨t,rfl⟩:=ri;obtain⟨c,n,r,l,hz⟩:=I.lst hp;obtain⟨h1,h2,h3,h4⟩:=Tj z;have f:=lc;have C:=Gw;have x:cC8 y (n7 p (xs.set j v)) (LF (L8 p (ag5 (·.setIfInBounds j u)))) :=
  I.lstUpd hp l (QdW c n j u) (r.set rv j) (bj5 hz) s.toks
 by_cases h0:0<=k
 ·have e:k.toNat=j:=mE (cn5 h4) h1 (Ak h1)
  exact PySem.W.ki_setAt l h0 À (aG3 Ao f h4) (Å e (cK6 x q))
 ·have e:IS (k+Ì c.toArray.size)=j:=by rw[bV5 h3]at h1;rw[Ao,<- f];exact Ak h1
  exact PySem.W.ki_setBack l À (aG3 Ao f h3) À (Å e (cK6 x q))
def QaL(lo hi:Č)(n:Nat):(sliceBounds lo hi none n).1=Ì (l9 n 0:Nat)/\(sliceBounds lo hi none n).2.1=Ì (L7 n n:Nat)/\(sliceBounds lo hi none n).2.2=1:=by
  refine Œ ?_ ?_
  . cases lo with
    |none=>simp[sliceBounds,HT.sIx]
    |some i =>
      simp only[sliceBounds,HT.sIx,Option.getD_none,a0 (cP8 > 0),if_true];by_cases h:i<0
      . simp only[h,if_true]<;>lia
      . simp only[h,if_false]<;>lia
  . cases hi with
    |none=>simp[sliceBounds,HT.sIx]
    |some i =>
      simp only[sliceBounds,HT.sIx,Option.getD_none,a0 (cP8 > 0),if_true];by_cases h:i<0
      . simp only[h,if_true]<;>lia
      . simp only[h,if_false]<;>lia
def uu(c:ó)(lo hi:Č):slicePick c.toArray lo hi none=av7 (EH (c.drop (l9 ch3 0)) (L7 ch3 ch3-l9 ch3 0)):=by obtain⟨h1,h2,h3⟩:=QaL lo hi c.toArray.size;unfold slicePick;rw[h1,h2,h3];simp only[sliceRange_one,pick_run,Ao]<;>rfl
def QpB(K:Aa):V->Č->Č->Hp->tM:=λ x lo hi H Q=>∃a xs,x=ų/\Ps K a/\∀p,ct5->cy0 (n7 p (oJ xs lo hi))
def TV:SlR X (QpB X.K):=by
 intro i s σ H x v vl vu lo hi sl Q I rx hs pl pu h;obtain⟨a,xs,rfl,hx,q⟩:=h;cases rx;obtain⟨f,r,e,hz⟩:=FO hx;have c:=lc;refine⟨Ā, _,slot_list_getitem.lookup,e.isList.typeIs,?_⟩;refine wpAny_getItem_list_slice e.isList hs pl pu bE Ê ?_ cJ2
 rw[uu,<- c];refine dE Κ _ (I.laid (t':=s.toks) (o:=Ø (oJ xs lo hi)) (λ b j q=>jl q) ę ?_) (q _ ba1);exact⟨Bj (Ut xs lo hi) hz,_,0,EH (r.drop (l9 ŕ 0)) (L7 ŕ ŕ-l9 ŕ 0),IE⟩
def Y1:AD V
 |.non=>true
 |.bl _=>true
 |.int _=>true
 |.str _=>true
 |_=>false
def eqV:V->AD V
 |.non,.non=>true
 |.bl a,.bl b=>a==b
 |.bl a,.int b=>É a 1 0==b
 |.int a,.bl b=>a==É b 1 0
 |.int a,.int b=>a==b
 |.str a,.str b=>a==b
 |_,_=>false
def QmN(f:cD7)(c:bx6)(h:bL0 y)(e:bL0 x):SeqAt.EqAt A s u v (eqV y x):=by
  cases y with
  |non =>
    cases f;cases x with
    |non=>cases c;exact SeqAt.EqAt.same _
    |bl b=>cases c;exact SeqAt.EqAt.none_bool b
    |int b=>obtain⟨t,rfl⟩:=c;exact SeqAt.EqAt.none_int b t
    |str b=>obtain⟨t,rfl⟩:=c;exact SeqAt.EqAt.none_str b t
    |_=>exact AQ au2 e By
  |bl a =>
    cases f;cases x with
    |non=>cases c;exact SeqAt.EqAt.bool_none a
    |bl b=>cases c;exact SeqAt.EqAt.bool_bool a b
    |int b=>obtain⟨t,rfl⟩:=c;exact SeqAt.EqAt.bool_int a b t
    |str b=>obtain⟨t,rfl⟩:=c;exact SeqAt.EqAt.bool_str a b t
    |_=>exact AQ au2 e By
  |int a =>
    obtain⟨t',rfl⟩:=f;cases x with
    |non=>cases c;exact SeqAt.EqAt.int_none a t'
    |bl b=>cases c;exact SeqAt.EqAt.int_bool a t' b
    |int b=>obtain⟨t,rfl⟩:=c;exact SeqAt.EqAt.int_int a t' b t
    |str b=>obtain⟨t,rfl⟩:=c;exact SeqAt.EqAt.int_str a t' b t
    |_=>exact AQ au2 e By
  |str a =>
    obtain⟨t',rfl⟩:=f;cases x with
    |non=>cases c;exact SeqAt.EqAt.str_none a t'
    |bl b=>cases c;exact SeqAt.EqAt.str_bool a t' b
    |int b=>obtain⟨t,rfl⟩:=c;exact SeqAt.EqAt.str_int a t' b t
    |str b=>obtain⟨t,rfl⟩:=c;exact SeqAt.EqAt.str_str a t' b t
    |_=>exact AQ au2 e By
  |_=>exact AQ au2 h By
def eqU(x:V)(u:Value):Bool:=match u with
 |.none=>eqV ī x
 |.bool b=>eqV LZ x
 |.int i _=>eqV br0 x
 |.str z _=>eqV (Ϩ z) x
 |_=>false
def RJ(r:cD7)(f:bL0 y):eqU x u=eqV y x:=by
 cases y with
 |non=>cases r;rfl
 |bl b=>cases r;rfl
 |int i=>obtain⟨t,rfl⟩:=r;rfl
 |str z=>obtain⟨t,rfl⟩:=r;rfl
 |_=>exact AQ au2 f By
def gQ:∀{xs:Β}{us:ó},aZ8->Ĝ aO0->us.any bf5=xs.any λ y=>eqV y x
  |_,_,.nil,_=>rfl
  |y::xs,u::us,.cons r t,f=>by rw[C8,Bc]at f;rw[Ct,Ct,RJ r f.1,gQ t f.2]
def GC(h:bx6)(e:bL0 x):∀{xs:Β}{us:ó},aZ8->Ĝ aO0->∀u∈us,SeqAt.EqAt A s u v (eqU x u)
  |_,_,.nil,_=>au6 u c c
  |y::xs,u::us,.cons r t,f=>λ i c=>by
    rw[C8,Bc]at f;rcases Nm c with rfl|c
    . rw[RJ r f.1];exact QmN r h f.1 e
    . exact GC h e t f.2 i c
def inV(x:V)(xs:Β):Bool:=xs.any λ y=>eqV y x
def rIn(K:Aa)(c:Bool):R2:=λ x y H Q=>∃p xs,y=bB0/\(Ps K p∨bR9 p)/\bL0 x/\Ĝ aO0/\Q (ξ (É c (mP (inV x xs)) (inV x xs))) H
def Qak:aj3 X .NotIn (rIn X.K true):=by
 intro j s σ H x y v u Q I rx ry h;obtain⟨p,xs,rfl,e,i,fs,q⟩:=h;cases ry;rcases e with e|e
 ·obtain⟨c,r,pl,hz⟩:=FO e;refine SeqAt.notIn_listAt bf5 pl.isList (λ w f=>GC rx i r fs w cs1) (aZ6 _ H I ?_);rw[L9 (c.toArray.any bf5=c.any bf5),gQ r fs];exact q
 ·obtain⟨c,r,pl,hz⟩:=gd e;refine SeqAt.notIn_tupleAt bf5 pl (λ w f=>GC rx i r fs w cs1) (aZ6 _ H I ?_);rw[L9 (c.toArray.any bf5=c.any bf5),gQ r fs];exact q
def zj:ap7 "len" (λ xs H Q=>∃p ys,xs=[bB0]/\(sm X.K p ys∨ck5 H p)/\Q ↥Sj H):=by
 intro l s σ H xs us Q I r h;obtain⟨p,ys,rfl,e,q⟩:=h;obtain⟨u,rfl,j⟩:=VC r;cases j;have n:=Gw;rcases e with e|e
 ·obtain⟨f,i,pl,hz⟩:=FO e;have c:=⇑i;exact Calls.call_len_list pl.isList wp (cG4 Sj H fm (Ĭ bz3 (Ξ Ao c)))
 ·obtain⟨f,i,pl,hz⟩:=gd e;have c:=⇑i;exact len_tuple pl wp (cG4 Sj H fm (Ĭ bz3 (Ξ Ao c)))
def call_list_of:ou aD6 (λ xs H Q=>∃p ys,xs=[bB0]/\(sm X.K p ys∨ck5 H p)/\∀l,ū l->bq9 l (n7 l ys)):=by
 intro z s σ H xs us Q I r h;obtain⟨p,ys,rfl,v,q⟩:=h;obtain⟨u,rfl,C⟩:=VC r;cases C;have j:∀(c:ó),bT7 c->ÿ Sj->∀(h':Heap)(f:Nat),(∀b o',bo5 o'->Pi o') ->
   aZ1 { cls:=aD6, dict:=none,data:=cz3 c.toArray f,slots:=Nl }->EP X z σ Q Ķ aE0:=λ c i hz h' f kp e =>
  dE Κ _ (I.laid (t':=s.toks) kp ę (Ý (aF3 X.w _ h' _ (Ø ys)) ⟨hz,c,f,i,e⟩)) (q _ ba1)
 rcases v with v|v
 ·obtain⟨c,i,pl,hz⟩:=FO v;have t:=⇑i;obtain⟨o,y,x,n,hd⟩:=pl.isList;exact call_list_seq p ı y x hd (λ h' f kp e=>j c i hz h' f kp e) wp
 ·obtain⟨c,i,pl,hz⟩:=gd v;have t:=⇑i;obtain⟨o,y,x,n,hd⟩:=pl;exact call_list_seq p Ty y x hd (λ h' f kp e=>j c i hz h' f kp e) wp
def qj:ou af9 (λ xs H Q=>∃p ys,xs=[bB0]/\((sm X.K p ys/\∀l,ū l->bq9 l (Ŝ l ct0))∨(ck5 H p/\cy0 H))):=by
 intro n s σ H xs us Q I r h;obtain⟨p,ys,rfl,h⟩:=h;obtain⟨u,rfl,x⟩:=VC r;cases x;rcases h with ⟨f,q⟩|⟨f,q⟩
 ·obtain⟨c,i,pl,hz⟩:=FO f;have t:=⇑i;refine call_tuple_list pl.isList (Ź h' kp) wp
  have j:cC9 n aE0:=I.kept (t':=s.toks) kp;have v:cC8 n (Ŝ h'.objs.size ct0) (LF (h'.push (ϑ ņ (.seq c.toArray)))) :=
   j.laid (t':=s.toks) (λ b o e=>FY) ę (Ý (aF3 X.w _ _ _ ct0) (Nc hz c i (IsTup.new _ _)))
  exact dE (ë h'.objs.size) _ v (q _ (j.hok.fresh ę))
 ·obtain⟨c,i,pl,hz⟩:=gd f;exact call_tuple_same pl (dE bB0 H I q)
def tyV(K:Aa)(T:String)(x:V)(H:Hp):Û:=match x with
 |.str _=>T = "str"
 |.int _=>T = "int"
 |.ref p=>(T = Ā /\ ∃xs,Ps K p)∨(T = ņ /\ ∃o,Ο p>=o/\o.cls=af9 /\ ct4) ∨
   (T = ss /\ ((∃kvs,H p>=(.dK kvs))∨∃kvs,H p>=(.dT kvs)))∨(T = "set" /\ ∃S n,H p>=(.set S n))
 |_=>False
def Rg{T:String}(I:Ϝ)(r:bx6)(ty:tyV X.K T x H):
    s.TypeIs v T/\∀a,v=ų->∃j,ô a j/\Ū j.dict:=by
  cases x with
  |str z =>obtain⟨t,rfl⟩:=r;cases Ý (T = "str") ty;exact Ĭ (typeIs_str s z t) (λ_ e=>aj7 e)
  |int i =>obtain⟨t,rfl⟩:=r;cases Ý (T = "int") ty;exact Ĭ (typeIs_int s i t) (λ_ e=>aj7 e)
  |ref p =>
    cases r;rcases ty with ⟨rfl,xs,u⟩|⟨rfl,o,f,l,hd⟩|⟨rfl,f⟩|⟨rfl,S,n,f⟩
    . obtain⟨y,_,pl,_⟩:=FO u
      refine Ĭ pl.isList.typeIs (Ź a e);cases e;obtain⟨o,n,e,c,hd,_⟩:=pl;exact da o e hd
    . refine Ĭ (da o (I.kIn p o f) l) (Ź a e)
      cases e;exact da o (I.kIn _ o f) hd
    . have z:∃o,ô p o/\o.ExactDict:=by
        rcases f with ⟨kvs,f⟩|⟨kvs,f⟩
        . obtain⟨_,_,_,_,o,_,_,e,ex,_⟩:=I.hok p _ f
          exact da o e ex
        . obtain⟨_,_,_,_,o,_,_,e,ex,_⟩:=I.hok p _ f
          exact da o e ex
      obtain⟨o,e,ex⟩:=z;refine Ĭ (da o e ex.1) (Ź a h);cases h;exact da o e ex.2.1
    . obtain⟨o,_,_,_,e,ex,_⟩:=I.hok p _ f
      refine Ĭ (da o e ex.1) (Ź a h);cases h;exact da o e ex.2.1
  |_=>exact Nt ty
def tBM(K:Aa)(T:String)(r:V->Β->Hp->tM)(to:TE)(t:TA):TE:=λ σ H Q=>to σ H λ x H1=>tyV K T x H1/\t σ H1 λ xs H2=>r x xs H2 Q
variable{o e:Expr}{es:Ϡ}{to:TE}{t:TA}{name:Str}{apos cpos:Pos}{T id:String}{r:V->Β->Hp->tM}
def Pu(F:PlainAttrs T)(slot:Slot T name id)(f:typeOf cu0=Ô bB3)(z:MtR X id r)(C:bX o to)(y:PA X (e::es) t)
  (hbase:LO o name aU2=aU2:=by rfl)
  (hfew:((ϝ cpos (e::es)).all (λ x=>mP x.1)&&(cF4 cpos).all (λ x=>aq8 x.1)
   && AN (⇑(e::es)+⇑([]:aY6)+É ([]:aY6).isEmpty 0 1) 30)=true:=by rfl)
  (hline:PH apos.endLine cpos.line:=by rfl) (hs:cQ3=ž e::bu8:=by rfl) (hplain:ė ((ϝ cpos es).any ļ):=by rfl) :
  bX (AC o name apos (e::es) cpos) (tBM X.K T r to t):=by
 intro c s σ H Q I h;refine wpAny_Call_method_late hbase hfew hline rfl (ō (C c s σ H _ I h) v J u);obtain⟨x,n,i,l,ty,q1⟩:=u;obtain⟨h1,h2⟩:=Rg i l ty;refine⟨T,id,F,slot,f,h1,h2,?_⟩;have j:=y cpos c J σ n _ i q1;rw[hs]at j ⊢;refine Calls.callWith_builtin (by show ė (false||(ϝ cpos es).any ļ);rw[hplain]<;>rfl) (Calls.evalArgs_plain ?_)
 exact fT j us L vs H2 I2 r2 q2 (z c L σ H2 x vs v us Q I2 l r2 q2)
#where
def MtM(X:Cx)(id:String)(r:V->Β->Hp->tM):Û :=
  ∀(a : E3)(s : Shared)(σ : St)(H : Hp)(x : V)(xs : Β)(v : Value)(us : ó)(Q : VK), cD1 -> bx6 -> aZ8 -> r x xs H Q ->
    cF6 (PR id (v::us)) X a Q s
def Vals.one:∀{x:V}{us:ó},f8 [x]->∃u,us=[u]/\ϟ x
 |_,_,.cons r .nil=>ĸ _ r
section
variable{X:Cx}{O9:Et}{σ:St}{H:Hp}{s:Shared}{l b:Addr}{xs ys zs:Β}
def Inv.lset{a its':ó}{n:Nat}{f:Ļ->Ļ}{t':Nat}(I:Ϝ)(c:cR4 l xs)
  (e:ô l (cz4 a.toArray n)) (hf:f a.toArray=its'.toArray) (hv:bT7 its') (hz:ÿ Sj) :
  Ŋ (n7 l ys) (ϴ s (L8 l (ag5 f)) t'):=by
 have q:=PySem.IsL.update e f;rw[hf]at q;refine I.write (x:=l) (e:=l) (Å c trivial) ı (λ j u h i=>h7 s.heap (ag5 f) (Ş h) i) (Ĭ _ q) ?_;exact cm4 hz its' _ hv
def Inv.lnew{t':Nat}(I:Ϝ)(a:bT7 its)(hz:ÿ Sj):
  Ŋ (n7 s.heap.objs.size ys) (ϴ s (nE Ā (.seq its.toArray)) t') :=
 I.laid (bn3 (jl q)) ę ⟨hz,its,0,a,IE⟩
def Inv.fresh(I:Ϝ):cR6:=ba1
def Inv.lstM(I:Ϝ)(c:cR4 l xs):cQ8/\∃(a:ó) (n:Nat),au7 a/\ŕ=cG7/\ô l (cz4 a.toArray n):=by obtain⟨z,a,n,r,e⟩:=I.hok l _ c;exact⟨z,a,n,r,lc,e⟩
def QiV{n:Nat}(h:ÿ n):ė (aw1 n):=ń Builtin.List.listTooLong aF0
#where
section
variable{X:Cx}
def T9:V->Β->Hp->tM:=λ x vs H Q=>∃l xs y,x=ë l/\vs=[y]/\cR4 l xs/\be2 ŕ/\Q ī (n7 l (xs++[y]))
def Ud:MtM X bV6 T9:=by intro f s σ H x vs v us Q I rx rv h;obtain⟨l,xs,y,rfl,rfl,b,hz,q⟩:=h;cases rx;obtain⟨u,rfl,c⟩:=rv.one;obtain⟨z,a,n,r,i,e⟩:=I.lstM b;refine call_meets F.slot_list_append (bo8 e) F.entry_list_append (F.args_list_append_2 _ _) (PySem.list_append l a.toArray n u (Ĵ Ao)) (CB e);refine dE ī _ (I.lset (its':=a++[u]) b e Ê (r.append (fX c mT)) ?_) q;rw[An,List.length_singleton];lia
def QlK:V->Β->Hp->tM:=λ x vs H Q=>∃l b xs a,x=ë l/\vs=[ca2]/\cR4 l xs/\cR4 b a/\ÿ (ŕ+cG7)/\Q ī (n7 l (xs++a))
def QgT:MtM X "list.extend" QlK:=by
 intro L s σ H x vs v us Q I rx rv h;obtain⟨l,b,xs,P,rfl,rfl,i,o,hz,q⟩:=h;cases rx;obtain⟨u,rfl,J⟩:=rv.one;cases J;obtain⟨z,c,n,r,O,e⟩:=I.lstM i;obtain⟨z2,a,y,C,t,j⟩:=I.lstM o;have hsz:ÿ (c.toArray.size+a.toArray.size):=OQ Ao Ao
 have f:¬ Ĝ (mP c.toArray.isEmpty&&aw1 (c.toArray.size+a.toArray.size)):=eI (QiV hsz) Bool.and_false By
 refine call_meets F.slot_list_extend (bo8 e) F.entry_list_extend (F.args_list_extend_2 _ _)
  (AutoSeq1.list_extend_list_list_0 l c.toArray n b a.toArray y f (Ĵ Ao) À) (AB e j)
 refine dE ī _ (I.lset (its':=c++a) i e Ê (r.append C) ?_) q;rw[An];lia
#where
section
variable{prog:Program}{w:World}{A:Around}{E:Es}{s:Shared}
#where
section
variable{X:Cx}
#where
#print L2
namespace Att
open PySem PySem.W PySem.Calls PyProof.Rows
def Kg:∀(ns:Ď)(vs:ó),WellAll P h vs cA7->FR vs:=by
  intro ns;induction ns with
  |nil=>intro vs w;rw[List.map_nil]at w;cases w;exact mT
  |cons n ns c =>
    intro vs w;rw[Bb]at w;cases w with
    |cons a b=>cases a;exact .cons _ _ (c _ b)
def Qho{l:OpenLaw}{n:Nat}(j:l.most>=n){P:Params}{h:Heap}{args:Ã WData}{b:ó}
    (hpre:Ĝ (l.row.toRowW.claim.pre args)) (hwl:WellAll P h b args) :
    ∃a vs ns,b=[Τ a]/\args=[WData.list cA7]/\ż a bp9/\FR vs/\mh<=n:=by
  have f:Ĝ (WShape.hasAll [] args [.list .int]):=cJ3.1;have i:Ĝ (l.pre.holds [] { args:=args }):=cJ3.2;obtain⟨d,r,rfl,h1,h2⟩:=hasAllW_cons f;obtain rfl:=hasAllW_nil h2;obtain⟨xs,rfl,h3⟩:=hasW_list h1;obtain⟨ns,rfl⟩:=items_int h3;have e:mh<=n:=by
    unfold OpenLaw.pre at i;have h4:Ĝ ((WTm.not (.lt (.lit ↥oq) (.len (.arg 0)))).holds [] { args:=[.list Ľ] }):=by have h4:=(holds_andW i).1;rw[j]at h4;exact h4
    have h5:=condW_of h4 (w_not (w_lt w_lit (w_len_list (w_arg rfl))));rw[Bq]at h5;refine C4 (NV q);have t:oq<Ì (mh:Nat):=tj
    first
      | (rw[Em t] at h5;exact ď h5 Á)
      | (simp at h5;omega)
  cases hwl with
  |cons u v =>
    cases v;cases u with
    |list o c=>exact bV2 _ _ ns rfl o (Kg ns _ c) e
def Qg6(l:OpenLaw)(args:Ã WData):Ĝ (l.row.toRowW.claim.post args Oy args) :=
 postW_of (r:=l.row.toRowW) (X:=(true==true))
  (show Ĝ (WShape.has [] Oy .bool) by first|rfl|decide|simp[WShape.has,WShape.arms,WShape.armsAll])
  (Ý ((WTm.eq .res (.lit Oy)).value [] { args:=args,res:=è Oy,after:=args }>=(E7 (true==true))) (w_eq_bool (w_res rfl) w_lit)) rfl
def attach_call{l:OpenLaw}{n:Nat}{q:Program}{b:cr}{u:(Eu)->ay1}{v:World->ay1}{d:DefRec}
  (hn:l.most>=n) (hdf:bp6 [])
  (call:∀(w:World)(s₀ s₁:Shared)(mg mb:Eu)(fa:Addr)(o:Obj)(t j c:Value)(a:Addr)(vs:ó)(ns:Ď),
   Ground q b [] u w s₀ mg mb s₁.heap->v w s₁.heap ->
   an2 fa o->o.data=.func (docDef d.name d.params d.body d.scope t j c)->s₁.heap.CodeRec j d.name->mg d.name>=↑fa ->
   an2 a bp9->FR vs->mh<=n->s₁.gens = Nl ->
   codeAny (model l.prog w) callerA (.call ↑fa bz0) (λ r s'=>r=.ok (.ret Oy)/\cY1/\s'.os=s₁.os/\ad0) s₁) :
  WalkO q b u v l.row.toRowW d [] (λ f vs=>cJ4 f):=by
 intro w s₀ s₁ mg mb G Y fa o t j c dV kV ho hd hcd hD hmg hg args vals as hpre hlay hrd hwl hlo;obtain rfl:dV=bE:=Dflts.none hD hdf;obtain rfl:kV=bE:=Dflts.noKw hD;obtain⟨a,vs,ns,rfl,rfl,i,e,h⟩:=Qho hn hpre hwl;refine enter_call (br5 (call w s₀ s₁ mg mb fa o t j c a vs ns G Y ho (fd_plain hd) hcd hmg i e h hg) r s' y);obtain⟨rfl,h2,h3,h4⟩:=y;exact Nc (ê (bV2 Oy Oy [] aj2 Oy (Qg6 l _) (λ_=>Ĭ List.Pairwise.nil (λ_ x=>aj7 x)))) h2 h3 h4
section
variable{prog:Program}{w:World}{A:Around}{E:Es}{s:Shared}{K:Frag}
def Qpt(h:Heap)(L d:Addr):E3:=(aZ0).filterMap λ a=>Af (a=L∨a=d) (NM (h.get? a) o (a,o))
#where
#print Att
namespace L2
open PySem PySem.Spec PyProof.Rows
def qR:∀{vs:ó}{ns:Ď},FR vs->Vals ny vs
 |_,_,.nil=>mT
 |_,_,.cons n t h=>fX (õ t) (qR h)
def Io(H:Hp):Û:=∀b,cb4∨∃o xs,H b>=(.frz o cQ5)
def QiC{P:Program}{w:World}{K:Aa}{mg mb:Eu}{CX:CXT}{k:Nat}{fa a:Addr}{fd:FuncData}{x:Str}{sp:Sp}{s₁:Shared}{vs:ó}{ns:Ď}
    (KX:K.In s₁.heap) (t:s₁.heap.Ns mainGlobals mg) (f:s₁.heap.Ns builtinsNs mb) (L:∀x:Str,Nd x -> mb x=IR) (hlim:s₁.heap.NoLimit) (hg:s₁.gens = Nl)
    (ha:an2 a bp9) (hi:FR vs) (hl:ÿ mh) (hr:am1 callerA)
    (F:∀O8:Heap,K.In O8->ab0 mg->jq P w K mg O8 CX k fa fd [x] sp) (hbind:bz5 s u Value (ci6 s (wP [u]) [(x,u)]))
    (hsp:∀H:Hp,Io H->sm K a ny->sp by9 H (λ v _=>v=ο) OP)
    (hCX:∀H e s',CX [] H s₁ OP e s'->False) :
    codeAny (model P w) callerA (.call ↑fa bz0) (λ r s'=>r=.ok (.ret Oy)/\cY1/\s'.os=s₁.os/\ad0) s₁:=by
  have Y:=qR hi;have C:=hi.length;have j:∀H:Hp,Io H->sm K a ny->bF0 s₁.heap->(∀b,H b≠none->b=a)->(F6≠none->LS a) ->
      codeAny (model P w) callerA (.call ↑fa bz0) (λ r s'=>r=.ok (.ret Oy)/\cY1/\s'.os=s₁.os/\ad0) s₁:=by
    intro H X hS hok U hK;have c:∀{b:Addr}{o:Obj},an2 b o->cb4->(cx4).get? b>=o:=λ e n=>Qir e n;have Q:∀{b:Addr}{o:Obj}{es:Array DictEntry}{ep:Nat},an2 b o->o.data=.dict es ep->cb4:=λ{b o es ep} e d=>by
      cases q:H b with
      |none=>rfl
      |some u=>have J:b=a:=U b (Ŷ q);subst J;rw[ha]at e;cases e;have d':Data.seq vs.toArray _=Data.dict es ep:=d;cases d'
    have i:∀{b:Addr}{m:Eu},s₁.heap.Ns b m->(cx4).Ns b m:=λ{b m} ⟨o,es,ep,e,d,r⟩=>⟨o,es,ep,c e (Q e d),d,r⟩;have l:K.In cx4:=λ b o e=>c (KX b o e) (by
      cases q:H b with
      |none=>rfl
      |some u=>have J:b=a:=U b (Ŷ q);subst J;rw[hK (Ŷ q)]at e;cases e)
    have hM:Mod K mg cx4:=Nc l (i t) (da mb (i f) L) (aq9 mc h1 h2 hlim mc (i h1) h2);have e0:Env0 P w K mg cx4 callerA [] s₁ H:=⟨rfl,hM,λ b o e=>Qle e,Nat.le_of_eq (QgF _ _),trivial,λ b f=>AQ (b∈([]:Ey)) f Ê,hok,.of_eq hg⟩;refine br5 ((F _ l (i t)).run callerA [] s₁ H bz0 by9 by9 _ _ hr e0 (hbind s₁ Ŗ) (cc2 mT) (hsp H X hS)) r s' h;cases r with
    |error e=>exact(hCX H e s' h).elim
    |ok fl =>
      cases fl with
      |next=>exact Nt h
      |brk=>exact Nt h
      |cont=>exact Nt h
      |ret u =>
        obtain⟨v,H',os,bare,un,y,r',q⟩:=h;have q':v=ο:=q;subst q';obtain rfl:u=bq0 true:=r';refine Nc rfl (OldK.of_keep (Ł b o e)) os bare;cases q:H b with
        |none=>exact un.keep b o e q (by intro z;exact AQ (b∈([]:Ey)) z Ê) Ê
        |some u =>
          rcases X b with z|⟨ob,xs,z⟩
          . rw[q]at z;cases z
          . have z2:=un.frzs b ob _ z
            obtain⟨R,_⟩:=hok b _ z;obtain⟨e2,_⟩:=y b _ z2;rw[e]at R;cases R;exact e2
  cases O:Ο a with
  |some o=>have e:=KX a o O;rw[ha]at e;cases e;refine j av5 (λ_=>ı) (Ğ ⟨_,vs.toArray,_,O,rfl,rfl,rfl,eI Ao C hl,Ä Y⟩) (λ b u z=>bb6 I ((none:Ð HO)>=u) z I) (λ b z=>aA7 z) λ z=>aA7 z
  |none =>
    refine j (λ b=>aI8 (b=a) (.frz bp9 (Ø ny)) none) (NV b) (ê (pS bp9 sj)) (Ł b u z) (Ź b z) λ_=>O
    . by_cases f:b=a
      . exact Ğ (cK6 _ (Eh f))
      . exact ê (Eg f)
    . by_cases f:b=a
      . have I:=(Eh f).symm.trans z
        cases I;subst f;exact⟨ha,Å Bq hl,vs,_,Y,ha⟩
      . have I:=(Eg f).symm.trans z
        cases I
    . by_cases f:b=a
      . exact f
      . exact ď (Eg f) z
def QfY{l:PySem.W.OpenLaw}{n k:Nat}{q:Program}{j:cr}{C:(Eu)->ay1}{z:World->ay1}{d:DefRec}{K:Params->Aa}{CX:World->CXT}{sp:World->Sp}{x:Str}
    (hn:l.most>=n) (hn2:ÿ n) (hdf:bp6 []) (hr:am1 callerA)
    (hY:∀(w:World)(h:Heap),z w h->(pF).In h)
    (F:∀(w:World)(mg:Eu)(fa:Addr)(h:Heap),(pF).In h->EN mg->mg d.name>=↑fa ->
      ∃fd : FuncData, bz5 s u Value (ci6 s (wP [u]) [(x, u)]) /\
        ∀O8:Heap,(pF).In O8->ab0 mg->jq l.prog w pF mg O8 (CX w) k fa fd [x] (sp w))
    (hsp:∀(w:World)(H:Hp)(a:Addr)(ns:Ď),mh<=n->Io H->sm pF a ny->sp w by9 H (λ v _=>v=ο) OP)
    (hCX:∀(w:World)(H:Hp)(s:Shared)(e:Value)(s':Shared),CX w [] H s OP e s'->False) :
    PySem.W.WalkO q j C z l.row.toRowW d [] (λ f vs=>cJ4 f):=by
  refine Att.attach_call hn hdf λ w s₀ s₁ mg mb fa o pm U I a vs ns G Y X hd Q t r i c R=>?_;have y:=hY w _ Y;obtain⟨fd,P,J⟩:=F w mg fa _ y G.T.g t;exact QiC y G.T.g G.T.b G.T.builtins G.T.nolimit R r i (Bj c hn2) hr J P (λ H L O=>hsp w H a ns c L O) λ H e s'=>hCX w H s₁ e s'
#print L2
namespace L2
open PySem PySem.Spec PyProof.Rows
def ZI(s:Stmt)(j:Nat):Stmt:=match s with
 |.ClassDef _ _ _ a _ _ _ _ _ _ _=>a.getD j (.Pass (Nc 0 0 0 0))
 |_=>.Pass (Nc 0 0 0 0)
def J6(s:Stmt):Arguments:=match s with
 |.FunctionDef _ a _ _ _ _ _ _ _ _=>a
 |_=>{ posonlyargs:=[],args:=[],vararg:=none,kwonlyargs:=[],kw_defaults:=[],kwarg:=none,defaults:=[] }
def Z6(s:Stmt):AX:=match s with
 |.FunctionDef _ _ b _ _ _ _ _ _ _=>b
 |_=>[]
def Qp(s:Stmt):Scope:=match s with
 |.FunctionDef _ _ _ _ _ _ a _ _ _=>a
 |_=>{ kind:=aM3,names:=[],isGenerator:=false,isCoroutine:=false }
abbrev CX0:CXT:=λ_ _ _ _ _ _=>False
abbrev E0:XK:=OP
def QD:qh CX0 X E0:=λ_ _ _ _ _ _ _ h=>h.elim
structure Fun(K:Aa)(x qual:Str)(st:Stmt)(f:Addr)(fd:FuncData):Û where
 ex:∃(oc:Value)(od:OK)(kV doc pm:Value)(an:OK)(cdv ct:Value)(osl:an1),
  fd=PySem.W.fnOf x qual cn7 bG4 bf7 bE kV doc pm an cdv ct/\Ο f>=(Nc oc od (.func fd) osl)/\wx K cdv qual
 kp:bI K PQ
section
variable{P:Program}{w:World}{K:Aa}{mg:Eu}{O8:Heap}
def Fun.ok{x a:Str}{c:Stmt}{f:Addr}{fd:FuncData}{N ps:cr}{k:Nat}{sp:Sp}(F:Fun K x a c f fd)(S:ğ N ps c)(len:∀vs H Q E,sp vs H Q E->IQ=dO)
  (hbody:∀(b:Value)(A:Around)(outer:Lu)(s:Shared)(H:Hp)(vs:Β)(Q:VK)(E:XK),tf k (Ń a (Qp c) f b)->sp vs H Q E ->
   ∃t,PSs (Kb CX0 P w K mg O8 N a (Qp c) f b A outer s H E).nox (Z6 c) t/\t { nx:=λ_ H'=>cH8 ī,rt:=Q } cI8 H):jq P w K mg O8 CX0 (k+1) f fd ps sp:=by
 obtain⟨u,v,kV,j,y,r,b,ct,o,rfl,n,e⟩:=F.ex;refine Qoq n e S len λ A outer s H vs Q E l i=>?_;obtain⟨t,h,q⟩:=hbody b A outer s H vs Q E l i;exact da t h.nox q
def Fun.binds{x a:Str}{e:Stmt}{f:Addr}{fd:FuncData}{ps:cr}(F:Fun K x a e f fd)
  (h:∀(kV c j:Value)(i:OK)(b ct:Value)(us:ó),cG8=dO->an4 (PySem.W.fnOf x a (J6 e) (Z6 e) (Qp e) bE kV c j i b ct) us=Ô ED):ck6 K []:=by
 obtain⟨r,t,kV,c,j,i,b,ct,n,rfl,o,l⟩:=F.ex;exact .all (h kV c j i b ct)
def kG{x a:Str}{h:Stmt}{f:Addr}{o:Value}{r j:OK}{i:an1}{kV e n b ct:Value}(l:Ο f>=(Nc o r (.func (PySem.W.fnOf x a (J6 h) (Z6 h) (Qp h) bE kV e n j b ct)) i))
  (c:wx K b a) (k:bI K PQ):Fun K x a h f (PySem.W.fnOf x a (J6 h) (Z6 h) (Qp h) bE kV e n j b ct):=Ĭ ⟨o,r,kV,e,n,j,b,ct,i,rfl,l,c⟩ k
#where
def QG{A:Around}{k:Nat}(a:am1 A):aN2 1<cLine:=Bx (Nat.add_le_add_left (Á:1<=64) _) a.units
section
variable{X:Cx}
#where
def kS{A B:Û}(h:B):df false A B:=Å (Eg By) h
def kT{A B:Û}(h:A):df true A B:=Å sj h
#print L2
set_option maxHeartbeats 4000000
namespace L2
open PySem PySem.Spec PyProof.Rows
section
variable{κ:re}[bV7 κ]
def X3(kvs:cv9)(k:κ):aU1:=CD (kvs.find? λ a=>oX a.1 k)
def jc(kvs:cv9)(k:κ)(v:V):cv9 :=
 df (bC9 a a.1 k) (EE (λ a=>É (a.1=k) (a.1,v) a)) (kvs++[(k,v)])
def yE(kvs:cv9)(k:κ):cv9:=kvs.filter λ a=>as2 a.1 k
def vt{p:κ × V}{r:cv9}{k:κ}(e:ϰ=k):X3 (p::r) k>=PP:=af1 X3 e
def vq{p:κ × V}{r:cv9}{k:κ}(e:¬ ϰ=k):X3 (p::r) k=X3 r k:=af1 X3 e
def x_(k:κ):∀kvs:cv9,bC9 a a.1 k=aq8 az2
  | []=>rfl
  |p::r=>by
    rw[Ct];by_cases e:ϰ=k
    . simp only[vt e,Em e,Bool.true_or,Option.isSome_some]
    . rw[vq e,Ep e,Bool.false_or];exact x_ k r
def jL(kvs:cv9)(k:κ)(v:V):⇑(bn8 k v)<=Ϟ+1:=by
 unfold jc;split
 ·rw[Bq];lia
 ·rw[An,Ba,List.length_nil];lia
def RelO.isSome_eq{o:aU1}{u:mN}(r:RelO o u):o.isSome=u.isSome:=by
  cases o with
  |none=>cases u with
    |none=>rfl
    |some _=>exact aV7 r
  |some _=>cases u with
    |none=>exact aV7 r
    |some _=>rfl
def RelO.getD{o:aU1}{u:mN}(r:RelO o u)(rd:RelV d d'):RelV (o.getD d) (u.getD d'):=by
  cases o with
  |none=>cases u with
    |none=>exact rd
    |some _=>exact aV7 r
  |some _=>cases u with
    |none=>exact aV7 r
    |some _=>exact r
def KV.val{kvs:cv9}{vs:al4}(r:am0)(k:κ):RelO az2 (aG4 vs):=by
  unfold KV at r;induction r with
  |nil=>exact True.intro
  |@cons p q ps c h t f =>
    obtain⟨h1,h2⟩:=h;by_cases e:ϰ=k
    . have a:q.1=k:=aa0
      have b:aG4 (q::c)>=q.2:=af1 valueAt a
      rw[vt e,b];exact h2
    . have a:¬ q.1=k:=λ z=>e ar1
      have b:aG4 (q::c)=aG4 c:=af1 valueAt a
      rw[vq e,b];exact f
def KV.any{kvs:cv9}{vs:al4}(r:am0)(k:κ):bC9 a a.1 k=vs.any λ a=>oX a.1 k:=by
 unfold KV at r;induction r with
 |nil=>rfl
 |cons h t b=>rw[Ct,Ct,b,h.1]
def KV.repl{kvs:cv9}{vs:al4}(r:am0)(k:κ)(c:cD7):
    KV (EE (λ a=>É (a.1=k) (a.1,y) a)) (vs.map λ a=>É (a.1=k) (a.1,u) a):=by
  unfold KV at r ⊢;induction r with
  |nil=>exact mT
  |@cons p q ps f h t b =>
    rw[Bb,Bb];refine fX ?_ b;obtain⟨h1,h2⟩:=h;by_cases e:ϰ=k
    . rw[aL7,Eh aa0];exact Ĭ h1 c
    . rw[OO,Eg (λ z=>e ar1)];exact Ĭ h1 h2
def KV.put{kvs:cv9}{vs:al4}(r:am0)(k:κ)(a:cD7):KV (bn8 k y) (stored vs k u):=by
 unfold jc stored;rw[r.any k];by_cases e:Ĝ (vs.any λ b=>oX b.1 k)
 ·rw[aL7,aL7];exact r.repl k a
 ·rw[OO,OO];exact Paired.snoc r (Ť a)
def KV.drop{kvs:cv9}{vs:al4}(r:am0)(k:κ):KV (yE kvs k) (without vs k):=by
  unfold KV at r ⊢;unfold yE without;induction r with
  |nil=>exact mT
  |@cons p q ps i h t c =>
    obtain⟨h1,h2⟩:=h;rw[As,As];by_cases e:ϰ=k
    . have a:¬ Ĝ ce9:=ą e
      have b:¬ Ĝ (as2 q.1 k):=ą aa0
      rw[Eg a,Eg b];exact c
    . have f:¬ q.1=k:=λ z=>e ar1
      have a:Ĝ ce9:=ą e
      have b:Ĝ (as2 q.1 k):=ą f
      rw[Eh a,Eh b];exact fX (Ĭ h1 h2) c
def KV.length{kvs:cv9}{vs:al4}(r:am0):Ϟ=IQ:=PM r
def WS(kvs:cv9)(k:κ):⇑(yE kvs k)<=Ϟ:=Ca _ _
#where
def jG{w:World}(r:ϟ aO1):Ĝ ((Zv P w).is k u):=by
 cases k with
 |inl i=>obtain⟨t,e⟩:=Ý (∃t,u=ah0 t) r;subst e;exact QbW P w i t
 |inr x=>obtain⟨t,e⟩:=Ý (∃t,u=au5 t) r;subst e;exact QbX P w x t
def uX{w:World}:∀{ks:EU}{us:ó},f8 cn8->ItemsAre (Zv P w) ks us
  | [],_,r=>AU List.map_nil r r mT
  |k::ks,_,r=>by
    rw[Bb]at r;cases r with
    |cons h t=>exact fX (jG h) (uX t)
abbrev KT(H:Hp):cW7->Δ bn1:=Paired λ p q=>ϰ=q.1/\H q.2.1>=(ñ (pc ϰ kV))/\RelV PP q.2.2
def KT.val{kvs:cW7}{xs:bn1}(r:KT H kvs xs)(k:EU):RelO az2 (CD cG2):=by
  induction r with
  |nil=>exact True.intro
  |@cons p q ps c h t f =>
    obtain⟨h1,_,h2⟩:=h;by_cases e:ϰ=k
    . have a:q.1=k:=aa0
      have b:bV8 (q::c)>=q.2:=af1 atKey a
      rw[vt e,b];exact h2
    . have a:¬ q.1=k:=λ z=>e ar1
      have b:bV8 (q::c)=bV8 c:=af1 atKey a
      rw[vq e,b];exact f
def KT.repl{kvs:cW7}{xs:bn1}(r:KT H kvs xs)(k:EU)(c:cD7):
    KT H (EE (λ a=>É (a.1=k) (a.1,y) a)) (A4 (putAt k u)):=by
  induction r with
  |nil=>exact mT
  |@cons p q ps f h t b =>
    rw[Bb,Bb];refine fX ?_ b;obtain⟨h1,h2,h3⟩:=h;unfold putAt;by_cases e:ϰ=k
    . rw[aL7,Eh aa0];exact da h1 h2 c
    . rw[OO,Eg (λ z=>e ar1)];exact da h1 h2 h3
def KT.put{H:Hp}{kvs:cW7}{xs:bn1}(r:KT H kvs xs)(k:EU){b:Addr}(c:H b>=(ñ cJ6))(a:cD7):
  KT H (bn8 k y) (storedH xs k b u):=by
 have e:bC9 f f.1 k=aq8 cG2:=bf8 x_ (r.val k).isSome_eq Option.isSome_map
 unfold jc storedH;rw[e];by_cases q:tF cG2
 ·rw[Eh q,Eh q];exact r.repl k a
 ·rw[Eg q,Eg q];exact Paired.snoc r (bB7 c a)
def KT.keeps{H H':Hp}{kvs:cW7}{xs:bn1}(r:KT H kvs xs)(a:∀b ys,H b>=ct0->ag3>=ct0):KT H' kvs xs :=
 Paired.mapP r λ_ _ z=>da z.1 (a _ _ OB.1) OC
section
variable{P:Program}{w:World}{H:Hp}{h:Heap}{a:Addr}
def Pq(ok:bF1)(e:Rd H a u):aF2 w H h a u:=e.ok ok
def KW{kvs:aU5}(ok:bF1)(e:Rd H a (.dK kvs)):ÿ Ϟ/\IO a/\∃vs,am0/\h.DictOf (Zv P w) a vs :=
 Ý (aF2 w H h a (.dK kvs)) (Pq ok e)
def Uw{kvs:aU5}(ok:bF1)(e:F6>=(.dK kvs)):ÿ Ϟ/\IO a/\∃vs,am0/\h.DictOf (Zv P w) a vs:=KW ok (ê e)
def V6{ks:EU}(ok:bF1)(e:F6>=(ñ cn8)):(au8 P w).is h ks a:=by obtain⟨_,b,r,o,h1,h2,n,h3⟩:=Ý (aF2 w H h a (ñ cn8)) (ok a _ e);exact⟨o,b.toArray,n,h1,h2,h3,Ä (uX r)⟩
def uK{kvs:cW7}(ok:bF1)(e:Rd H a (.dT kvs)):ÿ Ϟ/\IO a /\
    ∃xs,KT H kvs xs/\h.DictOfH (au8 P w) a xs:=by
  obtain⟨z,y,xs,r,o,es,ep,h1,h2,h3,h4,h5⟩:=Ý (aF2 w H h a (.dT kvs)) (Pq ok e);refine⟨z,y,xs,r,o,es,ep,h1,h2,h3,h4,Ź x hx,h5⟩;have all:∀{l:cW7}{m:bn1},KT H l m->∀x∈m,(au8 P w).is h x.1 x.2.1:=by
    intro l m q;induction q with
    |nil=>intro x hx;exact aj7 hx
    |@cons p q ps f b t c =>
      intro x hx;rcases Nm hx with e|hx
      . subst e
        exact V6 ok (æ b.1 b.2.1)
      . exact c x hx
  exact all r x hx
def Y0{kvs:cW7}(ok:bF1)(e:F6>=(.dT kvs)):ÿ Ϟ/\IO a /\
  ∃xs,KT H kvs xs/\h.DictOfH (au8 P w) a xs:=uK ok (ê e)
#where
def DGet(H:Hp)(a:Addr)(y:V)(r:aU1):Û :=
 (∃kvs k,Rd H a (.dK kvs)/\y=aO1/\r=az2)∨∃kvs k b,Rd H a (.dT kvs)/\y=ca2/\H b>=(ñ cJ6)/\r=az2
def DPut(H:Hp)(a:Addr)(y v:V)(H':Hp):Û :=
 (∃kvs k,F6>=(.dK kvs)/\y=aO1/\be2 Ϟ/\H'=TB (.dK (bn8 k v))) ∨
 ∃kvs k b,F6>=(.dT kvs)/\y=ca2/\H b>=(ñ cJ6)/\be2 Ϟ/\H'=TB (.dT (bn8 k v))
def DGet.k{H:Hp}{a:Addr}{kvs:aU5}{k:Key}(e:F6>=(.dK kvs)):DGet H a aO1 az2:=ê (dE kvs k (ê e) rfl)
def DPut.k{H:Hp}{a:Addr}{kvs:aU5}{k:Key}{v:V}(e:F6>=(.dK kvs))(b:be2 Ϟ):DPut H a aO1 v (TB (.dK (bn8 k v))):=ê ⟨kvs,k,e,rfl,b,rfl⟩
section
variable{X:Cx}{O9:Et}{σ:St}{H:Hp}{s:Shared}{a:Addr}{y v:V}{u r:Value}{o:aU1}{A:Around}{E:Es}
def Inv.big(I:Ϝ):EI sysModules:=by have h:EI mainGlobals:=(aj8).lt;exact Nat.lt_trans Á h
def Qgq{Q:Es}(F:aN2 1<cLine)(I:Ϝ)(g:DGet H a y Oa)(x:cD7)(h:∀i s',Ŵ s'->RelV v i->Q i s'):
  Ţ A (getItem Ŗ u) Q E s:=by
 rcases g with ⟨kvs,k,e,n,l⟩|⟨kvs,k,b,e,n,C,l⟩
 ·subst n;obtain⟨z,hd,vs,c,j⟩:=bP8 e;obtain⟨i,t,f⟩:=bn6 v o (aG4 vs) (Å l ah7);exact wpAny_getItem_of (jG x) j.mapOf t (h i _ fm f)
 ·subst n;cases Ý (u=Τ b) x;obtain⟨z,hd,xs,c,j⟩:=cJ8 e;obtain⟨i,t,f⟩:=bn6 v o (CD cG2) (Å l ah7);obtain⟨p,hp,hp2⟩:=bG5 t;refine wpAny_getItem_heap (S6 F) (cJ7 C) j hp ?_;rw[hp2];exact h i _ fm f
def QkD{Q:Es}(t:aN2 1<cLine)(I:Ϝ)(g:DGet H a y o)(j:cD7)(h:∀s',Ŵ s'->Q (E7 (mP o.isSome)) s'):
  Ţ A (compareOp .NotIn u Ŗ) Q E s:=by
 rcases g with ⟨kvs,k,e,i,l⟩|⟨kvs,k,b,e,i,n,l⟩
 ·subst i;obtain⟨z,hd,vs,c,f⟩:=bP8 e;refine wpAny_notIn_of (jG j) hd f.mapOf ?_;rw[<- (ah7).isSome_eq,<- l];exact h _ fm
 ·subst i;cases Ý (u=Τ b) j;obtain⟨z,hd,xs,c,f⟩:=cJ8 e;refine wpAny_notIn_heap (S6 t) (cJ7 n) hd f ?_;have q:=(ah7).isSome_eq;rw[Option.isSome_map]at q;rw[<- q,<- l];exact h _ fm
def yB{h':Heap}{t':Nat}(I:Ϝ)(mu:Mut F6)(h:cV2 a h')(f:∃q,ķ a q)(new:aF3 X.w (TB ob) h' a ob):
  Ŋ (TB ob) ck4 :=
 I.write (x:=a) (e:=a) mu ı (λ b q c z=>å (h.2 b c) z) f new
def KU{w:World}{H':Hp}{h':Heap}{kvs:aU5}{vs:ca9}(z:ÿ Ϟ)(hd:IO a)(b:am0)(c:h'.DictOf (Zv P w) a vs):
  aF2 w H' h' a (.dK kvs):=⟨z,hd,vs,b,c⟩
def Qgr{Q:cl0}(U:aN2 1<cLine)(I:Ϝ)(g:DPut H a y v H')(P:cD7)(O:RelV v r)(h:∀s',cb2->Q () s'):
  Ţ A (setItem Ŗ u r) Q E s:=by
 rcases g with ⟨kvs,k,e,x,l,t⟩|⟨kvs,k,b,e,x,J,l,t⟩
 ·subst x t;obtain⟨z,hd,vs,f,n⟩:=bP9 e;have hz:ÿ IQ:=æ by5 z
  have C:ÿ ⇑(bn8 k v):=Ě (jL kvs k v)
  refine wpAny_setItem_pairs (hsz:=hz) (jG P) n λ h' i F=>h _ ?_;have R:∃q,ķ a q:=ah5 q j i q j;exact yB I bN5 F R (KU C hd (f.put k O) i)
 ·subst x t;cases Ý (u=Τ b) P;obtain⟨z,hd,xs,f,n⟩:=Y0 I.hok e;have hz:cQ8:=æ (PM f) z
  have C:ÿ ⇑(bn8 k v):=Ě (jL kvs k v)
  refine wpAny_setItem_heap (hsz:=hz) (S6 U) (cJ7 J) n λ h' i F=>h _ ?_;obtain⟨q,es,ep,j,h2,h3,h4,_,h5⟩:=i;refine yB I bN5 F (Ĭ q j) ⟨C,hd,_,(f.put k J O).keeps (Ł c ys L),q,es,ep,j,h2,h3,h4,h5⟩;rw[QP (QoI L e (λ z=>aj7 z))];exact L
#where
section
variable{X:Cx}{O9:Et}{σ:St}{H:Hp}{s:Shared}{a:Addr}{kvs:aU5}{k:Key}{u:Value}{A:Around}{E:Es}
def Qoc{Q:cl0}(I:Ϝ)(e:F6>=(.dK kvs))(o:ϟ aO1)(l:tF az2)(h:∀s',Ŋ (TB (.dK (yE kvs k))) s'->Q () s'):
  Ţ A (delItem Ŗ u) Q E s:=by
 obtain⟨z,hd,vs,b,f⟩:=bP9 e;refine wpAny_delItem_slot f.typeIs Á PySem.F.slot_dict_delitem
  (call_meetsIn PySem.F.slot_dict_delitem f.typeIs PySem.F.entry_dict_delitem (PySem.F.args_dict_delitem_2 _ _) (meets_dict_delitem_pairs LL a (jG o)) ⟨vs,f,æ bE3 z,æ (b.val k).isSome_eq l,λ h' c n=>h _ ?_⟩)
 have i:∃q,ķ a q:=ah5 q j c q j;exact yB I bN5 n i (KU (Bj (WS kvs k) z) hd (b.drop k) c)
def P0{more:ó}{Q:Es}(I:Ϝ)(e:F6>=(.dK kvs))(n:ϟ aO1)(l:az2>=v)(y:more=[]∨∃x,more=[x])
  (h:∀f s',Ŋ (TB (.dK (yE kvs k))) s'->RelV v f->Q f s'):Ţ A (PR aW8 (ų::u::more)) Q E s:=by
 obtain⟨z,hd,vs,b,r⟩:=bP9 e;obtain⟨f,P,j⟩:=bn6 v o (aG4 vs) (æ l (b.val k));have hp:tF (keyPart u):=by
  cases k with
  |inl i=>obtain⟨t,q⟩:=Ý (∃t,u=ah0 t) n;subst q;rfl
  |inr x=>obtain⟨t,q⟩:=Ý (∃t,u=au5 t) n;subst q;rfl
 have C:argsOk aW8 (wP (ų::u::more)):=by
  rcases y with q|⟨x,q⟩
  ·subst q;exact PySem.F.args_dict_pop_2 _ _
  ·subst q;exact PySem.F.args_dict_pop_3 _ _ _
 refine call_meetsIn PySem.F.slot_dict_pop r.typeIs PySem.F.entry_dict_pop C (meets_dict_pop_there LL a (jG n) more y hp)
  ⟨vs,f,r,æ bE3 z,P,λ h' c O=>h f _ ?_ j⟩
 have J:∃q,ķ a q:=ah5 q L c q L;exact yB I bN5 O J (KU (Bj (WS kvs k) z) hd (b.drop k) c)
def QmJ{Q:Es}(I:Ϝ)(e:F6>=(.dK kvs))(c:ϟ aO1)(l:Ū az2)(h:∀s',Ŵ s'->Q r s'):
  Ţ A (PR aW8 [ų,u,r]) Q E s:=by
 obtain⟨z,hd,vs,b,f⟩:=bP9 e;have j:Ū (aG4 vs):=RelO.none_of (æ l (b.val k));have hp:tF (keyPart u):=by
  cases k with
  |inl i=>obtain⟨t,q⟩:=Ý (∃t,u=ah0 t) c;subst q;rfl
  |inr x=>obtain⟨t,q⟩:=Ý (∃t,u=au5 t) c;subst q;rfl
 exact call_meetsIn PySem.F.slot_dict_pop f.typeIs PySem.F.entry_dict_pop (PySem.F.args_dict_pop_3 _ _ _) (meets_dict_pop_default LL a (jG c) hd hp r) (Nc vs f j (h _ fm))
def Qol{Q:Es}(I:Ϝ)(e:Rd H a (.dK kvs))(h:∀t s',Ŵ s'->Q (LI Ϟ) s'):Ţ A (PR "len" by9) Q E s:=by obtain⟨z,hd,vs,b,c⟩:=bP8 e;refine call_len_dict hd c (by rw[<- bE3];rw[sizeLine_eq]at z;lia) ?_;rw[<- bE3];exact h _ _ fm
#where
def Qbq{s:Shared}{a:Addr}{o:aU1}(I:Ϝ)(g:DGet H a y o):s.TypeIs Ŗ ss := by
 rcases g with ⟨kvs,k,e,_,_⟩|⟨kvs,k,b,e,_,_,_⟩
 ·obtain⟨_,_,vs,_,c⟩:=bP8 e;exact c.typeIs
 ·obtain⟨_,_,xs,_,c⟩:=cJ8 e;exact c.typeIs
section
variable{X:Cx}{o i e value:Expr}{pos pos' tpos:Pos}{td ty tv:TE}
#where
def WU{w:World}(h:Heap)(a:bU3 sysModules):aF2 w H (h.push (ϑ ss (.dict Nl))) h.objs.size (.dK []) :=
 ⟨CO,pV (Ş (Bf a)),[],mT,Heap.DictOf.new h⟩
section
variable{X:Cx}{pos:Pos}
#where
def El:â TE TE->St->Hp->Δ (â V V->eK)
 | [],_,H,Q=>Q [] H
 | (a,b)::r,σ,H,Q=>a σ H λ x H1=>b σ H1 λ y H2=>El r σ H2 λ ps H3=>Q ((x,y)::ps) H3
abbrev VV:â V V->Δ (â Value Value):=Paired λ p q=>RelV ϰ q.1/\RelV PP q.2
def PPs(X:Cx)(pos:Pos)(keys:Ã ap4)(values:Ϡ)(a:â TE TE):Û :=
  ∀(O9 : E3)(s : Shared)(σ : St)(H : Hp)(Q : â V V -> eK), Ϝ -> El a σ H Q ->
    χ (evalPairs (pairTrees keys values X.env pos)) (λ vs s'=>∃ps H',cb2/\VV ps vs/\cH8 ps) s
def Xs(kvs more:aU5):aU5:=more.foldl (λ acc a=>jc acc a.1 a.2) kvs
def KV.merge:∀{more:aU5}{a:ca9}{kvs:aU5}{vs:ca9},KV more a->am0->KV (Xs kvs more) (merged vs a):=by
  intro more a kvs vs r;unfold KV at r;induction r generalizing kvs vs with
  |nil=>intro q;exact q
  |@cons p q ps f h t b =>
    intro c;have e:KV (bn8 ϰ PP) (stored vs q.1 q.2):=by have:=c.put ϰ h.2;rw[<- h.1];exact this
    exact b e
def qr:∀(more kvs:aU5),⇑(Xs kvs more)<=Ϟ+more.length
  | [],kvs=>lL (Ϟ<=Ϟ+0)
  |p::r,kvs=>by have h1:=qr r (bn8 ϰ PP);have h2:=jL kvs ϰ PP;show CS (Xs (bn8 ϰ PP) r)<=_;rw[Ba];lia
def KM{w:World}:∀{kvs:aU5}{i:â Value Value},VV (EE (λ f=>(kV f.1,f.2))) i->∃e,Carries (Zv P w) i e/\al9 e
  | [],_,r=>AU List.map_nil r r (da [] True.intro mT)
  |p::kvs,_,r=>by
    rw[Bb]at r;cases r with
    |@cons a b l bs h t=>obtain⟨e,c,q⟩:=KM (P:=P) (w:=w) t;obtain⟨n,j⟩:=b;exact da ((ϰ,j)::e) (ĸ (jG h.1) c) (cc3 h.2 q)
section
variable{X:Cx}{O9:Et}{σ:St}{H:Hp}{s:Shared}{a:Addr}{y d:V}{u r:Value}{o:aU1}{A:Around}{E:Es}
def QmH{Q:Es}(v:aN2 1<cLine)(I:Ϝ)(g:DGet H a y o)(j:cD7)(h:∀n s',Ŵ s'->RelV (o.getD ī) n->Q n s'):
  Ţ A (PR bQ0 [ų,u]) Q E s:=by
 rcases g with ⟨kvs,k,e,i,l⟩|⟨kvs,k,b,e,i,t,l⟩
 ·subst i;obtain⟨z,hd,vs,c,f⟩:=bP8 e;refine am9 f.typeIs (cn9 _) (meets_dict_get LL a (jG j) hd) (cK6 f.mapOf (h _ _ fm ?_));rw[l];exact cG6 ah7 rfl
 ·subst i;cases Ý (u=Τ b) j;obtain⟨z,hd,xs,c,f⟩:=cJ8 e;refine am9 f.typeIs (cn9 _) (meetsH_dict_get (tupleKind LL) a b hd) ⟨S6 v,k,xs,cJ7 t,f,h _ _ fm ?_⟩;rw[l];exact cG6 ah7 rfl
def QmI{Q:Es}(v:aN2 1<cLine)(I:Ϝ)(g:DGet H a y o)(j:cD7)(rd:RelV d r)(h:∀n s',Ŵ s'->RelV (o.getD d) n->Q n s'):
  Ţ A (PR bQ0 [ų,u,r]) Q E s:=by
 rcases g with ⟨kvs,k,e,i,l⟩|⟨kvs,k,b,e,i,t,l⟩
 ·subst i;obtain⟨z,hd,vs,c,f⟩:=bP8 e;refine am9 f.typeIs (PySem.F.args_dict_get_3 _ _ _) (meets_dict_get_default LL a (jG j) hd r) (cK6 f.mapOf (h _ _ fm ?_));rw[l];exact cG6 ah7 rd
 ·subst i;cases Ý (u=Τ b) j;obtain⟨z,hd,xs,c,f⟩:=cJ8 e;refine am9 f.typeIs (PySem.F.args_dict_get_3 _ _ _) (meetsH_dict_get_default (tupleKind LL) a b hd r) ⟨S6 v,k,xs,cJ7 t,f,h _ _ fm ?_⟩;rw[l];exact cG6 ah7 rd
#where
section
variable{X:Cx}{o e f:Expr}{apos cpos:Pos}{td ty tx:TE}
#where
section
variable{X:Cx}{O9:Et}{σ:St}{H:Hp}{s:Shared}{a:Addr}{kvs:aU5}{A:Around}{E:Es}
#where
section
variable{X:Cx}{O9:Et}{σ:St}{H:Hp}{s:Shared}{a:Addr}{y:V}{u:Value}{A:Around}{E:Es}
#where
section
variable{X:Cx}
def Qgh:ap7 "len" (λ xs H Q=>∃a kvs,xs=[V.ref a]/\F6>=(.dK kvs)/\Q ↥Ϟ H):=by intro f s σ H xs us Q I r h;obtain⟨a,kvs,rfl,c,q⟩:=h;obtain⟨u,rfl,e⟩:=VC r;cases e;exact Qol I (ê c) λ t s' b=>cG4 Ϟ H b (õ t)
#where
section
variable{κ:re}[bV7 κ]
#where
#print L2
namespace D
open PySem PySem.Spec PyProof.Rows L2
abbrev St:=L2.St
inductive DV where
 |non|bl (b:Bool)|int (i:Int)|str (x:Str)|tup (xs:á)|lst (xs:á)|ref (i:Nat)
inductive OV where
 |lst (xs:á)
 |aH (kvs:Ϧ)
 |ins (c:Str) (fs:ay3)
abbrev Hs:=Ã OV
abbrev M:=StateT Hs Option
abbrev Ez:=fR
mutual
def aA(K:Aa)(ρ:Ey)(B:Ex)(H:Hp):DV->Δ V
 |.non,v=>v=ī
 |.bl b,v=>v=LZ
 |.int i,v=>v=ng
 |.str x,v=>v=aJ4
 |.tup ds,v=>∃a xs,v=ų/\¬ B a/\bS0/\sM
 |.lst ds,v=>∃a xs,v=ų/\¬ B a/\Ps K a/\sM
 |.ref i,v=>∃a,v=ų/\dC ρ a
def au(K:Aa)(ρ:Ey)(B:Ex)(H:Hp):á->bL4
 | [],xs=>xs=[]
 |d::ds,xs=>∃x r,xs=x::r/\TK x/\mS r
end
def bB(K:Aa)(ρ:Ey)(B:Ex)(H:Hp)(a:Addr):Δ OV
 |.lst ds=>∃xs,Ň F6 xs/\sM
 |.aH kvs=>∃xs:aU5,F6>=(.dK xs)/\cU4=bM6/\lx (EE ϒ) (A4 ϒ)
 |.ins c fs=>∃(C b:Addr)(xs:cR7),ς K c>=(è ↑C)/\F6>=cy8/\cU4=au9/\lx (fs.map ϒ) (A4 ϒ)
structure Gr(K:Aa)(ρ:Ey)(B:Ex)(H:Hp)(ρ':Ey)(B':Ex)(H':Hp):Û where
 pre:ρ <+: ρ'
 ban:∀a,B a->B' a
 new:∀a,B' a->B a∨(ū a/\LS a)
 cg:∀a∈ρ',a∈ρ∨ū a
 keep:∀a o,a∉ρ->F6>=o->H' a>=o
 trk:∀a,Ū (H' a)->ū a
structure aO(K:Aa)(ρ:Ey)(B:Ex)(hp:Hs)(H:Hp):Û where
 len:⇑ρ=ot
 nd:ρ.Nodup
 obj:bq7 i a Addr o OV (dC ρ a->dC hp o->bB K ρ B H a o)
 rb:∀a∈ρ,B a
 bt:∀a,B a->F6≠none
 bk:∀a,B a->LS a
section
variable{K:Aa}{ρ ρ' ρ'':Ey}{B B' B'':Ex}{H H' Fe:Hp}
def Gr.refl:BR K B H ρ B H:=⟨Ck,by8,Fj h h,Fj h h,EJ h h,by8⟩
def Gr.trans(a:bO6)(b:Gr K ρ' B' H' ρ'' B'' Fe):BR K B H ρ'' B'' Fe where
 pre:=a.pre.trans b.pre
 ban:=λ x h=>b.ban x (a.ban x h)
 new:=λ x h=>(b.new x h).elim (a.new x) λ z=>pS (a.trk x z.1) OB
 cg:=λ x h=>(b.cg x h).elim (a.cg x) λ z=>Ğ (a.trk x z)
 keep:=λ x o c h=>b.keep x o (λ z=>(a.cg x z).elim c (λ z=>ĩ h z z)) (a.keep x o c h)
 trk:=λ x h=>a.trk x (b.trk x h)
structure Gs(K:Aa)(ρ:Ey)(B:Ex)(H:Hp)(ρ':Ey)(B':Ex)(H':Hp):Û where
 pre:ρ <+: ρ'
 new:∀a,B' a->B a∨(ū a/\LS a)
 keep:∀a o,¬ B a->F6>=o->H' a>=o
 trk:∀a,Ū (H' a)->ū a
def Gr.gs(rb:∀a∈ρ,B a)(g:bO6):bg5:=Nc g.pre g.new (λ a o nb h=>g.keep a o (λ z=>nb (rb a z)) h) g.trk
def Gs.refl:bg2 ρ B H:=Nc Ck (Fj h h) (EJ h h) by8
def Gs.trans(a:bg5)(b:Gs K ρ' B' H' ρ'' B'' Fe):bg2 ρ'' B'' Fe where
 pre:=a.pre.trans b.pre
 new:=λ x h=>(b.new x h).elim (a.new x) λ z=>pS (a.trk x z.1) OB
 keep:=λ x o nb h=>b.keep x o (λ z=>(a.new x z).elim nb λ q=>ĩ h q q.1) (a.keep x o nb h)
 trk:=λ x h=>a.trk x (b.trk x h)
def SqT.trk{a:Addr}(h:bS0):F6≠none∨∃o,Ο a>=o:=by
 rcases h with (h|⟨o,h⟩)|⟨o,_,_,h,_⟩
 ·exact ê (Ŷ h)
 ·exact ê (Ŷ h)
 ·exact pS o h
def SqL.trk{a:Addr}(h:Ps K a):F6≠none∨∃o,Ο a>=o:=by
 rcases h with (h|⟨o,h⟩)|⟨o,_,_,h,_⟩
 ·exact ê (Ŷ h)
 ·exact ê (Ŷ h)
 ·exact pS o h
def Gs.ok{a:Addr}(g:bg5)(b:¬ B a)(t:F6≠none∨∃o,Ο a>=o):¬ B' a:=λ z =>
 (g.new a z).elim b λ⟨n,k⟩=>t.elim (λ q=>q n) λ⟨o,q⟩=>ĩ k q q
def Gs.wZ{a:Addr}(g:bg5)(b:¬ B a)(h:bS0):jk K H' a:=by
 rcases h with (h|⟨o,h⟩)|h
 ·exact ê (ê (g.keep _ _ b h))
 ·exact ê (pS o (g.keep _ _ b h))
 ·exact Ğ h
def Gs.M5{a:Addr}(g:bg5)(b:¬ B a)(h:Ps K a):SqL K H' a xs:=by
 rcases h with (h|⟨o,h⟩)|h
 ·exact ê (ê (g.keep _ _ b h))
 ·exact ê (pS o (g.keep _ _ b h))
 ·exact Ğ h
def Ss{i:Nat}{a:Addr}(p:ρ <+: ρ')(h:dC ρ a):dC ρ' a:=by obtain⟨t,rfl⟩:=p;rw[Ah aR4];exact h
mutual
def aA.gs(g:bg5):∀(d:DV)(v:V),ce2->aA K ρ' B' H' d v
  |.non,_,h=>EO aA h
  |.bl _,_,h=>EO aA h
  |.int _,_,h=>EO aA h
  |.str _,_,h=>EO aA h
  |.ref _,_,h=>by unfold aA at h ⊢;obtain⟨a,e,h⟩:=h;exact da a e (Ss g.pre h)
  |.tup ds,_,h=>by unfold aA at h ⊢;obtain⟨a,xs,e,nb,b,c⟩:=h;exact⟨a,xs,e,g.ok nb (SqT.trk b),g.wZ nb b,au.gs g ds xs c⟩
  |.lst ds,_,h=>by unfold aA at h ⊢;obtain⟨a,xs,e,nb,b,c⟩:=h;exact⟨a,xs,e,g.ok nb (SqL.trk b),g.M5 nb b,au.gs g ds xs c⟩
def au.gs(g:bg5):∀(ds:á)(xs:Β),sM->au K ρ' B' H' ds xs
  | [],_,h=>EO au h
  |d::ds,_,h=>by unfold au at h ⊢;obtain⟨x,r,e,h1,h2⟩:=h;exact⟨x,r,e,aA.gs g d x h1,au.gs g ds r h2⟩
end
def aA.grow(rb:∀a∈ρ,B a)(g:bO6)(d:DV)(v:V)(h:ce2):aA K ρ' B' H' d v:=aA.gs (g.gs rb) d v h
def au.grow(rb:∀a∈ρ,B a)(g:bO6)(ds:á)(xs:Β)(h:sM):au K ρ' B' H' ds xs:=au.gs (g.gs rb) ds xs h
def au.length:∀{ds:á}{xs:Β},sM->Ć=ŕ
  | [],_,h=>by unfold au at h;subst h;rfl
  |d::ds,_,h=>by unfold au at h;obtain⟨x,r,rfl,_,h2⟩:=h;simp[au.length h2]
def au.get:∀{ds:á}{xs:Β}{i:Nat}{d:DV},sM->aR9->∃x,cv8/\TK x
  | [],_,_,_,_,e=>c9 e
  |d::ds,_,0,_,h,e=>by unfold au at h;obtain⟨x,r,rfl,h1,_⟩:=h;simp at e;subst e;exact ĸ x h1
  |d::ds,_,i+1,_,h,e=>by unfold au at h;obtain⟨x,r,rfl,_,h2⟩:=h;obtain⟨y,h3,h4⟩:=au.get h2 cr9;exact da y (Ä h3) h4
def au.nil:lx [] []:=fK au
def au.cons{d:DV}{x:V}(h:TK x)(t:sM):lx (d::ds) (x::xs):=ń au (A5 x xs h t)
def au.append:∀{ds es:á}{xs ys:Β},sM->lx es ys->lx (ds++es) (xs++ys)
  | [],_,_,_,h,t=>by unfold au at h;subst h;exact t
  |d::ds,_,_,_,h,t=>T0 au h x r h1 h2 h (PV h1 (aW9 h2 t))
def au.one(h:TK x):lx [d] [x]:=PV h au.nil
def au.take:∀(n:Nat){ds:á}{xs:Β},sM->lx (ds.take n) (xs.take n)
  |0,_,_,_=>by simp;exact au.nil
  |_+1,[],_,h=>bQ2 au h h
  |n+1,d::ds,_,h=>T0 au h x r h1 h2 h (PV h1 (au.take n h2))
def au.drop:∀(n:Nat){ds:á}{xs:Β},sM->lx (qz n) (xs.drop n)
  |0,_,_,h=>h
  |_+1,[],_,h=>bQ2 au h h
  |n+1,d::ds,_,h=>T0 au h x r h1 h2 h (au.drop n h2)
def Gr.laid{p:Addr}(h:ct5):BR K B H ρ B (Ŝ p o) where
 pre:=Ck
 ban:=by8
 new:=Fj h h
 cg:=Fj h h
 keep:=λ a u _ q=>aZ9 q h q
 trk:=λ a q=>by
  by_cases e:a=p
  ·subst e;rw[Q0]at q;cases q
  ·rw[QP e]at q;exact q
def bB.gs{a:Addr}(g:bg5)(i:H' a=F6)(h:bB K ρ B H a o):bB K ρ' B' H' a o:=by
  cases o with
  |lst ds=>obtain⟨xs,e,b⟩:=h;exact da xs cK0 (Nw g _ b)
  |aH kvs=>obtain⟨xs,e,f,b⟩:=h;exact Nc xs cK0 f (Nw g _ b)
  |ins c fs=>obtain⟨C,j,xs,l,e,f,b⟩:=h;exact⟨C,j,xs,l,cK0,f,Nw g _ b⟩
def aO.laid{p:Addr}(W:bC4)(h:ct5):bC3 (Ŝ p o) where
 len:=W.len
 nd:=W.nd
 obj:=λ i a u e q=>bB.gs ((aG5 h).gs W.rb) (by have b:=W.bt a (W.rb a cA6);exact QP (λ z=>b (z▸h))) (W.obj i a u e q)
 rb:=W.rb
 bt:=λ a z q=>W.bt a z ((an8 K K ρ B B h).trk a q)
 bk:=W.bk
#where
inductive Sl where
 |un|val (d:DV)|acc (ds:á)
abbrev En:=Ã Sl
structure Ent where
 ρ:bu5
 B:Δ Addr
 H:Hp
structure bK(K:Aa)(Z:Ent)(env:En)(σ:St)(ρ:Ey)(B:Ex)(hp:Hs)(H:Hp):Û where
 gr:Gr K Z.ρ Z.B Z.H ρ B H
 zb:∀a,Z.B a->Z.H a≠none
 wo:bC4
 slot:ŗ i d DV (cc1 as3->∃v,dC σ Oa/\ce2)
 dI:ŗ i ds á (cX7->∃a xs,dC σ aY9/\Ň F6 xs/\Ū (Z.H a)/\B a/\a∉ρ/\sM)
 fB:∀(i j:Nat)(ds es:á)(a:Addr),cX7->aL6 j>=at1->dC σ aY9->σ[j]?>=aY9->i=j
 len:⇑σ=bq1
def bK.grow{K:Aa}{Z:Ent}(S:aT3)(g:bO6)(W:aO K ρ' B' hp' H'):aS1 K Z ρ' B' hp' H' where
 gr:=S.gr.trans g
 zb:=S.zb
 wo:=W
 slot:=λ i d e=>aq9 v h1 h2 (S.slot i d e) v h1 (aA.grow S.wo.rb g d v h2)
 dI:=λ i ds e=>by
  obtain⟨a,xs,h1,h2,h3,h4,h5,b⟩:=S.dI i ds e;refine⟨a,xs,h1,g.keep a _ h5 h2,h3,g.ban a h4,NV z,au.grow S.wo.rb g ds xs b⟩;rcases g.cg a z with q|q
  ·exact h5 q
  ·rw[h2]at q;cases q
 fB:=S.fB
 len:=S.len
abbrev aJ:=fP En
abbrev bV:=En->OS
abbrev bR:=En->cA9
inductive Fl where
 |nx|rt (d:DV)|bk|ct
abbrev aG:=En->M (Fl × En)
def iT(K:Aa)(ρ:Ey)(B:Ex)(H:Hp)(d:DV)(hp':Hs)(Q:VK):Û :=
 ∀v ρ' B' H',bO6->aO K ρ' B' hp' H'->aA K ρ' B' H' d v->cH8 v
def Ot(K:Aa)(ρ:Ey)(B:Ex)(H:Hp)(hp':Hs)(Q:eK):Û :=
 ∀ρ' B' H',bO6->aO K ρ' B' hp' H'->Q H'
def Qpk(K:Aa)(ρ:Ey)(B:Ex)(H:Hp)(ds:á)(hp':Hs)(Q:Β->eK):Û :=
 ∀vs ρ' B' H',bO6->aO K ρ' B' hp' H'->au K ρ' B' H' ds vs->cH8 vs
def tD(K:Aa)(f:aJ):TE:=λ σ H Q=>∃Z env ρ B hp d hp',aT3/\aT>=(d,hp')/\iT K ρ B H d hp' Q
def fD(K:Aa)(f:bV):TT:=λ σ H Q=>∃Z env ρ B hp d hp',aT3/\aT>=(d,hp')/\Ot K ρ B H hp' (Q d)
def fG(K:Aa)(f:bR):TA:=λ σ H Q=>∃Z env ρ B hp ds hp',aT3/\aT>=(ds,hp')/\Qpk K ρ B H ds hp' Q
def DE(X:Cx)(e:Expr)(f:aJ):Û:=bX e (tD X.K f)
def DT(X:Cx)(e:Expr)(f:bV):Û:=PT X e (fD X.K f)
def DW(X:Cx)(e:Expr)(f:bV):Û:=PW X e (fD X.K f)
def DA(X:Cx)(es:Ϡ)(f:bR):Û:=PA X es (fG X.K f)
def nG(K:Aa)(Z:Ent)(ρ:Ey)(B:Ex)(H:Hp)(b:Fl)(a:En)(hp':Hs)(D:KB):Û :=
  ∀σ' ρ' B' H', bg5 -> bK K Z a σ' ρ' B' hp' H' -> match b with
    |.nx=>D.nx σ' H'
    |.bk=>D.bk σ' H'
    |.ct=>D.ct σ' H'
    |.rt d=>∀v,aA K ρ' B' H' d v->D.rt v H'
def mC(K:Aa)(f:aG):TS:=λ D σ H=>∃Z env ρ B hp b a hp',aT3/\aT>=((b,a),hp')/\nG K Z ρ B H b a hp' D
def DS(X:Cx)(a:Stmt)(f:aG):Û:=PS X a (mC X.K f)
def iC(X:Cx)(a:AX)(f:aG):Û:=PSs X a (mC X.K f)
section
variable{X:Cx}
def _root_.L2.PE.imp{t t':TE}(h:bX e t)(i:∀σ H Q,t' σ H Q->t σ H Q):bX e t':=λ a s σ H Q I q=>h a s σ H Q I (i σ H Q q)
def _root_.L2.PT.imp{t t':TT}(h:PT X e t)(i:∀σ H Q,t' σ H Q->t σ H Q):PT X e t':=λ a s σ H Q I q=>h a s σ H Q I (i σ H Q q)
def _root_.L2.PW.imp{t t':TT}(h:PW X e t)(i:∀σ H Q,t' σ H Q->t σ H Q):PW X e t':=λ a O9 s σ H Q I q=>h a O9 s σ H Q I (i σ H Q q)
def _root_.L2.PA.imp{es:Ϡ}{t t':TA}(h:PA X es t)(i:∀σ H Q,t' σ H Q->t σ H Q):PA X es t':=λ pos O9 s σ H Q I q=>h pos O9 s σ H Q I (i σ H Q q)
def _root_.L2.PS.imp{b:Stmt}{t t':TS}(h:PS X b t)(i:∀a σ H,t' a σ H->t a σ H):PS X b t':=λ c s σ H a I q=>h c s σ H a I (i a σ H q)
def _root_.L2.PSs.imp{b:AX}{t t':TS}(h:PSs X b t)(i:∀a σ H,t' a σ H->t a σ H):PSs X b t':=λ c s σ H a I q=>h c s σ H a I (i a σ H q)
def DG(K:Aa)(H:Hp):Û:=∀a o,F6>=o->LS a
def Inv.nZ(I:Ϝ):DG X.K H:=λ a o e=>by
  cases q:NY a with
  |none=>rfl
  |some b=>have:=(I.bs a b (I.ok.mod.kin a b q)).2;rw[e]at this;cases this
def _root_.L2.PE.kf{t:TE}(h:bX e t):bX e (λ σ H Q=>t σ H λ v H'=>DG X.K H'->cH8 v):=λ a s σ H Q I q =>
 fT (h a s σ H _ I q) u s' v H' I' r z ⟨v,H',I',r,z (Inv.nZ I')⟩
def Qg{α β:re}{f:cA8}{g:α->M β}{y:β}(h:(f >>= g) hp>=(y,hp')):∃x hp1,f hp>=(x,hp1)/\g x hp1>=(y,hp'):=by
 change (f hp).bind (λ p=>g ϰ PP)>=(y,hp')at h;cases q:f hp with
 |none=>rw[q]at h;cases h
 |some p=>rw[q]at h;exact Α ϰ PP h
def Qk{α:re}{x y:α}{hp hp':Hs}(h:(bZ8:cA8) hp>=(y,hp')):x=y/\hp=hp':=by change è (x,hp)>=(y,hp')at h;cases h;exact ft
def tD.run{K:Aa}{f:aJ}{Z:Ent}{Q:VK}(S:aT3)(e:aT>=(d,hp1))
  (k:∀v ρ' B' H',bO6->aS1 K Z ρ' B' hp1 H'->aA K ρ' B' H' d v->cH8 v):tD K f σ H Q :=
 ⟨Z,env,ρ,B,hp,d,hp1,S,e,λ v ρ' B' H' g W r=>k v ρ' B' H' g cY5 r⟩
def Qb(i:Nat):aJ:=λ env=>match bB5 with
 |some (.val d)=>bK2
 |_=>failure
def eC(d:DV):aJ:=λ_=>bK2
def Qgw{i:Nat}{env:En}{hp hp':Hs}(h:Qb i env hp>=(d,hp')):cc1 as3/\hp=hp':=by
  unfold Qb at h;cases q:bB5 with
  |none=>rw[q]at h;cases h
  |some z =>
    rw[q]at h;cases z with
    |val x=>obtain⟨rfl,rfl⟩:=cB0;exact ft
    |un=>cases h
    |acc _=>cases h
def o2{a b c:Û}(h:b):a∨b∨c:=Ğ ca1
def o3{a b c:Û}(h:c):a∨b∨c:=Ğ (Ğ h)
def Qa(i:Nat){x:Str}{pos:Pos}(hN:ay9:=by rfl)(c:Rs x:=by first|exact ak0|exact o2 rfl|exact o3 rfl)(hd:bn2:=by decide)
  (hcd:pk x aD7:=by decide):bb ae6 (Qb i) :=
 (Rp hN c hd hcd).imp λ σ H Q a=>by obtain⟨Z,env,ρ,B,hp,d,hp',S,e,k⟩:=a;obtain⟨b,rfl⟩:=Qgw e;obtain⟨v,h1,h2⟩:=S.slot i d b;exact da v h1 (cv2 v S.wo h2)
def jy(h:bX e (tC v))(r:∀K ρ B H,ce2):bb e (eC d) :=
 h.imp λ σ H Q a=>by obtain⟨Z,env,ρ,B,hp,d',hp',S,e,k⟩:=a;obtain⟨rfl,rfl⟩:=IT;exact cv2 v S.wo (r _ _ _ _)
def Qm{i:Int}{j pos}:bb (cf5 br0 j) (ì i):=jy Qnt bL7
def YG{b:Bool}{j pos}:bb (cf5 (E7 b) j) (eC LZ):=jy QoT bL7
def ZJ{j pos}:bb (cf5 bE j) iN:=jy Qnu bL7
def ZZ{x:Str}{j pos}:bb (cf5 aJ4 j) (q0 x):=jy Qnw bL7
def QkE{x:Str}{i:Int}{t:Tok}{pos:Pos}(a:cf8)(b:X.mg x>=aE8)(hd:bn2:=by decide):bb ae6 (ì i) :=
 jy (SJ (v:=ng) a b (õ t) hd) bL7
def rH(K:Aa)(g:DV->fS):R2:=λ x y H Q=>∃ρ B hp a b d hp',bC4/\o7 a x/\o7 b y/\g a b hp>=(d,hp')/\iT K ρ B H d hp' Q
def P2(X:Cx)(f:bx2)(g:DV->fS):Û:=OpR X f (rH X.K g)
def Qh(g:DV->fS)(a b:aJ):aJ:=FG (do let x <- bF4;let y <- b env;g x y)
variable{a b c:Expr}{fa fb fc:aJ}{pos:Pos}
def jC{K:Aa}{g:DV->fS}(h:tD K (Qh g fa fb) σ H Q):tOp (rH K g) (tD K fa) (tD K fb) σ H Q:=by obtain⟨Z,env,ρ,B,hp,d,hp',S,e,k⟩:=h;obtain⟨x,hp1,i,j⟩:=ũ;obtain⟨y,hp2,l,n⟩:=Qg j;refine P9 i v o (aB3 l (λ u ρ2 f H2 g2 S2 t=>?_));exact⟨ρ2,f,hp2,x,y,d,hp',S2.wo,dr g2 _ _ o,t,n,λ w ρ' B' H' g W r=>k w ρ' B' H' (EA g) W r⟩
def Qr{e:Operator}{g:DV->fS}(j:OG X e g)(f:cS5)(i:bb b fb):bb (.BinOp a e b pos) (Qh g fa fb) :=
 (QoU j f i).imp (EJ h (jC h))
def JU{e:CmpOp}{g:DV->fS}(l:ce6 e g)(f:cS5)(i:bb b fb)(j:AA e b):bb (.Compare a [e] [b] pos) (Qh g fa fb) :=
 (Qlm l f i j).imp (EJ h (jC h))
def fU:DV->OS
 |.bl b=>Ô b
 |_=>failure
def eB(f:aJ):bV:=FG (do fU (<- dc))
def qA{d:DV}{c:Bool}{hp hp':Hs}(h:fU d hp>=(c,hp')):d=ξ c/\hp=hp':=by
 cases d with
 |bl b=>obtain⟨rfl,rfl⟩:=cB0;exact ft
 |_=>cases h
def aA.iy{K:Aa}{b:Bool}{v:V}(h:o7 LZ v):v=LZ:=bd aA h h
def aA.aZ{K:Aa}{b:Int}{v:V}(h:o7 ↥b v):v=È b:=bd aA h h
def aA.iY{K:Aa}{b:Str}{v:V}(h:o7 (Ϩ b) v):v=Ϩ b:=bd aA h h
def aA.h_{K:Aa}{v:V}(h:o7 ī v):v=ī:=bd aA h h
def aA.tupI{K:Aa}{B:Ex}{v:V}(h:o7 o0 v):∃a xs,v=ų/\¬ B a/\bS0/\sM:=bd aA h h
def aA.cD{K:Aa}{B:Ex}{v:V}(h:o7 fI v):∃a xs,v=ų/\¬ B a/\Ps K a/\sM:=bd aA h h
def aA.o8{K:Aa}{ρ:Ey}{i:Nat}{v:V}(h:o7 ↑i v):∃a,v=ų/\dC ρ a:=bd aA h h
section
variable{K:Aa}{ρ:Ey}{B:Ex}{H:Hp}
def XZ{b:Bool}:o7 LZ LZ:=aZ7
def Jf{b:Int}:o7 ↥b ↥b:=aZ7
def xi:o7 ī ī:=aZ7
def Y5{a:Addr}(h1:¬ B a)(h2:bS0)(h3:sM):o7 o0 Ŗ:=ń aA (bU4 a xs h1 h2 h3)
def Ve{a:Addr}(h1:¬ B a)(h2:Ps K a)(h3:sM):o7 fI Ŗ:=ń aA (bU4 a xs h1 h2 h3)
#where
def Y0{e:Expr}(h:bb e f)(n:∀whole,ce5 e=be6 v whole e.pos (OF [v] aM8):=by intro _;rfl):DT X e (eB f) :=
 (QnM h n).imp λ σ H Q i=>by obtain⟨Z,env,ρ,B,hp,d,hp',S,e,k⟩:=i;obtain⟨x,hp1,j,l⟩:=ũ;obtain⟨rfl,rfl⟩:=qA l;exact P9 j v o (da d o.iy (k ρ1 B1 H1 g1 S1.wo))
def QW{f:CmpOp}{g:DV->fS}(r:ce6 f g)(l:cS5)(n:bb b fb)(o:AA f b):DT X (.Compare a [f] [b] pos) (E4 g fa fb) :=
 (QlC r l n o).imp λ σ H Q h=>by obtain⟨Z,env,ρ,B,hp,d,hp',S,e,k⟩:=h;obtain⟨x,hp1,i,j⟩:=ũ;obtain⟨rfl,rfl⟩:=qA j;exact jC (P9 i v t (da d t.iy (k ρ1 B1 H1 g1 S1.wo)))
def Yh(f g:bV):bV:=Pv dc SU N7
def iQ(f g:bV):bV:=Pv dc bK1 SU
def qk(f:bV):bV:=FG (hJ b dc (mP b))
def jB(f g:aJ):aJ:=Pv (fU (<- dc)) SU (Ô π)
def kE(f g:aJ):aJ:=Pv (fU (<- dc)) (Ô ο) SU
def I_(f:aJ):aJ:=FG (hJ b (fU (<- dc)) (bv6 b))
def cL(c:bV)(f g:aJ):aJ:=Pv cm2 dc SU
def fD.run{K:Aa}{f:bV}{Z:Ent}{d:Bool}{Q:bD7}(S:aT3)(e:aT>=(d,hp1))
  (k:∀ρ' B' H',bO6->aS1 K Z ρ' B' hp1 H'->cH8 d):fD K f σ H Q :=
 ⟨Z,env,ρ,B,hp,d,hp1,S,e,λ ρ' B' H' g W=>k ρ' B' H' g cY5⟩
variable{ca cb:bV}{rest:Ϡ}
def j8(h:DT X a ca):DW X (aJ9 [a]) ca:=QlI h
def K1(h:DT X a ca):DW X (bC6 [a]) ca:=QnP h
def jA(j:DT X a ca)(l:DW X cf3 cb):DW X (aJ9 (a::aM5)) (Yh ca cb) :=
  (QnO j l).imp λ σ H Q h=>by
    obtain⟨Z,env,ρ,B,hp,d,hp',S,e,k⟩:=h;obtain⟨x,hp1,i,f⟩:=ũ;refine fD.run S i (TZ ρ1 B1 H1 g1 S1);cases x with
    |true=>exact kT (fD.run S1 f λ ρ2 B2 H2 g2 S2=>k ρ2 B2 H2 ag1 S2.wo)
    |false=>obtain⟨rfl,rfl⟩:=Qk f;exact kS (k ρ1 B1 H1 g1 S1.wo)
def uM(j:DT X a ca)(l:DW X cg7 cb):DW X (bC6 (a::aM5)) (iQ ca cb) :=
  (QoZ j l).imp λ σ H Q h=>by
    obtain⟨Z,env,ρ,B,hp,d,hp',S,e,k⟩:=h;obtain⟨x,hp1,i,f⟩:=ũ;refine fD.run S i (TZ ρ1 B1 H1 g1 S1);cases x with
    |false=>exact kS (fD.run S1 f λ ρ2 B2 H2 g2 S2=>k ρ2 B2 H2 ag1 S2.wo)
    |true=>obtain⟨rfl,rfl⟩:=Qk f;exact kT (k ρ1 B1 H1 g1 S1.wo)
def DW.pt(h:DW X e f):DT X e f:=h _
def YI(h:DT X a ca):DT X (.UnaryOp .Not a pos) (qk ca) :=
 (QnL h).imp λ σ H Q f=>by obtain⟨Z,env,ρ,B,hp,d,hp',S,e,k⟩:=f;obtain⟨x,hp1,i,j⟩:=ũ;obtain⟨rfl,rfl⟩:=Qk j;exact fD.run S i λ ρ1 B1 H1 g1 S1=>k ρ1 B1 H1 g1 S1.wo
def kC{e:BoolOp}(h:cS5):cS4 (IH e [a]):=Qnv h
def Ls(n:cS5)(o:bb cf3 fb):bb (aJ9 (a::aM5)) (jB fa fb) :=
  (Qnr n o).imp λ σ H Q h=>by
    obtain⟨Z,env,ρ,B,hp,d,hp',S,e,k⟩:=h;obtain⟨x,hp1,i,j⟩:=ũ;obtain⟨c,hp2,l,f⟩:=Qg j;obtain⟨rfl,rfl⟩:=qA l;refine P9 i v r (AB c r.iy);cases c with
    |true=>exact kT (aB3 f (λ v ρ2 B2 H2 g2 S2 t=>k v ρ2 B2 H2 ag1 S2.wo t))
    |false=>obtain⟨rfl,rfl⟩:=Qk f;exact kS (k _ ρ1 B1 H1 g1 S1.wo XZ)
def Lg(n:cS5)(o:bb cg7 fb):bb (bC6 (a::aM5)) (kE fa fb) :=
  (QoV n o).imp λ σ H Q h=>by
    obtain⟨Z,env,ρ,B,hp,d,hp',S,e,k⟩:=h;obtain⟨x,hp1,i,j⟩:=ũ;obtain⟨c,hp2,l,f⟩:=Qg j;obtain⟨rfl,rfl⟩:=qA l;refine P9 i v r (AB c r.iy);cases c with
    |false=>exact kS (aB3 f (λ v ρ2 B2 H2 g2 S2 t=>k v ρ2 B2 H2 ag1 S2.wo t))
    |true=>obtain⟨rfl,rfl⟩:=Qk f;exact kT (k _ ρ1 B1 H1 g1 S1.wo XZ)
def Uv(o:DT X c ca)(l:cS5)(n:bb b fb):bb (.IfExp c a b pos) (cL ca fa fb) :=
 (Qjb o l n).imp λ σ H Q i=>by
  obtain⟨Z,env,ρ,B,hp,d,hp',S,e,k⟩:=i;obtain⟨x,hp1,j,h⟩:=ũ;refine fD.run S j (TZ ρ1 B1 H1 g1 S1);cases x with
  |true=>exact kT (aB3 h (λ v ρ2 B2 H2 g2 S2 f=>k v ρ2 B2 H2 ag1 S2.wo f))
  |false=>exact kS (aB3 h (λ v ρ2 B2 H2 g2 S2 f=>k v ρ2 B2 H2 ag1 S2.wo f))
def Qj:bR:=λ_=>Ô []
def Qc(f:aJ)(g:bR):bR:=FG (do let x <- dc;let xs <- SU;Ô (x::xs))
def fG.run{K:Aa}{f:bR}{Z:Ent}{Q:Β->eK}(S:aT3)(e:aT>=(ds,hp1))
  (k:∀vs ρ' B' H',bO6->aS1 K Z ρ' B' hp1 H'->au K ρ' B' H' ds vs->cH8 vs):fG K f σ H Q :=
 ⟨Z,env,ρ,B,hp,ds,hp1,S,e,λ vs ρ' B' H' g W r=>k vs ρ' B' H' g cY5 r⟩
def Qi:DA X [] Qj:=pa_nil.imp λ σ H Q f=>by obtain⟨Z,env,ρ,B,hp,ds,hp',S,e,k⟩:=f;obtain⟨rfl,rfl⟩:=IT;exact cv2 [] S.wo au.nil
def Qd{e:Expr}{es:Ϡ}(o:bb e f)(r:DA X es g)(t:cQ3=ž e::bu8:=by rfl):DA X (e::es) (Qc f g) :=
 (xh o r t).imp λ σ H Q h=>by obtain⟨Z,env,ρ,B,hp,ds,hp',S,e,k⟩:=h;obtain⟨x,hp1,i,j⟩:=ũ;obtain⟨xs,hp2,l,n⟩:=Qg j;obtain⟨rfl,rfl⟩:=cB1;exact P9 i v u (fG.run S1 l λ vs ρ2 B2 H2 g2 S2 y=>k _ ρ2 B2 H2 ag1 S2.wo (PV (dr g2 _ _ u) y))
def lim:Nat:=Ņ
def Gv:ÿ lim:=Á
def QJ(c:Bool):co0:=cP6 c (Ô ())
def QL{c:Bool}{hp hp':Hs}{u:Unit}(h:QJ c hp>=(u,hp')):Ĝ c/\hp=hp':=by
 cases c with
 |true=>obtain⟨_,rfl⟩:=Qk (Ý ((Ô ():co0) hp>=(u,hp')) h);exact ft
 |false=>cases h
def qO(ds:á):Bool:=FX Ć lim
def jU{ds:á}(h:Ĝ (qO ds)):ÿ Ć:=Bj (Eo h) Gv
def ZO(f:bR):aJ:=FG (do let xs <- dc;br8 xs;Ô LE)
def Xg(f:bR):aJ:=FG (do let xs <- dc;br8 xs;E6 xs)
def xa{K:Aa}{H:Hp}{Q:VK}(W:bC4)(r:sM)(k:iT K ρ B H o0 hp Q):∀p,ct5->cy0 (Ŝ p LE):=λ p hp' =>
 k _ ρ B _ cf2 (W.laid hp') (Y5 (λ z=>W.bt p z hp') (SqT.of Q0) (br6 W.rb cf2 _ r))
def zr{K:Aa}{H:Hp}{Q:VK}(W:bC4)(r:sM)(k:iT K ρ B H fI hp Q):∀p,ct5->cy0 (n7 p xs):=λ p hp' =>
 k _ ρ B _ cf2 (W.laid hp') (Ve (λ z=>W.bt p z hp') (SqL.of Q0) (br6 W.rb cf2 _ r))
def iT.after{K:Aa}(g:BR K B H ρ1 B1 H1)(k:iT K ρ B H d hp' Q):iT K ρ1 B1 H1 d hp' Q:=λ v ρ' B' H' g' W r=>k v ρ' B' H' (g.trans g') W r
def Zm{es:Ϡ}{x1}(h:DA X es f):bb (.Tuple es x1 pos) (ZO f) :=
 (Qnx h).imp λ σ H Q j=>by obtain⟨Z,env,ρ,B,hp,d,hp',S,e,k⟩:=j;obtain⟨xs,hp1,l,n⟩:=ũ;obtain⟨_,hp2,o,r⟩:=Qg n;obtain⟨t,rfl⟩:=QL o;obtain⟨rfl,rfl⟩:=Qk r;exact aA1 l (FK vs B1 H1 g1 S1 i (Ĭ (æ ⇑i (jU t)) (xa S1.wo i bM5)))
def YH{es:Ϡ}(h:DA X es f):bb (.List es pos) (Xg f) :=
 (L_ h).imp λ σ H Q j=>by obtain⟨Z,env,ρ,B,hp,d,hp',S,e,k⟩:=j;obtain⟨xs,hp1,l,n⟩:=ũ;obtain⟨_,hp2,o,r⟩:=Qg n;obtain⟨t,rfl⟩:=QL o;obtain⟨rfl,rfl⟩:=Qk r;exact aA1 l (FK vs B1 H1 g1 S1 i (Ĭ (æ ⇑i (jU t)) (zr S1.wo i bM5)))
#where
#print D
namespace L2
open PySem PySem.Spec PyProof.Rows
def JT(X:Cx)(scope:Scope)(a:ay2)(C:Addr)(N:cr)(s₀:Shared)(H₀:Hp)(ex:Ey):Cx where
 prog:=X.prog
 w:=X.w
 K:=X.K
 mg:=X.mg
 O8:=X.O8
 A:=X.A
 N:=N
 s₀:=s₀
 H₀:=H₀
 env:=compEnvC scope a C X.env
 outer:=X.stack
 stack:=X.stack
 ex:=ex
 fn:=λ_=>false
 calm:=X.calm
 pn:=[]
 xe:=py
def AllP{α:re}(P:Δ α):Δ To
 | []=>True
 |x::r=>P x/\AllP P r
def AllP.mem{α:re}{P:Δ α}:∀{l:To}{x:α},AllP P l->x∈l->P x
 | [],_,_,h=>aj7 h
 |y::r,x,⟨h1,h2⟩,h=>(Nm h).elim (λ e=>e▸h1) λ e=>AllP.mem h2 e
def dJ(X:Cx)(scope:Scope)(a:ay2):cr->Δ ć
  | [],[]=>True
  | y :: ys, i :: b => ŵ X.N = è y /\ (ac0 y = è aF6 ∨ ac0 y = è be3) /\ (∃c, a.lookup y = bA9) /\
      ae7 IG y≠è oB/\dJ X scope a ys b
  |_,_=>False
def dJ.get{f:ay2}:∀{ys:cr}{e:ć}{j:Nat}{y:Str},dJ X scope f ys e->ys[j]?>=y ->
    ∃i,e[j]?>=i/\dC X.N y/\(ac0 y>=aF6∨ac0 y>=be3)/\(∃c,f.lookup y>=c)/\ae7 IG y≠è oB
  | [],_,_,_,_,h=>c9 h
  |y::ys,[],_,_,h,_=>mY dJ
  |y::ys,i::e,0,z,⟨h1,h2,h3,h4,_⟩,h=>by simp at h;subst h;exact⟨i,rfl,h1,h2,h3,h4⟩
  |y::ys,i::e,j+1,z,⟨_,_,_,_,h5⟩,h=>ah1 k a b (dJ.get h5 (Ä h)) (da k cs0 b)
def dJ.length{b:ay2}:∀{ys:cr}{a:ć},dJ X scope b ys a->Sj=cG7
 | [],[],_=>rfl
 | [],_::_,h=>mY dJ
 |_::_,[],h=>mY dJ
 |_::ys,_::a,⟨_,_,_,_,h⟩=>ą (dJ.length h)
structure dG(X:Cx)(x:Str)(scope:Scope)(cl:ay2)(caps:cr)(idx:ć):Û where
 clos:closureFor scope X.env=Ô cl
 cell:∀y∈scope.names,y.2≠aF6
 kind:scope.kind=aM3
 names:∀y∈scope.names,y.2=oB->nT y.1>=oB
 hx:nT x>=oB
 cls:AllP (λ p:Str × Addr=>Ĳ ϰ PP) cl
 has:Ĝ ((IG).names.all λ p=>mP (PP==aF6||PP==be3)||aq8 (cl.lookup ϰ))
 cps:dJ X scope cl caps idx
 nd:(x::caps).Nodup
structure Le(X:Cx)(scope:Scope)(cl:ay2)(caps:cr)(idx:ć):Û where
 clos:closureFor scope X.env=Ô cl
 cell:∀y∈scope.names,y.2≠aF6
 kind:scope.kind=aM3
 names:∀y∈scope.names,y.2=oB->nT y.1>=oB
 cls:AllP (λ p:Str × Addr=>Ĳ ϰ PP) cl
 has:Ĝ ((IG).names.all λ p=>mP (PP==aF6||PP==be3)||aq8 (cl.lookup ϰ))
 cps:dJ X scope cl caps idx
def cσ(idx:ć)(σ:St)(o:aU1):St:=o::co2 i (ŵ σ).join
def cσs(idx:ć)(σ:St)(os:Ã aU1):St:=os++co2 i (ŵ σ).join
def rF(X:Cx)(a:Ϡ)(t:TT):Û :=
  ∀(O9 : E3)(s : Shared)(σ : St)(H : Hp)(Q : bD7), Ϝ -> t σ H Q ->
    χ (forIn a true λ c r=>df r (hJ ok (ae9 c (Ù c)) (ah9 ok)) (Ô (ah9 r))) (TP X O9 σ Q) s
def QlD:rF X [] (λ_ H Q=>Q true H):=λ a s σ H Q I h=>wpAny_tests_nil (da H I h)
def QlE{t:TT}(h:PT X c t):rF X [c] t:=λ a s σ H Q I q=>wpAny_tests_one (h a s σ H Q I q)
section
variable{prog:Program}{w:World}{A:Around}{R:Result->Ε}{s:Shared}
def kz{b target a:Expr}{e:Ϡ}{scope:Scope}{pos:Pos}{f acc:Value}{env:Env}(I:NU Ε)
    (turn:∀n s,I n s->wpAny al1 A (pyNext f) (λ r s₁=>match r with
      |none=>R (.ok .next) s₁
      |some v=>wpAny al1 A (br2 target f v) (λ_ s₁'=>wpAny al1 A (assign target env v) (λ_ s₂ =>
          wpAny al1 A (forIn e true λ c r=>df r (hJ ok (isTrue c env (bP5 c)) (ah9 ok)) (Ô (ah9 r))) (λ ok s₃ =>
            if Ĝ ok then wpAny al1 A (bP5 b) (λ x s₄ =>
              ff w A (PR bV6 [acc,x]) (λ_ s₅=>∃m,m<n/\I m s₅) py s₄) py s₃
            else ∃m,m<n/\I m s₃) py s₂) py s₁') py s₁) py s)
    (n:Nat) (h:I n s) :
    codeAny al1 A (.compLoop (az3 b [Nc target a e 0]) 0 f acc env) R s:=by
  refine codeAny_loop rfl I (Ł n s hI) n h;show ł A ((compTurn (az3 b [Nc target a e 0]) 0 f acc env).onRaise (λ x=>do noteFrame x env;theTreesLotGoes x)) _ _ s;refine wpAny_noted ?_;rw[compTurn_list];refine br1 (Ef (bR7 (turn n s hI) (Ł r s₁ h₁) h'));cases r with
  |none=>exact Ei h₁
  |some v =>
    refine Ef (bR7 h₁ (λ_ s₁' h₁'=>?_) h');refine Ef (bR7 h₁' (λ_ s₂ h₂=>Ef (bR7 h₂ (Ł ok s₃ h₃) h')) h');cases ok with
    |false=>exact Ei (Ť h₃)
    |true=>exact aG0 (bR7 h₃ (λ x s₄ h₄=>Ef (bR7 h₄ (λ_ s₅ h₅=>Ei (Ei (Ť h₅))) h')) h')
#where
def EY(K:Aa)(h:TI)(tg:V->Hp->Δ bL4)(tt:TT)(te:TE)(idx:ć):TE:=λ σ H Q=>h σ H λ J e=>∀D,Ū (e D)->LS D->∃W:NU (NU (Β->eK)),(∃m,W 0 m [] (upd e D l7)) /\
  ∀i m ys H, W i m ys H -> H D = è (Ø ys) /\ ((J.stop i H /\ bq9 D H) ∨ (J.go i H /\ ∀x H', J.yld i H x H' -> tg x H' λ f => tt (cw5 bW1) H' λ b H2 =>
    if Ĝ b then te (cw5 bW1) H2 λ y H3=>Ň (H3 D) ys/\be2 Sj/\∃a,a<m/\W (i+1) a (ys++[y]) (upd H3 D (bu9 ys [y]))
    else ∃a,a<m/\W (i+1) a ys H2))
def Dl(K:Aa)(a:TI):TT->TE->ć->TE:=EY K a λ x _ k=>k [x]
section
variable{X:Cx}{elt iter:Expr}{x:Str}{px:Pos}{ifs:Ϡ}{scope:Scope}{cl:ay2}{pos:Pos}{caps:cr}{idx:ć}{wi:TI}{tt:TT}{te:TE}
def uI{xs:cr}{gt:TG}{tg:V->Hp->Δ bL4}{E:Es}{use:Ð (Fn (Sem Unit))}{QQ:Es}{pA:Pos}(S:Le X scope cl caps idx)(hc:ϙ)(hi:PI X target iter wi)
    (hg:∀C s₀ H₀ ex,PG (cy5 (xs++caps)) target gt) (hv:∀σ os H v k,⇑os=ŕ->tg v H k->gt v (cw5 os) H λ σ' H'=>∃zs,zs.length=ŕ/\σ'=cw5 aO4/\H'=H/\k zs)
    (ht:∀C s₀ H₀ ex,rF (cy5 (xs++caps)) ifs tt) (he:∀C s₀ H₀ ex,PE (cy5 (xs++caps)) elt te)
    {O9:Et} {s:Shared} {σ:St} {H:Hp} {Q:VK} (I:Ϝ) (h:EY X.K wi tg tt te idx σ H Q)
    (hE:X.xe=E)
    (hend:∀(D C:Addr)(H':Hp)(s':Shared)(m:Eu),cb2->bq9 D H'->s'.heap.Ns C m->Ū (H' C)->fA C->db C->(∀x c,Ĳ x c->c≠C)->(∀p∈X.pn++O9,ϰ≠C) ->
      compPost al5 X.A E use QQ ↑D C (.ok .next) s')
    (hs:∀x,cW5=bZ8:=by intro _;rfl) :
    Ψ (comprehension (aK2 [bx4 target 0]) scope X.env pA bW2 false (Ù iter) use) QQ E s:=by
  subst hE;refine wpAny_comprehension_free (use:=use) rfl hs S.clos S.kind S.names (thn (hi O9 s σ H _ I h) λ xv s1 h1=>ō h1 d5 F h2);obtain⟨it,L,tn,J,H2,rfl,I2,T,ba,R,hQ⟩:=h2;refine wpAny_newObj_type (wpAny_newFunctionEnv S.cell (by intro y hy;simp at hy) (Ł h₁ a9₁ ad₁) S.kind);dsimp only at a9₁ ad₁ ⊢;generalize a8:F.heap.push { cls:=aD6, dict:=none,data:=.seq (av7 ([]:ó)) }=t at a9₁ ad₁ ⊢;have hC:t.objs.size=F.heap.objs.size+1:=an9 a8 Cn
  have lR:∀b o,F.heap.get? b>=o->t.get? b>=o:=λ b o e=>a8▸FY;have c8:Ū (H2 F.heap.objs.size):=I2.hok.fresh ę;have f:Ŋ (upd H2 F.heap.objs.size l7) (ů F t) :=
    I2.laid (t':=F.toks) lR ę ⟨CO,[],_,mT,a8▸IE⟩
  have Sn:Ū cw3:=by
    cases q:cw3 with
    |none=>rfl
    |some o=>exact aQ8 (Ap (I2.kIn _ o q))
  obtain⟨W,⟨m0,w0⟩,be⟩:=hQ _ c8 Sn;generalize So:F.heap.objs.size=D at *;generalize rQ:t.objs.size=C at *;have Bl:∀b o,t.get? b>=o->b≠C:=λ b o e=>æ rQ bF2
  have fL:∀b o,t.get? b>=o->h₁.get? b>=o:=λ b o e=>ad₁.extBut b o (Bl b o e) FY;have D7:(ů F t:Shared).heap.objs.size=C:=rQ;have pK:∀y c,cl.lookup y>=c->Ĳ y c:=λ y c e=>S.cls.mem (my e);have t_:∀b∈L,∃o,F.heap.get? b>=o:=λ b a=>let ⟨o,e,_⟩:=T.obj _ _ ba b a;Ĭ o e;have N8:∀b∈L,b≠C:=λ b a=>let ⟨o,e⟩:=t_ b a;Bl b o (lR b o e);have SB:∀b∈L,b≠D:=λ b a=>let ⟨o,e⟩:=t_ b a;æ So bF2
  have bv:∀b∈L,Ū ((upd H2 D l7) b):=λ b a=>iL (SB b a) (R b a).1
  have pL:∀y c,Ĳ y c->c≠C:=λ y c e=>let ⟨v,o,ho,_⟩:=f.cell y c e;Bl c o ho;have n_:∀b∈L,b∉av3:=λ b a z=>(Nm (I2.stkSub b z)).elim (R b a).2.1 (R b a).2.2.1
  let P:=Ta X cl C (xs++caps) (ů F t) (upd H2 D l7) L
  have cq:P.Ok:=by
    refine⟨f.ok.mod,by show(IG).kind=_;exact S.kind,f.ok.glob,f.ok.blt,hW (t.objs.size<=C) rQ ę,λ y z c h1 h2=>f.ok.inj y z c (pK y c h1) (pK z c h2),Ź y hy,
      λ y c z=>ĥ z,f.ok.hd,f.ok.frames,ı,λ b a=>Ĭ (N8 b a) (λ y c e=>(R b a).2.2.2.2.1 y c (pK y c e)),f.bs,Bj f.ok.bsz f.sz,
      nL b o e a,λ b a=>n_ b a,f.stack,f.stkFree⟩
    . have cf:ae7 IG y>=aF6∨ae7 IG y>=be3:=hy
      have q:=S.has;rw[List.all_eq_true]at q;have:tF (cl.lookup y):=by
        rcases cf with z|z
        . have q:=q _ (my z);simpa using q
        . have q:=q _ (my z);simpa using q
      exact ah6 this
    . have:=(R b a).2.2.2.1
      have e3:=(I2.ok.bs b o e).1;rcases this with z|z
      . exact I2.ok.noex b o e z
      . exact cx6 (Ap e3) z
  have mX:=⇑S.cps;have I4:Inv P [] (cw5 (A4 av5)) (upd H2 D l7) (ϴ F h₁ (F.toks+⇑([]:ap5))):=by
    refine⟨cq,rfl,f.bare,Un.kept fL,cK6 a9₁ (bF5 i y v e1 e2 e3),Ł y c e,?_,λ y c e=>f.freeC y c (pK y c e),λ p hp=>AQ (p∈([]:Et)) hp Ê,f.hok.kept fL,?_⟩
    . have lz:⇑(A4 (λ_=>(none:aU1)))=ŕ:=Bq _
      by_cases il:i<ŕ
      . have j:dC (A4 (λ_=>(none:aU1))++co2 i (ŵ σ).join) Oa:=e2
        rw[Ah (Å lz il)]at j;simp at j
      . have am:dC (xs++caps) y:=e1
        rw[Aq (C4 il)]at am;obtain⟨k,h1,h2,h3,⟨c,h4⟩,h5⟩:=S.cps.get am;have j:dC (A4 (λ_=>(none:aU1))++co2 i (ŵ σ).join) Oa:=e2;rw[Aq (Å lz (C4 il)),lz,Bt,h1]at j;have j:(σ[k]?).join>=v:=Ak j;have HD:σ[k]?>=Oa:=by
          cases q:σ[k]? with
          |none=>rw[q]at j;cases j
          |some z=>rw[q]at j;exact im some j
        obtain⟨mL,d4,hl⟩:=f.loc;have cw:Rs y:=ac1 h3 z z (Ğ (ê z)) (Ğ (Ğ z))
        obtain⟨u,r,l⟩:=hl k y v h2 HD cw;refine da u r (ax6 ?_ c h4 ?_)
        . have bu:ae7 IG y>=oB∨ae7 IG y>=aF6∨ae7 IG y>=be3:=e3
          rcases bu with z|z|z
          . exact ď z h5
          . exact ê z
          . exact Ğ z
        . rcases l with ⟨z,_⟩|⟨_,c',e,z⟩
          . rcases h3 with q|q <;> · rw[q]at z;cases z
          . rw[pK y c h4]at e;cases e
            obtain⟨o,ho,hd⟩:=z;exact da o (fL _ _ ho) hd
    . obtain⟨v,o,ho,hd⟩:=f.cell y c (pK y c e)
      exact Nc v o (fL _ _ ho) hd
    . exact f.hok.fresh (hW (t.objs.size<=C) rQ ę)
    . simp[cσs,P,JT,mX]
  have mD:tn 0 h₁:=T.keep _ _ _ ba λ b _ o e=>fL b o (lR b o e);have Hx:∀{H':Hp}{O:Et},cW6 L->(O=[])->∀b∈L,U6 P O H' b:=λ hn e b a=>aE5 e ⟨hn b a,N8 b a,n_ b a,ê a,λ y c e=>(R b a).2.2.2.2.1 y c (pK y c e),λ p hp=>AQ (p∈([]:Et)) hp Ê⟩
  have Y:∀s₃:Shared,s₃=ϴ F h₁ (F.toks+⇑([]:ap5)) ->
      codeAny al5 X.A (.compLoop (aK2 [bx4 target 0]) 0 ↑it ↑D (compEnvC scope cl C X.env)) (compPost al5 X.A X.xe use QQ ↑D C) s₃:=by
    rintro s₃ rfl;refine kz (λ n s'=>∃i o H' ys,⇑o=ŕ/\Inv P [] (cw5 o) H' s'/\tn i s'.heap/\cW6 L/\W i n ys H') ?_ m0 ⟨0,_,_,[],Bq _,I4,mD,bv,w0⟩;rintro n s5 ⟨i,o,H5,ys,lo,I5,st5,fr5,w5⟩;obtain⟨hD,tw⟩:=be i n ys H5 w5;rcases tw with ⟨stop,q⟩|⟨go,step⟩
    . refine thn (T.done P rfl rfl rfl hc i [] s5 _ H5 _ I5 (Hx fr5 rfl) st5 stop) (aW0 r s6 hr I6)
      subst hr;obtain⟨m6,Se,_⟩:=I6.loc;have I7:Ŋ H5 s6:=f.call' (s':=s6) (ch:=L) I6.os I6.O8 I6.hok I6.bare λ b a=>Nc (R b a).2.2.2.1 (R b a).2.1 (R b a).2.2.2.2.1 (R b a).2.2.2.2.2;refine hend D C H5 s6 m6 I7 q Se I6.free ?_ ?_ pL (Ź p hp)
      . rw[<- rQ];exact Ea f.lt
      . rw[<- rQ];exact f.sz
      . exact Bl ϰ PP (f.pin p hp).1
    . refine thn (T.item P rfl rfl rfl hc i [] s5 _ H5 _ I5 (Hx fr5 rfl) st5 go) λ r s6 ⟨u,hr,h6⟩=>?_
      subst hr;refine thn h6 λ_ s7 U=>?_;obtain⟨y,H7,I7,r7,y7,Fp,SA⟩:=U;have br:=I7.pinned (Hx SA rfl) (T.obj _ _ Fp);refine thn (hg _ _ _ _ _ s7 _ H7 y u _ br r7 (hv _ _ _ _ _ lo (step y H7 y7))) λ_ s8 U=>?_;obtain⟨σ8,H8,I8,zs,lz,e8,SF,D3⟩:=U;subst e8;subst SF;have again:∀{H9:Hp}{s9:Shared}{ae:Β},Inv P ([]++GM L s7.heap) (cw5 aO4) H9 s9->(∃m',m'<n/\W (i+1) m' ae H9) ->
          ∃m,m<n/\∃i o H' ys,⇑o=ŕ/\Inv P [] (cw5 o) H' s9/\tn i s9.heap/\cW6 L/\W i m ys H':=λ{H9 s9 ae} I9 ⟨m',hm,w9⟩=>by
        refine⟨m',hm,i+1,aO4,H9,ae,å (Bq _) lz,I9.unpinned,T.keep _ _ _ Fp λ b a o e=>(I9.pin (b,o) (bG1 (bG1 (zB a e)))).1,Ź b a,w9⟩;obtain⟨o,e,d⟩:=T.obj _ _ Fp b a;exact(I9.pin (b,o) (bG1 (bG1 (zB a e)))).2.1
      refine ō (ht _ _ _ _ _ s8 _ H8 _ I8 D3) ok s9 U;obtain⟨H9,I9,q9⟩:=U;cases ok with
      |false=>exact again I9 (mE (Eg By) q9 q9)
      |true=>rw[sj]at q9 ⊢;refine ō (he _ _ _ _ _ s9 _ H9 _ I9 q9) v w6 U;obtain⟨z,M3,bh,cv,Hu,ay,m',hm,cy⟩:=U;refine thn (Ud (X:=P) _ w6 _ M3 ↑D [z] ↑D [v] (λ_ H'=>H'=upd M3 D (bu9 ys [z])) bh rfl (fX cv mT) (bV2 D ys z rfl Hu ay rfl)) λ_ d6 U=>?_;obtain⟨_,cz,bq,_,B_⟩:=U;subst B_;exact again bq (da m' hm cy)
  exact codeAny_compStart_list (Y _ rfl) (T.self X.A 0 _ _ _ mD (Y _ rfl))
#where
section
variable{X:Cx}{elt iter:Expr}{x:Str}{px:Pos}{ifs:Ϡ}{scope:Scope}{cl:ay2}{pos:Pos}{caps:cr}{idx:ć}{wi:TI}{tt:TT}{te:TE}
def Qi9{xs:cr}{gt:TG}{tg:V->Hp->Δ bL4}(S:Le X scope cl caps idx)(n:ϙ)(hi:PI X target iter wi)
  (hg:∀C s₀ H₀ ex,PG (cy5 (xs++caps)) target gt) (hv:∀σ os H v k,⇑os=ŕ->tg v H k->gt v (cw5 os) H λ σ' H'=>∃f,by5=ŕ/\σ'=cw5 bW1/\H'=H/\k f)
  (ht:∀C s₀ H₀ ex,rF (cy5 (xs++caps)) ifs tt) (he:∀C s₀ H₀ ex,PE (cy5 (xs++caps)) elt te)
  (a:∀x,cW5=bZ8:=by intro _;rfl):bX (aK2 [bx4 target 0]) (EY X.K wi tg tt te idx):=by
 intro i s σ H Q I h;rw[eval_ListComp];refine uI (use:=none) S n hi hg hv ht he I h rfl (λ D C H' s' m I' q r j h1 h2 h3 h4=>?_) a;show ∃m,s'.heap.Ns C m/\∀h',Nn C s'.heap h'->EP X i σ Q ↑D (ů s' h');exact da m r (λ h' a=>dE (ë D) H' (I'.turned (t':=s'.toks) (λ b o l e=>a.extBut b o l e) j (Ş (Ş h1)) (Ğ h2) h3 h4) q)
def dG.g(S:dG X x scope cl caps idx):Le X scope cl caps idx:=⟨S.clos,S.cell,S.kind,S.names,S.cls,S.has,S.cps⟩
def dG.tg(S:dG X x scope cl caps idx)(C:Addr)(s₀:Shared)(H₀:Hp)(ex:Ey):PG (cy5 ([x]++caps)) ag2 (uU 0):=Sy (i:=0) S.nd rfl (ê bg6) (Ğ bg6)
def R4(σ:St)(os:Ã aU1)(H:Hp)(v:V)(k:bL4)(e:⇑os=1)(h:k [v]):uU 0 v (cw5 os) H λ σ' H'=>∃a,cG7=1/\σ'=cw5 (a.map some)/\H'=H/\k a:=eP o rfl (List.length_eq_one_iff.mp e) (dE [v] rfl rfl h)
def Qln(S:dG X x scope cl caps idx)(a:ϙ)(hi:PI X ag2 iter wi)
  (ht:∀C s₀ H₀ ex,rF (cy5 (x::caps)) ifs tt) (he:∀C s₀ H₀ ex,PE (cy5 (x::caps)) elt te)
  (hs:∀x,cW5=bZ8:=by intro _;rfl):bX (aK2 [cg6 0]) (Dl X.K wi tt te idx) :=
 Qi9 (xs:=[x]) S.g a hi S.tg R4 ht he hs
def QlA{i:Nat}{y:Str}{j f:Pos}(S:dG X x scope cl caps idx)(L:ϙ)(hi:PI X ag2 iter wi)
  (ht:∀C s₀ H₀ ex,rF (cy5 (x::caps)) ifs tt) (he:∀C s₀ H₀ ex,PE (cy5 (x::caps)) elt te)
  (hN:X.N.Nodup) (hy:dC X.N y) (hx:iP y) (hsw:w8 (aK2 [cg6 0]) (è (Ũ y j)) f.line=bK1)
  (hf:EW y∨cR5 y:=by first|exact ı|exact Ty|assumption)
  (n:∀x,cW5=bZ8:=by intro _;rfl):PS X (bU5 [Ũ y j] (aK2 [cg6 0]) f) (C_ (Dl X.K wi tt te idx) (uU i)):=by
 intro u s σ H D I h;rw[exec_Assign_Name_used _ _ _ _ hsw];refine br1 aN1;show ł X.A (do let _ <- comprehension (aK2 [cg6 0]) scope X.env _ bW2 false (Ù iter) (è (bP6 (Ũ y j)))) _ _ s;refine Ef (ix (uI (xs:=[x]) (use:=è (bP6 (Ũ y j))) (QQ:=λ_ s'=>SP X u D .next s') S.g L hi S.tg R4 ht he I (Ý (Dl X.K wi tt te idx σ H _) h) rfl (λ t C H' s' m I' q O F h1 h2 h3 h4=>?_) n) (λ_ s' P=>Ei (Ei P)) e e);show ł X.A (cA0 (Ũ y j) ↑t) (λ_ c=>∃m,c.heap.Ns C m/\∀h',Nn C c.heap h'->SP X u D .next (ů c h')) _ s';refine wpAny_assign_Name (gH I' hN hy hx (v:=ë t) rfl (Ł c I'' z) hf);obtain⟨a,n,l⟩:=z;refine da m (O.sameBut n ?_) (λ h' r=>Nc _ H' (I''.turned (t':=c.toks) (λ b o J e=>r.extBut b o J e) F h1 (Ğ h2) h3 h4) q);rcases l with rfl|l
 ·exact h1
 ·exact Ş (h3 _ _ l)
#where
#print L2
namespace D
open PySem PySem.Spec PyProof.Rows L2
section
variable{K:Aa}{Z:Ent}{env:En}{σ:St}{ρ ρ':Ey}{B B':Ex}{hp hp':Hs}{H H':Hp}
def bK.set{i:Nat}(S:aT3)(r:ce2):bK K Z bd3 cF1 ρ B hp H where
 gr:=S.gr
 zb:=S.zb
 wo:=S.wo
 slot:=λ j e h=>by
  by_cases b:j=i
  ·subst b;have c:j<bq1:=Ŭ aR4
   rw[Au c]at h;cases h;exact da v (Au (Å S.len c)) r
  ·rw[n9 b]at h ⊢;exact S.slot j e h
 dI:=λ j ds h=>by
  by_cases b:j=i
  ·subst b;have c:j<bq1:=Ŭ aR4
   rw[Au c]at h;cases h
  ·rw[n9 b]at h ⊢;exact S.dI j ds h
 fB:=λ j k ds es a h1 h2 h3 h4=>by
  have f:bD8 j ds á (bd3[j]?>=bM3->j≠i):=λ{j ds} h e=>by
   subst e;have c:j<bq1:=Ŭ aR4
   rw[Au c]at h;cases h
  have b:=f h1;have l:=f h2;rw[n9 b]at h1 h3;rw[n9 l]at h2 h4;exact S.fB j k ds es a h1 h2 h3 h4
 len:=ą S.len
#where
section
variable{X:Cx}{e a b c:Expr}{f fa fb:aJ}{ca cb:bV}{pos:Pos}{st:Stmt}{sts rest:AX}{s s':aG}
def nG.after{K:Aa}{Z:Ent}{h:Fl}{D:KB}(g:bg2 ρ1 B1 H1)(k:nG K Z ρ B H h env' hp' D):nG K Z ρ1 B1 H1 h env' hp' D :=
 λ σ' ρ' B' H' g' S=>k σ' ρ' B' H' (g.trans g') S
def ZD:aG:=FG cc0
def Qs(f g:aG):aG:=λ env=>do
 let r <- dc
 match r.1 with
 |.nx=>g r.2
 |_=>Ô r
def aQ(c:bV)(f g:aG):aG:=Pv cm2 dc SU
def QT(f:aJ):aG:=FG (hJ d dc (.rt d,env))
def Iu:aG:=FG (Ô (.rt ī,env))
def Z7(f:aJ):aG:=FG (do let _ <- dc;cc0)
def QI(i:Nat)(f:aJ):aG:=FG (do let d <- dc;bS bd3)
def QV:iC X [] ZD:=pss_nil.imp λ D σ H i=>by obtain⟨Z,env,ρ,B,hp,l,h,hp',S,e,k⟩:=i;obtain⟨j,rfl⟩:=IT;cases j;exact k σ ρ B H Gs.refl S
def QjK{K:Aa}{D:KB}(h:mC K (Qs s s') D σ H):Oh (mC K s) (mC K s') D σ H:=by
 obtain⟨Z,env,ρ,B,hp,t,i,hp',S,e,k⟩:=h;obtain⟨⟨o,aF⟩,hp1,r,n⟩:=ũ;refine⟨Z,env,ρ,B,hp,o,aF,hp1,S,r,bF5 σ' ρ' j H' g l⟩;cases o with
 |nx=>exact⟨Z,aF,ρ',j,hp1,t,i,hp',l,n,AK g⟩
 |rt d=>obtain⟨z,rfl⟩:=cB1;cases z;exact k σ' ρ' j H' g l
 |bk=>obtain⟨z,rfl⟩:=cB1;cases z;exact k σ' ρ' j H' g l
 |ct=>obtain⟨z,rfl⟩:=cB1;cases z;exact k σ' ρ' j H' g l
def Qf(h1:DS X st s)(h2:iC X rest s'):iC X (aM4 st) (Qs s s'):=(Qjt h1 h2).imp (EJ h (QjK h))
def Qo(h1:DS X st s):iC X [st] s:=QlB h1
def ZB{x y:AX}(t:DT X c ca)(h1:iC X x s)(h2:iC X y s'):DS X (.If c x y pos) (aQ ca s s') :=
 (QoY t h1 h2).imp λ D σ H o=>by
  obtain⟨Z,env,ρ,B,hp,n,h,hp',S,e,k⟩:=o;obtain⟨x,hp1,r,l⟩:=ũ;refine fD.run S r (TZ ρ1 i H1 g1 j);cases x with
  |true=>exact kT ⟨Z,env,ρ1,i,hp1,n,h,hp',j,l,AK ip⟩
  |false=>exact kS ⟨Z,env,ρ1,i,hp1,n,h,hp',j,l,AK ip⟩
def QC(h:bb e f):DS X (.Return (è e) pos) (QT f) :=
 (QnK h).imp λ D σ H j=>by obtain⟨Z,env,ρ,B,hp,r,i,hp',S,e,k⟩:=j;obtain⟨d,hp1,l,n⟩:=ũ;obtain⟨z,rfl⟩:=cB1;cases z;exact P9 l v o (k σ ρ1 B1 H1 ip S1 v o)
def Zu(h:bb e f)(o:ap8 e none=N7:=by rfl):DS X (.Expr e pos) (Z7 f) :=
 (Sq h o).imp λ D σ H j=>by obtain⟨Z,env,ρ,B,hp,r,i,hp',S,e,k⟩:=j;obtain⟨d,hp1,l,n⟩:=ũ;obtain⟨z,rfl⟩:=cB1;cases z;exact P9 l v t (k σ ρ1 B1 H1 ip S1)
def W4{K:Aa}{D:KB}{σ:St}{i:Nat}{t:TE}(o:∀σ H Q,tD K f σ H Q->t σ H Q)(h:mC K (QI i f) D σ H):C_ t (uU i) D σ H:=by obtain⟨Z,env,ρ,B,hp,u,j,hp',S,e,k⟩:=h;obtain⟨d,hp1,l,n⟩:=ũ;obtain⟨z,rfl⟩:=cB1;cases z;exact o _ _ _ (P9 l v r (k _ ρ1 B1 H1 ip (S1.set r)))
def Qu(i:Nat){x:Str}{j:Pos}(hN:X.N.Nodup)(l:bb e f)(hi:ay9:=by rfl)(hx:iP x:=by first|exact ak0|exact aX0)(n:ap8 e (è (Of j))=N7:=by rfl)
  (hf:EW x∨cY6:=by first|exact ı|exact Ty|assumption):DS X (cX6 [Of j] e) (QI i f) :=
 (Ri hN hi hx l n hf).imp (EJ h (W4 (EJ q q) h))
abbrev iU:=DV->En->M En
def sZ(K:Aa)(g:iU):TG:=λ v σ H Q=>∃Z env ρ B hp d h hp',aT3/\ce2/\g d env hp>=(h,hp')/\∀σ' ρ' B' H',bg5->bK K Z h σ' ρ' B' hp' H'->cH8 σ'
def gN(i:Nat):iU:=λ d env=>Ô bd3
def JB(i:Nat){x:Str}(hN:X.N.Nodup)(hi:ay9:=by rfl)(hx:iP x:=by first|exact ak0|exact aX0)(hf:EW x∨cY6:=by first|exact ı|exact Ty|assumption):PG X ae6 (sZ X.K (gN i)):=by intro l s σ H v u Q I r h;refine Sy hN hi hx hf l s σ H v u Q I r ?_;obtain⟨Z,env,ρ,B,hp,d,j,hp',S,rd,e,k⟩:=h;obtain⟨rfl,rfl⟩:=IT;exact k _ ρ B H Gs.refl (S.set rd)
def rE(K:Aa)(ρ:Ey)(B:Ex)(H:Hp)(ds:á)(J:It):Û :=
 ∀ρ1 j h,bg2 ρ1 j h->bd2 ρ1 (j b)->(∀a,j a->h a≠none)->ŗ i d DV (aR9->J.go i h/\∀x H',J.yld i h x H'->aA K ρ1 j H' d x/\(H'=h∨∃p o,Ū (h p)/\H'=upd h p o))/\J.stop Ć h
abbrev lD:=En->cA9
def D2(K:Aa)(f:lD):TI:=λ σ H R=>∃Z env ρ B hp ds hp',aT3/\aT>=(ds,hp')/\∀J ρ' B' H',bO6->aO K ρ' B' hp' H'->rE K ρ' B' H' ds J->R J H'
def DI(X:Cx)(tg h:Expr)(f:lD):Û:=PI X tg h (D2 X.K f)
def oF:DV->cA9
 |.tup ds=>cs4
 |_=>failure
def lF(f:aJ):lD:=FG (do oF (<- dc))
def qQ{d:DV}{hp hp':Hs}(h:oF d hp>=(ds,hp')):d=o0/\hp=hp':=by
 cases d with
 |tup xs=>obtain⟨rfl,rfl⟩:=cB0;exact ft
 |_=>cases h
def Qk1{K:Aa}{B:Ex}{a:Addr}(nb:¬ B a)(o:Ps K a)(n:sM):rE K ρ B H ds (Itl K a):=λ ρ1 B1 H1 g _ _=>by have h:=g.M5 nb o;have j:=Nw g _ n;refine Nc (Ł i d e) xs h (Å cz6 ę);obtain⟨x,hx,r⟩:=j.get e;refine Ĭ (Nc xs x h hx) (aW0 y H' l q);subst l;have:=q xs h;rw[hx]at this;cases this;exact Ĭ r ı
def QmV{K:Aa}{B:Ex}{a:Addr}(nb:¬ B a)(o:bS0)(n:sM):rE K ρ B H ds (Itt K a):=λ ρ1 B1 H1 g _ _=>by have h:=g.wZ nb o;have j:=Nw g _ n;refine Nc (Ł i d e) xs h (Å cz6 ę);obtain⟨x,hx,r⟩:=j.get e;refine Ĭ (Nc xs x h hx) (aW0 y H' l q);subst l;have:=q xs h;rw[hx]at this;cases this;exact Ĭ r ı
def Zg(lo:Int)(n:Nat):á:=pe n (λ(i:Nat)=>È (lo+nW))
def ME{K:Aa}{lo:Int}{n:Nat}:rE K ρ B H (Zg lo n) (Itr lo n):=λ ρ1 B1 H1 g _ _=>by
 refine Ĭ (Ł i d e) (by show n<=_;simp[Zg]);have hi:i<n:=dP ct8 Zg
 refine Ĭ hi (aW0 y H' h q);subst h q;have:d=È (lo+i):=by simp[Zg,hi]at e;exact e.symm
 subst this;exact Ĭ Jf ı
variable{tg iter:Expr}
def _root_.L2.PI.imp{l j:TI}(h:PI X tg iter l)(i:∀σ H R,j σ H R->l σ H R):PI X tg iter j:=λ n s σ H R I q=>h n s σ H R I (i σ H R q)
def KR(h:bb iter f):DI X tg iter (lF f):=(QnD h).imp λ σ H R j=>by obtain⟨Z,env,ρ,B,hp,ds,hp',S,e,k⟩:=j;obtain⟨d,hp1,l,n⟩:=ũ;obtain⟨rfl,rfl⟩:=qQ n;refine P9 l v o ?_;obtain⟨a,xs,rfl,nb,i,r⟩:=o.tupI;exact Nc a rfl (Ĭ xs i) (k _ ρ1 B1 H1 g1 S1.wo (QmV nb i r))
def qw(j:Int):Bool:=Ó (-(2 ^ 62)<=j/\j<2 ^ 62)
def pX:á->cA9
 | [.int j]=>do QJ (qw j);Ô (Zg 0 j.toNat)
 |_=>failure
def pW:á->cA9
 | [.int i,.int j]=>do QJ (qw i&&qw j);Ô (Zg i (IS (j-i)))
 |_=>failure
def Gj(f:bR):lD:=FG (do pX (<- dc))
def Dh(f:bR):lD:=FG (do pW (<- dc))
def Qhd{ds out:á}{hp hp':Hs}(h:pX ds hp>=(out,hp')):∃j:Int,ds=[bA7]/\Ĝ (qw j)/\out=Zg 0 j.toNat/\hp=hp':=by
 unfold pX at h;split at h
 ·obtain⟨u,hp1,i,l⟩:=Qg h;obtain⟨h1,rfl⟩:=QL i;obtain⟨rfl,rfl⟩:=Qk l;exact dE _ rfl h1 rfl
 ·cases h
def gu{ds out:á}{hp hp':Hs}(h:pW ds hp>=(out,hp')):∃i j:Int,ds=[ng,bA7]/\Ĝ (qw i)/\Ĝ (qw j)/\out=Zg i (IS (j-i))/\hp=hp':=by
 unfold pW at h;split at h
 ·obtain⟨u,hp1,l,n⟩:=Qg h;obtain⟨h1,rfl⟩:=QL l;obtain⟨rfl,rfl⟩:=cB1;rw[Bc]at h1;exact⟨_,_,rfl,h1.1,h1.2,rfl,rfl⟩
 ·cases h
def au.ints1{K:Aa}{j:Int}{vs:Β}(h:lx [bA7] vs):vs=[bA7]:=by unfold au at h;obtain⟨x,r,rfl,h1,h2⟩:=h;unfold au at h2;rw[h1.aZ,h2]
def au.ints2{K:Aa}{i j:Int}{vs:Β}(h:lx [ng,bA7] vs):vs=[ng,bA7]:=by unfold au at h;obtain⟨x,r,rfl,h1,h2⟩:=h;rw[h1.aZ,h2.ints1]
def Yx{x:Expr}{p:Pos}{f:bR}(r:bT1)(t:eg Η)(o:DA X [x] f)(u:Ñ [x]=[ž x]:=by rfl):DI X tg (NL Η p [x]) (Gj f) :=
 (Qg3 r t o u).imp λ σ H R i=>by obtain⟨Z,env,ρ,B,hp,ds,hp',S,e,k⟩:=i;obtain⟨d,hp1,l,n⟩:=ũ;obtain⟨j,rfl,h1,rfl,rfl⟩:=Qhd n;refine aA1 l (FK vs B1 H1 g1 S1 v ?_);have h:=Eo h1;exact⟨j,v.ints1,h.1,h.2,k _ ρ1 B1 H1 g1 S1.wo ME⟩
def Qgs{x y:Expr}{p:Pos}{f:bR}(v:bT1)(z:eg Η)(u:DA X [x,y] f)(C:Ñ [x,y]=[ž x,ž y]:=by rfl)(n:Ñ [y]=[ž y]:=by rfl) :
  DI X tg (NL Η p [x,y]) (Dh f) :=
 (Qg4 v z u C n).imp λ σ H R o=>by obtain⟨Z,env,ρ,B,hp,ds,hp',S,e,k⟩:=o;obtain⟨d,hp1,r,t⟩:=ũ;obtain⟨i,j,rfl,h1,h2,rfl,rfl⟩:=gu t;refine aA1 r (FK vs B1 H1 g1 S1 F ?_);have h:=Eo h1;have l:=Eo h2;exact⟨i,j,F.ints2,Nc h.1 h.2 l.1 l.2,k _ ρ1 B1 H1 g1 S1.wo ME⟩
def Yb(b:DV->aG):á->aG
  | [],env=>cc0
  |d::ds,env=>do
    let r <- b d env
    match r.1 with
    |.nx=>Yb b ds r.2
    |.ct=>Yb b ds r.2
    |.bk=>bS r.2
    |.rt x=>Ô (.rt x,r.2)
def yh(f:lD)(g:iU)(h:aG):aG:=FG (do let ds <- dc;Yb (Pp d env' (g d env) (h env')) ds env)
def Lj{K:Aa}{B:Ex}{H:Hp}{p:Addr}(rb:∀a∈ρ,B a)(h:ct5):bg2 ρ B (Ŝ p o):=(aG5 h).gs rb
def zo{j:AX}{R:lD}{g:iU}{sb:aG}(hp:av6 al5 X.A X.xe)(hc:ϙ)(hi:DI X tg iter R)(hg:PG X tg (sZ X.K g))(hb:iC X j sb)
  (hs:∀x,cW5=bZ8:=by intro _;rfl):DS X (.For tg iter j [] pos) (yh R g sb) :=
 (Rj hp hc hi hg hb hs).imp λ D σ H aD=>by
  obtain⟨Z,env,ρ,B,hp,U,h,hp',S,e,k⟩:=aD;obtain⟨ds,hp1,e1,e2⟩:=ũ;refine⟨Z,env,ρ,B,hp,ds,hp1,S,e1,FK J C H1 g1 W1 it ?_⟩;have k1:=AK ip;refine⟨λ i m σ H=>m=Ć-i/\i<=Ć/\∃env ρ B hp,aT2 X.K/\Gs X.K ρ1 C H1 ρ B H/\Yb (Pp d h (g d env) (sb h)) cd0 env hp>=((U,h),hp'),
   ⟨Ć,rfl,CO,env,ρ1,C,hp1,S.grow g1 W1,Gs.refl,Ä e2⟩,?_⟩
  rintro i m σ H ⟨rfl,hi,eU,ρ2,B2,hp2,S2,g2,e3⟩;obtain⟨RS,O⟩:=it ρ2 B2 H g2 S2.wo.rb S2.wo.bt;by_cases l:i<Ć
  ·have hd:aR8 ds[i]:=Ab l;obtain⟨go,yl⟩:=RS i _ hd;rw[Bi l]at e3;obtain⟨⟨Q,F⟩,I,e4,v⟩:=Qg e3;obtain⟨Y,n,e6,e7⟩:=Qg e4;refine .inr ⟨go,λ σ' H'=>∃env ρ B hp,xk X.K Z σ' ρ B hp H'/\Gs X.K ρ1 C H1 ρ B H'/\Yb (Pp d h (g d env) (sb h)) (qz (i+1)) env hp>=((U,h),hp'),
    λ σ' H' q=>A5 (Ć-(i+1)) À l q,Ł x H' y⟩
   obtain⟨rx,hx⟩:=yl x H' y;have P:bK X.K Z eU σ ρ2 B2 hp2 H'/\Gs X.K ρ2 B2 H ρ2 B2 H':=by
    rcases hx with rfl|⟨p,o,L,rfl⟩
    ·exact Ĭ S2 Gs.refl
    ·exact Ĭ (S2.grow (aG5 L) (S2.wo.laid L)) (Lj S2.wo.rb L)
   refine⟨Z,eU,ρ2,B2,hp2,ds[i],Y,n,P.1,rx,e6,λ σ5 ρ5 B5 H5 g5 S5=>⟨Z,Y,ρ5,B5,n,Q,F,I,S5,e7,bF5 σ6 ρ6 r H6 g6 u⟩⟩;have t:=cK2 (å P.2 (g5.trans g6));cases Q with
   |nx=>exact⟨F,ρ6,r,I,u,t,v⟩
   |ct=>exact⟨F,ρ6,r,I,u,t,v⟩
   |bk=>obtain⟨z,rfl⟩:=Qk v;cases z;exact k1 σ6 ρ6 r H6 t u
   |rt d=>obtain⟨z,rfl⟩:=Qk v;cases z;exact k1 σ6 ρ6 r H6 t u
  ·have e:i=Ć:=À
   subst e;rw[C7]at e3;obtain⟨z,rfl⟩:=Qk e3;cases z;exact n5 O (k1 σ ρ2 B2 H g2 S2)
def J0(c:bV)(b:aG):NU aG
  |0,_=>failure
  |n+1,env=>do
    if <- cm2 then
      let r <- b env
      match r.1 with
      |.nx=>J0 c b n r.2
      |.ct=>J0 c b n r.2
      |.bk=>bS r.2
      |.rt x=>Ô (.rt x,r.2)
    else cc0
def K0(n:Nat){h:AX}(hp:av6 al5 X.A X.xe)(Y:DT X c ca)(U:iC X h sb):DS X (.While c h [] pos) (J0 ca sb n) :=
  (Qjs hp Y U).imp λ D σ H O=>by
    obtain⟨Z,env,ρ,B,hp,L,i,hp',S,e,k⟩:=O;refine AB (λ m σ H1=>∃aF ρ1 j hp1,bK X.K Z aF σ ρ1 j hp1 H1/\bg1 X.K ρ1 j H1/\J0 ca sb m aF hp1>=((L,i),hp')) ⟨n,env,ρ,B,hp,S,Gs.refl,e⟩;rintro m σ H1 ⟨aF,ρ1,j,hp1,S1,g1,e1⟩;cases m with
    |zero=>cases e1
    |succ m =>
      obtain⟨x,hp2,P,I⟩:=Qg e1;refine fD.run S1 P (TZ ρ2 y H2 g2 F);have C:=du (g2.gs S1.wo.rb);cases x with
      |false=>obtain⟨z,rfl⟩:=Qk I;cases z;exact kS (k σ ρ2 y H2 C F)
      |true =>
        obtain⟨⟨J,u⟩,v,Q,t⟩:=Qg I;refine kT (AB (λ σ' H'=>∃aF ρ1 j hp1,bK X.K Z aF σ' ρ1 j hp1 H'/\bg1 X.K ρ1 j H'/\J0 ca sb m aF hp1>=((L,i),hp')) (λ σ' H' q=>da m (C6 m) q));refine⟨Z,aF,ρ2,y,hp2,J,u,v,F,Q,bF5 σ6 ρ6 l H6 R r⟩;have o:=C.trans R;cases J with
        |nx=>exact⟨u,ρ6,l,v,r,o,t⟩
        |ct=>exact⟨u,ρ6,l,v,r,o,t⟩
        |bk=>obtain⟨z,rfl⟩:=Qk t;cases z;exact k σ6 ρ6 l H6 o r
        |rt d=>obtain⟨z,rfl⟩:=Qk t;cases z;exact k σ6 ρ6 l H6 o r
#where
section
variable{K:Aa}{Z:Ent}{env:En}{σ:St}{ρ ρ':Ey}{B B':Ex}{hp hp':Hs}{H H':Hp}
def zX(B:Ex)(p:Addr):Δ Addr:=λ a=>B a∨a=p
def Gr.banned{p:Addr}(h:ct5)(kf:LS p):BR K B H ρ (zX B p) (Ŝ p o) where
 pre:=Ck
 ban:=Fj h h
 new:=λ a z=>z.elim .inl λ e=>Ğ (e▸Ĭ h kf)
 cg:=Fj h h
 keep:=λ a u _ q=>aZ9 q h q
 trk:=(an8 K K ρ B B h).trk
def aO.banned{p:Addr}(W:bC4)(h:ct5)(kf:LS p):bC2 (zX B p) (Ŝ p o) where
 len:=W.len
 nd:=W.nd
 obj:=λ i a u e q=>ci9 ((cK7 h kf).gs W.rb) (λ z=>W.bt a (W.rb a cA6) (z▸h)) (W.obj i a u e q)
 rb:=λ a h=>ê (W.rb a h)
 bt:=λ a z q=>by
  have b:=(an8 K K ρ B B h).trk a q;rcases z with z|rfl
  ·exact W.bt a z b
  ·rw[Q0]at q;cases q
 bk:=λ a z=>z.elim (W.bk a) λ e=>e▸kf
def bK.newAcc{i:Nat}{p:Addr}(S:aT3)(h:ct5)(kf:LS p)(r:sM):bK K Z (ay6 ds) (aK5 (è ↑p)) ρ (zX B p) hp (n7 p xs):=by
 have g:BR K B H ρ (zX B p) (n7 p xs):=cK7 h kf;have W:=S.wo.banned (o:=cQ5) h kf;have n:=cY5;have C:p∉ρ:=λ z=>S.wo.bt p (S.wo.rb p z) h;refine⟨n.gr,S.zb,W,Ł j e q,Ł j es q,λ j k es t a h1 h2 h3 h4=>?_,ą S.len⟩
 ·by_cases b:j=i
  ·subst b;have l:j<bq1:=Ŭ (Ω q)
   rw[Au l]at q;cases q
  ·rw[n9 b]at q ⊢;exact n.slot j e q
 ·by_cases b:j=i
  ·subst b;have l:j<bq1:=Ŭ (Ω q)
   rw[Au l]at q;cases q;exact⟨p,xs,Au (Å S.len l),Q0,S.gr.trk p h,Ty,C,br6 S.wo.rb g _ r⟩
  ·rw[n9 b]at q ⊢;exact n.dI j es q
 ·have y:bD8 j es á ((ay6 ds)[j]?>=at1->j=i∨(j≠i/\aL6 j>=at1)):=λ{j es} q=>by
   by_cases b:j=i
   ·exact ê b
   ·rw[n9 b]at q;exact pS b q
  have v:bD8 j es á (j≠i->aL6 j>=at1->(aK5 (è ↑p))[j]?>=aY9->a≠p):=λ{j es} b q z=>by rw[n9 b]at z;obtain⟨I,F,c,f,_⟩:=S.dI j es q;rw[z]at c;cases c;exact ZS f h
  have x:bD8 j es á (j=i->(ay6 ds)[j]?>=at1->(aK5 (è ↑p))[j]?>=aY9->a=p):=λ{j es} e q z=>by
   subst e;have l:j<bq1:=Ŭ (Ω q)
   rw[Au (Å S.len l)]at z;cases z;rfl
  rcases y h1 with c|⟨c,q1⟩<;>rcases y h2 with f|⟨f,u⟩
  ·rw[c,f]
  ·exact ď (x c h1 h3) (v f u h4)
  ·exact ď (x f h2 h4) (v c q1 h3)
  ·rw[n9 c]at h3;rw[n9 f]at h4;exact S.fB j k es t a q1 u h3 h4
def bK.oY{i:Nat}{a:Addr}(S:aT3)(f:cX7)(hσ:dC σ aY9)(r:lx ds' xs'):
  bg2 ρ B (n7 a xs')/\bK K Z (ay6 ds') σ ρ B hp (n7 a xs'):=by
 obtain⟨L,J,t,O,u,x,y,_⟩:=S.dI i ds f;rw[hσ]at t;cases t;have trk:∀b,Ū ((upd H a (Ø xs')) b)->cb4:=λ b q=>by
  by_cases e:b=a
  ·subst e;rw[Q0]at q;cases q
  ·rw[QP e]at q;exact q
 have g:bg2 ρ B (n7 a xs'):=Nc Ck (Fj h h) (λ b o nb h=>iL (Ý (b≠a) (λ z=>nb (Å z x))) h) trk;have C:i<bq1:=Ω f;refine Ĭ g ⟨⟨S.gr.pre,S.gr.ban,S.gr.new,S.gr.cg,nL b o nb h,λ b q=>S.gr.trk b (trk b q)⟩,S.zb,⟨S.wo.len,S.wo.nd,TZ j b o q1 n,S.wo.rb,λ b z q=>S.wo.bt b z (trk b q),S.wo.bk⟩,Ł j d q,Ł j es q,λ j k es F b h1 h2 h3 h4=>?_,ą S.len⟩
 ·have l:b≠a:=fg z z u h h
  rw[QP l];exact S.gr.keep b o nb h
 ·exact ci9 g (Ý (b≠a) (λ z=>y (æ z (Aw q1)))) (S.wo.obj j b o q1 n)
 ·have c:j≠i:=λ z=>af2 z (Au C) q q
  rw[n9 c]at q;obtain⟨v,h1,h2⟩:=S.slot j d q;exact da v h1 (aA.gs g _ _ h2)
 ·by_cases c:j=i
  ·subst c;rw[Au C]at q;cases q;exact⟨a,xs',hσ,Q0,u,x,y,Nw g _ r⟩
  ·rw[n9 c]at q;obtain⟨b,ys,h1,h2,h3,h4,h5,I⟩:=S.dI j es q;have l:b≠a:=λ z=>c (S.fB j i es ds a q f (z▸h1) hσ);exact⟨b,ys,h1,iL l h2,h3,h4,h5,Nw g _ I⟩
 ·have old:bD8 j es á ((ay6 ds')[j]?>=at1->∃es,aL6 j>=at1):=λ{j es} q=>by
   by_cases c:j=i
   ·exact Ĭ ds (c▸f)
   ·rw[n9 c]at q;exact Ĭ es q
  obtain⟨_,q1⟩:=old h1;obtain⟨_,n⟩:=old h2;exact S.fB j k _ _ b q1 n h3 h4
def bK.disown{i:Nat}(S:aT3)(e:cX7):∃B',bg2 ρ B' H/\bK K Z (hL (Õ fI)) σ ρ B' hp H:=by
 obtain⟨a,xs,l,r,t,J,u,x⟩:=S.dI i ds e;have f:i<bq1:=ct8;have g:bg2 ρ (λ b=>B b/\b≠a) H:=Nc Ck (Fj h h.1) (EJ h h) by8;refine⟨λ b=>B b/\b≠a,g,⟨⟨S.gr.pre,λ b z=>Ĭ (S.gr.ban b z) (λ q=>S.zb b z (q▸t)),λ b z=>S.gr.new b z.1,S.gr.cg,S.gr.keep,S.gr.trk⟩,S.zb,
  ⟨S.wo.len,S.wo.nd,λ j b o q1 I=>bB.gs g rfl (S.wo.obj j b o q1 I),λ b z=>Ĭ (S.wo.rb b z) (λ q=>u (q▸z)),λ b z=>S.wo.bt b z.1,λ b z=>S.wo.bk b z.1⟩,Ł j d q,Ł j es q,λ j k es y b h1 h2 h3 h4=>?_,ą S.len⟩⟩
 ·by_cases c:j=i
  ·subst c;rw[Au f]at q;cases q;exact cK6 l (Ve (λ z=>z.2 rfl) (SqL.of r) (Nw g _ x))
  ·rw[n9 c]at q;obtain⟨v,h1,h2⟩:=S.slot j d q;exact da v h1 (aA.gs g _ _ h2)
 ·have c:j≠i:=λ z=>af2 z (Au f) q q
  rw[n9 c]at q;obtain⟨b,ys,h1,h2,h3,h4,h5,C⟩:=S.dI j es q;have F:b≠a:=λ z=>c (S.fB j i es ds a q e (z▸h1) l);exact⟨b,ys,h1,h2,h3,Ĭ h4 F,h5,Nw g _ C⟩
 ·have n:bD8 j es á ((hL (Õ fI))[j]?>=at1->aL6 j>=at1):=λ{j es} q=>by
   have c:j≠i:=λ z=>af2 z (Au f) q q
   rw[n9 c]at q;exact q
  exact S.fB j k _ _ b (n h1) (n h2) h3 h4
#where
section
variable{X:Cx}{e a b c:Expr}{f fa fb:aJ}{ca cb:bV}{pos:Pos}{st:Stmt}{sts rest:AX}{s s':aG}
def v7(i:Nat):aG:=FG (bS (ay6 []))
def Lr(i:Nat){x:Str}{l j:Pos}(hN:X.N.Nodup)(hi:ay9:=by rfl)(hx:iP x:=by first|exact ak0|exact aX0)(r:ap8 (.List [] j) (è (Of l))=N7:=by rfl)
  (hf:EW x∨cY6:=by first|exact ı|exact Ty|assumption):DS X (cX6 [Of l] (.List [] j)) (v7 i) :=
 (Ri hN hi hx (L_ pa_nil).kf r hf).imp λ D σ H o=>by obtain⟨Z,env,ρ,B,hp,t,n,hp',S,e,k⟩:=o;obtain⟨z,rfl⟩:=IT;cases z;refine Ĭ CO (Ł p h kf);have kp:=kf p _ Q0;exact k _ ρ _ _ ((cK7 h kp).gs S.wo.rb) (S.newAcc h kp au.nil)
def oH(i:Nat)(env:En):En:=match bB5 with
 |some (.acc ds)=>hL (Õ fI)
 |_=>env
def Kh(i:Nat)(f:aG):aG:=FG (f (oH i env))
def QjG{K:Aa}{i:Nat}{D:KB}(h:mC K (Kh i s) D σ H):mC K s D σ H:=by
  obtain⟨Z,env,ρ,B,hp,l,j,hp',S,e,k⟩:=h;cases q:bB5 with
  |none=>exact⟨Z,env,ρ,B,hp,l,j,hp',S,aE7 oH q e,k⟩
  |some z =>
    cases z with
    |un=>exact⟨Z,env,ρ,B,hp,l,j,hp',S,aE7 oH q e,k⟩
    |val d=>exact⟨Z,env,ρ,B,hp,l,j,hp',S,aE7 oH q e,k⟩
    |acc ds=>obtain⟨n,g,o⟩:=S.disown q;exact⟨Z,_,ρ,n,hp,l,j,hp',o,aE7 oH q e,AK g⟩
def Ln(i:Nat)(h:DS X st s):DS X st (Kh i s):=L2.PS.imp h (EJ q (QjG q))
def v8(i:Nat)(f:aJ):aG:=λ env=>do
 let d <- dc
 match bB5 with
 |some (.acc ds)=>if Ć<lim then bS (ay6 (ds++[d]))else failure
 |_=>failure
def Lp(i:Nat){x:Str}{o r:Pos}(U:bb e f)(hi:ay9:=by rfl)(Y:Rs x:=by first|exact ak0|exact o2 rfl|exact o3 rfl)
    (hd:bn2:=by decide) (hcd:pk x aD7:=by decide)
    (hs:∀t,bX (bS4 (Of o) "append" r [e]) t->PS X (.Expr (bS4 (Of o) "append" r [e]) pos) (Ph t):=by intro _ h;exact Sq h)
    (hb:∀(t:TE) (O:TA),bX (Of o) t->PA X [e] O->bX (bS4 (Of o) "append" r [e]) (tBM X.K Ā T9 t O):=by intro _ _ h1 h2;exact Pu PySem.F.plainAttrs_list PySem.F.slot_list_append PySem.F.type_list_append Ud h1 h2)
    (hst:Ñ [e]=ž e::Ñ []:=by rfl):DS X (.Expr (bS4 (Of o) "append" r [e]) pos) (v8 i f) :=
  L2.PS.imp (hs _ (hb _ _ (Rp hi Y hd hcd) (xh U pa_nil hst))) λ D σ H Q=>by
    obtain⟨Z,env,ρ,B,hp,y,j,hp',S,e,k⟩:=Q;obtain⟨d,hp1,R,l⟩:=ũ;cases q:bB5 with
    |none=>rw[q]at l;cases l
    |some z =>
      rw[q]at l;cases z with
      |un=>cases l
      |val _=>cases l
      |acc ds =>
        by_cases I:Ć<lim
        . have u:(Ô (aV5 (ay6 (ds++[d]))):M (Fl × En)) hp1>=((y,j),hp'):=by
            have:(cP6 (Ć<lim) (Ô (aV5 (ay6 (ds++[d])))):M (Fl × En)) hp1>=((y,j),hp'):=l
            rwa [Eh I]at this
          obtain⟨z,rfl⟩:=Qk u;cases z;obtain⟨a,xs,h1,h2,_⟩:=S.dI i ds q;refine Nc _ h1 (ê (bB7 xs cK3)) ?_;refine P9 R v r1 ?_;obtain⟨a',J,n,C,_,_,_,L⟩:=S1.dI i ds q;rw[h1]at n;cases n;obtain⟨g2,P⟩:=S1.oY q h1 (aW9 L (au.one r1));exact bV2 a J v rfl C (æ ⇑L (Ay I Gv)) (k _ ρ1 B1 _ (å ip g2) P)
        . have:(cP6 (Ć<lim) (Ô (aV5 (ay6 (ds++[d])))):M (Fl × En)) hp1>=((y,j),hp'):=l
          rw[Eg I]at this;cases this
def Dt(g:DV->OS)(f:fS):á->cA9
  | []=>Ô []
  |d::ds=>do
    if <- g d then
      let y <- f d
      let ys <- Dt g f ds
      Ô (y::ys)
    else Dt g f ds
def wA:Sl->Sl
 |.val d=>as3
 |_=>Ś
def cE(idx:ć)(env:En)(d:DV):En:=as3::co2 i (wA (cG6 bB5 Ś))
def nA:bV:=λ_=>bK1
variable{elt iter:Expr}{x:Str}{px:Pos}{ifs:Ϡ}{scope:Scope}{cl:ay2}{caps:cr}{idx:ć}{src:lD}{te:bV}
def cσ_ok{K:Aa}{Z:Ent}(S:aT3)(g:bg2 ρ1 B1 H1)(W:aO K ρ1 B1 hp1 H1)(r:aA K ρ1 B1 H1 d v):
    bK K (da ρ1 B1 H1) cL0 (cσ idx σ Oa) ρ1 B1 hp1 H1:=by
  refine⟨Gr.refl,W.bt,W,Ł i e h,Ł i es h,bF5 i j es n a h,ky cE cσ⟩
  . cases i with
    |zero =>
      have:d=e:=aX1 cE h
      subst this;exact da v (ą cσ) r
    |succ i =>
      cases q:ŵ idx with
      |none=>simp[cE,q]at h
      |some k =>
        have h':wA (cG6 cf4 Ś)=Õ e:=ad4 cE q
        cases z:cf4 with
        |none=>rw[z]at h';cases h'
        |some o =>
          rw[z]at h';cases o with
          |un=>cases h'
          |acc _=>cases h'
          |val l =>
            have:l=e:=aX1 wA h'
            subst this;obtain⟨u,h1,h2⟩:=S.slot k l z;exact da u (by simp[cσ,q,h1]) (aA.gs g _ _ h2)
  . exfalso
    cases i with
    |zero=>simp[cE]at h
    |succ i =>
      cases q:ŵ idx with
      |none=>simp[cE,q]at h
      |some k =>
        have h':wA (cG6 cf4 Ś)=at1:=ad4 cE q
        cases z:cG6 cf4 Ś with
        |un=>rw[z]at h';cases h'
        |acc _=>rw[z]at h';cases h'
        |val _=>rw[z]at h';cases h'
  . exfalso
    cases i with
    |zero=>simp[cE]at h
    |succ i =>
      cases q:ŵ idx with
      |none=>simp[cE,q]at h
      |some k =>
        have h':wA (cG6 cf4 Ś)=at1:=ad4 cE q
        cases z:cG6 cf4 Ś with
        |un=>rw[z]at h';cases h'
        |acc _=>rw[z]at h';cases h'
        |val _=>rw[z]at h';cases h'
def Fg(X:Cx)(ifs:Ϡ)(t:bV):Û:=rF X ifs (fD X.K t)
def j6:Fg X [] nA:=λ h s σ H Q I i=>by obtain⟨Z,env,ρ,B,hp,d,hp',S,e,k⟩:=i;obtain⟨rfl,rfl⟩:=IT;exact QlD h s σ H Q I (k ρ B H Gr.refl S.wo)
def yG(h:DT X c te):Fg X [c] te:=QlE h
def Zj(n:Nat)(h:aG):fR:=λ ds=>do
 let r <- h (aG7++Ī (n-Ć) Ś)
 match r.1 with
 |.nx=>Ô ī
 |.rt d=>bK2
 |_=>failure
def lE(K:Aa)(n:Nat)(F:Ez):Sp:=λ vs H Q _=>IQ=n/\∃ρ B hp ds d hp',bC4/\mS vs/\F ds hp>=(d,hp')/\iT K ρ B H d hp' Q
structure Has(P:Program)(w:World)(K:Aa)(mg:Eu)(O8:Heap)(x:Str)(k n:Nat)(F:Ez):Û where
 ex:∃(g:Addr)(fd:FuncData)(ps:cr),jq P w K mg O8 CX0 k g fd ps (lE K n F)/\ck6 K []/\bI K ↑g/\mg x>=↑g
def Ui{K:Aa}{N:cr}(W:bC4)(r:mS vs):
  bK K (da ρ B H) (aG7++Ī (ch4-Ć) Ś) (L2.start N vs) ρ B hp H:=by
 have n:=lc;have at_:bD8 i z Sl (dC (ds.map Sl.val++Ī (ch4-Ć) Sl.un) z->z=Ś∨∃d,aR9/\z=as3):=λ{i z} h=>by
  by_cases hi:i<Ć
  ·rw[Ah aI7,Bt,co5]at h;cases h;exact Ğ (bo8 co5)
  ·rw[Aq aI7,List.getElem?_replicate]at h;split at h
   ·cases h;exact ı
   ·cases h
 refine⟨Gr.refl,W.bt,W,Ł i d h,Ł i es h,bF5 i j es l a h,by unfold L2.start;simp;lia⟩
 ·rcases at_ h with z|⟨d',q,z⟩
  ·cases z
  ·cases z;obtain⟨v,h1,h2⟩:=r.get q;refine da v ?_ h2;unfold L2.start;have hi:i<IQ:=Ω h1;rw[Ah aI7,Bt,h1];rfl
 ·rcases at_ h with z|⟨d',q,z⟩<;>cases z
 ·rcases at_ h with z|⟨d',q,z⟩<;>cases z
def QmO{P:Program}{w:World}{K:Aa}{mg:Eu}{O8:Heap}{x:Str}{g:Addr}{k:Nat}{j:aG}(F:Fun K x x stm g fd)(u:ğ N ps stm)(C:mg x>=↑g)
  (hb:∀(kV o J:Value)(y:OK)(i ct:Value)(us:ó),cG8=dO->an4 (PySem.W.fnOf x x (J6 stm) at6 Ic bE kV o J y i ct) us=Ô ED)
  (h:∀(i:Value)(A:Around)(outer:Lu)(s:Shared)(H:Hp)(E:XK),tf k (Ń x Ic g i)->iC (Kb CX0 P w K mg O8 N x Ic g i A outer s H E).nox at6 j) :
  TN x (k+1) dO (cB2 j):=by
 refine⟨g,fd,ps,F.ok u (λ vs H Q E h=>h.1) (λ i A outer s H vs Q E I sp=>?_),F.binds hb,F.kp,C⟩;obtain⟨O,ρ,B,hp,ds,d,hp',W,r,e,k⟩:=sp;obtain⟨⟨t,l⟩,hp1,z,n⟩:=ũ;refine⟨_,h i A outer s H E I,da ρ B H,_,ρ,B,hp,t,l,hp1,Ui W r,z,bF5 σ' ρ' B' H' g' S'⟩;cases t with
 |nx=>obtain⟨rfl,rfl⟩:=cB1;exact k ī ρ' B' H' S'.gr S'.wo xi
 |rt x=>obtain⟨rfl,rfl⟩:=cB1;exact λ v L=>k v ρ' B' H' S'.gr S'.wo L
 |bk=>cases n
 |ct=>cases n
def Qx(n:Nat)(F:Ez)(a:bR):aJ:=λ env=>do
 let ds <- bF4
 QJ (oX Ć n)
 F ds
def QA{y:Str}{k j n:Nat}{F:Ez}{e:Expr}{es:Ϡ}{fa:bR}{p:Pos}(h:Has X.prog X.w X.K X.mg X.O8 y j n F)(U:bb2)(L:j<=k)(hx:qh CX0 X E0)(C:DA X (e::es) fa)(J:be5 y:=by rfl)
  (hdb:bl7 y:=by decide) (he:cQ3=ž e::bu8:=by rfl) (hpl:ė ((aq0).any ļ):=by rfl):bb (NL y p (e::es)) (Qx n F fa):=by
 obtain⟨g,fd,ps,o,I,O,R⟩:=h.ex;refine aa1 (Qll o (U.mono L) J R O I mT hx C hdb he hpl) (nL σ H Q r);obtain⟨Z,env,ρ,B,hp,d,hp',S,e,k⟩:=r;obtain⟨ds,hp1,t,u⟩:=ũ;obtain⟨_,hp2,v,z⟩:=Qg u;obtain⟨P,rfl⟩:=QL v;refine aA1 t (FK vs l H1 g1 S1 i ?_);refine⟨aG3 Br ⇑i (Eo P),ρ1,l,hp1,ds,d,hp',S1.wo,Å Br i,z,bM5⟩
#where
section
variable{X:Cx}{e a b c:Expr}{f fa fb fc:aJ}{ca cb:bV}{pos:Pos}
def jb(C:Int->bx1)(g:Int->Int->DV):DV->fS
 |.int i,.int j=>cP6 (C i j) (Ô (g i j))
 |_,_=>failure
def V4{C:Int->bx1}{g:Int->Int->DV}{x y d:DV}{hp hp':Hs}(h:jb C g x y hp>=(d,hp')):∃i j,x=ng/\y=bA7/\Ĝ (C i j)/\d=g i j/\hp=hp':=by
 unfold jb at h;split at h
 ·rename_i i j;by_cases l:Ĝ (C i j)
  ·rw[Eh l]at h;obtain⟨rfl,rfl⟩:=cB0;exact bE7 i j rfl l rfl rfl
  ·rw[Eg l]at h;cases h
 ·cases h
def DN{g:bx2}{C:Int->bx1}{P:Int->Δ Int}{q:Int->Int->Int}(r:OpR X g (rI P λ i j=>È (q i j)))(n:∀i j,Ĝ (C i j)->P i j):P2 X g (jb C λ i j=>È (q i j)):=by intro l s σ H x y v u Q I rx ry h;refine r l s σ H x y v u Q I rx ry ?_;obtain⟨ρ,B,hp,F,J,d,hp',W,t,z,e,k⟩:=h;obtain⟨i,j,rfl,rfl,o,rfl,rfl⟩:=V4 e;exact⟨i,j,t.aZ,z.aZ,n i j o,cv6⟩
def Qlj{g:bx2}{q:Int->Int->Int}(n:OpR X g (rI0 λ i j=>È (q i j))):P2 X g (jb No λ i j=>È (q i j)):=by intro l s σ H x y v u Q I rx ry h;refine n l s σ H x y v u Q I rx ry ?_;obtain⟨ρ,B,hp,t,z,d,hp',W,o,r,e,k⟩:=h;obtain⟨i,j,rfl,rfl,C,rfl,rfl⟩:=V4 e;exact⟨i,j,o.aZ,r.aZ,cv6⟩
def Kw{g:bx2}{q:Int->bx1}(n:OpR X g (rI0 λ i j=>ξ (q i j))):P2 X g (jb No λ i j=>ξ (q i j)):=by intro l s σ H x y v u Q I rx ry h;refine n l s σ H x y v u Q I rx ry ?_;obtain⟨ρ,B,hp,t,z,d,hp',W,o,r,e,k⟩:=h;obtain⟨i,j,rfl,rfl,C,rfl,rfl⟩:=V4 e;exact⟨i,j,o.aZ,r.aZ,cv5⟩
def Ij(i j:Int):Bool:=Ó ((-cn4<i/\i<cn4)∨(-cn4<j/\j<cn4))
def Om(_ j:Int):Bool:=Ó (0<j/\j<EL)
def Ol(_ j:Int):Bool:=AN 0 j
def Qpp(i j:Int):Bool:=Ó (0<=j/\al8 j/\i.natAbs<cn4)
def XO:DV->fS:=jb No λ i j=>È (i-j)
def J8:DV->fS:=jb Ij λ i j=>È (i * j)
def pZ:DV->fS:=jb Om λ i j=>È (i / j)
def Z4:DV->fS:=jb Ol λ i j=>È (i % j)
def JY:DV->fS:=jb Qpp λ i j=>È (i ^ j.toNat)
def cU:DV->fS:=jb No λ i j=>cR8 i j
def fH:DV->fS:=jb No λ i j=>ξ (FX i j)
def dD:DV->fS:=jb No λ i j=>cR8 j i
def n8:DV->fS:=jb No λ i j=>ξ (FX j i)
def YS:OG X .Sub XO:=Qlj Qnn
def XJ:OG X .Mult J8:=DN Qnl λ i j h=>Eo (p:=(-cn4<i/\i<cn4)∨(-cn4<j/\j<cn4)) h
def K_:OG X .FloorDiv pZ:=DN Qlh λ i j h=>Eo (p:=0<j/\j<EL) h
def Jy:OG X .Mod Z4:=DN Qnk λ_ _ h=>Eo h
def qF:OG X .Pow JY:=DN Qnm λ i j h=>Eo (p:=0<=j/\al8 j/\i.natAbs<cn4) h
def Vb:ce6 .Lt cU:=Kw QoO
def rC:ce6 .LtE fH:=Kw QoN
def m7:ce6 .Gt dD:=Kw QoM
def Ia:ce6 .GtE n8:=Kw QoL
def Ow:fS
 |.int i=>hA (-i)
 |_=>failure
def xp(f:aJ):aJ:=FG (do Ow (<- dc))
def kB(h:bb a f):bb (.UnaryOp .USub a pos) (xp f):=L2.PE.imp (QoW Qn4 h) λ σ H Q l=>by
 obtain⟨Z,env,ρ,B,hp,d,hp',S,e,k⟩:=l;obtain⟨x,hp1,n,j⟩:=ũ;refine P9 n v o ?_;cases x with
 |int i=>obtain⟨rfl,rfl⟩:=Qk j;exact da i o.aZ (k _ ρ1 B1 H1 g1 S1.wo Jf)
 |_=>cases j
def Qi1:nS X .Add (λ x y H Q=>∃a b ys,x=ų/\y=ca2/\ah3 H a []/\ck5 H b/\ÿ Sj/\bq9 b H):=by
 intro O s σ H x y v u Q I rx ry h;obtain⟨a,b,ys,rfl,rfl,l,o,hz,q⟩:=h;cases rx;cases ry;obtain⟨i,C,r,_⟩:=gd l;obtain⟨j,J,t,_⟩:=gd o;obtain⟨m,F⟩:=I.fr;have z:i=[]:=by cases C;rfl
 subst z;exact add_tuples F (QiS (g:=X.O8) (L:=X.env.locals)) r t (λ_=>dE ca2 H I q) (λ n=>aA7 n) (λ n=>aA7 n) (by have:=⇑J;simp;lia)
def Q7:DV->fS
 |.int i,.int j=>hA (i+j)
 |.tup xs,.tup ys=>do br8 (xs++ys);N9 (xs++ys)
 |.lst xs,.lst ys=>do br8 (xs++ys);E6 (xs++ys)
 |_,_=>failure
def QlN:nS X .Add (λ x y H Q=>∃l b xs n,x=ë l/\y=ca2/\Ps X.K l/\sm X.K b n/\ÿ (ŕ+⇑n)/\∀p,ct5->cy0 (n7 p (xs++n))):=by
 intro O9 s σ H x y v u Q I rx ry h;obtain⟨l,b,xs,n,rfl,rfl,hl,hb,hz,q⟩:=h;cases rx;cases ry;obtain⟨j,P,⟨⟨k1,lG,SL,r⟩,n1,L,z,d1,U⟩,_⟩:=FO hl;obtain⟨i,R,⟨⟨k2,a9,a8,t⟩,n2,O,C,J,Y⟩,_⟩:=FO hb;simp only at z d1 U C J Y;subst z d1 U C J Y;have ea:j.toArray++i.toArray=av7 (j++i):=Ê
 have o:ÿ (cz6+⇑i):=an7 bE4 R hz
 refine concat_meets (T := Ā) (bo8 L) (bo8 O) noFill_list_add seq_list_add PySem.F.slot_list_add PySem.F.entry_list_add (PySem.F.args_list_add_2 _ _) (list_addW l b j.toArray i.toArray n1 n2 none none r t (Ä o)) (AB L O);rw[ea];exact dE (ë _) _ (I.lnew (t':=s.toks) (P.append R) (Å An hz)) (q _ I.fresh)
def Zo:OG X .Add Q7:=by
 intro o s σ H x y v u Q I rx ry h;obtain⟨ρ,B,hp,R,U,d,hp',W,C,F,e,k⟩:=h;unfold Q7 at e;split at e
 ·obtain⟨rfl,rfl⟩:=IT;exact Qni o s σ H x y v u Q I rx ry ⟨_,_,C.aZ,F.aZ,cv6⟩
 ·rename_i xs ys;obtain⟨_,hp1,r,t⟩:=ũ;obtain⟨z,rfl⟩:=QL r;obtain⟨rfl,rfl⟩:=Qk t;obtain⟨a,vs,rfl,O,q1,i⟩:=C.tupI;obtain⟨b,l,rfl,P,n,j⟩:=F.tupI;have hz:ÿ (IQ+⇑l):=by have:=jU z;rw[An]at this;rw[<- ⇑i,<- cz6];exact this
  by_cases J:vs=[]
  ·subst J;have:xs=[]:=by have:=⇑i;cases xs with|nil=>rfl|cons _ _=>simp at this
   subst this;exact Qi1 o s σ H _ _ v u Q I rx ry ⟨a,b,l,rfl,rfl,q1,n,by simp at hz;exact hz,cv4 (Y5 P n j)⟩
  ·refine Qlg o s σ H _ _ v u Q I rx ry ⟨a,b,vs,l,rfl,rfl,q1,n,J,hz,NV L,λ L=>xa W (aW9 i j) k⟩;subst L;have:ys=[]:=by have:=cz6;cases ys with|nil=>rfl|cons _ _=>simp at this
   subst this;rw[Br]at k;exact cv4 (Y5 O q1 i)
 ·rename_i xs ys;obtain⟨_,hp1,r,t⟩:=ũ;obtain⟨z,rfl⟩:=QL r;obtain⟨rfl,rfl⟩:=Qk t;obtain⟨a,vs,rfl,O,q1,i⟩:=C.cD;obtain⟨b,l,rfl,P,n,j⟩:=F.cD;have hz:ÿ (IQ+⇑l):=by have:=jU z;rw[An]at this;rw[<- ⇑i,<- cz6];exact this
  exact QlN o s σ H _ _ v u Q I rx ry ⟨a,b,vs,l,rfl,rfl,q1,n,hz,zr W (aW9 i j) k⟩
 ·cases e
def Hg:AD DV
 |.non=>true
 |_=>false
def Tp{K:Aa}{v:V}(r:ce2):oX v ī=Hg d:=by
 cases d with
 |non=>rw[r.h_];rfl
 |bl b=>rw[r.iy];rfl
 |int b=>rw[r.aZ];rfl
 |str b=>rw[r.iY];rfl
 |tup b=>obtain⟨a,xs,rfl,_⟩:=r.tupI;rfl
 |lst b=>obtain⟨a,xs,rfl,_⟩:=r.cD;rfl
 |ref b=>obtain⟨a,rfl,_⟩:=r.o8;rfl
def isD:DV->fS
 |x,.non=>nv (Hg x)
 |.bl p,.bl q=>nv (p==q)
 |_,_=>failure
def V5:DV->fS
 |x,.non=>nv (mP (Hg x))
 |.bl p,.bl q=>nv (p != q)
 |_,_=>failure
def m5:ce6 .Is isD:=by
 intro l s σ H x y v u Q I rx ry h;obtain⟨ρ,B,hp,n,o,d,hp',W,i,j,e,k⟩:=h;unfold isD at e;split at e
 ·obtain⟨rfl,rfl⟩:=IT;refine Qnj l s σ H x y v u Q I rx ry (CB j.h_);rw[Tp i];exact cv5
 ·obtain⟨rfl,rfl⟩:=IT;obtain rfl:=i.iy;obtain rfl:=j.iy;cases rx;cases ry;exact is_bool (aZ6 _ H I cv5)
 ·cases e
def wO:ce6 .IsNot V5:=by
 intro l s σ H x y v u Q I rx ry h;obtain⟨ρ,B,hp,n,o,d,hp',W,i,j,e,k⟩:=h;unfold V5 at e;split at e
 ·obtain⟨rfl,rfl⟩:=IT;refine Qli l s σ H x y v u Q I rx ry (CB j.h_);rw[Tp i];exact cv5
 ·obtain⟨rfl,rfl⟩:=IT;obtain rfl:=i.iy;obtain rfl:=j.iy;cases rx;cases ry;exact isnot_bool (aZ6 _ H I cv5)
 ·cases e
def gS{K:Aa}{i:Int}(r:sM)(h:bf4>=d):∃x,bf3 xs>=x/\TK x:=by
  unfold atI at h ⊢;rw[<- lc];cases q:ixN Ć i with
  |none=>rw[q]at h;cases h
  |some j=>rw[q]at h;exact r.get h
def bF:DV->fS
  |.tup ds,.int i=>match bf4 with
    |some d=>bK2
    |none=>failure
  |.lst ds,.int i=>match bf4 with
    |some d=>bK2
    |none=>failure
  |_,_=>failure
def Ou:IxR X (rH X.K bF):=by
  intro value slice O9 s σ H x y v u Q I rx ry h hsub;obtain⟨ρ,B,hp,t,C,d,hp',W,n,o,e,k⟩:=h;unfold bF at e;split at e
  . rename_i ds i
    cases q:bf4 with
    |none=>rw[q]at e;cases e
    |some d' =>rw[q]at e;obtain⟨rfl,rfl⟩:=IT;obtain⟨a,xs,rfl,r,q1,j⟩:=n.tupI;obtain⟨z,hz,l⟩:=gS j q;exact QmX value slice O9 s σ H _ _ v u Q I rx ry ⟨a,xs,i,z,rfl,o.aZ,q1,hz,cv4 l⟩ hsub
  . rename_i ds i
    cases q:bf4 with
    |none=>rw[q]at e;cases e
    |some d' =>rw[q]at e;obtain⟨rfl,rfl⟩:=IT;obtain⟨a,xs,rfl,r,q1,j⟩:=n.cD;obtain⟨z,hz,l⟩:=gS j q;exact Ti value slice O9 s σ H _ _ v u Q I rx ry ⟨a,xs,i,z,rfl,o.aZ,q1,hz,cv4 l⟩ hsub
  . cases e
def Jw(i:cS5)(j:bb b fb)(l:gO b:=by intro _ _;rfl):bb (bm8 a b) (Qh bF fa fb):=aa1 (Pr Ou i j l) (EJ h (jC h))
#where
mutual
def toP:DV->PyData
 |.non=>bE
 |.bl b=>E7 b
 |.int i=>ng
 |.str x=>aJ4
 |.tup xs=>.tuple (cC xs)
 |.lst xs=>.list (cC xs)
 |.ref _=>bE
def cC:á->Ã PyData
 | []=>[]
 |d::ds=>bW6::cC ds
end
mutual
def UH:AD DV
 |.ref _=>false
 |.tup xs=>cH xs
 |.lst xs=>cH xs
 |_=>true
def cH:AD á
 | []=>true
 |d::ds=>UH d&&cH ds
end
section
variable{X:Cx}{O9:Et}{σ:St}{H:Hp}{s:Shared}{ρ:Ey}{B:Ex}
mutual
def jQ(I:Ϝ):∀(d:DV)(v:V)(u:Value),o6 X.K d v->ϟ v->Ĝ (UH d)->∃h,Reads s.heap u bW6 h
  |.non,_,_,r,c,_=>by obtain rfl:=r.h_;cases c;exact bC8 [] bE
  |.bl b,_,_,r,c,_=>by obtain rfl:=r.iy;cases c;exact bC8 [] (E7 b)
  |.int i,_,_,r,c,_=>by obtain rfl:=r.aZ;obtain⟨t,rfl⟩:=c;exact bC8 [] aE8
  |.str x,_,_,r,c,_=>by obtain rfl:=r.iY;obtain⟨t,rfl⟩:=c;exact bC8 [] (.str x t)
  |.ref _,_,_,_,_,n=>ĥ n
  |.tup ds,_,_,r,c,n=>by obtain⟨a,xs,rfl,_,z,l⟩:=r.tupI;cases c;obtain⟨f,y,⟨o,e,j,k,hd⟩,_⟩:=gd z;obtain⟨h,q⟩:=cR I ds xs f l y (bd UH n n);exact bC8 _ (reads_tuple_at e j hd bc9)
  |.lst ds,_,_,r,c,n=>by obtain⟨a,xs,rfl,_,z,l⟩:=r.cD;cases c;obtain⟨f,y,⟨o,k,e,j,_,hd⟩,_⟩:=FO z;obtain⟨h,q⟩:=cR I ds xs f l y (bd UH n n);exact bC8 _ (reads_list_at e j hd bc9)
def cR(I:Ϝ):∀(ds:á)(xs:Β)(us:ó),i6 X.K ds xs->aZ8->Ĝ (cH ds)->∃b,ReadsAll s.heap us (cC ds) b
  | [],_,_,r,a,_=>by unfold au at r;subst r;cases a;exact Sc [] cC mT
  |d::ds,_,_,r,a,n=>by
    unfold au at r;obtain⟨x,xs,rfl,e,f⟩:=r;cases a with
    |cons q1 c=>unfold cH at n;rw[Bc]at n;obtain⟨b,h1⟩:=jQ I d x _ e q1 n.1;obtain⟨bs,h2⟩:=cR I ds xs _ f c n.2;exact Sc _ cC (fX h1 h2)
end
#where
def eV(d:DV):Bool:=UH d&&fE d
def eE:DV->fS:=λ x y=>do QJ (eV x&&eV y);nv (bd6 x y)
def mH:DV->fS:=λ x y=>do QJ (eV x&&eV y);nv (mP (bd6 x y))
section
variable{X:Cx}{e a b c:Expr}{f fa fb fc:aJ}{ca cb:bV}{pos:Pos}
def m8(r:AG 64<cLine):ce6 .Eq eE:=by intro F s σ H x y v u Q I rx ry h;obtain⟨ρ,B,hp,j,l,d,hp',W,z,C,e,k⟩:=h;obtain⟨_,hp1,n,o⟩:=ũ;obtain⟨i,rfl⟩:=QL n;obtain⟨rfl,rfl⟩:=Qk o;simp only[eV,Bc]at i;obtain⟨J,q1⟩:=jQ I j x v z rx i.1.1;obtain⟨bs,t⟩:=jQ I l y u C ry i.2.1;exact eq_dataH q1 t i.1.2 i.2.2 r (aZ6 _ H I cv5)
def Qpv(r:AG 64<cLine):ce6 .NotEq mH:=by intro F s σ H x y v u Q I rx ry h;obtain⟨ρ,B,hp,j,l,d,hp',W,z,C,e,k⟩:=h;obtain⟨_,hp1,n,o⟩:=ũ;obtain⟨i,rfl⟩:=QL n;obtain⟨rfl,rfl⟩:=Qk o;simp only[eV,Bc]at i;obtain⟨J,q1⟩:=jQ I j x v z rx i.1.1;obtain⟨bs,t⟩:=jQ I l y u C ry i.2.1;exact ne_dataH q1 t i.1.2 i.2.2 r (aZ6 _ H I cv5)
def iH(K:Aa)(g:Ez):Β->Hp->tM:=λ xs H Q=>∃ρ B hp ds d hp',bC4/\sM/\g ds hp>=(d,hp')/\iT K ρ B H d hp' Q
def QY(g:Ez)(a:bR):aJ:=FG (do g (<- bF4))
def WJ{K:Aa}{g:Ez}{fa:bR}{σ:St}{H:Hp}{Q:VK}(h:tD K (QY g fa) σ H Q):tCB (iH K g) (fG K fa) σ H Q:=by obtain⟨Z,env,ρ,B,hp,d,hp',S,e,k⟩:=h;obtain⟨ds,hp1,j,l⟩:=ũ;exact aA1 j (FK vs i H1 g1 S1 n ⟨ρ1,i,hp1,ds,d,hp',S1.wo,n,l,bM5⟩)
def Zf{x:Str}{id:String}{g:Ez}{e:Expr}{es:Ϡ}{fa:bR}{p:Pos}(l:bb3 id g)(o:eg x)(t:IR>=cu0)(j:DA X (e::es) fa)(n:cf8:=by rfl)(r:Nd x := by decide)(i:bn2:=by decide)
  (he:cQ3=ž e::bu8:=by rfl) (hpl:ė ((aq0).any ļ):=by rfl):bb (NL x p (e::es)) (QY g fa) :=
 aa1 (Qi8 l n o t j r i he hpl) (EJ h (WJ h))
def yD{x:Str}{T:String}{g:Ez}{e:Expr}{es:Ϡ}{fa:bR}{p:Pos}(l:cE3 (ĭ T) g)(o:eg x)(t:IR>=(ĭ T))(j:DA X (e::es) fa)(n:cf8:=by rfl)(r:Nd x := by decide)(i:bn2:=by decide)
  (he:cQ3=ž e::bu8:=by rfl) (hpl:ė ((aq0).any ļ):=by rfl):bb (NL x p (e::es)) (QY g fa) :=
 aa1 (QgZ l n o t j r i he hpl) (EJ h (WJ h))
def au.cu{K:Aa}{vs:Β}(h:lx [d] vs):∃v,vs=[v]/\ce2:=by unfold au at h;obtain⟨x,r,rfl,h1,h2⟩:=h;unfold au at h2;subst h2;exact ĸ x h1
def ye:fR
 | [.tup ds]=>hA Ć
 | [.lst ds]=>hA Ć
 |_=>failure
def uC:bb3 "len" ye:=by
 intro n s σ H xs us Q I r h;obtain⟨ρ,B,hp,ds,d,hp',W,o,e,k⟩:=h;unfold ye at e;split at e
 ·obtain⟨rfl,rfl⟩:=IT;obtain⟨v,rfl,i⟩:=o.cu;obtain⟨a,ys,rfl,_,j,l⟩:=i.tupI;exact zj n s σ H _ us Q I r (A5 a ys (Ğ j) (æ ⇑l cv6))
 ·obtain⟨rfl,rfl⟩:=IT;obtain⟨v,rfl,i⟩:=o.cu;obtain⟨a,ys,rfl,_,j,l⟩:=i.cD;exact zj n s σ H _ us Q I r (A5 a ys (ê j) (æ ⇑l cv6))
 ·cases e
def vV:fR
 | [.int i,.int j]=>hA (É (j<i) j i)
 |_=>failure
def m_:fR
 | [.int i,.int j]=>hA (É (j > i) j i)
 |_=>failure
def wL(j:ϙ):bb3 "min" vV:=by
 intro i s σ H xs us Q I r h;obtain⟨ρ,B,hp,ds,d,hp',W,l,e,k⟩:=h;unfold vV at e;split at e
 ·obtain⟨rfl,rfl⟩:=IT;exact Qgj j i s σ H xs us Q I r (Nc _ _ l.ints2 cv6)
 ·cases e
def La(j:ϙ):bb3 "max" m_:=by
 intro i s σ H xs us Q I r h;obtain⟨ρ,B,hp,ds,d,hp',W,l,e,k⟩:=h;unfold m_ at e;split at e
 ·obtain⟨rfl,rfl⟩:=IT;exact Qgi j i s σ H xs us Q I r (Nc _ _ l.ints2 cv6)
 ·cases e
def Ig:fR
 | [.lst ds]=>Ô o0
 | [.tup ds]=>Ô o0
 |_=>failure
def Qkz:cE3 af9 Ig:=by
 intro n s σ H xs us Q I r h;obtain⟨ρ,B,hp,ds,d,hp',W,o,e,k⟩:=h;unfold Ig at e;split at e
 ·obtain⟨rfl,rfl⟩:=IT;obtain⟨v,rfl,j⟩:=o.cu;obtain⟨a,ys,rfl,_,i,l⟩:=j.cD;exact qj n s σ H _ us Q I r (Α a ys (n5 i (xa W l k)))
 ·obtain⟨rfl,rfl⟩:=IT;obtain⟨v,rfl,j⟩:=o.cu;obtain⟨a,ys,rfl,nb,i,l⟩:=j.tupI;exact qj n s σ H _ us Q I r (Α a ys (pS i (cv4 (Y5 nb i l))))
 ·cases e
def JV(g g':DV->fS)(fa fb fc:aJ):aJ:=λ env=>do
 let x <- fa env
 let y <- fb env
 let z <- g x y
 if <- fU z then
  let u <- fc env
  g' y u
 else Ô π
#where
section
variable{X:Cx}{e a b c:Expr}{f fa fb fc:aJ}{ca cb:bV}{pos:Pos}
def QdA{K:Aa}{g g':DV->fS}(h:tD K (JV g g' fa fb fc) σ H Q):Rt (rH K g) (rH K g') (tD K fa) (tD K fb) (tD K fc) σ H Q:=by
  obtain⟨Z,env,ρ,B,hp,d,hp',S,e,k⟩:=h;obtain⟨x,hp1,o,e⟩:=ũ;obtain⟨y,hp2,r,e⟩:=ũ;obtain⟨z,L,C,e⟩:=ũ;obtain⟨t,Y,F,e⟩:=ũ;obtain⟨rfl,rfl⟩:=qA F;refine P9 o v P (aB3 r (λ u ρ2 l H2 g2 S2 j=>?_));refine⟨ρ2,l,hp2,x,y,_,_,S2.wo,dr g2 _ _ P,j,C,λ w ρ3 B3 H3 g3 W3 R=>AB t R.iy⟩;have i:=S2.grow g3 W3;cases t with
  |false=>obtain⟨rfl,rfl⟩:=IT;exact kS (k _ ρ3 B3 H3 cv7 W3 XZ)
  |true=>obtain⟨q,O,I,J⟩:=ũ;refine kT (tD.run i I λ p ρ4 n H4 g4 S4 U=>?_);exact⟨ρ4,n,O,y,q,d,hp',S4.wo,bW0 i.wo.rb g4 _ (bW0 S2.wo.rb g3 _ j),U,J,AK (EA bW7)⟩
def yF{j h:CmpOp}{g g':DV->fS}(z:ce6 j g)(i:ce6 h g')(r:cS5)(t:bb b fb)(u:bb c fc)(y:ė (lastMarks [j,h] [b,c]):=by with_unfolding_all rfl):DT X (.Compare a [j,h] [b,c] pos) (eB (JV g g' fa fb fc)) :=
 L2.PT.imp (Qju z i r t u y) λ σ H Q l=>by obtain⟨Z,env,ρ,B,hp,d,hp',S,e,k⟩:=l;obtain⟨x,hp1,n,o⟩:=ũ;obtain⟨rfl,rfl⟩:=qA o;exact QdA (P9 n v C (da d C.iy (k ρ1 B1 H1 g1 S1.wo)))
abbrev nH:=En->M Č
def oW(K:Aa)(f:nH):TO:=λ σ H Q=>∃Z env ρ B hp d hp',aT3/\aT>=(d,hp')/\Ot K ρ B H hp' (Q d)
def DO(X:Cx)(e:ap4)(f:nH):Û:=PO X e (oW X.K f)
def Zw:nH:=λ_=>aI9
def dZ:DV->M Int
 |.int i=>Ô i
 |_=>failure
def KH{d:DV}{c:Int}{hp hp':Hs}(h:dZ d hp>=(c,hp')):d=bK0/\hp=hp':=by
 cases d with
 |int b=>obtain⟨rfl,rfl⟩:=cB0;exact ft
 |_=>cases h
def Ze(f:aJ):nH:=FG (cB5 i dc)
def Jn:DO X none Zw:=λ h s σ H Q I i=>by obtain⟨Z,env,ρ,B,hp,d,hp',S,e,k⟩:=i;obtain⟨rfl,rfl⟩:=IT;exact Qlv h s σ H Q I (k ρ B H Gr.refl S.wo)
def Z1(h:bb e f):DO X (è e) (Ze f):=λ j s σ H Q I l=>by obtain⟨Z,env,ρ,B,hp,d,hp',S,e,k⟩:=l;obtain⟨x,hp1,n,o⟩:=ũ;obtain⟨i,hp2,r,t⟩:=Qg o;obtain⟨rfl,rfl⟩:=KH r;obtain⟨rfl,rfl⟩:=Qk t;exact Qlw h j s σ H Q I (P9 n v u (da i u.aZ (k ρ1 B1 H1 g1 S1.wo)))
def oW.run{K:Aa}{f:nH}{Z:Ent}{d:Č}{Q:Č->eK}(S:aT3)(e:aT>=(d,hp1))
  (k:∀ρ' B' H',bO6->aS1 K Z ρ' B' hp1 H'->cH8 d):oW K f σ H Q :=
 ⟨Z,env,ρ,B,hp,d,hp1,S,e,λ ρ' B' H' g W=>k ρ' B' H' g cY5⟩
def zY(ds:á)(lo hi:Č):á:=EH (qz (l9 Ć 0)) (L7 Ć Ć-l9 Ć 0)
def KP{K:Aa}{lo hi:Č}(r:sM):lx (zY ds lo hi) (oJ xs lo hi):=by unfold zY oJ;rw[lc];exact au.take _ (au.drop _ r)
def iI(d:DV)(lo hi:Č):į:=match d with
 |.lst ds=>E6 (zY ds lo hi)
 |.tup ds=>N9 (zY ds lo hi)
 |_=>failure
def bH(f:aJ)(lo hi:nH):aJ:=FG (co8 d dc l (lo env) h (hi env) (iI d l h))
def D0(K:Aa):V->Č->Č->Hp->tM:=λ x lo hi H Q=>∃ρ B hp d r hp',bC4/\TK x/\iI d lo hi hp>=(r,hp')/\iT K ρ B H r hp' Q
def QcQ{prog:Program}{w:World}{A:Around}{E:Es}{s:Shared}{t r:Addr}{items:Ļ}{lo hi:Č}{Q:Es}(i:aV4 t items)(y:av9 r vl vu)(pl:ci8 vl lo)(C:ci8 vu hi)
  (h0:ay7 0=0) (h1:cU9=items.size) (h:bq9 t s):ff w A (getItem ↑t ↑r) Q E s:=by
 obtain⟨os,o,n,z⟩:=id y;have l:an6 r cI9 := da os o n;unfold getItem
 try with_reducible refine as8
 first|refine Ef ph|skip
 refine Ef (wpAny_sequenceKey i.typeIs Á ?_);refine Ef (aw0 bn7 i.typeIs PyProof.Rows.slot_tuple_getitem (FP PyProof.Rows.slot_tuple_getitem i.typeIs entry_tuple_getitem ?_ (args_tuple_getitem _ _)));show nX _ (bG3 t) _ _ _ s;refine Ef (tupleItemsOf_ i ?_);refine NN l ?_;rw[Eh Á];refine Ef (HT.sliceApplied_gen y pl C ?_);have u:Ĝ (Ì (ay7 0:Nat)==0&&cP8==1&&cl2 (cU9-ay7 0)):=bF3 h0 h1
 show ł _ (df (Ì (ay7 0:Nat)==0&&cP8==1&&cl2 (cU9-ay7 0)) _ _) _ _ s;rw[Eh u];have ex:∀{j:bD6 Ε}{v:Around}{x:Es},j true s->ff w v (Builtin.Tuple.tupleIsExact ↑t) j x s:=λ{j v x} q=>ń Builtin.Tuple.tupleIsExact (NN i.typeIs (Ei (Å (Ý (PH (A0 ņ) (A0 ņ)) (beq_self_eq_true _)) q)))
 refine Ef (ex ?_);rw[sj]
 first
  |exact AF (bO1 _ h)
  |exact AF (be7 (bO1 _ h))
def Ql0:SlR X (λ x lo hi H Q=>∃a xs,x=ų/\ch0 a/\(l9 ŕ 0=0/\L7 ŕ ŕ=ŕ)/\Q Ŗ H):=by
 intro n s σ H x v vl vu lo hi sl Q I rx hs pl pu h;obtain⟨a,xs,rfl,hx,⟨h0,h1⟩,q⟩:=h;cases rx;obtain⟨j,r,l,hz⟩:=gd hx;have i:j.toArray.size=ŕ:=Å Ao r.length.symm
 exact bq6 ņ _ l.typeIs (QcQ l hs pl pu (Å i h0) (Å i h1) (dE ų H I q))
def Qgp{α:re}(ds:To)(i j:Nat)(h0:i=0)(h1:j=Ć):EH cd0 (j-i)=ds:=by subst h0 h1;simp
def H_:SlR X (D0 X.K):=by
  intro n s σ H x v vl vu lo hi sl Q I rx hs pl pu h;obtain⟨ρ,B,hp,d,r,hp',W,o,e,k⟩:=h;cases d with
  |lst ds=>obtain⟨rfl,rfl⟩:=IT;obtain⟨a,xs,rfl,nb,j,i⟩:=o.cD;exact TV n s σ H _ v vl vu lo hi sl Q I rx hs pl pu (A5 a xs j (zr W (KP i) k))
  |tup ds =>
    obtain⟨rfl,rfl⟩:=IT;obtain⟨a,xs,rfl,nb,j,i⟩:=o.tupI;by_cases l:l9 ŕ 0=0/\L7 ŕ ŕ=ŕ
    . refine Ql0 n s σ H _ v vl vu lo hi sl Q I rx hs pl pu (bU4 a xs j l ?_)
      have:zY ds lo hi=ds:=ń zY (Qgp ds _ _ (Å ⇑i l.1) (Å ⇑i l.2))
      rw[this]at k;exact cv4 (Y5 nb j i)
    . exact QnS n s σ H _ v vl vu lo hi sl Q I rx hs pl pu (bU4 a xs j l (xa W (KP i) k))
  |non=>cases e
  |bl _=>cases e
  |int _=>cases e
  |str _=>cases e
  |ref _=>cases e
def Ya{lo hi:ap4}{n j:nH}(h:bb e f)(F:DO X lo n)(C:DO X hi j):bb (bm8 e (.Slice lo hi none p2)) (bH f n j) :=
 aa1 (MX H_ h F C) (λ σ H Q r=>by obtain⟨Z,env,ρ,B,hp,d,hp',S,e,k⟩:=r;obtain⟨x,hp1,t,e⟩:=ũ;obtain⟨l,hp2,y,e⟩:=ũ;obtain⟨u,i,z,e⟩:=ũ;refine P9 t v I (oW.run S1 y λ ρ2 B2 H2 g2 S2=>oW.run S2 z (TZ ρ3 o H3 g3 S3));exact⟨ρ3,o,i,x,d,hp',S3.wo,dr (cK2 g3) _ _ I,e,AK cv7⟩)
def Qor{P:Program}{w:World}{K:Aa}{mg:Eu}{O8:Heap}{x:Str}{g:Addr}{k:Nat}{j:aG}(F:Fun K x x stm g fd)(t:ğ N ps stm)
  (h:∀(i:Value)(A:Around)(outer:Lu)(s:Shared)(H:Hp)(E:XK),tf k (Ń x Ic g i)->iC (Kb CX0 P w K mg O8 N x Ic g i A outer s H E).nox at6 j) :
  jq P w K mg O8 CX0 (k+1) g fd ps (lE K dO (cB2 j)):=by
 refine F.ok t (λ vs H Q E h=>h.1) (λ i A outer s H vs Q E y sp=>?_);obtain⟨C,ρ,B,hp,ds,d,hp',W,r,e,k⟩:=sp;obtain⟨⟨o,l⟩,hp1,u,n⟩:=ũ;refine⟨_,h i A outer s H E y,da ρ B H,_,ρ,B,hp,o,l,hp1,Ui W r,u,bF5 σ' ρ' B' H' g' S'⟩;cases o with
 |nx=>obtain⟨rfl,rfl⟩:=cB1;exact k ī ρ' B' H' S'.gr S'.wo xi
 |rt x=>obtain⟨rfl,rfl⟩:=cB1;exact λ v z=>k v ρ' B' H' S'.gr S'.wo z
 |bk=>cases n
 |ct=>cases n
def W8{K:Aa}:∀ns:Ď,lx oI ny
 | []=>au.nil
 |_::r=>PV Jf (W8 r)
def Qm5{K:Aa}{F:Ez}{a:Addr}{ns:Ď}(h:∃hp',F [aY8] []>=(ο,hp'))(j:sm K a ny):lE K 1 F by9 H (λ v _=>v=ο) E:=by obtain⟨hp',h⟩:=h;refine⟨rfl,[],λ_=>False,[],[aY8],ο,hp',⟨rfl,List.nodup_nil,λ i a o h=>c9 h,λ a h=>cD2 Ê,λ a h=>cD2 (λ z=>z),λ a h=>h.elim⟩,au.one (Ve (λ z=>z) j (W8 ns)),h,λ v _ _ _ _ _ r=>r.iy⟩
#where
#print D
namespace L2
open PySem PySem.Spec PyProof.Rows
section
variable{prog:Program}{w:World}{A:Around}{E:Es}{s:Shared}
def xm{p q:Addr}{n:Nat}{xs:Ļ}{Q:Es}(c:s.heap.IsTupleIter p q n)(e:Ų q xs)(f:xs[n]?>=v)
  (k:∀g,g.IsTupleIter p q (n+1)->cV2 p g->Q v (LF g)):ff w A (ŧ p) Q E s:=by
 obtain⟨l,b,h,a⟩:=id c;obtain⟨o,i,_,m,j⟩:=e;unfold Builtin.SmallTypes.nextOf;refine Ef (aw0 ow c.typeIs F.slot_tuple_iterator_next (FP F.slot_tuple_iterator_next c.typeIs F.entry_tuple_iterator_next ?_ aK7));show nX _ (aH0 p 0) _ _ _ s;refine cF7 b a x (ë q);show ł _ (df (Τ q==Value.none) _ _) _ _ s;rw[Eg (Ý (¬ PH (Τ q) Value.none) By)];show nX _ (aH0 p 1) _ _ _ s;refine cF7 b a x (fj n 0);show nX _ (seqItems? ↑q) _ _ _ s;refine fz i j ?_;simp only[B0,f];refine Ef (wpAny_setField b a Ê (bO1 v (k _ ?_ bz6)));exact Nc _ (PU _ b (Obj.isFreed_of_fields (Obj.data_mapFields a _))) (å (Obj.cls_mapFields ..) h) (by rw[Obj.data_mapFields a];simp[rawInt])
def DY{p q:Addr}{n:Nat}{xs:Ļ}{Q:Es}(f:nI)(b:s.heap.IsTupleIter p q n)(h:Ų q xs)(i:Ū xs[n]?)
  (k:∀g x,bG8 p g->(∃o,cz8 x>=o/\o.cls=ĭ ad5)->E ↑x (LF g)):ff w A (ŧ p) Q E s:=by
 obtain⟨t,c,r,e⟩:=id b;obtain⟨u,j,_,m,l⟩:=h;unfold Builtin.SmallTypes.nextOf;refine Ef (aw0 ow b.typeIs F.slot_tuple_iterator_next (FP F.slot_tuple_iterator_next b.typeIs F.entry_tuple_iterator_next ?_ aK7));show nX _ (aH0 p 0) _ _ _ s;refine cF7 c e x (ë q);show ł _ (df (Τ q==Value.none) _ _) _ _ s;rw[Eg (Ý (¬ PH (Τ q) Value.none) By)];show nX _ (aH0 p 1) _ _ _ s;refine cF7 c e x (fj n 0);show nX _ (seqItems? ↑q) _ _ _ s;refine fz j l ?_;simp only[B0,i];refine AF (Ef (wpAny_setField c e Ê ?_));show nX _ (newExc (ĭ ad5) []) _ _ _ _;refine aN1;simp only[newExc,newTuple];refine Ef (EM ?_ (by size_fits));refine Ef (m:=firstArgMember _ _) (wpAny_of_eq (a:=Value.none) (by first|rfl|(simp only[firstArgMember];rfl)) ?_);refine EM ?_ (by size_fits);simp only[raiseNew];refine Ef (wpAny_handled ?_)
 first|rw[Ý (Ū A.in1.handled) f]|rw[f]
 refine be7 (wpAny_throw ?_);exact k _ _ (((bz6).extBut.push _).push _) (bo8 IE)
structure ZA(z p o i j a b:Addr):Û where
 pz:p≠z
 oz:o≠z
 iz:i≠z
 jz:j≠z
 po:p≠o
 pi:p≠i
 pj:p≠j
 oi:o≠i
 oj:o≠j
 ij:i≠j
 az:a≠z
 ao:a≠o
 ai:a≠i
 aj:a≠j
 bz:b≠z
 bo:b≠o
 bi:b≠i
 bj:b≠j
#where
section
variable{X:Cx}{O9:Et}{σ:L2.St}{H:Hp}{s:Shared}{h':Heap}
def Inv.nM{t':Nat}{f:Ey}(I:Ϝ)(hf:∀b∈f,U6 X O9 H b)(k:∀b o,b∉f->bo6->Pi o):Ŵ ck4:=by
 refine I.step (g':=s.gens) (d':=s.drawn) (ch:=f) (λ b h=>Nc (hf b h).2.2.2.1 (hf b h).2.1 (hf b h).2.2.2.2.1 (hf b h).2.2.2.2.2) (λ b o _ _ a e _=>k b o a e) (λ b o _ _ a e _=>Ĭ o.slots (k b o a e)) (λ_ _ _ _ n=>n)
  (λ b o a e=>Ĭ o (k b o a e)) (λ_ _ e=>e) (EJ e e) (λ b ps e=>Ĭ Nl (Ŷ e)) (Ź m i) (Ł b u e) I.bare
 ·obtain⟨o,es,ep,j,r⟩:=i;exact⟨o,es,ep,k _ o (λ z=>(hf _ z).2.1 rfl) j,r⟩
 ·have nf:∀c u,H c>=u->c∉f:=λ c u q z=>ĩ (hf c z).1 q q
  refine(I.hok b u e).stay (λ c v a q=>k c v ?_ q) (λ_ q=>q) cg2;rcases a with z|z
  ·rw[z];exact nf b u e
  ·exact nf c _ z
def Inv.iG{t':Nat}{i:Ey}{vs:Β}{us:ó}(I:Ϝ)(hf:∀b∈i,U6 X O9 H b)(k:∀b o,b∉i->bo6->Pi o)
  (hv:f8 vs) (hz:ÿ IQ) (hT:IsTup h' s.heap.objs.size us.toArray):Ŋ (ak8 (ñ vs)) ck4:=by
 have h:cR6:=ba1;refine I.step (g':=s.gens) (d':=s.drawn) (ch:=i) (λ b a=>Nc (hf b a).2.2.2.1 (hf b a).2.1 (hf b a).2.2.2.2.1 (hf b a).2.2.2.2.2) (λ b o _ _ f e _=>k b o f e) (λ b o _ _ f e _=>Ĭ o.slots (k b o f e))
  (λ b o _ e n=>iL bF2 n) (λ b o f e=>Ĭ o (k b o f e)) (λ b xs e=>aZ9 e h e) (λ b o u e=>aZ9 e h e) (λ b ps e=>Ĭ Nl (bF3 (QP (ZS e h)) e)) (Ź m j) (Ł b u e) I.bare
 ·obtain⟨o,es,ep,l,r⟩:=j;exact⟨o,es,ep,k _ o (λ z=>(hf _ z).2.1 rfl) l,r⟩
 ·by_cases a:ac9 b
  ·subst a;rw[Q0]at e;cases e;exact Nc hz us hv hT
  ·rw[QP a]at e;have nf:∀c u,H c>=u->c∉i:=λ c u q z=>ĩ (hf c z).1 q q
   refine(I.hok b u e).stay (λ c v f q=>k c v ?_ q) (λ c q=>aZ9 q h q) λ c xs q=>aZ9 q h q
   rcases f with z|z
   ·rw[z];exact nf b u e
   ·exact nf c _ z
#where
def wU(K:Aa)(a b:Addr):It :=
  ⟨λ i H=>∃xs ys x y,bS0/\SqT K H b ys/\cv8/\dC ys y,
   λ i H v H'=>∃p x y,ct5/\(∀xs,bS0->cv8)/\(∀ys,SqT K H b ys->dC ys y)/\v=bB0/\H'=Ŝ p (ñ [x,y]),
   λ i H=>∃xs ys,bS0/\SqT K H b ys/\(ŕ<=i∨Sj<=i)⟩
abbrev wY(h:Heap)(a:Addr):Heap:=h.push (aZ4 #[ų,fj 0 0])
abbrev wX(h:Heap)(a b:Addr):Heap:=(wY h a).push (aZ4 #[ca2,fj 0 0])
abbrev wW(h:Heap)(a b:Addr):Heap:=(wX h a b).push (ϑ ņ (.seq #[ë h.objs.size,ë (l8 (wY h a))]))
abbrev wV(h:Heap)(a b:Addr):Heap:=(wW h a b).push (ϑ ņ (.seq #[bE,bE]))
abbrev lW(h:Heap)(a b:Addr):Heap:=(wV h a b).push (aZ3 nP #[bE,ck2,ck2,ë (l8 (wX h a b)),ë (l8 (wW h a b))])
def Qmg(a b:Addr)(xs ys:Ļ):Meets (Builtin.«zip.__new__» (wP [ĭ nP, ų,ca2])) (λ_ R s=>Ų a xs/\Ų b ys/\R (.ok (.ret (ë (l8 (wV s.heap a b))))) (LF (af3 a b))) :=
 .of_wp λ prog w A R s h=>by
  obtain⟨hp,g,d,f,os⟩:=s;obtain⟨q1,j,h⟩:=h;have c:=sub_zip;have l:Heap.IsTuple (Shared.heap ⟨hp,g,d,f,os⟩) a xs:=q1;have n:Heap.IsTuple (Shared.heap ⟨hp.push (aZ4 #[ų,fj 0 0]),g,d,f,os⟩) b ys:=aq9 i e r j i FY r
  wp_walk using wpAny_pyIter_tuple l,wpAny_pyIter_tuple n
  exact ĸ _ h
section
variable{X:Cx}{elts:Ϡ}{kt:Nat}{p2:Pos}
def Qoz(K:Aa)(c:TA):TI:=λ σ H R=>c σ H λ vs H1=>∃a b xs ys,vs=[ų,ca2]/\jk K H1 a/\SqT K H1 b ys/\R (wU K a b) H1
#where
#print L2
namespace D
open PySem PySem.Spec PyProof.Rows L2
def YX:á->á->á
 |x::xs,y::ys=>ñ [x,y]::YX xs ys
 |_,_=>[]
def VG:∀{xs ys:á}{i:Nat}{d:DV},dC (YX xs ys) d->∃x y,cv8/\dC ys y/\d=ñ [x,y]
  |x::xs,y::ys,0,d,h=>by simp[YX]at h;exact dE x y rfl h.symm
  |x::xs,y::ys,i+1,d,h=>by obtain⟨a,b,h1,h2,h3⟩:=VG (xs:=xs) (ys:=ys) (i:=i) (aX1 YX h);exact av1 a b bj3 cs2
  | [],_,_,_,h=>mY YX
  |_::_,[],_,_,h=>mY YX
def VH:∀(xs ys:á),⇑(YX xs ys)=min ŕ Sj
 |x::xs,y::ys=>by simp only[YX,Ba,VH xs ys];lia
 | [],_=>ą YX
 |_::_,[]=>ą YX
def kQ(f g:aJ):lD:=λ env=>do
 let x <- dc
 let xs <- oF x
 let y <- SU
 let ys <- oF y
 Ô (YX xs ys)
def QmW{K:Aa}{B:Ex}{a b:Addr}(na:¬ B a)(J:bS0)(P:sM)(nb:¬ B b)(L:SqT K H b ys)(rb:lx es ys):rE K ρ B H (YX ds es) (wU K a b):=λ ρ1 B1 H1 g O U=>by
 have f:=g.wZ na J;have j:=g.wZ nb L;have c:=Nw g _ P;have l:=Nw g _ rb;refine⟨Ł i d e,xs,ys,f,j,?_⟩
 ·obtain⟨x,y,h1,h2,rfl⟩:=VG e;obtain⟨u,r,Q⟩:=c.get h1;obtain⟨v,t,R⟩:=l.get h2;refine Ĭ ⟨xs,ys,u,v,f,j,r,t⟩ (Ł z H' C);obtain⟨p,X,v',h,h3,h4,F,I⟩:=C;subst F I;have n:=h3 xs f;have o:=h4 ys j;rw[r]at n;cases n;rw[t]at o;cases o;refine Ĭ (Y5 (λ z=>U p z h) (SqT.of Q0) (Nw (Lj O h) _ (PV Q (au.one R)))) (ax6 p _ h rfl)
 ·rw[VH,ch3,⇑l];rcases aX2 ŕ Sj with q|q
  ·exact ê (Å (RI q) ę)
  ·exact Ğ (Å (aA2 q) ę)
section
variable{X:Cx}{elts:Ϡ}{kt:Nat}{p2:Pos}{f g:aJ}
def zG(f:aJ)(g:iU):aG:=FG (do let d <- dc;let env' <- g d env;bS env')
def VW{tg e:Expr}{g:iU}{pos:Pos}(l:bb e f)(n:PG X tg (sZ X.K g))(o:swapsWithSole [tg] e pos.line X.env=N7:=by rfl)(r:swappedStores [tg] e X.env=aI9:=by rfl)
  (h1:CD (assignEach [tg] X.env)=[bP6 tg]:=by rfl):DS X (cX6 [tg] e) (zG f g) :=
 L2.PS.imp (QnH l n o r h1) λ D σ H h=>by obtain⟨Z,env,ρ,B,hp,u,a,hp',S,e,k⟩:=h;obtain⟨d,hp1,i,e⟩:=ũ;obtain⟨aF,hp2,j,e⟩:=ũ;obtain⟨z,rfl⟩:=IT;cases z;exact P7 i v b c t ⟨Z,env,ρ1,b,hp1,d,a,hp2,c,t,j,λ σ' ρ' B' H' g' S'=>k σ' ρ' B' H' (å ip g') S'⟩
#where
def MM{b:DV->aG}(I:cd8 En):∀(ds:á)(k:Nat)(env:En),I k env->(∀(i:Nat) d,aR9->∀env,I (k+i) env->∃a,b d env=bS a/\I (k+i+1) a)->∃a,Yb b ds env=bS a/\I (k+Ć) a
  | [],k,env,h,_=>ĸ env h
  |d::ds,k,env,h,c=>by
    obtain⟨aF,e,h1⟩:=c 0 d rfl env h;obtain⟨j,f,h2⟩:=MM I ds (k+1) aF h1 λ i d' hd a h'=>bk9 (c (i+1) d' (Ä hd) a (Å (ð (k+(i+1)=k+1+i)) h')) (ð (k+(i+1)+1=k+1+i+1))
    refine da j ?_ (eI Ba (ð (k+(Ć+1)=k+1+Ć)) h2);rw[Yb,e,Er];exact f
def zD{lo:Int}{n i:Nat}{d:DV}(h:dC (Zg lo n) d):i<n/\d=È (lo+i):=by
 have hi:i<n:=dP aR4 Zg
 refine CB hi;simp[Zg,hi]at h;exact h.symm
def JZ(lo:Int)(n:Nat):⇑(Zg lo n)=n:=ą Zg
def QdD{b:DV->aG}(I:cd8 En)(lo:Int)(n:Nat)(env:En)(h:I 0 env)(c:∀(i:Nat),i<n->∀env,I i env->∃a,b ↥(lo+i) env=bS a/\I (i+1) a):∃a,Yb b (Zg lo n) env=bS a/\I n a:=by
 obtain⟨a,e,h'⟩:=MM I (Zg lo n) 0 env h λ i d hd env hi=>by obtain⟨h1,rfl⟩:=zD hd;rw[C9]at hi ⊢;exact c i h1 env hi
 exact da a e (by rw[JZ,C9]at h';exact h')
def uH{t:DV->OS}{f:fS}{p:bx1}{g:Int->Int}(a:∀x,t bU7=Ô (p x))(hf:∀x,f bU7=hA (g x)):∀ns:Ď,Dt t f Ľ=Ô (pd (pc (ns.filter p) g))
  | []=>rfl
  |n::ns=>by
    rw[Bb,Dt,a,Er];cases q:p n with
    |false=>rw[aa2 (be4 q)];exact uH a hf ns
    |true=>rw[Cw q];simp only[if_true,hf,Er,uH a hf ns,Bb]
def UJ:∀ns:Ď,Ĝ (cH Ľ)
 | []=>rfl
 |_::r=>by simp[cH,UH,UJ r]
def Up:∀ns:Ď,cC Ľ=Ľ
 | []=>rfl
 |_::r=>by simp[cC,toP,Up r]
def Kv(i:Int):ca7 br0:=ϱ
def RN(b:Bool):ca7 LZ:=kb b
def QiZ(ns:Ď):ca7 aY8:=by simp only[eV,UH,UJ,Bool.true_and,toP,Up];exact PySem.W.ke_shaped_ints ns
def WL(i j:Int):PyData.eqv br0 ↥j=(i==j):=rfl
def Ux:∀ns c:Ď,PyData.eqvAll Ľ (c.map .int)=oX ns c
  | [],[]=>bk5
  | [],_::_=>bk5
  |_::_,[]=>bk5
  |a::r,b::t=>by simp only[Bb,PyData.eqvAll,PyData.eqv,Ux r t];by_cases h:a=b<;>by_cases h':r=t<;>simp[h,h']
def Xk(i j:Int):eE br0 ↥j=nv (i==j):=by simp only[eE,Kv,Bool.and_self,QJ,if_true,Er,toP,WL]
def Mq(i j:Int):mH br0 ↥j=nv (mP (i==j)):=by simp only[mH,Kv,Bool.and_self,QJ,if_true,Er,toP,WL]
def QiP(ns a:Ď):mH aY8 (Ø (a.map .int))=nv (mP (oX ns a)):=by simp only[mH,QiZ,Bool.and_self,QJ,if_true,Er,toP,Up,PyData.eqv,Ux]
def Qld(ns:Ď):mH aY8 l7=nv (mP (oX ns [])):=QiP ns []
def R8{α:re}{xs:To}{i:Int}(h0:0<=i)(h1:i<ŕ):bf3 xs=xs[i.toNat]?:=by unfold atI ixN;rw[Eh h0,Eh h1];rfl
def gR(ns:Ď){i:Int}(h0:0<=i)(h1:i<mh):bf3 oI>=↥(ns.getD i.toNat 0):=by
 have a:i.toNat<mh:=À
 rw[R8 h0 bj3,Bt,bg7];simp[Cp,a]
def opt:Č->DV
 |none=>ī
 |some i=>ng
def QbH{b:DV->aG}(I:cd8 En)(n:Nat)(env:En)(h:I 0 env)(c:∀(i:Nat),i<n->∀env,I i env->∃a,b ↥nW env=bS a/\I (i+1) a):∃a,Yb b (Zg 0 n) env=bS a/\I n a :=
 QdD I 0 n env h λ i hi env h'=>Å Int.zero_add (c i hi env h')
def Z9(x y:Int)(h:0<y):Z4 bU7 ↥y=hA (x % y):=by simp[Z4,jb,Ol,h]
def KS(x y:Int)(h:0<y)(h':y<EL):pZ bU7 ↥y=hA (x / y):=by simp[pZ,jb,Om,h,h']
def XW(x y:Int)(h:-cn4<x)(h':x<cn4):J8 bU7 ↥y=hA (x * y):=by simp only[J8,jb,Ij,Em (Or.inl (b:=(-cn4<y/\y<cn4)) (And.intro h h')),if_true]
def DQ(x y:Int)(h:-cn4<y)(h':y<cn4):J8 bU7 ↥y=hA (x * y):=by simp only[J8,jb,Ij,Em (Or.inr (a:=(-cn4<x/\x<cn4)) (And.intro h h')),if_true]
def ju(x y:Int):Q7 bU7 ↥y=hA (x+y):=rfl
def Vz(x y:Int):XO bU7 ↥y=hA (x-y):=rfl
def yN(x y:Int):dD bU7 ↥y=nv (AN y x):=rfl
def Y3(x y:Int):cU bU7 ↥y=nv (AN x y):=rfl
def zA(x y:Int):fH bU7 ↥y=nv (FX x y):=rfl
def yM(x y:Int):n8 bU7 ↥y=nv (FX y x):=rfl
def GG(x:Int):Ow bU7=hA (-x):=rfl
def Vc:JY ↥10 ↥30=hA Ĕ:=rfl
def Ir:JY ↥10 ↥21=hA 1000000000000000000000:=rfl
def Ie:JY ↥10 ↥9=hA 1000000000:=rfl
def WA{m:Int}(h0:0<=m)(h1:al8 m):Ĝ (qw m):=Em (ax7 À)
def XI(x y:Int)(h:0<y):0<=x % y/\x % y<y:=Ĭ (ar3 À) (aO5 h)
def Qei{f:bR}{g:iU}{m:Int}(hf:dc=Ô [È m])(h0:0<=m)(h1:al8 m):yh (Gj f) g body env=Yb (Pp d env' (g d env) cL2) (Zg 0 m.toNat) env:=by simp only[yh,Gj,hf,Er,pX,WA h0 h1,QJ,if_true]
def X1{ds:á}(h:Ć<=Ņ):Ĝ (qO ds):=Em h
def Zc{f g:aG}(h:dc=bS aF):Qs f g env=g aF:=ai0 Qs h
def Mi{f g:aG}(h:dc=Ô (.rt d,aF)):Qs f g env=Ô (.rt d,aF):=ai0 Qs h
def Zr{i:Nat}{f:aJ}{env:En}(h:dc=bK2):QI i f env=bS bd3:=ai0 QI h
def wH{c:bV}{f g:aG}(h:cm2=bK1):aQ c f g env=dc:=by simp only[aQ,h,Er,if_true]
def wI{c:bV}{f g:aG}(h:cm2=N7):aQ c f g env=SU:=by simp only[aQ,h,Er,Az,if_false]
def Jo{f:aJ}(h:dc=bK2):QT f env=Ô (.rt d,env):=ai0 QT h
def JE{n:Nat}{a:aG}{ds:á}(h:a (aG7++Ī (n-Ć) Ś)=Ô (.rt d,env)):Zj n a ds=bK2:=ai0 Zj h
def K2{f:aJ}{b:Bool}(h:dc=nv b):eB f env=Ô b:=by simp only[eB,h,Er,fU]
def QH{g:DV->fS}{f a:aJ}(h:dc=bZ8)(h':bF4=Ô y)(b:g x y=bK2):Qh g f a env=bK2:=by simp only[Qh,h,h',Er,b]
def XF{F:Ez}{f a:aJ}(h:dc=bZ8)(h':bF4=Ô y)(b:F [x,y]=bK2):Qx 2 F (Ĺ f a) env=bK2:=by simp[Qx,Qc,Qj,h,h',QJ,b]
def RL{F:Ez}{f c a:aJ}(h:dc=bZ8)(h':cm2=Ô y)(b:bF4=Ô z)(e:F [x,y,z]=bK2):Qx 3 F (B6 f c a) env=bK2:=by simp[Qx,Qc,Qj,h,h',b,QJ,e]
section
variable{K:Aa}{ρ:Ey}{B:Ex}{hp:Hs}{H:Hp}
def Gr.dH{p:Addr}(h:ct5)(kf:LS p):BR K B H (ρ++[p]) (zX B p) (Ŝ p o) where
 pre:=NA _
 ban:=Fj h h
 new:=λ a z=>z.elim .inl λ e=>Ğ (e▸Ĭ h kf)
 cg:=λ a z=>(cv0).elim .inl λ q=>Ğ (bj6 q h)
 keep:=λ a u _ q=>aZ9 q h q
 trk:=(an8 K K ρ B B h).trk
def aO.dH{p:Addr}(W:bC4)(h:ct5)(kf:LS p)(l:bB K (ρ++[p]) (zX B p) (Ŝ p o) p v):aO K (ρ++[p]) (zX B p) (hp++[v]) (Ŝ p o) where
 len:=ą W.len
 nd:=aH1 W.nd Ê (λ a f b j=>bj6 j (λ z=>W.bt a (W.rb a f) (z▸h)))
 obj:=λ i a u e q=>by
  by_cases hi:i<⇑ρ
  ·rw[Ah hi]at e;rw[Ah (æ W.len hi)]at q;exact ci9 ((Gr.dH h kf).gs W.rb) (λ z=>W.bt a (W.rb a cA6) (z▸h)) (W.obj i a u e q)
  ·rw[aG2]at e;rw[bf2 W.len]at q;have c:i-⇑ρ=0:=Fc ct8
   rw[c]at e;rw[<- W.len,c]at q;simp at e q;subst e q;exact l
 rb:=λ a z=>(cv0).elim (λ q=>ê (W.rb a q)) λ q=>Ğ (Fs q)
 bt:=λ a z q=>by
  have n:=(an8 K K ρ B B h).trk a q;rcases z with z|rfl
  ·exact W.bt a z n
  ·rw[Q0]at q;cases q
 bk:=λ a z=>z.elim (W.bk a) λ e=>e▸kf
def Gr.eX{i:Nat}{a:Addr}(c:dC ρ a)(h:F6>=o):BR K B H ρ B (TB o') where
 pre:=Ck
 ban:=by8
 new:=Fj h h
 cg:=Fj h h
 keep:=λ b u nb q=>iL (Ý (b≠a) (λ z=>nb (Å z (Aw c)))) q
 trk:=λ b q=>by
  by_cases e:b=a
  ·subst e;rw[Q0]at q;cases q
  ·rw[QP e]at q;exact q
def aO.eX{i:Nat}{a:Addr}(W:bC4)(c:dC ρ a)(h:F6>=o)(r:bB K ρ B (TB o') a v):sP K B (μ i v) (TB o') where
 len:=ą W.len
 nd:=W.nd
 obj:=λ j b u e q=>by
  by_cases f:j=i
  ·subst f;rw[c]at e;cases e;have n:j<ot:=æ W.len (Ω c)
   rw[Au n]at q;cases q;exact r
  ·rw[n9 f]at q;have l:b≠a:=λ z=>f (aE5 z ((List.getElem?_inj ct8 W.nd).mp (aW3 c.symm)))
   exact ci9 ((Gr.eX c h).gs W.rb) l (W.obj j b u e q)
 rb:=W.rb
 bt:=λ b z q=>W.bt b z ((Gr.eX (K:=K) (B:=B) c h).trk b q)
 bk:=W.bk
#where
section
variable{X:Cx}{e a b c:Expr}{f fa fb fc:aJ}{pos:Pos}
def Xr(o:OV):į:=λ h=>è (ë ⇑h,h++[o])
def Zx(i:Nat):M OV:=λ h=>match ŵ h with
 |some o=>è (o,h)
 |none=>none
def yn(i:Nat)(o:OV):co0:=λ h=>è ((),h.set i o)
def ZW{i:Nat}{hp hp':Hs}(h:Zx i hp>=(o,hp')):dC hp o/\hp=hp':=by
 unfold Zx at h;cases q:ŵ hp with
 |none=>rw[q]at h;cases h
 |some z=>rw[q]at h;cases h;exact ft
def YJ(f:bR):aJ:=FG (do let ds <- dc;br8 ds;Xr fI)
def Wy{K:Aa}{H:Hp}{hp:Hs}{Q:VK}(W:bC4)(r:sM)(k:iT K ρ B H bT (hp++[fI]) Q):∀p,ct5->DG K (n7 p xs)->cy0 (n7 p xs):=λ p hp' kf=>by have kp:=kf p _ Q0;have g:BR K B H (ρ++[p]) (zX B p) (n7 p xs):=Gr.dH hp' kp;refine k _ _ _ _ g (W.dH hp' kp (da xs Q0 (br6 W.rb g _ r))) ?_;unfold aA;exact cR3 p W.len
def XB{es:Ϡ}{f:bR}(h:DA X es f):bb (.List es pos) (YJ f) :=
 aa1 (L_ h).kf (λ σ H Q j=>by obtain⟨Z,env,ρ,B,hp,d,hp',S,e,k⟩:=j;obtain⟨xs,hp1,l,n⟩:=ũ;obtain⟨_,hp2,o,r⟩:=Qg n;obtain⟨t,rfl⟩:=QL o;cases r;exact aA1 l (FK vs B1 H1 g1 S1 i (Ĭ (æ ⇑i (jU t)) (Wy S1.wo i bM5))))
def aA.bC{K:Aa}{ρ:Ey}{hp:Hs}{i:Nat}{v:V}(W:bC4)(r:o7 ↑i v)(h:dC hp o):∃a,v=ų/\dC ρ a/\bB K ρ B H a o:=ah1 a rfl e r.o8 (Nc a rfl e (W.obj i a o e h))
def ixW:DV->fS
  |.ref n,.int i=>do
    match <- OU with
    |.lst ds=>match bf4 with
      |some d=>bK2
      |none=>failure
    |_=>failure
  |x,y=>bF x y
def Uq:fR
  | [.ref n]=>do
    match <- OU with
    |.lst ds=>Ô o0
    |_=>failure
  |xs=>Ig xs
def jw:cE3 af9 Uq:=by
  intro j s σ H xs us Q I r h;obtain⟨ρ,B,hp,ds,d,hp',W,l,e,k⟩:=h;unfold Uq at e;split at e
  . rename_i n
    obtain⟨o,hp1,t,i⟩:=ũ;obtain⟨u,rfl⟩:=ZW t;cases o with
    |aH _=>cases i
    |ins _ _=>cases i
    |lst z=>obtain⟨rfl,rfl⟩:=Qk i;obtain⟨v,rfl,y⟩:=l.cu;obtain⟨a,rfl,_,ys,h1,x⟩:=sg y u;exact qj j s σ H _ us Q I r (Α a ys (n5 tT (xa W x k)))
  . exact Qkz j s σ H xs us Q I r ⟨ρ,B,hp,_,d,hp',W,l,e,k⟩
#where
def Runs{α:re}(m:cA8)(x:α):Û:=∀hp,∃hp',m hp>=(x,hp')
section
variable{f g:aG}{env aF eU:En}{c ca cb:bV}{e fa fb:aJ}{d x y:DV}{r:Fl × En}
#where
def LQ{b:DV->aG}(I:NU (En->ct7)):∀(ds:á)(k:Nat)(env:En)(hp:Hs),bH0 k->(∀(i:Nat) d,aR9->∀env hp,bH0 (k+i)->∃a hp',b d env hp>=(ϧ a,hp')/\I (k+i+1) a hp')->∃a hp',Yb b ds env hp>=(ϧ a,hp')/\I (k+Ć) a hp'
  | [],k,env,hp,h,_=>Α env hp h
  |d::ds,k,env,hp,h,c=>by
    obtain⟨aF,hp1,e,h1⟩:=c 0 d rfl env hp h;obtain⟨j,hp2,f,h2⟩:=LQ I ds (k+1) aF hp1 h1 λ i d' hd a hp' h'=>bk9 (c (i+1) d' (Ä hd) a hp' (Å (ð (k+(i+1)=k+1+i)) h')) (ð (k+(i+1)+1=k+1+i+1))
    refine Nc j hp2 ?_ (eI Ba (ð (k+(Ć+1)=k+1+Ć)) h2);show(b d env hp).bind _=_;rw[e];exact f
def Uy{b:DV->aG}(I:NU (En->ct7))(n:Nat)(env:En)(hp:Hs)(h:bH0 0)(c:∀(i:Nat),i<n->∀env hp,bH0 i->∃a hp',b ↥nW env hp>=(ϧ a,hp')/\I (i+1) a hp'):∃a hp',Yb b (Zg 0 n) env hp>=(ϧ a,hp')/\I n a hp':=by
 obtain⟨a,hp',e,h'⟩:=LQ I (Zg 0 n) 0 env hp h λ i d hd env hp hi=>by obtain⟨h1,rfl⟩:=zD hd;rw[C9]at hi ⊢;rw[Int.zero_add];exact c i h1 env hp hi
 exact Nc a hp' e (by rw[JZ,C9]at h';exact h')
def Qe{α β:re}{m:cA8}{k:α->M β}{x:α}(h:m hp>=(x,hp1)):(m >>= k) hp=k x hp1:=Ő ((m hp).bind (λ p=>k ϰ PP)=_) h
def QlV{f g:aG}(h:aT>=(ϧ aF,hp1)):Qs f g env hp=g aF hp1:=NB
def Qw{i:Nat}{f:aJ}{env:En}(h:aT>=(d,hp1)):QI i f env hp>=(ϧ bd3,hp1):=NB
def Qk3{i:Int}(h:bf4>=d):bF o0 br0=bK2:=by simp only[bF,h]
def Tn{i:Int}(h:bf4>=d):bF fI br0=bK2:=by simp only[bF,h]
def WZ(ds:á)(m:Nat):D.zY ds none (è nC)=bG6:=by unfold D.zY;rw[HT.sIx_nat];show EH (qz 0) (min m Ć-0)=bG6;simp
def yA(ds:á)(m:Nat):D.zY ds (è nC) none=qz m:=by
 unfold D.zY;rw[HT.sIx_nat];show EH (qz (min m Ć)) (Ć-min m Ć)=qz m;rcases aX2 m Ć with h|h
 ·rw[RI h,Ch Ê]
 ·rw[aA2 h,Cm h,Cm ę];simp
def vj(ds:á)(m:Nat):iI o0 none (è nC)=N9 bG6:=cL4 WZ
def vi(ds:á)(m:Nat):iI o0 (è nC) none=N9 (qz m):=cL4 yA
def WH{f g:aJ}{ds:á}{m:Nat}(h:dc=Ô o0)(h':SU=hA nC):bH f Zw ar2 env=N9 bG6:=by simp only[bH,Zw,Ze,h,h',Er,dZ,vj]
def WI{f g:aJ}{ds:á}{m:Nat}(h:dc=Ô o0)(h':SU=hA nC):bH f ar2 Zw env=N9 (qz m):=by simp only[bH,Zw,Ze,h,h',Er,dZ,vi]
#print D
namespace L2
open PySem PySem.Spec PyProof.Rows
section
variable{X:Cx}
def SY:R2:=λ x y H Q=>∃a kvs k v,x=ų/\y=aO1/\F6>=(.dK kvs)/\az2>=v/\Q v H
def Qk6(f:AG 1<cLine):IxR X SY:=by intro value slice O9 s σ H x y v u Q I rx ry h hs;obtain⟨a,kvs,k,z,rfl,rfl,e,i,q⟩:=h;cases rx;have g:DGet H a aO1 (è z):=i▸DGet.k e;exact tail_any (Qbq I g) PySem.F.slot_dict_getitem.lookup (Qgq f I g ry λ j s' c b=>cm4 z H c b) hs
def vW(e:AG 1<cLine):aj3 X .NotIn (λ x y H Q=>∃a kvs k,y=ų/\x=aO1/\F6>=(.dK kvs)/\Q (bv6 (aq8 az2)) H):=by intro f s σ H x y v u Q I rx ry h;obtain⟨a,kvs,k,rfl,rfl,c,q⟩:=h;cases ry;exact QkD e I (DGet.k c) rx λ s' b=>aZ6 _ H b q
def Qo3:V->V->V->Hp->Δ eK:=λ o i v H Q=>∃a kvs k,o=ų/\i=aO1/\F6>=(.dK kvs)/\be2 Ϟ/\Q (TB (.dK (bn8 k v)))
def QjO(f:AG 1<cLine):Dd X Qo3:=λ r s σ H o i v x t u Q I l j n h=>by obtain⟨a,kvs,k,rfl,rfl,c,e,q⟩:=h;cases l;exact Qgr f I (DPut.k c e) j n λ s' b=>cK6 b q
def Qo2:V->Β->Hp->tM:=λ x vs H Q=>∃a kvs k,x=ų/\F6>=(.dK kvs)/\((vs=[aO1]/\∃v,az2>=v/\Q v (TB (.dK (yE kvs k)))) ∨
 ∃z,vs=[aO1,z]/\(∀v,az2>=v->Q v (TB (.dK (yE kvs k))))/\(Ū az2->Q z H))
def Mr:MtR X aW8 Qo2:=by
 intro r s σ H x vs v us Q I rx rv h;obtain⟨a,kvs,k,rfl,f,h⟩:=h;cases rx;rcases h with ⟨rfl,w,i,q⟩|⟨z,rfl,q1,j⟩
 ·obtain⟨u,rfl,e⟩:=VC rv;exact P0 I f e i ı λ o s' c b=>cm4 w _ c b
 ·obtain⟨u,u2,rfl,e,n⟩:=Dk rv;cases l:az2 with
  |some w=>exact P0 I f e l (Ğ (õ u2)) λ o s' c b=>⟨w,_,c,b,q1 w l⟩
  |none=>exact QmJ I f e l λ s' c=>⟨z,H,c,n,j l⟩
def Qo1:V->Β->Hp->tM:=λ x vs H Q=>∃a kvs k,x=ų/\F6>=(.dK kvs)/\((vs=[aO1]/\Q (cG6 az2 ī) H)∨∃z,vs=[aO1,z]/\Q (cG6 az2 z) H)
def SX(i:AG 1<cLine):MtR X bQ0 Qo1:=by
 intro n s σ H x vs v us Q I rx rv h;obtain⟨a,kvs,k,rfl,f,h⟩:=h;cases rx;rcases h with ⟨rfl,q⟩|⟨z,rfl,q⟩
 ·obtain⟨u,rfl,e⟩:=VC rv;exact QmH i I (DGet.k f) e λ l s' c b=>cm4 _ H c b
 ·obtain⟨u,u2,rfl,e,j⟩:=Dk rv;exact QmI i I (DGet.k f) e j λ l s' c b=>cm4 _ H c b
#where
#print L2
namespace D
open PySem PySem.Spec PyProof.Rows L2
def KY:DV->Ð Key
 |.int i=>è (ê i)
 |.str x=>è (Ğ x)
 |_=>none
def Jv(kvs:Ϧ)(k:Key):Ð DV:=CD (kvs.find? λ a=>oX a.1 k)
def JQ(kvs:Ϧ)(k:Key)(d:DV):Ϧ :=
 df (bC9 a a.1 k) (EE (λ a=>É (a.1=k) (a.1,d) a)) (kvs++[(k,d)])
def XD(kvs:Ϧ)(k:Key):Ϧ:=kvs.filter λ a=>as2 a.1 k
section
variable{K:Aa}{ρ:Ey}{B:Ex}{H:Hp}{hp:Hs}
def XC{v:V}(h:KY d>=k)(r:ce2):v=aO1:=by
 cases d<;>simp[KY]at h<;>subst h
 ·exact r.aZ
 ·exact r.iY
abbrev aP(K:Aa)(ρ:Ey)(B:Ex)(H:Hp):Ϧ->Δ aU5:=Paired λ p q=>ϰ=q.1/\o7 PP q.2
def T7:∀{kvs:Ϧ}{xs:aU5},cU4=bM6->lx (EE ϒ) (A4 ϒ)->cX3
  | [],[],_,_=>mT
  | [],_::_,e,_=>c9 e
  |_::_,[],e,_=>c9 e
  |p::kvs,q::xs,e,r=>by simp only[Bb,List.cons.injEq]at e;simp only[Bb]at r;unfold au at r;obtain⟨x,t,a,h1,h2⟩:=r;simp only[List.cons.injEq]at a;obtain⟨rfl,rfl⟩:=a;exact fX (Ĭ e.1.symm h1) (T7 e.2 h2)
def aP.to{kvs:Ϧ}{xs:aU5}(r:cX3):cU4=bM6/\lx (EE ϒ) (A4 ϒ):=by
 induction r with
 |nil=>exact Ť au.nil
 |cons h _ a=>exact Ĭ (ky a.1 h.1) (Ä (PV h.2 a.2))
def aP.val(r:cX3)(k:Key):(Ū bm1/\Ū (X3 xs k))∨∃d v,bm1>=d/\X3 xs k>=v/\ce2:=by
  induction r with
  |nil=>exact ê ft
  |@cons p q _ _ h _ b =>
    by_cases e:ϰ=k
    . exact Ğ ⟨PP,q.2,af1 Jv e,af1 X3 (h.1▸e),h.2⟩
    . have a:¬ q.1=k:=h.1▸e
      simpa [Jv,X3,B7,e,a]using b
def aP.any{kvs:Ϧ}{xs:aU5}(r:cX3)(k:Key):bC9 a a.1 k=xs.any λ a=>oX a.1 k:=by
 induction r with
 |nil=>rfl
 |cons h _ b=>simp only[Ct,b,h.1]
def aP.repl{kvs:Ϧ}{xs:aU5}(r:cX3)(k:Key)(rd:ce2):aP K ρ B H (EE (λ a=>É (a.1=k) (a.1,d) a)) (A4 (λ a=>É (a.1=k) (a.1,v) a)):=by
  induction r with
  |nil=>exact mT
  |@cons p q _ _ h _ b =>
    refine fX ?_ b;dsimp only;by_cases e:ϰ=k
    . rw[aL7,Eh (h.1▸e)];exact Ĭ h.1 rd
    . rw[OO,Eg (h.1▸e)];exact h
def aP.snoc{kvs:Ϧ}{xs:aU5}(r:cX3)(rd:ce2):aP K ρ B H (kvs++[(k,d)]) (xs++[(k,v)]):=by
 induction r with
 |nil=>exact cc3 rd mT
 |cons h _ a=>exact fX h a
def aP.put(r:cX3)(k:Key)(rd:ce2):aP K ρ B H (OW k d) (jc xs k v):=by
 unfold JQ jc;rw[r.any k];split
 ·exact r.repl k rd
 ·exact r.snoc rd
def aP.drop(r:cX3)(k:Key):aP K ρ B H cy6 (yE xs k):=by
  induction r with
  |nil=>exact mT
  |@cons p q _ _ h _ b =>
    unfold XD yE at b ⊢;by_cases e:ϰ=k
    . have a:q.1=k:=h.1▸e
      simpa [e,a]using b
    . have a:¬ q.1=k:=h.1▸e
      rw[Cw cr9,Cw cs0];exact fX h b
def aP.len{kvs:Ϧ}{xs:aU5}(r:cX3):Ϟ=ŕ:=PM r
def aP.gs(g:bg5)(r:cX3):bo0 K ρ' B' H':=L2.Paired.mapP r λ_ _ h=>Ĭ h.1 (aA.gs g _ _ h.2)
def bB.aH{a:Addr}(h:bB K ρ B H a nl):∃xs,F6>=(.dK xs)/\cX3:=by obtain⟨xs,e,b,c⟩:=h;exact da xs e (T7 b c)
def aP.f9{a:Addr}(r:cX3)(e:F6>=(.dK xs)):bB K ρ B H a nl:=Nc xs e r.to.1 r.to.2
def vz{n:Nat}{a:Addr}(W:bC4)(i:ρ[n]?>=a)(e:F6>=(.dK xs))(r:aP K ρ B H kvs' xs'):BR K B H ρ B (TB (.dK xs'))/\sP K B (μ n (nj kvs')) (TB (.dK xs')):=by have g:BR K B H ρ B (TB (.dK xs')):=Gr.eX i e;exact Ĭ g (W.eX (o':=.dK xs') (v:=nj kvs') i e ((r.gs cJ9).f9 Q0))
def vA{n:Nat}{a:Addr}(W:bC4)(i:ρ[n]?>=a)(e:F6>=o)(r:lx ds' xs'):BR K B H ρ B (n7 a xs')/\sP K B (μ n (Ø ds')) (n7 a xs'):=by have g:BR K B H ρ B (n7 a xs'):=Gr.eX i e;exact Ĭ g (W.eX (o':=Ø xs') (v:=Ø ds') i e (da xs' Q0 (br6 W.rb g _ r)))
#where
section
variable{X:Cx}{e a b c:Expr}{f fa fb fc:aJ}{pos:Pos}
def m9(o:Ð DV):į:=match o with
 |some d=>bK2
 |none=>failure
def xg{o:Ð DV}{hp hp':Hs}(h:m9 o hp>=(d,hp')):o>=d/\hp=hp':=by
 cases o with
 |none=>cases h
 |some z=>obtain⟨rfl,rfl⟩:=cB0;exact ft
def jH(d:DV):M Key:=match KY d with
 |some k=>Ô k
 |none=>failure
def Xu{hp hp':Hs}(h:jH d hp>=(k,hp')):KY d>=k/\hp=hp':=by
 unfold jH at h;cases q:KY d with
 |none=>rw[q]at h;cases h
 |some z=>rw[q]at h;obtain⟨rfl,rfl⟩:=cB0;exact ft
def aB:DV->fS
  |.ref n,y=>do
    match <- OU with
    |.lst ds=>do let i <- dZ y;m9 bf4
    |.aH kvs=>do let k <- jH y;m9 bm1
    |_=>failure
  |x,y=>bF x y
def QoQ(Y:AG 1<cLine):IxR X (rH X.K aB):=by
  intro value slice O9 s σ H x y v u Q I rx ry h hsub;obtain⟨ρ,B,hp,dx,dy,d,hp',W,L,C,e,k⟩:=h;unfold aB at e;split at e
  . rename_i n
    obtain⟨o,hp1,P,l⟩:=ũ;obtain⟨R,rfl⟩:=ZW P;obtain⟨a,rfl,i1,O⟩:=sg L R;cases o with
    |ins _ _=>cases l
    |aH kvs =>
      obtain⟨J,hp2,r,t⟩:=Qg l;obtain⟨U,rfl⟩:=Xu r;obtain⟨j,rfl⟩:=xg t;obtain⟨xs,h1,rk⟩:=O.aH;rcases rk.val J with ⟨z,_⟩|⟨d',v',z,zv,F⟩
      . rw[j]at z;cases z
      . rw[j]at z;cases z
        exact Qk6 Y value slice O9 s σ H _ _ v u Q I rx ry ⟨a,xs,J,v',rfl,XC U C,h1,zv,cv4 F⟩ hsub
    |lst ds=>obtain⟨i,hp2,r,t⟩:=Qg l;obtain⟨rfl,rfl⟩:=KH r;obtain⟨j,rfl⟩:=xg t;obtain⟨xs,h1,l1⟩:=O;obtain⟨z,hz,F⟩:=gS l1 j;exact Ti value slice O9 s σ H _ _ v u Q I rx ry ⟨a,xs,i,z,rfl,C.aZ,tT,hz,cv4 F⟩ hsub
  . exact Ou value slice O9 s σ H x y v u Q I rx ry ⟨ρ,B,hp,_,_,d,hp',W,L,C,e,k⟩ hsub
def QB(n:AG 1<cLine)(i:cS5)(j:bb b fb)(l:gO b:=by intro _ _;rfl):bb (bm8 a b) (NO fa fb):=aa1 (Pr (QoQ n) i j l) (EJ h (jC h))
def Z2:fR
  | [.ref n]=>do
    match <- OU with
    |.lst ds=>hA Ć
    |.aH kvs=>hA Ϟ
    |_=>failure
  |xs=>ye xs
def ZY:bb3 "len" Z2:=by
  intro i s σ H xs us Q I r h;obtain⟨ρ,B,hp,ds,d,hp',W,t,e,k⟩:=h;unfold Z2 at e;split at e
  . rename_i n
    obtain⟨o,hp1,x,j⟩:=ũ;obtain⟨y,rfl⟩:=ZW x;obtain⟨v,rfl,z⟩:=t.cu;obtain⟨a,rfl,_,u⟩:=sg z y;cases o with
    |ins _ _=>cases j
    |lst C=>obtain⟨rfl,rfl⟩:=Qk j;obtain⟨ys,h1,l⟩:=u;exact zj i s σ H _ us Q I r (A5 a ys (ê tT) (æ ⇑l cv6))
    |aH kvs=>obtain⟨rfl,rfl⟩:=Qk j;obtain⟨ys,h1,l⟩:=u.aH;exact Qgh i s σ H _ us Q I r (A5 a ys h1 (æ l.len cv6))
  . exact uC i s σ H xs us Q I r ⟨ρ,B,hp,_,d,hp',W,t,e,k⟩
def wu:DV->cA9
  |.tup ds=>cs4
  |.lst ds=>cs4
  |.ref n=>do
    match <- OU with
    |.lst ds=>cs4
    |_=>failure
  |_=>failure
def WG{hp hp':Hs}{K:Aa}{v:V}(W:bC4)(r:ce2)(h:wu d hp>=(ds,hp')):hp=hp'/\∃p xs,v=bB0/\(Ps K p∨bR9 p)/\sM:=by
  cases d with
  |tup xs=>obtain⟨rfl,rfl⟩:=cB0;obtain⟨a,ys,rfl,_,j,l⟩:=r.tupI;exact⟨rfl,a,ys,rfl,Ğ j,l⟩
  |lst xs=>obtain⟨rfl,rfl⟩:=cB0;obtain⟨a,ys,rfl,_,j,l⟩:=r.cD;exact⟨rfl,a,ys,rfl,ê j,l⟩
  |ref n =>
    obtain⟨o,hp1,t,i⟩:=Qg (Ý ((OU >>= λ o=>cl1 o ds cs4 failure cA9) hp>=(ds,hp')) h);obtain⟨u,rfl⟩:=ZW t;cases o with
    |lst y=>obtain⟨rfl,rfl⟩:=Qk i;obtain⟨a,rfl,_,ys,h1,x⟩:=sg r u;exact⟨rfl,a,ys,rfl,ê tT,x⟩
    |aH _=>cases i
    |ins _ _=>cases i
  |non=>cases h
  |bl _=>cases h
  |int _=>cases h
  |str _=>cases h
def rA(g:fS):fR
 | [d]=>g d
 |_=>failure
def Ip:fR:=rA λ d=>hJ ds (wu d) fI
def OD:fR:=rA λ d=>do let ds <- wu d;Xr fI
def qE{g:fS}{ds:á}(h:rA g ds hp>=(d,hp')):∃x,ds=[x]/\g x hp>=(d,hp'):=by
 unfold rA at h;split at h
 ·exact ĸ _ h
 ·cases h
def R5:cE3 aD6 Ip:=by intro i s σ H xs us Q I r h;obtain⟨ρ,B,hp,ds,d,hp',W,o,e,k⟩:=h;obtain⟨x,rfl,e⟩:=qE e;obtain⟨y,hp1,j,n⟩:=ũ;obtain⟨rfl,rfl⟩:=cB1;obtain⟨v,rfl,t⟩:=o.cu;obtain⟨rfl,p,ys,rfl,u,l⟩:=WG W t j;exact call_list_of i s σ H _ us Q I r (A5 p ys u (zr W l k))
def _root_.L2.CallR.kf{f:Value}{r:Β->Hp->tM}(h:ou f r):ou f (λ xs H Q=>r xs H λ v H'=>DG X.K H'->cH8 v):=by intro i s σ H xs us Q I rv q;refine fT (h i s σ H xs us _ I rv q) v s' x H' I' rx q' ⟨x,H',I',rx,q' (Inv.nZ I')⟩
def Qky:cE3 aD6 OD:=by intro i s σ H xs us Q I r h;obtain⟨ρ,B,hp,ds,d,hp',W,o,e,k⟩:=h;obtain⟨x,rfl,e⟩:=qE e;obtain⟨y,hp1,j,n⟩:=ũ;obtain⟨v,rfl,t⟩:=o.cu;obtain⟨rfl,p,ys,rfl,u,l⟩:=WG W t j;cases n;exact call_list_of.kf i s σ H _ us Q I r (A5 p ys u (Wy W l k))
#where
def cM:NU (Hs->DV->Ð DV)
  |0,_,_=>none
  |n+1,hp,d=>match d with
    |.ref i=>match ŵ hp with
      |some (.lst ds)=>pc (IU n hp) .lst
      |_=>none
    |.tup ds=>pc (IU n hp) .tup
    |.lst ds=>pc (IU n hp) .lst
    |d=>è d
def Gz{α β:re}{f:α->Ð β}{x:α}{xs:To}{ys:Ã β}(h:(x::xs).mapM f>=ys):∃y a,f x>=y/\xs.mapM f>=a/\ys=y::a:=by
  rw[List.mapM_cons]at h;cases q:f x with
  |none=>rw[q]at h;cases h
  |some y =>
    cases b:xs.mapM f with
    |none=>rw[q,b]at h;cases h
    |some a=>rw[q,b]at h;exact dE y a rfl (aL4 h)
section
variable{X:Cx}{O9:Et}{σ:St}{H:Hp}{s:Shared}{ρ:Ey}{B:Ex}{hp:Hs}
def qI(I:Ϝ)(W:CF X.K B H):∀(n:Nat)(d d':DV)(v:V)(u:Value),aX3 n d>=d'->o6 X.K d v->ϟ v->∃j,Reads s.heap u (toP d') j
  |0,_,_,_,_,h,_,_=>cR0
  |n+1,d,d',v,u,h,r,f=>by
    have all:∀(ds c:á)(xs:Β)(us:ó),IU n hp>=c->i6 X.K ds xs->aZ8->∃j,ReadsAll s.heap us (cC c) j:=by
      intro ds;induction ds with
      |nil=>intro c xs us h r f;rw[List.mapM_nil]at h;cases h;unfold au at r;subst r;cases f;exact Sc [] cC mT
      |cons x ds R =>
        intro c xs us h r f;obtain⟨y,zs,h1,h2,rfl⟩:=Gz h;unfold au at r;obtain⟨z,t,rfl,Y,r2⟩:=r;cases f with
        |cons q1 U=>obtain⟨j,P⟩:=qI I W n x y z _ h1 Y q1;obtain⟨bs,Q⟩:=R zs t _ h2 r2 U;exact Sc _ cC (fX P Q)
    have lst:∀(ds c:á)(a:Addr)(xs:Β),IU n hp>=c->Ps X.K a->i6 X.K ds xs->∃j,Reads s.heap Ŗ (toP (Ø c)) j:=by intro ds c a xs h J F;obtain⟨C,O,⟨o,k,e,L,_,hd⟩,_⟩:=FO J;obtain⟨j,q⟩:=all ds c xs C h F O;exact bC8 _ (reads_list_at e L hd bc9)
    unfold cM at h;cases d with
    |non=>cases h;obtain rfl:=r.h_;cases f;exact bC8 [] bE
    |bl b=>cases h;obtain rfl:=r.iy;cases f;exact bC8 [] (E7 b)
    |int i=>cases h;obtain rfl:=r.aZ;obtain⟨t,rfl⟩:=f;exact bC8 [] aE8
    |str x=>cases h;obtain rfl:=r.iY;obtain⟨t,rfl⟩:=f;exact bC8 [] (.str x t)
    |tup ds=>obtain⟨c,h1,rfl⟩:=bG5 h;obtain⟨a,xs,rfl,_,J,F⟩:=r.tupI;cases f;obtain⟨C,O,⟨o,e,L,k,hd⟩,_⟩:=gd J;obtain⟨j,q⟩:=all ds c xs C h1 F O;exact bC8 _ (reads_tuple_at e L hd bc9)
    |lst ds=>obtain⟨c,h1,rfl⟩:=bG5 h;obtain⟨a,xs,rfl,_,J,F⟩:=r.cD;cases f;exact lst ds c a xs h1 J F
    |ref i =>
      cases q:ŵ hp with
      |none=>simp only[q]at h;cases h
      |some o =>
        simp only[q]at h;cases o with
        |aH _=>cases h
        |ins _ _=>cases h
        |lst ds=>obtain⟨c,h1,rfl⟩:=bG5 h;obtain⟨a,rfl,_,xs,h2,l⟩:=sg r q;cases f;exact lst ds c a xs h1 cK3 l
#where
def pY(d:DV):į:=λ hp=>NM (aX4 d) x (x,hp)
def uJ{hp hp':Hs}(h:pY d hp>=(d',hp')):aX4 d>=d'/\hp=hp':=by obtain⟨x,h1,h2⟩:=bG5 h;cases h2;exact õ h1
def VY(x y:DV):OS:=do
 let x' <- pY x
 let y' <- pY y
 QJ (fE x'&&fE y')
 Ô (bd6 x' y')
def cP:DV->fS:=λ x y=>hJ b (VY x y) LZ
def eN:DV->fS:=λ x y=>hJ b (VY x y) (bv6 b)
section
variable{X:Cx}{e a b c:Expr}{f fa fb fc:aJ}{ca cb:bV}{pos:Pos}
def uR{k:Bool}{hp hp':Hs}(h:VY x y hp>=(k,hp')):∃i j,aX4 x>=i/\aX4 y>=j/\Ĝ (fE i)/\Ĝ (fE j)/\k=bd6 i j/\hp=hp':=by obtain⟨i,hp1,n,h⟩:=Qg h;obtain⟨j,hp2,o,h⟩:=Qg h;obtain⟨_,t,r,h⟩:=Qg h;obtain⟨q1,rfl⟩:=uJ n;obtain⟨u,rfl⟩:=uJ o;obtain⟨l,rfl⟩:=QL r;obtain⟨rfl,rfl⟩:=cB0;rw[Bc]at l;exact⟨i,j,q1,u,l.1,l.2,rfl,rfl⟩
def Y4(o:AG 64<cLine):ce6 .Eq cP:=by intro J s σ H x y v u Q I rx ry h;obtain⟨ρ,B,hp,O,P,d,hp',W,t,z,e,k⟩:=h;obtain⟨b,hp1,l,n⟩:=ũ;obtain⟨rfl,rfl⟩:=cB1;obtain⟨R,U,q1,r,C,F,rfl,rfl⟩:=uR l;obtain⟨L,i⟩:=qI I W _ _ _ _ _ q1 t rx;obtain⟨bs,j⟩:=qI I W _ _ _ _ _ r z ry;exact eq_dataH i j C F o (aZ6 _ H I cv5)
def gj(o:AG 64<cLine):ce6 .NotEq eN:=by intro J s σ H x y v u Q I rx ry h;obtain⟨ρ,B,hp,O,P,d,hp',W,t,z,e,k⟩:=h;obtain⟨b,hp1,l,n⟩:=ũ;obtain⟨rfl,rfl⟩:=cB1;obtain⟨R,U,q1,r,C,F,rfl,rfl⟩:=uR l;obtain⟨L,i⟩:=qI I W _ _ _ _ _ q1 t rx;obtain⟨bs,j⟩:=qI I W _ _ _ _ _ r z ry;exact ne_dataH i j C F o (aZ6 _ H I cv5)
def Xt:AD DV
 |.non=>true
 |.bl _=>true
 |.int _=>true
 |.str _=>true
 |_=>false
def Ob:DV->AD DV
 |.non,.non=>true
 |.bl a,.bl b=>a==b
 |.bl a,.int b=>É a 1 0==b
 |.int a,.bl b=>a==É b 1 0
 |.int a,.int b=>a==b
 |.str a,.str b=>a==b
 |_,_=>false
def nJ:DV->V
 |.non=>ī
 |.bl b=>LZ
 |.int i=>ng
 |.str x=>aJ4
 |_=>ī
def Tv{K:Aa}{v:V}(h:Ĝ (Xt d))(r:ce2):v=nJ d:=by
 cases d<;>simp[Xt]at h
 ·exact r.h_
 ·exact r.iy
 ·exact r.aZ
 ·exact r.iY
def MS(h:Ĝ (Xt d)):bL0 (nJ d):=by cases d<;>simp[Xt]at h<;>rfl
def QkL{d e:DV}(h:Ĝ (Xt d))(h':Ĝ (Xt e)):eqV (nJ d) (nJ e)=Ob d e:=by cases d<;>simp[Xt]at h<;>cases e<;>simp[Xt]at h'<;>rfl
def Tw{K:Aa}:∀{ds:á}{xs:Β},Ĝ ak1->sM->xs=cL1
  | [],_,_,r=>bd au r r
  |d::ds,_,h,r=>by unfold au at r;obtain⟨x,t,rfl,i,j⟩:=r;rw[C8,Bc]at h;rw[Tv h.1 i,Tw h.2 j];rfl
def inB(d:DV)(ds:á):Bool:=ds.any λ y=>Ob y d
def Wu{d:DV}(h:Ĝ (Xt d)):∀{ds:á},Ĝ ak1->inV (nJ d) cL1=inB d ds
  | [],_=>rfl
  |x::ds,h'=>by rw[C8,Bc]at h';have i:=Wu h h'.2;unfold inV inB at i ⊢;rw[Bb,Ct,Ct,i,QkL h'.1 h]
def M1:∀{ds:á},Ĝ ak1->Ĝ ((cL1).all Y1)
  | [],_=>rfl
  |x::ds,h=>by rw[C8,Bc]at h;rw[Bb,C8,MS h.1,M1 h.2];rfl
def Di(x:DV):DV->OS
  |.ref n=>do
    match <- OU with
    |.lst ds=>do QJ (Xt x&&ak1);Ô (inB x ds)
    |.aH kvs=>do let k <- jH x;Ô (aq8 bm1)
    |_=>failure
  |.tup ds=>do QJ (Xt x&&ak1);Ô (inB x ds)
  |.lst ds=>do QJ (Xt x&&ak1);Ô (inB x ds)
  |_=>failure
def GH:DV->fS:=λ x y=>hJ b (Di x y) (bv6 b)
def QdX{k:Bool}{hp hp':Hs}{K:Aa}(W:bC4)(C:o7 x vx)(z:o7 y vy)(h:Di x y hp>=(k,hp')):hp=hp' /\
    ((∃p xs,vy=bB0/\(Ps K p∨bR9 p)/\bL0 vx/\Ĝ aO0/\k=inV vx xs)∨∃a kvs t,vy=ų/\vx=kV t/\F6>=(.dK kvs)/\k=aq8 (OR t)):=by
  have l:∀(ds:á)(xs:Β)(p:Addr),(do QJ (Xt x&&ak1);Ô (inB x ds):OS) hp>=(k,hp')->sM->(Ps K p∨bR9 p)->vy=bB0->hp=hp'/\(∃p xs,vy=bB0/\(Ps K p∨bR9 p)/\bL0 vx/\Ĝ aO0/\k=inV vx xs):=by intro ds xs p h j u P;obtain⟨_,hp1,v,r⟩:=Qg h;obtain⟨i,rfl⟩:=QL v;obtain⟨rfl,rfl⟩:=Qk r;rw[Bc]at i;have ex:=Tw i.2 j;have I:=Tv i.1 C;subst ex I;exact⟨rfl,p,_,P,u,MS i.1,M1 i.2,(Wu i.1 i.2).symm⟩
  cases y with
  |tup ds=>obtain⟨a,xs,rfl,_,u,j⟩:=z.tupI;exact(l ds xs a h j (Ğ u) rfl).imp id .inl
  |lst ds=>obtain⟨a,xs,rfl,_,u,j⟩:=z.cD;exact(l ds xs a h j (ê u) rfl).imp id .inl
  |ref n =>
    obtain⟨o,hp1,v,r⟩:=Qg h;obtain⟨J,rfl⟩:=ZW v;obtain⟨a,rfl,_,F⟩:=sg z J;cases o with
    |lst ds=>obtain⟨xs,h1,j⟩:=F;exact(l ds xs a r j (ê tT) rfl).imp id .inl
    |aH kvs=>obtain⟨t,hp2,L,O⟩:=Qg r;obtain⟨Q,rfl⟩:=Xu L;obtain⟨rfl,rfl⟩:=Qk O;obtain⟨xs,h1,R⟩:=F.aH;refine Ť (Ğ (bE7 a xs t (XC Q C) h1 ?_));rcases R.val t with ⟨z1,z2⟩|⟨_,_,z1,z2,_⟩<;>rw[z1,z2]<;>rfl
    |ins _ _=>cases r
  |non=>cases h
  |bl _=>cases h
  |int _=>cases h
  |str _=>cases h
def Ma(t:AG 1<cLine):ce6 .NotIn GH:=by
 intro j s σ H x y v u Q I rx ry h;obtain⟨ρ,B,hp,L,O,d,hp',W,C,F,e,k⟩:=h;obtain⟨b,hp1,l,n⟩:=ũ;obtain⟨rfl,rfl⟩:=cB1;obtain⟨rfl,h⟩:=QdX W C F l;have i:=cv4 (XZ (b:=mP b));rcases h with ⟨p,xs,rfl,J,o,r,rfl⟩|⟨a,kvs,z,rfl,rfl,h1,rfl⟩
 ·exact Qak j s σ H _ _ v u Q I rx ry ⟨p,xs,rfl,J,o,r,i⟩
 ·exact vW t j s σ H _ _ v u Q I rx ry (bE7 a kvs z rfl h1 i)
def sH(o i d:DV):co0:=match o with
  |.ref n=>do
    match <- OU with
    |.lst ds=>do
      let k <- dZ i
      match ixN Ć k with
      |some j=>yn n (Ø (cL5 j))
      |none=>failure
    |.aH kvs=>do
      let k <- jH i
      QJ bm0
      yn n (ba0 k d)
    |_=>failure
  |_=>failure
def D1(K:Aa)(g:DV->DV->DV->co0):Dc:=λ o i v H Q=>∃ρ B hp h j dv hp',bC4/\o7 h o/\o7 j i/\o7 dv v/\g h j dv hp>=((),hp')/\∀ρ' B' H',bO6->aO K ρ' B' hp' H'->Q H'
def au.set{K:Aa}(r:TK x):∀{ds:á}{xs:Β}(i:Nat),sM->lx (cL5 i) (xs.set i x)
  | [],_,i,h=>by unfold au at h;subst h;exact au.nil
  |_::ds,_,0,h=>by unfold au at h;obtain⟨y,t,rfl,_,h2⟩:=h;exact PV r h2
  |_::ds,_,i+1,h=>T0 au h y t h1 h2 h (PV h1 (au.set r i h2))
def QoR(hu:AG 1<cLine):Dd X (D1 X.K sH):=by
  intro z s σ H o i v ov iv u Q I ro ri rv h;obtain⟨ρ,B,hp,R,di,dv,hp',W,r1,L,O,e,k⟩:=h;cases R with
  |ref n =>
    obtain⟨ob,hp1,U,t⟩:=ũ;obtain⟨Y,rfl⟩:=ZW U;obtain⟨a,rfl,C,y⟩:=sg r1 Y;cases ob with
    |ins _ _=>cases t
    |lst ds =>
      obtain⟨j,hp2,x,l⟩:=Qg t;obtain⟨rfl,rfl⟩:=KH x;obtain⟨xs,h1,J⟩:=y;cases q:ixN Ć j with
      |none=>simp only[q]at l;cases l
      |some m=>simp only[q]at l;cases l;obtain⟨g,r⟩:=vA W C h1 (au.set O m J);exact QjP z s σ H _ _ v ov iv u Q I ro ri rv ⟨a,xs,j,m,rfl,L.aZ,h1,æ ⇑J q,k ρ B _ g r⟩
    |aH kvs=>obtain⟨F,hp2,x,l⟩:=Qg t;obtain⟨hk,rfl⟩:=Xu x;obtain⟨_,a8,e6,e7⟩:=Qg l;obtain⟨hl,rfl⟩:=QL e6;cases e7;obtain⟨xs,h1,P⟩:=y.aH;obtain⟨g,r⟩:=vz W C h1 (P.put F O);exact QjO hu z s σ H _ _ v ov iv u Q I ro ri rv (bV2 a xs F (XC hk L) h1 (æ P.len (Ay (Eo hl) Gv)) (k ρ B _ g r))
  |non=>cases e
  |bl _=>cases e
  |int _=>cases e
  |str _=>cases e
  |tup _=>cases e
  |lst _=>cases e
def d9(f g:aJ):iU:=λ d env=>do
 let o <- dc
 let i <- SU
 sH o i d
 Ô env
def VU(O:AG 1<cLine)(L:bb o fo)(hi:bb i fi)
  (ha:∀v,cA0 (bm8 o i) v=(do
   let ov <- OF [v] aU2
   let iv <- OF [v,ov] (Ù i)
   standAt pos
   OF [v,ov,iv] (setItem ov iv v)
   release [v,ov,iv] []):=by intro _;rfl):PG X (bm8 o i) (sZ X.K (d9 fo fi)):=by
 intro t s σ H v u Q I r h;refine QnC L hi (QoR O) ha t s σ H v u Q I r ?_;obtain⟨Z,env,ρ,B,hp,d,l,hp',S,rd,e,k⟩:=h;obtain⟨x,hp1,C,e⟩:=ũ;obtain⟨y,hp2,F,e⟩:=ũ;obtain⟨z,j,J,e⟩:=ũ;obtain⟨rfl,rfl⟩:=IT;refine P9 C U P (aB3 F (λ Y ρ2 n H2 g2 S2 R=>?_));exact⟨ρ2,n,hp2,x,y,d,j,S2.wo,dr g2 _ _ P,R,bW0 S.wo.rb ag1 _ rd,J,λ ρ3 B3 H3 g3 W3=>k _ ρ3 B3 H3 ((cv7).gs S.wo.rb) (S2.grow g3 W3)⟩
def yW:String->DV->co0
  | "list", .lst _=>Ô ()
  | "str", .str _=>Ô ()
  |T,.ref n=>do
    match <- OU with
    |.lst _=>QJ (T == Ā)
    |.aH _=>QJ (T == ss)
    |_=>failure
  |_,_=>failure
def Qiy{T:String}{hp hp':Hs}{K:Aa}{u:Unit}(W:bC4)(r:ce2)(h:yW T d hp>=(u,hp')):hp=hp'/\tyV K T v H:=by
  unfold yW at h;split at h
  . obtain⟨_,rfl⟩:=cB0
    obtain⟨a,xs,rfl,_,x,_⟩:=r.cD;exact Ť (ê (bB7 xs x))
  . obtain⟨_,rfl⟩:=cB0
    obtain rfl:=r.iY;exact ft
  . obtain⟨o,hp1,n,i⟩:=Qg h
    obtain⟨t,rfl⟩:=ZW n;obtain⟨a,rfl,_,l⟩:=sg r t;cases o with
    |lst ds=>obtain⟨j,rfl⟩:=QL i;obtain⟨xs,h1,_⟩:=l;exact Ť (ê (da (Ä j) xs tT))
    |aH kvs=>obtain⟨j,rfl⟩:=QL i;obtain⟨xs,h1,_⟩:=l;exact Ť (Ğ (Ğ (n5 (Ä j) (n5 xs h1))))
    |ins _ _=>cases i
  . cases h
def sW(K:Aa)(m:DV->fR):V->Β->Hp->tM:=λ x vs H Q=>∃ρ B hp h ds d hp',bC4/\o7 h x/\mS vs/\m h ds hp>=(d,hp')/\iT K ρ B H d hp' Q
def JC(T:String)(m:DV->fR)(f:aJ)(a:bR):aJ:=λ env=>do
 let x <- dc
 yW T x
 let ds <- bF4
 m x ds
def JA{T id:String}{name:Str}{es:Ϡ}{m:DV->fR}{i h:Pos}(O:MtR X id (sW X.K m))(R:PlainAttrs T)(slot:Slot T name id)(l:typeOf cu0=Ô bB3)(P:bb o fo)(L:DA X (e::es) fs)
  (hbase:LO o name aU2=aU2:=by rfl)
  (hfew:((ϝ h (e::es)).all (λ x=>mP x.1)&&(cF4 h).all (λ x=>aq8 x.1)
   && AN (⇑(e::es)+⇑([]:aY6)+É ([]:aY6).isEmpty 0 1) 30)=true:=by rfl)
  (hline:PH i.endLine h.line:=by rfl) (hs:cQ3=ž e::bu8:=by rfl) (hplain:ė ((ϝ h es).any ļ):=by rfl) :
  bb (AC o name i (e::es) h) (JC T m fo fs) :=
 aa1 (Pu R slot l O P L hbase hfew hline hs hplain) (λ σ H Q u=>by obtain⟨Z,env,ρ,B,hp,d,hp',S,e,k⟩:=u;obtain⟨x,hp1,y,F⟩:=ũ;obtain⟨_,hp2,C,I⟩:=Qg F;obtain⟨ds,j,n,J⟩:=Qg I;refine P9 y v r ?_;obtain⟨z,ty⟩:=Qiy S1.wo r C;rw[<- z]at n;exact Ĭ ty (fG.run S1 n λ vs ρ2 t H2 g2 S2 U=>⟨ρ2,t,j,x,ds,d,hp',S2.wo,dr g2 _ _ r,U,J,AK ag1⟩))
def A_(x:DV)(k:NU fR):į:=match x with
  |.ref n=>do
    match <- OU with
    |.lst ds=>k n ds
    |_=>failure
  |_=>failure
def rM(x:DV)(k:NU (fP Ϧ)):į:=match x with
  |.ref n=>do
    match <- OU with
    |.aH ds=>k n ds
    |_=>failure
  |_=>failure
def GK{x d:DV}{k:NU fR}{hp hp':Hs}(h:A_ x k hp>=(d,hp')):∃n ds,x=LD/\bM8 n/\k n ds hp>=(d,hp'):=by
  cases x with
  |ref n =>
    obtain⟨o,hp1,j,i⟩:=Qg h;obtain⟨l,rfl⟩:=ZW j;cases o with
    |lst ds=>exact A5 n ds l i
    |aH _=>cases i
    |ins _ _=>cases i
  |_=>cases h
def jP{x d:DV}{k:NU (fP Ϧ)}{hp hp':Hs}(h:rM x k hp>=(d,hp')):∃n ds,x=LD/\bC5>=(nj ds)/\k n ds hp>=(d,hp'):=by
  cases x with
  |ref n =>
    obtain⟨o,hp1,j,i⟩:=Qg h;obtain⟨l,rfl⟩:=ZW j;cases o with
    |aH ds=>exact A5 n ds l i
    |lst _=>cases i
    |ins _ _=>cases i
  |_=>cases h
def Xp(x:DV):fR
 | [d]=>A_ x λ n ds=>do QJ (bl9 Ć);yn n (cF8 [d]);Ô ī
 |_=>failure
def XH:MtR X bV6 (sW X.K Xp):=by
 intro l s σ H x vs v us Q I rx rv h;obtain⟨ρ,B,hp,J,es,d,hp',W,C,F,e,k⟩:=h;unfold Xp at e;split at e
 ·rename_i y;obtain⟨n,ds,rfl,h0,e⟩:=GK e;obtain⟨_,hp1,r,t⟩:=ũ;obtain⟨u,rfl⟩:=QL r;cases t;obtain⟨a,rfl,z,xs,h1,j⟩:=sg C h0;obtain⟨w,rfl,i⟩:=F.cu;obtain⟨g,o⟩:=vA W z h1 (aW9 j (au.one i));exact Ud l s σ H _ _ v us Q I rx rv (bV2 a xs w rfl h1 (æ cz6 (Ay (Eo u) Gv)) (k _ ρ B _ g o xi))
 ·cases e
def Dj(x:DV):fR
  | [y]=>rM x λ n kvs=>do
    let k <- jH y
    let d <- m9 bm1
    yn n (nj cy6)
    bK2
  | [y,z]=>rM x λ n kvs=>do
    let k <- jH y
    match bm1 with
    |some d=>do yn n (nj cy6);bK2
    |none=>Ô z
  |_=>failure
def Qnb:MtR X aW8 (sW X.K Dj):=by
 intro C s σ H x vs v us Q I rx rv h;obtain⟨ρ,B,hp,dx,es,d,hp',W,r1,r,e,k⟩:=h;unfold Dj at e;split at e
 ·rename_i y;obtain⟨n,kvs,rfl,h0,e⟩:=jP e;obtain⟨j,hp1,L,e⟩:=ũ;obtain⟨O,rfl⟩:=Xu L;obtain⟨d',hp2,e2,e⟩:=ũ;obtain⟨i,rfl⟩:=xg e2;cases e;obtain⟨a,rfl,P,R⟩:=sg r1 h0;obtain⟨xs,h1,u⟩:=R.aH;obtain⟨w,rfl,l⟩:=r.cu;obtain rfl:=XC O l;obtain⟨g,F⟩:=vz W P h1 (u.drop j);rcases u.val j with ⟨z,_⟩|⟨J,v',z,o,U⟩
  ·rw[i]at z;cases z
  ·rw[i]at z;cases z;exact Mr C s σ H _ _ v us Q I rx rv ⟨a,xs,j,rfl,h1,ê (Nc rfl v' o (k _ ρ B _ g F (bW0 W.rb g _ U)))⟩
 ·rename_i y z;obtain⟨n,kvs,rfl,h0,e⟩:=jP e;obtain⟨j,hp1,L,e⟩:=ũ;obtain⟨O,rfl⟩:=Xu L;obtain⟨a,rfl,P,R⟩:=sg r1 h0;obtain⟨xs,h1,u⟩:=R.aH;unfold au at r;obtain⟨w,t,rfl,l,r⟩:=r;obtain rfl:=XC O l;obtain⟨w2,rfl,rJ⟩:=r.cu;rcases u.val j with ⟨z1,o⟩|⟨J,v',z1,o,U⟩
  ·rw[z1]at e;obtain⟨rfl,rfl⟩:=IT;exact Mr C s σ H _ _ v us Q I rx rv ⟨a,xs,j,rfl,h1,ax6 w2 rfl (λ v i=>ĩ o i i) (λ_=>cv4 rJ)⟩
  ·rw[z1]at e;cases e;obtain⟨g,F⟩:=vz W P h1 (u.drop j);exact Mr C s σ H _ _ v us Q I rx rv ⟨a,xs,j,rfl,h1,ax6 w2 rfl (λ v i=>AU o i i (k _ ρ B _ g F (bW0 W.rb g _ U))) (λ Y=>ĩ o Y Y)⟩
 ·cases e
def yY(x:DV):fR
  | [y]=>rM x λ n kvs=>do
    let k <- jH y
    Ô (cG6 bm1 ī)
  | [y,z]=>rM x λ n kvs=>do
    let k <- jH y
    Ô (cG6 bm1 z)
  |_=>failure
def RV(P:AG 1<cLine):MtR X bQ0 (sW X.K yY):=by
 intro O s σ H x vs v us Q I rx rv h;obtain⟨ρ,B,hp,dx,es,d,hp',W,R,l,e,k⟩:=h;unfold yY at e;split at e
 ·rename_i y;obtain⟨n,kvs,rfl,h0,e⟩:=jP e;obtain⟨j,hp1,u,e⟩:=ũ;obtain⟨C,rfl⟩:=Xu u;obtain⟨rfl,rfl⟩:=IT;obtain⟨a,rfl,U,J⟩:=sg R h0;obtain⟨xs,h1,F⟩:=J.aH;obtain⟨w,rfl,i⟩:=l.cu;obtain rfl:=XC C i;refine SX P O s σ H _ _ v us Q I rx rv ⟨a,xs,j,rfl,h1,ê (Ť (cv4 ?_))⟩;rcases F.val j with ⟨z1,o⟩|⟨r,v',z1,o,L⟩<;>rw[z1,o]
  ·exact xi
  ·exact L
 ·rename_i y z;obtain⟨n,kvs,rfl,h0,e⟩:=jP e;obtain⟨j,hp1,u,e⟩:=ũ;obtain⟨C,rfl⟩:=Xu u;obtain⟨rfl,rfl⟩:=IT;obtain⟨a,rfl,U,J⟩:=sg R h0;obtain⟨xs,h1,F⟩:=J.aH;unfold au at l;obtain⟨w,t,rfl,i,l⟩:=l;obtain rfl:=XC C i;obtain⟨w2,rfl,Y⟩:=l.cu;refine SX P O s σ H _ _ v us Q I rx rv ⟨a,xs,j,rfl,h1,Ğ (ĸ w2 (cv4 ?_))⟩;rcases F.val j with ⟨z1,o⟩|⟨r,v',z1,o,L⟩<;>rw[z1,o]
  ·exact Y
  ·exact L
 ·cases e
#where
#print D
namespace L2
open PySem PySem.Spec PyProof.Rows
def Inv.eZ{X:Cx}{s:Shared}(I:Ϝ):Ū cw2:=by
 cases q:cw2 with
 |none=>rfl
 |some o=>exact aQ8 (Ap (I.kIn _ o q))
def QnX(K:Aa)(a:â TE TE):TE:=λ σ H Q=>∀p,ct5->LS p->El a σ (Ŝ p (.dK [])) λ ps H2=>H2 p>=(.dK [])/\∃kvs:aU5,ps=EE (λ b=>(kV b.1,b.2))/\Ϟ<=15/\cy0 (upd H2 p (.dK (Xs [] kvs)))
def Qja{keys:Ã ap4}{values:Ϡ}{i:â TE TE}(h:PPs X pos keys values i)(f:Ĝ (keys.all cH6))(x:keys.length=values.length)(h0:keys≠[])
  (h15:keys.length<=15):bX (.Dict keys values pos) (QnX X.K i):=by
 intro r s σ H Q I q;have y:=nt bV0;have n:=I.laid (a:=s.heap.objs.size) (o:=.dK []) (h':=nE ss (.dict Nl)) (t':=s.toks) (bn3 (jl q)) ę (WU s.heap I.big);refine wpAny_Dict_walk (knd:=LL) f x h0 h15 (ō (h r _ σ _ _ n (q _ y I.eZ)) ws s2 t);obtain⟨ps,Y,l,j,e,kvs,ep,lk,J⟩:=t;subst ep;obtain⟨R,c,O⟩:=KM (P:=X.prog) (w:=X.w) j;obtain⟨z,hd,U,L,u⟩:=Uw l.hok e;cases L;refine Nc R c u (λ h' b F=>dE Κ _ ?_ J);have hz:ÿ ⇑(Xs [] kvs):=by have h1:=qr kvs [];rw[List.length_nil]at h1;rw[sizeLine_eq];lia
 have v:∃q,aZ1 q:=ah5 q C b q C;exact yB l bN5 F v (KU hz hd (O.merge mT) b)
def Qg0{X:Cx}:bX (.Dict [] [] pos) (λ_ H Q=>∀p,ct5->Ū (NY p)->cy0 (Ŝ p (.dK []))):=λ b s σ H Q I h =>
 wpAny_Dict_empty (dE Κ _ (co9 a o (.dK []) t' s.toks (bn3 (jl q)) ę (WU s.heap I.big)) (h _ ba1 I.eZ))
#print L2
namespace D
open PySem PySem.Spec PyProof.Rows L2
section
variable{X:Cx}{e a b c:Expr}{f fa fb fc:aJ}{ca cb:bV}{pos:Pos}
def Hy:â aJ aJ->En->M Ϧ
  | [],_=>Ô []
  | (f,g)::r,env=>do
    let x <- dc
    let k <- jH x
    let y <- SU
    let ps <- Hy r env
    Ô ((k,y)::ps)
def YR(kvs more:Ϧ):Ϧ:=more.foldl (λ acc h=>JQ acc h.1 h.2) kvs
def Qon(ps:â aJ aJ):aJ:=λ env=>do
 let kvs <- Hy ps env
 QJ (FX Ϟ 15)
 Xr (nj (YR [] kvs))
def Pa(K:Aa)(ps:â aJ aJ):â TE TE:=ps.map λ p=>(tD K ϰ,tD K PP)
structure DPs(X:Cx)(pos:Pos)(keys:Ã ap4)(values:Ϡ)(ps:â aJ aJ):Û where
 out:PPs X pos keys values (Pa X.K ps)
def aP.merge{K:Aa}(r:aP K ρ B H more ms):∀{kvs:Ϧ}{xs:aU5},cX3->aP K ρ B H (YR kvs more) (Xs xs ms):=by
  induction r with
  |nil=>intro kvs xs r;exact r
  |@cons p q _ _ h _ i=>intro kvs xs r;unfold YR Xs at i ⊢;rw[List.foldl_cons,List.foldl_cons,h.1];exact i (r.put q.1 h.2)
def WK{K:Aa}:∀(ps:â aJ aJ){Z:Ent}{env:En}{σ:St}{ρ:Ey}{B:Ex}{hp hp1:Hs}{H:Hp}{kvs:Ϧ}{R:â V V->eK},aT3->Hy ps env hp>=(kvs,hp1) ->
    (∀xs ρ' B' H',bO6->aS1 K Z ρ' B' hp1 H'->bo0 K ρ' B' H'->R (A4 (λ h=>(kV h.1,h.2))) H')->El (Pa K ps) σ H R
  | [],_,_,_,_,_,_,_,_,_,_,S,e,k=>eP rfl rfl IT (Ű [] _ _ _ S mT)
  | (f,g)::r,_,_,_,_,_,_,_,_,_,_,S,e,k=>by obtain⟨x,hp2,i,e⟩:=ũ;obtain⟨z,t,j,e⟩:=ũ;obtain⟨o,rfl⟩:=Xu j;obtain⟨y,J,l,e⟩:=ũ;obtain⟨ps,L,n,e⟩:=ũ;obtain⟨rfl,rfl⟩:=IT;refine P9 i v C (aB3 l (λ u ρ2 B2 H2 g2 S2 F=>WK r S2 n λ xs ρ3 B3 H3 g3 S3 I=>?_));obtain rfl:=XC o C;exact k ((z,u)::xs) ρ3 B3 H3 cv7 S3 (cc3 (bW0 S2.wo.rb g3 _ F) I)
def Qph{keys:Ã ap4}{values:Ϡ}{ps:â aJ aJ}(h:DPs X pos keys values ps)(l:Ĝ (keys.all cH6):=by rfl)(hl:keys.length=values.length:=by rfl)(h0:keys≠[]:=by exact List.cons_ne_nil _ _)(t:keys.length<=15:=by exact Į):bb (.Dict keys values pos) (Qon ps) :=
 L2.PE.imp (Qja h.out l hl h0 t) λ σ H Q P=>by
  obtain⟨Z,env,ρ,B,hp,d,hp',S,e,k⟩:=P;obtain⟨kvs,hp1,R,U⟩:=ũ;obtain⟨_,hp2,Y,e4⟩:=Qg U;obtain⟨hs,rfl⟩:=QL Y;cases e4;intro p r y;have g0:BR X.K B H ρ (zX B p) (Ŝ p (.dK [])):=cK7 r y;have L:=S.wo.banned (o:=.dK []) r y;have C:p∉ρ:=λ z=>S.wo.bt p (S.wo.rb p z) r;refine WK ps (S.grow g0 L) R (FK xs B1 H1 g1 S1 F ?_);have v:p∉ρ1:=λ z=>(g1.cg p z).elim C λ q=>ĩ Q0 q q
  have J:H1 p>=(.dK []):=g1.keep p _ C Q0;refine A5 J xs (æ F.len (Eo hs)) ?_;have G:=bW8;have trk:∀b,Ū ((upd H1 p (.dK (Xs [] xs))) b)->Ū (H1 b):=λ b q=>by
   by_cases e:b=p
   ·subst e;rw[Q0]at q;cases q
   ·rw[QP e]at q;exact q
  have x:B1 p:=g1.ban p Ty;have g2:Gs X.K ρ1 B1 H1 (ρ1++[p]) B1 (upd H1 p (.dK (Xs [] xs))):=Nc (NA _) (Fj h h) (λ b o nb h=>iL (Ý (b≠p) (λ z=>nb (Å z x))) h) trk;have I:BR X.K B H (ρ1++[p]) B1 (upd H1 p (.dK (Xs [] xs))) :=
   ⟨G.pre.trans (NA _),G.ban,G.new,λ a z=>(cv0).elim (G.cg a) λ q=>Ğ (bj6 q r),
    λ a o na h=>iL (Ý (a≠p) (fg z z r h h)) (G.keep a o na h),λ a q=>G.trk a (trk a q)⟩
  have j:=S1.wo;have oD:bB X.K (ρ1++[p]) B1 (upd H1 p (.dK (Xs [] xs))) p (nj (YR [] kvs)):=((aP.merge F (kvs:=[]) (xs:=[]) mT).gs g2).f9 Q0;have O:aO X.K (ρ1++[p]) B1 (hp1++[nj (YR [] kvs)]) (upd H1 p (.dK (Xs [] xs))):=by
   refine⟨ą j.len,aH1 j.nd Ê (λ a ha b hb=>bj6 hb (λ z=>v (z▸ha))),TZ i a u e q,λ a z=>(cv0).elim (j.rb a) λ q=>bj6 q x,λ a z q=>j.bt a z (trk a q),j.bk⟩;by_cases hi:i<⇑ρ1
   ·rw[Ah hi]at e;rw[Ah (æ j.len hi)]at q;exact ci9 g2 (λ z=>v (æ z cA6)) (j.obj i a u e q)
   ·rw[aG2]at e;rw[bf2 j.len]at q;have n:i-⇑ρ1=0:=Fc ct8
    rw[n]at e;rw[<- j.len,n]at q;simp at e q;subst e q;exact oD
  refine k _ _ _ _ I O ?_;unfold aA;exact cR3 p j.len
def xV:aJ:=λ_=>Xr LT
def yC:bb (.Dict [] [] pos) xV:=aa1 Qg0 (λ σ H Q j=>by obtain⟨Z,env,ρ,B,hp,d,hp',S,e,k⟩:=j;cases e;intro p i h;have g:BR X.K B H (ρ++[p]) (zX B p) (Ŝ p (.dK [])):=Gr.dH i h;refine k _ _ _ _ g (S.wo.dH i h (aP.f9 (xs:=[]) mT Q0)) ?_;unfold aA;exact cR3 p S.wo.len)
abbrev NX:=NU (M (Ð DV))
def Ld(K:Aa)(ρ:Ey)(B:Ex)(H:Hp)(nxt:NX)(J:It):Û :=
  ∀ρ1 B1 hp1 h, bg2 ρ1 B1 h -> aO K ρ1 B1 hp1 h -> ∀(i : Nat)(o : Ð DV)(hp2 : Hs), nxt i hp1 = è (o, hp2) -> hp2 = hp1 /\ match o with
    |none=>J.stop i h
    |some d=>J.go i h/\∀x H',J.yld i h x H'->aA K ρ1 B1 H' d x/\(H'=h∨∃p o,Ū (h p)/\H'=upd h p o)
abbrev lY:=En->M NX
def Fo(K:Aa)(f:lY):TI:=λ σ H R=>∃Z env ρ B hp nxt hp',aT3/\aT>=(nxt,hp')/\∀J ρ' B' H',bO6->aO K ρ' B' hp' H'->Ld K ρ' B' H' nxt J->R J H'
def DX(X:Cx)(tg h:Expr)(f:lY):Û:=PI X tg h (Fo X.K f)
def d7(ds:á):NX:=λ i=>cP6 (i<=Ć) (Ô ct6)
def g_(n:Nat):NX:=λ i=>do
 match <- OU with
 |.lst ds=>Ô ct6
 |_=>failure
def RQ{K:Aa}(h:rE K ρ B H ds J):Ld K ρ B H T1 J:=λ ρ1 B1 hp1 H1 g W i o hp2 e=>by
  unfold d7 at e;by_cases hi:i<=Ć
  . rw[Eh hi]at e
    obtain⟨rfl,rfl⟩:=IT;obtain⟨h1,h2⟩:=h ρ1 B1 H1 g W.rb W.bt;refine Ť ?_;cases q:ct6 with
    |none =>
      have:i=Ć:=Ě aO6
      subst this;exact h2
    |some d=>exact h1 i d q
  . rw[Eg hi]at e;cases e
def Qng{K:Aa}{ρ:Ey}{n:Nat}{a:Addr}(z:ρ[n]?>=a)(kf:∀h:Hp,∀xs ys,Ň (h a) xs->SqL K h a ys->ys=xs):Ld K ρ B H (g_ n) (Itl K a):=λ ρ1 B1 hp1 h g W i o hp2 e=>by
  obtain⟨F,C,t,j⟩:=ũ;obtain⟨u,rfl⟩:=ZW t;have l:=Ss g.pre z;cases F with
  |aH _=>cases j
  |ins _ _=>cases j
  |lst ds =>
    obtain⟨rfl,rfl⟩:=Qk j;obtain⟨xs,h1,r⟩:=W.obj n a _ l u;refine Ť ?_;cases q:ct6 with
    |none=>exact da xs tT (æ lc aO6)
    |some d=>obtain⟨x,hx,I⟩:=r.get q;refine Ĭ (Nc xs x tT hx) (aW0 y H' v hy);subst v;have:=hy xs tT;rw[hx]at this;cases this;exact Ĭ I ı
def QjY{K:Aa}{a:Addr}(i:LS a)(H:Hp)(xs ys:Β)(h:Ň F6 xs)(h':sm K a ys):ys=xs:=by
 rcases h' with (h'|⟨o,h'⟩)|⟨o,_,_,h',_⟩
 ·rw[h]at h';cases h';rfl
 ·rw[h]at h';cases h'
 ·rw[i]at h';cases h'
def iV(f:lD):lY:=FG (hJ ds dc T1)
def cW(f:aJ):lY:=λ env=>do
  match <- dc with
  |.lst ds=>Ô T1
  |.ref n=>do
    match <- OU with
    |.lst _=>Ô (g_ n)
    |_=>failure
  |_=>failure
variable{tg iter:Expr}
def uN(h:DI X tg iter g):DX X tg iter (iV g):=L2.PI.imp h λ σ H R i=>by obtain⟨Z,env,ρ,B,hp,nxt,hp',S,e,k⟩:=i;obtain⟨ds,hp1,j,l⟩:=ũ;obtain⟨rfl,rfl⟩:=Qk l;exact⟨Z,env,ρ,B,hp,ds,hp1,S,j,λ J ρ' B' H' g W n=>k J ρ' B' H' g W (RQ n)⟩
def XE(h:bb iter f):DX X tg iter (cW f):=L2.PI.imp (Qlt (L2.PE.kf h)) λ σ H R t=>by
  obtain⟨Z,env,ρ,B,hp,nxt,hp',S,e,k⟩:=t;obtain⟨d,hp1,u,i⟩:=ũ;refine mG u (λ v ρ1 B1 H1 g1 S1 l kf=>?_);cases d with
  |lst ds=>obtain⟨rfl,rfl⟩:=Qk i;obtain⟨a,xs,rfl,nb,r,I⟩:=l.cD;exact Nc a rfl (Ĭ xs r) (k _ ρ1 B1 H1 g1 S1.wo (RQ (Qk1 nb r I)))
  |ref n =>
    obtain⟨o,hp2,x,j⟩:=Qg (Ý ((OU >>= λ o=>(match o with|.lst _=>Ô (g_ n)|_=>failure:M NX)) hp1>=(nxt,hp')) i);obtain⟨y,C⟩:=ZW x;cases o with
    |lst ds=>obtain⟨rfl,z⟩:=Qk j;rw[<- z,<- C]at k;obtain⟨a,rfl,F,xs,h1,_⟩:=aA.bC S1.wo l y;exact Nc a rfl (Ĭ xs tT) (k _ ρ1 B1 H1 g1 S1.wo (Qng F (QjY (kf a _ h1))))
    |aH _=>cases j
    |ins _ _=>cases j
  |non=>cases i
  |bl _=>cases i
  |int _=>cases i
  |str _=>cases i
  |tup _=>cases i
def xY(nxt:NX)(b:DV->aG):NU (NU aG)
  |0,_,_=>failure
  |m+1,i,env=>do
    match <- nxt i with
    |none=>cc0
    |some d=>do
      let r <- b d env
      match r.1 with
      |.nx=>xY nxt b m (i+1) r.2
      |.ct=>xY nxt b m (i+1) r.2
      |.bk=>bS r.2
      |.rt x=>Ô (.rt x,r.2)
def qJ(f:lY)(g:iU)(h:aG):aG:=FG (do let nxt <- dc;xY nxt (Pp d env' (g d env) (h env')) Ņ 0 env)
def jZ{j:AX}{U:lY}{g:iU}{sb:aG}(hp:av6 al5 X.A X.xe)(hc:ϙ)(hi:DX X tg iter U)(hg:PG X tg (sZ X.K g))(hb:iC X j sb)
    (hs:∀x,cW5=bZ8:=by intro _;rfl):DS X (.For tg iter j [] pos) (qJ U g sb) :=
  (Rj hp hc hi hg hb hs).imp λ D σ H aD=>by
    obtain⟨Z,env,ρ,B,hp,Y,h,hp',S,e,k⟩:=aD;obtain⟨nxt,hp1,e1,e2⟩:=ũ;refine⟨Z,env,ρ,B,hp,nxt,hp1,S,e1,FK J I H1 g1 W1 it ?_⟩;have k1:=AK ip;refine⟨λ i m σ H=>∃env ρ B hp,aT2 X.K/\Gs X.K ρ1 I H1 ρ B H/\xY nxt (Pp d h (g d env) (sb h)) m i env hp>=((Y,h),hp'),
      ⟨Ņ,env,ρ1,I,hp1,S.grow g1 W1,Gs.refl,e2⟩,?_⟩
    rintro i m σ H ⟨eU,ρ2,B2,hp2,S2,g2,n⟩;cases m with
    |zero=>cases n
    |succ m =>
      obtain⟨o,l,eo,n⟩:=Qg n;obtain⟨rfl,t⟩:=it ρ2 B2 hp2 H g2 S2.wo i o l eo;cases o with
      |none=>obtain⟨z,rfl⟩:=cB1;cases z;exact n5 t (k1 σ ρ2 B2 H g2 S2)
      |some d =>
        obtain⟨go,yl⟩:=t;obtain⟨⟨R,L⟩,O,e4,F⟩:=Qg n;obtain⟨lV,r,e6,e7⟩:=Qg e4;refine .inr ⟨go,λ σ' H'=>∃env ρ B hp,xk X.K Z σ' ρ B hp H'/\Gs X.K ρ1 I H1 ρ B H'/\xY nxt (Pp d h (g d env) (sb h)) m (i+1) env hp>=((Y,h),hp'),
          λ σ' H' q=>da m (C6 m) q,Ł x H' y⟩
        obtain⟨rx,hx⟩:=yl x H' y;have Q:bK X.K Z eU σ ρ2 B2 l H'/\Gs X.K ρ2 B2 H ρ2 B2 H':=by
          rcases hx with rfl|⟨p,o,P,rfl⟩
          . exact Ĭ S2 Gs.refl
          . exact Ĭ (S2.grow (aG5 P) (S2.wo.laid P)) (Lj S2.wo.rb P)
        refine⟨Z,eU,ρ2,B2,l,d,lV,r,Q.1,rx,e6,λ σ5 ρ5 B5 H5 g5 S5=>⟨Z,lV,ρ5,B5,r,R,L,O,S5,e7,bF5 σ6 ρ6 u H6 g6 C⟩⟩;have v:=cK2 (å Q.2 (g5.trans g6));cases R with
        |nx=>exact⟨L,ρ6,u,O,C,v,F⟩
        |ct=>exact⟨L,ρ6,u,O,C,v,F⟩
        |bk=>obtain⟨z,rfl⟩:=Qk F;cases z;exact k1 σ6 ρ6 u H6 v C
        |rt d=>obtain⟨z,rfl⟩:=Qk F;cases z;exact k1 σ6 ρ6 u H6 v C
def Js(nxt:NX)(g:DV->OS)(f:fS):NU (NU cA9)
  |0,_=>failure
  |m+1,i=>do
    match <- nxt i with
    |none=>Ô []
    |some d=>do
      if <- g d then
        let y <- f d
        let ys <- Js nxt g f m (i+1)
        Ô (y::ys)
      else Js nxt g f m (i+1)
def Jb(nw:Bool)(h:lY)(idx:ć)(t:bV)(f:aJ):aJ:=λ env=>do
 let nxt <- h env
 let out <- Js nxt (λ d=>t cL0) (λ d=>f cL0) lim 0
 if nw then Xr (Ø out)else E6 out
variable{elt:Expr}{x:Str}{px:Pos}{ifs:Ϡ}{scope:Scope}{cl:ay2}{caps:cr}{idx:ć}{src:lY}{te:bV}{nw:Bool}
def QdB{K:Aa}{gt:En->DV->OS}{gf:En->fS}{tg:V->Hp->Δ bL4}{σ:St}{H:Hp}{Q:VK}
    (hG:∀{Z env σ ρ B hp H ρ1 F hp1 I d v r},aT3->bg2 ρ1 F I->aO K ρ1 F hp1 I->aA K ρ1 F I d v->gt env d hp1>=r->∃e zs,bK K (da ρ1 F I) e (cw5 aO4) ρ1 F hp1 I/\te e hp1>=r/\gf env d=f e/\∀k:bL4,k zs->tg v I k)
    (h:tD K (λ env=>do
      let nxt <- src env
      let out <- Js nxt (gt env) (gf env) lim 0
      if nw then Xr (Ø out)else E6 out) σ H Q):EY K (Fo K src) tg (fD K te) (tD K f) idx σ H Q:=by
  obtain⟨Z,env,ρ,B,hp,d,hp',S,e,k⟩:=h;obtain⟨nxt,hp1,e1,e2⟩:=ũ;obtain⟨out,ad,e5,e6⟩:=Qg e2;refine⟨Z,env,ρ,B,hp,nxt,hp1,S,e1,λ J ρ1 F I g1 W1 it D P hK=>?_⟩;have Sz:=ip;refine⟨λ i m ys H2=>Ň (H2 D) ys/\i+m=lim/\∃ρ2 n hp2 l C,Gr K ρ1 F I ρ2 n H2/\aO K ρ2 n hp2 H2/\n D/\D∉ρ2/\au K ρ2 n H2 l ys/\⇑l<=i /\
    Js nxt (gt env) (gf env) m i hp2>=(C,ad)/\l++C=out,?_,?_⟩
  . exact⟨lim,Q0,C9 _,ρ1,zX F D,hp1,[],out,cK7 P hK,W1.banned P hK,Ty,λ z=>W1.bt D (W1.rb D z) P,au.nil,ę,e5,rfl⟩
  . rintro i m ys H2 ⟨tZ,him,ρ2,n,hp2,l,C,g2,W2,bD,nD,rd,dn,U,e8⟩
    refine CB tZ;cases m with
    |zero=>cases U
    |succ m =>
      obtain⟨o,t,eo,U⟩:=Qg U;obtain⟨rfl,a9⟩:=it ρ2 n hp2 H2 (g2.gs W1.rb) W2 i o t eo;cases o with
      |some d0 =>
        obtain⟨go,yl⟩:=a9;obtain⟨b,dw,e9,R⟩:=Qg U;refine pS go (Ł x H3 y);obtain⟨rx,hx⟩:=yl x H3 y;have O:Gr K ρ2 n H2 ρ2 n H3/\aO K ρ2 n t H3:=by
          rcases hx with rfl|⟨p,o,hn,rfl⟩
          . exact Ĭ Gr.refl W2
          . exact Ĭ (aG5 hn) (W2.laid hn)
        have g3:=cK2 O.1;obtain⟨ev,zv,C3,e9,ef,kk⟩:=hG S (Sz.trans (g3.gs W1.rb)) O.2 rx e9;refine kk _ (fD.run C3 e9 (TZ ρ4 B4 H4 g4 S4));have Ht:Ň (H4 D) ys:=g4.keep D _ nD (O.1.keep D _ nD tZ);have FN:D∉ρ4:=λ z=>(g4.cg D z).elim nD λ q=>ĩ (O.1.keep D _ nD tZ) q q
        cases b with
        |false=>exact kS ⟨m,C6 m,Ht,À,ρ4,B4,dw,l,C,bW7,S4.wo,g4.ban D bD,FN,br6 W2.rb (å O.1 g4) _ rd,À,R,e8⟩
        |true =>
          obtain⟨z,mV,B_,SI⟩:=Qg R;obtain⟨zs,Sb,SH,SG⟩:=Qg SI;obtain⟨rfl,rfl⟩:=Qk SG;rw[ef]at B_;refine kT (tD.run S4 B_ λ v ρ5 B5 H5 Y S5 r5=>?_);have Sr:Ň (H5 D) ys:=Y.keep D _ FN Ht;have Nq:D∉ρ5:=λ z=>(Y.cg D z).elim FN λ q=>ĩ Ht q q
          have Og:B5 D:=Y.ban D (g4.ban D bD);have L:=g3.trans (g4.trans Y);have M_:=br6 W2.rb (å O.1 (g4.trans Y)) _ rd;have trk:∀b,Ū ((upd H5 D (bu9 ys [v])) b)->Ū (H5 b):=λ b q=>by
            by_cases e:b=D
            . subst e;rw[Q0]at q;cases q
            . rw[QP e]at q;exact q
          have g6:Gs K ρ5 B5 H5 ρ5 B5 (upd H5 D (bu9 ys [v])):=Nc Ck (Fj h h) (λ b o nb h=>iL (Ý (b≠D) (λ z=>nb (Å z Og))) h) trk;refine⟨Sr,?_,m,C6 m,Q0,À,ρ5,B5,mV,l++[z],zs,?_,?_,Og,Nq,Nw g6 _ (aW9 M_ (au.one r5)),č,SH,iE e8⟩
          . have h1:=M_.length
            have h2:be2 lim:=Á
            lia
          . exact⟨L.pre,L.ban,L.new,L.cg,λ b o nb h=>iL (Ý (b≠D) (fg q q P h h)) (L.keep b o nb h),λ b q=>L.trk b (trk b q)⟩
          . exact⟨S5.wo.len,S5.wo.nd,λ j b o q1 u=>ci9 g6 (Ý (b≠D) (λ z=>Nq (æ z (Aw q1)))) (S5.wo.obj j b o q1 u),S5.wo.rb,λ b z q=>S5.wo.bt b z (trk b q),S5.wo.bk⟩
      |none =>
        obtain⟨z,z'⟩:=Qk U;subst z;subst z';refine n5 a9 ?_;rw[Br]at e8;subst e8;cases nw with
        |false =>
          obtain⟨rfl,rfl⟩:=Qk (Ý ((E6 l:į) t>=(d,hp')) e6);have gU:Gs K ρ2 n H2 ρ2 (λ b=>n b/\b≠D) H2:=Nc Ck (Fj h h.1) (EJ h h) by8;refine k ↑D ρ2 (λ b=>n b/\b≠D) H2 (du ⟨g2.pre,λ b z=>Ĭ (g2.ban b z) (λ q=>W1.bt b z (q▸P)),λ b z=>g2.new b z.1,g2.cg,g2.keep,g2.trk⟩)
            ⟨W2.len,W2.nd,λ j b o q1 u=>bB.gs gU rfl (W2.obj j b o q1 u),λ b z=>Ĭ (W2.rb b z) (λ q=>nD (q▸z)),λ b z=>W2.bt b z.1,λ b z=>W2.bk b z.1⟩ (Ve (λ z=>z.2 rfl) (SqL.of tZ) (Nw gU _ rd))
        |true =>
          cases Ý (è (aO7 t,t++[ck l])>=(d,hp')) e6;have gU:Gs K ρ2 n H2 (ρ2++[D]) n H2:=Nc (NA _) (Fj h h) (EJ h h) by8;refine k ↑D (ρ2++[D]) n H2 (du ⟨g2.pre.trans (NA _),g2.ban,g2.new,λ a z=>(cv0).elim (g2.cg a) λ q=>Ğ (bj6 q P),g2.keep,g2.trk⟩)
            ⟨ą W2.len,aH1 W2.nd Ê (λ a ha b hb=>bj6 hb (λ z=>nD (z▸ha))),TZ j b o q1 u,λ b z=>(cv0).elim (W2.rb b) λ q=>bj6 q bD,W2.bt,W2.bk⟩ ?_
          . by_cases hi:j<⇑ρ2
            . rw[Ah hi]at q1
              rw[Ah (æ W2.len hi)]at u;exact bB.gs gU rfl (W2.obj j b o q1 u)
            . rw[aG2]at q1
              rw[bf2 W2.len]at u;have a8:j-⇑ρ2=0:=Fc (Ω q1)
              rw[a8]at q1;rw[<- W2.len,a8]at u;simp at q1 u;subst q1 u;exact da ys tZ (Nw gU _ rd)
          . unfold aA
            exact cR3 D W2.len
def K3{K:Aa}(h:tD K (Jb nw src idx te f) σ H Q):Dl K (Fo K src) (fD K te) (tD K f) idx σ H Q :=
 QdB (gt:=λ env d=>te cL0) (gf:=λ env d=>f cL0) (λ S g W r e=>EC _ [_] (cσ_ok S g W r) e by8) h
def XA(S:dG X x scope cl caps idx)(i:ϙ)(hi:DX X ag2 iter src)
  (ht:∀C s₀ H₀ ex,Fg (cy5 (x::caps)) ifs te) (he:∀C s₀ H₀ ex,DE (cy5 (x::caps)) elt f)
  (hs:∀x,cW5=bZ8:=by intro _;rfl):bb (aK2 [cg6 0]) (Jb nw src idx te f) :=
 aa1 (Qln (tt:=fD X.K te) (te:=tD X.K f) S i hi ht he hs) (EJ h (K3 h))
def WO(i:Nat){y:Str}{l j:Pos}(hN:X.N.Nodup)(S:dG X x scope cl caps idx)(n:ϙ)(hi:DX X ag2 iter src)
  (ht:∀C s₀ H₀ ex,Fg (cy5 (x::caps)) ifs te) (he:∀C s₀ H₀ ex,DE (cy5 (x::caps)) elt f)
  (hy:dC X.N y:=by rfl) (hx:iP y:=by first|exact ak0|exact aX0)
  (hsw:w8 (aK2 [cg6 0]) (è (Ũ y l)) j.line=bK1:=by with_unfolding_all rfl)
  (hf:EW y∨cR5 y:=by first|exact ı|exact Ty|assumption)
  (hs:∀x,cW5=bZ8:=by intro _;rfl):DS X (bU5 [Ũ y l] (aK2 [cg6 0]) j) (QI i (Jb nw src idx te f)) :=
 L2.PS.imp (QlA (tt:=fD X.K te) (te:=tD X.K f) S n hi ht he hN hy hx hsw hf hs) (EJ h (W4 (EJ q (K3 q)) h))
#where
def WP{α:re}(m:cA8)(hp:Hs)(Q:α->ct7):Û:=∃x hp',m hp>=(x,hp')/\Q x hp'
section
variable{α β:re}{m:cA8}{k:α->M β}{hp:Hs}{Q:α->ct7}{R:β->ct7}
def cG{x:α}:WP bZ8 hp Q↔Q x hp:=Ĭ (λ⟨y,h,e,q⟩=>eP rfl rfl IT q) (λ q=>Α x hp q)
def Km:WP (m >>= k) hp R↔WP m hp λ x h=>WP (k x) h R:=Ĭ (λ⟨y,h,e,q⟩=>by obtain⟨x,h1,a,b⟩:=ũ;exact⟨x,h1,a,y,h,b,q⟩) (λ⟨x,h1,a,y,h,b,q⟩=>Nc y h (å (Qe a) b) q)
def WP.mono{a:α->ct7}(h:WP m hp Q)(b:∀x h,Q x h->a x h):WP m hp a:=let ⟨x,h1,e,q⟩:=h;Nc x h1 e (b x h1 q)
def WP.of{x:α}(e:m hp>=(x,hp'))(q:Q x hp'):WP m hp Q:=Nc x hp' e q
#where
section
variable{hp:Hs}{env:En}{Q:Fl × En->ct7}
def Qpg{b:DV->aG}(I:NU (En->ct7))(ds:á)(h0:bH0 0)(l:∀(i:Nat) d,aR9->∀env hp,bH0 i->WP (b d env) hp λ r h=>match r.1 with
    |.nx=>I (i+1) r.2 h
    |.ct=>I (i+1) r.2 h
    |.bk=>Q (ϧ r.2) h
    |.rt x=>Q (.rt x,r.2) h) (j:∀env hp,bH0 Ć->Q L3 hp):WP (Yb b ds env) hp Q:=by
  suffices h:∀(m i:Nat) env hp,m+i=Ć->bH0 i->WP (Yb b cd0 env) hp Q by simpa using h Ć 0 env hp rfl h0
  intro m;induction m with
  |zero =>
    intro i env hp e hI;have:i=Ć:=À
    subst this;rw[C7];exact cG.mpr (j env hp hI)
  |succ m c =>
    intro i env hp e hI;have a:i<Ć:=À
    rw[Bi a,Yb,Km];refine(l i ds[i] bg7 env hp hI).mono (Ł r h q);obtain⟨f,aF⟩:=r;cases f with
    |nx=>exact c (i+1) aF h À q
    |ct=>exact c (i+1) aF h À q
    |bk=>exact cG.mpr q
    |rt x=>exact cG.mpr q
def Kn{nxt:NX}{b:DV->aG}(ds:á)(I:NU (En->ct7))(t:Ć<Ņ)(f:∀(i:Nat) env hp,i<=Ć->bH0 i->nxt i hp>=(ct6,hp))(h0:bH0 0)(u:∀(i:Nat) d,aR9->∀env hp,bH0 i->WP (b d env) hp λ r h=>match r.1 with
    |.nx=>I (i+1) r.2 h
    |.ct=>I (i+1) r.2 h
    |.bk=>Q (ϧ r.2) h
    |.rt x=>Q (.rt x,r.2) h) (o:∀env hp,bH0 Ć->Q L3 hp):WP (xY nxt b Ņ 0 env) hp Q:=by
  suffices h:∀(m i n:Nat) env hp,m+i=Ć->m<n->bH0 i->WP (xY nxt b n i env) hp Q from h Ć 0 Ņ env hp rfl t h0;intro m;induction m with
  |zero =>
    intro i n env hp e c hI;have:i=Ć:=À
    subst this;obtain⟨n,rfl⟩:∃k,n=k+1:=bO7;rw[xY,Km];refine WP.of (f _ env hp ę hI) ?_;rw[cV0 ds[Ć]?];exact cG.mpr (o env hp hI)
  |succ m j =>
    intro i n env hp e c hI;have a:i<Ć:=À
    obtain⟨n,rfl⟩:∃k,n=k+1:=bO7;rw[xY,Km];refine WP.of (f i env hp À hI) ?_;simp only[bg7];rw[Km];refine(u i ds[i] bg7 env hp hI).mono (Ł r h q);obtain⟨l,aF⟩:=r;cases l with
    |nx=>exact j (i+1) n aF h À À q
    |ct=>exact j (i+1) n aF h À À q
    |bk=>exact cG.mpr q
    |rt x=>exact cG.mpr q
def jO(ds:á)(i:Nat)(h:i<=Ć)(hp:Hs):d7 ds i hp>=(ct6,hp):=þ d7 cH1
def DP{n:Nat}{ds:á}{hp:Hs}(h:bM8 n)(i:Nat):g_ n i hp>=(ct6,hp):=by
 unfold g_;have:Zx n hp>=(fI,hp):=Ż Zx h
 rw[LW];rfl
def M2{b:DV->aG}(ds:á)(I:NU (En->ct7))(c:Ć<Ņ)(h0:bH0 0)(e:∀(i:Nat) d,aR9->∀env hp,bH0 i->WP (b d env) hp λ r h=>match r.1 with
  |.nx=>I (i+1) r.2 h
  |.ct=>I (i+1) r.2 h
  |.bk=>Q (ϧ r.2) h
  |.rt x=>Q (.rt x,r.2) h) (a:∀env hp,bH0 Ć->Q L3 hp):WP (xY T1 b Ņ 0 env) hp Q :=
 Kn ds I c (λ i env hp h _=>jO ds i h hp) h0 e a
#where
def Qdp{nxt:NX}{t:DV->OS}{f:fS}{p:bx1}{g:Int->Int}(ns:Ď)(j:∀i,i<=mh->nxt i hp>=(ŵ oI,hp))(o:∀x,t bU7 hp>=(p x,hp))(hf:∀x,f bU7 hp>=(È (g x),hp))(l:mh<Ņ):
    Js nxt t f Ņ 0 hp>=(pd (pc (ns.filter p) g),hp):=by
  suffices h:∀(m i n:Nat),m+i=mh->m<n->Js nxt t f n i hp>=(pd (pc (IP (ns.drop i) p) g),hp)by simpa using h mh 0 Ņ rfl l
  intro m;induction m with
  |zero =>
    intro i n e c;obtain⟨n,rfl⟩:∃k,n=k+1:=bO7;have:i=mh:=À
    subst this;have a:=j mh ę;rw[cV0 oI[mh]?]at a;rw[Js,Qe a,C7];rfl
  |succ m r =>
    intro i n e c;obtain⟨n,rfl⟩:∃k,n=k+1:=bO7;have b:i<mh:=À
    have a:=j i À;rw[Bt,Ab b]at a;have hi:=r (i+1) n À À;rw[Js,Qe a];simp only[Option.map_some];rw[Qe (o ns[i]),Bi b];cases q:p ns[i]with
    |false=>rw[aa2 (ą q)];simpa using hi
    |true=>rw[Cw q];simp only[if_true];rw[Qe (hf ns[i]),Qe hi];rfl
def Wh(n:Nat)(hp:Hs)(i:Int):aX3 (n+1) br0>=br0:=rfl
def RM(n:Nat)(hp:Hs)(b:Bool):aX3 (n+1) LZ>=LZ:=rfl
def Wg(n:Nat)(hp:Hs)(b:Str):aX3 (n+1) (Ϩ b)>=(Ϩ b):=rfl
def xc{α:re}{f:α->Ð α}:∀{xs:To},(∀x∈xs,f x>=x)->xs.mapM f>=xs
  | [],_=>rfl
  |x::xs,h=>by rw[List.mapM_cons,h x Ê,xc λ y a=>ch7 y a];rfl
def Wi(h:aX4 d>=d'):pY d hp>=(d',hp):=þ pY h
def Kt(hx:aX4 x>=x')(c:aX4 y>=y')(a:ca7 x')(b:ca7 y'):VY x y hp>=(bd6 x' y',hp):=by unfold VY;simp only[eV,Bc]at a b;rw[Qe (Wi hx),Qe (Wi c)];simp only[a.2,b.2,Bool.and_self,QJ,if_true,Er];rfl
def MT(i j:Int)(hp:Hs):VY br0 ↥j hp>=(i==j,hp):=Kt (Wh 39 hp i) (Wh 39 hp j) (Kv i) (Kv j)
def Qij(a b:Č)(hp:Hs):VY (opt a) E5 hp>=(oX a b,hp):=by
  have e:∀c:Č,aX4 (opt c)>=(opt c):=λ c=>kb c
  have s:∀c:Č,ca7 (opt c):=λ c=>kb c
  rw[Kt (e a) (e b) (s a) (s b)];cases a with
  |none=>cases b<;>simp[opt,toP,PyData.eqv]
  |some i =>
    cases b with
    |none=>simp[opt,toP,PyData.eqv]
    |some j=>simp only[opt,toP,PyData.eqv,Option.some.injEq];congr 1
def Ur(p:Key × DV)(r:Ϧ)(j:Key):Jv (p::r) j=aI8 (ϰ=j) PP (Jv r j):=by
 by_cases e:ϰ=j
 ·simp[Jv,B7,e]
 ·simp[Jv,B7,e]
def Qkc(kvs:Ϧ)(k:Key):bC9 b b.1 k=aq8 bm1:=by
  induction kvs with
  |nil=>rfl
  |cons p r a=>rw[Ct,Ur,a];by_cases e:ϰ=k<;>simp[e]
def Qjw(kvs:Ϧ)(k:Key)(d:DV):⇑(OW k d)<=Ϟ+1:=aB6 JQ
def Q2{n:Nat}{hp:Hs}(h:bC5>=o):Zx n hp>=(o,hp):=Ż Zx h
def MU{n:Nat}{kvs:Ϧ}{hp:Hs}(h:bC5>=nl)(c:KY i>=k)(e:Ϟ<Ņ):sH s0 i d hp>=((),μ n (ba0 k d)):=by
 show(OU >>= _) hp=_;rw[bk8];have a:jH i hp>=(k,hp):=þ jH c
 have b:QJ bm0 hp>=((),hp):=û (cG3 bm0 e)
 show(jH i >>= λ k=>QJ bm0 >>= λ_=>yn n (ba0 k d)) hp=_;rw[Qe a,bH1];rfl
def Mj{f:aJ}{g:iU}(h:aT>=(d,hp1))(h':g d env hp1>=(env',hp2)):zG f g env hp>=(ϧ env',hp2):=Υ zG NB (Qe h')
def Z5{α:re}{m:cA8}{x:α}(h:m=bZ8)(hp:Hs):m hp>=(x,hp):=û h
def Rq{c:bV}{b:Bool}(h:aN7>=(b,hp1)):aQ c f g env hp=df b (η hp1) bS5:=ak2 aQ b
def Q5{f:aJ}{b:Bool}(h:aT>=(LZ,hp1)):eB f env hp>=(b,hp1):=lw eB h
def Qn{g:DV->fS}{f a:aJ}(h:aT>=(x,hp1))(h':a env hp1>=(y,hp2))(b:g x y hp2>=(d,hp3)):Qh g f a env hp>=(d,hp3):=cL8 Qh NB (Qe h') b
def Qgv{F:Ez}{f a:aJ}(h:aT>=(x,hp1))(h':a env hp1>=(y,hp2))(c:F [x,y] hp2>=(d,hp3)):Qx 2 F (Ĺ f a) env hp>=(d,hp3):=by
 have b:Qc a Qj env hp1>=([y],hp2):=lw Qc h'
 have:Qc f (é a) env hp>=([x,y],hp2):=by unfold Qc at b ⊢;rw[NB,bH1];rfl
 unfold Qx;rw[LW];exact c
def QF{f:aJ}(h:aT>=(d,hp1)):QT f env hp>=((.rt d,env),hp1):=lw QT h
def ZN{f g:aG}(h:aT>=((.rt d,aF),hp1)):Qs f g env hp>=((.rt d,aF),hp1):=lw Qs h
def ZM{f:aJ}(h:aT>=(d,hp1)):Z7 f env hp>=(L3,hp1):=lw Z7 h
def QE{n:Nat}{a:aG}{ds:á}(h:a (aG7++Ī (n-Ć) Ś) hp>=((.rt d,env),hp1)):Zj n a ds hp>=(d,hp1):=lw Zj h
def Jc{c:bV}{b:Bool}(h:aN7>=(b,hp1)):qk c env hp>=(mP b,hp1):=lw qk h
def WN{f g:aJ}{b:Bool}(h:aT>=(LZ,hp1)):jB f g env hp=df b bS5 (è (π,hp1)):=ak2 jB b
#print D
namespace TS
open PySem PyProof.Rows
def gal:bD6 (Keyed->Ú->NU (NU (NU (aR1 wd)))):=sortPriv% PySem.Builtin.gallop
def FQ:Ú->Ú->aR1 Ú:=sortPriv% PySem.Builtin.mergeLo
def FW:Ú->Ú->aR1 Ú:=sortPriv% PySem.Builtin.mergeHi
def vc:NU (aR1 Unit):=sortPriv% PySem.Builtin.setMinGallop
def Nr:NU (aR1 Bool):=mergeAt'
structure cV where
 key:Keyed->Int
 kd:SortKind
 S:Δ Keyed
 prog:Program
 w:World
 A:Around
 E:Fn Ε
 s:Shared
 lt:∀(st:SortSt)(p q:Keyed)(Q:bZ7->oy),S p->S q->cd3=kd->Q (è (AN (key p) (key q))) st->wpS al1 A E s (lt' p q) Q st
variable{C:cV}
abbrev W(C:cV){σ α:re}(m:StateT σ Sem α)(Q:α->Δ σ)(a:σ):Û:=wpS (model C.prog C.w) C.A C.E C.s m Q a
def kx(C:cV)(xs:Ú)(i:Nat):Int:=cG6 (pc (ŵ xs) C.key) 0
structure Ok(C:cV)(st:SortSt):Û where
 kind:cd3=C.kd
 fine:ax8 st
 mem:∀p∈iF P4,cL9
def ZQ{xs:Ú}{i:Nat}{Q:Keyed->oy}{a:SortSt}(hi:i<xs.size)(h:Q xs[i] a):W C (aw2 xs i) Q a:=eI elem'_eq (bs1 xs i hi) (Ek h)
def JH(xs:Ú){i:Nat}(hi:i<xs.size):eD xs i=Λ xs[i]:=þ kx (bs1 xs i hi)
def Ua{a:SortSt}{i j:Nat}{Q:bZ7->oy}(g:Ok C a)(hi:i<tm a)(b:j<tm a)(h:Q (è (AN (eD aQ7 i) (eD aQ7 j))) a):W C (ltAt' i j) Q a:=by rw[ltAt'_eq];refine sv (rj hi (cu8 b));refine C.lt a _ _ Q (g.mem _ Ê) (g.mem _ Ê) g.kind ?_;rw[<- JH _ hi,<- JH _ b];exact h
def QmR(left:Bool)(key:Keyed)(c:Ú)(O8 n a:Nat):gal left key c O8 n a=(do
  let e (i:Nat):aR1 bZ7:=do
   let x <- aw2 c (O8+i)
   if left then lt' x key else return pc (<- lt' key x) (not ·)
  let mut last:=0
  let mut ofs:=1
  let mut lo:=0
  let mut hi:=0
  let è right <- e a|return none
  if right then
   let b:=n-a
   for _ in [0:n] do
    if GE.ge ofs b then break
    let è more <- e (a+ofs)|return none
    if mP more then break
    last:=ofs
    ofs:=2 * ofs+1
   lo:=a+last+1
   hi:=a+min ofs b
  else
   let b:=a+1
   for _ in [0:n] do
    if GE.ge ofs b then break
    let è found <- e (a-ofs)|return none
    if found then break
    last:=ofs
    ofs:=2 * ofs+1
   lo:=a+1-min ofs b
   hi:=a-last
  for _ in [0:n] do
   if GE.ge lo hi then break
   let m:=lo+(hi-lo) / 2
   let è more <- e m|return none
   if more then lo:=m+1 else hi:=m
  return è hi):=rfl
def Il(left:Bool)(key:Keyed)(a:Ú)(O8 i:Nat):aR1 bZ7:=do
 let x <- aw2 a (O8+i)
 if left then lt' x key else return pc (<- lt' key x) (not ·)
def Oo(left:Bool)(key:Keyed)(a:Ú)(O8 n l h:Nat):aR1 wd:=do
 let mut lo:=l
 let mut hi:=h
 for _ in [0:n] do
  if GE.ge lo hi then break
  let m:=lo+(hi-lo) / 2
  let è more <- Il left key a O8 m|return none
  if more then lo:=m+1 else hi:=m
 return è hi
def qB{left:Bool}{key:Keyed}{f:Ú}{O8 n a:Nat}{Q:wd->oy}{l:SortSt}(T:AD Nat)(L:wn l=C.kd)(r:C.S key)(U:∀p∈f.toList,cL9)(hb:O8+n<=f.size)(X:a<n)
    (hT:∀i,i<n->T i=É left (AN (eD f (O8+i)) (Λ key)) (mP (AN (Λ key) (eD f (O8+i))))) (mono:∀i j,i<=j->j<n->ct2 j->ct2 i)
    (h:∀hi,hi<=n->(∀i,i<hi->ct2 i)->(∀i,hi<=i->i<n->ė (T i))->Q (è hi) l):W C (gal left key f O8 n a) Q l:=by
  have F:ŗ i R (bZ7->oy) (i<n->R (è (T i)) l->W C (Il left key f O8 i) R l):=by
    intro i R hi u;have v:O8+i<f.size:=À
    unfold Il;refine cu8 v;have o:C.S f[O8+i]:=U _ Ê;rw[hT i hi,JH _ v]at u;cases left with
    |true=>simp only[if_true]at u ⊢;exact C.lt l _ _ R o r L u
    |false=>simp only[Az,if_false]at u ⊢;exact Ej (C.lt l _ _ _ r o L (Ek u))
  have bin:∀lo hi,lo<=hi->hi<=n->(∀i,i<lo->ct2 i)->(∀i,hi<=i->i<n->ė (T i))->W C (Oo left key f O8 n lo hi) Q l:=by
    intro lo hi O J hl z;unfold Oo;dsimp only;refine Ej (wpS_mono (wpS_forRange (I:=λ x c e=>e=l/\∃lo hi,c=bV3 lo hi/\lo<=hi/\hi<=n/\hi-lo<=n-x/\(∀i,i<lo->ct2 i)/\(∀i,hi<=i->i<n->ė (T i)))
      (Q:=λ c e=>e=l/\∃hi lo,c=bV3 lo hi/\hi<=n/\(∀i,i<hi->ct2 i)/\(∀i,hi<=i->i<n->ė (T i))) cp0 ? fin ⟨rfl,lo,hi,rfl,O,J,À,hl,z⟩) cp1)
    case post =>
      rintro c e ⟨rfl,hi,lo,rfl,h1,h2,h3⟩;exact Ek (h hi h1 h2 h3)
    case fin =>
      rintro c e ⟨rfl,lo,hi,rfl,h1,h2,h3,h4,h5⟩;have:lo=hi:=À
      subst this;exact bE7 rfl lo lo h2 h4 h5
    case step =>
      rintro x c e _ hx ⟨rfl,lo,hi,rfl,h1,h2,h3,h4,h5⟩;dsimp only;by_cases q:GE.ge lo hi
      . rw[Eh q]
        have:lo=hi:=À
        subst this;exact Ek (bE7 rfl lo lo h2 h4 h5)
      . rw[Eg q]
        refine Ej (F _ _ À ?_);dsimp only;cases o:T (lo+(hi-lo) / 2)with
        |true=>simp only[if_true];refine Ek ⟨rfl,_,hi,rfl,À,h2,À,Ź i Y,h5⟩;exact mono i (lo+(hi-lo) / 2) À À o
        |false =>
          simp only[Az,if_false];refine Ek ⟨rfl,lo,_,rfl,À,À,À,h4,Ł i t P⟩;cases y:T i with
          |false=>rfl
          |true=>rw[mono _ i t P y]at o;cases o
  rw[QmR];dsimp only;refine Ej (F a _ X ?_);dsimp only;cases z:T a with
  |true =>
    simp only[if_true];refine Ej (wpS_mono (wpS_forRange (I:=λ x c e=>e=l/\∃last b,c=bV3 last b/\last<b/\x+1<=b/\a+last<n/\ct2 (a+last))
      (Q:=λ c e=>e=l/\∃last b,c=bV3 last b/\last<b/\a+last<n/\ct2 (a+last)/\(n-a<=b∨ė (T (a+b)))) cp0 ? fin (bV2 rfl 0 1 À À À z)) cp1)
    case fin =>
      rintro c e ⟨rfl,last,b,rfl,h1,h2,h3,h4⟩;exact bV2 rfl last b h1 h3 h4 (ê À)
    case step =>
      rintro x c e _ hx ⟨rfl,last,b,rfl,h1,h2,h3,h4⟩;dsimp only;by_cases q:GE.ge b (n-a)
      . rw[Eh q]
        exact Ek (bV2 rfl last b h1 h3 h4 (ê q))
      . rw[Eg q]
        refine Ej (F _ _ À ?_);dsimp only;cases o:T (a+b)with
        |true=>simp only[Bool.not_true,Az,if_false];exact Ek (bV2 rfl b (2 * b+1) À À À o)
        |false=>simp only[Bool.not_false,if_true];exact Ek (bV2 rfl last b h1 h3 h4 (Ğ o))
    case post =>
      rintro c e ⟨rfl,last,b,rfl,h1,h2,h3,h4⟩;dsimp only;refine bin (a+last+1) (a+min b (n-a)) À À (λ i hi=>mono i (a+last) À h2 h3) (Ł i h5 t);rcases h4 with q|q
      . lia
      . cases y:T i with
        |false=>rfl
        |true=>rw[mono _ i À t y]at q;cases q
  |false =>
    simp only[Az,if_false];refine Ej (wpS_mono (wpS_forRange (I:=λ x c e=>e=l/\∃last b,c=bV3 last b/\last<b/\x+1<=b/\last<=a/\ė (T (a-last)))
      (Q:=λ c e=>e=l/\∃last b,c=bV3 last b/\last<b/\last<=a/\ė (T (a-last))/\(a+1<=b∨(b<=a/\ct2 (a-b)))) cp0 ? fin (bV2 rfl 0 1 À À À z)) cp1)
    case fin =>
      rintro c e ⟨rfl,last,b,rfl,h1,h2,h3,h4⟩;exact bV2 rfl last b h1 h3 h4 (ê À)
    case step =>
      rintro x c e _ hx ⟨rfl,last,b,rfl,h1,h2,h3,h4⟩;dsimp only;by_cases q:GE.ge b (a+1)
      . rw[Eh q]
        exact Ek (bV2 rfl last b h1 h3 h4 (ê q))
      . rw[Eg q]
        refine Ej (F _ _ À ?_);dsimp only;cases o:T (a-b)with
        |true=>simp only[if_true];exact Ek (bV2 rfl last b h1 h3 h4 (pS À o))
        |false=>simp only[Az,if_false];exact Ek (bV2 rfl b (2 * b+1) À À À o)
    case post =>
      rintro c e ⟨rfl,last,b,rfl,h1,h2,h3,h4⟩;dsimp only;refine bin (a+1-min b (a+1)) (a-last) À À (Ź i hi) (Ł i h5 t)
      . rcases h4 with q|⟨q1,q2⟩
        . lia
        . exact mono i (a-b) À À q2
      . cases y:T i with
        |false=>rfl
        |true=>rw[mono _ i h5 t y]at h3;cases h3
variable{C:cV}
def bN(C:cV)(l:ϭ):Û:=l.Pairwise λ p q=>Λ p<=Λ q
def Sm(b a:SortSt):Û:=wn a=wn b/\aQ7=ü b/\ē a=ē b/\ld a=ld b
def Sm.refl(a:SortSt):Sm a a:=cj6 rfl rfl
def Vv{g:Nat}{st₀ st:SortSt}{Q:ck9 oy}(b:cV3)(h:∀a,ND a->Q () a):W C (vc g) Q st:=by show W C (modify (λ s=>SortSt.mk' (wn s) bB2 (ē s) g (ld s)):aR1 Unit) Q st;exact wpS_modify (h _ b)
def Uh{x:String}{a:SortSt}{Q:ck9 oy}(h:Q () a):W C (liftM (rule x):aR1 Unit) Q a:=wpS_lift (wpAny_rule (Ť h))
structure MI(C:cV)(A B out:ϭ)(i j:Nat):Û where
 perm:(out++(N1++Iq)).Perm (A++B)
 eG:EQ out
 low:∀x∈out,∀y∈N1++Iq,cj7<=cD6
section
variable{A B out:ϭ}{i j:Nat}
def bN.drop(h:EQ A)(n:Nat):EQ (A.drop n):=List.Pairwise.sublist (List.drop_sublist _ _) h
def bN.take(h:EQ A)(n:Nat):EQ (A.take n):=List.Pairwise.sublist (aW7 _) h
def bN.app(h:EQ A)(h':EQ B)(a:∀x∈A,∀y∈B,cj7<=cD6):EQ (A++B):=cp2 h h' a
def MI.cZ(m:MI C A B out i j)(b:EQ A)(k:Nat)(h:∀x∈EH N1 k,∀y∈Iq,cj7<=cD6):MI C A B (out++EH N1 k) (i+k) j:=by
 have e:N1=EH N1 k++A.drop (i+k):=an9 Cv Bz
 have hd:=b.drop i;rw[e]at hd;obtain⟨_,_,h3⟩:=Bu.mp hd;refine da ?_ (m.eG.app (EH (b.drop i) k) λ x hx y a=>m.low x hx y (A7 _ (Bw a))) cU1
 ·have:=m.perm;rw[e]at this;simpa [A8]using this
 ·rcases bx0 with q|q
  ·refine m.low x q y ?_;rcases sN a with z|z
   ·exact A7 _ (Å e (bG1 z))
   ·exact bG1 z
  ·rcases sN a with z|z
   ·exact h3 x q y z
   ·exact h x q y z
def MI.cY(m:MI C A B out i j)(b:EQ B)(k:Nat)(h:∀x∈EH Iq k,∀y∈N1,cj7<=cD6):MI C A B (out++EH Iq k) i (j+k):=by
 have e:Iq=EH Iq k++B.drop (j+k):=an9 Cv Bz
 have hd:=b.drop j;rw[e]at hd;obtain⟨_,_,h3⟩:=Bu.mp hd;refine da ?_ (m.eG.app (EH (b.drop j) k) λ x hx y a=>m.low x hx y (bG1 (Bw a))) cU1
 ·refine aq3 m.perm;rw[A8];refine ER ?_;generalize EH Iq k=ch at e ⊢;rw[e,<- A8,<- A8];exact aj1
 ·rcases bx0 with q|q
  ·refine m.low x q y ?_;rcases sN a with z|z
   ·exact A7 _ z
   ·exact bG1 (Å e (bG1 z))
  ·rcases sN a with z|z
   ·exact h x q y z
   ·exact h3 x q y z
def Fin(C:cV)(A B r:ϭ):Û:=EQ r/\r.Perm (A++B)
def MI.lu(m:MI C A B out i j)(a:EQ A)(h:⇑B<=j):Fin C A B (out++N1++Iq):=by have e:Iq=[]:=Cm h;refine Ĭ ?_ (dP m.perm A8);rw[e,Br];exact m.eG.app (a.drop i) λ x hx y b=>m.low x hx y (A7 _ b)
def MI.lA(m:MI C A B out i j)(a:EQ B)(h:⇑A<=i):Fin C A B (out++N1++Iq):=by have e:N1=[]:=Cm h;refine Ĭ ?_ (dP m.perm A8);rw[e,Br];exact m.eG.app (a.drop j) λ x hx y b=>m.low x hx y (bG1 b)
def MI.iM(m:MI C A B out i j)(c:EQ A)(f:EQ B)(b:∀x∈A.drop (⇑A-1),∀y∈B,cD6<=cj7)(h:i+1=⇑A):Fin C A B (out++Iq++N1):=by
 have e:⇑A-1=i:=À
 rw[e]at b;refine CB ?_
 ·refine(m.eG.app (f.drop j) λ x hx y a=>m.low x hx y (bG1 a)).app (c.drop i) cU1;rcases bx0 with q|q
  ·exact m.low x q y (A7 _ a)
  ·exact b y a x (Cc q)
 ·refine aq3 m.perm;rw[A8];exact ER List.perm_append_comm
#where
abbrev GS:=cQ0 × Ú × Nat × Nat × Nat × Nat × Nat
def FZ(a b:Ú)(mg ac bc:Nat)(res:Ú)(i j:Nat):am5 GS:=do
 let x <- aw2 a i
 if cw4 (i+1+1) then tP (è (ω x++AI j++EX (i+1)),ω x,i+1,j,mg,ac,bc)
 else if Ĝ (AN ac 7&&AN bc 7) then tP (none,ω x,i+1,j,mg,ac,bc)else cz2 (none,ω x,i+1,j,mg,ac,bc)
def Nx(a b:Ú)(mg ac bc:Nat)(res:Ú)(i j:Nat):am5 GS:=do
 let y <- aw2 a i
 let z <- gal true y b j (b.size-j) 0
 match z with
 |some k=>(É (k > 0) (df (j+k==b.size) (tP (è (res++ź j (j+k)++EX i++AI (j+k)),res++ź j (j+k),i,j+k,mg,ac,k)) (FZ a b mg ac k (res++ź j (j+k)) i (j+k))) (FZ a b mg ac k res i j):am5 GS)
 |_=>tP (è (res++EX i++AI j),res,i,j,mg,ac,bc)
def lo2(a b:Ú)(mg ac bc:Nat)(res:Ú)(i j:Nat):am5 GS:=do
 let y <- aw2 b j
 if PH (j+1) b.size then tP (è (ω y++EX i++AI (j+1)),ω y,i,j+1,mg,ac,bc)
 else Nx a b mg ac bc (ω y) i (j+1)
def lo1(a b:Ú)(mg ac bc:Nat)(res:Ú)(i j:Nat):am5 GS:=do
 vc mg
 let y <- aw2 b j
 let z <- gal false y a i (aE3 i) 0
 match z with
 |some k=>(if k > 0 then (if cw4 (i+k+1) then tP (è (res++ř i (i+k)++AI j++EX (i+k)),res++ř i (i+k),i+k,j,mg,k,bc)
   else if cw4 (i+k) then tP (è (res++ř i (i+k)++EX (i+k)++AI j),res++ř i (i+k),i+k,j,mg,k,bc)
   else lo2 a b mg k bc (res++ř i (i+k)) (i+k) j)else lo2 a b mg k bc res i j:am5 GS)
 |_=>tP (è (res++EX i++AI j),res,i,j,mg,ac,bc)
abbrev GF:=cQ0 × Ú × Nat × Nat × Nat × Nat
abbrev GB:=cQ0 × Ú × Nat × Nat × Nat
def Nv(a b:Ú)(mg ac bc:Nat)(res:Ú)(i j:Nat):am5 GF:=do
 let x <- aw2 b j
 let y <- aw2 a i
 let z <- lt' x y
 match z with
 |some c=>(if Ĝ c then (do
   let w <- aw2 b j
   if PH (j+1) b.size then tP (è (cj8++EX i++AI (j+1)),cj8,i,j+1,0,bc+1)
   else if GE.ge (bc+1) mg then tP (none,cj8,i,j+1,0,bc+1)else cz2 (none,cj8,i,j+1,0,bc+1))
  else (do
   let w <- aw2 a i
   if cw4 (i+1+1) then tP (è (cj8++AI j++EX (i+1)),cj8,i+1,j,ac+1,0)
   else if GE.ge (ac+1) mg then tP (none,cj8,i+1,j,ac+1,0)else cz2 (none,cj8,i+1,j,ac+1,0)):am5 GF)
 |_=>tP (è (res++EX i++AI j),res,i,j,ac,bc)
def Qna(a b:Ú):FQ a b=(do
    rule "list.sort.merge-lo"
    let w <- aw2 b 0
    if PH 1 b.size then Ô (#[w]++EX 0++AI 1)
    else if cw4 (0+1) then Ô (#[w]++AI 1++EX 0)
    else do
      let g <- get
      let s <- forIn [0:a.size+b.size] ((none,#[w],0,1,gallopOf g):GB) λ_ s=>do
        let c <- forIn [0:a.size+b.size] ((none,s.2.1,s.2.2.1,s.2.2.2.1,0,0):GF) λ_ c=>Nv a b s.2.2.2.2 c.2.2.2.2.1 c.2.2.2.2.2 c.2.1 c.2.2.1 c.2.2.2.1
        match c.1 with
        |some r=>tP (è r,c.2.1,c.2.2.1,c.2.2.2.1,s.2.2.2.2)
        |none=>do
          bW9
          let d <- forIn [0:a.size+b.size] ((none,c.2.1,c.2.2.1,c.2.2.2.1,s.2.2.2.2+1,c.2.2.2.2.1,c.2.2.2.2.2):GS) λ_ d=>É (d.2.2.2.2.1 > 1) (lo1 a b (d.2.2.2.2.1-1) d.2.2.2.2.2.1 d.2.2.2.2.2.2 d.2.1 d.2.2.1 d.2.2.2.1) (lo1 a b d.2.2.2.2.1 d.2.2.2.2.2.1 d.2.2.2.2.2.2 d.2.1 d.2.2.1 d.2.2.2.1)
          match d.1 with
          |some r=>tP (è r,d.2.1,d.2.2.1,d.2.2.2.1,d.2.2.2.2.1)
          |none=>do
            vc (d.2.2.2.2.1+1)
            cz2 (none,d.2.1,d.2.2.1,d.2.2.2.1,d.2.2.2.2.1+1)
      match s.1 with
      |some r=>Ô r
      |none=>am2):=bH4
section
variable{a b res:Ú}{i j k:Nat}
def XR(a:Ú)(i:Nat):iF (EX i)=AL:=by simp[Array.toList_extract,List.extract_eq_take_drop];exact Ch Ê
def uS(a:Ú)(i k:Nat):iF (ř i (i+k))=EH AL k:=bT2
def Yk(a:Ú){i:Nat}(h:av0 i):EH AL 1=[a[i]]:=Ŷ (Bi (Ä h))
def jN{x:Keyed}(h:x∈EH AL k):∃t,t<k/\∃q:av0 (i+t),x=a[i+t]:=by
 obtain⟨t,c,e⟩:=aa3;have h1:t<k:=aO8
 have h2:av0 (i+t):=aO8
 exact Nc t h1 h2 (bH5 e C1)
def Ub{x:Keyed}(h:x∈AL):∃t,i<=t/\∃q:av0 t,x=a[t]:=by
 obtain⟨t,c,e⟩:=aa3;have h2:av0 (i+t):=aT8 c
 exact Nc (i+t) À h2 (by rw[<- e];simp[List.getElem_drop])
def zL(h:cU5){s t:Nat}(c:s<=t)(e:av0 t):Λ (a[s]' À)<=Λ a[t]:=by
 rcases Bh s t with q|q
 ·have:=Cq.mp h s t č cr9 q;simpa using this
 ·have:s=t:=À
  subst this;exact am3
def vn(h:cU5){s t:Nat}(c:s<=t)(e:av0 t):eD a s<=eD a t:=eI (JH a À) (JH a e) (zL h c e)
#where
structure Two(C:cV)(a b:Ú):Û where
 sa:cU5
 sb:EQ b.toList
 ma:∀p∈a.toList,cL9
 mb:∀p∈b.toList,cL9
 na:bU2 1
 nb:cH5 1
 first:∀y∈a.toList,∀x∈bg8 1,cj7<=cD6
 last:∀x∈a.toList.drop aE4,∀y∈b.toList,cD6<=cj7
section
variable{a b:Ú}{st₀:SortSt}{n0:Nat}
def oK(C:cV)(a b:Ú)(st₀:SortSt)(r:cQ0)(c:SortSt):Û:=ND c/\∃x,r>=x/\Fin C a.toList b.toList x.toList
def oO(C:cV)(a b:Ú)(st₀:SortSt)(n0:Nat)(r:cQ0)(res:Ú)(i j:Nat)(c:SortSt):Û:=ND c/\Ū r/\aX7 C i j/\av0 (i+1)/\j<b.size/\n0<i+j
def Dw(C:cV)(a b:Ú)(st₀:SortSt)(n0:Nat)(r:ForInStep GS)(e:SortSt):Û:=match r with
 |.done c=>oK C a b st₀ c.1 e∨oO C a b st₀ n0 c.1 c.2.1 c.2.2.1 c.2.2.2.1 e
 |.yield c=>oO C a b st₀ n0 c.1 c.2.1 c.2.2.1 c.2.2.2.1 e
variable{mg ac bc i j:Nat}{res:Ú}{st:SortSt}
def Pz(T:cM4)(f:cV3)(m:aX7 C i j)(hi:av0 (i+1))(l:j<b.size)(o:n0<=i+j)(h:∀y∈cM5 j,Λ (a[i]' À)<=cD6):W C (FZ a b mg ac bc res i j) (Dw C a b st₀ n0) st:=by
 have c:av0 i:=À
 refine cu8 c;have e:=m.cZ T.sa 1 (λ x hx y n=>bH6 (Yk a c) hx hx (h y n));rw[Yk a c,<- Array.toList_push]at e;by_cases q:i+1+1=a.size
 ·rw[qs q];refine bO0 f;rw[Ag,Ag,XR,XR];exact e.iM T.sa T.sb bj4 bc9
 ·rw[sk q];have g:oO C a b st₀ n0 none (ω a[i]) (i+1) j st:=⟨f,rfl,e,À,l,À⟩;split
  ·exact cM0 g
  ·exact Ek g
def QoC(T:cM4)(u:cd3=C.kd)(h:cV3)(m:aX7 C i j)(hi:av0 (i+1))(r:j<b.size)(v:n0<=i+j):W C (Nx a b mg ac bc res i j) (Dw C a b st₀ n0) st:=by
 have f:av0 i:=À
 refine cu9 f (qB (λ t=>AN (eD b (j+t)) (Λ a[i])) u (T.ma _ Ê) T.mb À À bO3 (TZ s t h1 h2 h3) (nL k h1 h2 h3))
 ·exact Em (aO9 (vn T.sb À À) h3)
 ·dsimp only;have z:∀x∈EH (cM5 j) k,cj7<Λ a[i]:=λ x hx=>by
   obtain⟨t,e,q,rfl⟩:=jN hx;have:=Eo (h2 t e)
   rwa [JH b q]at this
  have o:=m.cY T.sb k (λ x hx y l=>by obtain⟨t,e,q,rfl⟩:=Ub l;have:=z x hx;have:=zL T.sa e q;lia)
  have n:∀y∈cM5 (j+k),Λ a[i]<=cD6:=λ y l=>by obtain⟨t,e,q,rfl⟩:=Ub l;have:=bs2 (h3 (t-j) À À);rw[ð (j+(t-j)=t),JH b q]at this;lia
  by_cases c:k > 0
  ·rw[Eh c];by_cases q:j+k=b.size
   ·rw[qs q];refine bO0 h;rw[Ag,Ag,Ag,XR,XR,uS];exact o.lu T.sa č
   ·rw[sk q];refine Pz T h ?_ hi À À n;rw[Ag,uS];exact o
  ·rw[Eg c];have:k=0:=À
   subst this;exact Pz T h m hi r v n
def PB(T:cM4)(l:cd3=C.kd)(f:cV3)(m:aX7 C i j)(hi:av0 (i+1))(c:j<b.size)(o:n0<=i+j)(h:∀y∈AL,Λ b[j]<=cD6):W C (lo2 a b mg ac bc res i j) (Dw C a b st₀ n0) st:=by
 refine cu8 c;have e:=m.cY T.sb 1 (λ x hx y n=>bH6 (Yk b c) hx hx (h y n));rw[Yk b c,<- Array.toList_push]at e;by_cases q:j+1=b.size
 ·rw[qs q];refine bO0 f;rw[Ag,Ag,XR,XR];exact e.lu T.sa č
 ·rw[sk q];exact QoC T l f e hi À À
def QoB(T:cM4)(v:wn st₀=C.kd)(e:cV3)(m:aX7 C i j)(hi:av0 (i+1))(l:j<b.size)(z:n0<=i+j):W C (lo1 a b mg ac bc res i j) (Dw C a b st₀ n0) st:=by
 refine Ej (Vv e (Ź st e));have c:cd3=C.kd:=å e.1 v;refine cu9 l (qB (λ t=>mP (AN (Λ b[j]) (eD a (i+t)))) c (T.mb _ Ê) T.ma À À bO3 (TZ s t h1 h2 h3) (nL k h1 h2 h3))
 ·have q:=vn T.sa (ð (i+s<=i+t)) À;simp only[Cr,decide_eq_false_iff_not]at h3 ⊢;lia
 ·dsimp only;have F:∀x∈EH AL k,cj7<=Λ b[j]:=λ x hx=>by obtain⟨t,h,q,rfl⟩:=jN hx;have:=h2 t h;simp only[Cr,decide_eq_false_iff_not]at this;rw[JH a q]at this;lia
  have o:=m.cZ T.sa k (λ x hx y n=>by obtain⟨t,h,q,rfl⟩:=Ub n;have:=F x hx;have:=zL T.sb h q;lia)
  have r:∀y∈a.toList.drop (i+k),Λ b[j]<=cD6:=λ y n=>by obtain⟨t,h,q,rfl⟩:=Ub n;have:=h3 (t-i) À À;simp only[Bool.not_eq_false',decide_eq_true_eq]at this;rw[ð (i+(t-i)=t),JH a q]at this;lia
  by_cases f:k > 0
  ·rw[Eh f];by_cases q:i+k+1=a.size
   ·rw[qs q];refine bO0 e;rw[Ag,Ag,Ag,XR,XR,uS];exact o.iM T.sa T.sb bj4 bc9
   ·rw[sk q];by_cases u:i+k=a.size
    ·rw[qs u];refine bO0 e;rw[Ag,Ag,Ag,XR,XR,uS];exact o.lA T.sb č
    ·rw[sk u];refine PB T c e ?_ À l À r;rw[Ag,uS];exact o
  ·rw[Eg f];have:k=0:=À
   subst this;exact PB T c e m hi l z r
#where
variable{C:cV}{a b:Ú}
def RF(T:cM4):aX6 C [b[0]' T.nb] 0 1:=by have m:aX6 C [] 0 0:=da Ê List.Pairwise.nil (λ x hx=>c9 hx);have:=m.cY T.sb 1 (λ x hx y c=>T.first y (Ä c) x (Ä hx));rw[Yk b T.nb]at this;simpa using this
def N_{α β γ δ:re}{P:α->β->γ->Δ δ}{G:Û}(k:∀a b c d,P a b c d->G):(∃a b c d,P a b c d)->G:=λ⟨a,b,c,d,h⟩=>k a b c d h
def BZ{α β γ δ ε:re}{P:α->β->γ->δ->Δ ε}{G:Û}(k:∀a b c d e,P a b c d e->G):(∃a b c d e,P a b c d e)->G:=λ⟨a,b,c,d,e,h⟩=>k a b c d e h
def BX{α β γ δ ε ζ:re}{P:α->β->γ->δ->ε->Δ ζ}{G:Û}(k:∀a b c d e f,P a b c d e f->G):(∃a b c d e f,P a b c d e f)->G:=λ⟨a,b,c,d,e,f,h⟩=>k a b c d e f h
def QoF{u:SortSt}{Q:Ú->oy}(T:cM4)(hk:wn u=C.kd)(h:∀r n,Sm u n->Fin C a.toList b.toList r.toList->Q r n):W C (FQ a b) Q u:=by
  have na:=T.na;have nb:=T.nb;have m0:=RF T;rw[Qna];refine cM1 (cu8 T.nb);by_cases q:1=b.size
  . rw[qs q]
    refine Ek (h _ u ar5 ?_);rw[Ag,Ag,XR,XR];exact m0.lu T.sa č
  rw[sk q];by_cases q:0+1=a.size
  . rw[qs q]
    refine Ek (h _ u ar5 ?_);rw[Ag,Ag,XR,XR];exact m0.iM T.sa T.sb bj4 bc9
  rw[sk q];refine cd1;refine Ej (rn I (λ x c n=>∃res i j mg,c=(none,res,i,j,mg)/\oO C a b u x none res i j n) Q (λ c n=>oK C a b u c.1 n) cp0 ? fin ⟨_,_,_,_,rfl,ar5,rfl,m0,À,À,À⟩ cp1)
  case post =>
    rintro⟨O,P⟩ n ⟨l,x,rfl,hf⟩;exact Ek (h x n l hf)
  case fin =>
    rintro c n ⟨res,i,j,mg,rfl,l,_,m,h1,h2,h3⟩;lia
  case step =>
    intro x c n _ hx;refine N_ (TZ res i j mg z);have e:=z.1;subst e;have l:=OB.1;have m:=OE.1;have h1:=cl6;have h2:=cl7;have h3:=cl8;dsimp only;refine Ej (wpS_mono (wpS_forRange (I:=λ y c f=>∃res i j ac bc,c=(none,res,i,j,ac,bc)/\oO C a b u (x+y) none res i j f)
      (Q:=λ c f=>oK C a b u c.1 f∨∃res i j ac bc,c=(none,res,i,j,ac,bc)/\oO C a b u (x+1) none res i j f) ? step1 ? pJ ⟨_,_,_,_,_,rfl,l,rfl,m,h1,h2,h3⟩) ? lQ)
    case pJ =>
      rintro c f ⟨res,i,j,ac,bc,rfl,l,_,m,h1,h2,h3⟩;lia
    case step1 =>
      intro y c f _ U;refine BZ (bF5 res i j ac bc z);have e:=z.1;subst e;have l:=OB.1;have m:=OE.1;have h1:=cl6;have h2:=cl7;have h3:=cl8;dsimp only;have hi:av0 i:=À
      unfold Nv;refine rj h2 (cu9 hi (C.lt f _ _ _ (T.mb _ Ê) (T.ma _ Ê) (å l.1 hk) ?_));dsimp only;by_cases R:Λ b[j]<Λ a[i]
      . simp only[R,decide_true,if_true]
        refine cu8 h2;have L:=m.cY T.sb 1 (λ x hx y U=>ag6 (Yk b h2) hx hx t ht q rfl (Ub U) (zL T.sa ht q))
        rw[Yk b h2,<- Array.toList_push]at L;by_cases q:j+1=b.size
        . rw[qs q]
          refine bO0 l;rw[Ag,Ag,XR,XR];exact L.lu T.sa č
        . rw[sk q]
          split
          . exact cM0 ⟨_,_,_,_,_,rfl,l,rfl,L,h1,À,À⟩
          . exact Ek ⟨_,_,_,_,_,rfl,l,rfl,L,h1,À,À⟩
      . simp only[R,decide_false,Az,if_false]
        refine cu8 hi;have L:=m.cZ T.sa 1 (λ x hx y U=>ag6 (Yk a hi) hx hx t ht q rfl (Ub U) (zL T.sb ht q))
        rw[Yk a hi,<- Array.toList_push]at L;by_cases q:i+1+1=a.size
        . rw[qs q]
          refine bO0 l;rw[Ag,Ag,XR,XR];exact L.iM T.sa T.sb bj4 bc9
        . rw[sk q]
          split
          . exact cM0 ⟨_,_,_,_,_,rfl,l,rfl,L,À,h2,À⟩
          . exact Ek ⟨_,_,_,_,_,rfl,l,rfl,L,À,h2,À⟩
    case lQ =>
      intro c f z0;refine cB7 z0 (BZ (bF5 res i j ac bc z))
      . obtain⟨O,P⟩:=c
        obtain⟨l,r,F,hf⟩:=z0;simp only at F;subst F;exact Ek (Α l r hf)
      . have e:=z.1
        subst e;have l:=OB.1;have m:=OE.1;have h1:=cl6;have h2:=cl7;have h3:=cl8;dsimp only;refine cM1 ?_;refine Ej (wpS_mono (wpS_forRange (I:=λ y c o=>∃res i j mg ac bc,c=(none,res,i,j,mg,ac,bc)/\oO C a b u (x+1+y) none res i j o)
          (Q:=λ c o=>oK C a b u c.1 o∨∃res i j mg ac bc,c=(none,res,i,j,mg,ac,bc)/\oO C a b u (x+1) none res i j o) ? lH ? fin2 ⟨_,_,_,_,_,_,rfl,l,rfl,m,h1,h2,À⟩) ? post2)
        case fin2 =>
          rintro c o ⟨res,i,j,mg,ac,bc,rfl,l,_,m,h1,h2,h3⟩;lia
        case lH =>
          intro y c o _ U;refine BX λ res i j mg ac bc z=>?_;have e:=z.1;subst e;have l:=OB.1;have m:=OE.1;have h1:=cl6;have h2:=cl7;have h3:=cl8;dsimp only;have key:=λ mg=>QoB (mg:=mg) (ac:=ac) (bc:=bc) (n0:=x+1+(y+1)) T hk l m h1 h2 À;rcases Bh 1 mg with hm|hm
          . rw[Eh hm]
            refine bz8 (mg-1) ?_;intro r mD F;cases r with
            |done c =>
              obtain⟨O,P,X,Y,c5,c6,c7⟩:=c;rcases F with q|q
              . exact ê q
              . obtain⟨g1,g2,g3,g4,v,J⟩:=q
                simp only at g2 g3 g4 v J;subst g2;exact Ğ ⟨_,_,_,_,_,_,rfl,g1,rfl,g3,g4,v,À⟩
            |yield c=>obtain⟨O,P,X,Y,c5,c6,c7⟩:=c;obtain⟨g1,g2,g3,g4,v,J⟩:=F;simp only at g2 g3 g4 v J;subst g2;exact⟨_,_,_,_,_,_,rfl,g1,rfl,g3,g4,v,J⟩
          . rw[aE]
            refine bz8 mg ?_;intro r mD F;cases r with
            |done c =>
              obtain⟨O,P,X,Y,c5,c6,c7⟩:=c;rcases F with q|q
              . exact ê q
              . obtain⟨g1,g2,g3,g4,v,J⟩:=q
                simp only at g2 g3 g4 v J;subst g2;exact Ğ ⟨_,_,_,_,_,_,rfl,g1,rfl,g3,g4,v,À⟩
            |yield c=>obtain⟨O,P,X,Y,c5,c6,c7⟩:=c;obtain⟨g1,g2,g3,g4,v,J⟩:=F;simp only at g2 g3 g4 v J;subst g2;exact⟨_,_,_,_,_,_,rfl,g1,rfl,g3,g4,v,J⟩
        case post2 =>
          intro c o z0;refine cB7 z0 (BX λ res i j mg ac bc z=>?_)
          . obtain⟨O,P⟩:=c
            obtain⟨l,r,F,hf⟩:=z0;simp only at F;subst F;exact Ek (Α l r hf)
          . have e:=z.1
            subst e;have l:=OB.1;have m:=OE.1;have h1:=cl6;have h2:=cl7;have h3:=cl8;dsimp only;refine Ej (Vv l (Ź mD Hi));exact Ek ⟨_,_,_,_,rfl,Hi,rfl,m,h1,h2,h3⟩
variable{C:cV}
structure MH(C:cV)(A B R:ϭ)(p q:Nat):Û where
 perm:(rP++FS++R).Perm (A++B)
 eG:EQ R
 high:∀x∈rP++FS,∀y∈R,cj7<=cD6
section
variable{A B R:ϭ}{p q:Nat}
def kA(A:ϭ){p r:Nat}(h:r<=p):rP=A.take r++Na rP r:=by
 have:A.take r=EH rP r:=Ξ List.take_take (RI h)
 rw[this,Bz]
def MH.cZ(m:MH C A B R p q)(f:EQ A){r:Nat}(l:r<=p)(h:∀y∈Na rP r,∀x∈FS,cj7<=cD6):MH C A B (Na rP r++R) r q:=by
 have e:=kA A l;have hd:=f.take p;rw[e]at hd;obtain⟨_,_,h3⟩:=Bu.mp hd;have j:EQ (Na rP r):=Na (f.take p) r;have i:∀y∈Na rP r,y∈rP:=λ y c=>Cc c;generalize Na rP r=ch at e h h3 j i ⊢;refine da ?_ (j.app m.eG λ x hx y c=>cM6 (A7 _ (i x hx)) y c) (cU0 c)
 ·refine aq3 m.perm;rw[e];simp only[A8];refine ER ?_;rw[<- A8,<- A8];exact aj1
 ·rcases sN c with z|z
  ·rcases bx0 with w|w
   ·exact h3 x w y z
   ·exact h y z x w
  ·refine cM6 ?_ y z;rcases bx0 with w|w
   ·exact A7 _ (Å e (A7 _ w))
   ·exact bG1 w
def MH.cY(m:MH C A B R p q)(f:EQ B){r:Nat}(l:r<=q)(h:∀y∈Na FS r,∀x∈rP,cj7<=cD6):MH C A B (Na FS r++R) p r:=by
 have e:=kA B l;have hd:=f.take q;rw[e]at hd;obtain⟨_,_,h3⟩:=Bu.mp hd;have j:EQ (Na FS r):=Na (f.take q) r;have i:∀y∈Na FS r,y∈FS:=λ y c=>Cc c;generalize Na FS r=ch at e h h3 j i ⊢;refine da ?_ (j.app m.eG λ x hx y c=>cM6 (bG1 (i x hx)) y c) (cU0 c)
 ·have:=m.perm;rw[e]at this;simpa [A8]using this
 ·rcases sN c with z|z
  ·rcases bx0 with w|w
   ·exact h y z x w
   ·exact h3 x w y z
  ·refine cM6 ?_ y z;rcases bx0 with w|w
   ·exact A7 _ w
   ·exact bG1 (Å e (A7 _ w))
def MH.lA(m:MH C A B R p q)(hp:p=0)(c:EQ B):Fin C A B (rP++FS++R):=aE5 hp (Ĭ (Ä ((c.take q).app m.eG λ x hx y e=>cM6 (bG1 hx) y e)) m.perm)
def MH.lu(m:MH C A B R p q)(e:q=0)(c:EQ A):Fin C A B (rP++FS++R):=aE5 e (Ĭ (Ä ((c.take p).app m.eG λ x hx y f=>cM6 (A7 _ hx) y f)) m.perm)
def MH.fu(m:MH C A B R p q)(h:q=1)(e:EQ A)(f:EQ B)(hf:∀y∈A,∀x∈B.take 1,cj7<=cD6):Fin C A B (FS++rP++R):=by
 subst h;refine CB (((f.take 1).app (e.take p) λ x hx y c=>hf y (Bw c) x hx).app m.eG (cU0 c))
 ·refine cM6 ?_ y c;rcases bx0 with w|w
  ·exact bG1 w
  ·exact A7 _ w
 ·exact å aj1 m.perm
#where
abbrev HS:=cQ0 × Nat × Nat × Ú × Nat × Nat × Nat
def Hr(a b:Ú)(mg ac bc:Nat)(res:Ú)(p q:Nat):am5 HS:=do
 let x <- aw2 a (p-1)
 if PH (p-1) 0 then tP (è (ř 0 (p-1)++ź 0 q++Ix (ω x)),p-1,q,ω x,mg,ac,bc)
 else if Ĝ (AN ac 7&&AN bc 7) then tP (none,p-1,q,ω x,mg,ac,bc)else cz2 (none,p-1,q,ω x,mg,ac,bc)
def NQ(a b:Ú)(mg ac bc:Nat)(res:Ú)(p q:Nat):am5 HS:=do
 let y <- aw2 a (p-1)
 let z <- gal true y b 0 q (q-1)
 match z with
 |some t=>(if q-t > 0 then (if PH t 1 then tP (è (ź 0 t++ř 0 p++Ix (res++Ix (ź t q))),p,t,res++Ix (ź t q),mg,ac,q-t)
   else if PH t 0 then tP (è (ř 0 p++ź 0 t++Ix (res++Ix (ź t q))),p,t,res++Ix (ź t q),mg,ac,q-t)
   else Hr a b mg ac (q-t) (res++Ix (ź t q)) p t)else Hr a b mg ac (q-t) res p q:am5 HS)
 |_=>tP (è (ř 0 p++ź 0 q++res.reverse),p,q,res,mg,ac,bc)
def hi2(a b:Ú)(mg ac bc:Nat)(res:Ú)(p q:Nat):am5 HS:=do
 let y <- aw2 b (q-1)
 if PH (q-1) 1 then tP (è (ź 0 (q-1)++ř 0 p++Ix (ω y)),p,q-1,ω y,mg,ac,bc)
 else NQ a b mg ac bc (ω y) p (q-1)
def hi1(a b:Ú)(mg ac bc:Nat)(res:Ú)(p q:Nat):am5 HS:=do
 vc mg
 let y <- aw2 b (q-1)
 let z <- gal false y a 0 p (p-1)
 match z with
 |some t=>(if p-t > 0 then (if PH t 0 then tP (è (ř 0 t++ź 0 q++Ix (res++Ix (ř t p))),t,q,res++Ix (ř t p),mg,p-t,bc)
   else hi2 a b mg (p-t) bc (res++Ix (ř t p)) t q)else hi2 a b mg (p-t) bc res p q:am5 HS)
 |_=>tP (è (ř 0 p++ź 0 q++res.reverse),p,q,res,mg,ac,bc)
abbrev HF:=cQ0 × Nat × Nat × Ú × Nat × Nat
abbrev HB:=cQ0 × Nat × Nat × Ú × Nat
def NK(a b:Ú)(mg ac bc:Nat)(res:Ú)(p q:Nat):am5 HF:=do
 let x <- aw2 b (q-1)
 let y <- aw2 a (p-1)
 let z <- lt' x y
 match z with
 |some c=>(if Ĝ c then (do
   let w <- aw2 a (p-1)
   if PH (p-1) 0 then tP (è (ř 0 (p-1)++ź 0 q++Ix cj8),p-1,q,cj8,ac+1,0)
   else if GE.ge (ac+1) mg then tP (none,p-1,q,cj8,ac+1,0)else cz2 (none,p-1,q,cj8,ac+1,0))
  else (do
   let w <- aw2 b (q-1)
   if PH (q-1) 1 then tP (è (ź 0 (q-1)++ř 0 p++Ix cj8),p,q-1,cj8,0,bc+1)
   else if GE.ge (bc+1) mg then tP (none,p,q-1,cj8,0,bc+1)else cz2 (none,p,q-1,cj8,0,bc+1)):am5 HF)
 |_=>tP (è (ř 0 p++ź 0 q++res.reverse),p,q,res,ac,bc)
def Qm9(a b:Ú):FW a b=(do
    rule "list.sort.merge-hi"
    let w <- aw2 a aE4
    if PH aE4 0 then Ô (ř 0 aE4++AI 0 ++ Ix #[w])
    else if PH b.size 1 then Ô (AI 0++ř 0 aE4 ++ Ix #[w])
    else do
      let g <- get
      let s <- forIn [0:a.size+b.size] ((none,aE4,b.size,#[w],gallopOf g):HB) λ_ s=>do
        let c <- forIn [0:a.size+b.size] ((none,s.2.1,s.2.2.1,s.2.2.2.1,0,0):HF) λ_ c=>NK a b s.2.2.2.2 c.2.2.2.2.1 c.2.2.2.2.2 c.2.2.2.1 c.2.1 c.2.2.1
        match c.1 with
        |some r=>tP (è r,c.2.1,c.2.2.1,c.2.2.2.1,s.2.2.2.2)
        |none=>do
          bW9
          let d <- forIn [0:a.size+b.size] ((none,c.2.1,c.2.2.1,c.2.2.2.1,s.2.2.2.2+1,c.2.2.2.2.1,c.2.2.2.2.2):HS) λ_ d=>É (d.2.2.2.2.1 > 1) (hi1 a b (d.2.2.2.2.1-1) d.2.2.2.2.2.1 d.2.2.2.2.2.2 d.2.2.2.1 d.2.1 d.2.2.1) (hi1 a b d.2.2.2.2.1 d.2.2.2.2.2.1 d.2.2.2.2.2.2 d.2.2.2.1 d.2.1 d.2.2.1)
          match d.1 with
          |some r=>tP (è r,d.2.1,d.2.2.1,d.2.2.2.1,d.2.2.2.2.1)
          |none=>do
            vc (d.2.2.2.2.1+1)
            cz2 (none,d.2.1,d.2.2.1,d.2.2.2.1,d.2.2.2.2.1+1)
      match s.1 with
      |some r=>Ô r
      |none=>am2):=bH4
section
variable{a b res:Ú}{p q r:Nat}
def ja(a:Ú)(p:Nat):iF (ř 0 p)=IL p:=bT2
def RG(a:Ú)(r p:Nat):iF (ř r p)=Na (IL p) r:=bf8 Array.toList_extract List.extract_eq_take_drop List.drop_take
def Kx(x:Keyed):bo2 (ω x)=x::res.toList.reverse:=Ê
def Rr(ch:Ú):bo2 (res++ch.reverse)=ch.toList++res.toList.reverse:=Ê
def zM(a:Ú){p:Nat}(h0:1<=p)(h:bU2 p):Na (IL p) (p-1)=[a[p-1]' À]:=eI List.drop_take (ð (p-(p-1)=1)) (Yk a À)
def S8{x:Keyed}(h:x∈Na (IL p) r):∃t,r<=t/\t<p/\∃z:av0 t,x=a[t]:=by
 obtain⟨t,c,e⟩:=aa3;have h1:r+t<p/\av0 (r+t):=aO8
 exact⟨r+t,tj,h1.1,h1.2,bH5 e C1⟩
def Uc{x:Keyed}(h:x∈IL p):∃t,t<p/\∃z:av0 t,x=a[t]:=by
 obtain⟨t,c,e⟩:=aa3;have h1:t<p/\av0 t:=aT8 c
 exact Nc t h1.1 h1.2 (by rw[<- e];simp[C1])
#where
section
variable{a b:Ú}{st₀:SortSt}{n0:Nat}
def oM(C:cV)(a b:Ú)(st₀:SortSt)(n0:Nat)(r:cQ0)(res:Ú)(p q:Nat)(c:SortSt):Û:=ND c/\Ū r/\ce4 C p q/\(1<=p/\bU2 p)/\(2<=q/\cH5 q)/\n0+p+q<a.size+b.size
def Dv(C:cV)(a b:Ú)(st₀:SortSt)(n0:Nat)(r:ForInStep HS)(e:SortSt):Û:=match r with
 |.done c=>oK C a b st₀ c.1 e∨oM C a b st₀ n0 c.1 c.2.2.2.1 c.2.1 c.2.2.1 e
 |.yield c=>oM C a b st₀ n0 c.1 c.2.2.2.1 c.2.1 c.2.2.1 e
variable{mg ac bc p q:Nat}{res:Ú}{st:SortSt}
def PJ(T:cM4)(e:cV3)(m:ce4 C p q)(hp:1<=p/\bU2 p)(i:2<=q/\cH5 q)(j:n0+p+q<=a.size+b.size)(h:∀x∈bg8 q,cj7<=Λ (a[p-1]' À)):W C (Hr a b mg ac bc res p q) (Dv C a b st₀ n0) st:=by
 have hp':av0 (p-1):=À
 refine cu8 hp';have c:=m.cZ T.sa (r:=p-1) À (λ y f x hx=>bH6 (zM a hp.1 hp.2) f f (h x hx));rw[zM a hp.1 hp.2,List.singleton_append,<- Kx]at c;by_cases z:p-1=0
 ·rw[qs z];refine bO0 e;rw[Ag,Ag,ja,ja,Cd];exact c.lA z T.sb
 ·rw[sk z];have g:oM C a b st₀ n0 none (ω a[p-1]) (p-1) q st:=⟨e,rfl,c,À,i,À⟩;split
  ·exact cM0 g
  ·exact Ek g
def Qou(T:cM4)(o:cd3=C.kd)(f:cV3)(m:ce4 C p q)(hp:1<=p/\bU2 p)(F:2<=q/\cH5 q)(r:n0+p+q<=a.size+b.size):W C (NQ a b mg ac bc res p q) (Dv C a b st₀ n0) st:=by
 have hp':av0 (p-1):=À
 refine cu9 hp' (qB (λ t=>AN (eD b (0+t)) (Λ a[p-1])) o (T.ma _ Ê) T.mb À À bO3 (TZ s t h1 h2 h3) (nL t h1 h2 h3))
 ·exact Em (aO9 (vn T.sb À À) h3)
 ·dsimp only;have h:=m.cY T.sb h1 (λ y I x hx=>by obtain⟨u,i,j,z,rfl⟩:=S8 I;have e:=bs2 (h3 u i j);rw[C9,JH b z]at e;obtain⟨v,n,z2,rfl⟩:=Uc hx;have:=zL T.sa (ð (v<=p-1)) hp';lia)
  have l:∀x∈bg8 t,cj7<=Λ a[p-1]:=λ x hx=>by obtain⟨v,n,z2,rfl⟩:=Uc hx;have e:=Eo (h2 v n);rw[C9,JH b z2]at e;lia
  rw[<- RG,<- Rr]at h;by_cases c:q-t > 0
  ·rw[Eh c];by_cases z:t=1
   ·rw[qs z];refine bO0 f;rw[Ag,Ag,ja,ja,Cd];exact h.fu z T.sa T.sb T.first
   ·rw[sk z];by_cases z2:t=0
    ·rw[qs z2];refine bO0 f;rw[Ag,Ag,ja,ja,Cd];exact h.lu z2 T.sa
    ·rw[sk z2];exact PJ T f h hp À À l
  ·rw[Eg c];have:t=q:=À
   subst this;exact PJ T f m hp F r l
def PL(T:cM4)(l:cd3=C.kd)(h:cV3)(m:ce4 C p q)(hp:1<=p/\bU2 p)(f:2<=q/\cH5 q)(n:n0+p+q<=a.size+b.size)(j:∀x∈IL p,cj7<=Λ (b[q-1]' À)):W C (hi2 a b mg ac bc res p q) (Dv C a b st₀ n0) st:=by
 have c:q-1<b.size:=À
 refine cu8 c;have e:=m.cY T.sb (r:=q-1) À (λ y i x hx=>bH6 (zM b À f.2) i i (j x hx));rw[zM b À f.2,List.singleton_append,<- Kx]at e;by_cases z:q-1=1
 ·rw[qs z];refine bO0 h;rw[Ag,Ag,ja,ja,Cd];exact e.fu z T.sa T.sb T.first
 ·rw[sk z];exact Qou T l h e hp À À
def Qot(T:cM4)(I:wn st₀=C.kd)(f:cV3)(m:ce4 C p q)(hp:1<=p/\bU2 p)(r:2<=q/\cH5 q)(J:n0+p+q<=a.size+b.size):W C (hi1 a b mg ac bc res p q) (Dv C a b st₀ n0) st:=by
 refine Ej (Vv f (Ź st f));have c:cd3=C.kd:=å f.1 I;have i:q-1<b.size:=À
 refine cu9 i (qB (λ t=>mP (AN (Λ b[q-1]) (eD a (0+t)))) c (T.mb _ Ê) T.ma À À bO3 (TZ s t h1 h2 h3) (nL t h1 h2 h3))
 ·have e:=vn T.sa (ð (0+s<=0+t)) À;simp only[Cr,decide_eq_false_iff_not]at h3 ⊢;lia
 ·dsimp only;have n:=m.cZ T.sa h1 (λ y L x hx=>by obtain⟨u,j,l,z,rfl⟩:=S8 L;have e:=h3 u j l;simp only[Bool.not_eq_false',decide_eq_true_eq]at e;rw[C9,JH a z]at e;obtain⟨v,F,z2,rfl⟩:=Uc hx;have:=zL T.sb (ð (v<=q-1)) i;lia)
  have o:∀x∈IL t,cj7<=Λ b[q-1]:=λ x hx=>by obtain⟨v,F,z2,rfl⟩:=Uc hx;have e:=h2 v F;simp only[Cr,decide_eq_false_iff_not]at e;rw[C9,JH a z2]at e;lia
  rw[<- RG,<- Rr]at n;by_cases h:p-t > 0
  ·rw[cH1];by_cases z:t=0
   ·rw[qs z];refine bO0 f;rw[Ag,Ag,ja,ja,Cd];exact n.lA z T.sb
   ·rw[sk z];exact PL T c f n À r À o
  ·rw[Eg h];have:t=p:=À
   subst this;exact PL T c f m hp r J o
def RH(T:cM4):MH C a.toList b.toList [a[aE4]'(Ě T.na)] aE4 b.size:=by have na:=T.na;have e:IL a.size=a.toList:=Ch Ê;have f:bg8 b.size=b.toList:=Ch Ê;have m:MH C a.toList b.toList [] a.size b.size:=da (bf8 e f Br) List.Pairwise.nil (λ x hx y c=>c9 c);have:=m.cZ T.sa (r:=aE4) À (λ y c x hx=>T.last y (mE e c c) x (Bw hx));rw[zM a na ę]at this;simpa using this
def QoE{Q:Ú->oy}(T:cM4)(hk:cd3=C.kd)(h:∀r j,Sm st j->Fin C a.toList b.toList r.toList->Q r j):W C (FW a b) Q st:=by
  have na:=T.na;have nb:=T.nb;have m0:=RH T;have hl:av0 aE4:=À
  rw[Qm9];refine cM1 (cu8 hl);have m1:MH C a.toList b.toList (bo2 #[a[aE4]]) aE4 b.size:=m0;by_cases z:aE4=0
  . rw[qs z]
    refine Ek (h _ st ar5 ?_);rw[Ag,Ag,ja,ja,Cd];exact m1.lA z T.sb
  rw[sk z];by_cases z:b.size=1
  . rw[qs z]
    refine Ek (h _ st ar5 ?_);rw[Ag,Ag,ja,ja,Cd];exact m1.fu z T.sa T.sb T.first
  rw[sk z];refine cd1;refine Ej (rn I (λ x c j=>∃p q res mg,c=(none,p,q,res,mg)/\oM C a b st x none res p q j) Q (λ c j=>oK C a b st c.1 j) cp0 ? fin ⟨_,_,_,_,rfl,ar5,rfl,m1,À,À,À⟩ cp1)
  case post =>
    rintro⟨L,O⟩ j ⟨i,x,rfl,hf⟩;exact Ek (h x j i hf)
  case fin =>
    rintro c j ⟨p,q,res,mg,rfl,i,_,m,h1,h2,h3⟩;lia
  case step =>
    intro x c j _ hx;refine N_ (TZ p q res mg z);have e:=z.1;subst e;have i:=OB.1;have m:=OE.1;have h1:=cl6;have h2:=cl7;have h3:=cl8;dsimp only;refine Ej (wpS_mono (wpS_forRange (I:=λ y c f=>∃p q res ac bc,c=(none,p,q,res,ac,bc)/\oM C a b st (x+y) none res p q f)
      (Q:=λ c f=>oK C a b st c.1 f∨∃p q res ac bc,c=(none,p,q,res,ac,bc)/\oM C a b st (x+1) none res p q f) ? step1 ? pJ ⟨_,_,_,_,_,rfl,i,rfl,m,h1,h2,h3⟩) ? lQ)
    case pJ =>
      rintro c f ⟨p,q,res,ac,bc,rfl,i,_,m,h1,h2,h3⟩;lia
    case step1 =>
      intro y c f _ J;refine BZ (bF5 p q res ac bc z);have e:=z.1;subst e;have i:=OB.1;have m:=OE.1;have h1:=cl6;have h2:=cl7;have h3:=cl8;dsimp only;have hp':av0 (p-1):=À
      have F:q-1<b.size:=À
      unfold NK;refine rj F (cu9 hp' (C.lt f _ _ _ (T.mb _ Ê) (T.ma _ Ê) (å i.1 hk) ?_));dsimp only;by_cases P:Λ b[q-1]<Λ a[p-1]
      . simp only[P,decide_true,if_true]
        refine cu8 hp';have u:=m.cZ T.sa (r:=p-1) À (λ y J x hx=>ag6 (zM a h1.1 h1.2) J J v hv z2 rfl (Uc hx) (zL T.sb (ð (v<=q-1)) F))
        rw[zM a h1.1 h1.2,List.singleton_append,<- Kx]at u;by_cases z:p-1=0
        . rw[qs z]
          refine bO0 i;rw[Ag,Ag,ja,ja,Cd];exact u.lA z T.sb
        . rw[sk z]
          split
          . exact cM0 ⟨_,_,_,_,_,rfl,i,rfl,u,À,h2,À⟩
          . exact Ek ⟨_,_,_,_,_,rfl,i,rfl,u,À,h2,À⟩
      . simp only[P,decide_false,Az,if_false]
        refine cu8 F;have u:=m.cY T.sb (r:=q-1) À (λ y J x hx=>ag6 (zM b À h2.2) J J v hv z2 rfl (Uc hx) (zL T.sa (ð (v<=p-1)) hp'))
        rw[zM b À h2.2,List.singleton_append,<- Kx]at u;by_cases z:q-1=1
        . rw[qs z]
          refine bO0 i;rw[Ag,Ag,ja,ja,Cd];exact u.fu z T.sa T.sb T.first
        . rw[sk z]
          split
          . exact cM0 ⟨_,_,_,_,_,rfl,i,rfl,u,h1,À,À⟩
          . exact Ek ⟨_,_,_,_,_,rfl,i,rfl,u,h1,À,À⟩
    case lQ =>
      intro c f z0;refine cB7 z0 (BZ (bF5 p q res ac bc z))
      . obtain⟨L,O⟩:=c
        obtain⟨i,r,o,hf⟩:=z0;simp only at o;subst o;exact Ek (Α i r hf)
      . have e:=z.1
        subst e;have i:=OB.1;have m:=OE.1;have h1:=cl6;have h2:=cl7;have h3:=cl8;dsimp only;refine cM1 ?_;refine Ej (wpS_mono (wpS_forRange (I:=λ y c l=>∃p q res mg ac bc,c=(none,p,q,res,mg,ac,bc)/\oM C a b st (x+1+y) none res p q l)
          (Q:=λ c l=>oK C a b st c.1 l∨∃p q res mg ac bc,c=(none,p,q,res,mg,ac,bc)/\oM C a b st (x+1) none res p q l) ? lH ? fin2 ⟨_,_,_,_,_,_,rfl,i,rfl,m,h1,h2,À⟩) ? post2)
        case fin2 =>
          rintro c l ⟨p,q,res,mg,ac,bc,rfl,i,_,m,h1,h2,h3⟩;lia
        case lH =>
          intro y c l _ J;refine BX λ p q res mg ac bc z=>?_;have e:=z.1;subst e;have i:=OB.1;have m:=OE.1;have h1:=cl6;have h2:=cl7;have h3:=cl8;dsimp only;have key:=λ mg=>Qot (mg:=mg) (ac:=ac) (bc:=bc) (n0:=x+1+(y+1)) T hk i m h1 h2 À;rcases Bh 1 mg with hm|hm
          . rw[Eh hm]
            refine bz8 (mg-1) ?_;intro r mD o;cases r with
            |done c =>
              obtain⟨L,O,R,U,X,Y,c7⟩:=c;rcases o with z|z
              . exact ê z
              . obtain⟨g1,g2,g3,g4,n,t⟩:=z
                simp only at g2 g3 g4 n t;subst g2;exact Ğ ⟨_,_,_,_,_,_,rfl,g1,rfl,g3,g4,n,À⟩
            |yield c=>obtain⟨L,O,R,U,X,Y,c7⟩:=c;obtain⟨g1,g2,g3,g4,n,t⟩:=o;simp only at g2 g3 g4 n t;subst g2;exact⟨_,_,_,_,_,_,rfl,g1,rfl,g3,g4,n,t⟩
          . rw[aE]
            refine bz8 mg ?_;intro r mD o;cases r with
            |done c =>
              obtain⟨L,O,R,U,X,Y,c7⟩:=c;rcases o with z|z
              . exact ê z
              . obtain⟨g1,g2,g3,g4,n,t⟩:=z
                simp only at g2 g3 g4 n t;subst g2;exact Ğ ⟨_,_,_,_,_,_,rfl,g1,rfl,g3,g4,n,À⟩
            |yield c=>obtain⟨L,O,R,U,X,Y,c7⟩:=c;obtain⟨g1,g2,g3,g4,n,t⟩:=o;simp only at g2 g3 g4 n t;subst g2;exact⟨_,_,_,_,_,_,rfl,g1,rfl,g3,g4,n,t⟩
        case post2 =>
          intro c l z0;refine cB7 z0 (BX λ p q res mg ac bc z=>?_)
          . obtain⟨L,O⟩:=c
            obtain⟨i,r,o,hf⟩:=z0;simp only at o;subst o;exact Ek (Α i r hf)
          . have e:=z.1
            subst e;have i:=OB.1;have m:=OE.1;have h1:=cl6;have h2:=cl7;have h3:=cl8;dsimp only;refine Ej (Vv i (Ź mD Hi));exact Ek ⟨_,_,_,_,rfl,Hi,rfl,m,h1,h2,h3⟩
#where
variable{C:cV}
def seg(L:ϭ)(s n:Nat):ϭ:=EH (bs3 s) n
def Ys{L:ϭ}{s n:Nat}(h:s+n<=⇑L):⇑(iq s n)=n:=by simp[seg];lia
def gB(L:ϭ)(s n:Nat):L=L.take s++iq s n++bs3 (s+n):=by unfold seg;rw[A8,<- Cv,Bz,Bz]
def Ky(L:ϭ)(s n m:Nat):iq s (n+m)=iq s n++iq (s+n) m:=by unfold seg;rw[<- Cv,List.take_add]
def QlX{P M M' R:ϭ}{s n:Nat}(h:s+n<=bE4):bH7 (P++M++R) s=bH7 (P++M'++R) s:=by
 unfold seg;have:∀T:ϭ,EH (Na (P++T) s) n=EH (P.drop s) n:=λ T=>Ξ (List.drop_append_of_le_length À) (List.take_append_of_le_length č)
 rw[A8,A8,this,this]
def QjL{P M M' R:ϭ}{s n:Nat}(f:⇑M=⇑M')(h:bE4+⇑M<=s):bH7 (P++M++R) s=bH7 (P++M'++R) s:=by
 unfold seg;have e:∀T:ϭ,⇑T<=s->Na (T++R) s=R.drop (s-⇑T):=λ T c=>bf8 List.drop_append (Cm c) List.nil_append
 rw[e (P++M) (Ĵ An),e (P++M') (Ĵ An),An,An,f]
def QlW{P M R:ϭ}{s n:Nat}(h:s=bE4)(c:n=⇑M):bH7 (P++M++R) s=M:=by subst h c;unfold seg;rw[A8,List.drop_left,List.take_left]
def Fd{c:Ú}{s n i j:Nat}(h:EQ (bH8 s))(f:s+n<=c.size)(e:i<=j)(l:j<n):eD c (s+i)<=eD c (s+j):=by
 rcases Bh i j with q|q
 ·have o:⇑(bH8 s)=n:=Ys cs1;have:=Cq.mp h i j À À q;rw[JH c À,JH c À];simpa [seg,C1,List.getElem_drop]using this
 ·have:i=j:=À
  subst this;exact am3
def Ql1{c:Ú}{s n:Nat}(f:s+n<=c.size)(h:∀i j,i<=j->j<n->eD c (s+i)<=eD c (s+j)):EQ (bH8 s):=by refine Cq.mpr (TZ i j hi l e);have o:⇑(bH8 s)=n:=Ys cs1;have:=h i j À À;rw[JH c À,JH c À]at this;simpa [seg,C1,List.getElem_drop]using this
def Runs(C:cV)(L:ϭ):LB (Nat × Nat)->cd8 Nat
 | [],s,e=>s=e
 | (x,n,_)::r,s,e=>x=s/\1<=n/\EQ (iq s n)/\bz9 L r (s+n) e
def Runs.le:∀{r:LB (Nat × Nat)}{s e:Nat},bz9 L r s e->s+lc<=e
 | [],_,_,h=>by cases h;simp
 | (x,n,_)::r,s,e,⟨_,h1,_,h2⟩=>by have:=Runs.le h2;simp;lia
def Runs.congr:∀{r:LB (Nat × Nat)}{s e:Nat},bz9 L r s e->(∀a n,s<=a->a+n<=e->bH7 L' a=iq a n)->bz9 L' r s e
  | [],_,_,h,_=>h
  | (x,n,_)::r,s,e,⟨h0,h1,h2,h3⟩,q=>by have c:=h3.le;exact Nc h0 h1 (Å (q s n ę À) h2) (h3.congr λ a m i f=>q a m À f)
def Runs.app:∀{r c:LB (Nat × Nat)}{s e:Nat},bz9 L (r++c) s e↔∃m,bz9 L r s m/\bz9 L c m e
  | [],c,s,e=>cb0 h (ĸ s h) (λ⟨m,h1,h2⟩=>ac2 h1 h2)
  | (x,n,_)::r,c,s,e=>by
    constructor
    . rintro⟨h0,h1,h2,h3⟩
      obtain⟨m,q1,f⟩:=Runs.app.mp h3;exact da m (Nc h0 h1 h2 q1) f
    . rintro⟨m,⟨h0,h1,h2,h3⟩,q⟩
      exact Nc h0 h1 h2 (Runs.app.mpr (da m h3 q))
structure G(C:cV)(L0:ϭ)(st:SortSt)(lo:Nat):Û where
 kind:cd3=C.kd
 fine:ax8 st
 perm:aq6 P4 L0
 runs:bz9 (iF P4) (iF (ē st)) 0 lo
 le:lo<=tm st
def MO(c:Nat):∀(M:ϭ)(i:Nat)(f:Ú),c+i+⇑M<=f.size->iF ((M.zipIdx i).foldl (λ a x=>af4 (c+x.2) x) f)=ab4 c i++M++aB7 (c+i+⇑M)
  | [],i,f,h=>Ê
  |m::M,i,f,h=>by
    rw[List.zipIdx_cons,List.foldl_cons];have h':c+i<f.size:=aT8 h
    rw[MO c M (i+1) _ (by simp at h ⊢;lia)];have e:iF (f.setIfInBounds (c+i) m)=ab4 c i++m::aB7 (c+i+1):=bf8 Array.toList_setIfInBounds List.set_eq_take_append_cons_drop (qs h')
    have j:⇑(ab4 c i)=c+i:=č
    have l:EH (ab4 c i++m::aB7 (c+i+1)) (c+(i+1))=ab4 c i++[m]:=by rw[List.take_append,j,ð (c+(i+1)-(c+i)=1),Ch À];simp
    have n:Na (ab4 c i++m::aB7 (c+i+1)) (c+(i+1)+⇑M)=aB7 (c+i+⇑(m::M)):=by rw[List.drop_append,j,Cm À,ð (c+(i+1)+⇑M-(c+i)=⇑M+1)];simp[Cv];congr 1;lia
    show _=_;rw[e,l,n];simp
def Qm8(i:Nat):Nr i=(do
  let s <- get
  let (è (sa,na,pw),è (sb,nb,_)):=(ŵ (ē s),(ē s)[i+1]?)|unsupported "internal:list.sort.pending"
  set (cp3 s (Nb (aq7 (ē s) i (sa,na+nb,pw)) (i+1)))
  let è k <- gal false (<- aw2 bB2 sb) bB2 sa na 0|return false
  let (sa,na):=(sa+k,na-k)
  if na==0 then return true
  let è nb <- gal true (<- aw2 bB2 (sa+na-1)) bB2 sb nb (nb-1)|return false
  if nb==0 then return true
  let x:=bE2 bB2 sa sb
  let y:=bE2 bB2 sb (sb+nb)
  let both <- if na<=nb then FQ x y else FW x y
  modify λ s=>setArr s (both.toList.zipIdx.foldl (λ a x=>af4 (sa+x.2) x) bB2)
  return (ld (<- get)).isNone):=rfl
def RD(a:Ú)(s n:Nat):iF (ř s (s+n))=bH7 a.toList s:=uS a s n
def Qkk{σ:re}{s' c:σ}{Q:PUnit->Δ σ}(h:Q ⟨⟩ s'):W C (set s':StateT σ Sem PUnit) Q c:=by show wpS _ _ _ _ _ Q c;unfold wpS;rw[StateT.run_set];exact Ei (Ť h)
def Py{L0:ϭ}{c:SortSt}{lo i:Nat}{Q:bD6 oy}(hS:∀p∈L0,cL9)(g:G C L0 c lo)(hi:i+1<oa c)(h:∀j,G C L0 j lo->oa j+1=oa c->PK (ü j) lo=PK fx lo->Q true j):W C (Nr i) Q c:=by
 have pC:∀p∈iF fx,cL9:=λ p hp=>hS p bQ4;have e1:dC AR AR[i]:=bs1 _ i À;have e2:AR[i+1]?>=AR[i+1]:=bs1 _ (i+1) hi;obtain⟨⟨sa,na,pw⟩,ea⟩:∃x,AR[i]=x:=aU3;obtain⟨⟨sb,nb,Re⟩,eb⟩:∃x,AR[i+1]=x:=aU3;rw[ea]at e1;rw[eb]at e2;have split:iF AR=(AR).toList.take i++(sa,na,pw)::(sb,nb,Re)::PK AR (i+2):=by
  have l1:i<aw3 AR:=č
  have l2:i+1<aw3 AR:=aI7
  conv=>lhs;rw[<- Bz i (iF AR),Bi l1,Bi l2]
  simp[ea,eb]
 have O1:iF (Nb (aq7 AR i (sa,na+nb,pw)) (i+1))=(AR).toList.take i++(sa,na+nb,pw)::PK AR (i+2):=by
  have l1:i<aw3 AR:=č
  have:∀(x:Array (Nat × Nat × Nat)) k,iF (x.eraseIdxIfInBounds k)=x.toList.eraseIdx k:=λ x k=>by
   have e:x=x.toList.toArray:=Ê
   conv=>lhs;rw[e,List.eraseIdxIfInBounds_toArray]
  rw[this,Array.toList_setIfInBounds,List.set_eq_take_append_cons_drop,Eh l1];have l3:⇑((AR).toList.take i)=i:=č
  rw[List.eraseIdx_append_of_length_le À,l3,ð (i+1-i=1)];rw[Bi aI7];rfl
 have r:=g.runs;rw[split]at r;obtain⟨m,r1,⟨am,bq,sA,ay,br,sB,r2⟩⟩:=Runs.app.mp r;subst am ay;have bh:=r2.le;have hsz:=g.le;have be:aw3 fx=(fx).size:=Ê
 have bu:=r1.le;generalize F:iF fx=L at *;have done:∀(j:SortSt)(M:ϭ),wn j=wn c->ld j=ld c->ē j=Nb (aq7 AR i (sa,na+nb,pw)) (i+1)->iF (ü j)=bg9++M++bs3 (sa+(na+nb))->EQ M->M.Perm (cu4 na++iq (sa+na) nb)->Q true j:=by
  intro j M q1 q2 q3 q4 q5 q6;have hM:⇑M=na+nb:=by rw[q6.length_eq,An,Ys À,Ys À]
  have hT:⇑bg9=sa:=č
  have pI:=gB L sa (na+nb);have mU:⇑(cu4 (na+nb))=⇑M:=Ξ (Ys À) hM
  refine h j ⟨q1.trans g.kind,q2.trans g.fine,?_,?_,?_⟩ ?_ ?_
  ·rw[q4];refine aq3 (Ý (L.Perm L0) (F▸g.perm))
   conv=>rhs;rw[pI,Ky]
   exact CA (ER q6)
  ·rw[q3,O1,q4];refine Runs.app.mpr (bU4 sa (r1.congr (nL a n ha hn)) À ?_ ?_)
   ·conv=>rhs;rw[pI]
    exact QlX (Ĵ hT)
   ·rw[QlW hT.symm hM.symm];exact q5
   ·have ba:bz9 L (PK AR (i+2)) (sa+(na+nb)) lo:=æ Nat.add_assoc r2
    refine ba.congr (nL a n ha hn)
    conv=>rhs;rw[pI]
    exact QjL mU.symm (OQ hT hM)
  ·have:tm j=(fx).size:=by have e:=ab8 q4;rw[An,An,hM,hT,Bp]at e;rw[<- Ci,e];lia
   lia
  ·have e:=ab8 O1;rw[<- q3]at e;have e0:=ab8 split;simp at e e0;lia
  ·have d:bs3 lo=Na (bs3 (sa+(na+nb))) (lo-(sa+(na+nb))):=by rw[Cv];congr 1;lia
   have hl:⇑(bg9++M)=sa+(na+nb):=bf8 An hT hM
   rw[q4,d,List.drop_append,hl,List.drop_eq_nil_of_le (Ĵ hl),List.nil_append]
 rw[Qm8];refine cd1;simp only[e1,e2];refine Ej (Qkk ?_);have kd:wn (cp3 c (Nb (aq7 AR i (sa,na+nb,pw)) (i+1)))=C.kd:=g.kind;generalize O:cp3 c (Nb (aq7 AR i (sa,na+nb,pw)) (i+1))=u at kd;have U:wn u=wn c:=aB8
 have BW:ld u=ld c:=aB8
 have Hv:ē u=Nb (aq7 AR i (sa,na+nb,pw)) (i+1):=aB8
 have N5:ü u=fx:=aB8
 have X:sa+na<(fx).size:=À
 have M8:EQ (seg (iF fx) sa na):=Å F sA
 have M7:EQ (seg (iF fx) (sa+na) nb):=Å F sB
 have iK:∀p∈iF fx,cL9:=Å F pC
 have b0:∀y∈iq (sa+na) nb,Λ fx[sa+na]<=cD6:=λ y o=>by rw[<- F]at o;obtain⟨t,R,z,rfl⟩:=jN o;have:=Fd M7 À (Be t) R;rw[Nat.add_zero,JH _ X,JH _ z]at this;exact this
 refine cu9 X (qB (λ t=>mP (AN (Λ fx[sa+na]) (eD fx (sa+t)))) kd (iK _ Ê) iK À À bO3 (TZ s t h1 h2 h3) (nL k h1 h2 h3))
 ·have q:=Fd M8 À h1 h2;simp only[Cr,decide_eq_false_iff_not]at h3 ⊢;lia
 dsimp only;have A1:∀x∈cu4 k,cj7<=Λ fx[sa+na]:=λ x hx=>by rw[<- F]at hx;obtain⟨t,R,z,rfl⟩:=jN hx;have e:=h2 t R;simp only[Cr,decide_eq_false_iff_not]at e;rw[JH _ z]at e;lia
 have A2:∀x∈iq (sa+k) (na-k),Λ fx[sa+na]<cj7:=λ x hx=>by rw[<- F]at hx;obtain⟨t,R,z,rfl⟩:=jN hx;have e:=h3 (k+t) À À;simp only[Bool.not_eq_false',decide_eq_true_eq]at e;rw[<- Nat.add_assoc,JH _ z]at e;exact e
 have eA:cu4 na=cu4 k++iq (sa+k) (na-k):=an9 Ky (ð (k+(na-k)=na))
 have same:iF (ü u)=bg9++(cu4 na++iq (sa+na) nb)++bs3 (sa+(na+nb)):=by rw[N5,F,<- Ky];exact gB L sa (na+nb)
 by_cases hz:na-k=0
 ·rw[qs hz];have ae:k=na:=À
  subst ae;exact Ek (done u _ U BW Hv same (sA.app sB λ x hx y o=>C5 (A1 x hx) (b0 y o)) Iy)
 rw[sk hz];have I:sa+k+(na-k)-1<(fx).size:=À
 have Hz:sa+k+(na-k)-1=sa+(na-1):=À
 have kl:∀x∈cu4 na,cj7<=Λ (fx[sa+k+(na-k)-1]' I):=λ x hx=>by rw[<- F]at hx;obtain⟨t,R,z,rfl⟩:=jN hx;have e:=Fd M8 À (ð (t<=na-1)) À;rw[JH _ z,<- Hz,JH _ I]at e;exact e
 refine cu9 I (qB (λ t=>AN (eD fx (sa+na+t)) (Λ (fx[sa+k+(na-k)-1]' I))) kd (iK _ Ê) iK À À bO3 (TZ s t h1 h2 h3) (nL f g1 g2 g3))
 ·exact Em (aO9 (Fd M7 À h1 h2) h3)
 dsimp only;generalize ad:Λ (fx[sa+k+(na-k)-1]' I)=al at kl g2 g3;have B1:∀y∈iq (sa+na) f,cD6<al:=λ y o=>by
  rw[<- F]at o;obtain⟨t,R,z,rfl⟩:=jN o;have e:=Eo (g2 t R)
  rwa [JH _ z]at e
 have B2:∀y∈iq (sa+na+f) (nb-f),al<=cD6:=λ y o=>by rw[<- F]at o;obtain⟨t,R,z,rfl⟩:=jN o;have e:=bs2 (g3 (f+t) À À);rw[<- Nat.add_assoc,JH _ z]at e;lia
 have eB:iq (sa+na) nb=iq (sa+na) f++iq (sa+na+f) (nb-f):=an9 Ky (ð (f+(nb-f)=nb))
 by_cases Y:f=0
 ·rw[qs Y];subst Y;refine Ek (done u _ U BW Hv same (sA.app sB (cU0 o)) Iy);exact C5 (kl x hx) (B2 y (Ä o))
 rw[sk Y];have ex:iF (bE2 fx (sa+k) (sa+na))=iq (sa+k) (na-k):=bf8 (ð (sa+na=sa+k+(na-k))) RD F
 have ey:iF (bE2 fx (sa+na) (sa+na+f))=iq (sa+na) f:=Ξ RD F
 have sx:(bE2 fx (sa+k) (sa+na)).size=na-k:=by rw[<- Ci,ex,Ys À]
 have sy:(bE2 fx (sa+na) (sa+na+f)).size=f:=by rw[<- Ci,ey,Ys À]
 have sX:EQ (iq (sa+k) (na-k)):=mE eA sA (Bu.mp sA).2.1
 have sY:EQ (iq (sa+na) f):=mE eB sB (Bu.mp sB).1
 have D5:EQ (iq (sa+na+f) (nb-f)):=mE eB sB (Bu.mp sB).2.1
 have D6:EQ (cu4 k):=mE eA sA (Bu.mp sA).1
 have rN:∀s n,∀p∈iq s n,p∈L:=λ s n p hp=>Cc (Bw hp);have T:cM2 (bE2 fx (sa+k) (sa+na)) (bE2 fx (sa+na) (sa+na+f)):=by
  refine⟨Å ex sX,Å ey sY,Å ex (λ p hp=>pC p (rN _ _ p hp)),Å ey (λ p hp=>pC p (rN _ _ p hp)),À,À,?_,?_⟩
  ·rw[ex,ey];intro y o x hx;have:x∈iq (sa+na) 1:=by
    unfold seg at hx ⊢;rw[List.take_take]at hx
    rwa [RI À]at hx
   rw[<- F]at this;have e:=Yk fx X;unfold seg at this;rw[e]at this;rw[Fs this];exact Cj (A2 y o)
  ·rw[ex,ey,sx];intro x hx y o;have P:x∈iq (sa+k+(na-k)-1) 1:=by
    unfold seg at hx ⊢;rw[List.drop_take,Cv,ð (na-k-(na-k-1)=1)]at hx
    rwa [ð (sa+k+(na-k)-1=sa+k+(na-k-1))]
   rw[<- F]at P;have e:=Yk fx I;unfold seg at P;rw[e]at P;rw[Fs P,ad];exact Cj (B1 y o)
 have a8:∀(r:Ú)(l:SortSt),Sm u l->Fin C (iF (bE2 fx (sa+k) (sa+na))) (iF (bE2 fx (sa+na) (sa+na+f))) r.toList->W C (do
   modify λ s=>setArr s (aw4 (λ a x=>af4 (sa+k+x.2) x) s)
   let __do_lift <- get
   Ô (ld __do_lift).isNone:aR1 Bool) Q l:=by
  intro r l J ⟨f1,f2⟩;rw[ex,ey]at f2;refine ak3 cd1;have hf:ax8 (setArr l (aw4 (λ a x=>af4 (sa+k+x.2) x) l)):=å (å J.2.2.2 BW) g.fine;rw[hf];have rl:⇑r.toList=na-k+f:=by rw[f2.length_eq,An,Ys À,Ys À]
  have a2:ü l=fx:=å J.2.1 N5;have tO:∀x∈r.toList,x∈iq (sa+k) (na-k)∨x∈iq (sa+na) f:=λ x hx=>sN (f2.mem_iff.mp hx);refine Ek (done _ (cu4 k++r.toList++iq (sa+na+f) (nb-f)) (å J.1 U) (å J.2.2.2 BW) (å J.2.2.1 Hv) ?_ ?_ ?_)
  ·show iF (aw4 (λ a x=>af4 (sa+k+x.2) x) l)=_;rw[a2,MO (sa+k) r.toList 0 fx (Ĵ rl),F,Nat.add_zero,rl];have t1:L.take (sa+k)=bg9++cu4 k:=Ż seg List.take_add
   have t2:bs3 (sa+k+(na-k+f))=iq (sa+na+f) (nb-f)++bs3 (sa+(na+nb)):=cL8 seg (ð (sa+k+(na-k+f)=sa+na+f)) (show bs3 (sa+(na+nb))=Na (bs3 (sa+na+f)) (nb-f)by rw[Cv];congr 1;lia) Bz
   rw[t1,t2];simp[A8]
  ·refine(D6.app f1 (cU0 o)).app D5 (cU0 o)
   ·rcases tO y o with w|w
    ·exact C5 (A1 x hx) (Cj (A2 y w))
    ·exact C5 (A1 x hx) (b0 y (Å eB (A7 _ w)))
   ·have a9:=B2 y o;rcases bx0 with w|w
    ·exact C5 (A1 x w) (b0 y (Å eB (bG1 o)))
    ·rcases tO x w with v|v
     ·exact C5 (kl x (Å eA (bG1 v))) a9
     ·exact Cj (Int.lt_of_lt_of_le (B1 x v) a9)
  ·rw[eA,eB];have:(cu4 k++r.toList++iq (sa+na+f) (nb-f)).Perm (cu4 k++(iq (sa+k) (na-k)++iq (sa+na) f)++iq (sa+na+f) (nb-f)):=CA (ER f2);simpa [A8]using this
 by_cases tX:na-k<=f
 ·rw[Eh tX];exact Ej (QoF T kd λ r l J hf=>a8 r l J hf)
 ·rw[Eg tX];exact Ej (QoE T kd λ r l J hf=>a8 r l J hf)
variable{C:cV}
structure Bs(C:cV)(st₀ st:SortSt)(lo:Nat):Û where
 kind:cd3=C.kd
 fine:ax8 st
 pend:ē st=ē st₀
 perm:aq6 P4 (iF cQ7)
 low:∀i:Nat,i<lo->ŵ P4=ŵ cQ7
 mem:∀p∈iF cQ7,cL9
def SR(C:cV)(c:SortSt)(lo n:Nat):Û:=∀i j,i<=j->j<n->eD fx (lo+i)<=eD fx (lo+j)
def NI(C:cV)(c:SortSt)(lo n:Nat):Û:=∀i j,i<=j->j<n->eD fx (lo+j)<=eD fx (lo+i)
section
variable{st₀ st:SortSt}{lo n m:Nat}
def Bs.size(b:by2):tm st=cd2:=Ŭ b.perm.length_eq
def Bs.ok(b:by2):Ok C st:=da b.kind b.fine (λ p hp=>b.mem p (b.perm.mem_iff.mp hp))
def Bs.set(b:by2){xs:Ú}(hp:xs.Perm P4)(c:∀i:Nat,i<lo->ŵ xs=ŵ P4):ba4 (cp4 xs) :=
 ⟨b.kind,b.fine,b.pend,å (Array.perm_iff_toList_perm.mp hp) b.perm,λ i h=>å (c i h) (b.low i h),b.mem⟩
def wM{xs ys:Ú}{i j:Nat}(h:ŵ xs=ys[j]?):eD xs i=eD ys j:=Ż kx h
def V8{xs:Ú}{i j:Nat}(c:j<=xs.size)(k:Nat):eD (mirror xs i j ((j-i) / 2)) k=É (i<=k/\k<j) (eD xs (i+j-1-k)) (eD xs k):=by
 have e:=getElem?_mirror_all (i:=i) c k;split at e<;>rename_i q
 ·rw[Eh q];exact wM e
 ·rw[Eg q];exact wM e
def Bs.mirror(b:by2){i j:Nat}(hi:lo<=i)(c:j<=tm st):ba4 (cp4 (mirror P4 i j ((j-i) / 2))) :=
 b.set (mirror_perm _ _ _ _) λ k e=>Ξ (getElem?_mirror_all c) aE
def kZ{xs:Ú}{i j:Nat}(e:j<=xs.size)(c:∀k,i<=k->k<j->eD xs k=eD xs (j-1))(k:Nat):eD (mirror xs i j ((j-i) / 2)) k=eD xs k:=by
 rw[V8 e];split
 ·rename_i q;rw[c (i+j-1-k) À À,c k q.1 q.2]
 ·rfl
def Dq{i j:Nat}{Q:ck9 oy}(h:Q () (cp4 (mirror P4 i j ((j-i) / 2)))):W C (bH9 i j) Q st:=Å reverseSlice'_eq (wpS_modify h)
def Iw(lo n c:Nat):aR1 wd:=do
 bH9 lo (lo+n)
 let mut m:=n
 for _ in [n:c] do
  let è less <- ltAt' (lo+m) (lo+m-1)|return none
  if less then break
  m:=m+1
 return è m
def Tz{e:Nat}{Q:wd->oy}(b:by2)(h1:1<=n)(L:n<=e)(O:lo+e<=cd2)(J:NI C st lo n)(h:∀m f,ba4 f->1<=m->m<=e->SR C f lo m->Q (è m) f):W C (Iw lo n e) Q st:=by
 unfold Iw;have hz:=b.size;refine Ej (Dq ?_);have r:=b.mirror (i:=lo) (j:=lo+n) ę À;have u:SR C (cp4 (sh P4 lo (lo+n) ((lo+n-lo) / 2))) lo n:=λ i j o y=>by show eD (sh _ _ _ _) _<=eD (sh _ _ _ _) _;rw[V8 À,V8 À,aL8,aL8];have:=J (n-1-j) (n-1-i) À À;rw[ð (lo+(lo+n)-1-(lo+i)=lo+(n-1-i)),ð (lo+(lo+n)-1-(lo+j)=lo+(n-1-j))];exact this
 generalize cp4 (sh P4 lo (lo+n) ((lo+n-lo) / 2))=l at r u ⊢;have F:=r.size;dsimp only;refine Ej (rn I (λ x c f=>f=l/\c=aE1 x/\SR C l lo x) Q (λ c f=>f=l/\∃m,c=aE1 m/\1<=m/\m<=e/\SR C l lo m) cp0 ? fin (ĸ rfl u) cp1)
 case post =>
  rintro c f ⟨rfl,m,rfl,q1,q2,q3⟩;exact Ek (h m _ r q1 q2 q3)
 case fin =>
  rintro c f ⟨rfl,rfl,q⟩;rw[ð (max n e=e)]at q ⊢;exact bU4 rfl e À ę q
 case step =>
  rintro x c f hx z ⟨rfl,rfl,q⟩;dsimp only;refine Ej (Ua r.ok À À ?_);by_cases t:LG (lo+x)<LG (lo+x-1)
  ·simp only[t,decide_true,if_true];exact Ek (bU4 rfl x À À q)
  ·simp only[t,decide_false,Az,if_false];refine Ek (ĸ rfl (nL i j o y));rcases Bh j x with w|w
   ·exact q i j o w
   ·have:j=x:=À
    subst this;rcases Bh i j with v|v
    ·have:=q i (j-1) À À;rw[ð (lo+(j-1)=lo+j-1)]at this;lia
    ·have:i=j:=À
     subst this;exact am3
def PX(lo n0 c:Nat):aR1 wd:=do
 rule "list.sort.descending-run"
 let mut n:=n0+1
 let mut eqs:=0
 for _ in [n:c] do
  let è less <- ltAt' (lo+n) (lo+n-1)|return none
  if less then
   if eqs > 0 then bH9 (lo+n-(eqs+1)) (lo+n)
   eqs:=0
  else
   let è more <- ltAt' (lo+n-1) (lo+n)|return none
   if more then break
   eqs:=eqs+1
  n:=n+1
 if eqs > 0 then bH9 (lo+n-(eqs+1)) (lo+n)
 Iw lo n c
def Wj{o:Nat}{Q:wd->oy}(b:by2)(R:n+1<=o)(F:lo+o<=cd2)(P:NI C st lo (n+1))(h:∀m f,ba4 f->1<=m->m<=o->SR C f lo m->Q (è m) f):W C (PX lo n o) Q st:=by
 unfold PX;refine cM1 ?_;dsimp only;refine Ej (wpS_mono (wpS_forRange (I:=λ x c f=>∃l,c=bV3 x l/\ba4 f/\NI C f lo x/\l+1<=x/\∀i,x-(l+1)<=i->i<x->LG (lo+i)=LG (lo+x-1))
  (Q:=λ c f=>∃x l,c=bV3 x l/\ba4 f/\NI C f lo x/\l+1<=x/\1<=x/\x<=o/\∀i,x-(l+1)<=i->i<x->LG (lo+i)=LG (lo+x-1)) cp0 ? fin ⟨0,rfl,b,P,À,λ i h1 h2=>bI0⟩) cp1)
 case fin =>
  rintro c f ⟨l,rfl,q1,q2,q3,q4⟩;rw[ð (max (n+1) o=o)]at q2 q3 q4 ⊢;exact⟨o,l,rfl,q1,q2,q3,À,ę,q4⟩
 case step =>
  rintro x c f hx O ⟨l,rfl,q1,q2,q3,q4⟩;dsimp only;have hz:=q1.size;refine Ej (Ua q1.ok À À ?_);by_cases y:LG (lo+x)<LG (lo+x-1)
  ·simp only[y,decide_true,if_true];have more:∀ys:Ú,(∀k,eD ys k=LG k)->∀i j,i<=j->j<x+1->eD ys (lo+j)<=eD ys (lo+i):=λ ys J i j r u=>by
    rw[J,J];rcases Bh j x with w|w
    ·exact q2 i j r w
    ·have:j=x:=À
     subst this;rcases Bh i j with v|v
     ·have:=q2 i (j-1) À À;rw[ð (lo+(j-1)=lo+j-1)]at this;lia
     ·have:i=j:=À
      subst this;exact am3
   by_cases t:l > 0
   ·rw[Eh t];refine Ej (Dq (Ek ⟨0,rfl,q1.mirror À À,more _ (kZ À (Ł k h1 h2)),À,λ i h1 h2=>bI0⟩));have e:=q4 (k-lo) À À
    rwa [ð (lo+(k-lo)=k)]at e
   ·rw[Eg t];exact Ek ⟨0,rfl,q1,more _ aj2,À,λ i h1 h2=>bI0⟩
  ·simp only[y,decide_false,Az,if_false];refine Ej (Ua q1.ok À À ?_);by_cases z:LG (lo+x-1)<LG (lo+x)
   ·simp only[z,decide_true,if_true];exact Ek ⟨x,l,rfl,q1,q2,q3,À,À,q4⟩
   ·simp only[z,decide_false,Az,if_false];have L:LG (lo+x)=LG (lo+x-1):=À
    refine Ek ⟨l+1,rfl,q1,nL i j r u,À,Ł i h1 h2⟩
    ·rcases Bh j x with w|w
     ·exact q2 i j r w
     ·have:j=x:=À
      subst this;rcases Bh i j with v|v
      ·have:=q2 i (j-1) À À;rw[ð (lo+(j-1)=lo+j-1)]at this;lia
      ·have:i=j:=À
       subst this;exact am3
    ·rw[ð (lo+(x+1)-1=lo+x)];rcases Bh i x with w|w
     ·rw[q4 i À w,L]
     ·have:i=x:=À
      subst this;rfl
 case post =>
  rintro c f ⟨x,l,rfl,q1,q2,q3,q4,q5,q6⟩;dsimp only;have hz:=q1.size;by_cases t:l > 0
  ·rw[Eh t];refine Ej (Dq (Tz (q1.mirror À À) q4 q5 F ?_ h));intro i j r u;show eD (sh _ _ _ _) _<=eD (sh _ _ _ _) _;have same:=kZ (C:=C) (xs:=θ) (i:=lo+x-(l+1)) (j:=lo+x) À λ k h1 h2=>by
    have e:=q6 (k-lo) À À
    rwa [ð (lo+(k-lo)=k)]at e
   rw[same,same];exact q2 i j r u
  ·rw[Eg t];exact Tz q1 q4 q5 F q2 h
def Qdq{l:Nat}{Q:wd->oy}(b:by2)(h1:1<=l)(L:lo+l<=cd2)(h:∀m f,ba4 f->1<=m->m<=l->SR C f lo m->Q (è m) f):W C (countRun' lo l) Q st:=by
 have hz:=b.size;rw[countRun'_eq];dsimp only;refine Ej (rn I (λ x c f=>f=st/\c=aE1 x/\SR C st lo x) Q (λ c f=>f=st/\∃m,c=aE1 m/\1<=m/\m<=l/\SR C st lo m/\(m=l∨eD P4 (lo+m)<eD P4 (lo+m-1))) cp0 ? fin (ĸ rfl (λ i j o u=>(by obtain rfl:i=j:=À;exact am3))) cp1)
 case fin =>
  rintro c f ⟨rfl,rfl,q⟩;rw[ð (av8 l=l)]at q ⊢;exact⟨rfl,l,rfl,À,ę,q,ı⟩
 case step =>
  rintro x c f hx P ⟨rfl,rfl,q⟩;dsimp only;refine Ej (Ua b.ok À À ?_);by_cases y:LG (lo+x)<LG (lo+x-1)
  ·simp only[y,decide_true,if_true];exact Ek ⟨rfl,x,rfl,À,À,q,Ğ y⟩
  ·simp only[y,decide_false,Az,if_false];refine Ek (ĸ rfl (nL i j o u));rcases Bh j x with w|w
   ·exact q i j o w
   ·have:j=x:=À
    subst this;rcases Bh i j with v|v
    ·have:=q i (j-1) À À;rw[ð (lo+(j-1)=lo+j-1)]at this;lia
    ·have:i=j:=À
     subst this;exact am3
 case post =>
  rintro c f ⟨rfl,m,rfl,q1,q2,q3,q4⟩;dsimp only;by_cases z:m=l
  ·rw[qs z];exact Ek (h m _ b q1 q2 q3)
  ·rw[sk z];have lt:=q4.resolve_left z;by_cases F:m > 1
   ·rw[Eh F];refine Ej (Ua b.ok À À ?_);by_cases J:LG lo<LG (lo+m-1)
    ·simp only[J,decide_true,if_true];exact Ek (h m _ b q1 q2 q3)
    ·simp only[J,decide_false,Az,if_false];have all:∀k,k<m->LG (lo+k)=LG (lo+m-1):=λ k O=>by have r:=q3 0 k À O;have t:=q3 k (m-1) À À;rw[ð (lo+(m-1)=lo+m-1)]at t;rw[Nat.add_zero]at r;lia
     have same:=kZ (C:=C) (xs:=θ) (i:=lo) (j:=lo+m) À λ k h1 h2=>by
      have e:=all (k-lo) À
      rwa [ð (lo+(k-lo)=k)]at e
     refine Ej (Dq (Wj (b.mirror ę À) À L (nL i j o u) h));show eD (sh _ _ _ _) _<=eD (sh _ _ _ _) _;rw[same,same];rcases Bh j m with w|w
     ·rw[all i À,all j w];exact am3
     ·have:j=m:=À
      subst this;rcases Bh i j with v|v
      ·rw[all i v];exact Cj lt
      ·have:i=j:=À
       subst this;exact am3
   ·rw[Eg F];have:m=1:=À
    subst this;refine Wj b À L (nL i j o u) h;rcases Bh i j with v|v
    ·have r:i=0:=À
     have t:j=1:=À
     subst r t;rw[Nat.add_zero];exact Cj lt
    ·have:i=j:=À
     subst this;exact am3
def QgM{xs:Ú}{c d:Nat}(h:c<xs.size)(hd:d<=c)(k:Nat):eD (bubble xs c d) k=É (k=c-d) (eD xs c) (É (c-d<k/\k<=c) (eD xs (k-1)) (eD xs k)):=by
 have e:=getElem?_bubble h d hd k;split at e<;>rename_i q
 ·rw[Eh q];exact wM e
 ·rw[Eg q];split at e<;>rename_i f
  ·rw[Eh f];exact wM e
  ·rw[Eg f];exact wM e
def QhS{ok:Nat}{Q:bD6 oy}(b:by2)(h1:1<=ok)(hn:ok<=n)(hs:lo+n<=cd2)(X:SR C st lo ok)(h:∀f,ba4 f->SR C f lo n->Q true f):W C (binarySort' lo n ok) Q st:=by
 rw[binarySort'_eq];refine Ej (rn I (λ k c f=>c=cf1/\ba4 f/\SR C f lo (min k n)) Q (λ c f=>c=cf1/\ba4 f/\SR C f lo n) cp0 ? fin ? init cp1)
 case post =>
  rintro c f ⟨rfl,q1,q2⟩;exact Ek (h f q1 q2)
 case init=>exact bB7 b (λ i j t R=>X i j t À)
 case fin =>
  rintro c f ⟨e,q1,q2⟩;refine AB e q1
  rwa [ð (min (max (max ok 1) n) n=n)]at q2
 case step =>
  rintro k c f Y U ⟨rfl,q1,q2⟩;rw[ð (min k n=k)]at q2;have hz:=q1.size;refine Ej (wpS_mono (wpS_forRange (I:=λ x c o=>o=f/\∃l r,c=bV3 l r/\l<=r/\r<=k/\r-l<=k-x/\(∀i,i<l->LG (lo+i)<=LG (lo+k))/\(∀i,r<=i->i<k->LG (lo+k)<LG (lo+i)))
   (Q:=λ c o=>o=f/\∃l r,c=bV3 l r/\l<=k/\(∀i,i<l->LG (lo+i)<=LG (lo+k))/\(∀i,l<=i->i<k->LG (lo+k)<LG (lo+i))) ? st2 ? SD ⟨rfl,0,k,rfl,À,À,À,(λ i hi=>À),λ i h1 h2=>À⟩) ? Rl)
  case SD =>
   rintro c o ⟨rfl,l,r,rfl,g1,g2,g3,g4,g5⟩;have:l=r:=À
   subst this;exact bE7 rfl l l g2 g4 g5
  case st2 =>
   rintro x c o _ hx ⟨rfl,l,r,rfl,g1,g2,g3,g4,g5⟩;dsimp only;by_cases v:GE.ge l r
   ·rw[Eh v];have:l=r:=À
    subst this;exact Ek (bE7 rfl l l g2 g4 g5)
   ·rw[Eg v];refine Ej (Ua q1.ok À À ?_);by_cases z:eD bB1 (lo+k)<eD bB1 (lo+(l+r) / 2)
    ·simp only[z,decide_true,if_true];exact Ek ⟨rfl,l,(l+r) / 2,rfl,À,À,À,g4,λ i u1 u2=>Int.lt_of_lt_of_le z (q2 _ _ u1 u2)⟩
    ·simp only[z,decide_false,Az,if_false];exact Ek ⟨rfl,(l+r) / 2+1,r,rfl,À,À,À,(λ i u1=>C5 (q2 i ((l+r) / 2) À À) (Int.not_lt.mp z)),g5⟩
  case Rl =>
   rintro c o ⟨rfl,l,r,rfl,g1,g2,g3⟩;show W C (do moveDown' (lo+k) (lo+l);Ô (ah9 cf1)) _ _;rw[moveDown'_eq];have u:lo+k<tm o:=À
   refine ak3 (Ek (AB rfl (q1.set (bubble_perm _ _ _) (Ź i hi))))
   ·rw[getElem?_bubble u _ À,aE,aE]
   rw[ð (min (k+1) n=k+1)];intro i j t R;show eD (bubble bB1 (lo+k) (lo+k-(lo+l))) (lo+i)<=eD (bubble bB1 (lo+k) (lo+k-(lo+l))) (lo+j);have val:∀i,i<=k->eD (bubble bB1 (lo+k) (lo+k-(lo+l))) (lo+i)=É (i=l) (eD bB1 (lo+k)) (É (l<i) (eD bB1 (lo+(i-1))) (eD bB1 (lo+i))):=λ i hi=>by
    rw[QgM u À];by_cases F:i=l
    ·rw[aL8,Eh F]
    ·rw[aE,Eg F];by_cases J:l<i
     ·rw[aL8,Eh J,ð (lo+i-1=lo+(i-1))]
     ·rw[aE,Eg J]
   rw[val i À,val j À];by_cases L:i=l
   ·rw[Eh L];by_cases y:j=l
    ·rw[Eh y];exact am3
    ·rw[Eg y,aL8];exact Cj (g3 (j-1) À À)
   ·rw[Eg L];by_cases O:l<i
    ·rw[Eh O,aE,aL8];exact q2 _ _ À À
    ·rw[Eg O];by_cases y:j=l
     ·rw[Eh y];exact g2 i À
     ·rw[Eg y];by_cases P:l<j
      ·rw[Eh P];exact q2 _ _ À À
      ·rw[Eg P];exact q2 _ _ À À
#where
#print TS
open PySem PyProof PyProof.Rows
namespace TS
variable{C:cV}
def Qhp{L L':ϭ}{lo a n:Nat}(h:∀i:Nat,i<lo->ŵ L'=ŵ L)(b:a+n<=lo):bH7 L' a=iq a n:=by
 apply List.ext_getElem?;intro i;unfold seg;by_cases hi:i<n
 ·rw[B9 hi,B9 hi,Cb,Cb];exact h _ À
 ·rw[C0 č,C0 č]
def Bs.g{L0:ϭ}{st₀ st:SortSt}{lo:Nat}(b:by2)(g:G C L0 st₀ lo):G C L0 st lo:=by refine⟨b.kind,b.fine,b.perm.trans g.perm,?_,by have:=b.size;have:=g.le;lia⟩;rw[b.pend];refine g.runs.congr λ a n _ c=>Qhp (lo:=lo) (Ź i hi) c;have:=b.low i hi;simpa using this
def QjM{L L':ϭ}{lo n:Nat}(h:L'.drop lo=bs3 lo):bH7 L' lo=iq lo n:=Ż seg h
def Runs.pw{pw:Nat}:∀{r:LB (Nat × Nat)}{s e:Nat}(k:Nat),bz9 L r s e->bz9 L (r.modify k λ(a,b,_)=>(a,b,pw)) s e
 | [],_,_,k,h=>Ä h
 | (x,n,_)::r,s,e,0,⟨h0,h1,h2,h3⟩=>Nc h0 h1 h2 h3
 | (x,n,_)::r,s,e,k+1,⟨h0,h1,h2,h3⟩=>Nc h0 h1 h2 (h3.pw k)
def G.pw{L0:ϭ}{a:SortSt}{lo pw:Nat}(g:G C L0 a lo):G C L0 (cp3 a ((ē a).modify (oa a-1) λ(a,len,_)=>(a,len,pw))) lo:=by refine⟨g.kind,g.fine,g.perm,?_,g.le⟩;show bz9 (iF aQ7) (iF ((ē a).modify _ _)) 0 lo;rw[Array.toList_modify];exact g.runs.pw _
def G.push{L0:ϭ}{a:SortSt}{lo n:Nat}(g:G C L0 a lo)(h1:1<=n)(b:lo+n<=tm a)(c:EQ (bH7 (iF aQ7) lo)):G C L0 (cp3 a ((ē a).push (lo,n,0))) (lo+n):=by refine⟨g.kind,g.fine,g.perm,?_,b⟩;show bz9 (iF aQ7) (iF ((ē a).push (lo,n,0))) 0 (lo+n);rw[Array.toList_push];exact Runs.app.mpr (bU4 lo g.runs h1 c rfl)
def G.size{L0:ϭ}{a:SortSt}{lo:Nat}(g:G C L0 a lo):tm a=⇑L0:=Ŭ g.perm.length_eq
def QjE{L:ϭ}{r:LB (Nat × Nat)}{e:Nat}(h:bz9 L r 0 e)(a:lc<=1):EQ (L.take e):=by
  match r,a,h with
  | [],_,h=>cases h;simp[bN]
  | [(x,n,_)],_,⟨_,_,h2,h3⟩ => 
    have:0+n=e:=h3;subst this;simpa [seg]using h2
def Qk2(b:Bool)(k:Nat):df b (k-1) k<=k:=by cases b<;>simp
def vm{L0:ϭ}{st:SortSt}{Q:ck9 oy}(P:∀p∈L0,cL9)(g0:G C L0 st 0)(h:∀e,ax8 e->aq6 (ü e) L0->EQ (iF (ü e))->Q () e):W C sortRuns' Q st:=by
  rw[sortRuns'_eq];refine cd1;dsimp only;rw[g0.size];generalize hm:minRun' ⇑L0 ⇑L0 0=j;generalize hsz:⇑L0=size;refine Ej (wpS_mono (wpS_forRange
    (I:=λ x c e=>∃lo,c=aE1 lo/\G C L0 e lo/\min x size<=lo)
    (Q:=λ c e=>c=aE1 size/\G C L0 e size) cp0 ? fin (Nc 0 rfl g0 À)) cp1)
  case fin =>
    rintro c e ⟨lo,rfl,g,q⟩;have a:=g.le;have b:=g.size;obtain rfl:lo=size:=À
    exact Ť g
  case step =>
    rintro x c e _ hx ⟨lo,rfl,g,q⟩;dsimp only;have hz:=g.size;have a8:=g.le;by_cases J:GE.ge lo size
    . rw[Eh J]
      obtain rfl:lo=size:=À
      exact Ek (Ť g)
    rw[Eg J];have b0:Bs C e e lo:=bU4 g.kind g.fine Iy EK (λ p hp=>P p bQ4);refine Ej (Qdq b0 À À (bF5 m Y O u R Fq));dsimp only;by_cases t:m<j;rw[Eh t];refine cM1 ?_;refine Ej (QhS O u (n:=min (size-lo) j) À À Fq (Ł f b L));simp only[Bool.not_true,Az,if_false];have r:1<=min (size-lo) j:=À
    have z:lo+min (size-lo) j<=size:=À
    generalize min (size-lo) j=n at r z L ⊢
    rotate_left
    rw[Eg t];have z:lo+m<=size:=À
    have r:=u;have b:=O;have L:=Fq;clear Fq O u R t;generalize m=n at r z L ⊢;generalize Y=f at b L ⊢
    all_goals
      have g2:=b.g g;have U:=g2.size;have mU:EQ (bH7 (iF θ) lo):=Ql1 À L;refine cd1;cases hb:(ē f).back? with
      |none=>dsimp only;exact ak3 (Ek (Nc (lo+n) rfl (g2.push r À mU) À))
      |some v =>
        obtain⟨s1,X,am⟩:=v;dsimp only;generalize power' size (2 * s1+X) (2 * s1+X+X+n) size=pw;refine Ej (rn I (λ_ c e=>c=cf1/\G C L0 e lo/\PK (ü e) lo=PK θ lo) Q (λ c e=>c=cf1/\G C L0 e lo/\PK (ü e) lo=PK θ lo) ?_ (λ_ _ hh=>hh) (Œ rfl g2) ?_)
        . rintro y c l _ hy ⟨rfl,g3,t3⟩
          refine cd1;by_cases h1:(oa l) > 1
          . rw[Eh h1,bs1 (ē l) (oa l-2) À]
            obtain⟨⟨q1,q2,F⟩,eo⟩:∃x,(ē l)[oa l-2]' tj=x:=aU3;rw[eo];dsimp only;by_cases ho:F<=pw
            . rw[Eh ho]
              exact Ek (bB7 g3 t3)
            . rw[Eg ho]
              refine Ej (Py P g3 À λ mD g4 _ t4=>?_);simp only[Bool.not_true,Az,if_false];exact Ek (bB7 g4 (t4.trans t3))
          . rw[Eg h1]
            exact Ek (bB7 g3 t3)
        . rintro c l ⟨rfl,g3,t3⟩
          dsimp only;have ae:=g3.size;refine ak3 (ak3 (Ek (Nc (lo+n) rfl (G.push g3.pw r (lL (lo+n<=tm l)) ?_) À)));show EQ (bH7 (iF (ü l)) lo);rw[QjM t3];exact mU
  case post =>
    rintro c e ⟨rfl,g⟩;dsimp only;have hz:=g.size;have ad:=g.runs.le;have a9:aw3 (ē e)=oa e:=Ê
    refine Ej (rn I (λ x c o=>c=cf1/\G C L0 o size/\oa o+x<=size) Q (λ c o=>c=cf1/\G C L0 o size/\oa o<=1) ?_ ?_ (bB7 g À) ?_)
    . rintro x c f _ hx ⟨rfl,g2,hp⟩
      refine cd1;by_cases h1:oa f<=1
      . rw[Eh h1]
        exact Ek (bB7 g2 h1)
      . rw[Eg h1]
        generalize hi:df (Option.any (λ x=>AN x (Option.elim (ē f)[oa f-2+1]? 0 λ x=>x.2.1)) (É (oa f-2 > 0) (Option.map (λ x=>x.2.1) (ē f)[oa f-2-1]?) none)) (oa f-2-1) (oa f-2)=i;have hi2:i<=oa f-2:=æ hi (Qk2 _ _)
        refine Ej (Py P g2 À λ l g3 hq _=>?_);simp only[Bool.not_true,Az,if_false];exact Ek (bB7 g3 À)
    . rintro c f ⟨rfl,g2,hp⟩
      exact bB7 g2 À
    . rintro c f ⟨rfl,g2,hp⟩
      have U:=g2.size;have s2:=QjE g2.runs (Ä hp);rw[Ch č]at s2;exact Ek (h f g2.fine g2.perm s2)
open PySem PyProof PyProof.Rows
section
variable{prog:Program}{w:World}{A:Around}{E:Es}{s:Shared}
def CI(prog:Program)(w:World)(A:Around)(E:Es)(s:Shared):cV where
 key p:=numOf ϰ
 kd:=oneType'
 S p:=∃n t,ϰ=LI n
 prog:=prog
 w:=w
 A:=A
 E:=E
 s:=s
 lt:=by rintro a ⟨_,p⟩ ⟨_,q⟩ Q ⟨n,t,rfl⟩ ⟨k,u,rfl⟩ hk h;rw[lt'_eq];refine cd1;rw[hk];exact Ej (wpS_lift (wpAny_attempt (keyLt'_oneType _ _▸oneLt_int (Ť (Ek h)))))
def OJ(xs:Ú)(i:Nat):kx (CI prog w A E s) xs i=K xs i:=by unfold kx K;cases ŵ xs<;>rfl
def Qhg{vs:ó}{ns:Ď}(hI:FR vs):ff w A (sortRuns'.run (ai1 oneType' Ř Nl 7)) (λ r s'=>s'=s/\ax8 r.2/\(ü r.2).Perm IX/\SortedTo (ü r.2) (IX).size) E s:=by
 have q:W (CI prog w A E s) sortRuns' (λ_ a=>ax8 a/\(aQ7).Perm IX/\SortedTo aQ7 (IX).size) (ai1 oneType' Ř Nl 7):=by
  refine vm (L0:=iF IX) (λ p hp=>hI.intKeys p hp) (dE rfl rfl Iy CO) (nL a f h l);have c:(aQ7).Perm IX:=Array.perm_iff_toList_perm.mpr h;refine da f c (nL i j b n);have e:=vn l b (Å c.size_eq n)
  rwa [OJ,OJ]at e
 exact q
def Keeps(h h':Heap)(a:Addr):Û:=∀b o,b≠a->ż b o->Pi o
def Keeps.upd(h:Heap)(a:Addr)(f:Obj->Obj):Keeps h (h.update a f) a:=λ b o c e=>Å (Heap.get?_update_ne _ _ _ _ c) e
def Qhv{a:Addr}{vs:ó}{ns:Ď}{n:Nat}{P:PySem.Fin->Ε}(I:ô a (Ģ Ā n))(hI:FR vs)(hz:ÿ IQ)
  (h:∀(h':Heap) (out:ó) (l:Ď) (c:Nat),cj0 h' a->ķ a (aU9 c)->IntsAre out l->l.Perm ns->l.Pairwise az7->P (tN (.ret bE)) aE0) :
  ff w A bz1 P E s:=by
 have k1:=Keeps.upd s.heap a bL8;obtain⟨v,g1⟩:∃v,(L8 a bL8).get? a>=(aR6 v):=Ĭ _ (aj4 I Nl);generalize F:L8 a bL8=H1 at k1 g1;have g3:=Ad aR7 (Ad (Ģ ņ 0) g1);have k3:cj0 ((cc9).push aR7) a:=λ b o u e=>bw6 (k1 b o u e);have hsz:vs.toArray.size=IQ:=Ê
 have r:∀f:SortSt,ax8 f->(θ).Perm IX->SortedTo θ (IX).size->wpAny al1 A (do
   let touched:=(<- seqEpoch a) != v
   ar6 Ŗ aJ8
   if let è e:=ld f then aK8; throw e
   if touched then bH3; raiseError "ValueError" bs6
   ret bE) P E (LF ((cc9).push aR7)):=by
  intro f y t z;obtain⟨l,Q,o2,o3⟩:=sorted_out hI t z;refine Ef (aX8 g3 ?_);have oz:(aJ8).size<=sizeLine+1:=by rw[Array.size_map,t.size_eq,pairsOf_size];lia
  refine bn4 g3 rfl ?_ CO oz;rw[y];simp only[bne_self_eq_false,Az,if_false];obtain⟨x,e⟩:∃x,(((cc9).push aR7).update a (f6 aJ8)).get? a>=(dq (aJ8) x):=Ĭ _ (aj4 g3 aJ8);refine Ei (h _ (iF (aJ8)) l x (λ b o u e=>Keeps.upd _ a _ b o u (k3 b o u e)) ?_ Q o2 o3);rw[Array.toArray_toList];exact e
 rw[list_sort_plain];refine Ef (listItems_at I rfl (bn4 I rfl ?_ (Å hsz hz) CO));rw[F];refine Ef (aX8 g1 (bF9 ?_ (Ä hz)));refine az8 as8 CO;show ff w A _ P E (LF ((cc9).push aR7));dsimp only;by_cases h2:vs.toArray.size<2
 ·rw[Eh h2,Eh h2];refine Ef ph;rw[StateT.run_pure];refine be7 (r (ai1 general' Ř Nl 7) rfl (Array.Perm.refl _) (nL i j J L));obtain rfl:i=j:=by rw[pairsOf_size]at L;lia
  exact am3
 ·rw[Eg h2,Eg h2];have O:keyKind' vs.toArray=Ô oneType':=by
   match vs,hI,h2 with
   | [],_,h2=>simp at h2
   | [_],_,h2=>simp at h2
   |_::_::_,hI,_=>exact keyKind_ints hI
  rw[O];refine be7 (Ef (ix (Qhg hI) ?_ e e));rintro⟨⟨⟩,f⟩ s' ⟨rfl,y,t,z⟩;exact r f y t z
def iZ{x:Value}{ns:Ď}{Q:Es}
  (hc:∀(R:ó->Ε),(∀(h':Heap)(f:Nat)(vs:ó),FR vs->ÿ IQ->(∀b o,bo6->Pi o)->R vs (ck3 f))->ff w A.in1 (collect x) R E s)
  (h:∀(h1 h':Heap) (f:Nat) (out:ó) (a:Ď) (c:Nat),(∀b o,bo6->bq5>=o)->(∀b o,bq5>=o->Pi o)->ķ h1.objs.size (aU9 c)->IntsAre out a->a.Perm ns->a.Pairwise az7->bq9 h1.objs.size (ck3 f)) :
  ff w A (PR IY [x]) Q E s:=by
 refine cB8 kind_sorted entry_sorted (args_sorted1 _) ?_;unfold Builtin.«sorted»;refine Ef (m:=checkCount IY 1 1 _) (Ei (Ef (hc _ (bF5 h1 f vs hI hz k1))));refine az8 ?_ hz;have g:(at7 Ā 0).get? h1.objs.size>=(Ģ Ā 0):=IE;refine Ef (Ϻ (FP slot_list_sort (bo8 g) entry_list_sort (Qhv g hI hz λ h2 out a c k2 g2 i o2 o3=>ĸ _ ?_) cB9));refine aN3 _ (h h1 h2 f out a c k1 (λ b o e=>k2 b o bF2 FY) g2 i o2 o3)
#where
section
variable{prog:Program}{w:World}{A:Around}{E:Es}{s:Shared}{g:Int->Int}
def aV(h:Heap)(g:Int->Int)(v:Value)(n:Int):Û:=∃(a:Addr) (o:Obj) (t u:Tok) (k:Nat),v=ų/\ż a o/\o.cls=af9 /\ o.data=cz3 #[LI n,fj (g n) u] k
def bL(h:Heap):Fn Int
  |.ref a=>match h.get? a with
    |some o=>(match o.data with
      |.seq xs _=>cG6 (pc xs[0]? numOf) 0
      |_=>0)
    |none=>0
  |_=>0
def b_{n:Int}(p:aV h g v n):bL h v=n:=by obtain⟨a,o,t,u,k,rfl,b,_,c⟩:=p;simp only[bL,b,c];rfl
def aV.keep{h h':Heap}{v:Value}{n:Int}(p:aV h g v n)(i:∀b o,v=ca2->ż b o->Pi o):aV h' g v n:=by obtain⟨a,o,t,u,k,rfl,c,e,f⟩:=p;exact⟨a,o,t,u,k,rfl,i a o rfl c,e,f⟩
def CT(prog:Program)(w:World)(A:Around)(E:Es)(s:Shared)(g:Int->Int):cV where
 key p:=ar7 ϰ
 kd:=bI1
 S p:=∃n,aV s.heap g ϰ n
 prog:=prog
 w:=w
 A:=A
 E:=E
 s:=s
 lt:=by
  rintro I ⟨x,p⟩ ⟨y,q⟩ Q ⟨n,hn⟩ ⟨m,hm⟩ hk h;have c:=b_ hn;have f:=b_ hm;dsimp only at c f h hn hm;rw[c,f]at h;obtain⟨a,o,t,u,k,rfl,i,v,j⟩:=hn;obtain⟨b,o',t',J,F,rfl,l,z,r⟩:=hm;rw[lt'_eq];refine cd1;rw[hk];refine Ej (wpS_lift (wpAny_attempt (PySem.W.kat_lt i j l r ?_)));refine bh0 (PySem.W.kat_go (NV e) (NV e))
  ·have:n=m:=cr9
   subst this;refine PySem.W.kat_yes (bh0 (PySem.W.kat_go (λ_=>PySem.W.kat_yes (PySem.W.kat_nil (Ť (Ek ?_)))) (NV e)))
   ·simpa using h
   ·simp at e
  ·exact PySem.W.kat_no (oneLt_int (Ť (Ek h)))
def Qeh{vs:ó}(hI:∀v∈vs,∃n,aV s.heap g v n):ff w A (sortRuns'.run (ai1 bI1 Ř Nl 7)) (λ r s'=>s'=s/\ax8 r.2/\aq6 (ü r.2) CU/\bE1 (ü r.2) (λ p q=>ar7 ϰ<=ar7 q.1)) E s:=by
 have b:iF Ř=CU:=Ê
 have q:W (CT prog w A E s g) sortRuns' (λ_ a=>ax8 a/\aq6 aQ7 CU/\bE1 aQ7 (λ p q=>ar7 ϰ<=ar7 q.1)) (ai1 bI1 Ř Nl 7):=by refine vm (L0:=iF Ř) (Ź p hp) (dE rfl rfl Iy CO) λ a c e f=>da c (æ b e) f;rw[b]at hp;exact hI ϰ (LN hp)
 exact q
def QaY(vs:ó):bw7 CU=vs/\CD CU=vs/\∀p∈CU,ϰ=PP:=by
  induction vs with
  |nil=>exact ĸ rfl (au6 p hp hp)
  |cons v vs a =>
    refine da (ą a.1) (ą a.2.1) (Ź p hp);rcases Nm (Ý (p∈(v,v)::CU) hp)with rfl|h
    . rfl
    . exact a.2.2 p h
def Qeu{a:Addr}{vs:ó}{n:Nat}{P:PySem.Fin->Ε}(y:ô a (Ģ Ā n))(hI:∀v∈vs,∃n,aV s.heap g v n)(hz:ÿ IQ)
    (h:∀(h':Heap) (out:ó) (c:Nat),cj0 h' a->ķ a (aU9 c)->out.Perm vs->aV2 (aP0 s.heap) az7->P (tN (.ret bE)) aE0) :
    ff w A bz1 P E s:=by
  have k1:=Keeps.upd s.heap a bL8;obtain⟨I,g1⟩:∃I,(L8 a bL8).get? a>=(aR6 I):=Ĭ _ (aj4 y Nl);generalize U:L8 a bL8=H1 at k1 g1;have g3:=Ad aR7 (Ad (Ģ ņ 0) g1);have k3:cj0 ((cc9).push aR7) a:=λ b o F e=>bw6 (k1 b o F e);have hsz:vs.toArray.size=IQ:=Ê
  have na:∀v∈vs,v≠ų:=λ v i e=>by obtain⟨n,b,o,t,u,k,rfl,j,r,_⟩:=hI v i;cases e;rw[y]at j;cases j;exact AQ (A0 Ā = A0 ņ) r Á
  have z:∀v∈vs,∃n,aV ((cc9).push aR7) g v n:=λ v i=>eP n p (hI v i) (Ĭ n (p.keep λ b o j r=>k3 b o (λ e=>na v i (Ξ j e)) r))
  have L:∀v∈vs,bL ((cc9).push aR7) v=ar7 v:=λ v i=>by obtain⟨n,p⟩:=hI v i;rw[b_ p,b_ (p.keep λ b o j r=>k3 b o (λ e=>na v i (Ξ j e)) r)]
  obtain⟨z1,z2,z3⟩:=QaY vs;have x:∀f:SortSt,ax8 f->aq6 θ CU->bE1 θ (λ p q=>ar7 ϰ<=ar7 q.1)->wpAny al1 A (do
      let touched:=(<- seqEpoch a) != I
      ar6 Ŗ aJ8
      if let è e:=ld f then aK8; throw e
      if touched then bH3; raiseError "ValueError" bs6
      ret bE) P E (LF ((cc9).push aR7)):=by
    intro f O l Q;refine Ef (aX8 g3 ?_);have ol:iF (aJ8)=(θ).toList.map ϒ:=Ê
    have oz:(aJ8).size<=sizeLine+1:=by have:=l.length_eq;rw[Array.size_map,<- Ci,this,List.length_zip];lia
    refine bn4 g3 rfl ?_ CO oz;rw[O];simp only[bne_self_eq_false,Az,if_false];obtain⟨J,e⟩:∃J,(((cc9).push aR7).update a (f6 aJ8)).get? a>=(dq (aJ8) J):=Ĭ _ (aj4 g3 aJ8);refine Ei (h _ (iF (aJ8)) J (λ b o F e=>Keeps.upd _ a _ b o F (k3 b o F e)) ?_ ?_ ?_)
    . rw[Array.toArray_toList];exact e
    . rw[ol]
      have:=l.map ϒ;rw[z2]at this;exact this
    . rw[ol,List.map_map,List.pairwise_map]
      refine(bb9).imp (NV R);obtain⟨m1,Y,le⟩:=R;dsimp only[Function.comp];rw[<- z3 _ (bA0 m1),<- z3 _ (bA0 Y)];exact le
  rw[list_sort_plain];refine Ef (listItems_at y rfl (bn4 y rfl ?_ (Å hsz hz) CO));rw[U];refine Ef (aX8 g1 (bF9 ?_ (Ä hz)));refine az8 as8 CO;show ff w A _ P E (LF ((cc9).push aR7));dsimp only;by_cases h2:vs.toArray.size<2
  . rw[Eh h2,Eh h2]
    refine Ef ph;rw[StateT.run_pure];refine be7 (x (ai1 general' Ř Nl 7) rfl (bX0 (aq6 Ř _)) ?_);show bE1 Ř _;rw[L9 (iF Ř=CU)];have X:⇑CU<2:=Ĵ List.length_zip
    match CU,X with
    | [],_=>exact mT
    | [_],_=>exact ao0 _
    |_::_::_,X=>exact ď X Ê
  . rw[Eg h2,Eg h2]
    obtain⟨fs,t1,t2,t3⟩:∃fs,PySem.W.KatTups ((cc9).push aR7) vs fs/\aF1=IQ/\∀v∈fs,∃n t,v=LI n:=by
      clear x L na h2 hsz hz z1 z2 z3;generalize (cc9).push aR7=HH at z;clear g3 k3 y hI h;induction vs with
      |nil=>exact Α [] mT (au6 v i i)
      |cons v vs ih =>
        obtain⟨fs,a1,a2,a3⟩:=ih (λ v i=>z v (ch6 i));obtain⟨n,b,o,t,u,k,rfl,j,r,e3⟩:=z v (Ec);refine Nc (LI n::fs) (.cons j r e3 rfl a1) (ą a2) (Ź v i);rcases Nm i with rfl|i
        . exact Œ n t
        . exact a3 v i
    refine Ef (PySem.W.kat_kind (T:=ĭ "int") t1 (by rw[t2];simp at h2;lia) (Ź v i) Á ?_)
    . obtain⟨n,t,rfl⟩:=t3 v i
      exact .now
    . refine Ef (ix (Qeh (g:=g) (s:=LF ((cc9).push aR7)) z) ?_ e e)
      rintro⟨⟨⟩,f⟩ s' ⟨rfl,O,l,Q⟩;refine x f O l ((bb9).imp (NV R));obtain⟨m1,Y,le⟩:=R;have q1:=LN (bA0 m1);have q2:=LN (bA0 Y);dsimp only at le;rw[L _ q1,L _ q2]at le;exact le
def fY{x:Value}{ks:Ď}{F:Δ Value}{Q:Es}
  (hc:∀(R:ó->Ε),(∀(h':Heap)(f:Nat)(vs:ó),(∀v∈vs,F v/\∃n,aV h' g v n)->vs.map (bL h')=ks->ÿ IQ->(∀b o,bo6->Pi o)->R vs (ck3 f))->ff w A.in1 (collect x) R E s)
  (h:∀(h1 h':Heap) (f:Nat) (out:ó) (c:Nat),(∀b o,bo6->bq5>=o)->(∀b o,bq5>=o->Pi o)->ķ h1.objs.size (aU9 c)->(∀v∈out,F v/\∃n,aV h1 g v n)->(aP0 h1).Perm ks->aV2 (aP0 h1) az7->bq9 h1.objs.size (ck3 f)) :
  ff w A (PR IY [x]) Q E s:=by
 refine cB8 kind_sorted entry_sorted (args_sorted1 _) ?_;unfold Builtin.«sorted»;refine Ef (m:=checkCount IY 1 1 _) (Ei (Ef (hc _ λ h1 f vs hI u hz k1=>?_)));refine az8 ?_ hz;have j:(at7 Ā 0).get? h1.objs.size>=(Ģ Ā 0):=IE;have l:∀v∈vs,∃n,aV (at7 Ā 0) g v n:=λ v a=>eP n p (hI v a).2 (Ĭ n (p.keep λ b o _ e=>FY))
 have r:∀v∈vs,bL (at7 Ā 0) v=bL h1 v:=λ v a=>by obtain⟨n,p⟩:=(hI v a).2;rw[b_ p,b_ (p.keep (h':=at7 Ā 0) λ b o _ e=>FY)]
 refine Ef (Ϻ (FP slot_list_sort (bo8 j) entry_list_sort (Qeu (g:=g) j l hz λ h2 out c k2 g2 i o2=>ĸ _ ?_) cB9));have t:aP0 (at7 Ā 0)=aP0 h1:=My (λ v a=>r v (i.mem_iff.mp a));refine aN3 _ (h h1 h2 f out c k1 (λ b o e=>k2 b o bF2 FY) g2 (λ v a=>hI v (i.mem_iff.mp a)) (æ u (i.map _)) (æ t o2))
#where
#print TS
namespace D
open PySem PySem.Spec PyProof.Rows L2
variable{X:Cx}
def eG(ns:Ď):Ď:=ns.mergeSort (λ a b=>FX a b)
def Wp(ns:Ď):(aP1).Perm ns:=List.mergeSort_perm _ _
def Qew(ns:Ď):aV2 aP1 az7:=aK9 (List.pairwise_mergeSort (le:=λ a b:Int=>FX a b) (λ a b c h1 h2=>by simp at *;lia) (λ a b=>č) ns) (this.imp λ h=>Ä h)
def vo{ns c:Ď}(p:c.Perm ns)(h:c.Pairwise az7):c=aP1 :=
 (p.trans (Wp ns).symm).eq_of_pairwise (λ a b _ _ h1 h2=>Int.le_antisymm h1 h2) h (Qew ns)
def uW:∀{ns:Ď}{us:ó},f8 ny->FR us
 | [],_,.nil=>mT
 |n::ns,_,.cons ⟨t,e⟩ r=>aE5 e (.cons n t (uW r))
def qR:∀{us:ó}{ns:Ď},FR us->f8 ny
 |_,_,.nil=>mT
 |_,_,.cons n t r=>fX (õ t) (qR r)
def Tq:∀{us:ó}{ns:Ď},cG8=mh->bq7 j u Value n Int (us[j]?>=u->ns[j]?>=n->∃t,u=LI n)->FR us
  | [],[],_,_=>mT
  |u::us,n::ns,c,h=>eP t rfl (h 0 u n rfl rfl) (.cons n t (Tq (Ä c) λ j u n a b=>h (j+1) u n a b))
def Tf:∀{kvs:aU5}{vs:ca9},am0->vs.map ļ=bM6
 |_,_,.nil=>rfl
 |_,_,.cons a b=>by rw[Bb,Bb,Tf b,a.1]
def R_(K:Aa)(H:Hp)(p:Addr)(ns:Ď):Û:=sm K p Ľ∨∃kvs:aU5,H p>=(.dK kvs)/\bM6=ns.map .inl
def Qbh(hc:ϙ):ap7 IY (λ xs H Q=>∃p ns,xs=[bB0]/\R_ X.K H p ns/\∀l,ū l->bq9 l (n7 l cE4)):=by
 intro O9 s σ H xs us Q I r h;obtain⟨p,ns,rfl,f,q⟩:=h;have hh:bL3:=ah4 hc;obtain⟨u,rfl,rx⟩:=VC r;cases rx;have hz:ÿ mh:=by
  rcases f with f|⟨kvs,f,e⟩
  ·have:=(FO f).choose_spec.2.2;simpa using this
  ·have a:=(bP9 f).1;have b:=ab8 e;simp at b;lia
 refine TS.iZ (ns:=ns) (Ź R Y) λ h1 h' C out a8 c k1 k2 g o1 o2 o3=>?_
 ·rcases f with f|⟨kvs,f,e⟩
  ·obtain⟨v,r',pl,z⟩:=FO f;have hI:=uW r';have hl:⇑v=mh:=by have:=⇑r';simpa using this.symm
   have R1:=Y (cw1 (ľ aR7) (ag5 (· ++ v.toArray))) s.toks v hI À λ b o e=>by have J:EI b:=AJ;rw[Heap.get?_update_ne _ _ _ _ (Bf J)];exact FY
   exact collect_list pl.isList R1 À
  ·obtain⟨_,lo,vs,kv,hd⟩:=bP9 f;obtain⟨ep,F⟩:=hd.dictAt;have kl:vs.map ļ=ns.map Sum.inl:=å (Tf kv) e;have L:IQ=mh:=Ŭ (ab8 kl)
   refine PySem.W.kdu_collect (PySem.W.kdl_dict (knd:=LL) (kvs:=vs) (ep:=ep) lo) hh F À λ h1 C acc k1 O=>Y h1 C acc.toList (Tq ?_ (TZ j u n a b)) ?_ k1
   ·rw[Ci,O.1,L]
   ·obtain⟨k,x,e1,e2⟩:=O.2 j u cs0;have:k=f7 n:=by have U:=im (λ l=>l[j]?) kl;simp[e1,b]at U;exact U
    subst this;rcases ZX (ca0 (yV (f7 n) u) e2)with ⟨i,t,h1,h2⟩|⟨_,_,h1,_⟩
    ·cases h1;exact Ĭ t h2
    ·cases h1
   ·rw[Ci,O.1];lia
 ·obtain rfl:=vo o2 o3;have P:Ŵ (ϴ s h1 C):=I.kept k1;have y:ÿ ⇑aP1:=Å (Wp ns).length_eq hz
  exact dE (ë h1.objs.size) _ (P.laid (t':=C) k2 ę (Ý (aF3 X.w _ h' _ (Ø cE4)) ⟨Ä y,out,c,qR o1,g⟩)) (q _ (P.hok.fresh ę))
def Uu:á->Ð Ď
 | []=>è []
 |.int n::r=>pc (Uu r) (n :: ·)
 |_=>none
def yU:Ϧ->Ð Ď
 | []=>è []
 | (.inl n,_)::r=>pc (yU r) (n :: ·)
 |_=>none
def vX{α:re}:Ð α->cA8
 |some d=>bK2
 |none=>failure
def xf{α:re}{o:Ð α}{d:α}{hp hp':Hs}(h:vX o hp>=(d,hp')):o>=d/\hp=hp':=by
 cases o with
 |none=>cases h
 |some x=>obtain⟨rfl,rfl⟩:=cB0;exact ft
def IW:DV->M Ď
  |.lst ds=>vX cM7
  |.ref n=>do
    match <- OU with
    |.lst ds=>vX cM7
    |.aH kvs=>vX bh1
    |_=>failure
  |_=>failure
def wJ:fR:=rA λ d=>hJ ns (IW d) (Ø cE4)
variable{K:Aa}{ρ:Ey}{B:Ex}{H:Hp}
def jY:∀{ds:á}{ns:Ď}{xs:Β},cM7>=ns->sM->xs=Ľ
  | [],_,xs,h,r=>ac2 h r
  |.int n::ds,ns,xs,h,⟨x,q,e,a,b⟩=>by obtain⟨c,h1,rfl⟩:=bG5 (Ý (pc cM7 (n :: ·)>=ns) h);rw[e,a.aZ,jY h1 b];rfl
def uV:∀ns:Ď,lx Ľ Ľ
 | []=>rfl
 |n::ns=>A5 _ _ Jf (uV ns)
def Go:∀{kvs:Ϧ}{ns:Ď},bh1>=ns->bM6=ns.map .inl
  | [],_,h=>by cases h;rfl
  | (.inl n,d)::kvs,ns,h=>by obtain⟨a,h1,rfl⟩:=bG5 (Ý (pc bh1 (n :: ·)>=ns) h);rw[Bb,Bb,Go h1]
def uD(y:ϙ):bb3 IY wJ:=by
  intro j s σ H xs us Q I r h;obtain⟨ρ,B,hp,ds,d,hp',W,J,e,k⟩:=h;obtain⟨x,rfl,e⟩:=qE e;obtain⟨ns,hp1,b,t⟩:=ũ;obtain⟨rfl,rfl⟩:=Qk t;obtain⟨v,rfl,f⟩:=J.cu;have key:hp=hp1/\∃p,v=bB0/\R_ X.K H p ns:=by
    cases x with
    |lst P=>obtain⟨h1,rfl⟩:=xf b;obtain⟨a,ys,rfl,_,O,l⟩:=f.cD;exact Α rfl a (ê (jY h1 l▸O))
    |ref n =>
      obtain⟨o,hp2,u,c⟩:=Qg (Ý ((OU >>= λ o=>(match o with|.lst ds=>vX cM7|.aH kvs=>vX bh1|_=>failure:M Ď)) hp>=(ns,hp1)) b);obtain⟨i,rfl⟩:=ZW u;cases o with
      |lst P=>obtain⟨h1,rfl⟩:=xf c;obtain⟨a,rfl,_,ys,h2,C⟩:=sg f i;exact Α rfl a (ê (jY h1 C▸cK3))
      |aH kvs=>obtain⟨h1,rfl⟩:=xf c;obtain⟨a,rfl,_,L⟩:=sg f i;obtain⟨ys,h2,F⟩:=L.aH;exact Α rfl a (Ğ (da ys h2 (å F.to.1 (Go h1))))
      |ins _ _=>cases c
    |tup _=>cases b
    |non=>cases b
    |bl _=>cases b
    |int _=>cases b
    |str _=>cases b
  obtain⟨rfl,p,rfl,z⟩:=key;exact Qbh y j s σ H _ us Q I r (A5 p ns z (zr W (uV _) k))
abbrev bZ(K:Aa)(c:Str)(C:Addr):Û:=ς K c>=(è ↑C)
def bZ.uniq{K:Aa}{c:Str}{C C':Addr}(h:bZ K c C)(h':bZ K c C'):C=C':=by have e:=h.symm.trans h';cases e;rfl
structure ze(K:Aa)(c f:Str):Û where
 ex:∃C,bZ K c C/\cX0/\bG2 K f
structure XU(P:Program)(w:World)(K:Aa)(mg:Eu)(O8:Heap)(c m:Str)(k n:Nat)(F:Ez):Û where
 ex:∃(C f:Addr)(fd:FuncData)(ps:cr),bZ K c C/\cX0/\rD K C m f/\jq P w K mg O8 CX0 k f fd ps (lE K n F)/\ck6 K []
structure wF(P:Program)(w:World)(K:Aa)(mg:Eu)(O8:Heap)(c:Str)(k n:Nat)(F:Ez):Û where
 ex:∃(C f:Addr)(fd:FuncData)(ps:cr),bZ K c C/\mg c>=↑C/\Mk K C f/\jq P w K mg O8 CX0 k f fd ps (lE K n F)/\ck6 K []
section
variable{K:Aa}{ρ:Ey}{B:Ex}{H:Hp}{hp:Hs}
abbrev cA(K:Aa)(ρ:Ey)(B:Ex)(H:Hp):ay3->Δ cR7:=Paired λ p q=>ϰ=q.1/\o7 PP q.2
def T8:∀{fs:ay3}{xs:cR7},cU4=au9->lx (fs.map ϒ) (A4 ϒ)->cA K ρ B H fs xs
  | [],[],_,_=>mT
  | [],_::_,e,_=>c9 e
  |_::_,[],e,_=>c9 e
  |p::fs,q::xs,e,r=>by simp only[Bb,List.cons.injEq]at e;simp only[Bb]at r;unfold au at r;obtain⟨x,t,a,h1,h2⟩:=r;simp only[List.cons.injEq]at a;obtain⟨rfl,rfl⟩:=a;exact fX (Ĭ e.1.symm h1) (T8 e.2 h2)
def cA.to{fs:ay3}{xs:cR7}(r:cA K ρ B H fs xs):cU4=au9/\lx (fs.map ϒ) (A4 ϒ):=by
 induction r with
 |nil=>exact Ť au.nil
 |cons h _ a=>exact Ĭ (ky a.1 h.1) (Ä (PV h.2 a.2))
def cA.look{fs:ay3}{xs:cR7}(r:cA K ρ B H fs xs)(f:Str):(Ū cc7/\Ū (bX1 f))∨∃d v,cc7>=d/\bX1 f>=v/\ce2:=by
  induction r with
  |nil=>exact ê ft
  |@cons p q _ _ h _ b =>
    obtain⟨a,c⟩:=p;obtain⟨q1,i⟩:=q;obtain⟨h1,h2⟩:=h;have h1:a=q1:=h1;subst h1;cases e:f==a with
    |true=>exact Ğ ⟨c,i,ky List.lookup e,ky List.lookup e,h2⟩
    |false=>simpa [List.lookup,e]using b
def XS(f:Str)(d:DV):ay3->ay3
 | []=>[(f,d)]
 | (g,x)::r=>É (g=f) ((g,d)::r) ((g,x)::XS f d r)
def cA.put(r:cA K ρ B H fs xs)(f:Str)(rd:ce2):cA K ρ B H (XS f d fs) (qu f v xs):=by
  induction r with
  |nil=>exact cc3 rd mT
  |@cons p q _ _ h t b =>
    obtain⟨a,c⟩:=p;obtain⟨q1,i⟩:=q;obtain⟨h1,h2⟩:=h;have h1:a=q1:=h1;subst h1;unfold XS qu;by_cases e:a=f
    . rw[aL7,aL7];exact cc3 rd t
    . rw[OO,OO];exact cc3 h2 b
def cA.len{fs:ay3}{xs:cR7}(r:cA K ρ B H fs xs):aF1=ŕ:=PM r
def cA.gs(g:bg5)(r:cA K ρ B H fs xs):cA K ρ' B' H' fs xs:=L2.Paired.mapP r λ_ _ h=>Ĭ h.1 (aA.gs g _ _ h.2)
def bB.ins{a:Addr}{c:Str}(h:bB K ρ B H a bw0):∃C b xs,bZ K c C/\F6>=cy8/\cA K ρ B H fs xs:=by obtain⟨C,b,xs,i,e,f,j⟩:=h;exact⟨C,b,xs,i,e,T8 f j⟩
def cA.f9{a C b:Addr}{c:Str}(f:bZ K c C)(r:cA K ρ B H fs xs)(e:F6>=cy8):bB K ρ B H a bw0:=⟨C,b,xs,f,e,r.to.1,r.to.2⟩
def Qkl{n:Nat}{a C b:Addr}{c:Str}(W:bC4)(i:ρ[n]?>=a)(f:bZ K c C)(e:F6>=cy8)(r:cA K ρ B H fs' xs'):BR K B H ρ B (TB cz0)/\sP K B (μ n (Ϸ c fs')) (TB cz0):=by have g:BR K B H ρ B (TB cz0):=Gr.eX i e;exact Ĭ g (W.eX (o':=cz0) (v:=Ϸ c fs') i e ((r.gs cJ9).f9 f Q0))
#where
def o_{α:re}(c:Str)(x:DV)(k:NU (ay3->cA8)):cA8:=match x with
  |.ref n=>do
    match <- OU with
    |.ins a fs=>do QJ (oX a c);k n fs
    |_=>failure
  |_=>failure
def Va{α:re}{c:Str}{x:DV}{d:α}{k:NU (ay3->cA8)}{hp hp':Hs}(h:o_ c x k hp>=(d,hp')):∃n fs,x=LD/\bC5>=bw0/\k n fs hp>=(d,hp'):=by
  cases x with
  |ref n =>
    obtain⟨o,hp1,e,a⟩:=Qg (Ý ((OU >>= λ o=>(match o with|.ins b fs=>do QJ (oX b c);k n fs|_=>failure:cA8)) hp>=(d,hp')) h);obtain⟨f,rfl⟩:=ZW e;cases o with
    |ins b fs=>obtain⟨_,hp2,i,j⟩:=Qg a;obtain⟨l,rfl⟩:=QL i;obtain rfl:=Eo l;exact A5 n fs f j
    |lst _=>cases a
    |aH _=>cases a
  |non=>cases h
  |bl _=>cases h
  |int _=>cases h
  |str _=>cases h
  |tup _=>cases h
  |lst _=>cases h
def sG(c f:Str)(x:DV):į:=o_ c x λ_ fs=>m9 cc7
def su(c f:Str)(x d:DV):co0:=o_ c x λ n fs=>do QJ (AN aF1 FI);yn n (cS2 c f d fs)
def QX(c f:Str)(g:aJ):aJ:=FG (do let x <- SU;sG c f x)
def ZV(c f:Str)(a b:aJ):aG:=FG (do let y <- b env;let x <- bF4;su c f x y;cc0)
def GO(c f:Str)(e:DV->fS)(a b:aJ):aG:=FG (do let x <- bF4;let v <- sG c f x;let y <- b env;let z <- e v y;su c f x z;cc0)
def VL:DV->fS
 |.int i,.int j=>hA (i+j)
 |_,_=>failure
def Zd(c m:Str)(n:Nat)(F:Ez)(a:aJ)(fa:bR):aJ:=λ env=>do
 let x <- bF4
 o_ c x λ_ fs=>QJ (cE2).isNone
 let ds <- fa env
 QJ (oX (Ć+1) n)
 F (x::ds)
def K4(c:Str)(n:Nat)(F:Ez)(fa:bR):aJ:=λ env=>do
 let ds <- fa env
 QJ (oX (Ć+1) n)
 let x <- Xr (cS1 c)
 let r <- F (x::ds)
 match r with
 |.non=>bZ8
 |_=>failure
section
variable{X:Cx}{o e value:Expr}{c f m:Str}{pos pos' tpos apos:Pos}{fo fv:aJ}
def ML{K:Aa}{H:Hp}{hp hp':Hs}{v:V}(W:bC4)(r:o7 x v)(h:sG c f x hp>=(d,hp')):hp=hp'/\∃a C b xs u,v=ų/\bZ K c C/\F6>=cy8/\bX1 f>=u/\TK u:=by
 obtain⟨n,fs,rfl,l,t⟩:=Va h;obtain⟨j,rfl⟩:=xg t;obtain⟨a,rfl,i,I⟩:=sg r l;obtain⟨C,b,xs,y,e,F⟩:=I.ins;rcases F.look f with ⟨z,_⟩|⟨d',u,z,L,J⟩
 ·rw[j]at z;cases z
 ·rw[j]at z;cases z;exact⟨rfl,a,C,b,xs,u,rfl,y,e,L,J⟩
def WF{K:Aa}{H:Hp}{v y:V}{z:Unit}(W:bC4)(r:o7 x v)(rd:TK y)(h:su c f x d hp>=(z,hp')):∃a C b xs,v=ų/\bZ K c C/\F6>=cy8/\ŕ<FI/\BR K B H ρ B (TB (cy7 (qu f y xs)))/\sP K B hp' (TB (cy7 (qu f y xs))):=by obtain⟨n,fs,rfl,u,F⟩:=Va h;obtain⟨_,hp1,I,J⟩:=Qg F;obtain⟨L,rfl⟩:=QL I;cases J;obtain⟨a,rfl,i,O⟩:=sg r u;obtain⟨C,b,xs,j,e,l⟩:=O.ins;obtain⟨g,t⟩:=Qkl W i j e (l.put f rd);exact⟨a,C,b,xs,rfl,j,e,æ l.len (Eo L),g,t⟩
def QO(t:ze X.K c f)(z:bb o fo)(r:LO o f aU2=aU2:=by rfl):bb (ť o f pos) (QX c f fo) :=
 aa1 (Qns z r) (λ σ H Q b=>by obtain⟨Z,env,ρ,B,hp,d,hp',S,e,k⟩:=b;obtain⟨x,hp1,j,l⟩:=ũ;refine P9 j v J ?_;obtain⟨rfl,a,C,i,xs,u,rfl,I,n,y,L⟩:=ML S1.wo J l;obtain⟨O,F,h,na⟩:=t.ex;obtain rfl:=I.uniq F;exact⟨a,C,i,xs,u,rfl,n,h,na,y,k u ρ1 B1 H1 g1 S1.wo L⟩)
def ZE(F:ze X.K c f)(J:bb o fo)(P:bb value fv)(O:ap8 value (è (ť o f pos'))=N7:=by rfl):DS X (cX6 [ť o f pos'] value) (ZV c f fo fv) :=
 L2.PS.imp (QnJ J P O) λ D σ H h=>by obtain⟨Z,env,ρ,B,hp,fl,b,hp',S,e,k⟩:=h;obtain⟨y,hp1,l,e⟩:=ũ;obtain⟨x,hp2,n,e⟩:=ũ;obtain⟨z,L,r,e⟩:=ũ;obtain⟨q,rfl⟩:=IT;cases q;refine P9 l u U (aB3 n (λ v ρ2 B2 H2 g2 S2 Y=>?_));obtain⟨a,C,j,xs,rfl,R,t,I,g,W⟩:=WF S2.wo Y (dr g2 _ _ U) r;obtain⟨C',Q,i,na⟩:=F.ex;obtain rfl:=R.uniq Q;exact⟨a,C,j,xs,rfl,t,i,na,I,k σ ρ2 B2 _ ((EA g).gs S.wo.rb) (S2.grow g W)⟩
def VX(hk:ze X.K c f)(ho:bb o fo)(hv:bb value fv):DS X (.AugAssign (ť o f tpos) .Add value pos) (GO c f VL fo fv) :=
 L2.PS.imp (Qg7 ho hv QmT) λ D σ H J=>by
  obtain⟨Z,env,ρ,B,hp,fl,r,hp',S,e,k⟩:=J;obtain⟨x,hp1,P,e⟩:=ũ;obtain⟨v,hp2,Q,e⟩:=ũ;obtain⟨y,a8,R,e⟩:=ũ;obtain⟨z,dw,b,e⟩:=ũ;obtain⟨_,mV,U,e⟩:=ũ;obtain⟨q,rfl⟩:=IT;cases q;refine P9 P vx F ?_;obtain⟨rfl,a,C,O,xs,u,rfl,t,Y,hl,ru⟩:=ML S1.wo F Q;obtain⟨C',mJ,L,na⟩:=hk.ex;obtain rfl:=t.uniq mJ;refine⟨a,C,O,xs,u,rfl,Y,L,na,hl,aB3 R (λ w ρ2 B2 H2 g2 S2 r2=>?_)⟩;have tE:=dr g2 _ _ ru;have l:=dr g2 _ _ F;unfold VL at b;split at b
  ·obtain⟨rfl,rfl⟩:=Qk b;refine⟨_,_,tE.aZ,r2.aZ,?_⟩;obtain⟨a',C2,h,n,q1,I,i,j,g,W⟩:=WF S2.wo l Jf U;cases q1;obtain rfl:=I.uniq t;exact⟨h,n,i,j,k σ ρ2 B2 _ ((EA g).gs S.wo.rb) (S2.grow g W)⟩
  ·cases b
def QiN{C:Addr}{n:Nat}{F:Ez}(Y:bZ X.K c C)(h:tD X.K (Zd c m n F fo fa) σ H Q):Iz C m (lE X.K n F) [] E0 (tD X.K fo) (fG X.K fa) σ H Q:=by
 obtain⟨Z,env,ρ,B,hp,d,hp',S,e,k⟩:=h;obtain⟨x,hp1,y,e⟩:=ũ;obtain⟨_,hp2,I,e⟩:=ũ;obtain⟨ds,b,J,e⟩:=ũ;obtain⟨_,dw,L,P⟩:=ũ;obtain⟨R,rfl⟩:=QL L;refine P9 y v l ?_;obtain⟨i,fs,rfl,w1,w2⟩:=Va I;obtain⟨j,rfl⟩:=QL w2;obtain⟨a,rfl,_,ro⟩:=aA.bC S1.wo l w1;obtain⟨C',u,xs,U,O,rf⟩:=ro.ins;obtain rfl:=U.uniq Y;have hx:Ū (bX1 m):=by
  rcases rf.look m with ⟨_,z⟩|⟨_,_,z,_,_⟩
  ·exact z
  ·rw[z]at j;cases j
 refine bE7 a u xs O hx (fG.run S1 J λ vs ρ2 t H2 g2 S2 r=>?_);refine⟨?_,ρ2,t,b,_,d,hp',S2.wo,?_,P,AK ag1⟩
 ·rw[Br,Ba,<- lc];exact Eo R
 ·rw[Br];exact PV (dr g2 _ _ l) r
def ZH{k j n:Nat}{F:Ez}{es:Ϡ}{pl:aM7}(h:XU X.prog X.w X.K X.mg X.O8 c m j n F)(v:bb2)(r:j<=k)(hx:qh CX0 X E0)(u:bb o fo)(i:DA X (e::es) fa)
  (hst:cQ3=ž e::bu8:=by rfl) (hpl:ė ((aq0).any ļ):=by rfl)
  (ht:Ù (bT3 o m (e::es))=(do
   let ov <- aU2
   ad1
   let (f,first) <- OF [ov] (af0 ov m)
   aW4 pos f first (e::es) cF5):=by rfl):bb (bT3 o m (e::es)) (Zd c m n F fo fa):=by
 obtain⟨C,g,fd,ps,x,b,t,a,l⟩:=h.ex;exact aa1 (Qlp (pl:=pl) u b t a (v.mono r) l mT hx i hst hpl ht) (λ σ H Q q=>QiN x q)
def Z3{k j n:Nat}{F:Ez}{pl:aM7}(h:XU X.prog X.w X.K X.mg X.O8 c m j n F)(hr:bb2)(Y:j<=k)(hx:qh CX0 X E0)(ho:bb o fo)
  (ht:Ù (bT3 o m [])=(do
   let ov <- aU2
   ad1
   let (f,first) <- OF [ov] (af0 ov m)
   aW4 pos f first [] cF5):=by rfl):bb (bT3 o m []) (Zd c m n F fo Qj):=by
 obtain⟨C,g,fd,ps,nc,u,hm,t,U⟩:=h.ex;refine aa1 (Qjc (pl:=pl) ho u hm t (hr.mono Y) U mT hx ht) (nL σ H Q q);obtain⟨Z,env,ρ,B,hp,d,hp',S,e,k⟩:=q;obtain⟨x,hp1,I,e⟩:=ũ;obtain⟨_,hp2,J,e⟩:=ũ;obtain⟨ds,a8,L,e⟩:=ũ;obtain⟨_,dw,O,R⟩:=ũ;obtain⟨hl,rfl⟩:=QL O;obtain⟨rfl,rfl⟩:=Qk L;refine P8 I v r l ?_;obtain⟨i,fs,rfl,w1,w2⟩:=Va J;obtain⟨b,rfl⟩:=QL w2;obtain⟨a,rfl,_,ro⟩:=aA.bC S1.wo l w1;obtain⟨C',y,xs,mJ,P,rf⟩:=ro.ins;obtain rfl:=mJ.uniq nc;have hx:Ū (bX1 m):=by
  rcases rf.look m with ⟨_,z⟩|⟨_,_,z,_,_⟩
  ·exact z
  ·rw[z]at b;cases b
 exact⟨a,y,xs,rfl,P,hx,Eo hl,ρ1,r,hp1,_,d,hp',S1.wo,PV l au.nil,R,bM5⟩
def Qhf{k:Nat}{C g:Addr}{b:Et}{σ:St}{H:Hp}{s:Shared}{Q:VK}{us:ó}{vs:Β}(M:Mk X.K C g)(F:jq X.prog X.w X.K X.mg X.O8 CX0 k g fd ps sp)(O:Room (k+1) X.A)(L:ck6 X.K [])
    (hx:qh CX0 X E0) (I:cD0 b) (r:f8 vs)
    (h:∀x a,ū x->ū a->a≠x->Ū (NY x)->sp (ë x::vs) (cm7 (TB (.own x)) x a []) (λ v H2=>v=ī/\bq9 x H2) E0) :
    cF6 (call ↑C us) X b Q s:=by
  have kf:Ū (NY EV):=by
    cases q:NY EV with
    |none=>rfl
    |some o=>exact ď (Ap (I.kIn _ _ q)) (Nat.not_lt.mpr lP)
  have j:=h _ _ (nt lP) ba1 (Bf (C6 _)) kf;have J:=Inv.made (C:=C) I;have l:Vals (V.ref EV::vs) (Τ EV::us):=cc2 r;have P:⇑((Τ EV::us)++[])=dO:=aG3 Br ⇑l (F.len _ _ _ _ j)
  have i:=L _ (Τ EV::us) J.kIn P;rw[Br]at i;refine wpAny_call (QiL (f:=g) I.kIn M.makes M.init (beq_iff_eq.mp M.fn) (br5 (F.run _ X.stack _ _ (wP (Τ EV::us)) _ _ _ E0 (O.make C us []) (J.env0.make C us []) i l j) q s' z));cases q with
  |error e=>exact hx b σ _ _ e s' J z
  |ok y =>
    cases y with
    |ret u=>obtain⟨v,H',n,U,t,R⟩:=J.after z;subst t;exact Ĭ U (dE (V.ref EV) H' n R)
    |next=>exact z.elim
    |brk=>exact z.elim
    |cont=>exact z.elim
def QiK{C:Addr}{n:Nat}{F:Ez}{K:Aa}{hp hp':Hs}{ds:á}{d:DV}{Q:VK}(L:bZ K c C)(J:Ć+1=n)(W:bC4)(r:mS vs)
  (e:(do let x <- Xr (cS1 c);let r <- F (x::ds);match r with|.non=>bZ8|_=>failure:į) hp>=(d,hp')) (k:iT K ρ B H d hp' Q) :
  ∀x a,ū x->ū a->a≠x->LS x->lE K n F (ë x::vs) (cm7 (TB (.own x)) x a []) (λ v H2=>v=ī/\bq9 x H2) E0:=by
 intro x a hx h ne kf;have j:F (cs9::ds) (hp++[cS1 c])>=(ī,hp')/\d=cs9:=by
  obtain⟨y,hp1,u,z⟩:=ũ;cases u;obtain⟨y,hp2,I,b⟩:=Qg z;cases y with
  |non=>obtain⟨rfl,rfl⟩:=Qk b;exact õ I
  |bl _=>cases b
  |int _=>cases b
  |str _=>cases b
  |tup _=>cases b
  |lst _=>cases b
  |ref _=>cases b
 obtain⟨j,rfl⟩:=j;have i:Ū (upd H a (.own x) x):=iL (Ş ne) hx
 have g0:BR K B H ρ B (TB (.own x)):=aG5 h;have g1:BR K B (TB (.own x)) (ρ++[x]) (zX B x) (cm7 (TB (.own x)) x a []):=Gr.dH i kf;have l:aO K (ρ++[x]) (zX B x) (hp++[cS1 c]) (cm7 (TB (.own x)) x a []):=(W.laid h).dH i kf (cA.f9 L mT Q0);have t:aA K (ρ++[x]) (zX B x) (cm7 (TB (.own x)) x a []) bT ↑x:=ń aA (cR3 x W.len)
 refine⟨?_,ρ++[x],zX B x,hp++[cS1 c],cs9::ds,ī,hp',l,PV t (br6 W.rb bW8 _ r),j,λ v ρ' B' H' g' W' O=>?_⟩
 ·rw[Ba,<- lc];exact J
 ·exact Ĭ O.h_ (k _ ρ' B' H' (å bW8 g') W' (bW0 l.rb g' _ t))
def Wo{k j n:Nat}{F:Ez}{es:Ϡ}{p:Pos}(h:wF X.prog X.w X.K X.mg X.O8 c j n F)(P:bb2)(J:j+1<=k)(hx:qh CX0 X E0)(x:DA X (e::es) fa)(z:be5 c:=by rfl)
  (hdb:bl7 c:=by decide) (he:cQ3=ž e::bu8:=by rfl) (hpl:ė ((aq0).any ļ):=by rfl):bb (NL c p (e::es)) (K4 c n F fa):=by
 obtain⟨C,g,fd,ps,R,O,M,a,y⟩:=h.ex;intro i s σ H Q I q;obtain⟨Z,env,ρ,B,hp,d,hp',S,e,k⟩:=q;obtain⟨ds,hp1,l,t⟩:=ũ;obtain⟨_,hp2,u,v⟩:=Qg t;obtain⟨L,rfl⟩:=QL u;refine wm (Ms I z O ?_ hdb);refine PySem.W.callWith_K (h₀:=X.O8) I.ok.mod.kin M.kp (fT (x pos i s σ H _ I (aA1 l (FK vs B1 b g1 S1 U (QiK (Q:=Q) R (Eo L) S1.wo U v bM5)))) us Y vs b I1 r q (CB I1.kIn)) he hpl;exact Qhf M a (P.mono J) y hx I1 r q
#where
def Rz{P:Program}{w:World}{K:Aa}{mg:Eu}{O8:Heap}{x a:Str}{g:Addr}{k:Nat}{c:aG}(F:Fun K x a stm g fd)(l:ğ N ps stm)
  (h:∀(b:Value)(A:Around)(outer:Lu)(s:Shared)(H:Hp)(E:XK),tf k (Ń a Ic g b)->iC (Kb CX0 P w K mg O8 N a Ic g b A outer s H E).nox at6 c) :
  jq P w K mg O8 CX0 (k+1) g fd ps (lE K dO (cB2 c)):=by
 refine F.ok l (λ vs H Q E h=>h.1) (λ b A outer s H vs Q E o sp=>?_);obtain⟨u,ρ,B,hp,ds,d,hp',W,r,e,k⟩:=sp;obtain⟨⟨j,f⟩,hp1,n,i⟩:=ũ;refine⟨_,h b A outer s H E o,da ρ B H,_,ρ,B,hp,j,f,hp1,Ui W r,n,bF5 σ' ρ' B' H' g' S'⟩;cases j with
 |nx=>obtain⟨rfl,rfl⟩:=Qk i;exact k ī ρ' B' H' S'.gr S'.wo xi
 |rt x=>obtain⟨rfl,rfl⟩:=Qk i;exact λ v t=>k v ρ' B' H' S'.gr S'.wo t
 |bk=>cases i
 |ct=>cases i
def QiM{P:Program}{w:World}{K:Aa}{mg:Eu}{O8:Heap}{c m a:Str}{C g:Addr}{k:Nat}{e:aG}(o:bZ K c C)(l:cX0)(n:rD K C m g)(F:Fun K m a stm g fd)(i:ğ N ps stm)
  (hb:∀(kV f r:Value)(j:OK)(b ct:Value)(us:ó),cG8=dO->an4 (PySem.W.fnOf m a (J6 stm) at6 Ic bE kV f r j b ct) us=Ô ED)
  (h:∀(b:Value)(A:Around)(outer:Lu)(s:Shared)(H:Hp)(E:XK),tf k (Ń a Ic g b)->iC (Kb CX0 P w K mg O8 N a Ic g b A outer s H E).nox at6 e) :
  XU P w K mg O8 c m (k+1) dO (cB2 e):=⟨C,g,fd,ps,o,l,n,Rz F i h,F.binds hb⟩
def Qit{P:Program}{w:World}{K:Aa}{mg:Eu}{O8:Heap}{c a:Str}{C g:Addr}{k:Nat}{e:aG}(o:bZ K c C)(l:mg c>=↑C)(n:Mk K C g)(F:Fun K ac5 a stm g fd)(i:ğ N ps stm)
  (hb:∀(kV f r:Value) (j:OK) (b ct:Value) (us:ó),cG8=dO->an4 (PySem.W.fnOf ac5 a (J6 stm) at6 Ic bE kV f r j b ct) us=Ô ED)
  (h:∀(b:Value)(A:Around)(outer:Lu)(s:Shared)(H:Hp)(E:XK),tf k (Ń a Ic g b)->iC (Kb CX0 P w K mg O8 N a Ic g b A outer s H E).nox at6 e) :
  wF P w K mg O8 c (k+1) dO (cB2 e):=⟨C,g,fd,ps,o,l,n,Rz F i h,F.binds hb⟩
section
variable{X:Cx}
def Pn:aG:=λ_=>failure
def QkK{a:Stmt}:DS X a Pn:=L2.PS.imp Qjq λ D σ H ⟨Z,env,ρ,B,hp,fl,env',hp',S,e,k⟩=>ĥ e
def CZ(i:Nat)(b:DV->fS)(a:aJ):aG:=FG (co8 v (Qb i env) y bF4 z (b v y) (bS (hL (Õ z))))
def Qku{i:Nat}{l:DV->fS}{g:Int->Int->Int}{D:KB}(r:∀v y z hp hp',l v y hp>=(z,hp')->∃a b,v=È a/\y=È b/\z=È (g a b)/\hp=hp')(h:mC X.K (CZ i l fe) D σ H):O_ i (tD X.K fe) (ipI g) D σ H:=by
  obtain⟨Z,env,ρ,B,hp,I,j,hp',S,e,k⟩:=h;obtain⟨v,hp1,c,e⟩:=ũ;obtain⟨y,hp2,n,e⟩:=ũ;obtain⟨z,t,o,e⟩:=ũ;obtain⟨q,rfl⟩:=IT;cases q;obtain⟨a,b,rfl,rfl,rfl,rfl⟩:=r _ _ _ _ _ o;have f:cc1 (Ö a)/\hp=hp1:=by
    unfold Qb at c;cases q:bB5 with
    |none=>rw[q]at c;cases c
    |some F =>
      rw[q]at c;cases F with
      |val d=>obtain⟨h1,h2⟩:=Qk c;exact Ĭ (nV h1) h2
      |un=>cases c
      |acc _=>cases c
  obtain⟨f,rfl⟩:=f;obtain⟨x,hx,C⟩:=S.slot i _ f;refine da x hx (P9 n w u ⟨a,b,C.aZ,u.aZ,k _ ρ1 B1 H1 ip (S1.set Jf)⟩)
def Qf8{v y z:DV}{hp hp':Hs}(h:VL v y hp>=(z,hp')):∃a b,v=È a/\y=È b/\z=È (a+b)/\hp=hp':=by
 unfold VL at h;split at h
 ·obtain⟨rfl,rfl⟩:=cB0;exact EC _ _ rfl rfl rfl
 ·cases h
def Qgu(i:Nat){x:Str}{pos a:Pos}(hN:X.N.Nodup)(b:bb e fe)(hi:ay9:=by rfl)(hx:iP x:=by first|exact ak0|exact aX0)(hf:EW x∨cY6:=by first|exact ı|exact Ty|assumption):DS X (.AugAssign (Of a) .Add e pos) (CZ i VL fe) :=
 L2.PS.imp (QnI hN hi hx b QmU hf) λ D σ H q=>Qku (λ_ _ _ _ _ h=>Qf8 h) q
#where
def W6{α β:re}(m:cA8)(k:α->M β)(hp:Hs):(m >>= k) hp=(m hp).bind λ p=>k ϰ PP:=by
 show(StateT.bind m k hp)=_;unfold StateT.bind;cases m hp with
 |none=>rfl
 |some p=>obtain⟨a,h⟩:=p;rfl
def run_pure{α:re}(a:α)(hp:Hs):(Ô a:cA8) hp>=(a,hp):=rfl
def Jx(hp:Hs)(k:Nat)(X:OV)(h:tF (E8 k)):(μ k X)[k]?>=X:=by
 have:k<ot:=by
  rcases Bh k ot with q|q
  ·exact q
  ·rw[C0 q]at h;cases h
 rw[Au this]
def Jg(hp:Hs)(k n:Nat)(X:OV)(h:k≠n):(μ k X)[n]?=bC5:=Am h
mutual
def bO(K:Aa):DV->Δ V
 |.non,v=>v=ī
 |.bl b,v=>v=LZ
 |.int i,v=>v=ng
 |.str x,v=>v=aJ4
 |.tup ds,v=>∃(a:Addr) (o:Obj) (c:Ļ) (n:Nat) (xs:Β),v=ų/\Ο a>=o/\o.cls=af9 /\ o.data=cz3 c n/\ÿ c.size/\au7 c.toList/\bQ K ds xs
 |_,_=>False
def bQ(K:Aa):á->bL4
 | [],xs=>xs=[]
 |d::ds,xs=>∃x r,xs=x::r/\bO K d x/\bQ K ds r
end
mutual
def bO.rep{K:Aa}{B:Ex}(c:∀a,B a->LS a):∀(d:DV)(v:V),bO K d v->ce2
  |.non,_,h=>x5 bO aA h
  |.bl _,_,h=>x5 bO aA h
  |.int _,_,h=>x5 bO aA h
  |.str _,_,h=>x5 bO aA h
  |.lst _,_,h=>bd bO h h.elim
  |.ref _,_,h=>bd bO h h.elim
  |.tup ds,_,h=>by unfold bO at h;unfold aA;obtain⟨a,o,b,n,xs,rfl,h1,h2,h3,h4,h5,e⟩:=h;exact bU4 a xs (λ z=>ĩ (c a z) h1 h1) (Ğ ⟨o,b,n,h1,h2,h3,h4,h5⟩) (bQ.rep c ds xs e)
def bQ.rep{K:Aa}{B:Ex}(b:∀a,B a->LS a):∀(ds:á)(xs:Β),bQ K ds xs->sM
  | [],_,h=>x5 bQ au h
  |d::ds,_,h=>by unfold bQ at h;unfold au;obtain⟨x,r,e,h1,h2⟩:=h;exact⟨x,r,e,bO.rep b d x h1,bQ.rep b ds r h2⟩
end
def LC{K:Aa}{a:Addr}{i:OK}{b:Ļ}{n:Nat}{j:an1}(h:Ο a>=(Nc af9 i (cz3 b n) j))(e:ÿ b.size)(f:cx0)(c:bQ K ds xs):bO K o0 Ŗ:=ń bO ⟨a,_,b,n,xs,rfl,h,rfl,rfl,e,f,c⟩
def Ru{K:Aa}:bO K ī ī:=fK bO
def Qm3{K:Aa}{i:Int}:bO K br0 br0:=fK bO
def kY{K:Aa}:bQ K [] []:=fK bQ
def jI{K:Aa}{d:DV}{x:V}(h:bO K d x)(h':bQ K ds r):bQ K (d::ds) (x::r):=ń bQ (A5 x r h h')
def QkF{X:Cx}{x:Str}{a:Addr}{pos:Pos}(c:cf8)(h:X.mg x>=Ŗ)(f:bO X.K o0 Ŗ)(hd:bn2:=by decide):bb ae6 (eC o0) :=
 (SJ (v:=ų) c h rfl hd).imp λ σ H Q b=>by obtain⟨Z,env,ρ,B,hp,d',hp',S,e,k⟩:=b;obtain⟨rfl,rfl⟩:=IT;exact cv3 S.wo (bO.rep S.wo.bk _ _ f)
def Ku{b:DV->aG}{d:DV}(h:b d env hp>=(ϧ aF,hp1)):Yb b (d::ds) env hp=Yb b ds aF hp1:=Ξ Yb NB
def VZ(hp:Hs)(x:OV)(t:Hs):(hp++x::t)[ot]?>=x:=Ê
def Fb(hp:Hs)(x y:OV)(t:Hs):(hp++x::t).set ot y=hp++y::t:=Ŷ (cm _ ę)
def MJ{hp:Hs}{n:Nat}(h:bC5>=x):μ n x=hp:=eP a rfl (Ac.mp h) (List.set_getElem_self a)
def T5{n i:Nat}{d:DV}(h:dC (Zg 0 n) d):i<n/\d=ú i:=eP h1 h2 (zD h) (Ĭ h1 (Ŷ h2))
def qP{n:Nat}(h:al8 n):Ĝ (qw oq):=WA À À
def Qk5{n i:Nat}(h:i<n):ixN n nW>=i:=by unfold ixN;rw[aL8,aL8];simp
def zH{f:lY}{g:iU}{r:(Fl × En)× Hs}(h:aT>=(T1,hp1))(h':xY T1 (Pp d env' (g d env) cL2) Ņ 0 env hp1>=r):qJ f g body env hp>=r:=ϻ qJ NB h'
def X0{f:lD}{g:iU}{r:(Fl × En)× Hs}(h:aT>=(ds,hp1))(h':Yb (Pp d env' (g d env) cL2) ds env hp1>=r):yh f g body env hp>=r:=ϻ yh NB h'
def QlR{m:Nat}(h:al8 m)(hp:Hs):pX [ú m] hp>=(Zg 0 m,hp):=by
 have e:pX [ú m]=Ô (Zg 0 (IS nC)):=by simp only[pX,qP h,QJ,if_true,Er]
 rw[e,B0];rfl
def yS{f:bR}{m:Nat}(h:aT>=([ú m],hp1))(a:al8 m):Gj f env hp>=(Zg 0 m,hp1):=ϻ Gj NB (QlR a hp1)
def Ye{f:aJ}(h:aT>=(fI,hp1)):cW f env hp>=(T1,hp1):=lw cW h
section
variable{X:Cx}
def JD(x:DV):fR
 | [y]=>A_ x λ n ds=>A_ y λ_ es=>do QJ (FX (Ć+⇑es) lim);yn n cF9;Ô ī
 |_=>failure
def YQ:MtR X "list.extend" (sW X.K JD):=by
 intro l s σ H x vs v us Q I rx rv h;obtain⟨ρ,B,hp,J,es,d,hp',W,C,F,e,k⟩:=h;unfold JD at e;split at e
 ·rename_i y;obtain⟨n,ds,rfl,h0,e⟩:=GK e;obtain⟨m,O,rfl,c,e⟩:=GK e;obtain⟨_,hp1,r,t⟩:=ũ;obtain⟨u,rfl⟩:=QL r;cases t;obtain⟨a,rfl,z,xs,h1,i⟩:=sg C h0;obtain⟨w,rfl,f⟩:=F.cu;obtain⟨b,rfl,L,ys,h2,j⟩:=sg f c;obtain⟨g,o⟩:=vA W z h1 (aW9 i j);exact QgT l s σ H _ _ v us Q I rx rv ⟨a,b,xs,ys,rfl,rfl,h1,h2,an7 ⇑i j (Bj (Eo u) Gv),k _ ρ B _ g o xi⟩
 ·cases e
#where
#print D
namespace L2
open PySem PySem.Spec PyProof.Rows
abbrev Yg(h:Heap)(z p o:Addr)(f:Value)(b:Bool):Û:=ż z (Ϗ cls (A0 nP) (bU9 #[f,bq0 b,bq0 false,Τ p,Τ o]))
structure ZU(h:Heap)(z p o i j a b:Addr)(n:Nat):Û where
 zz:∃f fl,Yg h z p o f fl/\(f=bE∨∃T:Nat,f=rawInt T)
 pp:IsPair h p ↑i ↑j
 oo:∃x y,IsPair h o x y
 ii:aV8 i a n
 jj:aV8 j b n
section
variable{prog:Program}{w:World}{A:Around}{E:Es}{s:Shared}
def QcX{a:Addr}{Q:Ð Obj->Ε}(h:Q (s.heap.get? a) s):ff w A (loadIfAlive a) Q E s:=by intro Γ p hΓ;unfold loadIfAlive;rw[Sem.wp_loadIfAlive];exact Ei (M:=al1) (A:=A) (E:=E) h Γ p hΓ
def Wb{z p o:Addr}{f:Value}{a:Bool}{Q:bD6 Ε}(zz:Yg s.heap z p o f a)(hf:f=bE∨∃T:Nat,f=rawInt T)(q1:Q true s)(b:∀g,Yg g z p o f true->bG8 z g->ac9 g.objs.size->Q false (LF g)):
    ff w A (NE z) Q E s:=by
  unfold Builtin.SmallTypes.ownedTupleIsFree;rcases hf with rfl|⟨T,rfl⟩
  . exact bo9 zz rfl x bE (Ei q1)
  . refine cY4 zz x (rawInt T)
    show nX _ (loadIfAlive (cU7 T)) _ _ _ _;refine Ef (QcX ?_);cases c:s.heap.get? (cU7 T) with
    |none=>exact Ei q1
    |some h =>
      show nX _ (aH0 z 1) _ _ _ _;refine cY4 zz x (E7 a);cases a with
      |true=>exact Ei (b _ zz (EJ e e) rfl)
      |false=>show nX _ (setField ↑z 1 Oy) _ _ _ _;exact Ef (mz zz (λ g z1 k1=>Ei (b g z1 k1.extBut k1.1)))
def Wa{z p o i j a b:Addr}{n:Nat}{xs ys:Ļ}{Q:Es}(D:ZA z p o i j a b)(S:ZU s.heap z p o i j a b n)(Y:Ų a xs)(hb:Ų b ys)(hx:xs[n]?>=x)(hy:ys[n]?>=y)
  (k:∀g,ZU g z p o i j a b (n+1)->IsPair g s.heap.objs.size x y->g.objs.size=EV->(∀c u,c≠z->c≠o->c≠i->c≠j->ô c u->cz8 c>=u)->Q Ķ (LF g)) :
  ff w A (bI2 [ë z]) (λ U s'=>∃v,U=tN (.ret v)/\Q v s') E s:=by
 obtain⟨⟨f,P,zz,hf⟩,pp,⟨u1,u2,oo⟩,ii,jj⟩:=S;have J:∀{g g':Heap}{q c:Addr}{vs:Ļ},Nn q g g'->c≠q->g.IsTuple c vs->g'.IsTuple c vs:=λ{g g' q c vs} sb hc ⟨L,e,r⟩=>da L (sb.extBut _ _ hc e) r;show nX _ (aH0 z 2) _ _ _ _;refine cY4 zz x ck2;show nX _ (aH0 z 3) _ _ _ _;refine cY4 zz x bB0;refine fz pp rfl ?_;show nX _ (NE z) _ _ _ _;refine Ef (Wb zz hf ?_ ?_)
 ·simp only[if_true];refine AF ?_;refine cY4 zz x (ë o);refine Ef (mz zz (Ł g1 z1 k1));replace z1:Yg g1 z p o aP2 P:=z1;refine aN1;simp only[List.zipIdx_cons,List.zipIdx_nil,List.forIn_cons,List.forIn_nil];refine aG0 ae1;show nX _ (ŧ i) _ _ _ _;refine Ef (xm bx5 (J k1 D.az Y) hx λ g2 X k2=>ph);have o2:IsPair g2 o u1 u2:=k2.extBut _ _ D.oi (bX2 _ D.oz oo);refine fz o2 rfl ?_;refine aB0 o2 (Ł g3 o3 k3);replace o3:IsPair g3 o x u2:=o3;refine az9 ph;refine aG0 ae1;show nX _ (ŧ j) _ _ _ _;refine Ef (xm (((ao1 k1.extBut).extBut k2.extBut D.ij.symm).extBut k3.extBut D.oj.symm) (J k3 D.bo (J k2 D.bi (J k1 D.bz hb))) hy λ g4 j4 k4=>ph);have o4:IsPair g4 o x u2:=k4.extBut _ _ D.oj o3;refine fz o4 rfl ?_;refine aB0 o4 (Ł h R k5);replace R:IsPair h o x y:=R;refine az9 (Ei ph);refine fz R rfl ?_;refine Ef (wpAny_newTuple ?_);have sz:ac9 h.objs.size:=by rw[k5.1,k4.1,k3.1,k2.1,k1.1]
  have z5:Yg h z p o aP2 P:=k5.extBut _ _ D.oz.symm (k4.extBut _ _ D.jz.symm (NR _ _ D.oz.symm _ _ D.iz.symm z1));have F:∀c u,c≠z->c≠o->c≠i->c≠j->ô c u->ż c u:=λ c u l O t C e=>k5.extBut _ _ O (k4.extBut _ _ C (NR _ _ O _ _ t (bX2 _ l e)));have i5:aV8 i a (n+1):=((X.extBut k3.extBut D.oi.symm).extBut k4.extBut D.ij).extBut k5.extBut D.oi.symm;have j5:aV8 j b (n+1):=j4.extBut k5.extBut D.oj.symm;have zl:bU3 z:=Ap z5;show nX _ (Builtin.SmallTypes.ownedTupleHandOut ↑z ↑h.objs.size) _ _ _ _;refine aN1;unfold Builtin.SmallTypes.ownedTupleHandOut;have z6:Yg (h.push (ϑ ņ (.seq #[x,y]))) z p o aP2 P:=jl z5;refine Ef (mz z6 (Ł g7 z7 k7));replace z7:Yg g7 z p o ci4 P:=z7;refine mz z7 (Ł I z8 k8);replace z8:Yg I z p o ci4 false:=z8;have up:∀c u,c≠z->ż c u->I.get? c>=u:=λ c u l e=>k8.extBut _ _ l (k7.extBut _ _ l FY);have t8:IsPair I h.objs.size x y:=k8.extBut _ _ (Ea zl) (k7.extBut _ _ (Ea zl) IE);have s8:I.objs.size=h.objs.size+1:=bf8 k8.1 k7.1 Cn
  refine aN3 _ ?_;show bq9 h.objs.size _;rw[sz]at z8 t8 s8;rw[sz];exact k I ⟨Nc _ _ z8 (Ğ aU3),up _ _ D.pz (F _ _ D.pz D.po D.pi D.pj pp),da x y (up _ _ D.oz R),i5.at λ u e=>up _ u D.iz e,j5.at λ u e=>up _ u D.jz e⟩ t8 s8 λ c u l O t C e=>up c u l (F c u l O t C e)
 ·intro g1 z1 k1 M4;simp only[Az,if_false];refine aN1;have BP:g1.IsTuple a xs:=aq9 L e r Y L (k1 _ _ D.az e) r;have Hh:g1.IsTuple b ys:=aq9 L e r hb L (k1 _ _ D.bz e) r;simp only[List.forIn_toArray,List.forIn_cons,List.forIn_nil];refine aG0 as8;show nX _ (ŧ i) _ _ _ _;refine Ef (xm (s:=LF g1) (NF k1) BP hx λ g2 X k2=>Ei ph);refine aG0 as8;show nX _ (ŧ j) _ _ _ _;refine Ef (xm (s:=LF g2) ((ao1 k1).extBut k2.extBut D.ij.symm) (J k2 D.bi Hh) hy λ g3 j3 k3=>Ei ph);refine ph;refine bF9 ?_ (a0 (ÿ (2:Nat)));have sz:ac9 g3.objs.size:=bf8 k3.1 k2.1 M4
  have F:∀c u,c≠z->c≠i->c≠j->ô c u->(g3.push (ϑ ņ (.seq #[x,y]))).get? c>=u:=λ c u l t C e=>jl (NR _ _ C _ _ t (k1 _ _ l e));have z3:Yg (g3.push (ϑ ņ (.seq #[x,y]))) z p o f true:=jl (NR _ _ D.jz.symm _ _ D.iz.symm z1);refine aN3 _ ?_;show bq9 g3.objs.size _;rw[sz];refine k _ ⟨Nc f true z3 hf,F _ _ D.pz D.pi D.pj pp,da u1 u2 (F _ _ D.oz D.oi D.oj oo),(X.extBut k3.extBut D.ij).at λ u e=>FY,j3.at λ u e=>FY⟩ ?_ (Ξ Cn sz) λ c u l _ t C e=>F c u l t C e;rw[<- sz];exact IE
def V_{z p o i j a b:Addr}{n:Nat}{xs ys:Ļ}{Q:PySem.Fin->Ε}(C:nI)(D:ZA z p o i j a b)(S:ZU s.heap z p o i j a b n)(J:Ų a xs)(U:Ų b ys)(X:Ū xs[n]?∨Ū ys[n]?)
    (k:∀g x,(∀c u,c≠z->c≠o->c≠i->c≠j->ô c u->cz8 c>=u)->(∃u,cz8 x>=u/\u.cls=ĭ ad5)->E ↑x (LF g)) :
    ff w A (bI2 [ë z]) Q E s:=by
  obtain⟨⟨f,I,zz,hf⟩,pp,⟨u1,u2,oo⟩,ii,jj⟩:=S;have v:∀{g g':Heap}{q c:Addr}{vs:Ļ},Nn q g g'->c≠q->g.IsTuple c vs->g'.IsTuple c vs:=λ{g g' q c vs} sb hc ⟨y,e,r⟩=>da y (sb.extBut _ _ hc e) r;show nX _ (aH0 z 2) _ _ _ _;refine cY4 zz x ck2;show nX _ (aH0 z 3) _ _ _ _;refine cY4 zz x bB0;refine fz pp rfl ?_;show nX _ (NE z) _ _ _ _;refine Ef (Wb zz hf ?_ ?_)
  . simp only[if_true]
    refine AF ?_;refine cY4 zz x (ë o);refine Ef (mz zz (Ł g1 z1 k1));replace z1:Yg g1 z p o aP2 I:=z1;refine aN1;simp only[List.zipIdx_cons,List.zipIdx_nil,List.forIn_cons,List.forIn_nil];refine aG0 ae1;show nX _ (ŧ i) _ _ _ _;cases hx:xs[n]? with
    |none =>
      refine Ef (DY C bx5 (v k1 D.az J) hx (nL g2 x k2 h2));obtain⟨O,h3,h4⟩:=h2;have z2:Yg g2 z p o aP2 I:=k2 _ _ D.iz.symm z1;have P:x≠z:=λ q=>by subst q;rw[z2]at h3;cases h3;simp at h4
      exact mz z2 (λ g3 _ k3=>k g3 x (λ c u l _ t _ e=>k3.extBut _ _ l (k2 _ _ t (bX2 _ l e))) (da O (k3.extBut _ _ P h3) h4))
    |some x0 =>
      have L:Ū ys[n]?:=by rcases X with h|h;rw[hx]at h;cases h;exact h
      refine Ef (xm bx5 (v k1 D.az J) hx λ g2 i2 k2=>ph);have o2:IsPair g2 o u1 u2:=k2.extBut _ _ D.oi (bX2 _ D.oz oo);refine fz o2 rfl ?_;refine aB0 o2 (Ł g3 o3 k3);refine az9 ph;refine aG0 ae1;show nX _ (ŧ j) _ _ _ _;refine Ef (DY C (((ao1 k1.extBut).extBut k2.extBut D.ij.symm).extBut k3.extBut D.oj.symm) (v k3 D.bo (v k2 D.bi (v k1 D.bz U))) L (nL g4 x k4 h2));obtain⟨O,h3,h4⟩:=h2;have z4:Yg g4 z p o aP2 I:=k4 _ _ D.jz.symm (NR _ _ D.oz.symm _ _ D.iz.symm z1);have P:x≠z:=λ q=>by subst q;rw[z4]at h3;cases h3;simp at h4
      exact mz z4 (λ g5 _ k5=>k g5 x (λ c u l c2 t F e=>k5.extBut _ _ l (k4 _ _ F (NR _ _ c2 _ _ t (bX2 _ l e)))) (da O (k5.extBut _ _ P h3) h4))
  . intro g1 z1 k1 M4
    simp only[Az,if_false];refine aN1;have R:g1.IsTuple a xs:=aq9 y e r J y (k1 _ _ D.az e) r;have Y:g1.IsTuple b ys:=aq9 y e r U y (k1 _ _ D.bz e) r;simp only[List.forIn_toArray,List.forIn_cons,List.forIn_nil];refine aG0 as8;show nX _ (ŧ i) _ _ _ _;cases hx:xs[n]? with
    |none=>exact Ef (DY (s:=LF g1) C (NF k1) R hx λ g2 x k2 h2=>k g2 x (λ c u l _ t _ e=>k2 _ _ t (k1 _ _ l e)) h2)
    |some x0 =>
      have L:Ū ys[n]?:=by rcases X with h|h;rw[hx]at h;cases h;exact h
      refine Ef (xm (s:=LF g1) (NF k1) R hx λ g2 i2 k2=>Ei ph);refine aG0 as8;show nX _ (ŧ j) _ _ _ _;exact Ef (DY (s:=LF g2) C ((ao1 k1).extBut k2.extBut D.ij.symm) (v k2 D.bi Y) L λ g3 x k3 h2=>k g3 x (λ c u l _ t F e=>k3 _ _ F (k2.extBut _ _ t (k1 _ _ l e))) h2)
#where
def ZU.at{h h':Heap}{z p o i j a b:Addr}{n:Nat}(S:ZU h z p o i j a b n)(k:∀c∈[z,p,o,i,j],∀u,ż c u->ķ c u):ZU h' z p o i j a b n:=by obtain⟨⟨f,l,zz,hf⟩,pp,⟨u1,u2,oo⟩,ii,jj⟩:=S;exact⟨Nc f l (k z Ê _ zz) hf,k p Ê _ pp,da u1 u2 (k o Ê _ oo),ii.at λ u e=>k i Ê u e,jj.at λ u e=>k j Ê u e⟩
inductive wD:Δ Expr
 |nm (x:Str) (p:Pos):wD (Of p)
 |tp (l:Ϡ) (k:Nat) (p:Pos):wD (.Tuple l k p)
def Qpf{prog:Program}{w:World}{A:Around}{E:Es}{s:Shared}(t:wD tg){z p o i j a b T:Addr}{n:Nat}{Q:cl0}(D:ZA z p o i j a b)(S:ZU s.heap z p o i j a b n)(h:∀h',ZU h' z p o i j a b n->bG8 z h'->Q () aE0):ff w A (br2 tg ↑z ↑T) Q E s:=by
  cases t with
  |nm x p'=>exact Ei (h s.heap S (EJ e e))
  |tp l k p' =>
    obtain⟨f,r,zz,hf⟩:=S.zz;unfold letOwnedTupleGo;refine cI1 zz ?_;dsimp only;split
    . refine AF ?_
      show ł _ (setField ↑z 0 bE) Q E s;obtain⟨_,pp,⟨u1,u2,oo⟩,ii,jj⟩:=S;exact mz zz (λ h' u c=>h h' ⟨Nc bE r u ı,c.extBut _ _ D.pz pp,da u1 u2 (c.extBut _ _ D.oz oo),NF c.extBut,ao1 c.extBut⟩ c.extBut)
    . exact Ei (h s.heap S (EJ e e))
def gI{P:Program}{w:World}{K:Aa}{tg:Expr}(ht:wD tg){z p o i j a b:Addr}(D:ZA z p o i j a b):sO P w K tg (wU K a b) [z,p,o,i,j] z (λ n h=>ZU h z p o i j a b n) where
 mem:=Ê
 obj:=λ n h S c l=>by
  obtain⟨⟨f,fl,zz,hf⟩,pp,⟨u1,u2,oo⟩,⟨oi,Q,ci,di⟩,⟨oj,R,cj,dj⟩⟩:=S;simp only[Bk,Ce,or_false]at l;rcases l with rfl|rfl|rfl|rfl|rfl
  ·exact cK6 zz (λ v q=>bb6 C (bU9 _=aG1) q C)
  ·exact cK6 pp (λ v q=>bb6 C (Data.seq _ _=aG1) q C)
  ·exact cK6 oo (λ v q=>bb6 C (Data.seq _ _=aG1) q C)
  ·exact da oi Q (λ v q=>ĩ di q q)
  ·exact da oj R (λ v q=>ĩ dj q q)
 keep:=λ n h h' S k=>S.at k
 item:=by
  intro X Y hw U l n O9 s σ H E I hf S hg;subst Y hw U;obtain⟨xs,ys,x,y,J,L,hx,hy⟩:=hg;obtain⟨ia,ra,pa,_⟩:=gd J;obtain⟨ib,rb,pb,_⟩:=gd L;obtain⟨u,hu,ru⟩:=ra.get hx;obtain⟨v,hv,rv⟩:=rb.get hy;obtain⟨f0,rT,t,mW⟩:=S.zz;have r:an6 z nP := bo8 t;unfold pyNext;refine Ef (wpAny_attempt (wpAny_callSpecial?_slot (name:=ow) r F.slot_zip_next (wpAny_call_entry F.slot_zip_next r F.entry_zip_next
   (Wa D S (bp4 a pa) (bp5 b pb) (Ä hu) (Ä hv) λ g' O tp sz kp=>ph) W0)))
  refine ĸ _ (Qpf (s:=LF g') ht D O (Ł g2 O kx));replace tp:=kx _ _ (Ea (Ap t)) tp;have a8:∀c q,c∉[z,p,o,i,j]->ô c q->g2.get? c>=q:=λ c q l e=>by simp only[Bk,Ce,or_false,not_or]at l;refine kx _ _ l.1 (kp c q l.1 l.2.2.1 l.2.2.2.1 l.2.2.2.2 e)
  have ne:∀c∈[z,p,o,i,j],tS c:=λ c l e=>by
   obtain⟨_,pp,⟨u1,u2,oo⟩,⟨oi,Q,_⟩,⟨oj,R,_⟩⟩:=S;simp only[Bk,Ce,or_false]at l;rcases l with rfl|rfl|rfl|rfl|rfl
   ·exact aX9 t e
   ·exact aX9 pp e
   ·exact aX9 oo e
   ·exact aX9 Q e
   ·exact aX9 R e
  refine⟨Κ,ak8 (ñ [x,y]),I.iG (t':=s.toks) hf a8 (us:=[u,v]) (fX ru (fX rv mT)) (a0 (ÿ 2)) (A5 _ tp _ rfl),rfl,
   ⟨_,x,y,ba1,λ a9 h=>Å (I.tuple_inj h J) hx,λ ad h=>Å (I.tuple_inj h L) hy,rfl,rfl⟩,O,Ź c l⟩
  rw[QP (ne c l)];exact(hf c l).1
 done:=by
  intro X Y hw U l n O9 s σ H E I hf S hg;subst Y hw U;obtain⟨xs,ys,J,L,hs⟩:=hg;obtain⟨ia,ra,pa,_⟩:=gd J;obtain⟨ib,rb,pb,_⟩:=gd L;have l1:=ra.length;have l2:=rb.length;obtain⟨f0,rT,t,mW⟩:=S.zz;have r:an6 z nP := bo8 t;unfold pyNext;refine Ef (wpAny_attempt (wpAny_callSpecial?_slot (name:=ow) r F.slot_zip_next (wpAny_call_entry F.slot_zip_next r F.entry_zip_next
   (V_ (ah4 l) D S (bp4 a pa) (bp5 b pb) (ac1 hs q q (ê č) (Ğ č)) (nL g x kp hx)) W0)))
  obtain⟨ox,h1,h2⟩:=hx;refine Ef (wpAny_isInstance (T := ad5) (b:=true) (da ox h1 h2) isSubtype_stop ?_);refine Ei (Ť (I.nM (t':=s.toks) hf (nL c q l e)));simp only[Bk,Ce,or_false,not_or]at l;exact kp c q l.1 l.2.2.1 l.2.2.2.1 l.2.2.2.2 e
 self:=bf0 S (by obtain⟨f0,rT,t,mW⟩:=S.zz;have r:Shared.TypeIs _ (Τ z) nP := bo8 t;refine cp5 r (FP F.slot_zip_iter r F.entry_zip_iter ?_ bX3);exact Ei ⟨_,rfl, nP, _,r,cH0,h⟩)
section
variable{X:Cx}{xn:Str}{p2:Pos}{O9:Et}{σ:L2.St}
def Ra{E:Es}{Q:Es}{a b:Addr}(I:Ϝ)(C:ch0 a)(J:ck5 H b)
  (k:∀(s':Shared) (z p o i j:Addr),Ŵ s'->ZA z p o i j a b->ZU s'.heap z p o i j a b 0->(∀c∈[z,p,o,i,j],U6 X O9 H c)->bq9 z s'):Ψ (call (ĭ nP) [ų,ca2]) Q E s:=by
 obtain⟨n,L,v,_⟩:=gd C;obtain⟨r,rb,x,_⟩:=gd J;refine callType_new F.called_zip Á (F.typeCall_zip_2 _ _) (F.newCall_zip_2 _ _) (λ obj=>F.args_object_init_3 obj _ _) F.entry_zip_new (Qmg a b n.toArray r.toArray) (AB (aJ0 a n.toArray v) (aJ0 b r.toArray x));have z1:l8 (wY s.heap a)=EV:=Cn ..;have z2:l8 (wX s.heap a b)=ċ 2:=Ξ Cn z1
 have z3:l8 (wW s.heap a b)=ċ 3:=Ξ Cn z2
 have z4:l8 (wV s.heap a b)=ċ 4:=Ξ Cn z3
 have h:(af3 a b).get? (l8 (wV s.heap a b))>=_:=IE;have g4:(af3 a b).get? (l8 (wW s.heap a b))>=_:=jl IE;have g3:(af3 a b).get? (l8 (wX s.heap a b))>=_:=bw6 IE;have g2:(af3 a b).get? (l8 (wY s.heap a))>=_:=bw6 (jl IE);have g1:az4 (af3 a b).get?>=_:=bw6 (bw6 IE);show _/\_;have kp:∀c o,ô c o->(af3 a b).get? c>=o:=λ c o e=>bw6 (bw6 FY);refine CB (bo8 h);rw[z2,z3,z4]at h;rw[z1,z2]at g3;rw[z3]at g4;rw[z1]at g2;rw[z4];have t:EI a:=ar8 o e v AJ
 have u:EI b:=ar8 o e x AJ
 have D:ZA (ċ 4) (ċ 2) (ċ 3) s.heap.objs.size EV a b:=by constructor<;>first|exact Bf t|exact Bf u|exact aM2 t (Ee _ _)|exact aM2 u (Ee _ _)|exact Bf À|exact Ea À
 have y:Ŵ (LF (af3 a b)):=I.kept (t':=s.toks) kp;have S:ZU (af3 a b) (ċ 4) (ċ 2) (ċ 3) s.heap.objs.size EV a b 0:=⟨Nc _ _ h ı,g3,cK6 _ g4,cj6 _ g1,cj6 _ g2⟩;refine k (LF (af3 a b)) _ _ _ _ _ y D S (Ź c l);have f:aa9 c:=by simp only[Bk,Ce,or_false]at l;rcases l with rfl|rfl|rfl|rfl|rfl<;>first|exact ę|exact Ee _ _
 exact I.fpOk f (nt f)
def Qmd(c:wD tg){R:It->eK}{E:Es}{a b:Addr}(I:Ϝ)(f:ch0 a)(h:ck5 H b)(q:R (wU X.K a b) H):
  Ψ (call (ĭ nP) [ų,ca2]) (λ v l=>Ψ (pyIter v) (PIE X O9 σ tg R) E l) E s :=
 Ra I f h λ s' z p o i j e D S hf=>(gI (K:=X.K) c D).self _ _ _ _ _ S ⟨_,[z,p,o,i,j],_,wU X.K a b,H,rfl,e,gI c D,S,hf,q⟩
def Qlu{p pos:Pos}(n:be5 nP)(o:eg nP)(l:PA X [x,y] ta)(t:Ñ [x,y]=[ž x,ž y]:=by rfl)(c:Ñ [y]=[ž y]:=by rfl):
    PI X (Ũ xn p2) (NL nP p [x,y]) (Qoz X.K ta):=by
  intro O9 s σ H R I h;refine Call_ (YO I n o boot_zip (ϗ (ō (l pos O9 s σ H _ I h) us J j) (Ξ t c) (û c)));obtain⟨vs,F,i,C,q1⟩:=j;obtain⟨a,b,xs,ys,e,u,v,q⟩:=q1;subst e;cases C with
  |cons r f =>
    cases f with
    |cons z f=>cases f;cases r;cases z;exact Qmd (.nm ..) i u v q
#where
#print L2
namespace D
open PySem PySem.Spec PyProof.Rows L2
section
variable{X:Cx}{xn:Str}{p2:Pos}{f g:aJ}
def Wl{p pos:Pos}(z:be5 nP)(C:eg nP)(hx:bb x f)(I:bb y g)(h:Ñ [x,y]=[ž x,ž y]:=by rfl)(c:Ñ [y]=[ž y]:=by rfl):
  DI X (Ũ xn p2) (NL nP p [x,y]) (kQ f g) :=
 L2.PI.imp (Qlu z C (xh hx (xh I pa_nil (û c)) (Ξ h c)) h c) λ σ H R l=>by obtain⟨Z,env,ρ,B,hp,ds,hp',S,e,k⟩:=l;obtain⟨d1,hp1,n,e⟩:=ũ;obtain⟨xs,hp2,o,e⟩:=ũ;obtain⟨rfl,rfl⟩:=qQ o;obtain⟨Q,F,r,e⟩:=ũ;obtain⟨ys,U,t,e⟩:=ũ;obtain⟨rfl,rfl⟩:=qQ t;obtain⟨rfl,rfl⟩:=IT;refine P9 n v O (aB3 r (λ u ρ2 B2 H2 g2 S2 P=>?_));obtain⟨a,vs,rfl,na,i,J⟩:=(dr g2 _ _ O).tupI;obtain⟨b,us,rfl,nb,j,L⟩:=P.tupI;exact⟨a,b,vs,us,rfl,i,j,k _ ρ2 B2 H2 ag1 S2.wo (QmW na i J nb j L)⟩
#where
#print D
namespace TR
structure Pg where
 lv:Nat
 ks:Ď
 ps:Ď
 hi:Č
 sd:wd
structure Sh where
 O4:Nat
 pg:bj2
 top:Nat
 rd:Int
 wr:Int
inductive bU where
 |find (k:Int)|put (k w:Int)|cut (k:Int)|stretch (l h:Int)
def bU.key:bU->Int
 |.find k=>k
 |.put k _=>k
 |.cut k=>k
 |.stretch l _=>l
structure Wk where
 O2:bU
 aim:Int
 O6:Nat
 place:wd
 O5:aq5
 O1:wd
 O3:Č
 pairs:bk2
 O7:Bool
inductive Row where
 |non
 |side (n t:Nat)
 |down (n t:Nat)
 |found (n:Nat) (w:Č)
 |put (n:Nat) (w:Č) (k:wd)
 |cut (n:Nat) (w:Č)
 |read (n:Nat) (ps:Ew) (t:Ð (Nat × Int))
 |told (n:Nat) (k:wd)
 |raised (n t:Nat)
def aL(ks:Ď)(k:Int):Nat:=⇑(ae2 x (FX x k))
def aU(ks:Ď)(k:Int):Nat:=⇑(ae2 x (AN x k))
def Ju(fs:aq5)(k:Nat):wd:=CD (fs.find? λ p=>bM2)
def xu(fs:aq5)(k v:Nat):aq5:=df (fs.any λ p=>bM2) (fs.map (λ p=>É (ϰ=k) (ϰ,v) p)) (fs++[(k,v)])
def Zy(p:Pg)(k:Int):Bool:=match p.hi with
 |none=>false
 |some h=>FX h k
def Q4(p:Pg)(k:Int):Č:=Af (oS=Pe) (aK4 oS)
def QM(p:Pg)(k w:Int):Pg:=Ė p ks (og oS++k::bm k) ps (OX oS++w::ad7 Pe)
def without(p:Pg)(k:Int):Pg:=Ė p ks (og oS++bm k) ps (OX oS++ad7 Pe)
def Zb(p:Pg)(k:Int)(c:Nat):Pg:=Ė p ks (og Pe++k::bm k) ps (OX (Pe+1)++ts::ad7 (Pe+1))
def mid(p:Pg):Nat:=Š / 2
def Zz(p:Pg):Nat:=É LJ (mid p) (mid p+1)
def J9(p:Pg):Int:=p.ks.getD (mid p) 0
def Q9(p:Pg)(n:Nat):Pg:=⟨p.lv,og (mid p),OX (Zz p),è (J9 p),è n⟩
def QR(p:Pg):Pg:=⟨p.lv,p.ks.drop (Zz p),ad7 (Zz p),p.hi,p.sd⟩
def Qt(S:Sh)(w:Wk)(n:Nat)(p:Pg):wd × Sh × Wk :=
 if cm0 Š then bV3 (Ė S pg (oh n p) wr cA2) bK7
 else (è Î,Ė S pg ((n4 [QR p]).set n (Fu p)) wr (cA2+1),{ w with O1:=è Î,aim:=J9 p,O6:=ST,place:=mI ST })
def Za(p:Pg)(l h:Int):bk2:=IP OI (λ q=>FX l q.1&&AN q.1 h)
def Jp(S:Sh)(w:Wk)(n:Nat)(p:Pg):Row × Sh × Wk:=match w.O2 with
  |.find _=>(.found n au4,S,bN2 au4)
  |.put _ x=>match Qt S (bK4 au4) n (at8 p x)with
    | (r,a,b)=>(.put n au4 r,a,b)
  |.cut _=>(.cut n au4,df (aq8 au4) (Ė S pg (oh n ap9) wr cA2) S,bN2 au4)
  |.stretch l h=>match p.hi,p.sd with
    |some x,some s=>if h<=x then (.read n (Za p l h) none,S,bN1 (ON (Za p l h)))
        else (.read n (Za p l h) (è (s,x)),S,bG0 w pairs (ON (Za p l h)) aim place cs8)
    |_,_=>(.read n (Za p l h) none,S,bN1 (ON (Za p l h)))
def JP(S:Sh)(w:Wk):Ð (Row × Sh × Wk) :=
  if Ĝ w.O7 then è (ī,S,w)else
  match ä ß with
  |none=>none
  |some p =>
    if Ϭ/\TU then
      match w.O1 with
      |none=>none
      |some k=>è (.raised S.top Î,cA3 S rd cc6 pg [cG5 [dX,Ϯ]] top Î wr cA2,bK7)
    else if Ĝ bx9 then
      match p.sd with
      |none=>none
      |some s=>è (.side ß s,sL,cg8 cs8)
    else if bb1 then
      match aK4 IB with
      |none=>none
      |some c=>è (.down ß c.toNat,sL,Ė w O5 (cM9 ß) place (è c.toNat))
    else if bm2 then
      match w.O1 with
      |none=>none
      |some k=>match Qt sL w ß cT5 with
        | (r,a,b)=>è (.told ß r,a,b)
    else è (Jp sL w ß p)
def qe{ks:Ď}(h:lS)(k:Int):EF i8=ae2 x (FX x k)/\OZ i8=ae2 x (AN k x):=by
  unfold aL;induction ks with
  |nil=>simp
  |cons x xs j =>
    obtain⟨h1,h2⟩:=Co.mp h;by_cases q:x<=k
    . obtain⟨f,i⟩:=j h2
      have b:¬ k<x:=À
      simp[As,q,b,f,i]
    . have e:bh2 y (FX y k)=[]:=ba7 y a y a
      have c:bh2 y (AN k y)=xs:=tY Cu y a y a
      have b:k<x:=À
      simp[As,q,b,e,c]
def zJ{ks:Ď}(h:lS)(k:Int):EF oQ=ae2 x (AN x k)/\OZ oQ=ae2 x (FX k x):=by
  unfold aU;induction ks with
  |nil=>simp
  |cons x xs j =>
    obtain⟨h1,h2⟩:=Co.mp h;by_cases q:x<k
    . obtain⟨f,i⟩:=j h2
      have b:¬ k<=x:=À
      simp[As,q,b,f,i]
    . have e:bh2 y (AN y k)=[]:=ba7 y a y a
      have c:bh2 y (FX k y)=xs:=tY Cu y a y a
      have b:k<=x:=À
      simp[As,q,b,e,c]
def Xb(ks:Ď)(k:Int):i8<=bw:=Ca _ _
def VP(ks:Ď)(k:Int):oQ<=bw:=Ca _ _
def ko(ks:Ď)(k:Int):oQ<=i8:=by
  unfold aU aL;induction ks with
  |nil=>simp
  |cons x xs a =>
    by_cases q:x<k
    . have:x<=k:=À
      simp[As,q,this,a]
    . by_cases b:x<=k
      . simp[As,q,b];lia
      . simp[As,q,b,a]
def QhT{ks:Ď}(h:lS)(k:Int):i8<=oQ+1:=by
  unfold aU aL;induction ks with
  |nil=>simp
  |cons x xs b =>
    obtain⟨h1,h2⟩:=Co.mp h;by_cases q:x<k
    . have:x<=k:=À
      have:=b h2;simp[As,q, *]
    . have e:bh2 y (FX y k)=[]:=ba7 y a y a
      by_cases c:x<=k<;>simp[As,q,c,e]
def Gk{ks:Ď}(h:lS)(k:Int):aV2 (EF oQ++k::OZ i8) aI:=by
 rw[(zJ h k).1,(qe h k).2];rw[Bu];refine da bh3 (Co.mpr (Ĭ (Ź y a) bh3)) cU1
 ·simpa using ah2 a
 ·have h1:x<k:=bR3 hx
  rcases Nm a with rfl|a
  ·exact h1
  ·have h2:k<y:=bR3 a
   lia
def yT{ks:Ď}(h:lS){k x:Int}(hx:x∈EF oQ++k::OZ i8):x=k∨x∈ks:=by
 rcases bx0 with hx|hx
 ·exact Ğ (Bw hx)
 ·rcases Nm hx with rfl|hx
  ·exact ı
  ·exact Ğ (Cc hx)
def Qds{ks:Ď}(h:lS)(k:Int):aV2 (EF oQ++OZ i8) aI:=by
 rw[(zJ h k).1,(qe h k).2];rw[Bu];refine da bh3 bh3 cU1;have h1:x<k:=bR3 hx
 have h2:k<y:=bR3 a
 lia
def Wn{ks:Ď}{k x:Int}(hx:x∈EF oQ++OZ i8):x∈ks:=by
 rcases bx0 with hx|hx
 ·exact Bw hx
 ·exact Cc hx
def R6{ks:Ď}(h:k∉ks):oQ=i8:=by
 unfold aU aL;congr 1;apply List.filter_congr;intro x hx;have:x≠k:=λ e=>h (e▸hx);by_cases q:x<k
 ·have:x<=k:=À
  simp[q,this]
 ·have:¬ x<=k:=À
  simp[q,this]
def jD(fs:aq5)(k v j:Nat):Ju (xu fs k v) j=É (j=k) Oa (Ju fs j):=by
  unfold xu Ju;by_cases h:Ĝ (fs.any λ p=>bM2)
  . rw[cH1]
    induction fs with
    |nil=>simp at h
    |cons p fs b =>
      simp only[Bb,B7];by_cases q:ϰ=k
      . by_cases e:j=k
        . subst e;simp[q]
        . have:¬ k=j:=λ z=>e z.symm
          simp only[q,if_true,this,decide_false];by_cases h2:Ĝ (fs.any λ p=>bM2)
          . have:=b h2;simpa [e]using this
          . have a:fs.map (λ p=>É (ϰ=k) (ϰ,v) p)=fs:=by
              conv=>rhs;rw[<- aY0 fs]
              apply List.map_congr_left;intro x hx;have:¬ x.1=k:=λ z=>h2 (Å List.any_eq_true (da x hx (Ä z)));simp[this]
            rw[a,OO]
      . have h2:Ĝ (fs.any λ p=>bM2):=ad4 Ct q
        have:=b h2;simp only[q,if_false];by_cases e:ϰ=j
        . have:¬ j=k:=λ z=>q (aW3 z)
          simp[e,this]
        . simpa [e]using this
  . rw[Eg h,List.find?_append]
    have c:∀p∈fs,¬ ϰ=k:=λ p hp z=>h (Å List.any_eq_true (da p hp (Ä z)));by_cases e:j=k
    . subst e
      have:Ū (fs.find? (λ p=>bM1 j)):=by rw[List.find?_eq_none];intro p hp;simpa using c p hp
      simp[this]
    . have:¬ k=j:=λ z=>e z.symm
      simp[this,e]
def bU.far:AD bU
 |.stretch _ _=>true
 |_=>false
inductive Vw(S:Sh)(w:Wk):Row->Sh->Δ Wk
 |raised {p:Pg} {k:Nat}:aw ß->Ϭ/\TU->cx9->Vw S w (.raised S.top Î) (cA3 S rd cc6 pg [cG5 [dX,Ϯ]] top Î wr cA2) bK7
 |side (n s:Nat):Vw S w (.side n s) sL (cg8 cs8)
 |down (n c:Nat) (f:aq5):Vw S w (.down n c) sL (Ė w O5 f place bA9)
 |told {p:Pg} {k n:Nat}:aw ß->¬ (Ϭ/\TU)->bm2->cx9->Vw S w (.told n (Qt sL w ß cT5).1) (TW sL ß cT5).1 (TW sL ß cT5).2
 |found (n:Nat) (x:Č):w.O6=0->ė w.O2.far->Vw S w (.found n x) sL (bN2 x)
 |put {p:Pg} {n:Nat} {k x:Int} (y:Č):w.O2=.put k x->aw ß->LJ->w.O6=0->Vw S w (.put n y (Qt sL (bK4 y) ß (at8 p x)).1) (FH sL (bK4 y) ß (at8 p x)).1 (FH sL (bK4 y) ß (at8 p x)).2
 |cut {p:Pg} (n:Nat) (y:Č) (b:Bool):aw ß->LJ->w.O6=0->ė w.O2.far->Vw S w (.cut n y) (df b { S with rd:=cc6,pg:=oh ß ap9,wr:=cA2 } sL) (bN2 y)
 |last (n:Nat) (ps:Ew):w.O6=0->Ĝ w.O2.far->Vw S w (.read n ps none) sL (bN1 (ON ps))
 |next {p:Pg} {n s:Nat} {ps:Ew} {x:Int}:aw ß->aL5 x->w.O6=0->Ĝ w.O2.far->Vw S w (.read n ps (è (s,x))) sL (bG0 w pairs (ON ps) aim place cs8)
inductive V2(S:Sh)(w:Wk)(n:Nat)(p:Pg):Row->Sh->Δ Wk
 |raised {k:Nat}:Ϭ/\TU->cx9->V2 S w n p (.raised S.top Î) (cA3 S rd cc6 pg [cG5 [dX,Ϯ]] top Î wr cA2) bK7
 |side {s:Nat}:¬ (Ϭ/\TU)->Ĝ bx9->cl5->V2 S w n p (.side n s) sL (cg8 cs8)
 |down {c:Int}:¬ (Ϭ/\TU)->¬ Ĝ bx9->bb1->aK4 IB>=c->V2 S w n p (.down n c.toNat) sL (Ė w O5 cN0 place (è c.toNat))
 |told {k:Nat}:¬ (Ϭ/\TU)->¬ Ĝ bx9->¬ bb1->bm2->cx9->V2 S w n p (.told n (Qt sL w n cT5).1) (bS6 sL cT5).1 (bS6 sL cT5).2
 |leaf {r:Row} {S':Sh} {w':Wk}:¬ (Ϭ/\TU)->¬ Ĝ bx9->¬ bb1->w.O6=0->Jp sL w n p=(r,S',w')->V2 S w n p r S' w'
def Vy{S i:Sh}{w l:Wk}{r:Row}(n:je)(h:JP S w>=(r,i,l)):∃p,aw ß/\V2 S w ß p r i l:=by
 unfold JP at h;rw[cH2 n]at h;split at h
 ·cases h
 ·rename_i p hp;refine AB p hp;split at h
  ·rename_i a;split at h
   ·cases h
   ·rename_i k e;cases h;exact .raised a e
  ·rename_i a;split at h
   ·rename_i b;split at h
    ·cases h
    ·rename_i s f;cases h;exact .side a b f
   ·rename_i b;split at h
    ·rename_i hd;split at h
     ·cases h
     ·rename_i c f;cases h;exact .down a b hd f
    ·rename_i hd;split at h
     ·rename_i j;split at h
      ·cases h
      ·rename_i k e;cases h;exact .told a b hd j e
     ·rename_i j;exact .leaf a b hd À (Ak h)
def xl{w f:Wk}{r:Row}(i:je)(h:JP S w>=(r,S',f)):Vw S w r S' f:=by
  obtain⟨p,hp,v⟩:=Vy i h;cases v with
  |raised a b=>exact .raised hp a b
  |side=>exact .side _ _
  |down=>exact .down _ _ _
  |told a _ _ j b=>exact .told hp a j b
  |leaf _ _ hd g0 e =>
    have c:LJ:=À
    unfold Jp at e;split at e
    . rename_i hd;cases e;exact .found _ _ g0 ct1
    . rename_i k x hd
      cases e;exact .put _ hd hp c g0
    . rename_i hd;cases e;exact .cut _ _ _ hp c g0 ct1
    . rename_i hd
      split at e
      . rename_i x s hx l
        split at e
        . cases e;exact .last _ _ g0 ct1
        . cases e;exact .next hp hx g0 ct1
      . cases e;exact .last _ _ g0 ct1
abbrev Bg:=NU Č
def leB(b:Č)(x:Int):Û:=∀v,b>=v->v<=x
def ltB(b:Č)(x:Int):Û:=∀v,b>=v->v<x
def iu(x:Int)(h:Č):Û:=∀v,h>=v->x<v
def cF(b c:Č):Û:=∀v,b>=v->∃u,c>=u/\v<=u
def cF.refl(b:Č):cF b b:=λ v h=>da v h am3
def cF.trans{a b c:Č}(h:cF a b)(g:cF b c):cF a c:=λ v e=>by obtain⟨u,f,j⟩:=h v e;obtain⟨x,i,l⟩:=g u f;exact da x i À
def cF.leB{a b:Č}{x:Int}(h:cF a b)(g:leB b x):leB a x:=λ v e=>by obtain⟨u,c,f⟩:=h v e;have:=g u c;lia
def Z8(b:Č)(ks:Ď):NU Č
 |0=>b
 |j+1=>ks[j]?
structure Jh(O4:Nat)(b:Č)(p:Pg):Û where
 sorted:rS
 few:Š<=O4
 parts:Ϲ=Š+É LJ 0 1
 low:∀k∈p.ks,leB b k
 dW:Ql->∀k∈p.ks,ltB b k
 high:∀k∈p.ks,RO k
 wide:∀h,cW1->ltB b h
structure Tree(S:Sh)(bg:Bg):Û where
 bx:cm0 2
 root:∃r:Pg,NJ r/\AZ n p (dA->p.lv<=r.lv)
 j_:Ū (bg S.top)
 page:AZ n p (dA->bh5 S.O4 p)
 link:AZ n p (dA->(aZ2/\bv5)∨∃(h:Int)(s:Nat)(q:Pg),cW1/\cl5/\rq s/\bE0/\bg s>=h)
 kid:AZ n p (dA->Ql->∀j k,aK4 j>=k->Sf c q (k=ts/\rq c/\ci2/\bh4=cg5 j))
 dis:∀(n m:Nat)(p q:Pg),dA->bS3->rL q.lv->n≠m->(∃h v,cW1/\bg m>=v/\h<=v)∨(∃h v,q.hi>=h/\ň>=v/\h<=v)
 pred:AZ n p (dA->∀v,ň>=v->Sf m q (bS3/\bE0/\q.hi>=v))
def Tree.uniq{S:Sh}{bg:Bg}(T:we){n m:Nat}{p q:Pg}(c:dA)(b:bS3)(e:rL q.lv)(a:ň=bg m):n=m:=by
 rcases Nat.decEq n m with h|h
 ·exfalso;rcases T.dis n m p q c b e h with ⟨x,v,h1,h2,h3⟩|⟨x,v,h1,h2,h3⟩
  ·have:=(eW n p c).wide x h1 v (a.trans h2);lia
  ·have:=(eW m q b).wide x h1 v (a.symm.trans h2);lia
 ·exact h
structure bf(S:Sh)(bg:Bg)(S':Sh)(aN:Bg):Û where
 old:AZ n p (dA->aN n=ň/\∃p':Pg,cG9 n>=p'/\ci1 p'.lv)
def bf.refl:aH3 S S bg:=⟨λ n p h=>Nc rfl p h rfl⟩
def bf.trans(a:aK3)(b:bf S' aN SV HY):aH3 S SV HY:=⟨λ n p h=>by obtain⟨c,j,h1,f⟩:=a.old n p h;obtain⟨e,l,h2,i⟩:=b.old n j h1;exact Nc (aW3 c) l h2 (i.trans f)⟩
def aY(S:Sh)(k:Nat):Û:=AZ n p (dA->Ql->Ϯ∉p.ps)
structure aO(S:Sh)(bg:Bg)(w:Wk):Û where
 at_:∀n:Nat,tR n->∃p:Pg,dA/\cH4/\cx5
 none_:Ϭ->∀l f,mI l>=f->Fa l
 kept:∀l f,mI l>=f->∃p:Pg,aw f/\rL l
 above:AZ n p (tR n->dA->∀l f,mI l>=f->p.lv<l->cF (bg f) ň)
 chain:∀l f l' f',mI l>=f->mI l'>=f'->cH3 l->l<l'->cF (bg f') (bg f)
 gap:AZ n p (tR n->dA->bb1->∀l f,mI l>=f->Fa l∨p.lv<l)
 full:AZ n p (tR n->dA->∀l' f',mI l'>=f'->∀l,p.lv<l->l<=l'->∃f,mI l>=f)
 tell:bm2->Sf k q (cx9/\rq k/\ci0=w.O6/\bg k>=w.aim)
def aO.fresh{w:Wk}(h1:Ϭ)(h2:w.O5=[])(h3:w.O6=0):cy9 where
 at_:=λ n h=>ĩ h1 h h
 none_:=λ_ l f h=>ĩ h2 h h
 kept:=λ l f h=>ĩ h2 h h
 above:=λ n p h=>ĩ h1 h h
 chain:=λ l f b a h=>ĩ h2 h h
 gap:=λ n p h=>ĩ h1 h h
 full:=λ n p h=>ĩ h1 h h
 tell:=λ h=>À
def JM{α:re}{xs:To}{n m:Nat}{x y:α}(h:(xs.set n x)[m]?>=y):(m=n/\y=x/\n<ŕ)∨(m≠n/\xs[m]?>=y):=by
 by_cases e:m=n
 ·subst e;by_cases a:m<ŕ
  ·rw[Au a]at h;cases h;exact ê (ĸ rfl a)
  ·rw[C0 cs0]at h;cases h
 ·rw[n9 e]at h;exact pS e h
def T3{α:re}{xs:To}{n m:Nat}{x y:α}(h:xs[m]?>=y):(xs.set n x)[m]?>=(É (m=n) x y):=by
 have a:=aR4;by_cases e:m=n
 ·subst e;rw[Au a,sj]
 ·rw[n9 e,h,OO]
def Tree.write{S:Sh}{bg:Bg}(T:we){n:Nat}{p p':Pg}{x y:Int}(I:dA)(F:ci1 p'.lv)(z:p'.hi=p.hi)(J:p'.sd=p.sd)(ok:bh5 S.O4 p')
  (hk:Ql->∀j k,p'.ps[j]?>=k->Sf c q (k=ts/\rq c/\ci2/\bh4=Z8 ň p'.ks j)) :
  ş (bG0 S pg (oh n p') rd wr y)/\aH3 S (bG0 S pg (oh n p') rd wr y) bg:=by
 have old:AZ m q (bS3->∃f:Pg,(oh n p')[m]?>=f/\f.lv=q.lv/\f.hi=q.hi/\f.sd=q.sd):=λ m q h=>by
  refine AB _ (T3 h);by_cases e:m=n
  ·subst e;rw[I]at h;cases h;simp[F,z,J]
  ·simp[e]
 have new:AZ m f ((oh n p')[m]?>=f->∃q:Pg,bS3/\f.lv=q.lv/\f.hi=q.hi/\f.sd=q.sd):=λ m f h=>by
  rcases JM h with ⟨rfl,rfl,_⟩|⟨_,h⟩
  ·exact⟨p,I,F,z,J⟩
  ·exact dE f h rfl rfl
 refine Ĭ ⟨T.bx,?_,T.j_,Ł m q h,Ł m q h,λ m q h h0 j k C=>?_,λ a b q r P R Q e=>?_,TZ m q h v U⟩ ⟨λ m q h=>Ť (by obtain⟨f,h1,h2,_⟩:=old m q h;exact da f h1 h2)⟩
 ·obtain⟨r,h1,h2⟩:=T.root;obtain⟨i,h3,h4,_⟩:=old _ _ h1;exact da i h3 (λ m q h=>by obtain⟨o,h5,u,_⟩:=new m q h;rw[u,h4];exact h2 m o h5)
 ·rcases JM h with ⟨rfl,rfl,_⟩|⟨_,h⟩
  ·exact ok
  ·exact eW m q h
 ·obtain⟨o,h1,h2,h3,h4⟩:=new m q h;rcases T.link m o h1 with ⟨a,b⟩|⟨x,s,r,a,b,c,d,e⟩
  ·exact n5 (h3.trans a) (h4.trans b)
  ·obtain⟨i,l,t,_⟩:=old s r c;exact Ğ ⟨x,s,i,h3.trans a,h4.trans b,l,bf8 t d h2,e⟩
 ·rcases JM h with ⟨rfl,rfl,_⟩|⟨_,h⟩
  ·obtain⟨c,r,h1,h2,h3,h4⟩:=hk À j k C;obtain⟨i,l,t,_⟩:=old c r h2;exact⟨c,i,h1,l,À,h4⟩
  ·obtain⟨c,r,h1,h2,h3,h4⟩:=T.kid m q h h0 j k C;obtain⟨i,l,t,_⟩:=old c r h2;exact⟨c,i,h1,l,À,h4⟩
 ·obtain⟨o,h1,h2,h3,_⟩:=new a q P;obtain⟨X,h5,u,O,_⟩:=new b r R;rw[h3,O];exact T.dis a b o X h1 h5 À e
 ·obtain⟨o,h1,h2,_⟩:=new m q h;obtain⟨a,r,h3,h4,h5⟩:=T.pred m o h1 v U;obtain⟨i,l,t,L,_⟩:=old a r h3;exact⟨a,i,l,À,L.trans h5⟩
def Qv{α:re}{xs:To}{x:α}{m:Nat}{y:α}(h:(xs++[x])[m]?>=y):(m=ŕ/\y=x)∨xs[m]?>=y:=by
 rcases Bh m ŕ with q|q
 ·rw[Ah q]at h;exact Ğ h
 ·rw[Aq q]at h;by_cases e:m-ŕ=0
  ·rw[e]at h;simp at h;exact n5 À h.symm
  ·rw[C0 č]at h;cases h
def J5{α:re}{xs:To}{x:α}{m:Nat}{y:α}(h:xs[m]?>=y):(xs++[x])[m]?>=y:=Å (Ah aR4) h
def Zl{α:re}{xs:To}{m:Nat}{y:α}(h:xs[m]?>=y):m<ŕ:=aR4
def Yl(bg:Bg)(l:Nat)(k:Č):Bg:=λ i=>É (i=l) k (bg i)
def ux{bg:Bg}{l:Nat}{k:Č}{i:Nat}(h:i<l):Yl bg l k i=bg i:=Ż Yl aE
def Jm{l:Nat}{k:Č}:Yl bg l k l=k:=Ż Yl sj
section
variable{S:Sh}{bg:Bg}{n:Nat}{p P:Pg}
def Y2(h3:1<=Ν):P.ks[ES]?>=Ff:=by
 have:ES<Ν:=cN1 mid
 unfold J9;rw[Cp,Ab this];rfl
def X2{ks:Ď}(h:lS){i j:Nat}{x y:Int}(hi:EB ks)(e:ks[j]?>=y)(c:i<j):x<y:=aE2 a rfl hi b rfl (Ac.mp e) (Cq.mp h i j a b c)
def kW(ok:bh5 Ν P)(h3:3<=Ν):ltB ň Ff:=by intro v c;have h0:P.ks[0]?>=(P.ks[0]' À):=Ab _;have a:=ok.low _ (B8 (À:0<Ν)) v c;have b:=X2 ok.sorted h0 (bc0 P P) (cN1 mid);lia
def Qnh(ok:bh5 Ν P)(h3:3<=Ν)(j:Ν<=S.O4+1)(l:Nat):bh5 S.O4 (Q9 P l) where
 sorted:=ok.sorted.sublist (aW7 _)
 few:=by show CS Th<=_;rw[A9];unfold mid;lia
 parts:=aA4 (CS bX4=⇑Th+É (P.lv=0) 0 1) A9 A9 Zz mid this
 low:=λ k a=>ok.low k (Bw a)
 dW:=λ h k a=>ok.dW h k (Bw a)
 high:=λ k a v f=>by
  cases f;obtain⟨i,hi,e⟩:=Cs.mp a;simp only[Q9,C1]at e;have b:i<ES:=by have:=hi;rw[tz ((Q9 P l).ks=Th),A9]at this;lia
  exact X2 ok.sorted (i:=i) (æ e (Ab _)) (bc0 P P) b
 wide:=λ h c=>ac2 c (kW ok h3)
def Qne(ok:bh5 Ν P)(h3:3<=Ν)(j:Ν<=S.O4+1):Jh S.O4 as4 tU where
 sorted:=ok.sorted.sublist (List.drop_sublist _ _)
 few:=by show CS aa7<=_;rw[Bp];unfold Zz mid;split<;>lia
 parts:=aA4 (CS (P.ps.drop OY)=⇑aa7+É (P.lv=0) 0 1) Bp Bp Zz mid this
 low:=λ k b v c=>by
  cases c;obtain⟨i,hi,e⟩:=Cs.mp b;rw[tz ((tU).ks=aa7)]at hi;have hi2:OY+i<Ν:=by rw[Bp]at hi;lia
  have a:P.ks[OY+i]?>=k:=by rw[<- e];rw[Ab hi2];simp[QR]
  rcases Bh ES (OY+i)with q|q
  ·exact Cj (X2 ok.sorted (bc0 P P) a q)
  ·have:ES=OY+i:=by unfold Zz at q ⊢;split<;>simp_all<;>lia
   rw[<- this,bc0 P P]at a;cases a;lia
 dW:=λ h k b v c=>by
  cases c;obtain⟨i,hi,e⟩:=Cs.mp b;rw[tz ((tU).ks=aa7)]at hi;have hi2:OY+i<Ν:=by rw[Bp]at hi;lia
  have a:P.ks[OY+i]?>=k:=by rw[<- e];rw[Ab hi2];simp[QR]
  have h':0<P.lv:=h;exact X2 ok.sorted (bc0 P P) a (by unfold Zz;rw[aE];lia)
 high:=λ k b=>ok.high k (Cc b)
 wide:=λ h f v c=>ac2 c (ok.high _ (Aw (bc0 P P)) h f)
def Tree.split(T:we){x y:Int}(u:dA)(hl:ci3)(hh:P.hi=p.hi)(hs:P.sd=p.sd)(ok:bh5 Ν P)(h1:S.O4<Ν)(h2:Ν<=S.O4+1)
  (hk:Ql->∀j k,P.ps[j]?>=k->Sf c q (k=ts/\rq c/\ci2/\bh4=Z8 ň P.ks j)) :
  Tree (bG0 S pg ((bP4).set n Fv) rd wr y) (Yl bg Î as4)/\aH3 S (bG0 S pg ((bP4).set n Fv) rd wr y) (Yl bg Î as4):=by
 have r2:=T.bx;have h3:3<=Ν:=À
 have ae:=Zl u;have kg:=bc0 P P;have kl:=kW ok h3;have kh:∀h,cW1->Ff<h:=λ h e=>ok.high _ (Aw kg) h (cN2 e);have bo:∀m q,bS3->Yl bg Î as4 m=bg m:=λ m q h=>ux (Zl h);have old:AZ m q (bS3->∃U:Pg,((bP4).set n Fv)[m]?>=U/\U.lv=q.lv/\(m≠n->U=q)/\(m=n->U=Fv)):=λ m q h=>by
  refine⟨_,T3 (J5 h),?_,λ e=>nV OO,λ e=>nV aL7⟩;by_cases e:m=n
  ·subst e;rw[u]at h;cases h;rw[sj];exact hl
  ·rw[OO]
 have gl:((bP4).set n Fv)[Î]?>=tU:=bF3 (Am À) aW6
 have gn:((bP4).set n Fv)[n]?>=Fv:=nV (Au č)
 have new:AZ m q (((bP4).set n Fv)[m]?>=q->(m=n/\q=Fv)∨(m=Î/\q=tU)∨(m≠n/\bS3)):=λ m q h=>by
  rcases JM h with ⟨a,b,_⟩|⟨a,b⟩
  ·exact n5 a b
  ·rcases Qv b with c|c
   ·exact Ğ (ê c)
   ·exact Ğ (pS a c)
 have pq:ci1 (Fv).lv:=hl;have R:ci1 (tU).lv:=hl;refine Ĭ ⟨r2,?_,?_,Ł m q h,Ł m q h,λ m q h h0 j k hj=>?_,λ a b q r ha L F e=>?_,TZ m q h v O⟩ ⟨λ m q h=>Ĭ (bo m q h) (by obtain⟨U,a,b,_⟩:=old m q h;exact da U a b)⟩
 ·obtain⟨r,a,b⟩:=T.root;obtain⟨r',c,d,_⟩:=old _ _ a;refine da r' c (Ł m q h);rcases new m q h with ⟨_,rfl⟩|⟨_,rfl⟩|⟨_,h⟩
  ·rw[pq,d];exact b n p u
  ·rw[R,d];exact b n p u
  ·rw[d];exact b m q h
 ·obtain⟨r,a,_⟩:=T.root;rw[Ý (Yl bg Î as4 S.top=bg S.top) (bo _ _ a)];exact T.j_
 ·rcases new m q h with ⟨rfl,rfl⟩|⟨rfl,rfl⟩|⟨_,h⟩
  ·rw[bo _ _ u];exact Qnh ok h3 h2 _
  ·rw[Jm];exact Qne ok h3 h2
  ·rw[bo _ _ h];exact eW m q h
 ·rcases new m q h with ⟨rfl,rfl⟩|⟨rfl,rfl⟩|⟨_,h⟩
  ·exact Ğ (bV2 Ff Î tU rfl gl rfl Jm)
  ·rcases at9 n u with ⟨a,b⟩|⟨z,s,r,a,b,c,d,e⟩
   ·exact n5 (cN2 a) (hs.trans b)
   ·obtain⟨r',I,Y,_⟩:=old s r c;exact Ğ ⟨z,s,r',cN2 a,hs.trans b,I,bf8 Y d R,bu6 _ _ c e⟩
  ·rcases T.link m q h with ⟨a,b⟩|⟨z,s,r,a,b,c,d,e⟩
   ·exact n5 a b
   ·obtain⟨r',I,Y,_⟩:=old s r c;exact Ğ ⟨z,s,r',a,b,I,Ξ Y d,bu6 _ _ c e⟩
 ·have Q:∀{b0:Č}{Hf:Ď}{j0:Nat}{X:Č}{G_:Ď}{l1:Nat},Z8 b0 Hf j0=Z8 X G_ j->ci1 l1->Sf c q (k=ts/\rq c/\ci2/\bh4=Z8 b0 Hf j0)->Sf c q (k=ts/\((bP4).set n Fv)[c]?>=q/\ci0=l1/\Yl bg Î as4 c=Z8 X G_ j):=λ{b0 Hf j0 X G_ l1} e el aD=>by obtain⟨c,q,o,f,C,a4⟩:=aD;obtain⟨U,I,Y,_⟩:=old c q f;exact⟨c,U,o,I,À,bf8 (bo _ _ f) a4 e⟩
  rcases new m q h with ⟨rfl,rfl⟩|⟨rfl,rfl⟩|⟨_,h⟩
  ·rw[pq]at h0;have hc:OY=ES+1:=Ż Zz aE
   have ad:j<ES+1:=by have:=Zl hj;rw[tz ((Fv).ps=bX4),A9,hc]at this;lia
   have a9:P.ps[j]?>=k:=by rw[tz ((Fv).ps=bX4),B9 À]at hj;exact hj
   refine Q ?_ pq (hk h0 j k a9);rw[bo _ _ u];cases j with
   |zero=>rfl
   |succ i=>show ŵ P.ks=ŵ Th;rw[B9 À]
  ·rw[R]at h0;have hc:OY=ES+1:=Ż Zz aE
   have a9:P.ps[ES+1+j]?>=k:=by rw[tz ((tU).ps=P.ps.drop OY),Cb,hc]at hj;exact hj
   refine Q ?_ R (hk h0 _ k a9);rw[Jm];cases j with
   |zero=>show P.ks[ES+0]?>=Ff;exact kg
   |succ i=>show P.ks[ES+1+i]?=ŵ aa7;rw[Cb,hc]
  ·obtain⟨c,r,o,f,C,a4⟩:=T.kid m q h h0 j k hj;obtain⟨r',I,Y,_⟩:=old c r f;exact⟨c,r',o,I,À,bf8 (bo _ _ f) (bo _ _ h) a4⟩
 ·have on:AZ b r (b≠n->av b r->rL r.lv->(∃h v,(Fv).hi>=h/\Yl bg Î as4 b>=v/\h<=v)∨(∃h v,r.hi>=h/\Yl bg Î as4 n>=v/\h<=v)):=λ b r a8 L n6=>by
   rcases T.dis n b p r u L n6 (Ş a8)with ⟨h,v,o,f,C⟩|⟨h,v,o,f,C⟩
   ·exact ê (A5 Ff v (bu6 _ _ L f) (Ě (kh h o)))
   ·exact Ğ ⟨h,v,o,bu6 _ _ u f,C⟩
  have nn:AZ b r (b≠n->av b r->rL r.lv->(∃h v,(tU).hi>=h/\Yl bg Î as4 b>=v/\h<=v)∨(∃h v,r.hi>=h/\Yl bg Î as4 Î>=v/\h<=v)):=λ b r a8 L n6=>by
   rcases T.dis n b p r u L n6 (Ş a8)with ⟨h,v,o,f,C⟩|⟨h,v,o,f,C⟩
   ·exact ê ⟨h,v,cN2 o,bu6 _ _ L f,C⟩
   ·exact Ğ ⟨h,Ff,o,Jm,Ě (kl v f)⟩
  rcases new a q ha with ⟨rfl,rfl⟩|⟨rfl,rfl⟩|⟨na,J⟩
  ·rcases new b r L with ⟨rfl,rfl⟩|⟨rfl,rfl⟩|⟨nb,t⟩
   ·exact aA7 e
   ·exact ê (A5 Ff Ff Jm am3)
   ·exact on b r nb t (an9 F pq)
  ·rcases new b r L with ⟨rfl,rfl⟩|⟨rfl,rfl⟩|⟨nb,t⟩
   ·exact Ğ (A5 Ff Ff Jm am3)
   ·exact aA7 e
   ·exact nn b r nb t (an9 F R)
  ·rcases new b r L with ⟨rfl,rfl⟩|⟨rfl,rfl⟩|⟨nb,t⟩
   ·exact(on a q na J (Ξ F pq)).symm
   ·exact(nn a q na J (Ξ F R)).symm
   ·rcases T.dis a b q r J t F e with ⟨h,v,o,f,C⟩|⟨h,v,o,f,C⟩
    ·exact ê ⟨h,v,o,bu6 _ _ t f,C⟩
    ·exact Ğ ⟨h,v,o,bu6 _ _ J f,C⟩
 ·have pr:AZ l z (av l z->z.hi>=v->Sf m q (((bP4).set n Fv)[m]?>=q/\bD9 z.lv/\q.hi>=v)):=λ l z hz O=>by
   by_cases e:l=n
   ·subst e;rw[u]at hz;cases hz;exact⟨_,_,gl,R,cN2 O⟩
   ·obtain⟨z',I,Y,c3,_⟩:=old l z hz;exact⟨l,z',I,Y,Å (c3 e) O⟩
  rcases new m q h with ⟨rfl,rfl⟩|⟨rfl,rfl⟩|⟨nm,h⟩
  ·rw[bo _ _ u]at O;obtain⟨a,z,X,b2,b3⟩:=T.pred m p u v O;obtain⟨c,z',d1,d2,d3⟩:=pr a z X b3;exact⟨c,z',d1,bf8 d2 b2 pq,d3⟩
  ·rw[Jm]at O;exact⟨n,_,gn,Ξ pq R,O⟩
  ·rw[bo _ _ h]at O;obtain⟨a,z,X,b2,b3⟩:=T.pred m q h v O;obtain⟨c,z',d1,d2,d3⟩:=pr a z X b3;exact⟨c,z',d1,Ξ d2 b2,d3⟩
#where
section
variable{S:Sh}{bg:Bg}{n:Nat}{p:Pg}
def Tree.raise(T:we){r q:Pg}{k:Nat}{aim x y:Int}(P:NJ r)(J:rq k)(hl:bD9 r.lv)(hb:bg k>=aim):
    Tree (cA3 S rd x pg [OA (r.lv+1) [aim] [dX,Ϯ]] top Î wr y) (Yl bg Î none)/\aH3 S (cA3 S rd x pg [OA (r.lv+1) [aim] [dX,Ϯ]] top Î wr y) (Yl bg Î none):=by
  have r2:=T.bx;have O:AZ m z (av m z->z.lv<=r.lv):=λ m z h=>by obtain⟨r',a,b⟩:=T.root;rw[P]at a;cases a;exact b m z h
  have bo:AZ m z (av m z->Yl bg Î none m=bg m):=λ m z h=>ux (Zl h);have gl:(n4 [(OA (r.lv+1) [aim] [dX,Ϯ]:Pg)])[Î]?>=(OA (r.lv+1) [aim] [dX,Ϯ]):=Ê
  refine Ĭ ⟨r2,cK6 gl (Ł m z h),Jm,Ł m z h,Ł m z h,λ m z h h0 j c l=>?_,λ a b z L ha I t e=>?_,TZ m z h v f⟩ ⟨λ m z h=>Nc (bo m z h) z (J5 h) rfl⟩
  . rcases Qv h with ⟨_,rfl⟩|h
    . exact ę
    . exact ar9 (O m z h)
  . rcases Qv h with ⟨rfl,rfl⟩|h
    . rw[Jm]
      exact⟨Ê,lL (cm0 1),Ê,λ k J v f=>ĥ f,λ_ k J v f=>ĥ f,λ k J v f=>ĥ f,au6 h hh hh⟩
    . rw[bo _ _ h];exact eW m z h
  . rcases Qv h with ⟨rfl,rfl⟩|h
    . exact ê ft
    . rcases T.link m z h with a|⟨z1,s,z2,a,b,c,d,e⟩
      . exact ê a
      . exact Ğ ⟨z1,s,z2,a,b,J5 c,d,bu6 _ _ c e⟩
  . rcases Qv h with ⟨rfl,rfl⟩|h
    . match j,l with
      |0,l=>cases l;exact EC S.top r rfl (J5 P) (eI (bo _ _ P) Jm T.j_)
      |1,l=>cases l;exact bU4 k q (J5 J) (lL (ci0=r.lv+1)) (bu6 _ _ J hb)
      |j+2,l=>simp at l
    . obtain⟨Y,L,C,u,F,Q⟩:=T.kid m z h h0 j c l
      exact⟨Y,L,C,J5 u,F,bf8 (bo _ _ u) (bo _ _ h) Q⟩
  . rcases Qv ha with ⟨rfl,rfl⟩|o
    . rcases Qv I with ⟨rfl,rfl⟩|i
      . exact aA7 e
      . have:=O b L i;have:r.lv+1=L.lv:=t;lia
    . rcases Qv I with ⟨rfl,rfl⟩|i
      . have:=O a z o;have:z.lv=r.lv+1:=t;lia
      . rcases T.dis a b z L o i t e with ⟨h,v,C,u,F⟩|⟨h,v,C,u,F⟩
        . exact ê ⟨h,v,C,bu6 _ _ i u,F⟩
        . exact Ğ ⟨h,v,C,bu6 _ _ o u,F⟩
  . rcases Qv h with ⟨rfl,rfl⟩|h
    . rw[Jm]at f;cases f
    . rw[bo _ _ h]at f
      obtain⟨a,z1,R,U,X⟩:=T.pred m z h v f;exact⟨a,z1,J5 R,U,X⟩
def xT{k:Int}(h:ė (Zy p k)):RO k:=λ v a=>by unfold Zy at h;rw[a]at h;simp at h;omega
def U3{O4:Nat}(ok:bh5 O4 p)(f:LJ){k x:Int}(h1:aH2 k)(h2:RO k):bh5 (a7 (QM p k x)) (QM p k x) where
 sorted:=Gk ok.sorted k
 few:=ę
 parts:=by have a:=ok.parts;rw[Eh f]at a;have b:=VP p.ks k;have c:=ao2 k;show CS (OX oS++x::ad7 Pe)=⇑(og oS++k::bm k)+É LJ 0 1;rw[Eh f];simp only[An,Ba,A9,Bp];lia
 low:=λ y e=>by
  rcases aH6 e with rfl|e
  ·exact h1
  ·exact ok.low y e
 dW:=λ h=>pD Ql h
 high:=λ y e=>by
  rcases aH6 e with rfl|e
  ·exact h2
  ·exact ok.high y e
 wide:=ok.wide
def VE{O4:Nat}(ok:bh5 O4 p){k x:Int}:a7 (QM p k x)<=O4+1:=by have b:=VP p.ks k;have c:=ao2 k;have d:=ko p.ks k;have e:=ok.few;show CS (og oS++k::bm k)<=_;simp only[An,Ba,A9,Bp];lia
def QeE{O4:Nat}(ok:bh5 O4 p)(i:LJ){k:Int}:bh5 O4 (NW k) where
 sorted:=Qds ok.sorted k
 few:=by have b:=VP p.ks k;have c:=ao2 k;have d:=ko p.ks k;have e:=ok.few;show CS (og oS++bm k)<=_;simp only[An,A9,Bp];lia
 parts:=by have a:=ok.parts;rw[Eh i]at a;have b:=VP p.ks k;have c:=ao2 k;show CS (OX oS++ad7 Pe)=⇑(og oS++bm k)+É LJ 0 1;rw[Eh i];simp only[An,A9,Bp];lia
 low:=λ y f=>ok.low y (Wn f)
 dW:=λ h=>pD Ql h
 high:=λ y f=>ok.high y (Wn f)
 wide:=ok.wide
def v_(T:we)(a:dA){k:Nat}{q:Pg}{aim:Int}(r:rq k)(x:ci2)(o:bg k>=aim)(u:aY S k):aim∉p.ks/\ň≠è aim:=by
 have ok:=eW n p a;have h0:Ql:=À
 have pl:=ok.parts;rw[aE]at pl;have key:∀j,cg5 j>=aim->j<Ϲ->False:=λ j e b=>by obtain⟨c,z,f,h,v,l⟩:=aA3 n p a h0 j _ b;have:c=k:=T.uniq h r À (bf8 l e o);subst this;exact u n p a h0 (æ f (B8 b))
 refine Ĭ (NV t) (λ e=>key 0 e À);obtain⟨i,hi,e⟩:=Cs.mp t;exact key (i+1) (by show dC p.ks aim;rw[co5,e]) À
def zN{k:Int}{c:Nat}(h:k∉p.ks):(Zb p k c).ks=og oS++k::bm k:=N2 (og Pe++k::bm k) _ (R6 h)
def vv{O4:Nat}(ok:bh5 O4 p)(f:Ql){k:Int}{c:Nat}(e:k∉p.ks)(h1:ltB ň k)(h2:RO k):bh5 (a7 (Zb p k c)) (Zb p k c) where
 sorted:=Å (zN e) (Gk ok.sorted k)
 few:=ę
 parts:=by have a:=ok.parts;rw[aE]at a;have d:=ao2 k;show CS (OX (Pe+1)++ts::ad7 (Pe+1))=⇑(og Pe++k::bm k)+É LJ 0 1;rw[aE];simp only[An,Ba,A9,Bp];lia
 low:=λ y b=>by
  rw[zN e]at b;rcases aH6 b with rfl|b
  ·exact λ v i=>Cj (h1 v i)
  ·exact ok.low y b
 dW:=λ h y b=>by
  rw[zN e]at b;rcases aH6 b with rfl|b
  ·exact h1
  ·exact ok.dW f y b
 high:=λ y b=>by
  rw[zN e]at b;rcases aH6 b with rfl|b
  ·exact h2
  ·exact ok.high y b
 wide:=ok.wide
def U2{O4:Nat}(ok:bh5 O4 p){k:Int}{c:Nat}:a7 (Zb p k c)<=O4+1:=by have d:=ao2 k;have e:=ok.few;show CS (og Pe++k::bm k)<=_;simp only[An,Ba,A9,Bp];lia
def QaT(T:we)(t:dA){k:Nat}{q:Pg}{aim:Int}(x:rq k)(y:ci2)(v:bg k>=aim):
    ∀j c,(Zb p aim k).ps[j]?>=c->Sf a q (c=Ì a/\rq a/\ci2/\bg a=Z8 ň (Zb p aim k).ks j):=by
  intro j c b;have ok:=eW n p t;have h0:Ql:=À
  have pl:=ok.parts;rw[aE]at pl;have d:=ao2 aim;have b:(OX (h8+1)++Ϯ::ad7 (h8+1))[j]?>=c:=b;show Sf a q (c=Ì a/\rq a/\ci2/\bg a=Z8 ň (og h8++aim::bm aim) j);have lt:⇑(OX (h8+1))=h8+1:=Ĵ A9
  have u:⇑(og h8)=h8:=Ĵ A9
  rcases Bh j (h8+1)with h|h
  . rw[Ah À,B9 h]at b
    obtain⟨a,z,f,l,o,r⟩:=T.kid n p t h0 j c b;refine⟨a,z,f,l,o,?_⟩;rw[r];cases j with
    |zero=>rfl
    |succ i=>show ŵ p.ks=ŵ (og h8++aim::bm aim);rw[Ah À,B9 À]
  . rw[aG2,lt]at b
    rcases Bh (h8+1) j with h2|h2
    . obtain⟨i,rfl⟩:∃i,j=h8+2+i:=bm9 j (h8+2)
      rw[ð (h8+2+i-(h8+1)=i+1),List.getElem?_cons_succ,Cb]at b;obtain⟨a,z,f,l,o,r⟩:=T.kid n p t h0 _ c b;refine⟨a,z,f,l,o,?_⟩;rw[r];rw[ð (h8+1+i=(h8+i)+1),ð (h8+2+i=(h8+1+i)+1)];show p.ks[h8+i]?=(og h8++aim::bm aim)[h8+1+i]?;rw[aG2,u,ð (h8+1+i-h8=i+1),List.getElem?_cons_succ,Cb]
    . have e:j=h8+1:=À
      subst e;rw[ð (h8+1-(h8+1)=0)]at b;cases b;refine bU4 k q x y ?_;rw[v];show è aim=(og h8++aim::bm aim)[h8]?;rw[aG2,u];simp
#where
structure iR(S:Sh)(bg:Bg)(w:Wk)(S':Sh)(aN:Bg)(w':Wk):Û where
 tree:Tree S' aN
 grow:aK3
 iD:aQ9->aO S' aN w'
 oV:∀k v,aY S k->bg k>=v->(bm2->w.O1≠è k)->aY S' k
 new:∀k,aQ9->0<w'.O6->w'.O1>=k->aY S' k/\((bm2/\cx9)∨Î<=k)
 O4:S'.O4=S.O4
 len:bT8<=Î+1
def Tree.rd{S:Sh}(T:we)(x y:Int):ş (Ė S rd x wr y):=⟨T.bx,T.root,T.j_,T.page,T.link,T.kid,T.dis,T.pred⟩
section
variable{S:Sh}{bg:Bg}{n:Nat}{p P:Pg}{w:Wk}
def aY.set{S:Sh}{n:Nat}{p P:Pg}{k:Nat}{x y:Int}(h:aY S k)(c:dA)(f:ci3)(e:Ql->cz7 Ϯ->Ϯ∈p.ps):aY (bG0 S pg (oh n P) rd wr y) k:=λ m q a h0 b=>by
 rcases JM a with ⟨rfl,rfl,_⟩|⟨_,a⟩
 ·exact h m p c À (e À b)
 ·exact h m q a h0 b
def aY.halves{S:Sh}{n:Nat}{p P:Pg}{k l:Nat}{x y:Int}(h:aY S k)(e:dA)(i:ci3)(f:Ql->cz7 Ϯ->Ϯ∈p.ps):aY (bG0 S pg ((bP4).set n (Q9 P l)) rd wr y) k:=λ m q a h0 c=>by
 rcases JM a with ⟨rfl,rfl,_⟩|⟨_,a⟩
 ·have b:0<P.lv:=h0;exact h m p e À (f À (Bw c))
 ·rcases Qv a with ⟨rfl,rfl⟩|a
  ·have b:0<P.lv:=h0;exact h n p e À (f À (Cc c))
  ·exact h m q a h0 c
def Tree.fW(T:we){k:Nat}(h:Î<=k):aY S k:=λ m q l h0 i=>by
 obtain⟨j,f,e⟩:=Cs.mp i;obtain⟨c,z,a,b,_⟩:=aA3 m q l h0 j _ f;rw[e]at a;have:k=c:=À
 have:=Zl b;lia
def gE(T:we)(F:dA)(I:ci3)(hh:P.hi=p.hi)(hs:P.sd=p.sd)(ok:bh5 Ν P)(h2:Ν<=S.O4+1)
  (hk:Ql->∀j k,P.ps[j]?>=k->Sf c q (k=ts/\rq c/\ci2/\bh4=Z8 ň P.ks j))
  (W:cy9) (hw:je) (hpl:tR n∨Ϭ) (hg:rL w.O6) (hsub:∀k:Nat,Ql->cz7 Ϯ->Ϯ∈p.ps∨(bm2/\cx9)) :
  ∃aN,iR S bg w bS8.1 aN bS9:=by
 unfold Qt;by_cases hr:cm1
 ·rw[Eh hr];obtain⟨T',G⟩:=T.write (x:=S.rd) (y:=cA2) (p':=P) F I hh hs ⟨ok.sorted,hr,ok.parts,ok.low,ok.dW,ok.high,ok.wide⟩ hk;refine⟨bg,T',G,cR2,λ k v hu hb O=>hu.set F I (Ź h0 Y),au6 k h h,rfl,Ê⟩;rcases hsub k h0 Y with a|⟨a,b⟩
  ·exact a
  ·exact ď b (O a)
 ·rw[Eg hr];obtain⟨T',G⟩:=T.split (x:=S.rd) (y:=cA2+1) F I hh hs ok À h2 hk;have r2:=T.bx;have kl:=kW ok À;have gl:((bP4).set n Fv)[Î]?>=tU:=bF3 (Am (Ě (Zl F))) aW6
  have Ni:∀f,mI ST>=f->tR n:=λ f hf=>by
   rcases hpl with h|h
   ·exact h
   ·have:=W.none_ h _ f hf;lia
  refine⟨_,T',G,λ_=>?_,λ k v hu hb O=>hu.halves F I (Ź h0 Y),λ k _ _ e=>?_,rfl,Ê⟩
  ·have a9:P.lv=w.O6:=I.trans hg;refine⟨Ź f hf,nL o l f hf,Ł l f hf,λ f q hf J l C i X=>?_,λ l f l' C hf i a b=>?_,TZ f q hf J X,λ f q hf J l' C i l a b=>?_,λ_=>EC Î tU rfl gl Jm⟩
   ·have hf:mI (P.lv+1)>=f:=hf;rw[I]at hf;obtain⟨q,r,L⟩:=bc1 _ hf;obtain⟨e,Q,t,a4⟩:=G.old f q r;refine Nc Q t ?_ ?_
    ·show P.lv+1<=Q.lv;lia
    ·rw[e];intro v hv;obtain⟨u,U,b2⟩:=W.above n p (Ni f hf) F _ f hf À v hv;have:=kl u U;show v<=Ff;lia
   ·have o:Ū (mI (P.lv+1)):=o;show l<P.lv+1;rcases Bh l (P.lv+1)with h|h
    ·exact h
    ·exfalso;rcases hpl with hp|hp
     ·obtain⟨f0,mW⟩:=W.full n p hp F l f hf (P.lv+1) À h;rw[o]at mW;cases mW
     ·have:=cN3 l f hf;lia
   ·obtain⟨q,r,L⟩:=bc1 l hf;obtain⟨e,Q,t,a4⟩:=G.old f q r;exact da Q t À
   ·have hf:mI (P.lv+1)>=f:=hf;obtain⟨R,r,L⟩:=bc1 _ hf;obtain⟨q1,U,b2⟩:=W.kept _ C i;obtain⟨e,Q,t,a4⟩:=G.old f R r;rw[e,(G.old C q1 U).1];rw[t]at J;cases J;exact W.chain _ f l C hf i À À
   ·obtain⟨R,r,L⟩:=bc1 _ hf;obtain⟨q1,U,b2⟩:=W.kept _ C i;rw[(G.old f R r).1,(G.old C q1 U).1];have a:P.lv+1<=l:=a;exact W.chain l f l' C hf i À b
   ·have hf:mI (P.lv+1)>=f:=hf;obtain⟨R,r,L⟩:=bc1 _ hf;obtain⟨e,Q,t,a4⟩:=G.old f R r;have a8:P.lv+1<q.lv:=X;rw[t]at J;cases J;lia
   ·have hf:mI (P.lv+1)>=f:=hf;obtain⟨R,r,L⟩:=bc1 _ hf;obtain⟨e,Q,t,a4⟩:=G.old f R r;rw[t]at J;cases J;rw[I]at hf;exact W.full n p (Ni f hf) F l' C i l À b
  ·rcases hsub k h0 Y with a|⟨a,b⟩
   ·exact a
   ·exact ď b (O a)
  ·have e:Î=k:=Ak e;subst e;refine Ĭ ((T.fW ę).halves F I (Ź h0 Y)) (Ğ ę);obtain⟨j,hj,e⟩:=Cs.mp Y;obtain⟨c,z,r,L,_⟩:=hk h0 j _ (Ab hj);rw[e]at r;have:Î=c:=À
   have:=Zl L;lia
#where
section
variable{S:Sh}{bg:Bg}{n:Nat}{p:Pg}{w:Wk}
def QgN{ks:Ď}(h:lS){k x:Int}{i:Nat}(hi:i<i8)(hx:EB ks):x<=k:=by
 have e:EB (EF i8):=Å (B9 hi) hx
 rw[(qe h k).1]at e;simpa using ah2 cA6
def Ww(T:we)(W:cy9)(i:tR n∨Ϭ)(u:dA)(hg:cH4){s:Nat}{q:Pg}{h:Int}(hh:cW1)(x:rq s)(hl:bE0)(J:bg s>=h){j:Wk}(r:j.place>=s)(o:j.O5=w.O5)(I:j.O6=w.O6)(X:h<=j.aim)(Y:bm2->j.O1=w.O1/\j.aim=w.aim):cp7 j where
 at_:=λ m c=>AU r c c (Nc q x À (λ v y=>AU J y y X))
 none_:=λ c=>ĩ r c c
 kept:=λ l f hf=>bc1 l (o▸hf)
 above:=λ m z c hz l f hf F=>by
  rw[r]at c;cases c;rw[x]at hz;cases hz;rw[o]at hf;rcases i with hp|hp
  ·refine å (W.above n p hp u l f hf À) (λ v y=>AB h J);have:=(eW n p u).wide h hh v y;lia
  ·have:=cN3 l f hf;lia
 chain:=λ l f C t hf e a b=>W.chain l f C t (o▸hf) (o▸e) (I▸a) b
 gap:=λ m z c hz F l f hf=>by
  rw[r]at c;cases c;rw[x]at hz;cases hz;rw[o]at hf;rcases i with hp|hp
  ·rcases W.gap n p hp u À l f hf with a|a
   ·exact ê À
   ·exact Ğ À
  ·exact ê (Ě (cN3 l f hf))
 full:=λ m z c hz C t e l a b=>by
  rw[r]at c;cases c;rw[x]at hz;cases hz;rw[o]at e ⊢;rcases i with hp|hp
  ·exact W.full n p hp u C t e l À b
  ·have:=cN3 C t e;lia
 tell:=λ h0=>by rw[I]at h0 ⊢;obtain⟨k,z,L,O,P,Q⟩:=W.tell h0;obtain⟨R,U⟩:=Y h0;exact⟨k,z,R.trans L,O,P,Å U Q⟩
def QkW(T:we)(W:cy9)(J:tR n∨(Ϭ/\aV1 n))(F:dA)(X:bb1){c:Nat}{q:Pg}(L:rq c)(hl:ci2)(P:bh4=cg5 IB):cp7 (Ė w O5 cN0 place bA9):=by
  have ok:=eW n p F;have Q:cF ň bh4:=by
    rw[P];cases e:IB with
    |zero=>exact cN4
    |succ i =>
      intro v I;have hi:i<Š:=Ě cw9
      refine da p.ks[i] co5 (Cj (ok.dW À _ (B8 hi) v I))
  have Y:cx5:=by
    rcases J with hp|⟨_,rfl⟩
    . obtain⟨p',a1,a2,R⟩:=bh6 n
      exact R
    . intro v I;rw[T.j_]at I;cases I
  have U:leB bh4 w.aim:=by
    rw[P];cases e:IB with
    |zero=>exact Y
    |succ i=>intro v I;exact QgN ok.sorted À I
  have old:∀l f,mI l>=f->l≠p.lv->Fa l∨(p.lv<l/\tR n):=λ l f hf j=>by
    rcases J with hp|⟨hp,_⟩
    . rcases W.gap n p hp F X l f hf with a|a
      . exact ê a
      . exact pS a hp
    . exact ê (cN3 l f hf)
  have C:∀l f,Ju cN0 l>=f->(ci1 l/\f=n)∨(l≠p.lv/\mI l>=f):=λ l f hf=>by
    rw[jD]at hf;by_cases e:ci1 l
    . rw[aL7]at hf;cases hf;exact ê (õ e)
    . rw[OO]at hf;exact pS e hf
  refine⟨Ź m u,λ u=>ĥ u,Ł l f hf,λ m z u hz l f hf O=>?_,λ l f x r hf t a b=>?_,λ m z u hz O l f hf=>?_,λ m z u hz x r t l a b=>?_,W.tell⟩
  . cases u
    refine Nc q L ?_ U;show cH3 q.lv;lia
  . rcases C l f hf with ⟨rfl,rfl⟩|⟨_,h⟩
    . exact Œ p F
    . exact bc1 l h
  . cases u
    rw[L]at hz;cases hz;rcases C l f hf with ⟨rfl,rfl⟩|⟨j,h⟩
    . exact Q
    . rcases old l f h j with a|⟨a,hp⟩
      . lia
      . exact å (W.above n p hp F l f h a) Q
  . have a:cH3 l:=a
    rcases C l f hf with ⟨rfl,rfl⟩|⟨j,h⟩
    . rcases C x r t with ⟨rfl,rfl⟩|⟨y,h'⟩
      . lia
      . rcases old x r h' y with o|⟨o,hp⟩
        . lia
        . exact W.above _ p hp F x r h' o
    . rcases C x r t with ⟨rfl,rfl⟩|⟨y,h'⟩
      . rcases old l f h j with o|⟨o,hp⟩<;>lia
      . exact W.chain l f x r h h' a b
  . cases u
    rw[L]at hz;cases hz;show Fa l∨_;rcases C l f hf with ⟨rfl,rfl⟩|⟨j,h⟩
    . exact Ğ À
    . rcases old l f h j with o|⟨o,hp⟩
      . exact ê o
      . exact Ğ À
  . cases u
    rw[L]at hz;cases hz;by_cases e:ci1 l
    . exact Ĭ n (Ξ jD aL7)
    . rcases C x r t with ⟨rfl,rfl⟩|⟨j,h⟩
      . lia
      . rcases old x r h j with o|⟨o,hp⟩
        . lia
        . obtain⟨f,hf⟩:=W.full n p hp F x r h l À b
          exact Ĭ f (eI jD OO hf)
def iR.tH{a:Sh}{b:Bg}{c:Wk}{x y:Int}(h:iR (Ė S rd x wr y) bg w a b c):iR S bg w a b c:=⟨h.tree,⟨h.grow.old⟩,h.iD,h.oV,h.new,h.O4,h.len⟩
def iR.still(T:we){a:Wk}{x y:Int}(c:bm2->∀k,cx9->aY S k)(h:ca6->cp7 a/\(a.O6=w.O6/\(bm2->a.O1=w.O1))):iR S bg w (Ė S rd x wr y) bg a where
 tree:=T.rd x y
 grow:=⟨λ n p h=>Nc rfl p h rfl⟩
 iD:=λ e=>let W:=(h e).1;⟨W.at_,W.none_,W.kept,W.above,W.chain,W.gap,W.full,W.tell⟩
 oV:=λ k v c _ _=>c
 new:=λ k e g0 b=>by obtain⟨_,f,i⟩:=h e;rw[f]at g0;rw[i g0]at b;exact Ĭ (c g0 k b) (n5 g0 b)
 O4:=rfl
 len:=lP
def aO.rd(W:cy9)(x y:Int):cp6 (Ė S rd x wr y) w:=⟨W.at_,W.none_,W.kept,W.above,W.chain,W.gap,W.full,W.tell⟩
def TJ(T:we)(W:cy9)(hw:je)(J:bm2->∀k,cx9->aY S k):∃r S' w' R,JP S w>=(r,S',w')/\iR S bg w S' R w':=by
  obtain⟨n,a9,j⟩:∃n,ß=n/\(tR n∨(Ϭ/\aV1 n)):=by
    cases e:w.place with
    |none=>exact ĸ S.top (Ğ ft)
    |some m=>exact ĸ m ı
  obtain⟨p,f⟩:∃p,dA:=by
    rcases j with hp|⟨_,rfl⟩
    . obtain⟨p,a,_⟩:=bh6 n;exact Ĭ p a
    . obtain⟨p,a,_⟩:=T.root;exact Ĭ p a
  have i:tR n∨Ϭ:=j.imp id And.left;have ok:=eW n p f;have la:cx5:=by
    rcases j with hp|⟨_,rfl⟩
    . obtain⟨p',C,I,Q⟩:=bh6 n
      exact Q
    . intro v hv;rw[T.j_]at hv;cases hv
  unfold JP;rw[cH2 hw,a9];simp only[f];by_cases hr:Ϭ/\TU
  . rw[Eh hr]
    have Y:aV1 n:=by
      rcases j with hp|⟨_,e⟩
      . rw[hr.1]at hp;cases hp
      . exact e
    subst Y;obtain⟨k,q,C,I,Q,O⟩:=W.tell À;simp only[C];have BK:q.lv<=p.lv:=by obtain⟨r,U,b2⟩:=T.root;rw[f]at U;cases U;exact b2 k q I
    obtain⟨T',G⟩:=T.raise (x:=cc6) (y:=cA2) f I À O;refine⟨_,_,_,_,rfl,T',G,cR2,λ u v L t ad m z o h0 X=>?_,au6 u h h,rfl,Ê⟩;rcases Qv o with ⟨rfl,rfl⟩|o
    . have a8:Ì u=dX∨Ì u=Ϯ:=Ä X
      rcases a8 with e|e
      . have:aV1 u:=À
        subst this;rw[T.j_]at t;cases t
      . have:u=k:=À
        subst this;exact ad À C
    . exact L m z o h0 X
  . rw[Eg hr]
    have hg:cH4:=by
      rcases j with hp|⟨hp,_⟩
      . obtain⟨p',U,b2,_⟩:=bh6 n
        rw[f]at U;cases U;exact b2
      . exact C4 λ h=>hr (Ĭ hp h)
    cases t:bx9 with
    |true =>
      rw[sj];rcases at9 n f with ⟨a,b⟩|⟨h,s,q,a,b,c,d,e⟩
      . unfold Zy at t;rw[a]at t;cases t
      . simp only[b]
        have ha:h<=w.aim:=by unfold Zy at t;rw[a]at t;simpa using t
        exact EC _ _ _ bg (bX5 J (λ_=>ĸ (Ww T W i f hg a c d e rfl rfl rfl ha λ_=>ft) aj2))
    |false =>
      have lh:=xT t;rw[cl9];by_cases hd:bb1
      . rw[Eh hd]
        have pl:=ok.parts;rw[aE]at pl;have hc:IB<Ϲ:=Ě cw9
        obtain⟨c,q,C,I,Q,O⟩:=aA3 n p f À _ _ hc;rw[Ab hc,C];simp only[B0];exact EC _ _ _ bg (bX5 J (λ_=>ĸ (QkW T W j f hd I Q O) aj2))
      . rw[Eg hd]
        have n6:rL w.O6:=À
        by_cases h0:bm2
        . rw[Eh h0]
          obtain⟨k,q,C,I,Q,O⟩:=W.tell h0;simp only[C];obtain⟨n1,n2⟩:=v_ T f I À O (J h0 k C);have lt:ltB ň w.aim:=λ v hv=>by have:=la v hv;have:v≠w.aim:=λ e=>n2 (Ξ hv e);lia
          obtain⟨R,F⟩:=gE (S:=Ė S rd cc6 wr S.wr) (P:=cT5) (T.rd _ _) f rfl rfl rfl (vv ok À n1 lt lh) (U2 ok) (λ_=>QaT T f I À O) (W.rd _ _) hw i n6 (λ u _ o=>by
            rcases sN o with o|o
            . exact ê (Bw o)
            . rcases Nm o with e|o
              . have:u=k:=À
                subst this;exact pS h0 C
              . exact ê (Cc o))
          exact EC _ _ _ R F.tH
        . rw[Eg h0]
          have hz:LJ:=À
          have g0:w.O6=0:=À
          unfold Jp;cases ae:w.O2 with
          |find k=>exact EC _ _ _ bg (bX5 J cR2)
          |put k x=>have W1:cp6 (Ė S rd cc6 wr S.wr) ({ O2:=.put k x,aim:=w.aim,O6:=w.O6,place:=w.place,O5:=w.O5,O1:=w.O1,O3:=au4,pairs:=w.pairs,O7:=w.O7 }:Wk):=⟨W.at_,W.none_,W.kept,W.above,W.chain,W.gap,W.full,W.tell⟩;obtain⟨R,F⟩:=gE (S:=Ė S rd cc6 wr S.wr) (w:=({ O2:=.put k x,aim:=w.aim,O6:=w.O6,place:=w.place,O5:=w.O5,O1:=w.O1,O3:=au4,pairs:=w.pairs,O7:=w.O7 }:Wk)) (P:=at8 p x) (T.rd _ _) f rfl rfl rfl (U3 ok hz la lh) (VE ok) (λ h=>À) W1 hw i n6 (λ u h=>À);exact EC _ _ _ R ⟨F.tree,⟨F.grow.old⟩,F.iD,F.oV,F.new,F.O4,F.len⟩
          |cut k =>
            dsimp only;by_cases hs:tF au4
            . rw[Eh hs]
              obtain⟨T',G⟩:=T.write (x:=cc6) (y:=cA2) (p':=ap9) f rfl rfl rfl (QeE ok hz) (λ h=>À);exact⟨_,_,_,bg,rfl,T',G,cR2,λ u v L _ _=>L.set f rfl λ h=>À,au6 u h h,rfl,Ê⟩
            . rw[Eg hs]
              exact EC _ _ _ bg (bX5 J cR2)
          |stretch l h =>
            dsimp only;rcases at9 n f with ⟨a,b⟩|⟨x,s,q,a,b,c,d,e⟩
            . simp only[a,b]
              exact EC _ _ _ bg (bX5 J cR2)
            . simp only[a,b]
              by_cases hx:h<=x
              . rw[Eh hx]
                exact EC _ _ _ bg (bX5 J cR2)
              . rw[Eg hx]
                exact EC _ _ _ bg (bX5 J (λ_=>ĸ (Ww T W i f hg a c d e rfl rfl rfl am3 (λ z=>À)) aj2))
#where
def d8:Č->AD Č
 |none,some _=>true
 |some v,some u=>AN v u
 |_,none=>false
def qC{a b c:Č}(h:Ĝ (d8 a b))(g:Ĝ (d8 b c)):Ĝ (d8 a c):=by cases a<;>cases b<;>cases c<;>simp_all [d8];lia
def xb(a:Č):ė (d8 a a):=by cases a<;>simp[d8]
def qD{b:Č}{h:Int}(w:ltB b h):Ĝ (d8 b (è h)):=by
 cases b with
 |none=>rfl
 |some v=>simpa [d8]using w v rfl
def WD{α:re}(p q:AD α):∀l:To,(∀x∈l,Ĝ (q x)->Ĝ (p x))->CM q<=CM p
  | [],_=>ę
  |x::l,h=>by
    have c:=WD p q l λ y e=>ch7 y e;have hx:=h x Ê;by_cases a:Ĝ (q x)
    . simp[As,a,hx a,c]
    . by_cases b:Ĝ (p x)
      . simp[As,a,b];lia
      . simp[As,a,b,c]
def yK{α:re}(p q:AD α):∀l:To,(∀x∈l,Ĝ (q x)->Ĝ (p x))->(∃a∈l,Ĝ (p a)/\ė (q a))->CM q<CM p
  | [],_,h=>by obtain⟨a,h,_⟩:=h;cases h
  |x::l,h,⟨a,c,f,i⟩=>by
    have le:=WD p q l λ y e=>ch7 y e;rcases Nm c with rfl|c
    . simp[As,f,i];omega
    . have j:=yK p q l (λ y e=>ch7 y e) (Nc a c f i)
      have hx:=h x Ê;by_cases a:Ĝ (q x)
      . simp[As,a,hx a];omega
      . by_cases b:Ĝ (p x)
        . simp[As,a,b];omega
        . simp[As,a,b];omega
inductive Chain(S:Sh):cd8 ć
 |last {n:Nat} {p:Pg}:dA->bv5->bX6 n [n]
 |next {n:Nat} {p:Pg} {s:Nat} {r:ć}:dA->cl5->bX6 s r->bX6 n (n::r)
section
variable{S:Sh}{bg:Bg}
def Mz(T:we){n s:Nat}{p:Pg}(f:dA)(i:cl5):∃h q,cW1/\rq s/\bE0/\bg s>=h/\bL1 ň s:=by
 rcases at9 n f with ⟨_,b⟩|⟨h,s',q,a,b,c,d,e⟩
 ·rw[i]at b;cases b
 ·rw[i]at b;cases b;exact⟨h,q,a,c,d,e,Å e (qD ((eW n p f).wide h a))⟩
def mu(S:Sh)(bg:Bg)(n:Nat):Nat:=bx7 (λ m=>ao3 ň m)
def Mb(T:we):∀(m n:Nat)(p:Pg),mu S bg n<m->dA->∃r,bX6 n r
  |0,_,_,h,_=>À
  |m+1,n,p,h,a=>by
    cases b:p.sd with
    |none=>exact Ĭ _ (.last a b)
    |some s =>
      obtain⟨x,q,j,c,l,o,e⟩:=Mz T a b;have:mu S bg s<mu S bg n:=by refine yK _ _ _ (λ y _ i=>qC e i) (Nc s (av2 c) e (xb _))
      obtain⟨r,f⟩:=Mb T m s q À c;exact Ĭ _ (.next a b f)
def Chain.facts(T:we){n:Nat}{r:ć}(c:bX6 n r):∀p,dA->(∀m∈r,∃q,bS3/\bE0)/\(∀m∈r,m=n∨bL1 ň m)/\r.Pairwise (λ a b=>bL1 (bg a) b)/\(∀m∈r,∀q s,bS3->q.sd>=s->s∈r)/\n∈r:=by
  induction c with
  |@last n P f l =>
    intro p hp;rw[f]at hp;cases hp;refine⟨Ź m e,Ź m e,Ê,bF5 m e q s i j,Ê⟩
    . rw[Fs e];exact bo8 f
    . exact ê (Fs e)
    . rw[Fs e,f]at i;cases i;rw[l]at j;cases j
  |@next n P s r f l c O =>
    intro p hp;rw[f]at hp;cases hp;obtain⟨x,q,R,t,u,U,o⟩:=Mz T f l;obtain⟨C,F,I,J,L⟩:=O q t;have up:∀m∈r,bL1 ň m:=λ m e=>by
      rcases F m e with rfl|h
      . exact o
      . exact qC o h
    refine⟨Ź m e,Ź m e,Co.mpr (Ĭ up I),bF5 m e Q s' i j,Ê⟩
    . rcases Nm e with rfl|e
      . exact bo8 f
      . obtain⟨z,v,y⟩:=C m e
        exact da z v (y.trans u)
    . rcases Nm e with rfl|e
      . exact ı
      . exact Ğ (up m e)
    . rcases Nm e with rfl|e
      . rw[f]at i;cases i
        rw[l]at j;cases j;exact ch6 L
      . exact ch6 (J m e Q s' i j)
def QbZ{r:ć}(h:r.Pairwise (λ a b=>bL1 (bg a) b)):r.Nodup :=
 h.imp λ{a b} c e=>af2 e xb c c
def uE(T:we){n:Nat}{r:ć}{p:Pg}(c:bX6 n r)(j:dA)(l:Ū ň):∀(k m:Nat)(q:Pg),bx7 (λ x=>ao3 (bg x) m)<k->bS3->bE0->m∈r
  |0,_,_,h,_,_=>À
  |k+1,m,q,h,i,F=>by
    obtain⟨L,O,P,o,t⟩:=c.facts T p j;cases e:bg m with
    |none=>rw[T.uniq i j F (Ξ e l)];exact t
    |some v =>
      obtain⟨a,z,b,J,f⟩:=T.pred m q i v e;have lt:bL1 (bg a) m:=Å e (qD ((eW a z b).wide v f))
      have:bx7 (λ x=>ao3 (bg x) a)<bx7 (λ x=>ao3 (bg x) m) :=
        yK _ _ _ (λ y _ I=>qC I lt) (Nc a (av2 b) lt (xb _))
      have C:=uE T c j l k a z À b À;rcases T.link a z b with ⟨g1,_⟩|⟨x,s,y,g1,g2,g3,g4,u⟩
      . rw[f]at g1;cases g1
      . rw[f]at g1;cases g1
        have:s=m:=T.uniq g3 i À (Ξ u e);subst this;exact o a C z s b g2
def Li(T:we){n:Nat}{p:Pg}(a:dA)(f:Ū ň):∃r,bX6 n r/\r.Nodup/\(∀m,m∈r↔∃q,bS3/\bE0):=by obtain⟨r,c⟩:=Mb T (mu S bg n+1) n p À a;obtain⟨b,h,e,i,j⟩:=c.facts T p a;exact Nc r c (QbZ e) (λ m=>Ĭ (b m) (λ⟨q,h1,h2⟩=>uE T c a f _ m q (C6 _) h1 h2))
def bW(S:Sh)(f:AD Nat)(n:Nat):Bool:=match ä n with
 |some p=>f p.lv
 |none=>false
def Ml(T:we){l:Nat}{r:ć}(h:r.Nodup)(a:∀m,m∈r↔∃q,bS3/\bD9 l):lc=bx7 (bW S λ x=>oX x l):=by
 refine List.Perm.length_eq ((List.perm_ext_iff_of_nodup h bs8).mpr (NV m));rw[a m,Bm,Cg];constructor
 ·rintro⟨q,h1,h2⟩;exact Ĭ (Zl h1) (cC1 h1 h2)
 ·rintro⟨h1,h2⟩;unfold bW at h2;rw[cK5]at h2;exact cK6 cK5 cs2
def Yw(S:Sh)(j:Nat):∀l:ć,CM (bW S λ x=>AN x (j+1))=CM (bW S λ x=>AN x j)+CM (bW S λ x=>oX x j)
  | []=>rfl
  |n::l=>by
    have a:=Yw S j l;have e:∀f:AD Nat,aA9 (n::l) (bW S f)=df (bW S f n) 1 0+CM (bW S f):=λ f=>by
      by_cases h:Ĝ (bW S f n)
      . simp[As,h];lia
      . simp[As,h]
    rw[e,e,e,a];unfold bW;cases ä n with
    |none=>simp
    |some p =>
      simp only[decide_eq_true_eq];rcases bX7 p.lv j with h|h|h
      . rw[aL8,cH1,aE];lia
      . rw[aL8,aE,cH1];lia
      . rw[aE,aE,aE];lia
def KO(S:Sh)(l:ć):CM (bW S λ x=>AN x 0)=0:=by rw[List.length_eq_zero_iff,List.filter_eq_nil_iff];intro n _;unfold bW;cases ä n<;>simp
def VR{L:Nat}(h:AZ n p (dA->p.lv<=L)):bx7 (bW S λ x=>AN x (L+1))=Î:=by rw[Cu.mpr,List.length_range];intro n a;rw[Cg]at a;unfold bW;rw[bg7];have:=h n _ bg7;simp;lia
inductive cO(S:Sh)(bg:Bg):cd8 ć
 |leaf {n:Nat} {p:Pg}:dA->LJ->Ū ň->cO S bg n [n]
 |fork {n c:Nat} {p:Pg} {r:ć}:dA->Ql->Ū ň->aK4 0>=ts->cO S bg c r->cO S bg n (n::r)
def MD(T:we):∀(l n:Nat)(p:Pg),rL l->dA->Ū ň->∃r,cO S bg n r/\lc=l+1
  |0,n,p,h,a,b=>bo8 (.leaf a h b)
  |l+1,n,p,h,a,b=>by
    have ok:=eW n p a;have pl:=ok.parts;rw[aE]at pl;have h0:0<Ϲ:=À
    obtain⟨c,q,e,f,t,i⟩:=aA3 n p a À 0 _ h0;obtain⟨r,j,o⟩:=MD T l c q À f (Å i b);exact cK6 (.fork a À b (Ξ (Ab h0) e) j) (ą o)
def cO.get{n:Nat}{r:ć}(h:cO S bg n r):∀(T:we)(p:Pg),dA->lc=ST/\∀i c,dC r c->∃q,rq c/\ci1 (ch9 i)/\Ū bh4:=by
  induction h with
  |@leaf n f b h0 e =>
    intro T p hp;rw[b]at hp;cases hp;refine Ĭ (ą h0) (Ł i c a)
    match i,a with
    |0,a=>cases a;exact Α _ b e
    |i+1,a=>simp at a
  |@fork n c f r b h0 e a l y =>
    intro T p hp;rw[b]at hp;cases hp;obtain⟨u,q,C,j,F,I⟩:=T.kid n f b h0 0 _ a;have:c=u:=À
    subst this;obtain⟨v,x⟩:=y T q j;refine Ĭ (by simp[v];lia) (Ł i d hd)
    match i,hd with
    |0,hd=>cases hd;exact Α _ b e
    |i+1,hd=>obtain⟨z,o,J,t⟩:=x i d (Ä hd);exact Nc z o À t
#where
def Qjx(fs:aq5)(k v:Nat):⇑(xu fs k v)<=aF1+1:=aB6 xu
def Vx(S:Sh)(w:Wk)(n:Nat)(P:Pg):(bS9).O5=w.O5/\ag8 (bS9).pairs:=by unfold Qt;split<;>exact ft
def Qb4(p:Pg)(l h:Int):⇑(Za p l h)<=Š:=bo3 Za (Bj (Ca _ _) ?_)
def QdR(S:Sh)(w:Wk)(n:Nat)(p:Pg):(Jp S w n p).2.2.O5=w.O5/\(Jp S w n p).2.2.pairs.length<=aV3+Š:=by
  obtain⟨O2,aim,O6,place,O5,O1,O3,pairs,O7⟩:=w;cases O2 with
  |find k=>exact Ť (ą Jp)
  |put k x=>have:=Vx S ⟨.put k x,aim,O6,place,O5,O1,Q4 p aim,pairs,O7⟩ n (QM p aim x);refine CB this.1;show(FH S ⟨.put k x,aim,O6,place,O5,O1,Q4 p aim,pairs,O7⟩ n (QM p aim x)).2.pairs.length<=_;rw[this.2];exact Ee _ _
  |cut k=>exact Ť (ą Jp)
  |stretch l h =>
    have pl:=Qb4 p l h;unfold Jp;dsimp only;split
    . split
      . exact aR3
      . exact aR3
    . exact aR3
def Qex{S c:Sh}{w a:Wk}{r:Row}{m:Nat}(f:AZ n p (dA->Š<=m))(h:JP S w>=(r,c,a)):⇑a.O5<=⇑w.O5+1/\⇑a.pairs<=aV3+m:=by
  cases b:w.O7 with
  |true=>unfold JP at h;rw[Eh b]at h;cases h;exact ax7 À
  |false =>
    obtain⟨p,hp,v⟩:=Vy b h;have i:=f _ p hp;cases v with
    |raised=>exact Ĭ lP (Ee _ _)
    |side=>exact Ĭ lP (Ee _ _)
    |down=>exact Ĭ (Qjx _ _ _) (Ee _ _)
    |@told k=>have z:=Vx sL w ß cT5;rw[z.1,OB];exact Ĭ lP (Ee _ _)
    |leaf _ _ _ _ e=>have z:=QdR sL w ß p;rw[e]at z;exact Ĭ (Å z.1 lP) (Bj OB À)
def fresh(d:bU):Wk:=⟨d,d.key,0,none,[],none,none,[],false⟩
#print TR
namespace D
open PySem PySem.Spec PyProof.Rows L2
def oN:wd->DV
 |none=>ī
 |some n=>È n
def aK(p:TR.Pg):DV:=ñ [rp,MP,AY,ϓ,ig]
def Jt:TR.bU->DV
 |.find k=>ñ [Ϩ t9, aY7]
 |.put k w=>ñ [Ϩ tI, aY7,È w]
 |.cut k=>ñ [Ϩ N3, aY7]
 |.stretch l h=>ñ [Ϩ fF, È l,È h]
def fJ(fs:aq5):Ϧ:=fs.map λ p=>(aD5,bj7)
def aM(ps:Ew):á:=ps.map λ p=>ñ [È ϰ,bj7]
def cX(s f q:Nat)(d a g p n w e:DV):ay3:=[(ό, ë s),(zg, d),("aim", a),(cp8, g),(i9, p),(cN5, ë f),(zu, n),(AV, w),(ao4, ë q),(F7, e)]
def fV(s f q:Nat)(w:TR.Wk):OV:=Ϸ ã (cX s f q bh7 ↥w.aim ↥w.O6 (oN w.place) (oN w.O1) (opt w.O3) (ξ w.O7))
def wz:TR.Row->DV
 |.non=>ī
 |.side n t=>ñ [Ϩ "side", È n,È t]
 |.down n t=>ñ [Ϩ "down", È n,È t]
 |.found n w=>ñ [Ϩ "found", È n,opt w]
 |.put n w k=>ñ [Ϩ tI, È n,opt w,oN k]
 |.cut n w=>ñ [Ϩ N3, È n,opt w]
 |.read n ps none=>ñ [Ϩ aP3, È n,ñ (aM ps),ī,ī]
 |.read n ps (some (t,a))=>ñ [Ϩ aP3, È n,ñ (aM ps),È t,È a]
 |.told n k=>ñ [Ϩ bQ5, È n,oN k]
 |.raised n t=>ñ [Ϩ "raised", È n,È t]
section
variable(s f q:Nat)(d a g p n w e x:DV)
def QhA:hV ό (cX s f q d a g p n w e)>=↑s:=ϱ
def qS:hV zg (cX s f q d a g p n w e)>=d:=ϱ
def qf:hV "aim" (cX s f q d a g p n w e)>=a:=ϱ
def Z_:hV cp8 (cX s f q d a g p n w e)>=g:=ϱ
def qU:hV i9 (cX s f q d a g p n w e)>=p:=ϱ
def gK:hV cN5 (cX s f q d a g p n w e)>=PQ:=ϱ
def Mv:hV zu (cX s f q d a g p n w e)>=n:=ϱ
def Yy:hV AV (cX s f q d a g p n w e)>=w:=ϱ
def gL:hV ao4 (cX s f q d a g p n w e)>=↑q:=ϱ
def qT:hV F7 (cX s f q d a g p n w e)>=e:=ϱ
def Qma:⇑(cX s f q d a g p n w e)=10:=rfl
def Rf:sT bs9 (cX s f q d a g p n w e):=ϱ
def Qn5:sT cp9 (cX s f q d a g p n w e):=ϱ
def Qn6:sT bt0 (cX s f q d a g p n w e):=ϱ
def Qn7:sT Tl (cX s f q d a g p n w e):=ϱ
def Rb:sT bX8 (cX s f q d a g p n w e):=ϱ
def Qn8:sT bc2 (cX s f q d a g p n w e):=ϱ
def Qn9:sT bQ6 (cX s f q d a g p n w e):=ϱ
def Qoa:sT cq0 (cX s f q d a g p n w e):=ϱ
def Qob:sT bc3 (cX s f q d a g p n w e):=ϱ
def Qmb:sT "step" (cX s f q d a g p n w e):=ϱ
def Tr:sT "over" (cX s f q d a g p n w e):=ϱ
def Qmc:sT "answer" (cX s f q d a g p n w e):=ϱ
#where
def QkO(fs:aq5)(k v:Nat):JQ bh8 Tx ↥v=fJ (TR.xu fs k v):=by
 unfold JQ TR.xu;have e:((bh8).any λ a=>oX a.1 (Tx:Key))=fs.any λ p=>bM2:=by unfold fJ;rw[List.any_map];congr 1;funext p;simp only[Function.comp];congr 1;simp;lia
 rw[e];by_cases h:Ĝ (fs.any λ p=>bM2)
 ·rw[cH1,cH1];unfold fJ;rw[List.map_map,List.map_map];apply List.map_congr_left;intro p _;simp only[Function.comp];by_cases q:ϰ=k
  ·simp[q]
  ·have:¬ (Ì ϰ=Ϯ):=À
   simp[q,this]
 ·rw[Eg h,Eg h];simp[fJ]
def QkP(fs:aq5)(k:Nat):Jv bh8 Tx=at5 (TR.Ju fs k) v v:=by
  induction fs with
  |nil=>rfl
  |cons p r a =>
    rw[tz (fJ (p::r)=(ê (Ì ϰ),bj7)::fJ r),Ur,a];unfold TR.Ju;rw[B7];by_cases q:ϰ=k
    . simp[q]
    . have:¬ (Ì ϰ=Ϯ):=À
      simp[q,this]
def QkN(fs:aq5):⇑bh8=aF1:=Bq _
section
variable{c f m:Str}{o e:aJ}{fa:bR}{env:En}{hp hp1 hp2:Hs}{a n:Nat}{fs:ay3}{d v:DV}{ds:á}{F:Ez}
def yZ{α:re}{k:NU (ay3->cA8)}(h:E8 a>=bw0):o_ c Ŗ k hp=k a fs hp:=ac3 ((cL3 >>= _) hp=_) h ((QJ (oX c c) >>= λ_=>k a fs) hp=_) (Em rfl)
def Ji(b:bs5>=(v,hp1))(j:cq1 hp1>=(ų,hp1))(h:hp1[a]?>=bw0)(i:aF1<FI):ZV c f o e env hp>=(L3,hp1.set a (cS2 c f v fs)):=by
 unfold ZV;rw[bH1,Qe j];unfold su;have:o_ c Ŗ (λ n fs=>do QJ (AN aF1 FI);yn n (cS2 c f v fs)) hp1>=((),hp1.set a (cS2 c f v fs)):=Ρ (yZ h) (Em i)
 rw[LW];rfl
def QZ(b:cq2>=(ų,hp1))(h:hp1[a]?>=bw0)(hf:cc7>=d):QX c f o env hp>=(d,hp1):=by unfold QX;rw[bH1];unfold sG;rw[yZ h,hf];rfl
def Q6(r:cq2>=(ų,hp))(h:E8 a>=bw0)(j:Ū cE2)(i:bx8>=(ds,hp1))(l:Ć+1=n)(b:F (ų::ds) hp1>=(d,hp2)):Zd c m n F o fa env hp>=(d,hp2):=by
 unfold Zd;rw[Qe r];have:o_ c Ŗ (λ_ fs=>QJ (cE2).isNone) hp>=((),hp):=Ρ (yZ h) j
 rw[LW,Qe i,Em l];show(QJ true >>= λ_=>F (ų::ds)) hp1=_;exact b
def XQ:Qj env hp>=([],hp):=rfl
def Zn(h:bs5>=(v,hp1)):Qc e Qj env hp>=([v],hp1):=lw Qc h
def Zk{b:aJ}(h:bs5>=(v,hp1))(h':b env hp1>=(v',hp2)):Qc e (é b) env hp>=([v,v'],hp2):=NC (Zn h') Qc NB LW
def Xf{j b:aJ}(h:bs5>=(v,hp1))(h':j env hp1>=(v',hp2))(i:b env hp2>=(v'',hp3)):Qc e (Ĺ j b) env hp>=([v,v',v''],hp3):=NC (Zk h' i) Qc NB LW
def ak{i:Nat}(h:cc1 as3):Qb i env hp>=(d,hp):=þ Qb h
def QU{k:Nat}(h:bx8>=(ds,hp1))(i:Ć=k)(b:F ds hp1>=(d,hp2)):Qx k F fa env hp>=(d,hp2):=bq8 Qx NB (Em i) b
def QmS{c:bV}{f g:aG}(h:aN7>=(true,hp1)):aQ c f g env hp=η hp1:=û (Rq h)
def Ry{c:bV}{f g:aG}(h:aN7>=au3):aQ c f g env hp=bS5:=û (Rq h)
def Qpu:ZD env hp>=(L3,hp):=rfl
def kU{i:Nat}(h:bM8 a)(hd:aR9):cN8 Ŗ br0>=(d,hp):=by show(cL3 >>= _) hp=_;rw[bk8];show(dZ ↥nW >>= λ i=>m9 bf4) hp=_;simp only[dZ,Er,Kq hd];rfl
#where
def QkJ{o:aJ}{fa:bR}{hp:Hs}{a:Nat}{fs:aq5}{j:Nat}(e:cq2>=(ų,hp))(h:E8 a>=(nj bh8))(c:bx8>=([ú j],hp)):JC ss yY o fa env hp>=(oN (TR.Ju fs j),hp):=by
 unfold JC;rw[Qe e];have b:yW ss Ŗ hp>=((),hp):=Ő ((cL3 >>= _) hp=_) bk8
 rw[bH1,bQ3];show(cL3 >>= _) hp=_;rw[bk8];show è (cG6 (Jv bh8 (ê cP7)) ī,hp)=_;rw[QkP];cases TR.Ju fs j<;>rfl
def wl{s f q:Nat}{d a g p n w e:DV}:⇑(cX s f q d a g p n w e)<FI:=be4 Qma
def Xc{xs:á}{i:Nat}(h:dC xs d)(hp:Hs):cN8 LE br0>=(d,hp):=by show bF LE br0 hp=_;simp only[bF,Kq h];rfl
def Ro(p:TR.Pg)(hp:Hs):cN9 Ō 0>=(rp,hp):=AM i 0 hp
def Qnz(p:TR.Pg)(hp:Hs):cN9 Ō 1>=(MP,hp):=AM i 1 hp
def QnA(p:TR.Pg)(hp:Hs):cN9 Ō 2>=(AY,hp):=AM i 2 hp
def Qny(p:TR.Pg)(hp:Hs):cN9 Ō 3>=(ϓ,hp):=AM i 3 hp
def Rn(p:TR.Pg)(hp:Hs):cN9 Ō 4>=(ig,hp):=AM i 4 hp
def WV(d:TR.bU)(hp:Hs):cN9 NG 1>=(È d.key,hp):=by cases d<;>exact AM i 1 hp
section
variable{e e' e'' e3 e4:aJ}{fa:bR}{env:En}{hp hp1 hp2 hp3 dw mV:Hs}{v v' v'' v3 v4 d:DV}{ds:á}
def Jk(a:bx8>=(ds,hp1))(b:Ć<=Ņ):ZO fa env hp>=(o0,hp1):=by unfold ZO;rw[Qe a];have:Ĝ (qO ds):=Em b;rw[this];rfl
def wQ(h:bs5>=(v,hp1))(h':e' env hp1>=(v',hp2))(a:e'' env hp2>=(v'',hp3))(h3:e3 env hp3>=(v3,dw)):Qc e (B6 e' e'' e3) env hp>=([v,v',v'',v3],dw):=NC (Xf h' a h3) Qc NB LW
def Du(h:bs5>=(v,hp1))(h':e' env hp1>=(v',hp2))(a:e'' env hp2>=(v'',hp3))(h3:e3 env hp3>=(v3,dw))(h4:e4 env dw>=(v4,mV)):Qc e (Qc e' (B6 e'' e3 e4)) env hp>=([v,v',v'',v3,v4],mV):=NC (wQ h' a h3 h4) Qc NB LW
#where
def Qgm{t:DV->OS}{f:fS}{p:AD DV}(ds:á)(l:∀d∈ds,t d hp>=(p d,hp))(hf:∀d∈ds,f d hp>=(d,hp))(j:Ć<Ņ):Js T1 t f Ņ 0 hp>=(ds.filter p,hp):=by
  suffices h:∀(m i n:Nat),m+i=Ć->m<n->Js T1 t f n i hp>=(IP cd0 p,hp)by simpa using h Ć 0 Ņ rfl j
  intro m;induction m with
  |zero =>
    intro i n e c;obtain⟨n,rfl⟩:∃k,n=k+1:=bO7;have:i=Ć:=À
    subst this;have b:=jO ds Ć ę hp;rw[cV0 ds[Ć]?]at b;rw[Js,bH1,C7];rfl
  |succ m o =>
    intro i n e c;obtain⟨n,rfl⟩:∃k,n=k+1:=bO7;have a:i<Ć:=À
    have b:=jO ds i À hp;rw[bg7]at b;have hi:=o (i+1) n À À;rw[Js,bH1];simp only;rw[Qe (l ds[i] cC0),Bi a];cases q:p ds[i]with
    |false=>rw[aa2 (ą q)];simpa using hi
    |true=>rw[Cw q];simp only[if_true];rw[Qe (hf ds[i] cC0),Qe hi];rfl
def Wc:∀(ks ps:Ď),YX ø ϋ=aM (ks.zip ps)
  | [],_=>kb (‹Ď›)
  |_::_,[]=>rfl
  |k::ks,p::ps=>Ő (ñ [aY7,È p]::YX ø ϋ=_) (Wc ks ps)
def CQ(l h:Int):AD DV
 |.tup [.int x,_]=>FX l x&&AN x h
 |_=>false
def Qd9(l h:Int)(a:Ew):IP (aM a) (CQ l h)=aM (a.filter λ q=>FX l q.1&&AN q.1 h):=þ aM List.filter_map
def Qgz{o:aJ}{fa:bR}{hp:Hs}{a b:Nat}{ds es:á}(j:cq2>=(ų,hp))(h:bM8 a)(e:bx8>=([ca2],hp))(f:L4 b es)(i:Ć+⇑es<=Ņ):JC Ā JD o fa env hp>=(ī,μ a cF9):=by
 unfold JC;rw[Qe j];have c:yW Ā Ŗ hp>=((),hp):=Ő ((cL3 >>= _) hp=_) bk8
 rw[bQ3,Qe e];show(cL3 >>= _) hp=_;rw[bk8];show(Zx b >>= _) hp=_;rw[Φ f];show(QJ (FX (Ć+⇑es) lim) >>= λ_=>yn a cF9 >>= λ_=>Ô DV.non) hp=_;rw[cG3 (FX (Ć+⇑es) lim) i];rfl
def XL(a:Ew):⇑(aM a)=cG7:=Bq _
def Mp(a ys:Ew):aM a++aM ys=aM (a++ys):=ą aM
def Uf(o:Č):isD (opt o) ī=nv o.isNone:=kb o
def Qd0(o:Č):V5 (opt o) ī=nv o.isSome:=kb o
def GI(o:wd):isD (oN o) ī=nv o.isNone:=kb o
def SN{x:Str}(h:Ζ x):ca7 aJ4:=by simp[eV,UH,toP,SeqAt.shaped,PyData.canLay0,PyData.depth,h]
def u_{x y:Str}(hp:Hs)(h1:Ζ x)(h2:Ζ y){b:Bool}(h:(x==y)=b):cP aJ4 (Ϩ y) hp>=(LZ,hp):=by
 unfold cP;have e:VY aJ4 (Ϩ y) hp>=(x==y,hp):=û (Kt (Wg 39 hp x) (Wg 39 hp y) (SN h1) (SN h2))
 rw[Qe e,h];rfl
section
variable{c c':bV}{e e':aJ}{env:En}{hp hp1:Hs}{b:Bool}
def Qoo(h:aN7>=(true,hp1)):iQ c c' env hp>=(true,hp1):=lw iQ h
def yI(h:aN7>=au3):iQ c c' env hp=c' env hp1:=lw iQ h
def zq(h:aN7>=(true,hp1)):Yh c c' env hp=c' env hp1:=lw Yh h
def xU(h:aN7>=au3):Yh c c' env hp>=au3:=lw Yh h
def uP(h:aN7>=(true,hp1)):cL c e e' env hp=bs4 hp1:=lw cL h
def uO(h:aN7>=au3):cL c e e' env hp=e' env hp1:=lw cL h
#where
def Gu{w:TR.Wk}{i:Nat}{k:Int}(h:w.O2=.find k):aY1 w i p=(.found i pT,S,bN3):=ab5 h h
def gc{w:TR.Wk}{i:Nat}{k x:Int}(h:w.O2=.put k x):aY1 w i p=(.put i pT (XP bK5 i (iO p x)).1,(XP bK5 i (iO p x)).2.1,(XP bK5 i (iO p x)).2.2):=ab5 h h
def gb{S:TR.Sh}{w:TR.Wk}{i:Nat}{k:Int}(h:w.O2=.cut k):aY1 w i p=(.cut i pT,df (aq8 pT) (Ė S pg (oh i (aA5 p)) wr cA2) S,bN3):=ab5 h h
def QgO{w:TR.Wk}{i:Nat}{p:TR.Pg}{l h:Int}(e:w.O2=aj6 l h)(h1:aZ2):aY1 w i p=(.read i (mi l h) none,S,cX5):=by cases w;cases p;simp only at e h1;subst e h1;rfl
def QiF{w:TR.Wk}{i:Nat}{p:TR.Pg}{l h x:Int}{s:Nat}(e:w.O2=aj6 l h)(h1:aL5 x)(h2:cl5):aY1 w i p=É (h<=x) (.read i (mi l h) none,S,cX5) (.read i (mi l h) (è (s,x)),S,bG0 w pairs cV9 aim place cs8):=by cases w;cases p;simp only at e h1 h2;subst e h1 h2;rfl
def QnW{e o j:aJ}{hp:Hs}{a l v:Nat}{fs:aq5}(b:bs5>=(ú v,hp))(f:cq2>=(ų,hp))(c:j env hp>=(ú l,hp))(h:E8 a>=(nj bh8))(hf:aF1<5000):zG e (d9 o j) env hp>=(L3,μ a (nj (fJ (TR.xu fs l v)))):=by refine Mj b ?_;unfold d9;rw[Qe f,bQ3];have:=MU (d:=ú v) h (tz (KY ↥(Ì l)>=(ê (Ì l)))) (Ĵ QkN);rw[QkO]at this;rw[LW];rfl
section
variable{f g:aJ}{fa:bR}{env:En}{hp hp1 hp2:Hs}{d x y:DV}{ds:á}{F:Ez}
def Jj(h:bx8>=(ds,hp1))(a:F ds hp1>=(d,hp2)):QY F fa env hp>=(d,hp2):=ϻ QY NB a
def MC(ds:á)(hp:Hs):Z2 [fI] hp>=(È Ć,hp):=rfl
def yX(ds:á)(hp:Hs):Z2 [o0] hp>=(È Ć,hp):=rfl
def MB{n:Nat}(h:bM8 n):Z2 [LD] hp>=(È Ć,hp):=Ő ((OU >>= _) hp=_) bk8
def RA(i j:Int)(hp:Hs):eN br0 ↥j hp>=(bv6 (i==j),hp):=lw eN (MT i j hp)
def Ox(i:Int)(hp:Hs):eN br0 br0 hp>=(π,hp):=Ŷ RA
def SE(i j:Int)(hp:Hs):cP br0 ↥j hp>=(ξ (i==j),hp):=lw cP (MT i j hp)
def Np(a b:Č)(hp:Hs):eN (opt a) E5 hp>=(bv6 (oX a b),hp):=lw eN (Qij a b hp)
def Oz(b:Bool)(hp:Hs):eN LZ LZ hp>=(π,hp):=by have e:=Kt (RM 39 hp b) (RM 39 hp b) (RN b) (RN b);unfold eN;rw[Qe e];cases b<;>rfl
#where
def D_{f:lD}(h:aT>=(ds,hp1)):iV f env hp>=(T1,hp1):=lw iV h
def QkY{f:bR}{a b:Nat}(h:aT>=([ú a,ú b],hp1))(c:al8 a)(i:al8 b):Dh f env hp>=(Zg a (b-a),hp1):=by
 unfold Dh;rw[NB];have e:pW [ú a,ú b]=Ô (Zg a (IS (Ì b-a))):=bt1 pW (qP c) (qP i) Bool.and_self QJ if_true
 rw[e,ð (IS (Ì b-a)=b-a)];rfl
section
variable{c:bV}{b:aG}{n:Nat}{env aF:En}{hp hp1 hp2:Hs}
def VD(h:aN7>=(true,hp1))(a:b env hp1>=(ϧ aF,hp2)):J0 c b (n+1) env hp=J0 c b n aF hp2:=by rw[J0,NB];simp only[if_true];rw[Qe a]
def Mw(h:aN7>=au3):J0 c b (n+1) env hp>=(L3,hp1):=Ρ J0 NB
#where
def nD(r:ć):á:=r.map λ n:Nat=>oT oq
def XX(r:ć):⇑rg=lc:=Bq _
def Qnd(r s:ć):rg++nD s=nD (r++s):=ą nD
def GD{r:ć}{i n:Nat}(h:dC r n):dC rg ↥oq:=Υ nD Bt h
def SQ{hp:Hs}{d k:Nat}(h:E8 d>=nl)(a:Cl Tx>=v):GH ↥Ϯ cm3 hp>=(π,hp):=by
 unfold GH;have:Di ↥Ϯ cm3 hp>=(true,hp):=ac3 ((Zx d >>= _) hp=_) h (è (aq8 (Cl Tx),hp)=_) a
 rw[LW];rfl
def Rx{hp:Hs}{d k:Nat}(h:E8 d>=nl)(a:Cl Tx>=v):cN9 cm3 Ϯ>=(v,hp):=ac3 ((Zx d >>= _) hp=_) h ((m9 (Cl Tx)) hp=_) a
def jW{o e:aJ}{hp:Hs}{a:Nat}{ds:á}(i:cq2>=(ų,hp))(h:bM8 a)(c:bs5>=(d,hp))(f:Ć<Ņ):JC Ā Xp o (é e) env hp>=(ī,μ a (cF8 [d])):=by
 unfold JC;rw[Qe i];have b:yW Ā Ŗ hp>=((),hp):=Ő ((cL3 >>= _) hp=_) bk8
 rw[bH1,Qe (Zn c)];show(cL3 >>= _) hp=_;rw[bk8];show(QJ (bl9 Ć) >>= λ_=>yn a (cF8 [d]) >>= λ_=>Ô DV.non) hp=_;rw[cG3 (bl9 Ć) f];rfl
def Qh0{i:Int}{n:Nat}{f g h:aJ}(h1:aT>=(È 0,hp))(h2:az0>=(ng,hp))(h3:h env hp>=(ú n,hp))(a:0<=i)(b:i<n):JV fH cU f g h env hp>=(ο,hp):=by unfold JV;rw[Qe h1,Qe h2];show(fH ↥0 br0 >>= _) hp=_;rw[zA,Em a,Er];show(fU ο >>= _) hp=_;simp only[fU,Er,if_true];rw[Qe h3,Y3,Em b];rfl
def Vh{n:Nat}{a:aG}{ds:á}(h:a (aG7++Ī (n-Ć) Ś) hp>=(L3,hp1)):Zj n a ds hp>=(ī,hp1):=lw Zj h
def MV(f:Str)(d:DV):∀fs:ay3,⇑(XS f d fs)<=aF1+1
  | []=>ę
  | (g,x)::r=>by
    unfold XS;split
    . simp
    . simpa using MV f d r
def Xi{f:Str}{fs:ay3}{m:Nat}(h:aF1<=m):⇑(XS f d fs)<=m+1:=Bj (MV f d fs) (bI3 h)
def Pl:cd8 DV
 |_,.non=>True
 |_,.bl _=>True
 |_,.int _=>True
 |_,.str x=>Ζ x
 |n+1,.tup ds=>∀d∈ds,Pl n d
 |n+1,.lst ds=>∀d∈ds,Pl n d
 |_,_=>False
def kD:∀(n:Nat)(d:DV)(k:Nat)(hp:Hs),Pl n d->aX3 (n+k+1) d>=d
  |n,.non,k,hp,_=>rfl
  |n,.bl _,k,hp,_=>rfl
  |n,.int _,k,hp,_=>rfl
  |n,.str _,k,hp,_=>rfl
  |0,.tup ds,k,hp,h=>h.elim
  |0,.lst ds,k,hp,h=>h.elim
  |0,.ref _,k,hp,h=>h.elim
  |n+1,.ref _,k,hp,h=>h.elim
  |n+1,.tup ds,k,hp,h=>Ő (pc (IU (n+1+k) hp) DV.tup=_) (xc λ d hd=>Å Nat.add_right_comm (kD n d k hp (h d hd)))
  |n+1,.lst ds,k,hp,h=>Ő (pc (IU (n+1+k) hp) DV.lst=_) (xc λ d hd=>Å Nat.add_right_comm (kD n d k hp (h d hd)))
def Mt:∀(ds:á),(∀d∈ds,Ĝ (bW6).canLay0)->Ĝ (PyData.canLayAll0 (cC ds))
 | [],_=>by unfold cC PyData.canLayAll0;rfl
 |d::ds,h=>by unfold cC PyData.canLayAll0;rw[h d Ê,Mt ds λ x hx=>ch7 x hx];rfl
def Gq:ŗ n d DV (Pl n d->Ĝ (bW6).canLay0)
 |n,.non,_=>af5 toP
 |n,.bl _,_=>af5 toP
 |n,.int _,_=>af5 toP
 |n,.str x,h=>by cases n<;>(unfold toP PyData.canLay0;exact h)
 |0,.tup ds,h=>h.elim
 |0,.lst ds,h=>h.elim
 |0,.ref _,h=>h.elim
 |n+1,.ref _,h=>h.elim
 |n+1,.tup ds,h=>bc4 toP PyData.canLay0 (Mt ds λ d hd=>Gq n d (h d hd))
 |n+1,.lst ds,h=>bc4 toP PyData.canLay0 (Mt ds λ d hd=>Gq n d (h d hd))
def VT(n:Nat):∀(ds:á),(∀d∈ds,(bW6).depth<=n)->PyData.depthAll (cC ds)<=n
 | [],_=>bc4 cC PyData.depthAll CO
 |d::ds,h=>bc4 cC PyData.depthAll (Nat.max_le.mpr (Ĭ (h d Ê) (VT n ds λ x hx=>ch7 x hx)))
def KQ:ŗ n d DV (Pl n d->(bW6).depth<=n)
 |n,.non,_=>nz toP CO
 |n,.bl _,_=>nz toP CO
 |n,.int _,_=>nz toP CO
 |n,.str x,h=>nz toP CO
 |0,.tup ds,h=>h.elim
 |0,.lst ds,h=>h.elim
 |0,.ref _,h=>h.elim
 |n+1,.ref _,h=>h.elim
 |n+1,.tup ds,h=>nz toP (bI3 (VT n ds λ d hd=>KQ n d (h d hd)))
 |n+1,.lst ds,h=>nz toP (bI3 (VT n ds λ d hd=>KQ n d (h d hd)))
def Uo{n:Nat}(h:Pl n d)(a:n<=64):Ĝ (fE d):=Υ SeqAt.shaped (Gq n d h) (Em (Bj (KQ n d h) a))
def KZ{n:Nat}(h:Pl n d)(a:n<40)(hp:Hs):aX4 d>=d:=by
 have:=kD n d (39-n) hp h
 rwa [ð (n+(39-n)+1=40)]at this
def Rm(n:Nat)(i:Int):Pl n br0:=cC2
def QnE(n:Nat):Pl n ī:=cC2
def QnF(n:Nat)(o:Č):Pl n (opt o):=by cases o;exact QnE n;exact Rm n _
def Qgx{n m:Nat}(h:Pl n x)(h':Pl m y)(b:n<40)(a:m<40)(hp:Hs):VY x y hp>=(bd6 x y,hp):=by unfold VY pY;show((ad6 (aX4 x)).bind _)=_;rw[KZ h b];show((ad6 (aX4 y)).bind _)=_;rw[KZ h' a];show(QJ (fE x&&fE y) >>= λ_=>Ô (bd6 x y):OS) hp=_;rw[Uo h À,Uo h' À];rfl
def Qgy{n:Nat}(h:Pl n x)(a:n<40)(hp:Hs):VY x x hp>=(true,hp):=Ξ (Qgx h h a a) (SeqAt.eqv_refl _ (Gq n x h))
def QiR{n:Nat}(h:Pl n x)(a:n<40)(hp:Hs):eN x x hp>=(π,hp):=lw eN (Qgy h a hp)
def uQ{a:Nat}{n:Nat}{hp:Hs}(c:bM8 a)(h:∀d∈ds,Pl n d)(f:n<38):VY Ŗ fI hp>=(true,hp):=by
 have b:Pl (n+1) fI:=h;have e:Ň (aX4 Ŗ) ds:=by show(match E8 a with|some (.lst ds)=>pc (IU 39 hp) DV.lst|_=>none)=_;rw[c];show pc (IU 39 hp) DV.lst=_;rw[xc λ d hd=>(by have:=kD n d (38-n) hp (h d hd);rwa [ð (n+(38-n)+1=39)]at this)];rfl
 unfold VY pY;show((ad6 (aX4 Ŗ)).bind _)=_;rw[e];show((ad6 (aX4 fI)).bind _)=_;rw[KZ b À];show(QJ (fE fI&&fE fI) >>= λ_=>Ô (bd6 fI fI):OS) hp=_;rw[Uo b À,SeqAt.eqv_refl _ (Gq _ _ b)];rfl
def K6{a:Nat}{n:Nat}{hp:Hs}(b:bM8 a)(h:∀d∈ds,Pl n d)(c:n<38):cP Ŗ fI hp>=(ο,hp):=lw cP (uQ b h c)
def QiQ{a:Nat}{n:Nat}{hp:Hs}(b:bM8 a)(h:∀d∈ds,Pl n d)(c:n<38):eN Ŗ fI hp>=(π,hp):=lw eN (uQ b h c)
def Qgn{t:DV->OS}{f:fS}{g:DV->DV}(ds:á)(l:∀d∈ds,t d hp>=(true,hp))(hf:∀d∈ds,f d hp>=(g d,hp))(j:Ć<Ņ):Js T1 t f Ņ 0 hp>=(ds.map g,hp):=by
  suffices h:∀(m i n:Nat),m+i=Ć->m<n->Js T1 t f n i hp>=(pc cd0 g,hp)by simpa using h Ć 0 Ņ rfl j
  intro m;induction m with
  |zero =>
    intro i n e c;obtain⟨n,rfl⟩:∃k,n=k+1:=bO7;have:i=Ć:=À
    subst this;have b:=jO ds Ć ę hp;rw[cV0 ds[Ć]?]at b;rw[Js,bH1,C7];rfl
  |succ m o =>
    intro i n e c;obtain⟨n,rfl⟩:∃k,n=k+1:=bO7;have a:i<Ć:=À
    have b:=jO ds i À hp;rw[bg7]at b;rw[Js,bH1];simp only;rw[Qe (l ds[i] cC0),Bi a];simp only[if_true];rw[Qe (hf ds[i] cC0),Qe (o (i+1) n À À)];rfl
def yt{α:re}{m:cA8}{x:α}(h:∀hp,m hp>=(x,hp)):m=bZ8:=funext h
section
variable{env:En}{hp hp1 hp2 hp3 dw mV Sb hp7:Hs}{e e' e'' e3 e4 e5 e6:aJ}{v v' v'' v3 v4 v5 v6:DV}
#where
#print D
namespace L2
open PySem PySem.Spec PyProof.Rows
def Df(lo c:Int)(n:Nat):It:=da (λ i _=>i<n) (λ i H x H'=>H'=H/\x=È (lo+(i:Nat) * c)) (λ i _=>n<=i)
def QcR{w:World}{K:Aa}(f:Addr)(lo c:Int)(n:Nat):sO P w K tg (Df lo c n) [f] f (λ i h=>IsRangeIter h f (lo+(i:Nat) * c) (oq-(i:Nat)) c) where
 mem:=Ê
 obj:=λ i h a b j=>by
  have e:b=f:=Ä j
  subst e;exact cK6 a (λ v z=>bb6 z' (bU9 _=aG1) z z')
 keep:=λ i h h' a k=>k f Ê _ a
 item:=by intro X J O F L i O9 s σ H E I hf a hg;subst J O F;obtain⟨r,u,Y,x,y,C⟩:=hf f Ê;have W:=Walks.range (prog:=X.prog) (w:=X.w) (ah4 L) f lo c n;refine W.item i s _ _ hg a (bF5 v h' Q hv l kk);obtain⟨t,rfl⟩:=hv;have R:Ŵ (ck3 Q):=I.turned (λ b o j e=>kk b o (Ä j) e) r u x y C;exact ĸ _ (DK (s:=ck3 Q) (n := "range_iterator") l rfl rfl Á ⟨È (lo+(i:Nat) * c),H,R,õ t,ft,l,λ b j=>(hf b j).1⟩)
 done:=by intro X J O F L i O9 s σ H E I hf a hg;subst J O F;obtain⟨r,u,Y,x,y,C⟩:=hf f Ê;exact wpAny_pyNext_range_end (ah4 L) a (pD (n<=i) hg) λ h' U=>Ť (ag4 t' (λ b o j e=>U b o j e) r u x y C)
 self:=bf0 a (cA5 h)
section
variable{X:Cx}{tg:Expr}
def cT(hi c:Int):Nat:=IS ((hi+c-1) / c)
def Iv{hi c:Int}(a:1<=c)(b:0<=hi):tG 0 hi c=Ì (cT hi c):=by rw[rangeSize_pos a b];unfold cT;have:0<=(hi+c-1) / c:=Int.ediv_nonneg À À;lia
def QlL{hi c:Int}(e:1<=c)(f:0<=hi):Ì (cT hi c)<=hi+c:=by rw[<- Iv e f,rangeSize_pos e f];have:=Int.ediv_le_self (b:=c) (a:=hi+c-1) À;lia
def QnU{hi c:Int}(a:1<=c)(b:0<=hi)(h1:hi<2 ^ 40)(h2:c<EL):ab7 0 hi c:=by have l:=QlL a b;unfold Builtin.Range.small;rw[Iv a b];simp only[Builtin.Range.rangeFitsLong,Bc,Bool.or_eq_true,decide_eq_true_eq,beq_iff_eq,ð (c > 0),if_true];lia
def Qhb{R:It->eK}{E:Es}{hi c:Int}{t u v:Tok}{f:Nat}(I:Ϝ)(h:1<=c)(i:0<=hi)(h1:hi<2 ^ 40)(h2:c<EL)
  (q:R (Df 0 c (cT hi c)) H):Ψ (pyIter Ķ) (PIE X O9 σ tg R) E (ϴ s (bD3 #[LI 0,cS9,fj c v]) f):=by
 refine wpAny_pyIter_range aV9 (QnU h i h1 h2) ?_;have a:Ŵ (ϴ s (bD3 #[LI 0,cS9,fj c v]) f):=I.kept λ b o e=>FY;refine⟨bS2 #[LI 0,cS9,fj c v],[bS2 #[LI 0,cS9,fj c v]],_,_,H,rfl,
  a.kept (t':=f) λ b o e=>FY,QcR _ 0 c (cT hi c),?_,Ź b n,q⟩
 ·have j:Ì 0+Ì (0:Nat) * c=0:=Ê
  have l:Ì (cT hi c:Nat)-Ì (0:Nat)=tG 0 hi c:=Ŷ (Iv h i)
  show IsRangeIter _ _ (Ì 0+Ì (0:Nat) * c) (Ì (cT hi c:Nat)-Ì (0:Nat)) c;rw[j,l];exact IE
 ·have e:b=bS2 #[LI 0,cS9,fj c v]:=Ä n
  subst e;exact a.fpOk ę (a.hok.fresh ę)
def R3(vs:Β)(hi c:Int):Û:=vs=[È 0,È hi,bK0]/\1<=c/\0<=hi/\hi<2 ^ 40/\c<EL
def Qoy(a:TA):TI:=λ σ H R=>a σ H λ vs H1=>∃hi c:Int,R3 vs hi c/\R (Df 0 c (cT hi c)) H1
def QlJ{hi c:Int}(a:1<=c)(h2:c<EL):ė (Builtin.divisionGoesByPylong (hi-0) c):=Θ (PyProof.noPylong_small tj)
def Qg5{p pos:Pos}(u:bT1)(v:eg Η)(o:PA X [a,b,d] ta)(x:Ñ [a,b,d]=[ž a,ž b,ž d]:=by rfl)(f:Ñ [b,d]=[ž b,ž d]:=by rfl):
    PI X tg (NL Η p [a,b,d]) (Qoy ta):=by
  intro n s σ H R I h;refine Call_ (YO I u v boot_range (ϗ (fT (o pos n s σ H _ I h) us J vs H1 I1 r1 q1 ?_) (Ξ x f) (û f)));obtain⟨hi,c,⟨e,q1,y,z,l⟩,q⟩:=q1;subst e;cases r1 with
  |cons r i =>
    cases i with
    |cons C i =>
      cases i with
      |cons j i=>cases i;obtain⟨t,rfl⟩:=r;obtain⟨t',rfl⟩:=C;obtain⟨F,rfl⟩:=j;exact call_range_3 À (Qhb I1 q1 y z l q) (ê (QlJ q1 l))
#where
#print L2
namespace D
open PySem PySem.Spec PyProof.Rows L2
section
variable{X:Cx}{tg:Expr}{pos:Pos}
def XM(c:Int)(n:Nat):á:=pe n (λ(i:Nat)=>È (nW * c))
def QgI{K:Aa}{c:Int}{n:Nat}:rE K ρ B H (XM c n) (Df 0 c n):=λ ρ1 B1 H1 g _ _=>by
 refine Ĭ (Ł i d e) (by show n<=_;simp[XM]);have hi:i<n:=dP ct8 XM
 refine Ĭ hi (aW0 y H' a q);subst a q;have:d=È (nW * c):=by simp[XM,hi]at e;exact e.symm
 subst this;rw[Int.zero_add];exact Ĭ Jf ı
def FJ(a hi c:Int):Bool:=Ó (a=0/\1<=c/\0<=hi/\hi<2 ^ 40/\c<EL)
def Ib:á->cA9
 | [.int a,.int hi,.int c]=>do QJ (FJ a hi c);Ô (XM c (cT hi c))
 |_=>failure
def Dg(f:bR):lD:=FG (do Ib (<- dc))
def Qhe{ds out:á}{hp hp':Hs}(h:Ib ds hp>=(out,hp')):∃hi c:Int,ds=[È 0,È hi,bK0]/\(1<=c/\0<=hi/\hi<2 ^ 40/\c<EL)/\out=XM c (cT hi c)/\hp=hp':=by
 unfold Ib at h;split at h
 ·obtain⟨u,hp1,a,b⟩:=Qg h;obtain⟨h1,rfl⟩:=QL a;obtain⟨rfl,rfl⟩:=Qk b;obtain⟨rfl,h2⟩:=Eo h1;exact EC _ _ rfl h2 rfl
 ·cases h
def au.ints3{K:Aa}{i j k:Int}{vs:Β}(h:lx [ng,bA7,aY7] vs):vs=[ng,bA7,aY7]:=by unfold au at h;obtain⟨x,r,rfl,h1,h2⟩:=h;rw[h1.aZ,h2.ints2]
def Qgt{x y z:Expr}{p:Pos}{f:bR}(l:bT1)(n:eg Η)(j:DA X [x,y,z] f)(o:Ñ [x,y,z]=[ž x,ž y,ž z]:=by rfl)(a:Ñ [y,z]=[ž y,ž z]:=by rfl) :
  DI X tg (NL Η p [x,y,z]) (Dg f) :=
 (Qg5 l n j o a).imp λ σ H R b=>by obtain⟨Z,env,ρ,B,hp,ds,hp',S,e,k⟩:=b;obtain⟨d,hp1,h,i⟩:=ũ;obtain⟨hi,c,rfl,⟨h1,h2,h3,h4⟩,rfl,rfl⟩:=Qhe i;refine aA1 h (FK vs B1 H1 g1 S1 r ?_);exact Nc hi c ⟨r.ints3,h1,h2,h3,h4⟩ (k _ ρ1 B1 H1 g1 S1.wo QgI)
#where
#print D
namespace PySem
section
variable{prog:Program}{w:World}{A:Around}{E:Es}{s:Shared}
def xx{Q:ó->Ε}{r:Addr}{a b c:Int}{t u v:Tok}{n:Nat}(U:nI)(L:IsRange s.heap r a b c t u v)(x:ab7 a b c)(X:tG a b c=n)(I:n<=2 ^ 24)
    (hQ:∀(h':Heap)(z:Nat)(acc:Ļ),(∀b o',bo5 o'->Pi o')->ItemsOf (λ i v=>∃t,v=LI (a+i * c)) acc n->Q acc.toList (ck3 z)) :
    ff w A (collect ↑r) Q E s:=by
  unfold collect;refine Ef (wpAny_runValue (wa F.entry_proto_collect));rw[mv F.plain_proto_collect];show nX A.in1 bW2 (λ l=>again (az5 "list.__iadd__" (wP [l,ë r]))) _ _ s;refine Ef (wpAny_newObj_type ?_);refine Ei (Ĭ (Sa F.plain_list_iadd) (wa F.entry_list_iadd));rw[mv F.plain_list_iadd];show ł A.in1 (af6 ↑r Ķ) _ _ _;have P:az4 (nE Ā (.seq (av7 ([]:ó)))).get?>=(cz4 Nl 0):=IE
  let G:Ε:=λ s'=>∃h' z j C,(∀b o,tS b->(nE Ā (.seq (av7 ([]:ó)))).get? b>=o->Pi o)/\aZ1 { cls:=aD6, dict:=none,data:=cz3 j C,slots:=Nl }/\ItemsOf (λ i v=>∃t,v=LI (a+i * c)) j n/\s'=ck3 z
  have y:∀s',G s'->wpAny al1 A (match ay4 with
      |Value.ref a=>do
        match (<- load a).data with
          |Data.seq xs _=>Ô xs.toList
          |_=>bb8
      |_=>bb8) Q E s':=by
    rintro s' ⟨h',z,j,C,k1,k2,k3,rfl⟩;show nX A (load s.heap.objs.size) _ _ _ _;refine cI1 k2 ?_;refine ph;exact hQ h' z j (λ b o' O=>k1 b o' (Bf (Ap O)) (jl O)) k3
  refine wpAny_mono (wpAny_extend_range (A:=A) (R:=λ r s'=>r=.ok (.ret Ķ)/\G s')
    (s:=LF (nE Ā (.seq (av7 ([]:ó))))) U (jl L) x X I _ _ 0 P λ h' z j C k1 k2 k3=>⟨rfl,h',z,j,C,k1,k2,k3,rfl⟩) (Ł J s' h) (Ł e s' h)
  . cases J with
    |done f=>obtain⟨e,g⟩:=h;cases e;exact y _ g
    |again C=>exact Ĭ h.1 (codeAny_mono h.2 λ r Y L=>eP rfl g L (y _ g))
  . exact ď h.1 Ê
def jx{Q₁:Es}{r:Addr}{a b c:Int}{t u v:Tok}{n:Nat}(I:nI)(z:IsRange s.heap r a b c t u v)(f:ab7 a b c)(O:tG a b c=n)(l:n<=2 ^ 20)
  (h:∀(h':Heap) (y:Nat) (acc:Ļ),(∀b o',bo5 o'->Pi o')->ItemsOf (λ i v=>∃t,v=LI (a+i * c)) acc n->Q₁ ↑h'.objs.size (ϴ s (h'.push (ϑ ņ (.seq acc))) y)) :
  codeAny al1 A (.call (ψ bt2) (wP [af9, ë r])) (wants Q₁ E) s:=by
 refine codeAny_of_tree ?_;show ł A.in1 (do checkBuiltinCall bt2 (wP [af9, ë r]);again (az5 bt2 (wP [af9, ë r]))) _ _ s;refine Ef (wpAny_of_eq (F.newCall_tuple_1 _) (Ei (Ĭ (Sa F.plain_tuple_new) (wa F.entry_tuple_new))));rw[mv F.plain_tuple_new];have C:=sub_tuple_self;have x:=init_tuple_lookup;have L:=madeHere_tuple;have o:an6 r Η := bo8 z
 wp_walk using wpAny_typeOf o,xx (A:=A.in1) I z f O (Bj l Á)
 intro h' y acc J j;show nX _ (A6 acc.toList.toArray) (λ v=>ret v) _ _ _;unfold Builtin.Tuple.tupleExact;have sz:ÿ n:=Bj l Á;refine Ef (EM ?_ (by show ÿ acc.toList.toArray.size;simp only[Array.toArray_toList];rw[j.1];exact sz));refine ph;have e:acc.toList.toArray=acc:=Ê
 rw[e];exact h h' y acc J j
def VQ{Q:Es}{r:Addr}{a b c:Int}{t u v:Tok}{n:Nat}(o:nI)(z:IsRange s.heap r a b c t u v)(e:ab7 a b c)(y:tG a b c=n)(j:n<=2 ^ 20)
  (hQ:∀(h':Heap) (l:Nat) (acc:Ļ),(∀b o',bo5 o'->Pi o')->ItemsOf (λ i v=>∃t,v=LI (a+i * c)) acc n->bq9 h'.objs.size (ϴ s (h'.push (ϑ ņ (.seq acc))) l)) :
  ff w A (call af9 [ë r]) Q E s:=by
 refine callType_codes (Q₁:=λ obj s₁=>s₁.TypeIs obj ņ /\ Q obj s₁) F.called_tuple (F.typeCall_tuple_1 _) F.entry_object_init
  (jx (A:=A.in1) o z e y j λ h' l acc x f=>Ĭ (bo8 IE) (hQ h' l acc x f)) (Ł obj s₁ h₁)
 exact da h₁.1 (F.args_object_init_2 obj _) (object_init_meets F.called_tuple.init.lookup F.called_tuple.made Á prog w A.in1 _ s₁ (ĸ h₁.1 h₁.2))
#where
#print PySem
namespace L2
open PySem PySem.Spec PyProof.Rows
section
variable{X:Cx}
def Tt:∀{ns:Ď}{us:ó},cG8=mh->bq7 j u Value n Int (us[j]?>=u->ns[j]?>=n->∃t,u=LI n)->f8 ny
 | [],[],_,_=>mT
 | [],_::_,h,_=>cR0
 |_::_,[],h,_=>cR0
 |n::ns,u::us,h,f=>fX (f 0 u n rfl rfl) (Tt (Nat.succ.inj h) λ j v m a b=>f (j+1) v m a b)
def nF(a c:Int)(n:Nat):Ď:=pe n (λ(i:Nat)=>a+nW * c)
def QeD{a c:Int}{n:Nat}{acc:Ļ}(h:ItemsOf (λ i v=>∃t,v=LI (a+i * c)) acc n):Vals (pc (nF a c n) V.int) acc.toList:=by
 refine Tt (ky nF h.1) (TZ j u m h1 h2);obtain⟨t,e⟩:=h.2 j u bj3;have b:j<n:=dP (Ω h2) nF
 have:m=a+cP7 * c:=by simp[nF,b]at h2;exact h2.symm
 subst this;exact Ĭ t e
def Qlq{p p' pos c:Pos}(v:be5 ņ)(x:eg ņ)(P:bT1)(R:eg Η)(O:ϙ)(L:PA X [a,b] ta)
    (hs:Ñ [a,b]=[ž a,ž b]:=by rfl) (hs2:Ñ [b]=[ž b]:=by rfl) (hs3:Ñ [dm Η p' [a,b] c]=[ž (dm Η p' [a,b] c)]:=by rfl) :
    bX (NL ņ p [dm Η p' [a,b] c]) (λ σ H Q=>ta σ H λ vs f=>∃i j:Int,vs=[ng,bA7]/\(-(2 ^ 62)<=i/\i<2 ^ 62 /\ -(2 ^ 62)<=j/\j<2 ^ 62)/\IS (j-i)<=2 ^ 20/\∀l,Ū (f l)->bq9 l (upd f l (ñ (pd (nF i 1 (IS (j-i))))))):=by
  intro C s σ H Q I h;refine wm (YO I v x boot_tuple ?_);refine ϗ ?_ hs3 rfl;rw[hs3];show ł _ (spliced (ž (dm Η p' [a,b] c)::[])) _ _ s;refine aq2 (Call_ (YO I P R boot_range (ϗ (fT (L c C s σ H _ I h) us s1 vs f I1 r1 q1 ?_) (Ξ hs hs2) (û hs2))));obtain⟨i,j,e,⟨q1,Y,q3,q4⟩,F,q⟩:=q1;subst e;cases r1 with
  |cons r y =>
    cases y with
    |cons r' y =>
      cases y;obtain⟨t,rfl⟩:=r;obtain⟨t',rfl⟩:=r';refine call_range_2 (ar0 ?_);refine VQ (n:=IS (j-i)) (I1.ok.hd O) aV9 (small_one q1 Y q3 q4) aK6 F (TZ h' J acc k U)
      have z:cC8 C f (Pm s1 J):=I1.kept λ b o e=>k b o FY;have hf:Ū (f h'.objs.size):=z.hok.fresh ę;refine dE (ë h'.objs.size) (upd f h'.objs.size (ñ (pd (nF i 1 (IS (j-i)))))) (z.laid (t':=J) (λ b u e=>FY) ę ?_) (q _ hf);exact Nc (by rw[Bq];simp only[nF,Bq,List.length_range];exact Bj F Á) acc.toList (QeD U) (A5 _ IE _ rfl)
#where
#print L2
namespace D
open PySem PySem.Spec PyProof.Rows L2
def QgQ(l:Addr)(items:Ļ)(n:Nat)(e:an1)(x:Int)(u:Tok)(b:¬Ĝ (mP (Builtin.List.listFitsIndex x)))(c:¬items.size * x.toNat > (2 ^ 63-1) / 8)(a:¬Ĝ (aw1 (items.size * x.toNat))):
  Meets (Builtin.«list.__mul__» (wP [ë l,fj x u])) (λ_ R s=>ô l { cls:=aD6, dict:=none,data:=cz3 items n,slots:=e }/\R (.ok (.ret ay4)) (ϴ s (ľ (Ϗ cls (A0 Ā) (Data.seq (List.foldl (λ f i=>f++i) Nl (Ī (df items.isEmpty 0 x.toNat) items))))) s.toks)) :=
 .of_wp λ prog w A R s h=>by
  obtain⟨hp,g,d,o,os⟩:=s;obtain⟨j,h⟩:=h;have hsz:=PySem.AutoListH.joined_fits a
  wp_walk;refine wpAny_ite_false (Ep (Nat.not_lt.mpr hsz)) ?_;wp_walk;exact ĸ _ h
def QgG(a:Int)(t:Tok)(l:Addr)(items:Ļ)(n:Nat)(b:an1):
  Meets (Builtin.«int.__rmul__» (wP [LI a,ë l])) (λ_ R s=>ô l { cls:=aD6, dict:=none,data:=cz3 items n,slots:=b }/\R (.ok (.ret Value.notImplemented)) s) :=
 .of_wp λ prog w A R s h=>by obtain⟨hp,g,d,e,os⟩:=s;obtain⟨c,h⟩:=h;wp_walk;exact ĸ _ h
def MQ(v:Value):ŗ n a Ļ ((Ī n #[v]).foldl (λ b c=>b++c) a=a++av7 (Ī n v))
  |0,a=>Ê
  |n+1,a=>by rw[List.replicate_succ,List.foldl_cons,MQ v n,List.replicate_succ];apply Array.ext';simp
section
variable{X:Cx}{tg e a b c:Expr}{f fa fb:aJ}{pos:Pos}
def QlO:nS X .Mult (λ x y H Q=>∃l z n,x=ë l/\y=È n/\sm X.K l [z]/\0<=n/\n.toNat<=Ņ/\∀p,ct5->cy0 (n7 p (bv3 z))):=by
  intro O9 s σ H x y v u Q I rx ry h;obtain⟨l,z,n,rfl,rfl,O,h0,h1,q⟩:=h;cases rx;obtain⟨t,rfl⟩:=ry;obtain⟨R,Y,⟨⟨k1,lG,SL,j⟩,C,i,o,d1,J⟩,_⟩:=FO O;simp only at o d1 J;subst o d1 J;cases Y with
  |cons r rr =>
    cases rr;rename_i w;have hz:(([w]:ó).toArray.size) * n.toNat=n.toNat:=Ê
    refine wpAny_binaryOp_repeat_ref (T := Ā) (U := "int") Á (bo8 i) (λ s'=>typeIs_int s' n t) noFill_list_mul F.fills_int_mul F.slot_int_rmul repeat_list F.slot_int_index.lookup
      (call_meets F.slot_int_rmul (typeIs_int s n t) F.entry_int_rmul (F.args_int_rmul_2 _ _) (QgG n t l _ C j)
        ⟨i,rfl,bo8 i,call_meets F.slot_list_mul (bo8 i) F.entry_list_mul (F.args_list_mul_2 _ _)
          (QgQ l _ C j n t (by simp[Builtin.List.listFitsIndex];lia) (Ĵ hz) (by rw[hz];simp[Builtin.List.listTooLong,sizeLine];lia))
          (CB i)⟩)
    have L:List.foldl (λ x1 x2=>x1++x2) Nl (Ī (df ([w]:ó).toArray.isEmpty 0 n.toNat) (av7 [w]))=av7 (bv3 w):=by rw[cl9];have:=MQ w n.toNat Nl;simpa using this
    rw[L];have vr:Vals (bv3 z) (bv3 w):=by
      generalize n.toNat=m;induction m with
      |zero=>exact mT
      |succ m P=>exact fX r P
    exact dE (ë _) _ (I.lnew (t':=s.toks) vr (Å List.length_replicate (Bj h1 Á))) (q _ I.fresh)
def CW:DV->fS
 |.lst [d],.int n=>do QJ (Ó (0<=n/\n.toNat<=Ņ));E6 (bv3 d)
 |x,y=>J8 x y
def W9{K:Aa}(r:TK z):∀n:Nat,lx (Ī n d) (Ī n z)
 |0=>au.nil
 |n+1=>bc4 List.replicate au (A5 z _ r (W9 r n))
def Qnp:OG X .Mult CW:=by
 intro i s σ H x y v u Q I rx ry h;obtain⟨ρ,B,hp,O,P,d,hp',W,j,o,e,k⟩:=h;unfold CW at e;split at e
 ·rename_i d0 n;obtain⟨_,hp1,r,t⟩:=ũ;obtain⟨C,rfl⟩:=QL r;obtain⟨rfl,rfl⟩:=Qk t;obtain⟨h0,h1⟩:=Eo C;obtain⟨l,vs,rfl,nb,L,F⟩:=j.cD;obtain⟨z,rfl,J⟩:=F.cu;exact QlO i s σ H _ _ v u Q I rx ry ⟨l,z,n,rfl,o.aZ,L,h0,h1,zr W (W9 J _) k⟩
 ·exact XJ i s σ H x y v u Q I rx ry ⟨ρ,B,hp,_,_,d,hp',W,j,o,e,k⟩
def wN(f:bR):aJ:=FG (do let xs <- dc;let ds <- pW xs;br8 ds;Ô o0)
def gq{K:Aa}:∀ns:Ď,lx Ľ Ľ
 | []=>au.nil
 |n::ns=>by rw[Bb,Bb];unfold au;exact A5 _ _ Jf (gq ns)
def Qea(i:Int)(n:Nat):Zg i n=pd (nF i 1 n):=ky Zg nF
def QkH{f:bR}{p p' h:Pos}(r:eg ņ)(P:eg Η)(J:ϙ)(I:DA X [a,b] f)(o:be5 ņ := by rfl)(L:bT1 := by rfl)
  (t:Ñ [a,b]=[ž a,ž b]:=by rfl) (hs2:Ñ [b]=[ž b]:=by rfl) (hs3:Ñ [dm Η p' [a,b] h]=[ž (dm Η p' [a,b] h)]:=by rfl) :
  bb (NL ņ p [dm Η p' [a,b] h]) (wN f) :=
 (Qlq o r L P J I t hs2 hs3).imp λ σ H Q u=>by
  obtain⟨Z,env,ρ,B,hp,d,hp',S,e,k⟩:=u;obtain⟨xs,hp1,v,x⟩:=ũ;obtain⟨ds,hp2,y,z⟩:=Qg x;obtain⟨i,j,rfl,h1,h2,rfl,rfl⟩:=gu y;obtain⟨_,R,C,F⟩:=Qg z;obtain⟨t,rfl⟩:=QL C;obtain⟨rfl,rfl⟩:=Qk F;refine aA1 v (FK vs B1 H1 g1 S1 U ?_);have l:=Eo h1;have n:=Eo h2;have O:IS (j-i)<=Ņ:=bk9 (Eo t) JZ
  refine⟨i,j,U.ints2,Nc l.1 l.2 n.1 n.2,Bj O Á,xa S1.wo (gq _) ?_⟩;rw[<- Qea];exact bM5
#where
section
variable{X:Cx}{tg e a b c:Expr}{f fa fb:aJ}{pos:Pos}
def sS:DV->OS
  |.lst ds=>Ô bl6
  |.tup ds=>Ô bl6
  |.ref n=>do
    match <- OU with
    |.lst ds=>Ô bl6
    |_=>failure
  |_=>failure
def Ks{α β:re}{xs:To}{ys:Ã β}(h:ŕ=Sj):xs.isEmpty=ys.isEmpty:=by cases xs<;>cases ys<;>first|rfl|cases h
def Ql7{K:Aa}{hp hp':Hs}{k:Bool}(W:bC4)(r:ce2)(h:sS d hp>=(k,hp')):hp=hp'/\Im K v H k:=by
  cases d with
  |lst ds=>obtain⟨rfl,rfl⟩:=cB0;obtain⟨a,xs,rfl,nb,l,j⟩:=r.cD;exact Ť (ê (da xs l (nV (Ks cz6))))
  |tup ds=>obtain⟨rfl,rfl⟩:=cB0;obtain⟨a,xs,rfl,nb,l,j⟩:=r.tupI;exact Ť (Ğ (ê (da xs l (nV (Ks cz6)))))
  |ref n =>
    obtain⟨o,hp1,t,i⟩:=Qg h;obtain⟨u,rfl⟩:=ZW t;cases o with
    |lst y=>obtain⟨rfl,rfl⟩:=Qk i;obtain⟨a,rfl,_,ys,h1,x⟩:=sg r u;exact Ť (ê (da ys tT (nV (Ks ⇑x))))
    |aH _=>cases i
    |ins _ _=>cases i
  |non=>cases h
  |bl _=>cases h
  |int _=>cases h
  |str _=>cases h
def zZ(f:aJ):bV:=FG (do sS (<- dc))
def Lk(h:bb e f)(n:∀whole,ce5 e=be6 v whole e.pos (OF [v] aM8):=by intro _;rfl):DT X e (zZ f) :=
 (Qjv h n).imp λ σ H Q i=>by obtain⟨Z,env,ρ,B,hp,d,hp',S,e,k⟩:=i;obtain⟨x,hp1,j,l⟩:=ũ;refine P9 j v o ?_;obtain⟨rfl,t⟩:=Ql7 S1.wo o l;exact da d t (k ρ1 B1 H1 g1 S1.wo)
def M6(d:DV)(lo hi:Č):į:=match d with
  |.ref n=>do
    match <- OU with
    |.lst ds=>E6 (zY ds lo hi)
    |_=>failure
  |d=>iI d lo hi
def oG(f:aJ)(lo hi:nH):aJ:=FG (co8 d dc l (lo env) h (hi env) (M6 d l h))
def QpN(K:Aa):V->Č->Č->Hp->tM:=λ x lo hi H Q=>∃ρ B hp d r hp',bC4/\TK x/\M6 d lo hi hp>=(r,hp')/\iT K ρ B H r hp' Q
def QoS:SlR X (QpN X.K):=by
  intro i s σ H x v vl vu lo hi sl Q I rx hs pl pu h;obtain⟨ρ,B,hp,d,r,hp',W,l,e,k⟩:=h;cases d with
  |ref n =>
    obtain⟨o,hp1,t,j⟩:=ũ;obtain⟨u,rfl⟩:=ZW t;cases o with
    |lst ds=>obtain⟨rfl,rfl⟩:=Qk j;obtain⟨a,rfl,_,xs,h1,y⟩:=sg l u;exact TV i s σ H _ v vl vu lo hi sl Q I rx hs pl pu (A5 a xs tT (zr W (KP y) k))
    |aH _=>cases j
    |ins _ _=>cases j
  |lst ds=>exact H_ i s σ H x v vl vu lo hi sl Q I rx hs pl pu ⟨ρ,B,hp,_,r,hp',W,l,e,k⟩
  |tup ds=>exact H_ i s σ H x v vl vu lo hi sl Q I rx hs pl pu ⟨ρ,B,hp,_,r,hp',W,l,e,k⟩
  |non=>cases e
  |bl _=>cases e
  |int _=>cases e
  |str _=>cases e
def Sd{lo hi:ap4}{n j:nH}(h:bb e f)(F:DO X lo n)(C:DO X hi j):bb (bm8 e (.Slice lo hi none p2)) (oG f n j) :=
 aa1 (MX QoS h F C) (λ σ H Q r=>by obtain⟨Z,env,ρ,B,hp,d,hp',S,e,k⟩:=r;obtain⟨x,hp1,t,e⟩:=ũ;obtain⟨l,hp2,y,e⟩:=ũ;obtain⟨u,i,z,e⟩:=ũ;refine P9 t v I (oW.run S1 y λ ρ2 B2 H2 g2 S2=>oW.run S2 z (TZ ρ3 o H3 g3 S3));exact⟨ρ3,o,i,x,d,hp',S3.wo,dr (cK2 g3) _ _ I,e,AK cv7⟩)
#where
#print D
namespace TP
def qn(n m:Nat):Nat:=(aK1+m-1) / m
def ZT{n m:Nat}(c:1<=m):1<=se/\aK1<=se * m/\(se-1) * m<aK1:=by
 unfold qn;have a:=bt3 (aK1+m-1);have b:=Nat.mod_lt (aK1+m-1) (show 0<m by omega);have e:m * ((aK1+m-1) / m)=(aK1+m-1) / m * m:=Nat.mul_comm _ _;have h1:1<=(aK1+m-1) / m:=by rw[Nat.le_div_iff_mul_le tj];omega
 refine AB h1 tj;have:((aK1+m-1) / m-1) * m=(aK1+m-1) / m * m-m:=EZ Nat.sub_mul
 omega
def sx(n m:Nat)(fork:Bool)(k:Nat):Nat:=É (k=se) n (É (bv2/\1<se/\n=(se-1) * m+1/\k+1=se) (k * m-1) (k * m))
def E_(n m:Nat)(fork:Bool):sx n m fork se=n:=Ż sx sj
def VB{n m:Nat}(a:1<=m)(fork:Bool):sx n m fork 0=0:=by
 have:=(bh9 n a).1;unfold sx;rw[aE];split
 ·lia
 ·lia
def TF{n m k:Nat}(h:k<se):sx n m false k=k * m:=bY0 sx aE cl9
abbrev Rw:=bk2
def Q1(rows:Rw)(m:Nat)(fork:Bool)(k:Nat):Rw:=EH (rows.drop (aH8 m fork k)) (aH8 m fork (k+1)-aH8 m fork k)
def Qdo{rows:Rw}{m k:Nat}(a:1<=m)(h:k<IF):Q1 rows m false k=EH (rows.drop (k * m)) m:=by
 obtain⟨h1,h2,h3⟩:=bh9 rows.length a;unfold Q1;rw[TF h];by_cases e:k+1=IF
 ·rw[e,E_];have b:k * m=(IF-1) * m:=iE e
  have h4:IF * m=k * m+m:=by rw[<- e,Nat.add_mul,Nat.one_mul]
  rw[Ch (Å Bp ę),Ch (Ĵ Bp)]
 ·rw[TF À,Nat.add_mul,Nat.one_mul];congr 1;lia
def IK{n m:Nat}(a:1<=m){fork:Bool}(hf:bv2->3<=m)(i:1<=n){k:Nat}(h:k<se):sx n m fork k<sx n m fork (k+1):=by
 obtain⟨h1,h2,h3⟩:=bh9 n a;have b:(k+1) * m=k * m+m:=LM
 unfold sx;rw[Eg (tj:¬ k=se)];by_cases e:k+1=se
 ·rw[aL7];have f:k * m=(se-1) * m:=iE e
  split<;>omega
 ·rw[OO,Eg tj];by_cases c:bv2/\1<se/\n=(se-1) * m+1/\k+1+1=se
  ·rw[Eh c];have:=hf c.1;omega
  ·rw[Eg c];omega
def IV{n m:Nat}(a:1<=m)(fork:Bool){k:Nat}(h:k<=se)(b:1<=n):sx n m fork k<=n:=by
 obtain⟨h1,h2,h3⟩:=bh9 n a;unfold sx;by_cases e:k=se
 ·rw[aL7];exact ę
 ·rw[OO];have:k * m<=(se-1) * m:=cR9;split<;>lia
def Yv{rows:Rw}{m:Nat}(c:1<=m){fork:Bool}(hf:bv2->3<=m)(e:ab9 1){k:Nat}(h:k<IF):⇑(Q1 rows m fork k)=aH8 m fork (k+1)-aH8 m fork k/\1<=⇑(Q1 rows m fork k):=by have a:=IK c hf e h;have b:=IV (n:=rows.length) c fork (k:=k+1) À e;unfold Q1;rw[A9,Bp];lia
def wG(n m:Nat):ć:=É (n % m=1) (Ī (n / m-1) m++[m-1,2]) (É (0<n % m) (Ī (n / m) m++[n % m]) (Ī (n / m) m))
def GA(q m:Nat)(f:NU Nat)(h:∀k,k<q->f k=m):pe q f=Ī q m:=by rw[List.eq_replicate_iff];refine Ĭ Ê (Ź b a);obtain⟨k,c,rfl⟩:=bI4 a;exact h k (Cg.mp c)
def QkB{n m:Nat}(I:3<=m)(J:2<=n):wG n m=pe se (λ k=>sx n m true (k+1)-sx n m true k):=by
 obtain⟨h1,h2,h3⟩:=bh9 n (ð (1<=m));have y:aK1=n:=À
 rw[y]at h2 h3;have t:=bt3 n;have lt:=Nat.mod_lt n (ð (0<m));have F:m * (n / m)=n / m * m:=Nat.mul_comm _ _;have i:∀k:Nat,(k+1) * m=k * m+m:=λ k=>LM
 have f:se=É (n % m=0) (n / m) (n / m+1):=by
  have low:∀x:Nat,(x-1) * m<n->n<=x * m->1<=x->x=se:=λ x a b c=>by
   rcases bX7 x se with l|l|l
   ·have:x * m<=(se-1) * m:=cR9;lia
   ·exact l
   ·have:se * m<=(x-1) * m:=cR9;lia
  by_cases r:n % m=0
  ·rw[Eh r];have q1:1<=n / m:=by
    rcases aP5 n m with z|z
    ·rw[z,Nat.mul_zero]at t;lia
    ·exact z
   have:=i (n / m-1);rw[aa4]at this;exact(low _ À À q1).symm
  ·rw[Eg r];exact(low _ (Ĵ Nat.add_sub_cancel) (Ĵ i) (Nat.le_add_left 1 _)).symm
 unfold wG;by_cases v:n % m=1
 ·rw[Eh v];rw[aE]at f;have q1:1<=n / m:=by
   rcases aP5 n m with z|z
   ·rw[z,Nat.mul_zero]at t;lia
   ·exact z
  have e:se=(n / m-1)+1+1:=À
  have o:n=(se-1) * m+1:=by rw[f];simp;lia
  have s:∀k,k+1<se->sx n m true k=k * m:=λ k h=>bY0 sx aE aE
  have C:sx n m true (n / m)=n / m * m-1:=bY0 sx aE (Eh (Nc rfl À o À))
  have j:=E_ n m true;rw[e,List.range_succ,List.range_succ,List.map_append,List.map_append,GA (n / m-1) m _ (λ k u=>by rw[s k À,s (k+1) À,i];lia)];have m1:=i (n / m-1);rw[aa4]at m1;simp only[Bb,List.map_nil,A8,List.cons_append,List.nil_append];congr 1;rw[aa4,s (n / m-1) À,C,ð (n / m+1=se),j];congr 1
  ·lia
  ·congr 1;lia
 ·rw[Eg v];have s:∀k,k<se->sx n m true k=k * m:=λ k h=>by
   unfold sx;rw[aE,Eg ?_];rintro⟨_,_,c,_⟩;by_cases r:n % m=0
   ·rw[Eh r]at f;have q1:1<=n / m:=À
    have m1:=i (n / m-1);rw[aa4]at m1;rw[f]at c;lia
   ·rw[Eg r]at f;rw[f]at c;simp at c;lia
  have j:=E_ n m true;by_cases r:0<n % m
  ·rw[Eh r];rw[aE]at f;rw[f,List.range_succ,List.map_append,GA (n / m) m _ (λ k u=>by rw[s k À,s (k+1) À,i];lia)];congr 1;simp only[Bb,List.map_nil];rw[<- f,j,s (n / m) À];congr 1;lia
  ·rw[Eg r];rw[aL8]at f;have q1:1<=n / m:=À
   rw[f];refine(GA (n / m) m _ (Ź k u)).symm;rw[s k À];by_cases e:k+1=se
   ·rw[e,j];have:se * m=k * m+m:=an9 e i
    rw[f]at this;lia
   ·rw[s (k+1) À,i];lia
def YE(rows:Rw)(m:Nat)(fork:Bool)(k:Nat):Int:=((Q1 rows m fork k).headD (0,0)).1
def zS(rows:Rw)(m:Nat)(fork:Bool)(first:Nat):Rw:=pe IF (λ k=>(YE rows m fork k,Ì (first+k:Nat)))
def Ue(rows:Rw)(m:Nat)(fork:Bool)(first:Nat):⇑(zS rows m fork first)=IF:=ą zS
def T_{n m:Nat}(a:2<=m)(c:2<=n):se<n:=by
 obtain⟨h1,h2,h3⟩:=bh9 n (ð (1<=m));have b:aK1=n:=À
 rw[b]at h3;have:(se-1) * 2<=(se-1) * m:=ś a;lia
#print TP
namespace D
open PySem PySem.Spec PyProof.Rows L2
def Oj(ds:á)(a b:Nat)(h:a<=b):D.zY ds ce7 (ai8 b)=EH cE5 (b-a):=by
 unfold D.zY;rw[HT.sIx_nat,HT.sIx_nat];rcases aX2 a Ć with q|q
 ·rw[RI q];rcases aX2 b Ć with c|c
  ·rw[RI c]
  ·rw[aA2 c,Ch Ê,Ch č]
 ·rw[aA2 q,Cm q,Cm ę];simp
section
variable{env:En}{hp hp1 hp2 hp3:Hs}{f g h:aJ}{ds:á}{d:DV}
def QjU{a b:Nat}(hf:aT>=(fI,hp))(l:az0>=(ú a,hp))(n:h env hp>=(ú b,hp))(c:a<=b):bH f ar2 (Ze h) env hp>=(Ø (EH cE5 (b-a)),hp):=by
 unfold bH Ze;rw[bs0];have e:(cB5 i SU:M Č) hp>=(ce7,hp):=û (Qe l)
 have j:(cB5 i (h env):M Č) hp>=(ai8 b,hp):=û (Qe n)
 rw[Qe e,Qe j,<- Oj ds a b c];rfl
def Ql5{a:Nat}(hf:aT>=(fI,hp))(c:az0>=(ú a,hp)):bH f ar2 Zw env hp>=(Ø cE5,hp):=by
 unfold bH Ze Zw;rw[bs0];have b:(cB5 i SU:M Č) hp>=(ce7,hp):=û bQ3
 rw[bH1,Qe (rfl:(aI9:M Č) hp>=(aE1 hp)),<- yA ds a];rfl
def Qhu{a b:Nat}(hf:aT>=(d,hp))(l:az0>=(ú a,hp))(o:h env hp>=(ú b,hp))(c:a<=b)(hd:d=fI∨∃n,d=LD/\bM8 n):oG f ar2 (Ze h) env hp>=(Ø (EH cE5 (b-a)),hp):=by
 unfold oG Ze;rw[bs0];have e:(cB5 i SU:M Č) hp>=(ce7,hp):=û (Qe l)
 have j:(cB5 i (h env):M Č) hp>=(ai8 b,hp):=û (Qe o)
 rw[Qe e,Qe j,<- Oj ds a b c];rcases hd with rfl|⟨n,rfl,r⟩
 ·rfl
 ·show(OU >>= _) hp=_;rw[Φ r];rfl
def Qj8{a n:Nat}(hf:aT>=(LD,hp))(e:bM8 n)(c:az0>=(ú a,hp)):oG f ar2 Zw env hp>=(Ø cE5,hp):=by
 unfold oG Ze Zw;rw[bs0];have b:(cB5 i SU:M Č) hp>=(ce7,hp):=û bQ3
 rw[bH1,Qe (rfl:(aI9:M Č) hp>=(aE1 hp)),<- yA ds a];show(OU >>= _) hp=_;rw[Φ e];rfl
def XV{i:Nat}(hf:aT>=(fI,hp))(a:az0>=(ú i,hp))(hd:aR9):wy f g env hp>=(d,hp):=by
 refine Qn hf a ?_;show bF fI ↥nW hp=_;rw[Tn (d:=d)]
 ·rfl
 ·rw[R8 À (Ě (Ω hd))];exact hd
def Zq{i:Nat}(hf:aT>=(o0,hp))(a:az0>=(ú i,hp))(hd:aR9):wy f g env hp>=(d,hp):=Qn hf a (Xc hd hp)
def Yi{i n:Nat}(hf:aT>=(LD,hp))(b:bM8 n)(a:az0>=(ú i,hp))(hd:aR9):wy f g env hp>=(d,hp):=Qn hf a (kU b hd)
def yf(hf:aT>=(fI,hp)):bX9 Z2 f env hp>=(È Ć,hp):=bt4 hf (MC ds hp)
def J7{n:Nat}(hf:aT>=(LD,hp))(a:bM8 n):bX9 Z2 f env hp>=(È Ć,hp):=bt4 hf (MB a)
def Ko{i j:Int}(hf:aT>=(ng,hp))(a:az0>=(bA7,hp)):Qh Q7 f g env hp>=(È (i+j),hp):=Qn hf a rfl
def VA{i j:Int}(hf:aT>=(ng,hp))(a:az0>=(bA7,hp)):Qh XO f g env hp>=(È (i-j),hp):=Qn hf a rfl
def zh{i j:Nat}(hf:aT>=(ú i,hp))(a:az0>=(ú j,hp)):Qh Q7 f g env hp>=(ú (i+j:Nat),hp):=Ŷ (Ko hf a)
def K9{i j:Int}(hf:aT>=(ng,hp))(a:az0>=(bA7,hp)):Qh dD f g env hp>=(cR8 j i,hp):=Qn hf a rfl
def RX{i j:Int}(hf:aT>=(ng,hp))(a:az0>=(bA7,hp)):Qh cU f g env hp>=(cR8 i j,hp):=Qn hf a rfl
def LR{i j:Int}(hf:aT>=(ng,hp))(a:az0>=(bA7,hp)):Qh cP f g env hp>=(ξ (i==j),hp):=Qn hf a (SE i j hp)
def jX{nw:Bool}{a:lY}{idx:ć}{t:bV}{e:aJ}{m:DV->DV}(i:a env hp>=(T1,hp))(j:∀x∈ds,t (cK9 x) hp>=(true,hp))(b:∀x∈ds,e (cK9 x) hp>=(m x,hp))(c:Ć<Ņ):Jb false a idx t e env hp>=(Ø (ds.map m),hp):=ϻ Jb (Qe i) (cs7 (Qe (Qgn (t:=λ d=>t cL0) (f:=λ d=>e cL0) ds j b c)))
def Lw{i:Nat}(hf:aT>=(d,hp1))(a:cX7)(b:Ć<Ņ):v8 i f env hp>=(ϧ (ay6 (ds++[d])),hp1):=by unfold v8;rw[bs0];simp only[a];rw[Eh (Ý (Ć<lim) b)];rfl
#where
def Wx{b:DV->aG}(J:cd7)(hp:Hs)(ds:á)(c:∀(i:Nat) d,aR9->b d (J i) hp>=(TD (i+1),hp)):Yb b ds aN8 hp>=(cV4,hp):=by
  suffices h:∀(m i:Nat),m+i=Ć->Yb b cd0 (J i) hp>=(cV4,hp)by simpa using h Ć 0 rfl
  intro m;induction m with
  |zero =>
    intro i e;have:i=Ć:=À
    subst this;rw[C7];rfl
  |succ m f =>
    intro i e;have a:i<Ć:=À
    rw[Bi a,Ku (c i ds[i] bg7)];exact f (i+1) À
def Qio{b:DV->aG}(J:cd7)(W:NU Hs)(ds:á)(c:∀(i:Nat) d,aR9->b d (J i) YP>=(TD (i+1),W (i+1))):Yb b ds aN8 bi0>=(cV4,W Ć):=by
  suffices h:∀(m i:Nat),m+i=Ć->Yb b cd0 (J i) YP>=(cV4,W Ć)by simpa using h Ć 0 rfl
  intro m;induction m with
  |zero =>
    intro i e;have:i=Ć:=À
    subst this;rw[C7];rfl
  |succ m f =>
    intro i e;have a:i<Ć:=À
    rw[Bi a,Ku (c i ds[i] bg7)];exact f (i+1) À
def K7{b:DV->aG}(J:cd7)(W:NU Hs)(ds:á)(c:Ć<Ņ)(f:∀(i:Nat) d,aR9->b d (J i) YP>=(TD (i+1),W (i+1))):xY T1 b Ņ 0 aN8 bi0>=(cV4,W Ć):=by
 have:=M2 (b:=b) (env:=aN8) (hp:=bi0) (Q:=λ r h=>r=cV4/\h=W Ć) ds (λ i env h=>env=J i/\h=YP) c ft (λ i d hd env h ⟨a,e2⟩=>by subst a e2;exact WP.of (f i d hd) ft) (λ env h ⟨a,e2⟩=>Ĭ (nV a) e2)
 obtain⟨r,h,e,rfl,rfl⟩:=this;exact e
def kn(rows:TP.Rw)(m:Nat)(fork:Bool)(k:Nat):DV:=match hX m fork k with
 | []=>ī
 |r::_=>È r.1
def uZ(rows:TP.Rw)(m:Nat)(fork:Bool)(k:Nat):DV:=bR5 (Na (hX m fork k) (É fork 1 0)) r r.1
def Ug(rows:TP.Rw)(m:Nat)(fork:Bool)(k:Nat):DV:=bR5 (hX m fork k) r r.2
def Xh(rows:TP.Rw)(m:Nat)(fork:Bool)(k:Nat):DV:=ñ [kn rows m fork k,uZ rows m fork k,Ug rows m fork k]
def ZR(rows:TP.Rw)(m:Nat)(fork:Bool):á:=cy2 NH m fork
def UN(rows:TP.Rw)(m:Nat)(fork:Bool)(lv first:Nat)(k:Nat):DV:=ñ [È lv,uZ rows m fork k,Ug rows m fork k,É (k+1=NH) ī (kn rows m fork (k+1)),É (k+1=NH) ī (ú (first+(k+1):Nat))]
def JX(rows:TP.Rw)(m:Nat)(fork:Bool)(lv first:Nat):á:=pe NH (UN rows m fork lv first)
def qH{n i:Nat}{f:NU DV}(h:i<n):dC (pe n f) (f i):=Ρ Bt (EG h)
def Qjn(r:TP.Rw)(a:Nat):Na (aM r) a=aM (r.drop a):=Ż aM List.map_drop
def Qjo(r:TP.Rw)(a:Nat):EH (aM r) a=aM (r.take a):=Ż aM List.map_take
def Sw(r:TP.Rw)(g:DV->DV):pc (aM r) g=r.map λ p=>g (ñ [È ϰ,bj7]):=þ aM List.map_map
def Ih:DV->DV
 |.tup (x::_)=>x
 |_=>ī
def QpF:DV->DV
 |.tup (_::y::_)=>y
 |_=>ī
def Qke{c:bV}{n:Nat}(h:aN7>=(Ž hp)):J0 c b (n+1) env hp>=(L3,hp):=Mw h
#print D
namespace TR
def prs(p:Pg):bk2:=OI
def dh{xs ys:Ď}{a b:Int}:(a,b)∈xs.zip ys↔∃i:Nat,dC xs a/\dC ys b:=by
 rw[Bv];constructor
 ·rintro⟨i,h⟩;have:=bQ7 h;exact da i this.1 this.2
 ·rintro⟨i,h1,h2⟩;exact Ĭ i (List.getElem?_zip_eq_some.mpr (Ĭ h1 h2))
def vC(a b:Ď)(n:Nat):EH (a.zip b) n=(a.take n).zip (b.take n):=List.take_zipWith
def vB(a b:Ď)(n:Nat):Na (a.zip b) n=(a.drop n).zip (b.drop n):=List.drop_zipWith
def Ly{ks:Ď}(h:lS){i:Nat}{a k:Int}(b:dC ks a):i<oQ↔a<k:=by
 obtain⟨h1,h2⟩:=zJ h k;constructor
 ·intro hi;have:a∈EF oQ:=aP6 i (eI Ed (Eh hi) b);rw[h1]at this;simpa using ah2 this
 ·intro c;refine aI0 hi;have:a∈OZ oQ:=aP6 (i-oQ) (eI Cb (ð (oQ+(i-oQ)=i)) b);rw[h2]at this;have:k<=a:=bR3 this
  lia
def Gx{ks:Ď}(h:lS){i:Nat}{a k:Int}(b:dC ks a):i<i8↔a<=k:=by
 obtain⟨h1,h2⟩:=qe h k;constructor
 ·intro hi;have:a∈EF i8:=aP6 i (eI Ed (Eh hi) b);rw[h1]at this;simpa using ah2 this
 ·intro c;refine aI0 hi;have:a∈OZ i8:=aP6 (i-i8) (eI Cb (ð (i8+(i-i8)=i)) b);rw[h2]at this;have:k<a:=bR3 this
  lia
def R7{ks:Ď}(h:lS){i:Nat}{k:Int}(hi:dC ks k):oQ=i/\i8=i+1:=by have a:=not_congr (Ly (k:=k) h hi);have b:=(Gx (k:=k) h hi).mpr am3;have c:=QhT h k;have d:=a.mpr À;lia
def QhB{p:Pg}(h:rS){k v:Int}:Q4 p k>=v↔(k,v)∈ET:=by
 unfold Q4 prs;rw[dh];constructor
 ·intro e;by_cases q:oS=Pe
  ·rw[Eh q]at e;cases e
  ·rw[Eg q]at e;have c:k∈p.ks:=Classical.byContradiction λ z=>q (R6 z);obtain⟨i,hi⟩:=bY1 c;have:=(R7 h hi).1;exact da i hi (æ this e)
 ·rintro⟨i,hi,f⟩;obtain⟨a,b⟩:=R7 h hi;rw[aE,a];exact f
def Vd{p:Pg}{k v:Int}(h:(k,v)∈ET):k∈p.ks:=ar8 i h1 (dh.mp h) (Aw h1)
def QaV{p:Pg}(h:rS)(a:Ϲ=Š)(k x:Int):prs (QM p k x)=EH ET oS++(k,x)::Na ET Pe:=by unfold QM prs;rw[List.zip_append (bf8 A9 A9 a),List.zip_cons_cons,vC,vB]
def QcV{p:Pg}(h:rS)(a:Ϲ=Š)(k:Int):prs (NW k)=EH ET oS++Na ET Pe:=by unfold without prs;rw[List.zip_append (bf8 A9 A9 a),vC,vB]
def gm{p:Pg}(h:rS)(k:Int){a b:Int}:((a,b)∈EH ET oS∨(a,b)∈Na ET Pe)↔a≠k/\(a,b)∈ET:=by
 have c:∀{i:Nat},dC ET (a,b)->dC p.ks a:=λ e=>(bQ7 e).1;constructor
 ·rintro(m|m)
  ·obtain⟨i,hi⟩:=bY1 m;rw[Ed]at hi;by_cases q:i<oS
   ·rw[Eh q]at hi;have:=(Ly h (c hi)).mp q;exact Ĭ À (Aw hi)
   ·rw[Eg q]at hi;cases hi
  ·obtain⟨i,hi⟩:=bY1 m;rw[Cb]at hi;have:=(not_congr (Gx (k:=k) h (c hi))).mp À;exact Ĭ À (Aw hi)
 ·rintro⟨ne,m⟩;obtain⟨i,hi⟩:=bY1 m;rcases Int.lt_or_gt_of_ne ne with l|l
  ·have:=(Ly h (c hi)).mpr l;exact ê (aP6 i (eI Ed (Eh this) hi))
  ·have:=(not_congr (Gx (k:=k) h (c hi))).mpr À;exact Ğ (aP6 (i-Pe) (eI Cb (ð (Pe+(i-Pe)=i)) hi))
def QaU{p:Pg}(h:rS)(c:Ϲ=Š)(k x:Int){a b:Int}:(a,b)∈prs (QM p k x)↔(a=k/\b=x)∨(a≠k/\(a,b)∈ET):=by
 rw[QaV h c,Ai,Bk,<- gm h k];constructor
 ·rintro(m|m|m)
  ·exact Ğ (ê m)
  ·cases m;exact ê ft
  ·exact Ğ (Ğ m)
 ·rintro(⟨rfl,rfl⟩|m|m)
  ·exact Ğ ı
  ·exact ê m
  ·exact Ğ (Ğ m)
def QcU{p:Pg}(h:rS)(c:Ϲ=Š)(k:Int){a b:Int}:(a,b)∈prs (NW k)↔a≠k/\(a,b)∈ET:=by rw[QcV h c,Ai,<- gm h k]
def QdF{P:Pg}(hz:P.lv=0)(n:Nat):prs (Q9 P n)++prs tU=prs P:=by
 have a:OY=ES:=Ż Zz (Eh hz)
 unfold prs Q9 QR;rw[a];show(Th).zip (P.ps.take ES)++(P.ks.drop ES).zip (P.ps.drop ES)=P.ks.zip P.ps;rw[<- vC,<- vB,Bz]
def Lf(S:Sh)(k v:Int):Û:=Sf n p (dA/\LJ/\(k,v)∈ET)
def bM(S:Sh)(F:E1):Û:=∀k v,bW3>=v↔Lf S k v
def pR(F:E1)(k x:Int):Int->Č:=λ j=>aI8 (j=k) x (F j)
def nu(F:E1)(k:Int):Int->Č:=λ j=>Af (j=k) (F j)
def Lo(S:Sh)(n:Nat)(k v:Int):Û:=Sf m p (m≠n/\aw m/\LJ/\(k,v)∈ET)
section
variable{S:Sh}{bg:Bg}{n:Nat}{p P:Pg}{k v:Int}{F:E1}
def Tree.len0(T:we)(a:dA)(hz:LJ):Ϲ=Š:=bk9 (eW n p a).parts (Eh hz)
def Lf.split(a:dA)(hz:LJ):Lf S k v↔Lo S n k v∨(k,v)∈ET:=by
 constructor
 ·rintro⟨m,q,h1,h2,h3⟩;by_cases e:m=n
  ·subst e;rw[a]at h1;cases h1;exact Ğ h3
  ·exact ê ⟨m,q,e,h1,h2,h3⟩
 ·rintro(⟨m,q,_,h1,h2,h3⟩|h)
  ·exact cx8 h1
  ·exact⟨n,p,a,hz,h⟩
def Tree.dR(T:we)(j:dA)(hz:LJ)(h1:aH2 k)(h2:RO k):¬ Lo S n k v:=by
 rintro⟨m,q,e,i,l,h3⟩;have ok:=eW m q i;have f:=Vd h3;rcases T.dis n m p q j i À (λ x=>an0)with ⟨h,u,a,b,c⟩|⟨h,u,a,b,c⟩
 ·have:=h2 h a;have:=ok.low k f u b;lia
 ·have:=h1 u b;have:=ok.high k f h a;lia
def Tree.iW(T:we)(c:bM S F)(a:dA)(hz:LJ)(h1:aH2 k)(h2:RO k):Q4 p k=bW3:=by
  have f:=(eW n p a).sorted;have key:∀v,Q4 p k>=v↔bW3>=v:=λ v=>by rw[QhB f,c k v,bY2 a];exact Ĭ .inr (λ h=>h.elim (λ h=>cD2 (T.dR a hz h1 h2)) id)
  cases e:bW3 with
  |some v=>exact(key v).mpr e
  |none =>
    cases b:Q4 p k with
    |none=>rfl
    |some v=>rw[(key v).mp b]at e;cases e
def Qhs{w:Wk}(c:dA)(hz:LJ)(i:ci3)(k v:Int):Lf bS8.1 k v↔Lo S n k v∨(k,v)∈prs P:=by
 have f:=Zl c;unfold Qt;by_cases b:cm1
 ·rw[Eh b];constructor
  ·rintro⟨m,q,h1,h2,h3⟩;rcases JM h1 with ⟨rfl,rfl,_⟩|⟨e,h⟩
   ·exact Ğ h3
   ·exact ê ⟨m,q,e,h,h2,h3⟩
  ·rintro(⟨m,q,e,h1,h2,h3⟩|h)
   ·exact cY2 ((oh n P)[m]?=_) bF8 h1
   ·exact⟨n,P,N2 (oh n P)[n]? _ (Au f),À,h⟩
 ·rw[Eg b];have a:=QdF (P:=P) À Î;constructor
  ·rintro⟨m,q,h1,h2,h3⟩;rcases JM (xs:=bP4) h1 with ⟨rfl,rfl,_⟩|⟨e,h⟩
   ·exact Ğ (æ a (A7 _ h3))
   ·rcases Qv h with ⟨rfl,rfl⟩|h
    ·exact Ğ (æ a (bG1 h3))
    ·exact ê ⟨m,q,e,h,h2,h3⟩
  ·rintro(⟨m,q,e,h1,h2,h3⟩|h)
   ·exact cY2 (((bP4).set n Fv)[m]?=_) bF8 (J5 h1)
   ·rw[<- a]at h;rcases sN h with h|h
    ·exact⟨n,Fv,N2 ((bP4).set n Fv)[n]? _ (Au č),lL (P.lv=0),h⟩
    ·exact⟨Î,tU,by show((bP4).set n Fv)[Î]?=_;rw[Am À];simp,lL (P.lv=0),h⟩
def Qhr{w:Wk}(a:dA)(hz:Ql)(c:ci3)(k v:Int):Lf bS8.1 k v↔Lf S k v:=by
 have f:=Zl a;unfold Qt;by_cases b:cm1
 ·rw[Eh b];constructor
  ·rintro⟨m,q,h1,h2,h3⟩;rcases JM h1 with ⟨rfl,rfl,_⟩|⟨e,h⟩
   ·lia
   ·exact cx8 h
  ·rintro⟨m,q,h1,h2,h3⟩;have e:m≠n:=λ e=>aB9 a h1 h1
   exact cY2 ((oh n P)[m]?=_) bF8 h1
 ·rw[Eg b];constructor
  ·rintro⟨m,q,h1,h2,h3⟩;rcases JM (xs:=bP4) h1 with ⟨rfl,rfl,_⟩|⟨e,h⟩
   ·have:P.lv=0:=h2;lia
   ·rcases Qv h with ⟨rfl,rfl⟩|h
    ·have:P.lv=0:=h2;lia
    ·exact cx8 h
  ·rintro⟨m,q,h1,h2,h3⟩;have e:m≠n:=λ e=>aB9 a h1 h1
   exact cY2 (((bP4).set n Fv)[m]?=_) bF8 (J5 h1)
def Tree.mj(T:we)(i:bM S F)(c:dA)(hz:LJ)(h1:aH2 k)(h2:RO k){x:Int}(f:∀a b,Lf S' a b↔Lo S n a b∨(a,b)∈prs (QM p k x)):bM S' (pR F k x):=λ a b=>by
 have j:=(eW n p c).sorted;rw[f,QaU j (T.len0 c hz)];unfold pR;by_cases e:a=k
 ·subst e;rw[sj];constructor
  ·intro h;cases h;exact Ğ (ê ft)
  ·rintro(h|⟨_,rfl⟩|⟨h,_⟩)
   ·exact cD2 (T.dR c hz h1 h2)
   ·rfl
   ·exact aA7 h
 ·rw[OO,i,bY2 c];constructor
  ·rintro(h|h)
   ·exact ca1
   ·exact Ğ (pS e h)
  ·rintro(h|⟨h,_⟩|⟨_,h⟩)
   ·exact ca1
   ·exact cD2 e
   ·exact Ğ h
def Tree.mq(T:we)(i:bM S F)(c:dA)(hz:LJ)(h1:aH2 k)(h2:RO k)(f:∀a b,Lf S' a b↔Lo S n a b∨(a,b)∈prs (NW k)):bM S' (nu F k):=λ a b=>by
 have j:=(eW n p c).sorted;rw[f,QcU j (T.len0 c hz)];unfold nu;by_cases e:a=k
 ·subst e;rw[sj];constructor
  ·intro h;cases h
  ·rintro(h|⟨h,_⟩)
   ·exact cD2 (T.dR c hz h1 h2)
   ·exact aA7 h
 ·rw[OO,i,bY2 c];exact cb0 h (h.imp id λ h=>Ĭ e h) (λ h=>h.imp id And.right)
def bM.same{a:Sh}(b:bM S F)(h:a.pg=S.pg):bM a F:=λ k v=>by rw[b k v];unfold Lf;rw[h]
#where
def lZ(S:Sh)(bg:Bg)(w:Wk):Û:=w.O6=0->match w.O2 with
 |.stretch l h=>l<h/\(w.aim=l∨Sf s p (tR s/\aw s/\LJ/\bg s>=w.aim/\l<w.aim/\w.aim<h))
 |.find k=>w.aim=k
 |.put k _=>w.aim=k
 |.cut k=>w.aim=k
def lZ.grow{w:Wk}(A:lZ S bg w)(g:aK3):lZ S' aN w:=λ h0=>by
  have a:=A h0;cases hd:w.O2 with
  |find k=>rw[hd]at a;exact a
  |put k x=>rw[hd]at a;exact a
  |cut k=>rw[hd]at a;exact a
  |stretch l h=>rw[hd]at a;obtain⟨b,c⟩:=a;refine Ĭ b (c.imp id ?_);rintro⟨s,p,i,j,f,n,o⟩;obtain⟨e,p',r,t⟩:=g.old s p j;exact⟨s,p',i,r,t.trans f,Å e n,o⟩
def lC(F:E1)(a e:Int)(ps:Ew):Û:=ps.Pairwise (λ x y=>x.1<y.1)/\∀k v,(k,v)∈ps↔bW3>=v/\a<=k/\k<e
def Did(F F':E1)(w a:Wk):Δ Row
  |.non=>False
  |.found _ x=>∃k,w.O2=.find k/\x=bW3/\F'=F/\a.O3=bW3/\ag9/\Ĝ a.O7
  |.put _ x t=>∃k y,w.O2=.put k y/\x=bW3/\F'=pR F k y/\a.O3=bW3/\ag9/\a.O7=t.isNone/\(ca6->0<a.O6)
  |.cut _ x=>∃k,w.O2=.cut k/\x=bW3/\F'=nu F k/\a.O3=bW3/\ag9/\Ĝ a.O7
  |.read _ ps t=>∃l h,w.O2=aj6 l h/\F'=F/\a.pairs=ON ps/\a.O3=w.O3/\match t with
    |none=>lC F w.aim h ps/\Ĝ a.O7
    |some (_,x)=>w.aim<x/\x<h/\lC F w.aim x ps/\a.aim=x/\ca6/\a.O6=0
  |.side _ _=>F'=F/\a.O3=w.O3/\ag9/\ca6/\a.O6=w.O6/\a.aim=w.aim
  |.down _ _=>F'=F/\a.O3=w.O3/\ag9/\ca6/\a.O6=w.O6/\a.aim=w.aim
  |.told _ t=>bm2/\F'=F/\a.O3=w.O3/\ag9/\a.O7=t.isNone/\(ca6->0<a.O6)
  |.raised _ _=>bm2/\F'=F/\a.O3=w.O3/\ag9/\Ĝ a.O7
def GN{p:Pg}(h:rS):aV2 ET (λ x y=>x.1<y.1):=by
 rw[Cq]at h ⊢;intro i j hi e c;have a:ET[i].1=p.ks[i]'(by have:=hi;simp[prs]at this;lia):=ą prs
 have b:ET[j].1=p.ks[j]'(by have:=e;simp[prs]at this;lia):=ą prs
 rw[a,b];exact h i j _ _ c
section
variable{S S':Sh}{bg:Bg}{n:Nat}{p P:Pg}{w w':Wk}{F:E1}{r:Row}
def gF(S:Sh)(w:Wk)(n:Nat)(P:Pg):(bS9).O2=w.O2/\(bS9).O3=w.O3/\ag8 (bS9).pairs/\(je->(bS9).O7=(Qt S w n P).1.isNone)/\(ė (bS9).O7->je->0<(bS9).O6)/\((bS9).O6=0->(bS9).aim=w.aim/\(bS9).place=w.place):=by
 unfold Qt;by_cases a:cm1
 ·rw[Eh a];exact bU4 rfl rfl aj2 cR2 (λ_=>ft)
 ·rw[Eg a];exact bU4 rfl rfl (λ h=>h) (λ_ _=>IZ) cR2
def lZ.moved{S:Sh}{bg:Bg}{w:Wk}(A:lZ S bg w)(f:aq5)(c:wd)(no:∀s p,tR s->aw s->LJ->bg s>=w.aim->False):lZ S bg (Ė w O5 f place c):=λ h0=>by
  have a:=A h0;unfold lZ at A;dsimp only;cases hd:w.O2 with
  |find k=>rw[hd]at a;exact a
  |put k x=>rw[hd]at a;exact a
  |cut k=>rw[hd]at a;exact a
  |stretch l h=>rw[hd]at a;refine Ĭ a.1 (ê (a.2.resolve_right ?_));rintro⟨s',p',e,i,b,j,_⟩;exact no s' p' e i b j
def Qj0(T:we)(W:cy9)(A:lZ S bg w)(L:je)(C:bM S F)(i:JP S w>=(r,S',w')):∃F',bM S' F'/\Did F F' w w' r/\lZ S bg w'/\w'.O2=w.O2:=by
  obtain⟨p,t,v⟩:=Vy L i;clear i;have J:tR ß∨(Ϭ/\aV1 ß):=by
    cases w.place with
    |none=>exact Ğ ft
    |some m=>exact ı
  generalize ß=n at t v J;have ok:=eW n p t;have la:cx5:=by
    rcases J with hp|⟨_,rfl⟩
    . obtain⟨p',a1,a2,a3⟩:=bh6 n
      exact a3
    . intro v hv;rw[T.j_]at hv;cases hv
  have sn:∀s',tR s'->s'=n:=λ s' z=>by
    rcases J with hp|⟨hp,_⟩
    . rw[hp]at z;exact aL4 z
    . rw[hp]at z;cases z
  cases v with
  |raised hr a1 =>
    refine⟨F,Ź a b,dE À rfl rfl rfl,λ h0=>AQ (w.O6=0) h0 À,rfl⟩;rw[C a b];constructor
    . rintro⟨m,q,h1,h2,h3⟩
      exact cx8 (J5 h1)
    . rintro⟨m,q,h1,h2,h3⟩
      rcases Qv h1 with ⟨rfl,rfl⟩|h
      . cases h2
      . exact cx8 h
  |side _ I _ =>
    refine⟨F,ak4,EC rfl rfl rfl L rfl,A.moved _ _ (bF5 s' p' z R b0 b3),rfl⟩;cases sn s' z;rcases at9 n t with ⟨a,b⟩|⟨h,s,q,a,b,c,d,e⟩
    . unfold Zy at I;rw[a]at I;cases I
    . have:=ok.wide h a _ b3
      unfold Zy at I;rw[a]at I;have:h<=w.aim:=Ä I
      lia
  |down _ _ hd _=>refine⟨F,ak4,EC rfl rfl rfl L rfl,A.moved _ _ (bF5 s' p' z R b0 b3),rfl⟩;cases sn s' z;rw[t]at R;cases R;lia
  |told hr I hd h0 a1 =>
    have hg:cH4:=by
      rcases J with hp|⟨hp,_⟩
      . obtain⟨p',z,R,_⟩:=bh6 n
        rw[t]at z;cases z;exact R
      . exact C4 λ h=>hr (Ĭ hp h)
    rename_i k;obtain⟨U,X,c3,c4,Y,c6⟩:=gF sL w n cT5;refine⟨F,Ź a b,⟨h0,rfl,X,c3,c4 L,λ h=>Y h L⟩,NV h1,U⟩
    . rw[Qhr (S:=sL) (p:=p) (P:=cT5) t À rfl];exact C a b
    . exfalso
      by_cases e:ė (bS6 sL cT5).2.O7
      . exact ď h1 (Ea (Y e L))
      . unfold Qt at h1
        by_cases q1:cm0 (a7 cT5)
        . rw[Eh q1]at h1;have:w.O6=0:=h1;lia
        . rw[Eg q1]at h1;cases h1
  |leaf hr I hd g0 i =>
    have lh:=xT (eH I);have hz:LJ:=À
    have o:=A g0;have Q:=T.iW C t hz la lh;unfold Jp at i;cases f:w.O2 with
    |find k=>rw[f]at o i;cases i;have o:w.aim=k:=o;subst o;exact⟨F,ak4,bE7 _ f Q Q rfl rfl,λ_=>ą f,ą f⟩
    |put k x =>
      rw[f]at o i;have o:w.aim=k:=o;subst o;obtain⟨U,X,c3,c4,Y,c6⟩:=gF sL (bK4 au4) n (at8 p x);dsimp only at i;simp only[Prod.mk.injEq]at i;obtain⟨rfl,rfl,rfl⟩:=i;rw[f]at U X c3 c4 Y c6;refine⟨pR F w.aim x,?_,⟨_,_,f,Q,rfl,X.trans Q,c3,c4 L,λ h=>Y h L⟩,NV h1,U⟩
      . exact T.mj C t hz la lh λ a b=>Å (Qhs (S:=sL) (p:=p) (P:=at8 p x) t hz rfl) Iff.rfl
      . have:=(c6 h1).1
        rw[U];exact this
    |cut k =>
      rw[f]at o i;have o:w.aim=k:=o;subst o;dsimp only at i;cases i;refine⟨nu F w.aim,?_,bE7 _ f Q Q rfl rfl,λ_=>ą f,ą f⟩;by_cases hq:tF au4
      . rw[Eh hq]
        refine T.mq C t hz la lh (Ź a b);have ln:=Zl t;constructor
        . rintro⟨m,q,h1,h2,h3⟩
          rcases JM h1 with ⟨rfl,rfl,_⟩|⟨e,h⟩
          . exact Ğ h3
          . exact ê ⟨m,q,e,h,h2,h3⟩
        . rintro(⟨m,q,e,h1,h2,h3⟩|h)
          . exact cY2 ((oh n ap9)[m]?=_) bF8 h1
          . exact⟨n,ap9,N2 (oh n ap9)[n]? _ (Au ln),hz,h⟩
      . rw[Eg hq]
        have fn:Ū (F w.aim):=æ Q (Option.not_isSome_iff_eq_none.mp hq)
        have:nu F w.aim=F:=funext λ j=>by
          unfold nu;by_cases e:j=w.aim
          . rw[aL7,e,fn]
          . rw[OO]
        rw[this];exact ak4
    |stretch l h =>
      rw[f]at o i;obtain⟨a6,O⟩:=o;dsimp only at i;have so:=GN ok.sorted;have ge:∀k v,(k,v)∈ET->l<=k->w.aim<=k:=λ k v hm a8=>by
        rcases O with O|⟨s',p',z,R,b0,b3,b4,b5⟩
        . lia
        . cases sn s' z
          exact ok.low k (Vd hm) _ b3
      have al:l<=w.aim:=by rcases O with O|⟨_,_,_,_,_,_,b4,_⟩<;>lia
      have ah:w.aim<h:=by rcases O with O|⟨_,_,_,_,_,_,_,b5⟩<;>lia
      have rd:∀e:Int,e<=h->(∀x,aL5 x->e<=x)->(∀k v,(k,v)∈ET->k<h->k<e)->lC F w.aim e (Za p l h):=λ e he hx hk=>by
        refine Ĭ (sC so) (Ź k v);unfold Za;rw[Bm,C k v,bY2 t];constructor
        . rintro⟨m,c⟩
          simp only[Bc,decide_eq_true_eq]at c;exact da (Ğ m) (ge k v m c.1) (hk k v m c.2)
        . rintro⟨m,U,X⟩
          have lb:aH2 k:=λ u hu=>Ě (la u hu)
          have lk:RO k:=λ u hu=>Ě (hx u hu)
          rcases m with m|m
          . exact ď m (T.dR t hz lb lk)
          . exact Ĭ m (by simp only[Bc,decide_eq_true_eq];lia)
      rcases at9 n t with ⟨a,b⟩|⟨x,s,q,a,b,c,d,e⟩
      . simp only[a,b]at i
        cases i;exact⟨F,ak4,bV2 l h f rfl rfl (rd h am3 (λ x hx=>ĩ a hx hx) (λ k v _ c=>c)) rfl,λ_=>by simp only[f];exact Ĭ a6 O,ą f⟩
      . simp only[a,b]at i
        have ax:w.aim<x:=lh x a;by_cases hx:h<=x
        . rw[Eh hx]at i
          cases i;exact⟨F,ak4,bV2 l h f rfl rfl (rd h am3 (λ y hy=>AU a hy hy hx) (λ k v _ c=>c)) rfl,λ_=>by simp only[f];exact Ĭ a6 O,ą f⟩
        . rw[Eg hx]at i
          cases i;refine⟨F,ak4,⟨l,h,f,rfl,rfl,rfl,ax,À,rd x À (λ y hy=>AU a hy hy am3) (λ k v m _=>ok.high k (Vd m) x a),rfl,L,g0⟩,λ_=>?_,ą f⟩;simp only[f];exact Ĭ a6 (Ğ ⟨s,q,rfl,c,À,e,À,À⟩)
#where
def Kd(S:Sh)(c:Nat):Û:=Sf m q (bS3/\0<q.lv/\ts∈q.ps)
def Tells(a:Ã Wk)(c:Nat):Û:=hH i w Wk (dC a w/\je/\bm2/\bq2 c)
def rY(S:Sh)(a:Ã Wk):Û:=∀n:Nat,n<Î->bq3 n->Kd S n∨Tells a n
section
variable{S S':Sh}{bg:Bg}{n:Nat}{p P:Pg}{w w':Wk}{r:Row}{ws:Ã Wk}{i:Nat}
def gD{w:Wk}(b:dA)(l:ci3)(a:Ql->∀x∈p.ps,cz7 x){c:Nat}(h:Kd S c∨(0<P.lv/\cz7 ts)):Kd bS8.1 c:=by
 have j:=Zl b;have key:Sf m q (m≠n/\bS3/\0<q.lv/\ts∈q.ps)∨(0<P.lv/\cz7 ts):=by
  rcases h with ⟨m,q,h1,h2,h3⟩|h
  ·by_cases e:m=n
   ·subst e;rw[b]at h1;cases h1;exact pS À (a h2 _ h3)
   ·exact ê ⟨m,q,e,h1,h2,h3⟩
  ·exact Ğ h
 unfold Qt;by_cases f:cm1
 ·rw[Eh f];rcases key with ⟨m,q,e,h1,h2,h3⟩|⟨h1,h2⟩
  ·exact cY2 ((oh n P)[m]?=_) bF8 h1
  ·exact⟨n,P,N2 (oh n P)[n]? _ (Au j),h1,h2⟩
 ·rw[Eg f];rcases key with ⟨m,q,e,h1,h2,h3⟩|⟨h1,h2⟩
  ·exact cY2 (((bP4).set n Fv)[m]?=_) bF8 (J5 h1)
  ·rw[<- Bz OY P.ps]at h2;rcases sN h2 with h|h
   ·exact⟨n,Fv,N2 ((bP4).set n Fv)[n]? _ (Au č),h1,h⟩
   ·exact⟨Î,tU,by show((bP4).set n Fv)[Î]?=_;rw[Am À];simp,h1,h⟩
def Tells.other{c:Nat}(h:Tells ws c)(hi:dC ws w)(f:je->bm2->w.O1≠bA9):Tells (cO0 w') c:=by
 obtain⟨j,v,a,b,d,e⟩:=h;have ne:j≠i:=λ z=>by subst z;rw[hi]at a;cases a;exact f b d e
 exact⟨j,v,Å (bF6 x (ne x.symm)) a,b,d,e⟩
def Tells.self{c:Nat}(hi:dC ws w)(h1:aQ9)(h2:0<w'.O6)(h3:w'.O1>=c):Tells (cO0 w') c :=
 ⟨i,w',Au (Zl hi),h1,h2,h3⟩
def QaH{w:Wk}(S:Sh)(n:Nat)(P:Pg)(h:S.O4<Ν)(a:je):ė (bS9).O7/\0<(bS9).O6/\(bS9).O1>=Î:=ϻ Qt aE (Œ a IZ)
def Qep{w:Wk}(S:Sh)(n:Nat)(P:Pg){c:Nat}(a:c<bi2 bS8):c<Î∨(c=Î/\S.O4<Ν):=by
 unfold Qt at a;by_cases b:cm1
 ·rw[Eh b]at a;exact ê cs0
 ·rw[Eg b]at a;have:c<Î+1:=cs0
  rcases Bh c Î with h|h
  ·exact ca1
  ·exact pS À À
def Qer{w:Wk}(S:Sh)(n:Nat)(P:Pg):aV1 bS8.1.top:=aI1 Qt
def rY.step(D:rY S ws)(T:we)(W:cy9)(hi:dC ws w)(Q:je)(hs:JP S w>=(r,S',w')):rY S' (cO0 w'):=by
  have still:∀{x:Wk}{I:Sh},I.pg=S.pg->aV1 I.top->(je->bm2->ė x.O7/\x.O6=w.O6/\x.O1=w.O1)->rY I (cO0 x):=λ{x I} X e2 e3 c l o=>by
    rw[X]at l;rw[e2]at o;rcases D c l o with ⟨m,q,h⟩|⟨j,v,a,b,d,e⟩
    . exact ê (da m q (Å X h))
    . by_cases z:j=i
      . subst z;rw[hi]at a;cases a
        obtain⟨L,Y,O⟩:=e3 b d;exact Ğ (Tells.self hi L À (O.trans e))
      . exact Ğ ⟨j,v,Å (bF6 x (z x.symm)) a,b,d,e⟩
  have back:∀{p:Pg}(_:aw ß)(F:Wk)(P:Pg),ė F.O7->ci3->(Ql->∀x∈p.ps,cz7 x)->(∀c,bm2->bq2 c->0<P.lv/\cz7 ts)->rY (FH sL F ß P).1 (cO0 (FH sL F ß P).2):=λ{p} hp F P e0 hl t C c l o=>by
    rw[Qer]at o;rcases Qep _ ß P l with l|⟨l,u⟩
    . rcases D c l o with h|h
      . exact ê (gD (S:=sL) hp hl t ca1)
      . by_cases z:bq2 c/\bm2
        . exact ê (gD (S:=sL) hp hl t (Ğ (C c OB z.1)))
        . exact Ğ (h.other hi λ_ a b=>z (Ĭ b a))
    . obtain⟨L,Y,O⟩:=QaH (w:=F) sL ß P u e0
      exact Ğ (Tells.self hi L Y (Å O (im some l.symm)))
  cases xl Q hs with
  |@raised p k hp hr J =>
    intro c l o;have l:c<Î+1:=Ä l
    have o:c≠Î:=o;have tK:(n4 [(cG5 [dX,Ϯ]:Pg)])[Î]?>=(cG5 [dX,Ϯ]):=Ê
    by_cases e:aV1 c
    . exact ê ⟨Î,_,tK,IZ,ą e⟩
    by_cases U:c=k
    . exact ê ⟨Î,_,tK,IZ,ą U⟩
    rcases D c À e with ⟨m,q,h1,h2,h3⟩|h
    . exact ê (cx8 (J5 h1))
    . exact Ğ (h.other hi λ_ _ h=>mE J h (U (aL4 h)))
  |side n s=>exact still rfl rfl λ a _=>ĸ a rfl
  |down n c f=>exact still rfl rfl λ a _=>ĸ a rfl
  |@told p k m hp hr h0 J =>
    have hg:cH4:=by
      cases e:w.place with
      |some n=>obtain⟨p',R,b2,_⟩:=W.at_ n e;rw[e]at hp;have hp:dA:=hp;rw[hp]at R;cases R;exact b2
      |none=>exact C4 λ h=>hr (Ĭ e h)
    refine back hp w cT5 Q rfl (λ_ x hx=>?_) λ c _ l=>CB (lL Ql)
    . show x∈OX (IB+1)++Ϯ::ad7 (IB+1)
      rw[<- Bz (IB+1) p.ps]at hx;rcases bx0 with h|h
      . exact A7 _ h
      . exact bG1 (ch6 h)
    . rw[J]at l;cases l
      show Ϯ∈OX (IB+1)++Ϯ::ad7 (IB+1);simp
  |found n x g0 hd=>exact still rfl rfl λ_ h=>cD4
  |@put p m k x y hd hp l0 g0=>exact back hp (bK4 y) (at8 p x) Q rfl (λ h=>cD4) λ c h=>cD4
  |@cut p m y b hp l0 g0 hd =>
    cases b with
    |false=>exact still rfl rfl λ_ h=>cD4
    |true =>
      intro c l o;have l:c<Î:=Ä l
      rcases D c l o with ⟨j,q,h1,h2,h3⟩|h
      . have e:j≠ß:=λ e=>by rw[e,hp]at h1;cases h1;lia
        exact ê (cx7 j (hW ((oh ß ap9)[j]?=_) bF8 h1))
      . exact Ğ (h.other hi λ_ a=>ď a À)
  |last n ps g0 hd=>exact still rfl rfl λ_ h=>cD4
  |next hp hx g0 hd=>exact still rfl rfl λ_ h=>cD4
def Tree.straight(T:we)(R:dA)(hl:Ql){aim:Int}(h1:aH2 aim)(h2:RO aim){c:Nat}{q:Pg}(hc:rq c)(hq:ci2)(t:bh4=cg5 h8)(D:∀s,q.sd>=s->Kd S s):ė (Zy q aim):=by
  have ok:=eW n p R;cases hx:Zy q aim with
  |false=>rfl
  |true =>
    exfalso;rcases T.link c q hc with ⟨a,b⟩|⟨h,s,z,a,b,hs,d,e⟩
    . unfold Zy at hx;rw[a]at hx;cases hx
    . have ha:h<=aim:=by unfold Zy at hx;rw[a]at hx;simpa using hx
      have X:=(eW c q hc).wide h a;obtain⟨m,f,C,hf,hk⟩:=D s b;obtain⟨j,hj⟩:=bY1 hk;obtain⟨c',z',e1,e2,e3,l⟩:=T.kid m f C hf j _ hj;have:c'=s:=À
      subst this;rw[hs]at e2;cases e2;have J:=eW m f C;have low:ltB ň h:=λ v I=>by
        cases o:h8 with
        |zero=>rw[o]at t;exact X v (t.trans I)
        |succ i =>
          rw[o]at t;have y:i<Š:=Ě (ao2 aim)
          have hi:bh4>=p.ks[i]:=t.trans (Ab y);have:=X _ hi;have:=ok.low _ (B8 y) v I;lia
      by_cases Oc:m=n
      . subst Oc
        rw[R]at C;cases C;rw[e]at l;cases j with
        |zero=>have:=low h l.symm;lia
        |succ i =>
          have hi:dC p.ks h:=l.symm;have i1:=(Gx (k:=aim) ok.sorted hi).mpr ha;cases o:h8 with
          |zero=>lia
          |succ F =>
            rw[o]at t;have y:F<Š:=Ě (ao2 aim)
            have Q:bh4>=p.ks[F]:=t.trans (Ab y);have w1:=X _ Q;have ge:h<=p.ks[F]:=by
              rcases Bh i F with lt|ge
              . exact Cj (X2 ok.sorted hi (Ab y) lt)
              . have:i=F:=À
                subst this;rw[Ab y]at hi;cases hi;exact am3
            lia
      . have a8:ci1 f.lv:=À
        have Y:cF (bg m) (è h)/\(∀u,f.hi>=u->h<u):=by
          rw[e]at l;cases j with
          |zero=>have l:è h=bg m:=l;exact Ĭ (æ l cN4) (λ u U=>J.wide u U h l.symm)
          |succ i=>have hi:dC f.ks h:=l.symm;have mem:=Aw hi;exact Ĭ (λ v I=>ĸ h (J.low h mem v I)) (λ u U=>J.high h mem u U)
        rcases T.dis n m p f R C À (λ z=>Oc z.symm)with ⟨x,v,L,O,a3⟩|⟨x,v,L,O,a3⟩
        . have:=h2 x L
          obtain⟨u,b1,b2⟩:=Y.1 v O;cases b1;lia
        . have:=Y.2 x L
          have:=low v O;lia
#where
inductive Steps:NU (Sh->Wk->Sh->Δ Wk)
 |nil (S:Sh) (w:Wk):aP7 0 w S w
 |cons {m:Nat} {S S1 S':Sh} {w w1 w':Wk} {r:Row}:je->JP S w>=(r,S1,w1)->Steps m S1 w1 S' w'->aP7 (m+1) w S' w'
def In(S:Sh)(bg:Bg)(n:Nat)(k:Int):Û:=∃p:Pg,dA/\aH2 k/\RO k
def Fk(S:Sh):Û:=AZ n p (dA->Ql->1<=Š)
section
variable{S S':Sh}{bg aN:Bg}{n f:Nat}{p q P:Pg}{w w':Wk}{r:Row}{a k:Int}{F:E1}
def Tree.nest(T:we)(Q:dA)(hf:rq f)(hl:ST=q.lv)(O:aH2 a)(X:RO a)(Y:leB (bg f) a)(b2:iu a q.hi):cF (bg f) ň/\∀h,q.hi>=h->∃u,aL5 u/\u<=h:=by
 constructor
 ·intro v o;have U:=eW f q hf;have pl:=U.parts;rw[aE]at pl;obtain⟨c,z,e1,j,e3,b⟩:=aA3 f q hf À 0 _ (À:0<⇑q.ps);have b:bh4=bg f:=b;by_cases e:n=c
  ·subst e;exact da v (b.trans o) am3
  ·rcases T.dis n c p z Q j À e with ⟨h,u,i,l,t⟩|⟨h,u,i,l,t⟩
   ·have:=X h i;have:=Y v o;rw[b,o]at l;cases l;lia
   ·have:=(eW c z j).wide h i v (b.trans o);exact da u l À
 ·intro h I;rcases T.link f q hf with ⟨x,_⟩|⟨h',s,y,i,l,t,x4,J⟩
  ·rw[I]at x;cases x
  ·rw[I]at i;cases i;have pl:=(eW s y t).parts;rw[aE]at pl;obtain⟨c,z,e1,j,e3,b⟩:=aA3 s y t À 0 _ (À:0<⇑y.ps);have b:bh4=bg s:=b;have ah:=b2 h I;have ne:n≠c:=λ e=>by subst e;have:=O h (b.trans J);lia
   rcases T.dis n c p z Q j À ne with ⟨u,v,L,C,R⟩|⟨u,v,L,C,R⟩
   ·rw[b,J]at C;cases C;exact da u L R
   ·have:=(eW c z j).wide u L h (b.trans J);have:=O v C;lia
def Tree.iJ(T:we)(c:dA)(hf:rq f)(C:ST=q.lv)(o:bI5 S n a)(t:bI5 S f a)(z:bI5 S n k):bI5 S f k:=by obtain⟨_,b,e,i⟩:=o;rw[c]at b;cases b;obtain⟨_,b,j,l⟩:=t;rw[hf]at b;cases b;obtain⟨_,b,k1,k2⟩:=z;rw[c]at b;cases b;obtain⟨x,y⟩:=T.nest c hf C e i j l;refine Nc q hf (x.leB k1) (Ź h v);obtain⟨u,u1,u2⟩:=y h v;have:=k2 u u1;lia
def Tree.mF(T:we)(D:∀s,s<Î->bq3 s->Kd S s)(i:aw S.top):aZ2:=by
 rcases at9 S.top i with ⟨x,_⟩|⟨h,s,y,L,O,o,Q,t⟩
 ·exact x
 ·exfalso;have ne:bq3 s:=fg e e T.j_ t t
  obtain⟨m,g,h1,h2,h3⟩:=D s (Zl o) ne;obtain⟨j,u⟩:=bY1 h3;obtain⟨c,z,C,b,I,J⟩:=T.kid m g h1 h2 j _ u;have:c=s:=À
  subst this;rw[o]at b;cases b;obtain⟨r,l,v⟩:=T.root;rw[i]at l;cases l;have:=v m g h1;lia
def Qom(T:we)(D:∀s,s<Î->bq3 s->Kd S s)(o:ß=n)(b:dA)(Y:je)(hg:w.O6=0)(L:Ql)(l:bI6 S n):
    Sf c q (JP S w>=(.down n c,sL,Ė w O5 cN0 place bA9)/\rq c/\ci2/\bI6 S c):=by
  obtain⟨_,I,u,x⟩:=l;rw[b]at I;cases I;have ok:=eW n p b;have pl:=ok.parts;rw[aE]at pl;have J:IB<Ϲ:=Ě cw9
  obtain⟨c,q,Q,j,y,C⟩:=aA3 n p b L _ _ J;have nb:ė bx9:=by
    unfold Zy;cases U:p.hi with
    |none=>rfl
    |some h=>have:=x h U;simp;lia
  have nq:=T.straight b L u x j y C λ s X=>by obtain⟨h,z,x1,x2,x3,O,_⟩:=Mz T j X;exact D s (Zl x2) (fg e e T.j_ O O)
  refine⟨c,q,?_,j,y,q,j,?_,xT nq⟩
  . unfold JP
    rw[cH2 Y,o];simp only[b];rw[aE,nb,cl9,aL8,Ab J,Q];simp only[B0]
  . rw[C]
    cases R:IB with
    |zero=>exact u
    |succ i=>intro v t;have t:dC p.ks v:=t;exact(Gx ok.sorted t).mp À
def Fk.settle(K:Fk S){w:Wk}(i:dA)(e:ci3)(h1:0<P.lv->1<=Ν)(h3:S.O4<Ν->3<=Ν):Fk bS8.1:=by
 unfold Qt;by_cases c:cm1
 ·rw[Eh c];intro m q b h0;rcases JM b with ⟨rfl,rfl,_⟩|⟨_,h⟩
  ·exact h1 h0
  ·exact K m q h h0
 ·rw[Eg c];have j:=h3 À;intro m q b h0;rcases JM (xs:=bP4) b with ⟨rfl,rfl,_⟩|⟨_,h⟩
  ·show 1<=⇑Th;rw[A9];unfold mid;lia
  ·rcases Qv h with ⟨rfl,rfl⟩|h
   ·show 1<=⇑aa7;have h0:0<P.lv:=h0;rw[Bp];unfold Zz;rw[aE];unfold mid;lia
   ·exact K m q h h0
def Fk.step(K:Fk S)(T:we)(e:JP S w>=(r,S',w')):Fk S':=by
  have v:=T.bx;cases j:w.O7 with
  |true=>unfold JP at e;rw[Eh j]at e;cases e;exact K
  |false =>
    cases xl j e with
    |raised hp l o =>
      intro m q i h0;rcases Qv i with ⟨rfl,rfl⟩|h
      . exact ę
      . exact K m q h h0
    |side n s=>exact K
    |down n c f=>exact K
    |@told p k n hp l u o =>
      exact Fk.settle (S:=sL) K hp rfl (λ_=>by show 1<=⇑(_++_::_:Ď);rw[An,Ba];lia) (λ h=>by have h:S.O4<a7 cT5:=h;lia)
    |found n x g0 hd=>exact K
    |@put p n k x y hd hp t g0 =>
      exact Fk.settle (S:=sL) K hp rfl (λ_=>by show 1<=⇑(_++_::_:Ď);rw[An,Ba];lia) (λ h=>by have h:S.O4<a7 (at8 p x):=h;lia)
    |@cut p n y b hp t g0 hd =>
      cases b with
      |false=>exact K
      |true =>
        intro m q i h1;rcases JM i with ⟨rfl,rfl,_⟩|⟨_,h⟩
        . have:Ql:=h1
          lia
        . exact K m q h h1
    |last n ps g0 hd=>exact K
    |next hp hx g0 hd=>exact K
structure Al(S:Sh)(bg:Bg)(F:E1)(w:Wk):Û where
 tree:we
 fk:Fk S
 tab:bM S F
 told:rY S [w]
 aim:lZ S bg w
 iD:je->cy9
 oV:je->bm2->∀k,cx9->aY S k
def Al.step(A:Al S bg F w)(b:je):∃r S' w' aN h,JP S w>=(r,S',w')/\Al S' aN h w'/\aK3/\Did F h w w' r/\w'.O2=w.O2/\S'.O4=S.O4:=by obtain⟨r,S',w',aN,j,c⟩:=TJ A.tree cC3 b (A.oV b);obtain⟨h,h1,h2,h3,h4⟩:=Qj0 A.tree cC3 A.aim b A.tab j;exact⟨r,S',w',aN,h,j,⟨c.tree,A.fk.step A.tree j,h1,A.told.step (i:=0) A.tree cC3 rfl b j,h3.grow c.grow,c.iD,λ e g k l=>(c.new k e g l).1⟩,c.grow,h2,h4,c.O4⟩
def Al.fM(A:Al S bg F w)(h:w.O6=0∨Ĝ w.O7):∀s,s<Î->bq3 s->Kd S s:=λ s h1 h2=>by
 rcases A.told s h1 h2 with h3|⟨i,v,a,b,c,_⟩
 ·exact h3
 ·cases i with
  |zero=>cases a;rcases h with h|h;lia;rw[h]at b;cases b
  |succ i=>cases a
#where
section
variable{S S':Sh}{bg aN:Bg}{n f:Nat}{p q P:Pg}{w w':Wk}{r:Row}{a k:Int}{F F':E1}{R:Nat}
def In.grow(h:bI5 S n k)(g:aK3)(e:cG9 n=ä n):In S' aN n k:=by obtain⟨p,h1,h2,h3⟩:=h;exact Nc p (Å e h1) (Å (g.old n p h1).1 h2) h3
def Kp(S:Sh)(bg:Bg)(w:Wk)(lo R:Nat):Û:=∀j,lo<=j->j<=R->Sf f q (mI j>=f/\rq f/\bD9 j/\bI6 S f)
def Steps.snoc{m:Nat}{w e l:Wk}(h:aP7 m w S1 e)(j:ė e.O7)(i:JP S1 e>=(r,S2,l)):aP7 (m+1) w S2 l:=by
 induction h with
 |nil S w=>exact .cons j i (.nil _ _)
 |cons a b c o=>exact .cons a b (o j i)
def Steps.app{m e:Nat}{w i j:Wk}(h:aP7 m w S1 i)(h':Steps e S1 i S2 j):aP7 (m+e) w S2 j:=by
 induction h with
 |nil S w=>rw[C9];exact h'
 |cons a b c l=>rw[Nat.add_right_comm];exact .cons a b (l h')
def Wm:∀(l:Nat){S:Sh}{bg:Bg}{w:Wk}{n:Nat}{p:Pg},Al S bg F w->je->w.O6=0->rL l->ß=n->dA->bI6 S n ->
    ∃o z i C J,aH3 S o z/\aP7 l w o i/\Al o z F i/\o.pg=S.pg/\aV1 o.top/\o.O4=S.O4/\ė i.O7/\i.O6=0/\i.aim=w.aim/\i.O2=w.O2/\ag8 i.pairs/\i.place.getD o.top=C/\o.pg[C]?>=J/\J.lv=0/\In o z C i.aim/\Kp o z i 1 l/\∀j,l<j->Ju i.O5 j=mI j
  |0,S,bg,w,n,p,A,y,I,O,h0,x,t=>⟨S,bg,w,n,p,bf.refl,.nil S w,A,rfl,rfl,rfl,y,I,rfl,rfl,rfl,h0,x,O,t,λ j a b=>À,be9 j⟩
  |l+1,S,bg,w,n,p,A,y,I,O,h0,x,t=>by
    obtain⟨c,q,e1,e2,e3,e4⟩:=Qom A.tree (A.fM (ê I)) h0 x y I À t;obtain⟨r,S1,w1,a8,F1,s1,A1,g1,d1,lG,_⟩:=A.step y;rw[e1]at s1;cases s1;have hF:F1=F:=d1.1;rw[hF]at A1;obtain⟨o,z,i,C,J,b0,b1,b2,U,b4,b5,b6,b7,L,b9,Q,rW,Y,pQ,CN,CK,CJ⟩:=Wm l A1 y I À (tz (cG6 (bA9:wd) _=c)) e2 (e4.grow g1 rfl);refine⟨o,z,i,C,J,du b0,?_,b2,U,b4,b5,b6,b7,L,b9,Q,rW,Y,pQ,CN,?_,Ź j hj⟩
    . rw[Nat.add_comm]
      have:=(Steps.cons y e1 (.nil _ _)).app b1
      rwa [Nat.add_comm]at this ⊢
    . intro j j1 j2
      by_cases e:j=l+1
      . subst e
        have X:Ju i.O5 (l+1)>=n:=by rw[CJ (l+1) À];show Ju cN0 (l+1)=_;rw[jD,Eh O.symm]
        refine⟨n,p,X,Å U x,O,?_⟩;obtain⟨_,x1,x2,x3⟩:=t;rw[x]at x1;cases x1;refine Nc p (Å U x) ?_ (Å L x3);rw[L];obtain⟨_,y1,y2,y3⟩:=CN;rw[Y]at y1;cases y1;intro v hv;have W2:=b2.iD b6;by_cases pl:Ū i.place
        . have:=W2.none_ pl _ n X;lia
        . obtain⟨m,hm⟩:∃m,i.place>=m:=by
            cases h:i.place with
            |none=>exact cD2 pl
            |some m=>exact õ m
          have em:m=C:=mE hm rW rW
          subst em;obtain⟨u,u1,u2⟩:=W2.above m J hm Y _ n X À v hv;have:=y2 u u1;have e8:i.aim=w.aim:=L;lia
      . exact CK j j1 À
    . rw[CJ j À]
      show Ju cN0 j=_;rw[jD,aE]
structure Bs(S:Sh)(bg:Bg)(F:E1)(w:Wk)(R:Nat):Û where
 al:Al S bg F w
 live:je
 root:∃p,aw S.top/\rL R
 pos:bm2
 le:cH3 (R+1)
 pl:w.place=mI w.O6
 kp:Kp S bg w w.O6 R
 no:∀j,R<j->Ū (mI j)
def Kp.up(T:we)(K:Kp S bg w ST R)(J:dA)(o:bI6 S n)(I:bI5 S n k):ŗ j f Nat (ST<=j->j<=R->mI j>=f->bI5 S f k):=by
  have key:∀(i:Nat),ST+i<=R->∃f q,mI (ST+i)>=f/\rq f/\bD9 (ST+i)/\bI5 S f k:=by
    intro i;induction i with
    |zero=>intro h;obtain⟨f,q,b,c,l,e⟩:=K ST ę h;exact⟨f,q,b,c,l,T.iJ J c À o e I⟩
    |succ i L=>intro h;obtain⟨f,q,b,c,l,e⟩:=L À;obtain⟨Y,q1,t,Q,U,v⟩:=K (ST+i) À À;rw[b]at t;cases t;obtain⟨C,O,x,u,y,z⟩:=K (ST+(i+1)) À h;exact⟨C,O,x,u,y,T.iJ c u À v z e⟩
  intro j f h1 h2 hf;obtain⟨X,q,b,c,l,e⟩:=key (j-ST) À;rw[ð (ST+(j-ST)=j),hf]at b;cases b;exact e
def Bs.of(T:we)(u:Al S' aN F' w')(g:aK3)(o:dA)(c:bI6 S n)(x:bI5 S n Ff)(K:Kp S bg w ST R)(no:∀j,R<j->Ū (mI j))(C:∃z,NJ z/\z.lv=R)(y:p.lv<=R)
  (hS:S'.pg=(bP4).set n Fv) (ht:aV1 S'.top) (e1:w'.O6=ST) (e2:w'.aim=Ff) (e3:w'.place=mI ST) (e4:w'.O5=w.O5) (e5:aQ9):Bs S' aN F' w' R where
 al:=u
 live:=e5
 root:=by obtain⟨z,h1,h2⟩:=C;obtain⟨_,I,h3,h4⟩:=g.old _ z h1;exact da I (Å ht h3) À
 pos:=À
 le:=À
 pl:=bf8 e3 e4 e1
 kp:=λ j i t=>by
  rw[e1]at i;obtain⟨f,q,l,b,v,J⟩:=K j i t;have h:=K.up T o c x j f i t l;have ne:f≠n:=λ e=>aB9 o b b
  have same:cG9 f=ä f:=by rw[hS,bF6 e (ne e.symm),b];exact J5 b
  exact⟨f,q,Å e4 l,Å same b,v,Å e2 (h.grow g same)⟩
 no:=λ j h=>Å e4 (no j h)
def Sx(ok:bh5 Ν P)(h3:3<=Ν)(c:dA)(b:P.hi=p.hi):bI5 S n Ff:=by have m:=Aw (bc0 P P);exact Nc p c (ok.low _ m) (æ b (ok.high _ m))
def Bs.finish:∀(m:Nat){S:Sh}{bg:Bg}{w:Wk},Bs S bg F w R->R+1-w.O6=m->∃x S' aN w',aK3/\aP7 x w S' w'/\x<=m+1/\Al S' aN F w'/\ca8/\w'.O3=w.O3/\cw7/\w'.O2=w.O2/\S'.O4=S.O4:=by
  intro m;induction m with
  |zero =>
    intro S bg w B hm;have X:w.O6=R+1:=Ě B.le
    have pn:Ϭ:=Å B.pl (B.no _ À)
    obtain⟨z,hz,a8⟩:=B.root;obtain⟨r,S',w',aN,F',t,o,g1,d1,L,y⟩:=B.al.step B.live;obtain⟨k,q,C,l,a3,O⟩:=(B.al.iD B.live).tell B.pos;have i:=t;unfold JP at i;rw[cH2 B.live,pn]at i;simp only[Option.getD_none,hz]at i;rw[Eh (ax7 trivial)]at i;simp only[C]at i;cases i;obtain⟨_,J,I,u,b3⟩:=d1;rw[J]at o;exact⟨1,_,_,_,g1,.cons B.live t (.nil _ _),ę,o,rfl,rfl,rfl,rfl,y⟩
  |succ m ih =>
    intro S bg w B hm;have X:cH3 R:=À
    obtain⟨f,q,C,l,a3,O⟩:=B.kp w.O6 ę X;have pf:tR f:=B.pl.trans C;obtain⟨_,Q,I,u⟩:=O;rw[l]at Q;cases Q;obtain⟨r,S',w',aN,F',t,o,g1,d1,L,y⟩:=B.al.step B.live;have W:=B.al.iD B.live;obtain⟨k,z,U,c2,c3,c4⟩:=W.tell B.pos;have nb:ė (aL0 q):=by
      unfold Zy;cases hh:q.hi with
      |none=>rfl
      |some h=>have:=u h hh;simp;lia
    have i:=t;unfold JP at i;rw[cH2 B.live,pf]at i;simp only[Option.getD_some,l]at i;rw[cl9,nb,cl9,aE,Eh B.pos]at i;simp only[U]at i;simp only[Option.some.injEq,Prod.mk.injEq]at i;obtain⟨rfl,rfl,rfl⟩:=i;obtain⟨_,J,x1,x2,x3,x4⟩:=d1;rw[J]at o;by_cases b:cm0 (a7 cT6)
    . have en:Ĝ (TW sL f cT6).2.O7:=Ż Qt (Eh b)
      exact⟨1,_,_,_,g1,.cons B.live t (.nil _ _),À,o,en,x1,x2,L,y⟩
    . obtain⟨n1,n2⟩:=v_ B.al.tree l c2 À c4 (B.al.oV B.live B.pos k U)
      have lt:ltB (bg f) w.aim:=λ v Y=>by have:=I v Y;have:v≠w.aim:=λ e=>n2 (Ξ Y e);lia
      have eV:=vv (B.al.tree.page f q l) (Ě B.pos) (c:=k) n1 lt u;have r2:=B.al.tree.bx;have B':Bs (TW sL f cT6).1 aN F (TW sL f cT6).2 R:=by
        refine Bs.of (P:=cT6) B.al.tree o g1 l (Nc q l I u) (Sx eV À l rfl) (λ j j1 j2=>B.kp j À j2) B.no B.root À ?_ ?_ ?_ ?_ ?_ ?_ ?_
        all_goals (unfold Qt;rw[Eg b];first|done|exact B.live|rfl)
      have gl:(TW sL f cT6).2.O6=w.O6+1:=by unfold Qt;rw[Eg b];show ci0=_;lia
      obtain⟨x,S2,iB,w2,t0,t1,t2,t3,t4,t5,t6,t7,t8⟩:=ih B' À;exact⟨x+1,S2,iB,w2,du t0,.cons B.live t t1,À,t3,t4,t5.trans x1,t6.trans x2,t7.trans L,t8.trans y⟩
#where
section
variable{S S':Sh}{bg aN:Bg}{n f:Nat}{p q P:Pg}{w w':Wk}{r:Row}{a k:Int}{F F':E1}{R:Nat}
def JS(S:Sh)(l:Nat):Nat:=bx7 (bW S λ x=>oX x l)
def Gy{l:Nat}(h:dA)(b:rL l):n∈IP FE (bW S λ x=>oX x l) :=
 Bm.mpr (Ĭ (av2 h) (cC1 h b))
def Wq{l:Nat}(h:dA)(b:rL l):1<=JS S l:=aC0 (Gy h b)
def Qn3{l:ć}{x y:Nat}(hx:x∈l)(c:y∈l)(ne:x≠y):2<=⇑l:=by
  cases l with
  |nil=>cases hx
  |cons a l =>
    cases l with
    |nil=>rw[Ar]at hx c;exact ď (hx.trans c.symm) ne
    |cons b l=>simp
def QkA(T:we)(K:Fk S)(h:dA)(i:Ql):2<=JS S (p.lv-1):=by have k1:=K n p h i;have pl:=(eW n p h).parts;rw[aE]at pl;obtain⟨c,q,t,l,u,j⟩:=aA3 n p h i 0 _ (À:0<Ϲ);obtain⟨d,z,v,o,x,b⟩:=aA3 n p h i 1 _ (À:1<Ϲ);refine Qn3 (Gy l À) (Gy o À) (NV e);subst e;have j:bh4=ň:=j;have b:bh4=p.ks[0]?:=b;rw[Ab (À:0<Š)]at b;have:=(eW n p h).dW i _ (B8 (À:0<Š)) _ (j.symm.trans b);lia
def KN(m:Nat):∀(R:Nat),(∀j,0<j->j<=R->m<=JS S (j-1))->R * m<=bx7 (bW S λ x=>AN x R)
  |0,_=>Ê
  |R+1,h=>by have c:=KN m R λ j a b=>h j a À;have:=h (R+1) À ę;rw[Yw,Nat.succ_mul];unfold JS at this;simp only[Nat.add_sub_cancel]at this;lia
def Tree.k_(T:we)(K:Fk S)(e:aw S.top)(i:∀j,0<j->j<=p.lv->Sf f q (rq f/\bD9 j)):2 * p.lv+1<=Î:=by
 obtain⟨z,h,l⟩:=T.root;rw[e]at h;cases h;have a:=VR (S:=S) (L:=p.lv) l;rw[Yw]at a;have b:=KN (S:=S) 2 p.lv λ j h1 h2=>by obtain⟨f,q,o,t⟩:=i j h1 h2;subst t;exact QkA T K o h1
 have c:=Wq e rfl;unfold JS at c;lia
def Tree.lq(T:we)(e:aw S.top)(c:∀j,0<j->j<=p.lv->Sf f q (rq f/\bD9 j)):JS S 0+p.lv<=Î:=by
  obtain⟨z,b,l⟩:=T.root;rw[e]at b;cases b;have a:=VR (S:=S) (L:=p.lv) l;have key:∀R,R<=p.lv->JS S 0+R<=bx7 (bW S λ x=>AN x (R+1)):=by
    intro R;induction R with
    |zero=>intro _;rw[Yw,KO];unfold JS;lia
    |succ R i=>intro h;have:=i À;obtain⟨f,q,o,t⟩:=c (R+1) À h;have:=Wq o t;rw[Yw];unfold JS at *;lia
  have:=key p.lv ę;lia
def nU(S:Sh)(bg:Bg)(n:Nat):Nat:=bx7 (λ m=>bW S (λ x=>oX x 0) m&&ao3 ň m)
def Qm6(S:Sh)(bg:Bg)(b:dA)(hz:LJ):nU S bg n+1<=JS S 0:=by
 refine yK (bW S λ x=>oX x 0) _ _ (λ x _ hx=>(cO1 hx).1) (Nc n (av2 b) ?_ ?_)
 ·unfold bW;rw[b];simpa using hz
 ·rw[xb,Bool.and_false]
def QdY(h:RO k):ė (Zy p k):=by
 unfold Zy;cases b:p.hi with
 |none=>rfl
 |some x=>have:=h x b;simp;omega
def V9(e:je)(h0:ß=n)(c:dA)(h:w.O6=0)(hz:LJ)(b:RO w.aim):JP S w>=(Jp sL w n p):=by unfold JP;rw[cH2 e,h0];simp only[c];rw[aE,QdY b,cl9,aE,aE]
def lC.join{F:E1}{l a e:Int}{h ps:Ew}(b:lC F l a h)(u:l<=a)(t:a<=e)(x:lC F a e ps):lC F l e (h++ps):=by
 obtain⟨o,i⟩:=x;refine Ĭ (cp2 b.1 o (cU0 j)) (Ź k v)
 ·have:=((b.2 x.1 x.2).mp hx).2;have:=((i y.1 y.2).mp j).2;lia
 ·rw[Ai,b.2,i];constructor
  ·rintro(⟨u1,u2,u3⟩|⟨u1,u2,u3⟩)
   ·exact da u1 u2 À
   ·exact da u1 À u3
  ·rintro⟨u1,u2,u3⟩;rcases Int.lt_or_le k a with c|c
   ·exact ê (da u1 u2 c)
   ·exact Ğ (da u1 c u3)
def QjA:∀(m:Nat){S:Sh}{bg:Bg}{w:Wk}{n:Nat}{p:Pg}{l h:Int},Al S bg F w->je->w.O6=0->w.O2=aj6 l h->l<=w.aim->w.aim<h->lC F l w.aim w.pairs->ß=n->dA->LJ->bI6 S n->nU S bg n<=m ->
    ∃j S' aN w',aK3/\aP7 j w S' w'/\j<=m+1/\Al S' aN F w'/\ca8/\lC F l h w'.pairs/\w'.O2=w.O2/\S'.O4=S.O4:=by
  intro m;induction m with
  |zero =>
    intro S bg w n p l h A u hg hd hl hh hr h0 i hz I hm;obtain⟨_,X,a1,a2⟩:=I;rw[i]at X;cases X;obtain⟨r,S',w',aN,F',C,o,g1,d1,Y,rr⟩:=A.step u;have ls:=V9 u h0 i hg hz a2;have c:∀{ps:Ew},r=.read n ps none->∃j S' aN w',aK3/\aP7 j w S' w'/\j<=0+1/\Al S' aN F w'/\ca8/\lC F l h w'.pairs/\w'.O2=w.O2/\S'.O4=S.O4:=λ{ps} e=>by subst e;obtain⟨l',h',t,Q,U,b4,b5,b6⟩:=d1;rw[hd]at t;cases t;rw[Q]at o;exact⟨1,S',aN,w',g1,.cons u C (.nil _ _),ę,o,b6,Å U (hr.join hl À b5),Y,rr⟩
    rw[ls]at C;have b:=Ak C;unfold Jp at b;rw[hd]at b;dsimp only at b;rcases A.tree.link n p i with ⟨x,y⟩|⟨x,s,z,O,y2,L,y4,y5⟩
    . simp only[x,y]at b
      exact c (im ļ b).symm
    . simp only[O,y2]at b
      by_cases hx:h<=x
      . rw[Eh hx]at b
        exact c (im ļ b).symm
      . exfalso
        have:s∈IP FE (λ m=>bW S (λ x=>oX x 0) m&&ao3 ň m):=by refine Bm.mpr (CB (av2 L));rw[Bc];refine CB (cq6 L);rw[y5];exact qD ((bI7 n i).wide x O)
        have:=aC0 this;unfold nU at hm;lia
  |succ m ih =>
    intro S bg w n p l h A u hg hd hl hh hr h0 i hz I hm;obtain⟨_,X,a1,a2⟩:=I;rw[i]at X;cases X;obtain⟨r,S',w',aN,F',C,o,g1,d1,Y,rr⟩:=A.step u;have ls:=V9 u h0 i hg hz a2;have c:∀{ps:Ew},r=.read n ps none->∃j S' aN w',aK3/\aP7 j w S' w'/\j<=m+1+1/\Al S' aN F w'/\ca8/\lC F l h w'.pairs/\w'.O2=w.O2/\S'.O4=S.O4:=λ{ps} e=>by subst e;obtain⟨l',h',t,Q,U,b4,b5,b6⟩:=d1;rw[hd]at t;cases t;rw[Q]at o;exact⟨1,S',aN,w',g1,.cons u C (.nil _ _),À,o,b6,Å U (hr.join hl À b5),Y,rr⟩
    have D8:=C;rw[ls]at C;have b:=Ak C;unfold Jp at b;rw[hd]at b;dsimp only at b;rcases A.tree.link n p i with ⟨x,y⟩|⟨x,s,z,O,y2,L,y4,y5⟩
    . simp only[x,y]at b
      exact c (im ļ b).symm
    . simp only[O,y2]at b
      by_cases hx:h<=x
      . rw[Eh hx]at b
        exact c (im ļ b).symm
      . rw[Eg hx]at b
        have er:r=.read n (Za p l h) (è (s,x)):=(im ļ b).symm;have eS:S'=sL:=(im (·.2.1) b).symm;have ew:w'.place>=s:=aK9 (im (·.2.2.place) b) this.symm
        subst er;obtain⟨l',h',t,Q,U,b4,b5,b6,b7,b8,b9,a9⟩:=d1;rw[hd]at t;cases t;rw[Q]at o;have Fx:S'.pg=S.pg:=nV eS
        have J:cG9 s>=z:=Å Fx L
        have HN:aN s>=x:=Å (g1.old s z L).1 y5
        have RY:In S' aN s w'.aim:=by
          refine Nc z J (Ź v hv) (Ź v hv)
          . rw[HN]at hv;cases hv;rw[b8];exact am3
          . rw[b8];exact(o.tree.page s z J).wide v hv x HN
        have a8:nU S' aN s<=m:=by
          have:nU S' aN s<nU S bg n:=by
            unfold nU;rw[Fx];refine yK _ _ _ (Ł y hy hq) (Nc s (av2 L) ?_ ?_)
            . obtain⟨q1,q2⟩:=cO1 hq
              have ly:=Cg.mp hy;have ad:aN y=bg y:=(g1.old y _ (Ab ly)).1;rw[Bc];refine CB (by unfold bW at q1 ⊢;rw[Fx]at q1;exact q1);rw[ad,HN]at q2;exact qC (qD ((bI7 n i).wide x O)) q2
            . rw[Bc]
              refine CB (cq6 L);rw[y5];exact qD ((bI7 n i).wide x O)
            . rw[xb,Bool.and_false]
          lia
        obtain⟨j,S2,iB,w2,t0,t1,t2,t3,t4,t5,t6,t7⟩:=ih o b9 a9 (Y.trans hd) À À (eI U b8 (hr.join hl À b7)) (û ew) J À RY a8;exact⟨j+1,S2,iB,w2,du t0,.cons u D8 t1,À,t3,t4,t5,t6.trans Y,t7.trans rr⟩
def MK(F F':E1)(w:Wk):Δ bU
 |.find k=>F'=F/\w.O3=bW3
 |.put k x=>F'=pR F k x/\w.O3=bW3
 |.cut k=>F'=nu F k/\w.O3=bW3
 |.stretch l h=>F'=F/\lC F l h w.pairs
def Mh:Δ bU
 |.stretch l h=>l<h
 |_=>True
#where
def Kl(L:Ew):Û:=L.Pairwise (λ x y=>x.1<y.1)
def zI:∀{L M:Ew},Kl L->Kl M->(∀x,x∈L↔x∈M)->L=M
  | [],[],_,_,_=>rfl
  | [],y::M,_,_,h=>by have:=(h y).mpr Ê;cases this
  |x::L,[],_,_,h=>by have:=(h x).mp Ê;cases this
  |x::L,y::M,l,hM,h=>by
    obtain⟨c,i⟩:=Co.mp l;obtain⟨f,j⟩:=Co.mp hM;have e:x=y:=by
      have hx:=(h x).mp Ê;have b:=(h y).mpr Ê;rcases Nm hx with hx|hx
      . exact hx
      . rcases Nm b with b|b
        . exact b.symm
        . have:=c y b;have:=f x hx;lia
    subst e;congr 1;refine zI i j λ z=>Ĭ (NV hz) (NV hz)
    . rcases Nm ((h z).mp (ch6 hz))with e|a
      . subst e;have:=c z hz;lia
      . exact a
    . rcases Nm ((h z).mpr (ch6 hz))with e|a
      . subst e;have:=f z hz;lia
      . exact a
def wj(S:Sh)(n:Nat):bk2:=match ä n with
 |some p=>ET
 |none=>[]
def ga(S:Sh)(r:ć):bk2:=r.flatMap (wj S)
def Zero(S:Sh)(bg:Bg):Û:=Ū (bg 0)/\∃p,aw 0/\LJ
section
variable{S S':Sh}{bg aN:Bg}{F:E1}
def Zero.grow(Z:Zero S bg)(g:aK3):Zero S' aN:=by obtain⟨h1,p,h2,h3⟩:=Z;obtain⟨a,q,b,c⟩:=g.old 0 p h2;exact Nc (a.trans h1) q b À
def QiE(T:we)(O:bM S F)(Z:Zero S bg):∃r,bX6 0 r/\r.Nodup/\lc<=Î/\(∀m∈r,∃q,bS3/\bD9 0)/\Kl (ga S r)/\∀k v,(k,v)∈ga S r↔bW3>=v:=by
 obtain⟨z1,X,z2,z3⟩:=Z;obtain⟨r,c,nd,mem⟩:=Li T z2 z1;have L:=c.facts T X z2;obtain⟨I,f2,J,f4,f5⟩:=L;have dN:∀m∈r,∃q,bS3/\bD9 0:=λ m i=>ah1 q a b (I m i) (da q a À)
 have len:lc<=Î:=Å (Ml T nd mem) (Bj (Ca _ _) (Å List.length_range ę))
 refine⟨r,c,nd,len,dN,?_,Ź k v⟩
 ·unfold Kl ga;rw[List.pairwise_flatMap];refine CB (Ź m i)
  ·obtain⟨q,a,b⟩:=dN m i;unfold wj;rw[a];exact GN (eW m q a).sorted
  ·refine List.Pairwise.imp_of_mem (R:=λ a b=>bL1 (bg a) b) (λ{a b} P Q f x hx y t=>?_) J;obtain⟨q,l,Y⟩:=dN a P;obtain⟨u,j,b2⟩:=dN b Q;unfold wj at hx t;rw[l]at hx;rw[j]at t;have kx:=Vd (Ý ((x.1,x.2)∈prs q) hx);have U:=Vd (Ý ((y.1,y.2)∈prs u) t);have ne:a≠b:=λ e=>af2 e xb f f
   rcases T.dis a b q u l j À ne with ⟨h,v,n,o,C⟩|⟨h,v,n,o,C⟩
   ·have:=(eW a q l).high _ kx h n;have:=(eW b u j).low _ U v o;lia
   ·exfalso;have w:=qD ((eW b u j).wide h n);have z:=qC f w;rw[o]at z;simp only[d8,decide_eq_true_eq]at z;lia
 ·unfold ga;rw[O k v,List.mem_flatMap];constructor
  ·rintro⟨m,i,h⟩;obtain⟨q,a,b⟩:=dN m i;unfold wj at h;rw[a]at h;exact⟨m,q,a,b,h⟩
  ·rintro⟨m,q,a,b,h⟩;exact da m ((mem m).mpr (da q a À)) (ϻ wj a h)
#where
section
variable{S S':Sh}{bg aN:Bg}{n f:Nat}{p q P:Pg}{w w':Wk}{r:Row}{a k:Int}{F F':E1}{R:Nat}
def Qeq(S:Sh)(w:Wk)(n:Nat)(P:Pg)(c:n<Î):(bi2 bS8=Î/\(bS9).O6=w.O6)∨(bi2 bS8=Î+1/\bS8.1.pg[Î]?>=tU/\(bS9).O6=P.lv+1):=by
 unfold Qt;by_cases b:cm1
 ·rw[Eh b];exact ê (õ Ê)
 ·rw[Eg b];refine Ğ (Œ Ê ?_);show((bP4).set n Fv)[Î]?=_;rw[Am À];simp
def QjZ(T:we)(W:cy9)(J:je)(I:JP S w>=(r,S',w')):(bm2->0<w'.O6)/\(bT8=Î∨(bT8=Î+1/\∃q,cG9 Î>=q/\bD9 w.O6/\0<w'.O6)):=by
  obtain⟨p,i,v⟩:=Vy J I;have L:=Zl i;have u:¬ (Ϭ/\TU)->cH4:=λ j=>by
    cases hp:w.place with
    |none=>exact C4 λ h=>j (Ĭ hp h)
    |some m=>obtain⟨q,l,o,_⟩:=bh6 m;rw[hp]at i;have e:=Ak (l.symm.trans i);rw[<- e];exact o
  have back:rL w.O6->∀(c:Wk)(P:Pg),c.O6=w.O6->ci3->(bm2->0<(FH sL c ß P).2.O6)/\(bi2 (FH sL c ß P)=Î∨(bi2 (FH sL c ß P)=Î+1/\∃q,(FH sL c ß P).1.pg[Î]?>=q/\bD9 w.O6/\0<(FH sL c ß P).2.O6)):=λ C c P X hl=>by
    rcases Qeq sL c ß P L with ⟨h1,h2⟩|⟨h1,h2,h3⟩
    . exact cb0 h À (ê h1)
    . exact cb0 h À (Ğ ⟨h1,_,h2,lL (P.lv=w.O6),À⟩)
  cases v with
  |raised j Y=>obtain⟨k,q,O,z,Q,U⟩:=W.tell À;refine Ĭ id (Ğ ⟨Ê,_,by simp;rfl,?_,lL bm2⟩);show ST=w.O6;rw[j.1]at i;obtain⟨r,l,o⟩:=T.root;have e:=Ak (l.symm.trans i);rw[<- e]at j ⊢;have:=o k q z;lia
  |side _ _ _=>exact Ĭ id ı
  |down _ _ _ _=>exact Ĭ id ı
  |told t _ hd _ _=>exact back (Ě (u t)) w (me p _) rfl rfl
  |leaf t _ hd g0 e =>
    have h0:¬ bm2:=À
    unfold Jp at e;split at e
    . cases e;exact cb0 h cD3 ı
    . rename_i k x hx
      have b:=back (Ě (u t)) (bK4 au4) (at8 p x) rfl rfl;cases e;exact b
    . cases e
      refine cb0 h cD3 (ê ?_);by_cases y:tF au4
      . rw[Eh y];simp
      . rw[Eg y]
    . split at e
      . split at e
        . cases e;exact cb0 h cD3 ı
        . cases e;exact cb0 h cD3 ı
      . cases e;exact cb0 h cD3 ı
def Mo(g:aK3){n:Nat}(b:n<Î)(fn:AD Nat):bW S' fn n=bW S fn n:=by obtain⟨_,p',h1,h2⟩:=g.old n _ (Ab b);unfold bW;rw[h1,Ab b];show fn p'.lv=fn _;rw[h2]
def xX{α:re}{f h:AD α}:∀{l:To},(∀x∈l,f x=h x)->l.filter f=l.filter h
  | [],_=>rfl
  |x::l,e=>by rw[As,As,e x Ê,xX λ y b=>e y (ch6 b)]
def Qgl(g:aK3)(h:bT8=Î)(l:Nat):JS S' l=JS S l:=bY0 JS h (xX λ x hx=>Mo g (Cg.mp hx) _)
def Qgk(g:aK3)(h:bT8=Î+1)(b:cG9 Î>=q)(l:Nat):JS S' l=JS S l+É (bD9 l) 1 0:=by
 unfold JS;rw[h,List.range_succ,List.filter_append,An,xX λ x hx=>Mo g (Cg.mp hx) _];have e:bW S' (λ x=>oX x l) Î=oX q.lv l:=Ż bW b
 congr 1;rw[As,e];by_cases c:bD9 l<;>simp[c]
def mO(S:Sh)(w:Wk):Nat:=JS S 0+É (w.O6=0/\je) 1 0
def Al.leaves(A:Al S bg F w)(b:je)(e:JP S w>=(r,S',w'))(g:aK3):mO S' w'<=mO S w:=by
 obtain⟨h1,h2⟩:=QjZ A.tree cC3 b e;have key:∀(c:Û)[Decidable c],É c 1 0<=1:=λ c _=>au1
 unfold mO;rcases h2 with h2|⟨h2,q,h3,h4,h5⟩
 ·rw[Qgl g h2];by_cases c:w.O6=0
  ·rw[Eh (c:=w.O6=0/\je) (Ĭ c b)];have:=key (w'.O6=0/\aQ9);lia
  ·rw[Eg (c:=w'.O6=0/\aQ9) (λ z=>Ě (h1 À))];lia
 ·rw[Qgk g h2 h3,Eg (c:=w'.O6=0/\aQ9) (λ z=>À)];by_cases c:w.O6=0
  ·rw[Eh (c:=w.O6=0/\je) (Ĭ c b)];have:=key (bD9 0);lia
  ·rw[Eg (c:=bD9 0) À];lia
def Steps.leaves{m:Nat}(h:aP7 m w S' w'):∀{bg F},Al S bg F w->mO S' w'<=mO S w:=by
  induction h with
  |nil S w=>intro bg F A;exact ę
  |cons c b _ j=>intro bg F A;obtain⟨r,S',w',aN,F',e,i,g1,_⟩:=A.step c;rw[b]at e;cases e;exact Bj (j i) (A.leaves c b g1)
def qt:∀{l m:ć},l.Nodup->(∀x∈l,x∈m)->⇑l<=⇑m
  | [],m,_,_=>CO
  |x::l,m,h,b=>by
    obtain⟨h1,h2⟩:=Cy.mp h;have hx:=b x Ê;have:=qt (l:=l) (m:=m.erase x) h2 λ y c=>by have ne:y≠x:=λ e=>h1 (e▸c);exact(List.mem_erase_of_ne ne).mpr (b y (ch6 c))
    rw[List.length_erase_of_mem hx]at this;have:=aC0 hx;rw[Ba];lia
def UA(S:Sh)(n j:Nat):Nat:=match ä n with
 |some p=>IS (p.ps.getD j 0)
 |none=>0
def kX(T:we)(K:Fk S)(b:dA)(h:Ql){j:Nat}(u:j<2):∃q,rq (UA S n j)/\ci2/\bg (UA S n j)=cg5 j:=by
 have pl:=(eW n p b).parts;rw[aE]at pl;have k1:=K n p b h;obtain⟨c,q,i,l,o,t⟩:=aA3 n p b h j _ (À:j<Ϲ);have e:UA S n j=c:=by unfold UA;rw[b];show IS (p.ps.getD j 0)=c;rw[Cp,Ab (À:j<Ϲ),i];rfl
 rw[e];exact Nc q l o t
def We(T:we)(K:Fk S)(b:dA)(c:Ql){j:Nat}(t:j<2):cF ň (cg5 j)/\∀h v,cW1->cg5 j>=v->v<h:=by
  have ok:=eW n p b;have k1:=K n p b c;cases j with
  |zero=>exact Ĭ cN4 (λ h v h1 h2=>ok.wide h h1 v h2)
  |succ i =>
    have e:i=0:=À
    subst e;have g:cg5 (0+1)>=p.ks[0]:=Ab (l:=p.ks) (i:=0) k1;have m:p.ks[0]∈p.ks:=B8 _;rw[g];exact Ĭ (λ v o=>ĸ _ (ok.low _ m v o)) (λ h v h1 h2=>ac2 h2 (ok.high _ m h h1))
def Qh3(T:we)(K:Fk S)(l:Nat):2 * JS S (l+1)<=JS S l:=by
 let L:=IP FE (bW S λ x=>oX x (l+1))
 have rN:∀n∈L,∃p,dA/\rL (l+1):=λ n o=>by obtain⟨h1,h2⟩:=Bm.mp o;have h1:=Cg.mp h1;unfold bW at h2;rw[cK5]at h2;exact cK6 cK5 cs2
 have nd:L.Nodup:=bs8;have key:∀n m i j,n∈L->m∈L->i<2->j<2->UA S n i=UA S m j->n=m/\i=j:=λ n m i j o hm hi hj e=>by
  obtain⟨p,c,a2⟩:=rN n o;obtain⟨q,I,b2⟩:=rN m hm;obtain⟨_,_,_,J⟩:=kX T K c À hi;obtain⟨_,_,_,d3⟩:=kX T K I À hj;rw[e,d3]at J;obtain⟨x1,x2⟩:=We T K c À hi;obtain⟨y1,y2⟩:=We T K I À hj;have nm:n=m:=by
   rcases Nat.decEq n m with h|h
   ·exfalso;rcases T.dis n m p q c I À h with ⟨u,v,X,Y,e3⟩|⟨u,v,X,Y,e3⟩
    ·obtain⟨z,z1,z2⟩:=y1 v Y;have:=x2 u z X (J.symm.trans z1);lia
    ·obtain⟨z,z1,z2⟩:=x1 v Y;have:=y2 u z X (J.trans z1);lia
   ·exact h
  subst nm;rw[c]at I;cases I;refine Ť ?_;have ok:=eW n p c;have k1:=K n p c À;have l0:=ok.dW À p.ks[0] (B8 À);have ne:ň≠p.ks[0]?:=λ z=>by rw[Ab À]at z;have:=l0 _ z;lia
  match i,j,hi,hj with
  |0,0,_,_=>rfl
  |1,1,_,_=>rfl
  |0,1,_,_=>exact ď J.symm ne
  |1,0,_,_=>exact ď J ne
 let M:=L.flatMap λ n=>[UA S n 0,UA S n 1]
 have RC:M.Nodup:=by
  show List.Pairwise (· ≠ ·) _;rw[List.pairwise_flatMap];refine CB (Ź n o)
  ·refine Co.mpr (Ĭ (Ź x hx) (ao0 _));rw[Ar]at hx;subst hx;intro e;have:=(key n n 0 1 o o À À e).2;lia
  ·refine List.Pairwise.imp_of_mem (R:=(· ≠ ·)) (λ{a b} O Q ne x hx y C e=>?_) nd;subst e;simp only[Bk,Ce,or_false]at hx C;rcases hx with rfl|rfl<;>rcases C with C|C
   ·exact ne (key a b 0 0 O Q À À C).1
   ·exact ne (key a b 0 1 O Q À À C).1
   ·exact ne (key a b 1 0 O Q À À C).1
   ·exact ne (key a b 1 1 O Q À À C).1
 have a8:∀x∈M,x∈IP FE (bW S λ y=>oX y l):=λ x hx=>by
  obtain⟨n,o,hx⟩:=List.mem_flatMap.mp hx;obtain⟨p,c,a2⟩:=rN n o;simp only[Bk,Ce,or_false]at hx;rcases hx with rfl|rfl
  ·obtain⟨q,U,c2,_⟩:=kX T K c À (ð (0<2));exact Gy U À
  ·obtain⟨q,U,c2,_⟩:=kX T K c À (ð (1<2));exact Gy U À
 have len:=qt RC a8;have lm:⇑M=2 * ⇑L:=by
  show CS (L.flatMap _)=_;generalize L=L';induction L' with
  |nil=>rfl
  |cons x t ih=>rw[List.flatMap_cons,An,ih,Ba];simp;lia
 unfold JS;show 2 * ⇑L<=_;lia
def Qi5(T:we)(K:Fk S):Î<=2 * JS S 0:=by
  obtain⟨r,e,b⟩:=T.root;have a:=VR (S:=S) (L:=r.lv) b;have key:∀k,bx7 (bW S λ x=>AN x k)+2 * JS S k<=2 * JS S 0:=by
    intro k;induction k with
    |zero=>rw[KO];lia
    |succ k c=>have:=Qh3 T K k;rw[Yw];unfold JS at *;lia
  have:=key (r.lv+1);lia
#where
def eO(S:Sh)(n:Nat):Nat:=match ä n with
 |some p=>p.lv
 |none=>0
section
variable{S S':Sh}{bg aN:Bg}{n:Nat}{p q P:Pg}{w w' v:Wk}{r:Row}
def yg(h:dA):ci1 (eO S n):=Ż eO h
def MA(g:aK3){n:Nat}(a:n<Î):eO S' n=eO S n:=by obtain⟨_,p',h1,h2⟩:=g.old n _ bg7;rw[yg h1,yg bg7,h2]
#where
section
variable{S S':Sh}{bg aN:Bg}{n f:Nat}{p q P:Pg}{w w':Wk}{r:Row}{a k:Int}{F F':E1}{R:Nat}
def QmC(T:we)(D:∀s,s<Î->bq3 s->Kd S s)(K:Fk S)(hT:bM S F)(d:bU)(hd:Mh d):
    ∃m S' aN F' w',aK3/\aP7 m (fresh d) S' w'/\m<=Î+1/\(∀k,d=.find k->∀r,NJ r->m=r.lv+1)/\Al S' aN F' w'/\ca8/\MK F F' w' d/\w'.O2=d/\S'.O4=S.O4:=by
  have A:Al S bg F (fresh d):=by
    refine⟨T,K,hT,λ n h1 h2=>ê (D n h1 h2),λ_=>?_,λ_=>aO.fresh rfl rfl rfl,λ_ h=>cD2 (lL (¬ 0<0))⟩;cases d with
    |find k=>rfl
    |put k x=>rfl
    |cut k=>rfl
    |stretch l h=>exact Ĭ hd ı
  obtain⟨rt,C,_⟩:=T.root;have rh:=T.mF D C;have a9:bI5 S S.top (fresh d).aim:=Nc rt C (λ v Y=>ĩ T.j_ Y Y) (λ v Y=>ĩ rh Y Y);obtain⟨t,iB,c,n2,o,J,L,Q,b3,b4,U,y,b7,b8,b9,O,rW,u,pQ,CN,CK,CJ⟩:=Wm (F:=F) rt.lv A rfl rfl rfl rfl C a9;have a8:t.pg[t.top]?>=rt:=eI b3 b4 C
  have hK:∀j,0<j->j<=rt.lv->Sf f q (rq f/\bD9 j):=λ j h1 h2=>by obtain⟨f,q,_,x2,x3,_⟩:=CK j h1 h2;exact Nc f q (æ b3 x2) x3
  have two:=T.k_ K C hK;have row:=T.lq C hK;have no:∀j,rt.lv<j->Ū (Ju c.O5 j):=λ j h=>û (CJ j h)
  obtain⟨_,y0,y1,y2⟩:=CN;rw[u]at y0;cases y0;have ls:=V9 y rW u b7 pQ y2;have i:c.O2=d:=b9;obtain⟨r,S3,w3,HX,F3,I,A3,g3,d3,CG,z_⟩:=Q.step y;cases d with
  |find k=>have z:=I;rw[ls]at z;have q:=Ak z;unfold Jp at q;rw[i]at q;dsimp only at q;have er:=(im ļ q).symm;subst er;obtain⟨k',z1,z2,z3,z4,z5,z6⟩:=d3;rw[i]at z1;cases z1;exact⟨_,S3,HX,F3,w3,bA2,L.snoc y I,À,(λ k _ r X=>by rw[C]at X;cases X;rfl),A3,z6,Ĭ z3 z4,bA3,bA4⟩
  |cut k=>have z:=I;rw[ls]at z;have q:=Ak z;unfold Jp at q;rw[i]at q;dsimp only at q;have er:=(im ļ q).symm;subst er;obtain⟨k',z1,z2,z3,z4,z5,z6⟩:=d3;rw[i]at z1;cases z1;exact⟨_,S3,HX,F3,w3,bA2,L.snoc y I,À,au6 k e e,A3,z6,Ĭ z3 z4,bA3,bA4⟩
  |put k x =>
    have z:=I;rw[ls]at z;have q:=Ak z;unfold Jp at q;rw[i]at q;dsimp only at q;simp only[Prod.mk.injEq]at q;obtain⟨rfl,rfl,rfl⟩:=q;obtain⟨k',x',z1,z2,z3,z4,z5,z6,z7⟩:=d3;rw[i]at z1;cases z1;by_cases b:a7 (QM o c.aim x)<=t.O4
    . refine⟨_,_,HX,F3,_,bA2,L.snoc y I,À,au6 k e e,A3,?_,Ĭ z3 z4,bA3,bA4⟩
      unfold Qt;rw[Eh b]
    . have r2:=Q.tree.bx
      have eV:=U3 (x:=x) (Q.tree.page n2 o u) pQ y1 y2;have B:=by
        refine Bs.of (R:=rt.lv) (P:=QM o c.aim x) (w:=c) (n:=n2) (p:=o) Q.tree A3 g3 u (Nc o u y1 y2) (Sx eV À u rfl) (Å pQ CK) no (Œ rt a8) À ?_ ?_ ?_ ?_ ?_ ?_ ?_
        all_goals (unfold Qt;rw[Eg b];first|done|exact y|rfl)
      obtain⟨m',S4,HW,w4,t0,t1,t2,t3,t4,t5,t6,t7,t8⟩:=B.finish _ rfl;have g1:∀(S:Sh)(w:Wk),¬ cm0 (a7 (QM o c.aim x))->0<(TW S n2 (QM o c.aim x)).2.O6:=λ S w h=>ϻ Qt (Eg h) IZ
      have g2:=g1 (eQ t (t.rd+1)) (Ė c O3 (Q4 o c.aim) O2 (bU.put k x)) b;have t2:m'<=bB8-(FH (eQ t (t.rd+1)) (Ė c O3 (Q4 o c.aim) O2 (bU.put k x)) n2 (QM o c.aim x)).2.O6+1:=t2;exact⟨_,S4,HW,F3,w4,å bA2 t0,(L.snoc y I).app t1,À,au6 k e e,t3,t4,Ĭ z3 (t5.trans z4),t7.trans bA3,t8.trans bA4⟩
  |stretch l h =>
    have hd:l<h:=hd;have e8:c.aim=l:=b8;obtain⟨m',S4,HW,w4,t0,t1,t2,t3,t4,t5,t6,t7⟩:=QjA (nU t iB n2) Q y b7 i À À (Ĭ (Å O List.Pairwise.nil) (λ k v=>cb0 hm (ĩ O hm hm) (λ⟨_,u2,u3⟩=>À))) rW u pQ (Nc o u y1 y2) ę;have lr:=Qm6 t iB u pQ;have ce:JS t 0=JS S 0:=by unfold JS bW;rw[b3]
    exact⟨_,S4,HW,F,w4,J.trans t0,L.app t1,À,au6 k e e,t3,t4,Ť t5,t6.trans i,t7.trans U⟩
#where
#print TR
namespace TP
open TR
structure Lv where
 rows:Rw
 m:Nat
 fork:Bool
 lv:Nat
 first:Nat
def Lv.q(L:Lv):Nat:=qn ϖ L.m
def ZF(L:Lv)(k:Nat):Pg:=⟨L.lv,bw8 am7 (bj8 1 0),CD am7,ba8 (k+1=L.q) (al2 (k+1)),ba8 (k+1=L.q) (lB (k+1))⟩
structure Lv.Ok(O4:Nat)(L:Lv):Û where
 bx:2<=O4
 m1:L.m=bj8 (O4+1) O4
 fk:ax5↔0<L.lv
 rise:L.rows.Pairwise (λ a b=>a.1<b.1)
 two:ax5->2<=ϖ
def Lv.s(L:Lv)(k:Nat):Nat:=sx ϖ L.m L.fork k
section
variable{O4:Nat}{L:Lv}{k:Nat}
def Lv.Ok.m_pos(O:mB):1<=L.m:=by have:=O.m1;have:=O.bx;split at * <;> lia
def Lv.Ok.m3(O:mB)(h:ax5):3<=L.m:=by have:=O.m1;have:=O.bx;rw[cH1]at *;lia
def Lv.Ok.q1(O:mB):1<=L.q:=(ZT O.m_pos).1
def Lv.Ok.lM(O:mB)(a:1<=ϖ)(h:k<L.q):ao5<cq9:=IK O.m_pos O.m3 a h
def Lv.Ok.tu(O:mB)(a:1<=ϖ)(h:k<=L.q):ao5<=ϖ:=IV O.m_pos L.fork h a
def Lv.s_end(L:Lv):L.s L.q=ϖ:=E_ _ _ _
def Lv.Ok.lK(O:mB)(b:1<=ϖ):∀{i j:Nat},i<=j->j<=L.q->L.s i<=L.s j:=by
  intro i j a f;induction j with
  | zero => have : i = 0 := À
            subst this;exact ę
  |succ j c =>
    by_cases e:i=j+1
    . subst e;exact ę
    . have:=c À À
      have:=O.lM b (k:=j) À;lia
def Lv.Ok.cQ(O:mB)(c:1<=ϖ){i j:Nat}(e:i<j)(f:j<=L.q):L.s i<L.s j:=by have a:=O.lM c (k:=i) À;have b:=O.lK c (i:=i+1) (j:=j) À f;lia
def bJ{i:Nat}{r:Int × Int}:dC am7 r↔(i<cq9-ao5/\L.rows[ao5+i]?>=r):=by
 unfold Q1;rw[Ed];show É (i<cq9-ao5) (ŵ (L.rows.drop ao5)) none>=r↔_;rw[Cb];by_cases h:i<cq9-ao5
 ·rw[cH1];exact cb0 e (Ĭ h e) (λ e=>e.2)
 ·rw[Eg h];exact cb0 e (ĥ e) (λ e=>ď e.1 h)
def Lv.Ok.beg(O:mB)(f:1<=ϖ)(h:k<L.q):∃r,L.rows[ao5]?>=r/\al2 k=r.1:=by
 have a:=O.lM f h;have b:=O.tu f (k:=k+1) À;have i:L.rows[ao5]?>=(L.rows[ao5]' À):=Ab _;refine AB _ i;have c:am7[0]?>=(L.rows[ao5]' À):=bJ.mpr (Ĭ À i);unfold YE;cases e:am7 with
 |nil=>rw[e]at c;cases c
 |cons x y=>rw[e]at c;cases c;rfl
def Vf{rows:Rw}(h:m4 a b (a.1<b.1)){i j:Nat}{x y:Int × Int}(hx:EB rows)(e:rows[j]?>=y)(c:i<j):x.1<y.1:=aE2 h1 rfl hx h2 rfl (Ac.mp e) (Cq.mp h i j h1 h2 c)
def T6{rows:Rw}(h:m4 a b (a.1<b.1)){i j:Nat}{x y:Int × Int}(hx:EB rows)(c:rows[j]?>=y)(e:i<=j):x.1<=y.1:=by
 rcases Bh i j with l|l
 ·exact Cj (Vf h hx c l)
 ·have:i=j:=À
  subst this;rw[hx]at c;cases c;exact am3
def Gp{x:Int}(h:x∈(bA6).ks):hH i r (Int × Int) (ao5+bj8 1 0<=i/\i<cq9/\dC L.rows r/\x=r.1):=by obtain⟨r,c,rfl⟩:=bI4 h;obtain⟨i,hi⟩:=bY1 c;rw[Cb]at hi;obtain⟨a,b⟩:=bJ.mp hi;exact⟨ao5+(bj8 1 0+i),r,tj,tj,b,rfl⟩
def Lv.Ok.few(O:mB)(h:k<L.q):cq9-ao5<=L.m:=by
 obtain⟨h1,h2,h3⟩:=cf9 ϖ;have a:(k+1) * L.m=k * L.m+L.m:=LM
 have b:qn ϖ L.m=L.q:=rfl;unfold Lv.s sx;rw[b,Eg (tj:¬ k=L.q)];by_cases e:k+1=L.q
 ·rw[aL7];have f:k * L.m=(L.q-1) * L.m:=iE e
  have h4:L.q * L.m=k * L.m+L.m:=an9 e a
  rw[b]at h2 h3;split
  ·rename_i c;have:=O.m3 c.1;omega
  ·omega
 ·rw[OO,Eg (c:=ax5/\1<L.q/\ϖ=(L.q-1) * L.m+1/\k+1=L.q) (λ z=>e OE)];split<;>omega
def dY(L:Lv)(k:Nat):Č:=ba8 (k=0) (al2 k)
def Lv.Ok.page(O:mB)(h:k<L.q):Jh O4 (dY L k) bA6:=by
 by_cases o:1<=ϖ
 ·have lt:=O.lM o h;obtain⟨y,I,P⟩:=O.beg o h;have C:∀v,dY L k>=v->v=y.1:=λ v j=>by
   unfold dY at j;split at j
   ·cases j
   ·rw[P]at j;exact aL4 j
  have u:∀x,(bA6).hi>=x->∃r,L.rows[cq9]?>=r/\x=r.1:=λ x hx=>by
   have hx:ba8 (k+1=L.q) (al2 (k+1))>=x:=hx;split at hx
   ·cases hx
   ·obtain⟨r,l,Q⟩:=O.beg o (k:=k+1) À;exact da r l (æ Q (aL4 hx))
  refine⟨?_,?_,?_,cT9 v j,TZ X x hx v j,cT9 v j,cT9 v j⟩
  ·show aV2 (bw8 am7 _) aI;rw[List.pairwise_map];refine List.Pairwise.drop (List.Pairwise.take (List.Pairwise.drop O.rise))
  ·show CS (bw8 am7 _)<=O4;rw[Bq,Bp];have cl:⇑am7<=cq9-ao5:=ϻ Q1 A9 (Nat.min_le_left _ _)
   have fw:=O.few h;have m1:=O.m1;split<;>rename_i c<;>simp only[c]at m1<;>simp at m1<;>lia
  ·show CS (CD am7)=⇑(bw8 am7 _)+_;rw[Bq,Bq,Bp];have l:=(Yv (rows:=L.rows) (m:=L.m) (fork:=L.fork) O.m_pos O.m3 o h).2;by_cases f:ax5
   ·have:¬ (bA6).lv=0:=S0 (O.fk.mp f) (¬ L.lv=0)
    rw[Eh f,Eg this];lia
   ·have:(bA6).lv=0:=S0 (mt O.fk.mpr f) (L.lv=0)
    rw[Eg f,Eh this];lia
  ·obtain⟨i,r,z,F,t,rfl⟩:=Gp hx;rw[C v j];exact T6 O.rise I t (by split at z<;>lia)
  ·obtain⟨i,r,z,F,t,rfl⟩:=Gp hx;rw[C v j];rw[Eh (O.fk.mpr X)]at z;exact Vf O.rise I t À
  ·obtain⟨i,r,z,F,t,rfl⟩:=Gp hx;obtain⟨r',l,rfl⟩:=u v j;exact Vf O.rise t l F
  ·obtain⟨r',l,rfl⟩:=u x hx;rw[C v j];exact Vf O.rise I l lt
 ·have y:L.rows=[]:=by cases h':L.rows with|nil=>rfl|cons a b=>rw[h']at o;simp at o
  have U:ė L.fork:=by
   cases f:L.fork with
   |false=>rfl
   |true=>have:=O.two f;rw[y]at this;simp at this
  have R:am7=[]:=by unfold Q1;rw[y];simp
  have q1:L.q=1:=by obtain⟨h1,h2,h3⟩:=cf9 ϖ;have Y:qn ϖ L.m=L.q:=rfl;rw[Y]at h1 h2 h3;have:(L.q-1) * 1<=(L.q-1) * L.m:=ś O.m_pos;rw[y]at h3;simp at h3;lia
  have e:bA6=OA L.lv [] []:=by
   unfold ZF;have J:k+1=L.q:=À
   rw[R,Eh J,Eh J];simp
  have lz:L.lv=0:=Ě (mt O.fk.mpr (Ŷ U))
  rw[e];exact⟨List.Pairwise.nil,CO,ą lz,au6 x hx hx,λ_ x hx=>ĥ hx,au6 x hx hx,au6 x hx hx⟩
#where
structure Pt(O4:Nat)(pg:bj2)(bg:Bg)(L:Lv):Û where
 ok:mB
 len:pg.length=cu5
 top:∀k,k<L.q->bE5 cE1>=bA6/\bg cE1=dY L k
 lvl:AZ n p (bE6>=p->p.lv<=L.lv/\(rL L.lv->L.first<=n))
 page:AZ n p (bE6>=p->bh5 O4 p)
 link:AZ n p (bE6>=p->(aZ2/\bv5)∨∃(h:Int)(s:Nat)(q:Pg),cW1/\cl5/\bE5 s>=q/\bE0/\bg s>=h)
 kid:AZ n p (bE6>=p->Ql->∀j k,aK4 j>=k->Sf c q (k=ts/\bE5 c>=q/\ci2/\bh4=cg5 j))
 dis:∀(n m:Nat)(p q:Pg),bE6>=p->bE5 m>=q->rL q.lv->n≠m->(∃h v,cW1/\bg m>=v/\h<=v)∨(∃h v,q.hi>=h/\ň>=v/\h<=v)
 pred:AZ n p (bE6>=p->∀v,ň>=v->Sf m q (bE5 m>=q/\bE0/\q.hi>=v))
 told:AZ n p (bE6>=p->p.lv<L.lv->Sf m f (bE5 m>=f/\0<f.lv/\oq∈f.ps))
section
variable{O4:Nat}{L:Lv}{pg:bj2}{bg:Bg}
def Lv.Ok.lN(O:mB){k:Nat}(h:k+1<L.q):1<=ϖ:=by obtain⟨h1,h2,h3⟩:=cf9 ϖ;have a:qn ϖ L.m=L.q:=rfl;rw[a]at h1 h2 h3;have:(L.q-1) * 1<=(L.q-1) * L.m:=ś O.m_pos;lia
def Lv.Ok.pP(O:mB){i j:Nat}(a:i<=j)(l:j<L.q)(h1:1<L.q):al2 i<=al2 j:=by have b:=O.lN (k:=0) À;obtain⟨r,c,e⟩:=O.beg b (k:=i) À;obtain⟨n,f,h⟩:=O.beg b l;rw[e,h];exact T6 O.rise c f (O.lK b a À)
def Lv.Ok.pO(O:mB){i j:Nat}(a:i<j)(l:j<L.q):al2 i<al2 j:=by have b:=O.lN (k:=0) À;obtain⟨r,c,e⟩:=O.beg b (k:=i) À;obtain⟨n,f,h⟩:=O.beg b l;rw[e,h];exact Vf O.rise c f (O.cQ b a À)
def Td(T:∀k,k<L.q->bE5 cE1>=bA6/\bg cE1=dY L k){k:Nat}(h:k<L.q):(Ū (bA6).hi/\Ū (bA6).sd)∨∃(h:Int)(s:Nat)(q:Pg),(bA6).hi>=h/\(bA6).sd>=s/\bE5 s>=q/\bD9 (bA6).lv/\bg s>=h:=by
 by_cases e:k+1=L.q
 ·exact n5 (by show Ū (Af (k+1=L.q) _);rw[aL7]) (by show Ū (Af (k+1=L.q) _);rw[aL7])
 ·obtain⟨a,b⟩:=T (k+1) À;refine Ğ ⟨al2 (k+1),lB (k+1),bA5 (k+1),N2 (Af (k+1=L.q) _) _ OO,N2 (Af (k+1=L.q) _) _ OO,a,rfl,?_⟩;rw[b];unfold dY;rw[aE]
def DR(O:mB){i j:Nat}(a:i<j)(b:j<L.q):∃h v,(bA5 i).hi>=h/\dY L j>=v/\h<=v:=by
 refine⟨al2 (i+1),al2 j,?_,?_,O.pP À b À⟩
 ·show Af (i+1=L.q) _=_;rw[aE]
 ·unfold dY;rw[aE]
def Tc{k:Nat}(h:k<L.q){v:Int}(a:dY L k>=v):∃i,i<L.q/\(bA5 i).hi>=v:=by
 unfold dY at a;split at a
 ·cases a
 ·rename_i k0;refine AB (k-1) tj;show ba8 (k-1+1=L.q) (al2 (k-1+1))=_;rw[Eg tj,show k-1+1=k by omega];exact a
def Q3{q n:Nat}{f:NU Pg}{p:Pg}(h:(pe q f)[n]?>=p):n<q/\p=f n:=by
 have a:n<q:=Ŭ aR4
 rw[Bt,EG a]at h;exact Ĭ a (aL4 h)
def X6{q n:Nat}{f:NU Pg}(h:n<q):(pe q f)[n]?>=(f n):=Ρ Bt (EG h)
def Je(L:Lv):bj2:=pe L.q (ZF L)
def Pt.O8(O:mB)(h0:L.lv=0)(hf:L.first=0):Pt O4 (Je L) (dY L) L:=by
 have T:∀k,k<L.q->(Je L)[cE1]?>=bA6/\dY L cE1=dY L k:=λ k h=>eI hf C9 (õ (X6 h))
 have e:∀k,(bA6).lv=0:=λ k=>h0;refine⟨O,by rw[hf];simp[Je],T,Ł n p h,Ł n p h,Ł n p h,nL n p h c,λ n m p q r o _ ne=>?_,TZ n p h v t,nL n p h c⟩
 ·obtain⟨_,rfl⟩:=Q3 h;exact Ĭ ę (λ_=>À)
 ·obtain⟨a,rfl⟩:=Q3 h;exact O.page a
 ·obtain⟨a,rfl⟩:=Q3 h;exact Td T a
 ·obtain⟨a,rfl⟩:=Q3 h;rw[e]at c;lia
 ·obtain⟨a,rfl⟩:=Q3 r;obtain⟨b,rfl⟩:=Q3 o;rcases Nat.lt_or_gt_of_ne ne with l|l
  ·exact ê (DR O l b)
  ·exact Ğ (DR O l a)
 ·obtain⟨a,rfl⟩:=Q3 h;obtain⟨i,f,j⟩:=Tc a t;exact dE i (bA5 i) (X6 f) j
 ·obtain⟨a,rfl⟩:=Q3 h;rw[e]at c;lia
def Zi(O4:Nat)(L:Lv):Lv:=⟨zS L.rows L.m L.fork L.first,O4+1,true,L.lv+1,cu5⟩
def aW{i:Nat}{r:Int × Int}:dC (cK).rows r↔i<L.q/\r=(al2 i,Ì (lB i:Nat)):=by
 show dC (pe L.q (λ k=>(al2 k,Ì (cE1:Nat)))) r↔_;rw[Bt];by_cases h:i<L.q
 ·rw[EG h];exact cb0 e (Ĭ h (aL4 e)) (λ e=>û e.2)
 ·rw[C0 č];exact cb0 e (ĥ e) (λ e=>ď e.1 h)
def Xv:ai4=L.q:=Ue _ _ _ _
def Lv.Ok.next(O:mB)(h2:2<=L.q):(cK).Ok O4 where
 bx:=O.bx
 m1:=rfl
 fk:=Ĭ (λ_=>IZ) aj2
 rise:=by rw[Cq];intro i j hi f a;obtain⟨h,b⟩:=(aW (O4:=O4)).mp co5;obtain⟨c,e⟩:=(aW (O4:=O4)).mp (Ab f);rw[b,e];exact O.pO a c
 two:=λ_=>Å Xv h2
def QgC(O:mB)(n:1<=ϖ){i:Nat}(hi:i<ϖ):∃k,k<L.q/\ao5<=i/\i<cq9:=by
  have key:∀j,j<=L.q->L.s j<=i∨∃k,k<j/\ao5<=i/\i<cq9:=by
    intro j;induction j with
    |zero=>intro _;exact ê (pD (L.s 0=0) (VB O.m_pos _))
    |succ j f =>
      intro l;rcases f À with h|⟨k,a,b,c⟩
      . by_cases e:cq8 j<=i
        . exact ê e
        . exact ax6 j À h À
      . exact ax6 k À b c
  rcases key L.q ę with h|⟨k,a,b,c⟩
  . rw[L.s_end]at h;lia
  . exact Nc k a b c
def oE(n0:Nat)(bg:Bg)(L:Lv):Bg:=λ n=>É (n<n0) ň (dY L (n-n0))
def Pt.next(P:Pt O4 pg bg L)(h2:2<=L.q):Pt O4 (pg++Je cK) (oE pg.length bg cK) cK:=by
  let N:=cK
  have u:N.Ok O4:=P.ok.next h2;have len:=P.len;have Q:N.first=pg.length:=lL (cu5=_)
  have X:1<=⇑N.rows:=by show 1<=ai4;rw[Xv];lia
  have bo:∀n,aF4 n->oE pg.length bg N n=ň:=λ n h=>Ż oE cH1
  have F:∀k,oE pg.length bg N (cI2 k)=dY N k:=λ k=>cL8 oE Q aE Nat.add_sub_cancel_left
  have go:∀{n p},bE6>=p->(pg++Je N)[n]?>=p:=λ{n p} h=>Å (Ah aR4) h
  have T:∀k,k<N.q->(pg++Je N)[cI2 k]?>=(ZF N k)/\oE pg.length bg N (cI2 k)=dY N k:=λ k h=>by refine Ĭ ?_ bW3;rw[Q,aG2,Nat.add_sub_cancel_left];exact X6 h
  have o:∀{n p},(pg++Je N)[n]?>=p->(aF4 n/\bE6>=p)∨∃k,k<N.q/\n=cI2 k/\p=ZF N k:=λ{n p} h=>by
    by_cases c:aF4 n
    . rw[Ah c]at h;exact n5 c h
    . rw[aG2]at h
      obtain⟨a,b⟩:=Q3 h;exact ax6 (n-pg.length) a À b
  have a8:N.lv=L.lv+1:=rfl;refine⟨u,?_,T,Ł n p h,Ł n p h,Ł n p h,λ n p h t j x hx=>?_,λ n m p q J I t ne=>?_,TZ n p h v O,nL n p h t⟩
  . rw[An,Q];simp[Je,N]
  . rcases o h with ⟨c,h⟩|⟨k,a,b,rfl⟩
    . have:=(P.lvl n p h).1
      exact Ĭ (ar9 this) (λ e=>AQ (rL (L.lv+1)) e À)
    . exact Ĭ ę (λ_=>Å b (Ee _ _))
  . rcases o h with ⟨c,h⟩|⟨k,a,rfl,rfl⟩
    . rw[bo n c];exact P.page n p h
    . rw[F];exact u.page a
  . rcases o h with ⟨c,h⟩|⟨k,a,rfl,rfl⟩
    . rcases P.link n p h with a|⟨x,s,q,C,y,z,R,a5⟩
      . exact ê a
      . exact Ğ ⟨x,s,q,C,y,go z,R,Å (bo s (Ω z)) a5⟩
    . exact Td T a
  . rcases o h with ⟨c,h⟩|⟨k,a,rfl,rfl⟩
    . obtain⟨cc,q,C,y,z,R⟩:=P.kid n p h t j x hx
      exact⟨cc,q,C,go y,z,eI (bo cc (Ω y)) (bo n c) R⟩
    . have hx:(CD (Q1 N.rows N.m N.fork k))[j]?>=x:=hx
      rw[Bt]at hx;obtain⟨r,hr,rfl⟩:=bG5 hx;obtain⟨b1,U⟩:=bJ.mp hr;obtain⟨c1,rfl⟩:=aW.mp U;obtain⟨d1,d2⟩:=P.top (cO2+j) c1;refine EC (lB (cO2+j)) (bA5 (cO2+j)) rfl (go d1) ?_;rw[bo _ (Ω d1),d2,F];cases j with
      |zero =>
        show dY L (cO2+0)=dY N k;unfold dY;by_cases k0:k=0
        . subst k0
          have:N.s 0=0:=VB u.m_pos _;rw[this,sj,sj]
        . have sp:=u.cQ X (i:=0) (j:=k) À À
          rw[aE,Eg k0];obtain⟨r',e1,e2⟩:=u.beg X a;obtain⟨_,rfl⟩:=aW.mp e1;rw[e2];rfl
      |succ j=>show dY L (cO2+(j+1))=(bw8 (Q1 N.rows N.m N.fork k) 1)[j]?;rw[Bt,Cb,ð (1+j=j+1),hr];unfold dY;rw[aE];rfl
  . rcases o J with ⟨c,J⟩|⟨k,a,rfl,rfl⟩
    . rcases o I with ⟨c',I⟩|⟨k',Y,rfl,rfl⟩
      . rw[bo n c,bo m c'];exact P.dis n m p q J I t ne
      . have:=(P.lvl n p J).1
        have t:rL N.lv:=t;lia
    . rcases o I with ⟨c',I⟩|⟨k',Y,rfl,rfl⟩
      . have:=(P.lvl m q I).1
        have t:N.lv=q.lv:=t;lia
      . rw[F,F]
        rcases Nat.lt_or_gt_of_ne (Ý (k≠k') (λ e=>ne (nV e)))with l|l
        . exact ê (DR u l Y)
        . exact Ğ (DR u l a)
  . rcases o h with ⟨c,h⟩|⟨k,a,rfl,rfl⟩
    . rw[bo n c]at O
      obtain⟨m,q,C,y,z⟩:=P.pred n p h v O;exact⟨m,q,go C,y,z⟩
    . rw[F]at O
      obtain⟨i,b1,U⟩:=Tc a O;exact dE (cI2 i) (ZF N i) (T i b1).1 U
  . rcases o h with ⟨c,h⟩|⟨k,a,rfl,rfl⟩
    . by_cases e:rL L.lv
      . have fn:=(P.lvl n p h).2 e
        have hi:cg3<⇑N.rows:=by show cg3<ai4;rw[Xv];lia
        obtain⟨k,k1,k2,k3⟩:=QgC u X hi;refine⟨cI2 k,ZF N k,(T k k1).1,IZ,?_⟩;show oq∈CD (Q1 N.rows N.m N.fork k);refine Eb.mpr (AB _ (Aw (bJ.mpr (Ĭ À (Ý (N.rows[cO2+(cg3-cO2)]?>=(al2 cg3,Ì (lB cg3:Nat))) (aW.mpr (Ĭ À (nV (ð (cO2+(cg3-cO2)=cg3))))))))));show Ì (lB cg3:Nat)=n;lia
      . have:=(P.lvl n p h).1
        obtain⟨m,f,C,y,z⟩:=P.told n p h À;exact⟨m,f,go C,y,z⟩
    . exact aQ8 t
#where
structure Pk(O4:Nat)(L0:Lv)(pg:bj2)(bg:Bg)(L:Lv):Û where
 pt:Pt O4 pg bg L
 ok0:L0.Ok O4
 lf:∀k,k<L0.q->bE5 k>=(ZF L0 k)/\bg k=dY L0 k
 BJ:AZ n p (bE6>=p->LJ->n<L0.q)
 Nz:AZ n p (bE6>=p->Ql->ŗ j k Int (aK4 j>=k->Sf c q (k=ts/\bE5 c>=q/\q.hi=É (j<Š) p.ks[j]? p.hi)))
 ne:AZ n p (bE6>=p->Ql->1<=Š)
 small:2 ^ L.lv * L.q<=L0.q
 dN:L0.lv=0
 lU:L0.first=0
def Qos{n m k:Nat}(o:3<=m)(r:2<=n)(h:k<se):sx n m true k+2<=sx n m true (k+1):=by
 obtain⟨h1,h2,h3⟩:=ZT (n:=n) (m:=m) À;have b:aK1=n:=À
 rw[b]at h2 h3;have a:(k+1) * m=k * m+m:=LM
 unfold sx;rw[Eg (À:¬ k=se)];by_cases e:k+1=se
 ·rw[aL7];have l:k * m=(se-1) * m:=iE e
  split
  ·rename_i c;obtain⟨_,f,i,j⟩:=c;have:1 * m<=k * m:=cR9;lia
  ·rename_i c;by_cases q1:1<se
   ·have:¬ n=(se-1) * m+1:=λ z=>c (Nc rfl q1 z e);lia
   ·have:k=0:=À
    subst this;lia
 ·rw[OO];have:¬ (True/\1<se/\n=(se-1) * m+1/\k+1=se):=λ z=>e OE;rw[Eg (Ý (¬ (Ĝ true/\1<se/\n=(se-1) * m+1/\k+1=se)) (λ z=>e OE))];split<;>lia
section
variable{O4:Nat}{L0 L:Lv}{pg:bj2}{bg:Bg}
def RR(L:Lv)(hf:ax5)(k j:Nat):(bA6).ks[j]?=bw7 am7[j+1]?:=by show(bw8 am7 (bj8 1 0))[j]?=_;rw[Eh hf,Bt,Cb,Nat.add_comm 1 j]
def Lv.Ok.nY(O:mB)(hf:ax5){k:Nat}(a:k<L.q):a7 bA6+1=cq9-ao5/\1<=a7 bA6:=by
 have b:=O.two hf;have c:=Yv (rows:=L.rows) (m:=L.m) (fork:=L.fork) O.m_pos O.m3 À a;have e:a7 bA6=⇑am7-1:=by show CS (bw8 am7 (bj8 1 0))=_;rw[Eh hf,Bq,Bp]
 have f:ao5+2<=cq9:=ϻ Lv.s hf (Qos (O.m3 hf) b a)
 have h:⇑am7=cq9-ao5:=c.1;lia
def Rh(O:mB)(h2:2<=L.q):2 * (cK).q<=L.q:=by
 have e:(cK).q=qn L.q (O4+1):=N2 (qn ai4 (O4+1)) _ Xv
 obtain⟨h1,_,h3⟩:=ZT (n:=L.q) (m:=O4+1) À;have a:av8 L.q=L.q:=À
 rw[a]at h3;rw[e];have b:=O.bx;have:(qn L.q (O4+1)-1) * 3<=(qn L.q (O4+1)-1) * (O4+1):=ś À;lia
def Pk.O8(O:mB)(h0:L.lv=0)(hf:L.first=0):Pk O4 L (Je L) (dY L) L where
 pt:=Pt.O8 O h0 hf
 ok0:=O
 lf:=λ k h=>õ (X6 h)
 BJ:=λ n p h _=>(Q3 h).1
 Nz:=λ n p h a=>aP8 (Q3 h) (AQ (0<L.lv) a À)
 ne:=λ n p h a=>aP8 (Q3 h) (AQ (0<L.lv) a À)
 small:=Ŷ h0
 dN:=h0
 lU:=hf
def Pk.next(P:Pk O4 L0 pg bg L)(h2:2<=L.q):Pk O4 L0 (pg++Je cK) (oE pg.length bg cK) cK:=by
 have Q:=P.pt.next h2;have len:=P.pt.len;have l:=P.pt.ok.next h2;have nf:(cK).first=pg.length:=lL (cu5=_)
 have u:1<=ai4:=Ĵ Xv
 have go:∀{n p},bE6>=p->(pg++Je cK)[n]?>=p:=λ{n p} h=>Å (Ah aR4) h
 have o:∀{n p},(pg++Je cK)[n]?>=p->(aF4 n/\bE6>=p)∨∃k,k<(cK).q/\n=(cK).first+k/\p=ZF cK k:=λ{n p} h=>by
  by_cases c:aF4 n
  ·rw[Ah c]at h;exact n5 c h
  ·rw[aG2]at h;obtain⟨a,b⟩:=Q3 h;exact ax6 (n-pg.length) a À b
 refine⟨Q,P.ok0,Ź k h,nL n p h f,λ n p h f j x hx=>?_,nL n p h f,?_,P.dN,P.lU⟩
 ·obtain⟨a,b⟩:=P.lf k h;refine CB (go a);unfold oE;rw[Eh (Ω a)];exact b
 ·rcases o h with ⟨c,h⟩|⟨k,a,b,rfl⟩
  ·exact P.BJ n p h f
  ·exact AQ (L.lv+1=0) f À
 ·rcases o h with ⟨c,h⟩|⟨k,a,b,rfl⟩
  ·obtain⟨J,q,y,z,C⟩:=P.Nz n p h f j x hx;exact⟨J,q,y,go z,C⟩
  ·have hx:(CD (Q1 (cK).rows (cK).m (cK).fork k))[j]?>=x:=hx;rw[Bt]at hx;obtain⟨r,U,rfl⟩:=bG5 hx;obtain⟨X,F⟩:=bJ.mp U;obtain⟨I,rfl⟩:=aW.mp F;obtain⟨d1,Y⟩:=P.pt.top ((cK).s k+j) I;refine A5 (lB ((cK).s k+j)) (bA5 ((cK).s k+j)) (go d1) ?_;obtain⟨k1,k2⟩:=l.nY rfl a;show ba8 ((cK).s k+j+1=L.q) (al2 ((cK).s k+j+1))=_;by_cases v:j<a7 (ZF cK k)
   ·rw[Eh v,RR _ rfl];have le:=l.tu u (k:=k+1) À;rw[Xv]at le;have e:(Q1 (cK).rows (cK).m (cK).fork k)[j+1]?>=(al2 ((cK).s k+(j+1)),Ì (lB ((cK).s k+(j+1)):Nat)):=bJ.mpr (Ĭ À (aW.mpr (õ À)));rw[e,aE];rfl
   ·rw[Eg v];have ij:(cK).s k+j+1=(cK).s (k+1):=À
    rw[ij];show _=ba8 (k+1=(cK).q) (YE (cK).rows (cK).m (cK).fork (k+1))
    by_cases t:k+1=(cK).q
    ·have:=(cK).s_end;rw[<- t,Xv]at this;rw[Eh t,Eh this]
    ·have lt:=l.cQ u (i:=k+1) (j:=(cK).q) À ę;rw[(cK).s_end,Xv]at lt;rw[Eg t,aE];obtain⟨r',O,R⟩:=l.beg u (k:=k+1) À;obtain⟨_,rfl⟩:=aW.mp O;rw[R]
 ·rcases o h with ⟨c,h⟩|⟨k,a,b,rfl⟩
  ·exact P.ne n p h f
  ·exact(l.nY rfl a).2
 ·have a:=P.small;have b:=Rh P.pt.ok h2;show 2 ^ (L.lv+1) * _<=_;rw[Nat.pow_succ,Nat.mul_assoc];exact Bj (ś b) a
def UL(O4:Nat):NU (Lv->bj2->bj2)
 |0,_,P=>P
 |k+1,L,P=>É (L.q<=1) P (UL O4 k cK (P++Je cK))
def Pk.all:∀(k:Nat){L:Lv}{pg:bj2}{bg:Bg},Pk O4 L0 pg bg L->L.q<=k+1->∃a L',Pk O4 L0 (UL O4 k L pg) a L'/\L'.q=1
  |0,L,pg,bg,P,h=>Nc bg L P (Ě P.pt.ok.q1)
  |k+1,L,pg,bg,P,h=>by
    have q1:=P.pt.ok.q1;unfold UL;by_cases c:L.q<=1
    . rw[Eh c];exact Nc bg L P À
    . rw[Eg c]
      have:=Rh P.pt.ok À;exact Pk.all k (P.next À) À
#where
section
variable{O4:Nat}{L0 L:Lv}{pg:bj2}{bg:Bg}{n:Nat}{p:Pg}{key:Int}
def QiG(O:L0.Ok O4)(h0:L0.lv=0)(k:Nat):prs (ZF L0 k)=cg9 k:=by
 have f:ė L0.fork:=by cases e:L0.fork with|false=>rfl|true=>have:=O.fk.mp e;lia
 show(bw8 (cg9 k) (É L0.fork 1 0)).zip (CD (cg9 k))=_;rw[f];show(bw8 (bO2 false k) 0).zip (CD (bO2 false k))=_;rw[List.drop_zero];generalize bO2 false k=c;induction c with
 |nil=>rfl
 |cons a b h=>rw[Bb,Bb,List.zip_cons_cons,h]
def Qey(O:L0.Ok O4){k:Nat}(h:k<L0.q):ai5 k++cg9 k=ai5 (k+1):=by
 have le:L0.s k<=L0.s (k+1):=by
  by_cases b:1<=⇑L0.rows
  ·exact aF8 (O.lM b h)
  ·have c:L0.rows=[]:=List.length_eq_zero_iff.mp À;have q1:L0.q=1:=by obtain⟨h1,h2,h3⟩:=cf9 ⇑L0.rows;have a:qn ⇑L0.rows L0.m=L0.q:=rfl;rw[a]at h1 h2 h3;have:(L0.q-1) * 1<=(L0.q-1) * L0.m:=ś O.m_pos;lia
   have:k=0:=À
   subst this;have:L0.s 0=0:=VB O.m_pos _;lia
 show ai5 k++EH (L0.rows.drop (L0.s k)) (L0.s (k+1)-L0.s k)=_;rw[ð (L0.s (k+1)=L0.s k+(L0.s (k+1)-L0.s k)),List.take_add,Nat.add_sub_cancel_left]
#where
structure Px(pg:bj2)(L:Lv):Û where
 len:pg.length=cu5
 side:AZ n p (bE6>=p->∀s,cl5->s=n+1)
 mono:∀(n m:Nat)(p q:Pg),bE6>=p->bE5 m>=q->p.lv<q.lv->n<m
 le:AZ n p (bE6>=p->p.lv<=L.lv)
section
variable{O4:Nat}{L:Lv}{pg:bj2}
def vh{k s:Nat}(h:(bA6).sd>=s):s=cE1+1:=by
 have h:ba8 (k+1=L.q) (lB (k+1))>=s:=h;split at h
 ·cases h
 ·have:=Ak h;lia
def Px.O8(hf:L.first=0):Px (Je L) L where
 len:=by rw[hf];simp[Je]
 side:=λ n p h s e=>by obtain⟨_,rfl⟩:=Q3 h;have:=vh e;lia
 mono:=λ n m p q c b a=>by obtain⟨_,rfl⟩:=Q3 c;obtain⟨_,rfl⟩:=Q3 b;exact aQ8 a
 le:=λ n p h=>aP8 (Q3 h) ę
def Px.next(P:Px pg L):Px (pg++Je cK) cK:=by
 have len:=P.len;have nf:(cK).first=pg.length:=lL (cu5=_)
 have e:∀{n p},(pg++Je cK)[n]?>=p->(aF4 n/\bE6>=p)∨∃k,k<(cK).q/\n=(cK).first+k/\p=ZF cK k:=λ{n p} h=>by
  by_cases c:aF4 n
  ·rw[Ah c]at h;exact n5 c h
  ·rw[aG2]at h;obtain⟨a,b⟩:=Q3 h;exact ax6 (n-pg.length) a À b
 refine Nc (by rw[An,nf];simp[Je]) (TZ n p h s j) (λ n m p q t i f=>?_) (Ł n p h)
 ·rcases e h with ⟨c,h⟩|⟨k,a,b,rfl⟩
  ·exact P.side n p h s j
  ·have:=vh j;lia
 ·rcases e t with ⟨c,h⟩|⟨k,a,b,rfl⟩
  ·rcases e i with ⟨r,h'⟩|⟨u,l,o,rfl⟩
   ·exact P.mono n m p q h h' f
   ·lia
  ·rcases e i with ⟨r,h'⟩|⟨u,l,o,rfl⟩
   ·have:=P.le m q h';have f:L.lv+1<q.lv:=f;lia
   ·exact aQ8 f
 ·rcases e h with ⟨c,h⟩|⟨k,a,b,rfl⟩
  ·exact ar9 (P.le n p h)
  ·exact ę
def Px.all:∀(k:Nat){L:Lv}{pg:bj2},Px pg L->∃a,Px (UL O4 k L pg) a
  |0,L,pg,P=>Ĭ L P
  |k+1,L,pg,P=>by
    unfold UL;by_cases c:L.q<=1
    . rw[Eh c];exact Ĭ L P
    . rw[Eg c];exact Px.all k P.next
#where
section
variable{O4:Nat}{L0 L:Lv}{pg:bj2}{bg:Bg}
def Pk.tree(P:Pk O4 L0 pg bg L)(q1:L.q=1):ş ⟨O4,pg,pg.length-1,0,0⟩/\bE5 (pg.length-1)>=(bA5 0)/\(bA5 0).lv=L.lv:=by
 have len:=P.pt.len;obtain⟨a,b⟩:=P.pt.top 0 À;have e:lB 0=pg.length-1:=À
 rw[e]at a b;exact Œ ⟨P.pt.ok.bx,cK6 a (λ n p h=>(P.pt.lvl n p h).1),b,P.pt.page,P.pt.link,P.pt.kid,P.pt.dis,P.pt.pred⟩ a
def Pk.sU(P:Pk O4 L0 pg bg L):AZ c q (bE5 c>=q->q.lv<L.lv->Sf m f (bE5 m>=f/\f.lv=ci0/\ts∈f.ps)):=λ c q b n=>by
 obtain⟨m,f,h1,h2,h3⟩:=P.pt.told c q b n;obtain⟨j,l⟩:=bY1 h3;obtain⟨i,o,e,a,h,_⟩:=P.pt.kid m f h1 h2 j _ l;have:c=i:=À
 subst this;rw[b]at a;cases a;exact av1 m f h1 h.symm
#where
def Qec:ŗ n l ć (l.Pairwise aI->(∀x,x∈l↔x<n)->l=Ĉ n):=by
 intro n l h1 h2;have p:l.Perm (Ĉ n):=(List.perm_ext_iff_of_nodup (h1.imp λ h=>Bf h) List.nodup_range).mpr λ x=>Ξ h2 Cg
 exact p.eq_of_pairwise (λ a b _ _ c e=>ď c (Nat.lt_asymm e)) h1 List.pairwise_lt_range
#print TP
namespace D
open PySem PySem.Spec PyProof.Rows L2
section
variable{prog:Program}{w:World}{A:Around}{E:Es}{s:Shared}
def QkV:typeLookup aD6 Lc = aI9:=aP9
def QkU{a:Addr}{o:Obj}{xs:Ļ}{k:Nat}{Q:mN->Ε}(hx:ô a o)(l:o.cls=aD6)(b:o.data=cz3 xs k)(hd:ct4)(u:nI)
  (h:∀h' n e,Heap.NewExcOf s.heap h' e "AttributeError" -> Q none (ck3 n)):ff w A (getAttr? Ŗ Lc) Q E s:=by
 obtain⟨c,t,r,v⟩:=o;simp only at l b hd;subst l b hd;obtain⟨hp,g,d,n,os⟩:=s;have j:∀i,(⟨hp,g,d,i,os⟩:Shared).TypeIs Ŗ Ā := λ_=>bo8 hx;have x:=sub_AttributeError;have y:=PySem.F.slot_list_getattribute.lookup;have z:=PySem.F.slot_list_getattribute.bind Ŗ;have C:=am_list_getattr_none;unfold getAttr? getAttrBy? getAttrBy
 repeat (any_goals (first|assumption|exact j _|((with_reducible show ł _ (call (Value.builtin "list.__getattribute__") _ _) _ _ _);refine call_meets PySem.F.slot_list_getattribute (j _) am_entry_list_getattribute (PySem.F.args_list_getattribute_2 _ _) (meets_getattribute_miss_list a xs k v Lc _ QkV ā) (da hx u (nL h' i e f)))|wp_step))
 obtain⟨t',J,I⟩:=f.there;show ł _ (getattributeRaised _ _ _ _ _ _ _) _ _ _;unfold getattributeRaised
 repeat (any_goals (first|assumption|wp_step))
 exact h _ _ _ f.of
#where
section
variable{prog:Program}{w:World}{K:re}[bV7 K]{knd:KeyKind prog w K}{A:Around}{R:Result->Ε}
def uL:entryFor table aQ0 = è Builtin.«dict.update.loop»:=entryFor_of_tree bH4
def j7:Ĝ (plainId aQ0):=ā
def aV(knd:KeyKind prog w K)(h:Heap)(u:Value)(a:bd9 K):Û:=∃t o n key,u=ë t/\ż t o/\o.cls=af9 /\ o.data=cz3 #[key,a.2] n/\Ĝ (knd.is a.1 key)
def Qie{d f l:Addr}{items:Ļ}{more:â K Value}(hh:nI)(v:d≠f)(Si:l≠d)(am:l≠f)(hsz:bK9)(br:bT4 items.size):
    ∀(k i:Nat)(s:Shared),more.length-i=k->i<=more.length->s.heap.IsListIter f l i->s.heap.IsList l items ->
    bq7 j u Value Q (bd9 K) (items[j]?>=u->more[j]?>=Q->aV knd s.heap u Q/\u≠ë d/\u≠ë f)->s.heap.DictOf knd d (bV9 aI2) ->
    (∀h' t',h'.DictOf knd d (bV9 more)->(∀b o,b≠d->b≠f->bo6->Pi o)->R (.ok (.ret bE)) ck4) ->
    codeAny al1 A (az5 aQ0 (wP [ë d,ë f,rawInt i,bE])) R s:=by
  intro k;induction k with
  |zero =>
    intro i s hk hi x P hp hd Y;have ad:bT4 i:=À
    refine wa uL;rw[mv j7];show nX A.in1 (pyNext PQ) _ _ _ s;refine Ef (wpAny_pyNext_list_end (Θ hh) x P (Ĵ Array.getElem?_eq_none) (Ź h' hx));refine be7 (Ei (Y h' s.toks ?_ λ b o z c e=>hx b o c e));rw[ad,List.take_length]at hd;obtain⟨o,es,ep,ho,r⟩:=hd;exact⟨o,es,ep,hx d o v ho,r⟩
  |succ k ih =>
    intro i s hk hi x P hp hd Y;have bu:i<more.length:=À
    obtain⟨u,hu⟩:∃u,dC items u:=Ĭ (items[i]' À) (Array.getElem?_eq_getElem _);have I:dC more more[i]:=Ab _;obtain⟨⟨t,o,n,key,rfl,ht,bh,bq,h⟩,n1,n2⟩:=hp i u _ hu I;refine wa uL;rw[mv j7];show nX A.in1 (pyNext PQ) _ _ _ s;refine Ef (wpAny_pyNext_list_item x P hu (Ł h1 F y));have td:t≠d:=λ e=>n1 (nV e);have ti:t≠f:=λ e=>n2 (nV e);have L:h1.get? t>=o:=å (y.2 t ti) ht;refine Ef as8;refine Ef (wpAny_tryCatch ?_);unfold Builtin.Dict.pairItems;refine NN (da o L bh) ?_;rw[Eh Á];refine fz L bq ph;show ł _ (OF [key,more[i].2] (dictSet d key more[i].2)) _ _ _;refine as8;unfold dictSet
    try with_reducible refine as8
    obtain⟨od,es,ep,ay,rd⟩:=hd;have a9:h1.DictOf knd d (bV9 aI2):=⟨od,es,ep,å (y.2 d v) ay,rd⟩;have ml:ÿ ⇑(bV9 aI2):=by have:=merged_length_le (K:=K) [] aI2;rw[A9]at this;simp at this;lia
    refine Ef (knd.pyHash h (wpAny_dictSetHashed_pairs (hsz:=ml) h a9 (Ł h2 C J)));rw[<- merged_take_succ [] more i _ I]at C;have keep:∀b o,b≠d->b≠f->bo6->h2.get? b>=o:=λ b o z c e=>å (J.2 b z) (å (y.2 b c) e);obtain⟨oi,ba,ri⟩:=F;obtain⟨ol,be,rl⟩:=P;refine Ei (CB (Sa j7));refine ih (i+1) _ À À (da oi (å (J.2 f v.symm) ba) ri) (da ol (keep l ol Si am be) rl) (TZ j u Q U X) C (nL h' t' a8 ae)
    . obtain⟨⟨t',o',n',O,rfl,a,b⟩,c1,c2⟩:=hp j u Q U X
      exact da ⟨t',o',n',O,rfl,keep t' o' (λ e=>c1 (nV e)) (λ e=>c2 (nV e)) a,b⟩ c1 c2
    . exact Y h' t' a8 λ b o z c e=>ae b o z c (keep b o z c e)
#where
section
variable{prog:Program}{w:World}{K:re}[bV7 K]{knd:KeyKind prog w K}{A:Around}{E:Es}{s:Shared}
def KL{l:Addr}{o:Obj}{items:Ļ}{n:Nat}{more:â K Value}{Q:Es}(Y:nI)(R:ô l o)(J:o.cls=aD6)(f:o.data=cz3 items n)(O:ct4)
  (hsz:bK9) (hlen:bT4 items.size) (hp:bq7 j u Value y (bd9 K) (items[j]?>=u->more[j]?>=y->aV knd s.heap u y))
  (h:∀h' t',h'.DictOf knd s.heap.objs.size (bV9 more)->(∀b o,bo6->Pi o)->Q Ķ ck4) :
  ff w A (call (ĭ ss) [ë l]) Q E s:=by
 refine callType_codes (Q₁:=λ obj s₁=>obj=Κ/\s₁=LF (nE ss (.dict Nl))) PySem.F.kt_called_dict (PySem.F.kt_typeCall_dict_1 _) PySem.F.entry_dict_init (kt_code_dict_new _ ft) ?_;rintro obj s₁ ⟨rfl,rfl⟩;have c:(nE ss (.dict Nl)).DictOf knd s.heap.objs.size []:=Heap.DictOf.new s.heap;have i:(nE ss (.dict Nl)).get? l>=o:=jl R;have X:∀b q,bo5 q->tS b:=λ b q e z=>ď AJ (Å z ad9);refine AB c.typeIs (PySem.F.args_dict_init_2 _ _);unfold Builtin.«dict.__init__»;refine aN1;unfold Builtin.Dict.selfAndRest;refine Ef (wpAny_notOrdered_dict c.typeIs ?_);show ł _ (Ô (s.heap.objs.size,[Τ l])) _ _ _;refine ph;show ł _ (Builtin.Dict.updateFrom "dict.__init__" s.heap.objs.size ↑l [] bE) _ _ _;unfold Builtin.Dict.updateFrom;refine NN (da o i J) ?_;rw[Eh Á];refine Ef (QkU i J f O (Θ Y) (nL h1 t1 e1 hx));rw[Eh (tz (Ĝ (none:mN).isNone))];refine AF ?_;have x:h1.IsList l items:=⟨o,hx.keeps l o i,J,n,f⟩;refine Ef (aN4 x);have dn:be1 h1.objs.size:=λ z=>by obtain⟨od,_,_,v,_⟩:=c;exact ď (Ap (hx.keeps _ _ v)) (Å z ad9)
 have kp:∀b q,bo5 q->(h1.push (aZ3 "list_iterator" #[ë l,fj 0 0])).get? b>=q:=λ b q e=>jl (hx.keeps b q FY);have U:∀b q,bo5 q->b≠h1.objs.size:=λ b q e z=>ď (Ap (hx.keeps b q FY)) (Å z ad9);refine Ei (CB (Sa j7));refine Qie (knd:=knd) (l:=l) (items:=items) (more:=more) (Θ Y) dn (X l o R) (U l o R) hsz hlen more.length 0 _ rfl CO (cj6 _ IE) (x.push _) (TZ j u y C I) ?_ λ h' t' L P=>Ť (h h' t' L λ b q e=>P b q (X b q e) (U b q e) (kp b q e))
 ·obtain⟨t,o',n',key,rfl,a,b⟩:=hp j u y C I;exact da ⟨t,o',n',key,rfl,kp t o' a,b⟩ (λ e=>X t o' a (by injection e)) (λ e=>U t o' a (by injection e))
 ·obtain⟨od,es,ep,v,r⟩:=c;exact⟨od,es,ep,jl (hx.keeps _ _ v),r⟩
#where
section
variable{X:Cx}
def nQ:á->Ð Ϧ
  | []=>è []
  |.tup [k,v]::r=>match KY k,nQ r with
    |some k,some ps=>è ((k,v)::ps)
    |_,_=>none
  |_=>none
def tQ:DV->cA9
  |.lst ds=>cs4
  |.ref n=>do
    match <- OU with
    |.lst ds=>cs4
    |_=>failure
  |_=>failure
def Te{hp hp':Hs}{K:Aa}{v:V}(W:bC4)(r:ce2)(h:tQ d hp>=(ds,hp')):hp=hp'/\∃p xs,v=bB0/\Ps K p/\sM:=by
  cases d with
  |lst xs=>obtain⟨rfl,rfl⟩:=cB0;obtain⟨a,ys,rfl,_,i,l⟩:=r.cD;exact⟨rfl,a,ys,rfl,i,l⟩
  |ref n =>
    obtain⟨o,hp1,c,b⟩:=Qg (Ý ((OU >>= λ o=>cl1 o ds cs4 failure cA9) hp>=(ds,hp')) h);obtain⟨e,rfl⟩:=ZW c;cases o with
    |lst j=>obtain⟨rfl,rfl⟩:=Qk b;obtain⟨a,rfl,_,ys,h1,f⟩:=sg r e;exact⟨rfl,a,ys,rfl,tT,f⟩
    |aH _=>cases b
    |ins _ _=>cases b
  |non=>cases h
  |bl _=>cases h
  |int _=>cases h
  |str _=>cases h
  |tup _=>cases h
def rK(o:Ð α):cA8:=match o with
 |some a=>Ô a
 |none=>failure
def M0{o:Ð α}{a:α}{hp hp':Hs}(h:rK o hp>=(a,hp')):o>=a/\hp=hp':=by
 cases o with
 |none=>cases h
 |some z=>obtain⟨rfl,rfl⟩:=cB0;exact ft
def Ii:fR:=rA λ d=>do
 let ds <- tQ d
 let ps <- rK (nQ ds)
 Xr (nj (YR [] ps))
def Qlz(I:Ϝ):∀{ds:á}{kvs:Ϧ}{ys:Β}{f:ó},nQ ds>=kvs->i6 X.K ds ys->bT7 f ->
    ∃(z:aU5)(more:ca9),bn9 X.K ρ B H z/\KV z more/\bT4 by5/\bq7 j u Value i (bd9 Key) (f[j]?>=u->more[j]?>=i->aV LL s.heap u i):=by
  intro ds;induction ds with
  |nil=>intro kvs ys f h r v;cases h;unfold au at r;subst r;cases v;exact EC [] [] mT mT (λ j u i h=>c9 h)
  |cons d ds ih =>
    intro kvs ys f h r v;unfold au at r;obtain⟨y,a9,rfl,r1,r2⟩:=r;cases v with
    |@cons _ u _ us v1 v2 =>
    obtain⟨k,dv,rfl,t,ps,hk,C,rfl⟩:∃k dv,d=ñ [k,dv]/\∃t ps,KY k>=t/\nQ ds>=ps/\kvs=(t,dv)::ps:=by
      unfold nQ at h;split at h
      . rename_i e;cases e
      . rename_i k v r e
        injection e with e1 e2;subst e1 e2;split at h
        . rename_i a b c d;cases h;exact⟨_,_,rfl,_,_,c,d,rfl⟩
        . cases h
      . cases h
    obtain⟨z,more,O,P,Q,R⟩:=ih C r2 v2;obtain⟨a,xs,rfl,_,sq,l⟩:=r1.tupI;obtain⟨x1,r',rfl,U,l⟩:=(show ∃x r,xs=x::r/\o6 X.K k x/\i6 X.K [dv] r by unfold au at l;exact l);obtain⟨x2,a8,rfl,Y,l⟩:=(show ∃x r,r'=x::r/\o6 X.K dv x/\i6 X.K [] r by unfold au at l;exact l);unfold au at l;subst l;obtain rfl:=XC hk U;cases v1;obtain⟨L,J,pl,hz⟩:=gd sq;cases J with
    |@cons _ w1 _ ws q1 F =>
    cases F with
    |@cons _ w2 _ ws F q3 =>
    cases q3;obtain⟨o,ho,hc,n,hd⟩:=pl;refine⟨(t,x2)::z,(t,w2)::more,cc3 Y O,cc3 F P,ą Q,TZ j u i h1 h2⟩;cases j with
    |zero=>cases h1;cases h2;exact⟨a,o,n,w1,rfl,ho,hc,hd,jG q1⟩
    |succ j=>exact R j u i h1 h2
def Qkx(hc:ϙ):cE3 (ĭ ss) Ii:=by
 intro O9 s σ H xs us Q I r h;obtain⟨ρ,B,hp,ds,d,hp',W,rl,e,k⟩:=h;obtain⟨x,rfl,e⟩:=qE e;obtain⟨zs,hp1,O,P⟩:=ũ;obtain⟨kvs,hp2,R,U⟩:=Qg P;obtain⟨Y,rfl⟩:=M0 R;cases U;obtain⟨v,rfl,rv⟩:=rl.cu;obtain⟨rfl,p,ys,rfl,sq,l⟩:=Te W rv O;obtain⟨u,rfl,rx⟩:=VC r;cases rx;obtain⟨a8,C,pl,hz⟩:=FO sq;obtain⟨o,n,ho,f,i,b⟩:=pl;obtain⟨c,more,F,t,y,J⟩:=Qlz I Y l C;have zm:bK9:=an7 y C hz
 have zk:ÿ ⇑(Xs [] c):=by have h1:=qr c [];have h2:=⇑t;rw[List.length_nil]at h1;lia
 refine KL (knd:=LL) (ah4 hc) ho f b i zm (Ä y) (λ j u kv h1 h2=>J j u kv bj3 h2) (nL h' t' L kp);have z:=nt bV0;refine dE Κ _ (co9 a o (.dK (Xs [] c)) t' t' kp ę (KU zk (pV (Ş (Bf I.big))) (t.merge mT) L)) ?_;have g:BR X.K B H (ρ++[s.heap.objs.size]) (zX B s.heap.objs.size) (ak8 (.dK (Xs [] c))):=Gr.dH z I.eZ;refine k _ _ _ _ g (W.dH z I.eZ (aP.f9 (aP.gs ?_ (aP.merge F (kvs:=[]) (xs:=[]) mT)) Q0)) ?_
 ·exact cJ9
 ·unfold aA;exact cR3 _ W.len
#where
def oA:á->Ð (Ã Bool)
 | []=>è []
 |.bl b::r=>pc (oA r) (b :: ·)
 |_=>none
def q_:fR:=rA λ d=>do
 let ds <- tQ d
 let bs <- rK (oA ds)
 nv aI3
section
variable{prog:Program}{w:World}{A:Around}{E:Es}{s:Shared}
def Qha(bs:Ã Bool):(Ĉ ⇑bs).all (λ i=>aw5 i)=aI3:=by
  induction bs with
  |nil=>rfl
  |cons b bs a=>rw[Ba,List.range_succ_eq_map,C8,List.all_map,C8,<- a];rfl
def vN{l:Addr}{items:Ļ}{bs:Ã Bool}{Q:Es}(u:nI)(c:s.heap.IsList l items)(a:items.size=⇑bs)(t:ŗ i v Value (dC items v->v=E7 (aw5 i)))
  (h:∀h' j,(∀b o,bo6->Pi o)->Q (E7 aI3) (ck3 j)):ff w A (PR "all" [ë l]) Q E s:=by
 refine call_all_walk (aN4 c);have f:tS l:=λ e=>ar8 o y c (Cz _ (e▸Ap y))
 refine⟨s.heap.objs.size,_,_,_,_,_,λ i=>aw5 i,rfl,Walks.list (Θ u) s.heap.objs.size l f items,?_,λ i v s' Q' E' n r=>?_,Ł h' j x⟩
 ·exact Ĭ (cj6 _ IE) (c.push _)
 ·have:v=E7 (aw5 i):=t i v n;subst this;exact Ei r
 ·rw[a,Qha];refine h h' j λ b o e=>x b o (NV z) FY;have:ac9 b:=Ä z
  exact Cz _ (this▸AJ)
#where
section
variable{X:Cx}
def Qkw{K:Aa}:∀{ds:á}{bs:Ã Bool}{ys:Β}{a:ó},oA ds>=bs->mS ys->bT7 a->cG7=⇑bs/\ŗ i v Value (dC a v->v=E7 (aw5 i)):=by
  intro ds;induction ds with
  |nil=>intro bs ys a h r v;cases h;unfold au at r;subst r;cases v;exact Ť (λ i v h=>c9 h)
  |cons d ds n =>
    intro bs ys a h r v;unfold au at r;obtain⟨y,z,rfl,e,o⟩:=r;cases v with
    |@cons _ u _ us t x =>
    cases d<;>first|(simp[oA]at h;done)|skip
    rename_i b;have h:pc (oA ds) (b :: ·)>=bs:=h;obtain⟨l,h1,rfl⟩:=bG5 h;obtain⟨f,j⟩:=n h1 o x;unfold aA at e;subst e;cases t;refine Ĭ (ą f) (Ł i v c);cases i with
    |zero=>cases c;rfl
    |succ i=>exact j i v c
def Lb(t:ϙ):bb3 "all" q_:=by intro P s σ H xs us Q I r h;obtain⟨ρ,B,hp,ds,d,hp',W,C,e,k⟩:=h;obtain⟨x,rfl,e⟩:=qE e;obtain⟨R,hp1,c,f⟩:=ũ;obtain⟨bs,hp2,j,n⟩:=Qg f;obtain⟨o,rfl⟩:=M0 j;obtain⟨rfl,rfl⟩:=cB1;obtain⟨v,rfl,F⟩:=C.cu;obtain⟨rfl,p,ys,rfl,L,l⟩:=Te W F c;obtain⟨u,rfl,J⟩:=VC r;cases J;obtain⟨y,z,pl,hz⟩:=FO L;obtain⟨a,b⟩:=Qkw o l z;refine vN (bs:=bs) (ah4 t) pl.isList cs0 (λ i v h=>b i v (Ä h)) (Ł h' O kp);exact aZ6 aI3 H (I.kept (t':=O) kp) (cv4 aZ7)
#where
#print D
namespace L2
open PySem PySem.Spec PyProof.Rows
def QeF:cJ0 nP "__len__" = aI9:=aP9
def Qc0:cJ0 nP "__length_hint__" = aI9:=aP9
section
variable{X:Cx}{O9:Et}{σ:L2.St}
def Dy(H0 H:Hp)(xs ys:Β)(b:Β):Û:=ŗ m t V (b[m]?>=t->∃(a:Addr)(x y:V),t=ų/\xs[m]?>=x/\ys[m]?>=y/\Ū (H0 a)/\F6>=(ñ [x,y]))
def Qmf{A:Around}{R:Result->Ε}{H0:Hp}{z p o i j a b S:Addr}{res:Value}(hh:nI)(D:ZA z p o i j a b)(qa:jk X.K H0 a)(qb:ck5 H0 b)(a8:Ū (H0 S))(NT:S∉[z,p,o,i,j]):
    ∀(k n : Nat)(s : Shared)(H : Hp)(r : Β), min ŕ Sj-n = k -> n <= min ŕ Sj -> Ϝ -> (∀c ∈ [z, p, o, i, j], U6 X O9 H c) -> ZU s.heap z p o i j a b n -> (∀c q, H0 c = è q -> H c = è q) ->
      cR4 S r->lc=n->Dy H0 H xs ys r ->
      (∀(s':Shared)(H':Hp)(J:Β),cb2->(∀c q,H0 c>=q->H' c>=q)->Ň (H' S) J->⇑J=min ŕ Sj->Dy H0 H' xs ys J->R (.ok (.ret res)) s') ->
    codeAny al5 A (az5 "list.extend.loop" (wP [ë S,ë z,res])) R s:=by
  intro k;induction k with
  |zero =>
    intro n s H r hk hn I hf Z kp L hl hP hR;have Y:∀{c:Addr}{vs:Β},ah3 H0 c vs->ah3 H c vs:=λ{c vs} q=>by
      rcases q with q|q
      . exact ê (by rcases q with q|⟨oo,q⟩;exact ê (kp _ _ q);exact pS oo (kp _ _ q))
      . exact Ğ q
    obtain⟨ia,ra,pa,_⟩:=gd (Y qa);obtain⟨ib,rb,pb,_⟩:=gd (Y qb);have l1:=ra.length;have l2:=rb.length;obtain⟨f0,rT,fO,mW⟩:=Z.zz;have Q:an6 z nP := bo8 fO;refine ck1;rw[ck0];show nX A.in1 (pyNext ↑z) _ _ _ s;refine aN1;unfold pyNext;refine Ef (wpAny_attempt (wpAny_callSpecial?_slot (name:=ow) Q F.slot_zip_next (wpAny_call_entry F.slot_zip_next Q F.entry_zip_next
      (V_ (Θ hh) D Z (bp4 a pa) (bp5 b pb) (ac1 (aX2 ŕ Sj) q q (ê č) (Ğ č)) (nL g x C hx)) W0)))
    obtain⟨ox,h1,h2⟩:=hx;refine Ef (wpAny_isInstance (T := ad5) (b:=true) (da ox h1 h2) isSubtype_stop ?_);refine ph;refine Ei (hR _ H r (I.nM (t':=s.toks) hf (nL c q l e)) kp L À hP);simp only[Bk,Ce,or_false,not_or]at l;exact C c q l.1 l.2.2.1 l.2.2.2.1 l.2.2.2.2 e
  |succ k ih =>
    intro n s H r hk hn I hf Z kp L hl hP hR;have Y:∀{c:Addr}{vs:Β},ah3 H0 c vs->ah3 H c vs:=λ{c vs} q=>by
      rcases q with q|q
      . exact ê (by rcases q with q|⟨oo,q⟩;exact ê (kp _ _ q);exact pS oo (kp _ _ q))
      . exact Ğ q
    obtain⟨ia,ra,pa,za⟩:=gd (Y qa);obtain⟨ib,rb,pb,_⟩:=gd (Y qb);have hx:xs[n]?>=xs[n]:=Ab À;have hy:ys[n]?>=ys[n]:=Ab À;obtain⟨u,hu,ru⟩:=ra.get hx;obtain⟨v,hv,rv⟩:=rb.get hy;obtain⟨f0,rT,fO,mW⟩:=Z.zz;have Q:an6 z nP := bo8 fO;refine ck1;rw[ck0];show nX A.in1 (pyNext ↑z) _ _ _ s;refine aN1;unfold pyNext;refine Ef (wpAny_attempt (wpAny_callSpecial?_slot (name:=ow) Q F.slot_zip_next (wpAny_call_entry F.slot_zip_next Q F.entry_zip_next
      (Wa D Z (bp4 a pa) (bp5 b pb) (Ä hu) (Ä hv) λ g' S' tp sz BL=>ph) W0)))
    have C:∀c q,c∉[z,p,o,i,j]->ô c q->g'.get? c>=q:=λ c q l e=>by simp only[Bk,Ce,or_false,not_or]at l;exact BL c q l.1 l.2.2.1 l.2.2.2.1 l.2.2.2.2 e
    have ne:∀c∈[z,p,o,i,j],tS c:=λ c l e=>by
      obtain⟨_,pp,⟨u1,u2,oo⟩,⟨oi,ei,_⟩,⟨oj,ej,_⟩⟩:=Z;simp only[Bk,Ce,or_false]at l;rcases l with rfl|rfl|rfl|rfl|rfl
      . exact aX9 fO e
      . exact aX9 pp e
      . exact aX9 oo e
      . exact aX9 ei e
      . exact aX9 ej e
    have fr:=I.fresh;have I1:=I.iG (t':=s.toks) hf C (us:=[u,v]) (fX ru (fX rv mT)) (a0 (ÿ 2)) (A5 _ tp _ rfl);have NZ:tS S:=fg e e fr L L
    have P:Ň (upd H s.heap.objs.size (ñ [xs[n],ys[n]]) S) r:=iL NZ L
    obtain⟨zl,ad,c,vl,ll,e1⟩:=I1.lstM P;have a9:ÿ ⇑(r++[bQ1]):=wq
    have I2:=I1.lset (t':=s.toks) (its':=ad++[Κ]) (f:=(·.push Ķ)) P e1 Ê (vl.append (fX (tz (RelV bQ1 ay4)) mT)) a9;show ł A.in1 (updateSeq S (·.push Ķ) >>= _) _ _ _;refine aN1;refine wpAny_updateSeq (s:=LF g') e1 rfl (Ei (Ĭ bC7 (ih (n+1) _ _ (r++[Κ]) À À I2 (Ź c l) (S'.at (nL c l q e)) (Ł c q e) Q0 wq ?_ hR))) č č
    . have f:=hf c l
      refine Ĭ ?_ f.2;rw[QP (Ý (c≠S) (λ e=>NT (e▸l))),QP (ne c l)];exact f.1
    . exact h7 _ _ (λ h:S=c=>NT (h▸l)) e
    . rw[QP (fg z z a8 e e),QP (λ z=>by have:=kp c q e;rw[z,fr]at this;cases this)];exact kp c q e
    . intro m t O
      by_cases hm:m<lc
      . rw[Ah hm]at O
        obtain⟨aa,x,y,r1,r2,r3,r4,U⟩:=hP m t O;refine⟨aa,x,y,r1,r2,r3,r4,?_⟩;rw[QP (fg z z L U U),QP (fg z z fr U U)];exact U
      . rw[aG2]at O
        have m0:m-lc=0:=Fc (Ω O)
        rw[m0]at O;cases O;have mn:m=n:=À
        subst mn;refine bV2 _ _ _ hx hy ?_ ?_
        . cases q:H0 s.heap.objs.size with
          |none=>rfl
          |some w=>rw[kp _ _ q]at fr;cases fr
        . rw[QP (Ş NZ),Q0]
def Qme{s:Shared}{E:Es}{Q:Es}{z p o i j a b:Addr}{xs ys:Β}(I:Ϝ)(n:ϙ)(D:ZA z p o i j a b)(Z:ZU s.heap z p o i j a b 0)(hf:∀c∈[z,p,o,i,j],U6 X O9 H c)
  (qa:ch0 a) (qb:ck5 H b) (q:∀(s':Shared)(H':Hp)(y:Β),cb2->(∀c q,H c>=q->H' c>=q)->Ň (H' s.heap.objs.size) y->⇑y=min ŕ Sj->Dy H H' xs ys y->Q Ķ s') :
  Ψ (call aD6 [ë z]) Q E s:=by
 have hh:=ah4 n;have x:∀c∈[z,p,o,i,j],EI c:=λ c n=>by
  obtain⟨⟨Y,rT,v,mW⟩,pp,⟨u1,u2,oo⟩,⟨oi,R,_⟩,⟨oj,U,_⟩⟩:=Z;simp only[Bk,Ce,or_false]at n;rcases n with rfl|rfl|rfl|rfl|rfl
  ·exact Ap v
  ·exact Ap pp
  ·exact Ap oo
  ·exact Ap R
  ·exact Ap U
 refine callType_codes (Q₁:=λ obj s₁=>obj=Κ/\s₁=LF (nE Ā (.seq Nl))) F.called_list (F.typeCall_list_1 _) F.entry_list_init
  (code_list_new _ ft) (Ł obj s₁ h₁)
 obtain⟨rfl,rfl⟩:=h₁;have l:az4 (nE Ā (.seq Nl)).get?>=(bl1 (.seq Nl)):=IE;refine AB (bo8 l) (F.args_list_init_2 _ _);show ł _ (do let old <- Builtin.List.listItems Ķ;ar6 Ķ Nl;letGo old.toList.reverse;af6 ↑z bE) _ _ _;refine aN1;unfold Builtin.List.listItems;refine fz l rfl ph;show nX _ (ak5 (λ_=>Nl)) (λ_=>letGo (bo2 (Nl:Ļ)) >>= λ_=>af6 ↑z bE) _ _ _;refine Ef (wpAny_updateSeq l rfl ?_);have l₁:=PU (f6 (Nl:Ļ)) l rfl;refine az9 ?_;have L:tS z:=Bf (x z Ê);obtain⟨Y,rT,v,mW⟩:=Z.zz;have P:(cw1 (nE Ā (.seq Nl)) (f6 (Nl:Ļ))).get? z=_:=h7 _ _ (Ş L) (jl v);have r:∀(s':Shared),s'.heap=cw1 (nE Ā (.seq Nl)) (f6 (Nl:Ļ))->s'.TypeIs ↑z nP := λ s' e=>bo8 (Å e P);unfold Builtin.List.listExtendWith;refine NN (r _ rfl) ?_;have h1:ė (Builtin.List.listSameRef Ķ ↑z):=ky Builtin.List.listSameRef (Ş L)
 have h2:pk (A0 nP) (A0 Ā):=Á
 have h3:pk (A0 nP) (A0 ņ):=Á
 simp only[h1,h2,h3,Bool.or_false,Az,if_false];refine Ef (cp5 (r _ rfl) (FP F.slot_zip_iter (r _ rfl) F.entry_zip_iter (Ei ⟨_,rfl, nP, _,r _ rfl,cH0,?_⟩) bX3));refine Ef as8;unfold Builtin.List.listLengthHint;refine Ef (wpAny_specialOf (r _ rfl) QeF ?_);show nX _ (specialOf (Τ z) (Str.ofString "__length_hint__")) _ _ _ _;refine Ef (wpAny_specialOf (r _ rfl) Qc0 ?_);refine ph;show wpAny _ _ (rule "list.extend.makes-room" >>= λ_=>Builtin.List.listTouch Ķ >>= λ_ =>
  again (az5 "list.extend.loop" (wP [Κ,ë z,bE]))) _ _ _
 refine AF ?_;refine aN1;show ł _ (ak5 (·.push bE) >>= λ_=>ak5 (·.pop)) _ _ _;refine Ef (wpAny_updateSeq l₁ rfl ?_);have l₂:=PU (ag5 (·.push Value.none)) l₁ rfl;refine wpAny_updateSeq (hz:=by seq_fits) l₂ rfl ?_;have l₃:=PU (ag5 (·.pop)) l₂ rfl;have kept:∀c u,ô c u->(cw1 (cw1 (cw1 (nE Ā (.seq Nl)) (f6 (Nl:Ļ))) (ag5 (·.push Value.none))) (ag5 (·.pop))).get? c>=u:=λ c u e=>by have ne:be1 c:=Ş bF2;exact h7 _ _ ne (h7 _ _ ne (h7 _ _ ne FY))
 have O:=co9 a o l7 t' s.toks kept ę ⟨Ê,[],_,mT,l₃⟩;refine Ei (Ĭ bC7 (Qmf (H0:=H) (Θ hh) D qa qb I.fresh (λ hm=>Cz _ (x _ hm)) _ 0 _ _ [] rfl CO O (Ź c n) (Z.at λ c n u e=>kept c u e) (Ł c u e) Q0 rfl (λ m t ht=>c9 ht) λ s' H' C J k1 k2 k3 k4=>Ť (q s' H' C J k1 k2 k3 k4)))
 ·have f:=hf c n;refine Ĭ ?_ f.2;rw[QP (Bf (x c n))];exact f.1
 ·rw[QP (fg z z I.fresh e e)];exact e
#where
section
variable{X:Cx}
def Qlo{p p' pos f:Pos}(pH:be5 Ā)(u:eg Ā)(U:be5 nP)(Y:eg nP)(R:ϙ)(P:PA X [x,y] ta)
    (hs:Ñ [x,y]=[ž x,ž y]:=by rfl) (hs2:Ñ [y]=[ž y]:=by rfl) (hs3:Ñ [dm nP p' [x,y] f]=[ž (dm nP p' [x,y] f)]:=by rfl) :
    PE X (NL Ā p [dm nP p' [x,y] f]) (λ σ H Q=>ta σ H λ vs n=>∃a b xs ys,vs=[ų,ca2]/\jk X.K n a/\ck5 n b /\
      ∀(l:Addr)(H':Hp)(t:Β),Ū (n l)->(∀c q,n c>=q->H' c>=q)->Ň (H' l) t->⇑t=min ŕ Sj->Dy n H' xs ys t->bq9 l H'):=by
  intro O s σ H Q I h;refine wm (YO I pH u boot_list ?_);refine ϗ ?_ hs3 rfl;rw[hs3];show ł _ (spliced (ž (dm nP p' [x,y] f)::[])) _ _ s;refine aq2 (Call_ (YO I U Y boot_zip (ϗ (fT (P f O s σ H _ I h) us s1 vs n I1 r1 q1 ?_) (Ξ hs hs2) (û hs2))));obtain⟨a,b,xs,ys,e,F,J,q⟩:=q1;subst e;cases r1 with
  |cons r v =>
    cases v with
    |cons r' v=>cases v;cases r;cases r';refine Ra I1 F J λ s2 z pp o i j I2 D Z hf=>ar0 ?_;refine Qme I2 R D Z hf F J λ s3 C t L k1 k2 k3 k4=>dE (ë s2.heap.objs.size) C L (q _ C t I2.fresh k1 k2 k3 k4)
#where
#print L2
namespace D
open PySem PySem.Spec PyProof.Rows L2
def au.of_get{K:Aa}:∀{ds:á}{a:Β},Ć=cG7->bq7 m d DV t V (ds[m]?>=d->a[m]?>=t->TK t)->mS a
  | [],[],_,_=>fK au
  | [],_::_,h,_=>cR0
  |_::_,[],h,_=>cR0
  |d::ds,t::a,h,f=>ń au (A5 t a (f 0 d t rfl rfl) (au.of_get (Nat.succ.inj h) λ m x y h1 h2=>f (m+1) x y h1 h2))
def Gr.more{K:Aa}{H H':Hp}(kp:∀c q,H c>=q->H' c>=q):BR K B H ρ B H' :=
 ⟨Ck,by8,Fj h h,Fj z z,λ a o _ h=>kp a o h,λ a q=>by
  cases e:F6 with
  |none=>rfl
  |some o=>rw[kp a o e]at q;cases q⟩
def aO.more{K:Aa}{H H':Hp}(W:bC4)(kp:∀c q,H c>=q->H' c>=q):bC3 H' where
 len:=W.len
 nd:=W.nd
 obj:=λ i a u e q=>by
  refine bB.gs ((Gr.more kp).gs W.rb) ?_ (W.obj i a u e q);have:=W.bt a (W.rb a cA6);cases z:F6 with
  |none=>exact ď z this
  |some o=>exact kp a o z
 rb:=W.rb
 bt:=λ a h z=>by
  have:=W.bt a h;cases y:F6 with
  |none=>exact this y
  |some o=>rw[kp a o y]at z;cases z
 bk:=W.bk
section
variable{X:Cx}{f g:aJ}
#where
section
variable{X:Cx}{e:Expr}{f:aJ}{pos:Pos}
def Ds(f g:aJ):aJ:=λ env=>do
 let ds <- kQ f g env
 Xr fI
def i_(H:Hp)(l:Addr):Hp:=λ a=>Af (a=l) F6
def QlQ{H:Hp}{l:Addr}(h:H l>=o):upd (i_ H l) l o=H:=by
 funext a;by_cases e:a=l
 ·subst e;rw[Q0,h]
 ·rw[QP e];unfold i_;rw[OO]
def QkG{p p' pos h:Pos}(o:eg Ā)(hm:eg nP)(hc:ϙ)(hx:bb x f)(hy:bb y g)(pH:be5 Ā := by rfl)(hg:be5 nP := by rfl)
  (hs:Ñ [x,y]=[ž x,ž y]:=by rfl) (hs2:Ñ [y]=[ž y]:=by rfl) (hs3:Ñ [dm nP p' [x,y] h]=[ž (dm nP p' [x,y] h)]:=by rfl) :
  bb (NL Ā p [dm nP p' [x,y] h]) (Ds f g) :=
 L2.PE.imp (Qlo pH o hg hm hc (xh hx (xh hy pa_nil (û hs2)) (Ξ hs hs2)) hs hs2 hs3).kf λ σ H Q aD=>by
  obtain⟨Z,env,ρ,B,hp,d,hp',S,e,k⟩:=aD;obtain⟨ds,a8,i,e⟩:=ũ;cases e;obtain⟨d1,hp1,e1,i⟩:=Qg i;obtain⟨xs,hp2,e2,i⟩:=Qg i;obtain⟨rfl,rfl⟩:=qQ e2;obtain⟨d2,a9,e3,i⟩:=Qg i;obtain⟨ys,dw,e4,i⟩:=Qg i;obtain⟨rfl,rfl⟩:=qQ e4;obtain⟨rfl,rfl⟩:=Qk i;refine P9 e1 v r1 (aB3 e3 (λ u ρ2 B2 F g2 S2 r2=>?_));obtain⟨a,vs,rfl,na,qa,R⟩:=(dr g2 _ _ r1).tupI;obtain⟨b,us,rfl,nb,qb,U⟩:=r2.tupI;refine⟨a,b,vs,us,rfl,qa,qb,λ l H' j hn kp n len pr kf=>?_⟩;have lf:Ū ((i_ H' l) l):=Ż i_ sj
  have P:Ū (NY l):=kf l _ n;have C:∀c q,F c>=q->(i_ H' l) c>=q:=λ c q e=>ϻ i_ (Eg (fg z z hn e e)) (kp c q e)
  have I:=S2.wo.more C;have g3:Gr X.K ρ2 B2 F ρ2 B2 (i_ H' l):=Gr.more C;have g4:Gr X.K ρ2 B2 (i_ H' l) (ρ2++[l]) (zX B2 l) (upd (i_ H' l) l (Ø j)):=Gr.dH lf P;have rl:au X.K ρ2 B2 (i_ H' l) (YX xs ys) j:=au.of_get (by rw[VH,⇑R,⇑U];exact len.symm) λ m d t h1 h2=>by
   obtain⟨x',y',q1,q2,rfl⟩:=VG h1;obtain⟨u',hu,ru⟩:=R.get q1;obtain⟨v',hv,rv⟩:=U.get q2;obtain⟨L,x2,y2,rfl,Y,p2,p3,r⟩:=pr m t h2;rw[hu]at Y;cases Y;rw[hv]at p2;cases p2;have p5:(i_ H' l) L>=(ñ [u',v']):=ϻ i_ (Eg (fg z z n r r)) r
   exact Y5 (λ z=>S2.wo.bt L z p3) (SqT.of p5) (Nw (g3.gs S2.wo.rb) _ (PV ru (au.one rv)))
  have oR:bB X.K (ρ2++[l]) (zX B2 l) (upd (i_ H' l) l (Ø j)) l (Ø (YX xs ys)):=da j Q0 (Nw (g4.gs I.rb) _ rl);have J:=I.dH lf P oR;have O:=å ag1 bW7;rw[QlQ n]at J O;refine k _ _ _ _ O J ?_;unfold aA;exact cR3 l S2.wo.len
#where
structure UF(K:Aa)(mg:Eu)(x:Str)(st:Stmt):Û where
 ex:∃g fd,Fun K x x st g fd/\mg x>=↑g
structure UC(K:Aa)(c:Str):Û where
 ex:∀C,bZ K c C->cX0
structure UM(K:Aa)(c m q:Str)(st:Stmt):Û where
 ex:∃C g fd,Fun K m q st g fd/\bZ K c C/\cX0/\rD K C m g
structure UI(K:Aa)(mg:Eu)(c q:Str)(st:Stmt):Û where
 ex:∃C g fd,Fun K ac5 q st g fd/\bZ K c C/\mg c>=↑C/\Mk K C g
structure UG(mg:Eu)(x:Str)(i:Int):Û where
 ex:∃t,mg x>=aE8
structure UT(K:Aa)(mg:Eu)(x:Str)(d:DV):Û where
 ex:∃a,mg x>=Ŗ/\bO K d Ŗ
section
variable{K:Aa}{h:Heap}{mg:Eu}{f C:Addr}{x c m q:Str}{st:Stmt}{oc:Value}{od an:OK}{osl:an1}{kV doc pm cdv ct:Value}{i:Int}{t:Tok}{d:DV}{a:Addr}
def uf(X:bP2)(G:EN mg)(n:ς K x>=aQ6)(l:Ο f>=(Nc oc od (.func (PySem.W.fnOf x x cn7 bG4 bf7 bE kV doc pm an cdv ct)) osl))(e:wx K cdv x)(k:bI K PQ):F0 x st:=Nc _ _ (kG l e k) (ao6 G n)
def uc(X:bP2)(n:ς K c>=(è ↑C))(p:Pf K C Str.empty)(e:ac7 K C)(o:aR0 K C)(s:aS K C bV1 = è (è ag0)):UC K c:=⟨λ j b=>ac2 (bZ.uniq (Ý (bZ K c C) n) b) (Nc p e o s)⟩
def um(X:bP2)(u:UC K c)(n:ς K c>=(è ↑C))(a:aS K C m>=aQ6)(b:ad8 K PQ)(l:Ο f>=(Nc oc od (.func (PySem.W.fnOf m q cn7 bG4 bf7 bE kV doc pm an cdv ct)) osl))(e:wx K cdv q)(k:bI K PQ):UM K c m q st:=⟨_,_,_,kG l e k,n,u.ex _ n,a,b,k⟩
def ui(X:bP2)(G:EN mg)(n:ς K c>=(è ↑C))(a:aS K C ac5 = è aQ6)(b:ad8 K PQ)(l:Ο f>=(Nc oc od (.func (PySem.W.fnOf ac5 q cn7 bG4 bf7 bE kV doc pm an cdv ct)) osl))(e:wx K cdv q)(k:bI K PQ)(v:bk6 K C)(z:bI K ↑C):UI K mg c q st:=⟨_,_,_,kG l e k,n,ao6 G n,v,a,b,z⟩
def uk(X:bP2)(u:UC K c)(n:ς K c>=(è ↑C))(a:aS K C x>=none):ze K c x:=Nc C n (u.ex _ n) a
def ug(X:bP2)(G:EN mg)(n:ς K x>=(è aE8)):UG mg x i:=Ĭ _ (ao6 G n)
def ut(X:bP2)(G:EN mg)(n:ς K x>=aY9)(r:bO K d Ŗ):UT K mg x d:=cK6 (ao6 G n) r
def Q8{N ps:cr}{s:Scope}(h:Ĝ (s.kind==aM3&&mP s.isCoroutine&&mP s.isGenerator&&Ó N.Nodup&&oX (N.take dO) ps&&ps.all (λ x=>Ó (s.names.lookup x>=oB)||Ó (s.names.lookup x>=aF6))&&s.names.all λ y=>as2 y.2 be3):=by decide +kernel):Qz N ps s:=by simp only[Bc,Cr,decide_eq_true_eq,List.all_eq_true,Bool.or_eq_true]at h;obtain⟨⟨⟨⟨⟨⟨a,b⟩,c⟩,d⟩,e⟩,f⟩,g⟩:=h;refine⟨?_,b,c,d,e,f,λ y j=>Ŭ (g y j)⟩;revert a;cases s.kind<;>first|(intro _;rfl)|(intro z;exact ď z Á)
#where
section
variable{P:Program}{w:World}{K:Aa}{mg:Eu}{O8:Heap}{x c m q:Str}{st:Stmt}{N ps:cr}{k:Nat}{body:aG}
def Bn(ps:cr)(x q:Str)(st:Stmt):Û:=∀(kV b f:Value)(e:OK)(a ct:Value)(us:ó),cG8=dO->an4 (PySem.W.fnOf x q cn7 bG4 bf7 bE kV b f e a ct) us=Ô ED
def Bd(P:Program)(w:World)(K:Aa)(mg:Eu)(O8:Heap)(N:cr)(k:Nat)(q:Str)(st:Stmt)(body:aG):Û:=∀(g:Addr)(a:Value)(A:Around)(outer:Lu)(s:Shared)(H:Hp)(E:XK),tf k (Ń q bf7 g a)->iC (Kb CX0 P w K mg O8 N q bf7 g a A outer s H E).nox bG4 body
def hf(u:F0 x st)(a:ğ N ps st)(h:N.Nodup->Bd P w K mg O8 N k x st body:=by intro s _ _ _ _ _ _ _ l;trivial)(b:Bn ps x x st:=by intro _ _ _ _ _ _ us e;rcases us with _|⟨_,_|⟨_,_|⟨_,_|⟨_,_|⟨_,_|⟨_,_⟩⟩⟩⟩⟩⟩<;>first|rfl|cases e):TN x (k+1) dO cY3:=let ⟨_,_,F,f⟩:=u.ex;QmO F a f b (h a.nd _)
def hM(u:UM K c m q st)(a:ğ N ps st)(h:N.Nodup->Bd P w K mg O8 N k q st body:=by intro s _ _ _ _ _ _ _ l;trivial)(e:Bn ps m q st:=by intro _ _ _ _ _ _ us e;rcases us with _|⟨_,_|⟨_,_|⟨_,_|⟨_,_|⟨_,_|⟨_,_⟩⟩⟩⟩⟩⟩<;>first|rfl|cases e):XU P w K mg O8 c m (k+1) dO cY3:=let ⟨_,_,_,F,j,b,i⟩:=u.ex;QiM j b i F a e (h a.nd _)
def hI(u:UI K mg c q st)(a:ğ N ps st)(h:N.Nodup->Bd P w K mg O8 N k q st body:=by intro s _ _ _ _ _ _ _ l;trivial)(b:Bn ps ac5 q st:=by intro _ _ _ _ _ _ us e;rcases us with _|⟨_,_|⟨_,_|⟨_,_|⟨_,_|⟨_,_|⟨_,_⟩⟩⟩⟩⟩⟩<;>first|rfl|cases e):wF P w K mg O8 c (k+1) dO cY3:=let ⟨_,_,_,F,j,f,i⟩:=u.ex;Qit j f i F a b (h a.nd _)
#where
def iw{α:re}(m:cA8)(k:α->Hs->Ð (Str × Hs)):Hs->Ð (Str × Hs):=λ hp=>(m hp).bind λ r=>k r.1 r.2
section
variable{X:Cx}{E:XK}{e o:Expr}{es:Ϡ}{st:Stmt}{rest:AX}{g g':Hb}{f:aG}{pos apos p:Pos}{c m:Str}{fo:aJ}{fa:bR}
#where
section
variable{X:Cx}{E:XK}{c:Str}{C:Addr}{np cpos pos p2:Pos}{msg:Str}{j:Nat}
#where
section
variable{P:Program}{w:World}{K:Aa}{mg:Eu}{O8:Heap}{x c m q:Str}{st:Stmt}{N ps:cr}{k:Nat}{g:Hb}
#where
section
variable{K:Aa}{h:Heap}{mg:Eu}{c sc a1 b1 b2 b3 b4:Str}{C SC A1 B1 B2 B3 B4:Addr}
#where
section
variable{X:Cx}{a C:Addr}{oe:Obj}
#where
section
variable{X:Cx}{E:XK}{l:AX}{g g':Hb}
#where
section
variable{X:Cx}{c sc a1 b1 b2 b3 b4 x n nr no:Str}{e:Expr}{es:Ϡ}{fa:bR}{p pos cpos epos hpos np p1 p2 p3 p4 p5 p6 p7 p8 p9 p10 p11 p12 p13 p14 p15 p16 p17 p18 p19 q1 q2:Pos}{kt:Nat}
#where
section
variable{X:Cx}
def Zp{x:Str}{i:Int}{pos:Pos}(u:UG X.mg x i)(a:cf8:=by rfl)(hd:bn2:=by decide):bb ae6 (ì i):=let ⟨_,h⟩:=u.ex;QkE a h hd
#where
section
variable{env aF:En}{hp hp1:Hs}{f g:aG}{c:bV}{r:Ð ((Fl × En)× Hs)}
def Qq(h:aT>=(ϧ aF,hp1))(k:g aF hp1=r):Qs f g env hp=r:=å (QlV h) k
def QpR(h:aN7>=au3)(k:bS5=r):aQ c f g env hp=r:=å (Ry h) k
def JG(h:aN7>=(true,hp1))(k:η hp1=r):aQ c f g env hp=r:=å (QmS h) k
def Zt(h:aN7>=au3):aQ c f ZD env hp>=(L3,hp1):=Ry h
def ZC{α:re}{xs:To}{i:Nat}{x:α}(h:cv8):i<ŕ:=aR4
#where
#print D
namespace L2
open PySem PySem.Spec PyProof.Rows
section
variable{X:Cx}
def Inv.pG{H H':Hp}{s:Shared}{h':Heap}{t':Nat}(I:Ϝ)(k:∀b u,bo5 u->Pi u)(old:∀b o,H b>=o->ag3>=o)
    (new:∀b o,ag3>=o->H b>=o∨(aa9 b/\aF3 X.w H' h' b o)):cb1 ck4:=by
  refine I.un ⟨λ b u q _ _ _=>k b u q,λ b u q _ _ _=>Ĭ u.slots (k b u q),λ b u q n _=>?_,λ b u q _=>Ĭ u (k b u q),λ b xs q=>old b _ q,λ b u xs q=>old b _ q,λ b ps q=>Ĭ Nl (Ŷ (old b _ q))⟩ (Ł b o e)
  . cases e:ag3 with
    |none=>rfl
    |some o =>
      rcases new b o e with h|⟨h,_⟩
      . rw[n]at h;cases h
      . exact cx6 (Ap q) h
  . rcases new b o e with h|⟨_,h⟩
    . exact(I.hok b o h).stay (λ c v _ q=>k c v q) (λ c q=>old c _ q) λ c xs q=>old c _ q
    . exact h
def R0{κ:re}:∀{kvs:cv9}{vs:al4}{i:Nat}{x:κ × V},am0->EB kvs->∃y,dC vs y/\x.1=y.1/\RelV x.2 y.2
 |_,_,0,_,.cons a _,e=>ac2 e (ĸ _ a)
 |_,_,i+1,_,.cons _ b,e=>R0 (i:=i) b e
def gJ:∀a:bu5,Vals (a.map V.ref) (a.map Value.ref)
 | []=>mT
 |_::a=>cc2 (gJ a)
def iw(z:Ew)(n:Int):Int:=cG6 (CD (z.find? λ p=>bM1 n)) 0
def yL:∀{z:Ew},bb4->∀p∈z,iw z ϰ=PP
  |q::z,nd,p,hp=>by
    obtain⟨h1,h2⟩:=aW5;unfold iw;rw[B7];rcases Nm hp with rfl|hp
    . simp
    . have ne:¬ q.1=ϰ:=λ e=>h1 (Eb.mpr (da p hp e.symm))
      simp only[ne,decide_false];exact yL h2 p hp
def Qjd{p r C pos:Pos}(pH:be5 IY)(ad:eg IY)(hc:ϙ)(ho:bX o to)
    (hbase:LO o aI4 aU2=aU2:=by rfl) (hline:PH r.endLine C.line:=by rfl)
    (hs3:Ñ [AC o aI4 r [] C]=[ž (AC o aI4 r [] C)]:=by rfl) :
    PE X (NL IY p [AC o aI4 r [] C]) (λ σ H Q=>to σ H λ v P=>∃(a:Addr) (z:Ew),v=ų/\P a>=(.dK (cw6 (aD5,bj7)))/\bb4 /\
      ∀(l:Addr)(H':Hp)(f:Ey)(O:Ew),O.Perm z->O.Pairwise (λ p q=>ϰ<=q.1)->Ū (P l)->(∀b o,P b>=o->ag3>=o)->Ň (H' l) ab1->by5=⇑O->bq7 m b Addr q (Int × Int) (f[m]?>=b->O[m]?>=q->Ū (P b)/\ag3>=(ñ [È q.1,È q.2]))->bq9 l H'):=by
  intro O9 s σ H Q I h;refine wm (YO I pH ad boot_sorted ?_);refine PyProof.Rows.callWith_builtin1 ?_ hs3 rfl;rw[hs3];show ł _ (spliced (ž (AC o aI4 r [] C)::[])) _ _ s;refine aq2 (wpAny_Call_method0_late hbase hline (fT (ho O9 s σ H _ I h) v L x P I1 r1 q1 ?_));obtain⟨a,z,rfl,hd,nd,q⟩:=q1;have hh:bL3:=I1.ok.hd hc;obtain⟨hz,lo,vs,kv,a8⟩:=Uw I1.hok hd;obtain⟨ep,a9⟩:=a8.dictAt;obtain⟨h1,h2⟩:=Rg (T := ss) I1 r1 (Ğ (Ğ (ê (Ť (n5 _ hd)))));cases r1;refine⟨ss, "dict.items", PySem.F.plainAttrs_dict,PySem.F.slot_dict_items,PySem.F.type_dict_items,h1,h2,Calls.callWith_builtin rfl (PySem.evalArgs_none ?_)⟩;refine call_meetsIn PySem.F.slot_dict_items a8.typeIs PySem.F.entry_dict_items (PySem.F.args_dict_items_1 _) (meets_dict_items LL a lo) (Ĭ (Ĭ vs a8) (ar0 ?_));have kl:⇑z=IQ:=bk9 (PM kv) Bq
  have zl:ÿ ⇑z:=mE Bq hz hz
  have I2:Ŋ P (ϴ L (L.heap.push (aZ3 "dict_items" #[ų])) L.toks):=I1.kept λ b u e=>FY;have ve:bq7 j k Key u Value (vs[j]?>=(k,u)->∃p t,z[j]?>=p/\k=aD5/\u=LI PP):=λ j k u e=>by
    have lj:j<⇑z:=Å kl ct8
    have ez:(cw6 ((aD5:Key),V.int PP))[j]?>=(ê z[j].1,È z[j].2):=Ρ Bt (Ab lj)
    obtain⟨y,y1,y2⟩:=R0 kv ez;rw[e]at y1;cases y1;obtain⟨U,t,Y⟩:=y2;exact⟨z[j],t,Ab lj,U.symm,Y⟩
  refine TS.fY (g:=iw z) (ks:=ao7) (F:=λ v=>∃b,v=ca2/\ad2 1<=b) (Ź R hR) λ h1 h' tk out c k1 k2 g2 hF pm so=>?_
  . refine PySem.W.kdx_collect (knd:=LL) (kvs:=vs) (ep:=ep) hh (cj6 _ IE) (a9.push _) À λ h' tk f k1 al G=>hR h' tk ab1 (Ź v hv) ?_ (Ĵ Bq) k1
    . obtain⟨b,J,rfl⟩:=bI4 hv
      obtain⟨j,hj⟩:=bY1 J;obtain⟨key,k,x,U,Y,e3⟩:=G.pairs j b hj;obtain⟨p,t,p1,rfl,rfl⟩:=ve j k x U;have ab:=G.above b J;have ab:ad2 1<b:=æ (Cn L.heap) ab
      refine AB (ĸ b (aF8 ab)) ϰ;rcases ZX (ca0 (yV (f7 ϰ) key) Y)with ⟨i,t',h1,h2⟩|⟨_,_,h1,_⟩
      . cases h1
        subst h2;exact⟨b,_,t',t,0,rfl,e3,rfl,nV (yL nd p (Aw p1))⟩
      . cases h1
    . refine List.ext_getElem? (NV j)
      rw[Bt,Bt,Bt];cases hj:f[j]? with
      |none =>
        have:Ū z[j]?:=by rw[List.getElem?_eq_none_iff]at hj ⊢;lia
        rw[this];rfl
      |some b =>
        obtain⟨key,k,x,U,Y,e3⟩:=G.pairs j b hj;obtain⟨p,t,p1,rfl,rfl⟩:=ve j k x U;rw[p1];show è (TS.bL h' ↑b)>=ϰ;rcases ZX (ca0 (yV (f7 ϰ) key) Y)with ⟨i,t',h1,h2⟩|⟨_,_,h1,_⟩
        . cases h1
          subst h2;simp only[TS.bL,e3];rfl
        . cases h1
  . obtain⟨f,rfl⟩:∃f:bu5,out=ab1:=by
      clear pm so g2;induction out with
      |nil=>exact õ []
      |cons v out ih=>obtain⟨f,e⟩:=ih λ v hv=>hF v (ch6 hv);obtain⟨⟨b,rfl,_⟩,_⟩:=hF v Ec;exact Ĭ (b::f) ca5
    have sz:ad2 1<=h1.objs.size:=Ap (k1 _ _ (oC L.heap))
    let K:Addr->Int:=λ b=>TS.bL h1 ↑b
    let H':Hp:=λ b=>aI8 cV7 (Ø ab1) (aI8 (b∈f) (ñ [È cJ5,È (iw z cJ5)]) (P b))
    have CP:∀b∈f,ad2 1<=b/\b<h1.objs.size/\∃n,TS.aV h1 (iw z) ↑b n:=λ b J=>by obtain⟨⟨b',e,h3⟩,n,p⟩:=hF ↑b (Eb.mpr (Œ b J));cases e;refine cV1 h3 n p;obtain⟨a',o',_,_,_,e,U,_⟩:=p;cases e;exact Ap U
    have nR:∀b,ad2 1<=b->Ū (P b):=λ b J=>I1.hok.fresh À;have Hl:Ň (H' h1.objs.size) ab1:=sj;have Ha:∀b∈f,ag3>=(ñ [È cJ5,È (iw z cJ5)]):=λ b J=>by show É cV7 _ _=_;rw[Eg (Bf (CP b J).2.1),Eh J]
    have old:∀b o,P b>=o->ag3>=o:=λ b o e=>by have lt:b<L.heap.objs.size:=I1.hok.lt e;show É cV7 _ _=_;rw[Eg (aM2 lt (Bj lP sz)),Eg (λ J=>Cz _ (Ay lt (Bj lP (CP b J).1)))];exact e
    have I3:=Inv.pG (H':=H') (h':=h') (t':=tk) I2 (λ b u e=>k2 b u (k1 b u e)) old (λ b o e=>by
      by_cases J:cV7
      . subst J
        rw[Hl]at e;cases e;refine Ğ ⟨hW (l8 (L.heap.push _)<=_) Cn sz,?_,ab1,c,?_,g2⟩
        . have:=pm.length_eq
          simp only[Bq]at this ⊢;lia
        . exact gJ f
      . by_cases ha:b∈f
        . rw[Ha b ha]at e;cases e
          obtain⟨f1,f2,n,p⟩:=CP b ha;have en:cJ5=n:=TS.b_ p;obtain⟨a',o',t,u,k,e,U,Y,e3⟩:=p;cases e;refine Ğ ⟨hW (l8 (L.heap.push _)<=_) Cn f1,Į,[LI n,fj (iw z n) u],?_,o',k2 _ _ U,Y,k,e3⟩;rw[en];exact fX (õ t) (fX (õ u) mT)
        . left
          have:aI8 cV7 (HO.lst ab1) (aI8 (b∈f) (HO.tup [È cJ5,È (iw z cJ5)]) (P b))>=o:=e;rw[Eg J,Eg ha]at this;exact this)
    let O:bk2:=f.map λ b=>(cJ5,iw z cJ5)
    have km:pc (f.map Value.ref) (TS.bL h1)=O.map ļ:=Ρ List.map_map List.map_map
    rw[km]at pm so;have zz:cw6 (ϰ,iw z ϰ)=z:=by
      conv=>rhs;rw[<- aY0 z]
      exact My (λ p hp=>û (yL nd p hp))
    have zp:O.Perm z:=by have:=pm.map λ n=>(n,iw z n);rw[show NM (O.map ļ) n (n,iw z n)=O by show pc (pc co3 _) _=co3;rw[List.map_map,List.map_map];rfl,List.map_map]at this;exact this.trans (nV (Ý (z.map ((λ n=>(n,iw z n))∘λ x=>x.1)=z) zz))
    refine dE (ë h1.objs.size) H' I3 (q h1.objs.size H' f O zp (List.pairwise_map.mp so) (nR _ sz) old Hl (N2 by5 ⇑co3 Bq) (TZ m b p J hp));have mb:=Aw J;have ep:O[m]?>=(cJ5,iw z cJ5):=bn5 (co3[m]?=_) Bt J
    rw[ep]at hp;cases hp;exact Ĭ (nR b (CP b mb).1) (Ha b mb)
#where
#print L2
namespace D
open PySem PySem.Spec PyProof.Rows L2
section
variable{X:Cx}
def fQ:Ϧ->Ð Ew
 | []=>è []
 | (.inl n,.int m)::r=>pc (fQ r) ((n,m) :: ·)
 |_=>none
def Y_:∀{kvs:Ϧ}{z:Ew},fQ kvs>=z->kvs=cw6 (aD5,bj7)
  | [],_,h=>by cases h;rfl
  | (.inl n,.int m)::r,z,h=>by
    cases e:fQ r with
    |none=>simp[fQ,e]at h
    |some a=>simp[fQ,e]at h;subst h;rw[Y_ e];rfl
  | (.inr _,_)::_,_,h=>mY fQ
  | (.inl _,.non)::_,_,h=>mY fQ
  | (.inl _,.bl _)::_,_,h=>mY fQ
  | (.inl _,.str _)::_,_,h=>mY fQ
  | (.inl _,.tup _)::_,_,h=>mY fQ
  | (.inl _,.lst _)::_,_,h=>mY fQ
  | (.inl _,.ref _)::_,_,h=>mY fQ
def Wd:∀z:bk2,fQ (cw6 (aD5,bj7))>=z
 | []=>rfl
 |p::z=>Ő (pc (fQ _) _=_) (Wd z)
def pU(z:Ew):bk2:=z.mergeSort λ p q=>FX ϰ q.1
def gG(z:Ew):(pU z).Perm z:=List.mergeSort_perm _ _
def QcL(z:Ew):aV2 (pU z) (λ p q=>ϰ<=q.1):=aK9 (List.pairwise_mergeSort (le:=λ p q:Int × Int=>FX ϰ q.1) (λ a b c h1 h2=>by simp at *;lia) (λ a b=>č) z) (this.imp λ h=>Ä h)
def QkS:∀{z:Ew},bb4->∀p∈z,∀q∈z,ϰ=q.1->p=q:=λ nd p hp q a e=>by have h1:=yL nd p hp;have h2:=yL nd q a;rw[e]at h1;exact Prod.ext e (h1.symm.trans h2)
def U1{z c:Ew}(nd:bb4)(p:c.Perm z)(h:c.Pairwise λ p q=>ϰ<=q.1):c=pU z :=
 (p.trans (gG z).symm).eq_of_pairwise (λ a b e f h1 h2=>QkS nd a (p.mem_iff.mp e) b ((gG z).mem_iff.mp f) (Int.le_antisymm h1 h2)) h (QcL z)
def K5(f:aJ):aJ:=λ env=>do
 let d <- dc
 rM d λ_ kvs=>do
  let z <- vX (fQ kvs)
  QJ (Ó bb4)
  E6 (NM (pU z) p (ñ [È ϰ,bj7]))
def RZ:∀{xs:aU5}{z:Ew},cU4=cw6 aD5->A4 ϒ=cw6 (V.int PP)->xs=cw6 (aD5,bj7)
  | [],[],_,_=>rfl
  | [],_::_,h,_=>c9 h
  |_::_,[],h,_=>c9 h
  | (k,v)::xs,p::z,h1,h2=>by simp only[Bb,List.cons.injEq]at h1 h2 ⊢;exact Ĭ (Ξ h1.1 h2.1) (RZ h1.2 h2.2)
def QkC(z:Ew):Uu (cw6 (oT PP))>=(z.map ϒ):=by
 induction z with
 |nil=>rfl
 |cons p z a=>show pc (Uu _) _=_;rw[a];rfl
def Qia{p c f pos:Pos}(i:eg IY)(hc:ϙ)(ho:bb o fo)(pH:be5 IY := by rfl)
    (hbase:LO o aI4 aU2=aU2:=by rfl) (hline:PH c.endLine f.line:=by rfl)
    (hs3:Ñ [AC o aI4 c [] f]=[ž (AC o aI4 c [] f)]:=by rfl) :
    bb (NL IY p [AC o aI4 c [] f]) (K5 fo) :=
  L2.PE.imp (Qjd pH i hc ho hbase hline hs3) λ σ H Q C=>by
    obtain⟨Z,env,ρ,B,hp,d,hp',S,e,k⟩:=C;obtain⟨x,hp1,I,ea⟩:=ũ;refine P9 I v r1 ?_;obtain⟨n,kvs,rfl,L,J⟩:=jP ea;obtain⟨z,hp2,O,P⟩:=Qg J;obtain⟨R,rfl⟩:=xf O;obtain⟨_,a8,U,Y⟩:=Qg P;obtain⟨nd,rfl⟩:=QL U;obtain⟨rfl,rfl⟩:=Qk Y;have nd:=Eo nd;have ek:=Y_ R;subst ek;obtain⟨a,rfl,ra⟩:=r1.o8;obtain⟨xs,h1,j⟩:=(S1.wo.obj n a _ ra L).aH;have r:=j.to.1;have u:=j.to.2;rw[List.map_map]at r u;have ex:xs=cw6 (aD5,bj7):=RZ (r.trans rfl) (bk4 (jY (QkC z) u) List.map_map);subst ex;refine bU4 a z h1 nd (λ l H' F zs pm so hl kp Hl len pr=>?_);obtain rfl:=U1 nd pm so;have g2:Gr X.K ρ1 B1 H1 ρ1 B1 H':=Gr.more kp;have y:=S1.wo.more kp;refine k.after g1 _ ρ1 B1 H' g2 y (Ve (λ zz=>S1.wo.bt l zz hl) (SqL.of Hl) (au.of_get (eI Bq Bq len.symm) (TZ m d t h2 h3)));rw[Bt]at h2 h3;cases hz:(pU z)[m]? with
    |none=>rw[hz]at h2;cases h2
    |some q =>
      cases h:F[m]? with
      |none=>rw[h]at h3;cases h3
      |some b=>rw[hz]at h2;rw[h]at h3;cases h2;cases h3;obtain⟨n1,n2⟩:=pr m b q h hz;exact Y5 (λ zz=>S1.wo.bt b zz n1) (SqT.of n2) (PV Jf (au.one Jf))
def QjW{f:aJ}{hp hp1:Hs}{n:Nat}{z:Ew}(hf:aT>=(LD,hp1))(h:hp1[n]?>=(nj (cw6 (aD5,bj7))))(nd:bb4):K5 f env hp>=(Ø (NM (pU z) p (ñ [È ϰ,bj7])),hp1):=by unfold K5;rw[bs0];show(OU >>= _) hp1=_;rw[bk8];show(vX (fQ _) >>= _) hp1=_;rw[Wd,Qe (tz (vX (è z) hp1>=(z,hp1)))];rw[Qe (show QJ (Ó bb4) hp1>=((),hp1)by rw[Em nd];rfl)];rfl
#where
#print D
namespace K64
open PySem PySem.Spec PyProof.Rows L2 D
def top (i:Nat):Stmt:=PySem.Challenge.pw_sidelink_k64_whole_packed_goes_on.main.body.getD i (.Pass (Nc 0 0 0 0))
abbrev Vp:Stmt:=top 45
def YM:aG:=ö 8 (ax9 dd 7) (br9 (iQ (E4 n8 OT (wS 5)) (iQ (eB (ŷ GH (Qb 8) 3)) (E4 eN (ax9 io 8) (ax9 Id 7)))) (ck7 Xp LV (L5 "kid" (cP5 0 7))))
def KF:aG:=co4 (Gj (é (wS 4))) 7 YM
def kc:aG:=bn 4 (bp 1 2) 5 (IJ (ZO ww) (bp 1 1)) (ö 6 ar4 (ϕ KF LV))
def Yp:fR:=Zj 9 kc
abbrev jT:Stmt:=top 44
def KK:aG:=QT (cL (eB (Ò cP am8 0)) (sR Z2 al3) (Ò Q7 (sR Z2 al3) 1))
def YD:fR:=Zj 1 KK
abbrev Vn:Stmt:=top 43
def Yz:aJ:=bo1 (cL6 Ŏ) [3] nA (Qh cU Ë Ġ)
def YA:aJ:=bo1 (cL6 Ŏ) [1] nA (Qh fH Ġ Ë)
def jf:aJ:=bo1 (iV (kQ Ŏ (bN9 Ŏ Ÿ))) [] nA (Qh cU am8 al3)
def g9:aG:=bn 2 al3 3 (wf 3) (AH (br9 (aO3 (sR q_ jf)) aG6) (br9 (Yh (cd9 V5 Ġ) (aO3 (sR q_ YA))) aG6) (ϕ (br9 (Yh (cd9 V5 io) (aO3 (sR q_ Yz))) aG6) (kE (Æ isD Ġ ī) (kE (Æ isD io ī) (ŷ cU Ġ 3)))))
def qV:fR:=Zj 4 g9
abbrev xL:Stmt:=top 42
def vM:aG:=ö 5 ar4 (AH (eT (Qh eN bw2 Ŏ) (ck7 Xp Id (L5 ao8 (Đ 0))) ZD) (br9 (aO3 (ù 2 qV 1 aA8)) (ck7 Xp Id (L5 "order" (Đ 0)))) (cK4 (eT (Qh eN (sR Z2 (bp 1 2)) (ù 1 YD 1 Qj)) (ck7 Xp Id (L5 "parts" (Đ 0))) ZD) (br9 (iQ (E4 eN (Æ isD (bp 1 3) ī) (Æ isD (bp 1 4) ī)) (eB (ŷ eN (bp 1 4) 4))) (ck7 Xp Id (L5 "links" (Đ 0)))) Id))
def Xe:fR:=Zj 6 vM
abbrev UU:Stmt:=top 40
def xC:aG:=Qs (zG io (d9 Ŏ dd)) (QI 3 (ay0 Ë 4 3))
def xy:aG:=qJ (cW Ġ) (gN 4) xC
def Qa9:aG:=bn 2 xV 3 iN (ϕ xy Ŏ)
def YY:fR:=Zj 5 Qa9
abbrev xK:Stmt:=top 41
def Xo:aG:=bn 8 (ax9 Ġ 7) 9 (ax9 Ë 8) (ö 10 (cL (E4 cU (ax4 7) (wS 1)) (NO Ġ (ax4 7)) iN) (Qs (ck7 JD LV (ù 5 Xe 8 (Ç 9 (bZ6 2 (ax9 dd 8) (Đ 10))))) (eT (ò dD 2 0) (ck7 JD LV (ù 4 Yp 8 (bZ6 9 (ax9 dd 8) bv1))) ZD)))
def U7:aG:=co4 (Gj (é (wS 1))) 7 Xo
def vL:aG:=bn 4 (ù 2 YY 0 fy) 5 (ù 2 YY 0 aA8) (ö 6 ar4 (ϕ U7 LV))
def qg:fR:=Zj 11 vL
abbrev Vk:Stmt:=cu3 4
def gX:aG:=QT (ŀ Ü bi3)
def ZG:fR:=Zj 1 gX
abbrev UV:Stmt:=top 38
def Qba:aG:=ϕ (br9 (iQ (qk (zZ Ġ)) (qk (zZ (bL5 Ë bw2 2)))) (QT iN)) (Ϣ (bL5 Ë bw2 2) 0)
def X8:fR:=Zj 2 Qba
abbrev GV:Stmt:=top 37
def zy:aG:=AH (zG aO2 (d9 Ŏ dd)) (OH Ā Xp io (Đ 4)) (QI 4 (ay0 Ë 4 4))
def yr:aG:=J0 (Yh (cd9 V5 dd) (Yh (eB (JV fH cU kw dd bC1)) (E4 GH dd Ŏ))) zy Ņ
def Qdi:aG:=bn 3 ar4 4 Ġ (ϕ yr io)
def xQ:fR:=Zj 5 Qdi
abbrev xJ:Stmt:=top 36
def Yj:aG:=ö 5 (ù 3 xQ 0 (Ç 4 aA8)) (Qs (OH Ā Xp Ŏ bv1) (QI 4 (ù 2 X8 0 bv1)))
def zO:aG:=J0 (E4 fH cd4 (bL5 Ë Ġ 0)) Yj Ņ
def vK:aG:=ö 2 ar4 (bn 3 xV 4 Ġ (ϕ zO Ŏ))
def Z0:fR:=Zj 6 vK
abbrev zU:Stmt:=cu3 11
def U8:aG:=QT (sR Ip al6)
def Jl:fR:=Zj 1 U8
abbrev WX:Stmt:=top 32
def zw:aG:=bn 5 (ŷ XO (Ò XO cd4 1) 4) 6 (cL (br7 dD 5 0) (NO Ŏ aS8) aB4) (ck7 JD io (ù 4 qg 1 (Qc (ax9 Ŏ 4) (cP5 5 6))))
def Qc3:aG:=co4 (Gj (é cd4)) 4 zw
def QhM:aG:=bn 1 (ba6 aQ1 Jl Ë) 2 (cj5 Z0 1 bD5) (ö 3 ar4 (ϕ Qc3 io))
def KC:fR:=Zj 7 QhM
abbrev GP:Stmt:=top 33
def Qdd:aG:=QT (Qh cP (ù 1 KC 0 Qj) aB4)
def qW:fR:=Zj 1 Qdd
abbrev gx:Stmt:=top 39
def jJ:aG:=zG aO2 (d9 Ŏ dd)
def Us:aG:=co4 (lF (ay0 Ë 3 2)) 4 jJ
def UB:aG:=Us
def jr:aG:=qJ (cW Ġ) (gN 3) UB
def Qgc:aG:=ö 2 xV (ϕ jr Ŏ)
def jV:fR:=Zj 5 Qgc
abbrev WM:Stmt:=top 34
def xM:aJ:=Jb true (cW (ax9 Ŏ 4)) [5] (E4 GH Ë Ġ) Ë
def yd:aG:=ö 5 (cj5 jV 1 (NO Ŏ (ò XO 4 1))) (ck7 JD io xM)
def Qc5:aG:=co4 (Dh (Ĺ Ÿ cd4)) 4 yd
def QhR:aG:=bn 1 (ba6 aQ1 Jl Ë) 2 (cj5 Z0 1 bD5) (ö 3 ar4 (ϕ Qc5 io))
def yq:fR:=Zj 6 QhR
abbrev GW:Stmt:=top 35
def Yq:aG:=ck7 JD Ŏ (Ds (cV6 3 1) (cV6 3 2))
def zf:aG:=qJ (cW (NO (cj5 Z0 1 bD5) aB5)) (gN 3) Yq
def Qdj:aG:=bn 1 (ba6 aQ1 Jl Ë) 2 ar4 (ϕ zf Ŏ)
def q8:fR:=Zj 4 Qdj
abbrev qL:Stmt:=cu3 9
def VN:aG:=QT (ŀ Ü LX)
def J2:fR:=Zj 1 VN
abbrev xF:Stmt:=cc4 2
def vG:aG:=cK4 (br9 (aO3 ct3) (QT iN)) (cW2 (cD8 0) fF (sR OD (ţ ao4))) bL2
def JK:fR:=Zj 1 vG
abbrev gy:Stmt:=top 58
def jg:aJ:=bo1 (cW (ŭ wJ 1)) [1,0] (eB (JV fH cU (bp 2 1) Ë (bp 2 2))) (ZO (nB 0 (NO Ġ Ë)))
def Qgd:aG:=Qs (cW2 am8 fF jg) (ö 2 (JC ss yY Ġ (é al3)) (cK4 (eT (cG1 am8 tI) (zG (wf 2) (d9 Ġ al3)) ZD) (eT (cG1 am8 N3) (OH ss Dj Ġ (Ĺ al3 kw)) ZD) Ŏ))
def VI:fR:=Zj 3 Qgd
abbrev xD:Stmt:=cu3 8
def vE:aG:=QT (sR Z2 al6)
def Xd:fR:=Zj 1 vE
abbrev Y8:Stmt:=cc4 9
def Jq:aJ:=Jb true (iV (kQ (bp 2 1) (bp 2 2))) [3,4] (eB (JV fH cU Ġ am8 Ŏ)) Ë
def yw:aG:=ö 3 (cD8 1) (bn 4 (cD8 2) 5 Jq (AH (OH Ā JD (ţ ao4) bv1) (br9 (iQ (ce0 (bp 2 3)) (eB (ŷ n8 (bp 2 3) 4))) (ϕ (OM F7 aO2) (L5 aP3 (Ç 1 (B6 (ŭ Uq 5) iN iN))))) (cK4 (OM "aim" (bp 2 3)) (OM i9 (bp 2 4)) (L5 aP3 (Ç 1 (B6 (ŭ Uq 5) ak9 or))))))
def Xz:fR:=Zj 6 yw
abbrev Yc:Stmt:=cu3 12
def jv:aG:=br9 (aO3 (JV fH cU kw Ġ (sR Z2 al6))) Pn
def ZK:fR:=Zj 2 jv
abbrev xE:Stmt:=cu3 2
def vF:aG:=AH (Z7 (tq Ll 2 ZK Ë fy)) (GO Ü Fy VL Ë Ÿ) (zG Ŏ (d9 al6 Ġ))
def JJ:fR:=Zj 3 vF
abbrev GT:Stmt:=top 17
def Qdg:aG:=QT (rO (ax1 0) (Ç 1 (Ç 2 (Ĺ (ax1 3) (ax1 4)))))
def qZ:fR:=Zj 3 Qdg
abbrev Y9:Stmt:=top 19
def xo:aJ:=bo1 cL7 [1] (E4 fH Ë Ġ) Ë
def yx:aG:=QT (sR Z2 xo)
def ZP:fR:=Zj 2 yx
abbrev xH:Stmt:=top 18
def U5:aJ:=bo1 cL7 [1] (E4 cU Ë Ġ) Ë
def vJ:aG:=QT (sR Z2 U5)
def X5:fR:=Zj 2 vJ
abbrev GY:Stmt:=top 16
def Qdl:aG:=bn 4 bN8 5 cx1 (bn 6 (ù 2 X5 4 fy) 7 (ù 2 ZP 4 fy) (QT (ù 3 qZ 0 (Ĺ (IJ (IJ (bH dd Zw co7) Ŏ) (bN9 dd OT)) (IJ (ŷ Q7 (bH Id Zw co7) 3) (bN9 Id OT))))))
def zd:fR:=Zj 8 Qdl
abbrev gA:Stmt:=top 14
def Qgf:aG:=QT (ù 4 zd 0 (Ç 1 (Ĺ (ZO Qj) (ZO Qj))))
def VJ:fR:=Zj 2 Qgf
abbrev GZ:Stmt:=top 12
def Qdm:aG:=bn 2 bN8 3 (ù 2 X5 2 fy) (ϕ (aS0 (Qh eE io (ù 2 ZP 2 fy)) iN) (ŷ bF cx1 3))
def Xq:fR:=Zj 4 Qdm
abbrev jR:Stmt:=cc4 8
def KI:aG:=AH (OM AV (ck8 Xq 2)) (eT (Æ V5 bL2 ī) (Z7 (tq bt5 3 JJ FF (nB 1 (ck8 VJ 2)))) ZD) (ϕ (OM F7 aO2) (L5 N3 (nB 1 bL2)))
def YB:fR:=Zj 3 KI
abbrev UQ:Stmt:=cu3 3
def Qa6:aG:=cK4 (GO Ü Fy VL Ë Ÿ) (OH Ā Xp al6 fy) (Ò XO (sR Z2 al6) 1)
def JR:fR:=Zj 2 Qa6
abbrev WQ:Stmt:=top 48
def QhQ:aG:=bn 2 (ax1 0) 3 bN8 (bn 4 cx1 5 (Ò pZ (ŭ ye 3) 2) (bn 6 (ŷ bF io 5) 7 (cL (br7 eE 2 0) Id (ax4 5)) (bn 8 (ZO (bZ6 2 (bH io Zw (Ze Id)) (Qc (bH dd Zw (Ze OT)) (Ç 6 fy)))) 9 (ZO (bZ6 2 (bN9 io OT) (B6 (bN9 dd OT) (ax1 3) (ax1 4)))) (QT (ZO (Ç 8 (cP5 9 6)))))))
def yp:fR:=Zj 10 QhQ
abbrev Vj:Stmt:=cu3 7
def gW:aG:=QT (ŀ Ü Pw)
def J3:fR:=Zj 1 gW
abbrev gv:Stmt:=top 47
def Qga:aG:=QT (Qh dD (sR ye bN8) Ġ)
def Yt:fR:=Zj 2 Qga
abbrev xG:Stmt:=cc4 12
def vH:aG:=Qs (br9 (aO3 (cj5 Yt 2 (ba6 FT J3 FF))) (cK4 (Z7 (tq bt5 3 JJ FF (Ç 1 ww))) (OM F7 aO2) iN)) (ö 3 (cj5 yp 2 (ba6 lT Xd FF)) (AH (OM zu (tq "lay" 2 JR FF (é (bp 3 1)))) (Z7 (tq bt5 3 JJ FF (nB 1 (bw1 3)))) (AH (OM "aim" (bp 3 2)) (OM cp8 (Ò Q7 bw3 1)) (ϕ (OM i9 (JC ss yY as6 (é CL))) (ţ zu)))))
def X4:fR:=Zj 4 vH
abbrev UZ:Stmt:=top 13
def Qbd:aG:=QT (ù 4 zd 0 (Ç 1 (Ĺ (ZO fy) (ZO ww))))
def jp:fR:=Zj 3 Qbd
abbrev zW:Stmt:=cc4 7
def Ka:aG:=Qs (OM AV (ck8 Xq 2)) (ö 3 (Zd ã bX8 3 X4 Ë (nB 1 (ù 3 jp 2 (Ĺ or (cD8 2))))) (QT (L5 tI (bZ6 1 bL2 aA8))))
def Yf:fR:=Zj 4 Ka
abbrev Y7:Stmt:=cc4 6
def yv:aG:=cK4 (OM AV (ck8 Xq 2)) (OM F7 aO2) (L5 "found" (nB 1 bL2))
def Xy:fR:=Zj 3 yv
abbrev jS:Stmt:=cc4 5
def KJ:aG:=ö 3 (cD8 0) (AH (cW2 io t9 (Zd ã bc2 3 Xy Ë (Ç 1 ww))) (cW2 io tI (Zd ã bQ6 3 Yf Ë (Ç 1 ww))) (ϕ (cW2 io N3 (Zd ã cq0 3 YB Ë (Ç 1 ww))) (Zd ã bc3 3 Xz Ë (Ç 1 ww))))
def YC:fR:=Zj 4 KJ
abbrev GX:Stmt:=top 15
def Qdk:aG:=bn 3 bN8 4 cx1 (bn 5 (ù 2 ZP 3 fy) 6 (ax4 5) (QT (ù 3 qZ 0 (Ĺ (IJ (IJ (bH io Zw (Ze Id)) (ZO fy)) (bN9 io Id)) (IJ (IJ (bH dd Zw co7) (ZO ww)) (bN9 dd LV))))))
def zc:fR:=Zj 7 Qdk
abbrev qM:Stmt:=cc4 10
def VO:aG:=ö 3 (Zd ã bX8 3 X4 Ë (nB 1 (ù 3 zc 2 (Ĺ or (ţ zu))))) (QT (L5 bQ5 (Ç 1 aA8)))
def XT:fR:=Zj 4 VO
abbrev Vl:Stmt:=cc4 4
def gY:aG:=ϕ (OM i9 io) (ZO (Ç 1 (Ç 2 aA8)))
def J4:fR:=Zj 4 gY
abbrev gw:Stmt:=top 11
def Qgb:aG:=QT (Qh bF cx1 (Qx 2 ZP (Qc bN8 fy)))
def qy:fR:=Zj 2 Qgb
abbrev WY:Stmt:=top 10
def QhL:aG:=ö 2 (ax1 3) (QT (jB (Æ V5 Ŏ ī) (Qh n8 Ġ Ŏ)))
def qx:fR:=Zj 3 QhL
abbrev YV:Stmt:=cu3 6
def xS:aG:=Qs (Z7 (tq Ll 2 ZK Ë ww)) (ö 3 (Ò Q7 (bL5 al6 (ŀ Ü bi3) 0) 1) (ϕ (CY Ü bi3 (tq "lay" 2 JR Ë (é (ZO (bZ6 3 (ZO fy) (B6 (rO (ŀ Ü bi3) ww) iN iN)))))) (ŀ Ü bi3)))
def Jz:fR:=Zj 4 xS
abbrev XN:Stmt:=cc4 11
def zi:aG:=ϕ (OM F7 aO2) (L5 "raised" (nB 1 (tq bc5 3 Jz FF (Ĺ or (ţ zu)))))
def Ja:fR:=Zj 2 zi
abbrev Vi:Stmt:=cu3 1
def gT:aG:=cK4 (Z7 (tq Ll 2 ZK Ë fy)) (GO Ü LX VL Ë Ÿ) (NO al6 Ġ)
def Xx:fR:=Zj 2 gT
abbrev US:Stmt:=cc4 3
def Qa8:aG:=Qs (aS0 ct3 iN) (bn 1 (cL ce1 (bD4 FF) ak9) 2 (tq aP3 2 Xx FF fy) (AH (br9 (Yh ce1 (E4 cU bw3 CL)) (QT (Zd ã Tl 2 Ja Ë fy))) (aS0 (ck8 qx 2) (Zd ã bs9 4 J4 Ë (Qc (q0 "side") (nB 1 (bp 2 4))))) (cK4 (eT (Qh dD bw3 CL) (ϕ (zG Ġ (d9 as6 bw3)) (Zd ã bs9 4 J4 Ë (Qc (q0 "down") (nB 1 (ck8 qy 2))))) ZD) (aS0 (Ò dD CL 0) (Zd ã bt0 3 XT Ë (Ç 1 ww))) (Zd ã cp9 3 YC Ë (Ç 1 ww)))))
def jm:fR:=Zj 3 Qa8
abbrev UR:Stmt:=cc4 1
def Qa7:aG:=QT ct3
def ji:fR:=Zj 1 Qa7
abbrev zV:Stmt:=cc4 0
def U9:aG:=AH (OM ό Ġ) (OM zg Ŏ) (AH (OM "aim" (bp 2 1)) (OM cp8 kw) (AH (OM i9 iN) (OM cN5 xV) (AH (OM zu iN) (OM AV iN) (Qs (OM ao4 ar4) (OM F7 aB2)))))
def Xj:fR:=Zj 3 U9
abbrev Vq:Stmt:=top 59
def jK:aG:=Qs (aS0 (Zd ã "over" 1 ji Ŏ Qj) Ŏ) (Z7 (Zd ã "step" 1 jm Ŏ Qj))
def js:aG:=co4 (Gj (é (IJ am4 (co1 (ì 4) (ba6 lT Xd Ë))))) 3 jK
def ki:aG:=ö 2 (K4 ã 3 Xj (Ç 0 fy)) (ϕ js iN)
def qX:fR:=Zj 4 ki
abbrev UX:Stmt:=top 53
def Qbb:aG:=ö 2 (Ò Q7 (IJ (IJ (ax0 Z4 eJ) (co1 Ġ Ġ)) (co1 ca3 Ġ)) 11) (QT (Ò pZ (Ò Z4 (co1 (Ò Z4 (co1 Ŏ Ŏ) eJ) (IJ Ŏ (co1 (ì 7) Ġ))) eJ) 9))
def Qy:fR:=Zj 3 Qbb
abbrev gz:Stmt:=top 56
def Qge:aG:=ö 2 (cT3 XO (md Z4 (cT3 Q7 (ax0 J8 7)) Q7 (cT3 J8 am4) 1)) (ϕ (br9 (Yh (E4 mH Ġ aB4) (eB (cd6 dD 2 0 20 5 0))) (QI 2 (IJ (Qh bF Ġ (Qh Z4 (CC 2 0 21) (ŭ ye 1))) (md bF (Xg (Qc kw (B6 kw Ÿ aB5))) Z4 (CC 2 0 22) 4)))) (co6 m_ (xp (Ò JY dz 30)) (QY vV (Qc (Ò JY dz 30) ww))))
def Yu:fR:=Zj 3 Qge
abbrev GQ:Stmt:=top 57
def Qde:aG:=bn 2 (ù 2 Yu 0 fy) 3 (cd5 2 0 23 7) (AH (cF3 cU 3 2 (L5 t9 ww)) (cF3 cU 3 4 (L5 tI (nB 2 (cd6 XO 2 0 24 100 50)))) (Qs (cF3 cU 3 6 (L5 N3 ww)) (bn 4 (QY vV (nB 2 (Ò XO (Ò JY dz 30) 1))) 5 (co6 m_ aS8 (Qx 2 Yu (Qc (ax0 Q7 1) fy))) (ϕ (eT (cd6 eE 2 0 25 3 0) (QI 5 (co6 vV (Ò JY dz 30) (md Q7 aS8 Z4 (CC 2 0 26) 30))) ZD) (L5 fF (Ç 4 bv1))))))
def xN:fR:=Zj 6 Qde
abbrev WW:Stmt:=top 31
def QhN:aG:=QT (Qx 2 Z0 (Ĺ (ba6 aQ1 Jl Ë) bD5))
def KD:fR:=Zj 1 QhN
abbrev Y6:Stmt:=cu3 5
def yu:aG:=Qs (Z7 (tq Ll 2 ZK Ë fy)) (CY Ü bi3 Ġ)
def Xw:fR:=Zj 2 yu
abbrev qK:Stmt:=cu3 0
def VM:aG:=AH (CY Ü Pw Ġ) (CY Ü "kept" (YJ (é (eC (ñ [È 0,bK8,bK8,ī,ī]))))) (AH (CY Ü bi3 kw) (CY Ü LX kw) (CY Ü Fy kw))
def J1:fR:=Zj 2 VM
abbrev GU:Stmt:=top 29
def zx:aG:=Z7 (tq "lay" 2 JR Ŏ aA8)
def gM:aG:=qJ (cW (oG Ë (Ze Ÿ) Zw)) (gN 3) zx
def Qdh:aG:=ö 2 (K4 Ü 2 J1 fy) (AH (Z7 (tq bt5 3 JJ Ŏ (Ĺ kw am8))) gM (ϕ (Z7 (tq bt6 2 Xw Ŏ (é (Ò XO bC1 1)))) Ŏ))
def xP:fR:=Zj 4 Qdh
abbrev WT:Stmt:=top 28
def yb:aG:=bn 5 aS8 6 (Qh cP Id (wS 1)) (bn 7 (cL (eB LV) iN (cV6 5 0)) 8 (cL (eB LV) iN (ŷ Q7 Ŏ 5)) (ck7 Xp io (ZO (bZ6 0 (cV6 4 1) (Qc (cV6 4 2) (cP5 7 8))))))
def Qc4:aG:=co4 (Gj (é (wS 1))) 4 yb
def QhO:aG:=ö 3 ar4 (ϕ Qc4 io)
def jo:fR:=Zj 9 QhO
abbrev Vo:Stmt:=top 27
def yy:aG:=bn 2 (Qh CW (Xg fy) (Qh pZ Ë Ġ)) 3 (Qh Z4 Ë Ġ) (ϕ (cF3 eE 3 1 (IJ (bH Ŏ Zw cB6) (Xg (Ĺ (ò XO 1 1) am4)))) (cL (br7 dD 3 0) (IJ Ŏ bG7) Ŏ))
def Yo:fR:=Zj 4 yy
abbrev Vm:Stmt:=top 26
def Kz:aJ:=bo1 (cW (aG9 Ë dd co7)) [] nA am8
def YL:aG:=bn 6 (ŷ Q7 dd 5) 7 Kz (Qs (v8 3 (rO (bw1 7) (Ĺ (sR Uq (bN9 OT Ÿ)) (wN (Ĺ (ŷ Q7 Ġ 4) (ŷ Q7 Ġ 6)))))) (QI 4 LV))
def KE:aG:=qJ (cW (Qx 2 Yo (Qc bC1 ww))) (gN 5) YL
def gZ:aG:=Qs (v7 3) (ö 4 kw (Qs KE (Kh 3 (QT io))))
def Yn:fR:=Zj 8 gZ
abbrev Vr:Stmt:=top 25
def jh:aJ:=bo1 (cW dd) [] nA al3
def KA:aJ:=bo1 (cW dd) [] nA am8
def YN:aG:=bn 4 (oG Ë (Ze io) (Ze (IJ io Ġ))) 5 (sR Uq KA) (v8 2 (rO (bw1 5) (nB 5 (sR Uq jh))))
def jt:aG:=co4 (Dg (Qc kw (Qc bC1 fy))) 3 YN
def kj:aG:=AH (br9 (qk (zZ Ë)) (QT (Xg (é (rO iN (Ĺ (ZO Qj) (ZO Qj))))))) (v7 2) (Qs jt (Kh 2 (QT Ŏ)))
def qY:fR:=Zj 6 kj
abbrev WR:Stmt:=top 24
def yc:aG:=Qs (CZ 2 VL Ÿ) (ö 3 (ù 3 Yn 3 (Ĺ (Qh XO (wS 4) (wS 3)) cx2)) (ck7 JD dd (ù 3 jo 2 (nB 3 (wS 4)))))
def xR:aG:=J0 (eB (Ò dD (wS 3) 1)) yc Ņ
def QhP:aG:=bn 2 kw 3 (ù 2 qY 0 fy) (ö 4 (ù 3 jo 2 (nB 3 kw)) (ϕ xR (ù 2 xP 4 fy)))
def yo:fR:=Zj 5 QhP
abbrev GR:Stmt:=top 54
def Qdf:aG:=ö 2 (cd5 2 0 2 4) (AH (cF3 eE 2 0 (cd5 2 0 3 10)) (cF3 eE 2 1 (co6 vV (ì 240) (IJ (co1 (co1 Ġ cx2) (md Q7 Ÿ Z4 (CC 2 0 3) 3)) (co1 (cd5 2 0 4 3) Ġ)))) (ϕ (cF3 eE 2 2 (co6 vV (ì 240) (IJ (co1 (co1 Ġ cx2) cx2) (md Z4 (CC 2 0 4) Q7 (co1 am4 Ġ) 1)))) (cd5 2 0 3 200)))
def xO:fR:=Zj 3 Qdf
abbrev xI:Stmt:=top 52
def qi:aG:=ϕ (aS0 (Qh cU Ġ (ŭ ye 0)) (Qh bF Ë Ġ)) kw
def Zh:fR:=Zj 2 qi
abbrev UY:Stmt:=top 55
def qq:aG:=bn 6 (ŷ Q7 (cX8 0 (Qh Z4 Id (co6 m_ Ÿ (ŭ ye 0)))) 5) 7 (cd6 XO 2 6 7 9 4) (AH (eT (cd6 eE 2 6 8 3 0) (QI 7 (cT3 XO (md Z4 (cT3 Q7 (ò J8 6 13)) Q7 (cT3 J8 am4) 1))) ZD) (v8 4 (ZO (cP5 2 7))) (QI 2 (IJ (ax4 2) (co1 (Qh Z4 (CC 2 6 9) (ŷ bF (Xg (B6 Ÿ ca3 (cT2 J8 (ì 8) 7))) 3)) (ŷ bF (Xg (B6 Ÿ Ÿ (Ò JY dz 19))) 3)))))
def xA:aG:=co4 (Gj fy) 5 qq
def Qbc:aG:=bn 2 (Ò XO (Ò Z4 (Qx 2 Qy (cY0 0 Ÿ 5)) 40) 30) 3 (Ò Z4 (Qx 2 Qy (cY0 0 Ÿ 6)) 3) (AH (eT (ò eE 3 2) (QI 2 (cT3 XO (Qx 2 Qy (cY0 0 Ÿ 5)))) ZD) (v7 4) (Qs xA (Kh 4 (QT dd))))
def jn:fR:=Zj 8 Qbc
abbrev UW:Stmt:=top 60
def Mu:aG:=bn 8 (cj5 xN 1 (ŭ wJ 5)) 7 (kE OT (cG1 (bw1 8) tI)) (bn 9 (ba6 aA6 J2 dd) 10 (ù 2 qX 4 (Đ 8)) (Qs (br9 (iQ (ce0 (Qb 10)) (E4 eN (Zd ã "answer" 1 JK (Qb 10) Qj) (ù 2 VI 8 bv1))) aG6) (br9 (Yh (N0 cP (bw1 8) (Ϩ t9)) (Yh (aO3 OT) (eB (ŷ dD (ŷ XO (ba6 aA6 J2 dd) 9) 6)))) aG6)))
def Qko:aG:=qJ (cW (bH Ë Zw (Ze (ì 40)))) (gN 1) Mu
def Qog:aG:=bn 1 (eh 2 Zh 0 0) 2 (md Q7 am4 Z4 (cj5 Qy 1 Ÿ) 7) (bn 3 (cj5 jn 0 (ù 2 xO 1 ww)) 4 (Qx 2 yo (Qc (ŭ Ip 3) ww)) (ö 5 (ŭ Ii 3) (bn 6 (sR Z2 (ù 1 KD 4 Qj)) 7 aB2 (ϕ Qko (jB (Æ isD (ù 1 qW 4 Qj) ο) (jB (Qh cP (ù 1 yq 4 Qj) aB4) (Qh cP (ù 1 q8 4 Qj) (K5 Id))))))))
def wR:fR:=Zj 11 Qog
structure Al(K:Aa)(mg:Eu):Û where
 z0:aJ2 "len"
 z1:aJ2 Η
 z2:aJ2 "all"
 z3:aJ2 nP
 z4:aJ2 Ā
 z5:aJ2 IY
 z6:aJ2 ņ
 z7:aJ2 "max"
 z8:aJ2 "min"
 z9:aJ2 ss
 g0:UG mg "KEYS" 1
 g1:UG mg "PARTS" 2
 g2:UG mg "LEVEL" 0
 g3:UG mg "HIGH" 3
 g4:UG mg "SIDE" 4
 t0:UT K mg "EMPTY_LEAF" (ñ [È 0,bK8,bK8,ī,ī])
 k0:ze K Ü bi3
 k1:ze K Ü "kept"
 k2:ze K Ü LX
 k3:ze K ã AV
 k4:ze K ã zg
 k5:ze K ã ao4
 k6:ze K ã F7
 k7:ze K ã "aim"
 k8:ze K ã i9
 k9:ze K Ü Fy
 k10:ze K ã ό
 k11:ze K Ü Pw
 k12:ze K ã zu
 k13:ze K ã cN5
 k14:ze K ã cp8
 u0:F0 "kid_faults" Vp
 u1:F0 "wanted_parts" jT
 u2:F0 "is_ordered" Vn
 u3:F0 "page_faults" xL
 u4:F0 "begins_of" UU
 u5:F0 "list_faults" xK
 u6:UM K Ü ak6 "Shelf.root" Vk
 u7:F0 "first_kid" UV
 u8:F0 "side_run" GV
 u9:F0 "level_lists" xJ
 DZ:UM K Ü aQ1 "Shelf.picture" zU
 DU:F0 "faults" WX
 DM:F0 "is_sound" GP
 DL:F0 "kids_of" gx
 DJ:F0 "untold" WM
 DH:F0 "table_of" GW
 u16:UM K Ü aA6 "Shelf.readings" qL
 DF:UM K ã "answer" "Walk.answer" xF
 DD:F0 "_law_due" gy
 DC:UM K Ü lT "Shelf.pages" xD
 DB:UM K ã bc3 "Walk.read_pairs" Y8
 Dx:UM K Ü Ll "Shelf.check_number" Yc
 Dp:UM K Ü bt5 "Shelf.write" xE
 Do:F0 "refilled" GT
 De:F0 "count_not_above" Y9
 Db:F0 "count_below" xH
 BY:F0 "with_run" GY
 BV:F0 "without" gA
 BU:F0 "worth_of" GZ
 BT:UM K ã cq0 "Walk.cut_key" jR
 BS:UM K Ü "lay" "Shelf.lay" UQ
 BQ:F0 "parted" WQ
 u32:UM K Ü FT "Shelf.room" Vj
 BO:F0 "is_full" gv
 BN:UM K ã bX8 "Walk.settle" xG
 BM:F0 "with_pair" UZ
 BI:UM K ã bQ6 "Walk.put_pair" zW
 BH:UM K ã bc2 "Walk.find_worth" Y7
 BG:UM K ã cp9 "Walk.do_deed" jS
 BF:F0 "with_kid" GX
 BE:UM K ã bt0 "Walk.tell_fork" qM
 BD:UM K ã bs9 "Walk.go_on" Vl
 BC:F0 "kid_for" gw
 BB:F0 "beyond" WY
 BA:UM K Ü bc5 "Shelf.raise_root" YV
 HZ:UM K ã Tl "Walk.raise_root_over" XN
 HV:UM K Ü aP3 "Shelf.read" Vi
 HU:UM K ã "step" "Walk.step" US
 HR:UM K ã "over" "Walk.over" UR
 HQ:UI K mg ã "Walk.__init__" zV
 HP:F0 "_law_walked" Vq
 HM:F0 "_law_churn" UX
 HL:F0 "_law_key" gz
 HK:F0 "_law_deed" GQ
 HI:F0 "levels" WW
 HG:UM K Ü bt6 "Shelf.make_root" Y6
 HE:UI K mg Ü "Shelf.__init__" qK
 HC:F0 "shelf_of" GU
 HA:F0 "linked" WT
 Hn:F0 "kid_counts" Vo
 Hm:F0 "fork_fills" Vm
 Hk:F0 "leaf_fills" Vr
 He:F0 "packed" WR
 Hd:F0 "_law_size" GR
 u64:F0 "_law_cell_at" xI
 Hc:F0 "_law_table" UY
def ul:ğ [š, eY, aY2, cr0, bt7, "wanted", bQ5, i9, "kid"] [š, eY, aY2, cr0] Vp:=Q8
def Kk:ğ [eY] [eY] jT:=Q8
def uh:IC [eY, aY2, Lc, bQ8] eY aY2 Vn:=Q8
def vb:ğ [š, eY, ao8, aY2, "follower", bQ5] [š, eY, ao8, aY2, "follower"] xL:=Q8
def Qay:IC [lT, PD, "begins", aY2, š] lT PD UU:=Q8
def va:ğ [lT, PD, ao8, "beneath", "begins", cr0, bQ5, i9, š, eY, "follower"] [lT, PD, ao8, "beneath"] xK:=Q8
def ub:ğ [Χ] [Χ] Vk:=Q8
def Qaz:IC [lT, PD] lT PD UV:=Q8
def Qcw:bo7 [lT, "leftmost", "listed", PD, š] lT "leftmost" "listed" GV:=Q8
def G9:IC [lT, ak6, "lists", "listed", "leftmost", PD] lT ak6 xJ:=Q8
def Uj:ğ [Χ] [Χ] zU:=Q8
def Qhi:ğ [ό, lT, "lists", bQ5, i9, ao8, "beneath"] [ό] WX:=Q8
def Qcr:ğ [ό] [ό] GP:=Q8
def Qel:IC [lT, PD, bt7, š, "kid"] lT PD gx:=Q8
def Qhn:ğ [ό, lT, "lists", bQ5, i9, bt7] [ό] WM:=Q8
def Qcx:ğ [ό, lT, bt8, š] [ό] GW:=Q8
def Vt:ğ [Χ] [Χ] qL:=Q8
def G3:ğ [Χ] [Χ] xF:=Q8
def Qem:IC [zg, bY3, "old"] zg bY3 gy:=Q8
def G0:ğ [Χ] [Χ] xD:=Q8
def yk:bo7 [Χ, š, bc6, "low", bQ8, ao4] Χ š bc6 Y8:=Q8
def jd:IC [Χ, š] Χ š Yc:=Q8
def G1:bo7 [Χ, š, eY] Χ š eY xE:=Q8
def Qcu:bo7 [eY, Lc, "parts"] eY Lc "parts" GT:=Q8
def ym:IC [Lc, F8] Lc F8 Y9:=Q8
def G7:IC [Lc, F8] Lc F8 xH:=Q8
def Qcz:ğ [eY, F8, "new_keys", "new_worths", Lc, bY3, "start", "stop"] [eY, F8, "new_keys", "new_worths"] GY:=Q8
def Qeo:IC [eY, F8] eY F8 gA:=Q8
def QcA:IC [eY, F8, Lc, i9] eY F8 GZ:=Q8
def Ki:bo7 [Χ, š, bc6] Χ š bc6 jR:=Q8
def Qav:IC [Χ, eY] Χ eY UQ:=Q8
def Qhm:IC [eY, š, ao8, Lc, "parts", "middle", F8, N3, "old", "new"] eY š WQ:=Q8
def ua:ğ [Χ] [Χ] Vj:=Q8
def Qej:IC [eY, FT] eY FT gv:=Q8
def G4:bo7 [Χ, š, eY, "halves"] Χ š eY xG:=Q8
def QaC:bo7 [eY, F8, AV] eY F8 AV UZ:=Q8
def Ul:bo7 [Χ, š, bc6, zu] Χ š bc6 zW:=Q8
def yj:bo7 [Χ, š, bc6] Χ š bc6 Y7:=Q8
def Kj:bo7 [Χ, š, bc6, "word"] Χ š bc6 jS:=Q8
def Qcy:bo7 [eY, F8, "kid", Lc, bt7, i9, "behind"] eY F8 "kid" GX:=Q8
def Vu:bo7 [Χ, š, "fork", zu] Χ š "fork" qM:=Q8
def ud:ğ [Χ, "word", š, "to"] [Χ, "word", š, "to"] Vl:=Q8
def Qek:IC [eY, F8] eY F8 gw:=Q8
def Qhh:IC [eY, F8, bQ8] eY F8 WY:=Q8
def xw:bo7 [Χ, F8, š, ao8] Χ F8 š YV:=Q8
def qN:IC [Χ, š] Χ š XN:=Q8
def v9:IC [Χ, š] Χ š Vi:=Q8
def Qax:ğ [Χ, š, eY] [Χ] US:=Q8
def Qaw:ğ [Χ] [Χ] UR:=Q8
def Uk:bo7 [Χ, ό, zg] Χ ό zg zV:=Q8
def uo:IC [ό, zg, "walk", "k"] ό zg Vq:=Q8
def QaA:IC [bc7, "turn", š] bc7 "turn" UX:=Q8
def Qen:IC [bc7, Lc, F8] bc7 Lc gz:=Q8
def Qcs:IC [bc7, Lc, F8, "kind", "low", bQ8] bc7 Lc GQ:=Q8
def Qhj:ğ [ό] [ό] WW:=Q8
def yi:IC [Χ, š] Χ š Y6:=Q8
def Vs:IC [Χ, FT] Χ FT qK:=Q8
def Qcv:IC [lT, FT, ό, eY] lT FT GU:=Q8
def Qhk:bo7 [ao8, cO3, "first", lT, i9, "behind", "is_last", bQ8, "side"] ao8 cO3 "first" WT:=Q8
def uj:IC [bt7, "most", "counts", "rest"] bt7 "most" Vo:=Q8
def ue:bo7 [bt7, "first", "most", cO3, "start", "count", "stop", "begins"] bt7 "first" "most" Vm:=Q8
def ur:IC [bt8, FT, cO3, "start", ao4, Lc] bt8 FT Vr:=Q8
def Qhl:IC [bt8, FT, ao8, cO3, lT] bt8 FT WR:=Q8
def Qct:IC [bc7, FT, "kind"] bc7 FT GR:=Q8
def G8:IC [N4, "k"] N4 "k" xI:=Q8
def QaB:IC [N4, "size", F8, "wide", bt8, "k", bc7, AV] N4 "size" UY:=Q8
def lJ:ğ [N4, bc7, FT, bt8, ό, bY3, bQ8, tI, zg, aA6, "walk"] [N4] UW:=Q8
section
variable{P:Program}{w:World}{K:Aa}{mg:Eu}{O8:Heap}(Z:Al K mg)
include Z
def Gf:TN "kid_faults" 1 4 Yp:=On Z.u0 ul (ϔ 4 (cu2 ő) (dL 5 (F9 (Zm AS) (cS6 ő)) 6 as0 (Ϥ (om rfl (Yx rfl Z.z1 (ě (LH (Ŀ 4)))) (JB 7 s) (ϔ 8 (ϫ dQ ai6) (Qo (mm (DW.pt (uM (fN Ia ai6 (LH aU8)) (uM (QW (Ma aI5) bY5 ag í) (K1 (fN ae4 (ϫ ag bY5) (ϫ tr ai6)))))) (O0 (ϛ XH P1 (ě (bl8 (Ï 0 (Ŀ 7)))))))))) P1)))
def V3:TN "wanted_parts" 1 1 YD:=bN4 Z.u1 Kk (Uv (fN hZ (bw4 à) Qm) (bm4 (cS6 à)) (ay5 (bm4 (cS6 à))))
def Gd:TN "is_ordered" 1 2 qV:=bm6 Z.u2 uh 2 (cS6 à) 3 (cS7 à) (si (mo (bY6 (Zf (Lb rfl) Z.z2 boot_all (ě (ak7 [] idx [] ⟨í,ā,rfl,ā,rfl,ac8,í,ac8,Á⟩ rfl (uN (Wl ϱ (Θ Z.z3) ŝ (Ya ŝ (Z1 Qm) Jn))) bL6 (dt (cO4 Vb NS NS)))))) YG) (bp0 (jA (fN wO ő ZJ) (j8 (bY6 (Zf (Lb rfl) Z.z2 boot_all (ě (ak7 [aY2] idx [1] ⟨í,ā,rfl,ā,rfl,Θ aa6,í,Θ (cW4 rfl ı aU3 h h),Á⟩ rfl (uN (KR ŝ)) bL6 (dt (cO4 rC ő à)))))))) YG) (Ϥ (bp0 (jA (fN wO ag ZJ) (j8 (bY6 (Zf (Lb rfl) Z.z2 boot_all (ě (ak7 [bQ8] idx [3] ⟨í,ā,rfl,ā,rfl,Θ aa6,í,Θ (cW4 rfl ı aU3 h h),Á⟩ rfl (uN (KR ŝ)) bL6 (dt (cO4 Vb à ő)))))))) YG) (Lg (cO4 m5 ő ZJ) (Lg (cO4 m5 ag ZJ) (kC (cO4 Vb ő ag))))))
def Kf:TN "page_faults" 2 5 Xe:=On Z.u3 vb (ϔ 5 as0 (si (cT7 ae4 (bw4 ő) ŝ (O0 (ϛ XH tr cD5))) (mm (bY6 (cj9 (Gd Z) 1 as5)) (O0 (ϛ XH tr cD5))) (Qf (cT7 ae4 (bm4 (cu2 ő)) (cj9 (V3 Z) 1 Qi) (O0 (ϛ XH tr cD5))) (Ϥ (mm (DW.pt (uM (fN ae4 (cO4 m5 (cS7 ő) ZJ) (cO4 m5 (eL ő Z.g4) ZJ)) (K1 (fN ae4 (eL ő Z.g4) dQ)))) (O0 (ϛ XH tr cD5))) tr))))
def xB:TN "begins_of" 1 2 YY:=bm6 Z.u4 Qay 2 yC 3 ZJ (Ϥ (aa8 rfl (XE ő) (JB 4 s) (bY4 (VW ag (VU aI5 ŝ dQ)) (Qu 3 s (cS7 (ϫ à dQ))))) ŝ)
def Ke:TN "list_faults" 3 4 qg:=bm6 Z.u5 va 4 (cj9 (xB Z) 0 i3) 5 (cj9 (xB Z) 0 as5) (cu1 6 as0 (om rfl (Yx rfl Z.z1 (ě (LH i3))) (JB 7 s) (dL 8 (ϫ ő ai6) 9 (ϫ à bY5) (ϔ 10 (Uv (fN Vb (ay5 ai6) (LH i3)) (ϫ ő (ay5 ai6)) ZJ) (bY4 (Zu (ic YQ P1 (ě (cj9 (Kf Z) 8 (Ï 9 (cP9 2 (ϫ dQ bY5) (Ŀ 10))))))) (cT7 m7 ŝ Qm (O0 (ic YQ P1 (ě (cj9 (Gf Z) 8 (cP9 9 (ϫ dQ bY5) aU8)))))))))) P1)
def JW:XU P w K mg O8 Ü ak6 1 1 ZG:=wb Z.u6 ub a (ĉ cb7)
def vR:TN "first_kid" 1 2 X8:=On Z.u7 Qaz (Ϥ (bp0 (uM (YI (Lk ő)) (K1 (YI (Lk (cu2 (ϫ à (sF ő))))))) ZJ) (sF (cu2 (ϫ à (sF ő)))))
def kM:TN "side_run" 1 3 xQ:=bm6 Z.u8 Qcw 3 as0 4 ő (Ϥ (K0 Ņ PassesOwn.never (DW.pt (jA (fN wO dQ ZJ) (jA (yF rC Vb Qm dQ cE6) (j8 (QW (Ma aI5) dQ ŝ í))))) (si (VW YG (VU aI5 ŝ dQ)) (Zu (ϛ XH ag (Ŀ 4))) (Qo (Qu 4 s (eL (ϫ à dQ) Z.g4))))) ag)
def Xn:TN "level_lists" 2 2 Z0:=bm6 Z.u9 G9 2 as0 3 yC (cu1 4 ő (K0 Ņ PassesOwn.never (fN rC (LH AS) (bw4 (ϫ à ő))) (ϔ 5 (cj9 (kM Z) 0 (Ï 4 as5)) (bY4 (Zu (ϛ XH ŝ aU8)) (Qu 4 s (cj9 (vR Z) 0 aU8))))) ŝ)
def JN:XU P w K mg O8 Ü aQ1 1 1 Jl:=wb Z.DZ Uj a (ĉ (yD R5 Z.z4 boot_list (ě aj0)))
def QdH:TN "faults" 4 1 KC:=bm6 Z.DU Qhi 1 (Z3 (JN Z) a Á QD à) 2 (cS (Xn Z) a 1 (Z3 (JW Z) a Á QD à)) (cu1 3 as0 (om rfl (Yx rfl Z.z1 (ě (LH AS))) (JB 4 s) (dL 5 (Qr YS (ϊ YS (LH AS)) dQ) 6 (Uv (fN m7 tr Qm) (ϫ ŝ cF0) (YH Qi)) (O0 (ic YQ ag (ě (cj9 (Ke Z) 1 (Qd (ϫ ŝ dQ) (Ï 5 (Ŀ 6))))))))) ag)
def kH:TN "is_sound" 5 1 qW:=bN4 Z.DM Qcr (cO4 hZ (cj9 (QdH Z) 0 Qi) (YH Qi))
def QbM:TN "kids_of" 1 2 jV:=On Z.DL Qel (cu1 2 yC (aa8 rfl (XE ő) (JB 3 s) (Qo (om rfl (KR (cu2 (ϫ à ag))) (JB 4 s) (Qo (VW YG (VU aI5 ŝ dQ)))))) ŝ)
def QdL:TN "untold" 3 1 yq:=bm6 Z.DJ Qhn 1 (Z3 (JN Z) a Á QD à) 2 (cS (Xn Z) a 1 (Z3 (JW Z) a Á QD à)) (cu1 3 as0 (om rfl (Qgs rfl Z.z1 (dS Qm (LH AS))) (JB 4 s) (ϔ 5 (cS (QbM Z) a 1 (ϫ ŝ (ϊ YS dQ))) (O0 (ic YQ ag (ě (ak7 [bt7] idx [5] ⟨í,ā,rfl,ā,rfl,Θ aa6,í,Θ (cW4 rfl ı aU3 h h),Á⟩ rfl (XE (ϫ ŝ dQ)) (dt (yG (QW (Ma aI5) à ő í))) (dt à))))))) ag)
def kN:TN "table_of" 3 1 q8:=bm6 Z.DH Qcx 1 (Z3 (JN Z) a Á QD à) 2 as0 (Ϥ (aa8 rfl (XE (ϫ (cS (Xn Z) a 1 (Z3 (JW Z) a Á QD à)) (kB Qm))) (JB 3 s) (O0 (ic YQ ŝ (ě (QkG Z.z4 Z.z3 rfl (cS6 (ϫ ő ag)) (cu2 (ϫ ő ag))))))) ŝ)
def YK:XU P w K mg O8 Ü aA6 1 1 J2:=wb Z.u16 Vt a (ĉ (Ϫ Z.k2))
def Kc:XU P w K mg O8 ã "answer" 1 1 JK:=wb Z.DF G3 a (Qf (mo (bY6 (Ϫ Z.k6)) ZJ) (Ϥ (at0 hZ bM4 ZZ (yD Qky Z.z4 boot_list (ě (Ϫ Z.k5)))) bl3))
def QbN:TN "_law_due" 1 2 VI:=On Z.DD Qem (Qf (at0 hZ NS ZZ (ak7 [bY3, zg] idx [1,0] ⟨í,ā,rfl,ā,rfl,Θ (Ť aa6),í,Θ ⟨rfl,ı,aU3,bT6 h h,cW4 rfl ı aU3 h h⟩,Á⟩ rfl (XE (Zf (uD rfl) Z.z5 boot_sorted i3)) (dt (yG (yF rC Vb (sF ŝ) à (sF ŝ)))) (dt (Zm (Tu 0 (ϫ ő à)))))) (ϔ 2 (bI9 (RV aI5) PySem.F.slot_dict_get PySem.F.type_dict_get ő (ě NS)) (Qf (cT7 hZ NS ZZ (Qo (VW NS (VU aI5 ő NS)))) (Ϥ (cT7 hZ NS ZZ (O0 (bI9 Qnb PySem.F.slot_dict_pop PySem.F.type_dict_pop ő (dS NS Qm)))) ŝ))))
def zP:XU P w K mg O8 Ü lT 1 1 Xd:=wb Z.DC G0 a (ĉ (bm4 aj0))
def xt:XU P w K mg O8 ã bc3 1 3 Xz:=wb Z.DB yk a (dL 3 bM4 4 bM4 (si (WO 5 s (caps:=["low", bQ8]) (idx:=[3,4]) ⟨í,ā,rfl,ā,rfl,Θ (Ť aa6),í,Θ ⟨rfl,ı,aU3,bT6 h h,cW4 rfl ı aU3 h h⟩,Á⟩ rfl (uN (Wl ϱ (Θ Z.z3) (cS6 ŝ) (cu2 ŝ))) (dt (yG (yF rC Vb ő NS ŝ))) (dt à)) (Zu (ic YQ (Ϫ Z.k5) aU8)) (si (mm (DW.pt (uM (fN m5 (cS7 ŝ) ZJ) (K1 (fN Ia (cS7 ŝ) dQ)))) (Ϥ cU3 (bl8 (cP9 1 (bi4 jw Z.z6 aU8) (dS ZJ ZJ))))) (AW Z.k7 (cS7 ŝ)) (Ϥ (AW Z.k8 (eL ŝ Z.g4)) (bl8 (cP9 1 (bi4 jw Z.z6 aU8) (dS cb8 OL)))))))
def Jd:XU P w K mg O8 Ü Ll 1 2 ZK:=wb Z.Dx jd a (Qo (mm (YI (yF rC Vb Qm ő (bm4 aj0))) (Qo QkK)))
def Xm:XU P w K mg O8 Ü bt5 2 3 JJ:=wb Z.Dp G1 a (si (Zu (bi8 (Jd Z) i3)) (VX Z.k9 à Qm) (Qo (VW ŝ (VU aI5 aj0 ő))))
def yQ:TN "refilled" 1 3 qZ:=bN4 Z.Do Qcu (wv (aS4 Z.g2) (Ï 1 (Ï 2 (dS cW3 (aS4 Z.g4)))))
def Jr:TN "count_not_above" 1 2 ZP:=bN4 Z.De ym (bm4 (ak7 [F8] idx [1] ⟨í,ā,rfl,ā,rfl,Θ aa6,í,Θ (cW4 rfl ı aU3 h h),Á⟩ rfl (uN (KR à)) (dt (yG (fN rC à ő))) (dt à)))
def zR:TN "count_below" 1 2 X5:=bN4 Z.Db G7 (bm4 (ak7 [F8] idx [1] ⟨í,ā,rfl,ā,rfl,Θ aa6,í,Θ (cW4 rfl ı aU3 h h),Á⟩ rfl (uN (KR à)) (dt (yG (fN Vb à ő))) (dt à)))
def yR:TN "with_run" 2 4 zd:=bm6 Z.BY Qcz 4 aS5 5 aT4 (dL 6 (cj9 (zR Z) 4 i3) 7 (cj9 (Jr Z) 4 i3) (ĉ (cj9 (yQ Z) 0 (dS (F9 (F9 (Ya dQ Jn cr2) ŝ) (Ya dQ bJ0 Jn)) (F9 (F9 (Ya tr Jn cr2) ag) (Ya tr bJ0 Jn))))))
def QbO:TN "without" 3 2 VJ:=bN4 Z.BV Qeo (cj9 (yR Z) 0 (Ï 1 (dS (Zm Qi) (Zm Qi))))
def zt:TN "worth_of" 2 2 Xq:=bm6 Z.BU QcA 2 aS5 3 (cj9 (zR Z) 2 i3) (Ϥ (at0 Da ag (cj9 (Jr Z) 2 i3) ZJ) (Jw aT4 ag))
def V0:XU P w K mg O8 ã cq0 4 3 YB:=wb Z.BT Ki a (si (AW Z.k3 (cS (zt Z) a 2 OL)) (cT7 wO bl3 ZJ (O0 (bi7 (Xm Z) Op (Tu 1 (cS (QbO Z) a 2 OL))))) (Ϥ cU3 (bl8 (Tu 1 bl3))))
def qo:XU P w K mg O8 Ü "lay" 1 2 JR:=wb Z.BS Qav a (Qf (VX Z.k9 à Qm) (Ϥ (Zu (ϛ XH aj0 i3)) (ϊ YS (bm4 aj0))))
def QdK:TN "parted" 1 2 yp:=bm6 Z.BQ Qhm 2 (aS4 Z.g2) 3 aS5 (dL 4 aT4 5 (ϊ K_ (eR uC as5)) (dL 6 (Jw ag tr) 7 (Uv (fN Da ŝ Qm) tr (ay5 tr)) (dL 8 (Zm (cP9 2 (Ya ag Jn (Z1 tr)) (Qd (Ya dQ Jn bJ0) (Ï 6 i3)))) 9 (Zm (cP9 2 (Ya ag bJ0 Jn) (Qd (Ya dQ bJ0 Jn) (dS cW3 (aS4 Z.g4))))) (ĉ (Zm (Ï 8 (Ï 9 (Ŀ 6))))))))
def Gb:XU P w K mg O8 Ü FT 1 1 J3:=wb Z.u32 ua a (ĉ (Ϫ Z.k11))
def QbK:TN "is_full" 1 2 Yt:=bN4 Z.BO Qej (cO4 m7 (eR uC (ě aS5)) ő)
def zQ:XU P w K mg O8 ã bX8 3 3 X4:=wb Z.BN G4 a (Qf (mm (bY6 (cS (QbK Z) a 2 (Z3 (Gb Z) a Á QD Op))) (Qf (Zu (bi7 (Xm Z) Op (Ï 1 AS))) (Ϥ cU3 ZJ))) (ϔ 3 (cS (QdK Z) a 2 (Z3 (zP Z) a Á QD Op)) (si (AW Z.k12 (bi7 (qo Z) Op (ě (sF ag)))) (Zu (bi7 (Xm Z) Op (Tu 1 (sF ag)))) (si (AW Z.k7 (sF ag)) (AW Z.k14 (ay5 cG0)) (Ϥ (AW Z.k8 (bI9 (RV aI5) PySem.F.slot_dict_get PySem.F.type_dict_get (Ϫ Z.k13) (ě bB6))) cS0)))))
def vT:TN "with_pair" 3 3 jp:=bN4 Z.BM QaC (cj9 (yR Z) 0 (Ï 1 (dS (Zm i3) (Zm AS))))
def yP:XU P w K mg O8 ã bQ6 4 3 Yf:=wb Z.BI Ul a (Qf (AW Z.k3 (cS (zt Z) a 2 OL)) (ϔ 3 (bi8 (zQ Z) (Tu 1 (cj9 (vT Z) 2 (dS OL bM4)))) (ĉ (bl8 (cP9 1 bl3 as5)))))
def xr:XU P w K mg O8 ã bc2 3 3 Xy:=wb Z.BH yj a (Qf (AW Z.k3 (cS (zt Z) a 2 OL)) (Ϥ cU3 (bl8 (Tu 1 bl3))))
def V1:XU P w K mg O8 ã cp9 5 3 YC:=wb Z.BG Kj a (ϔ 3 bM4 (si (at0 hZ ag ZZ (bi8 (xr Z) (Ï 1 AS))) (at0 hZ ag ZZ (bi8 (yP Z) (Ï 1 AS))) (Ϥ (at0 hZ ag ZZ (bi8 (V0 Z) (Ï 1 AS))) (bi8 (xt Z) (Ï 1 AS)))))
def kO:TN "with_kid" 2 3 zc:=bm6 Z.BF Qcy 3 aS5 4 aT4 (dL 5 (cj9 (Jr Z) 3 i3) 6 (ay5 tr) (ĉ (cj9 (yQ Z) 0 (dS (F9 (F9 (Ya ag Jn (Z1 tr)) (Zm i3)) (Ya ag (Z1 tr) Jn)) (F9 (F9 (Ya dQ Jn cr2) (Zm AS)) (Ya dQ cr2 Jn))))))
def ya:XU P w K mg O8 ã bt0 4 3 XT:=wb Z.BE Vu a (ϔ 3 (bi8 (zQ Z) (Tu 1 (cj9 (kO Z) 2 (dS OL cS0)))) (ĉ (bl8 (Ï 1 as5))))
def jF:XU P w K mg O8 ã bs9 1 4 J4:=wb Z.BD ud a (Ϥ (AW Z.k8 ag) (Zm (Ï 1 (Ï 2 as5))))
def QbL:TN "kid_for" 2 2 qy:=bN4 Z.BC Qek (Jw aT4 (QA (Jr Z) a Á QD (Qd aS5 i3)))
def QdG:TN "beyond" 1 2 qx:=On Z.BB Qhh (ϔ 2 cW3 (ĉ (Ls (cO4 wO ŝ ZJ) (kC (cO4 Ia ő ŝ)))))
def jE:XU P w K mg O8 Ü bc5 2 3 Jz:=wb Z.BA xw a (Qf (Zu (bi8 (Jd Z) AS)) (cu1 3 (ay5 (bw4 (ϫ aj0 cb7))) (AW Z.k0 (bi8 (qo Z) (ě (Zm (cP9 3 (Zm i3) (Qd (wv cb7 AS) (dS ZJ ZJ))))))) cb7))
def qp:XU P w K mg O8 ã Tl 3 2 Ja:=wb Z.HZ qN a (Ϥ cU3 (bl8 (Tu 1 (bi7 (jE Z) Op (dS OL cS0)))))
def Ga:XU P w K mg O8 Ü aP3 2 2 Xx:=wb Z.HV v9 a (Qf (Zu (bi8 (Jd Z) i3)) (Ϥ (VX Z.k2 à Qm) (ϫ aj0 ő)))
def vQ:XU P w K mg O8 ã "step" 6 1 jm:=wb Z.HU Qax a (Qf (mo (Y0 (Ϫ Z.k6)) ZJ) (dL 1 (Uv (fN m5 cb8 ZJ) (Z3 (JW Z) a Á QD Op) cb8) 2 (bi7 (Ga Z) Op i3) (si (bp0 (jA (fN m5 cb8 ZJ) (j8 (fN Vb cG0 bB6))) (bi8 (qp Z) i3)) (mo (Y0 (cS (QdG Z) a 2 OL)) (bi8 (jF Z) (Qd ZZ (Tu 1 (eL ŝ Z.g4))))) (Qf (cT7 m7 cG0 bB6 (Ϥ (VW ő (VU aI5 (Ϫ Z.k13) cG0)) (bi8 (jF Z) (Qd ZZ (Tu 1 (cS (QbL Z) a 2 OL)))))) (Ϥ (at0 m7 bB6 Qm (bi8 (ya Z) (Ï 1 AS))) (bi8 (V1 Z) (Ï 1 AS)))))))
def vP:XU P w K mg O8 ã "over" 1 1 ji:=wb Z.HR Qaw a (ĉ (Ϫ Z.k6))
def yO:wF P w K mg O8 ã 1 3 Xj:=hI Z.HQ Uk (Þ a (si (AW Z.k10 ő) (AW Z.k4 ŝ) (si (AW Z.k7 (sF ŝ)) (AW Z.k14 Qm) (si (AW Z.k8 ZJ) (AW Z.k13 yC) (si (AW Z.k12 ZJ) (AW Z.k3 ZJ) (bY4 (AW Z.k5 as0) cU3))))))
def Gg:TN "_law_walked" 7 2 qX:=On Z.HP uo (cu1 2 (Wo (yO Z) a Á QD (Ï 0 i3)) (om rfl (Yx rfl Z.z1 (ě (F9 Qm (bI8 Qm (Z3 (zP Z) a Á QD à))))) (JB 3 s) (Qf (mo (Y0 (Z3 (vP Z) a Á QD ŝ)) ŝ) (O0 (Z3 (vQ Z) a Á QD ŝ)))) ZJ)
def QS:TN "_law_churn" 1 2 Qy:=On Z.HM QaA (ϔ 2 (ay5 (F9 (F9 (ϊ Jy à) (bI8 ő ő)) (bI8 Qm ő))) (ĉ (ϊ K_ (ϊ Jy (bI8 (ϊ Jy (bI8 ŝ ŝ)) (F9 ŝ (bI8 Qm ő)))))))
def Uz:TN "_law_key" 2 2 Yu:=On Z.HL Qen (cu1 2 (Qr YS (Qr Jy (F9 (ϊ XJ à) cb6) (ay5 (bI8 Qm cb6))) cb6) (mm (DW.pt (jA (fN (Qpv a.units) ő (YH Qi)) (j8 (fN m7 bO9 Qm)))) (Qo (Qu 2 s (F9 (Jw ő (Qr Jy (cS Fh a 0 Qm) (eR uC i3))) (Jw (YH (Qd Qm (Qd Qm (dS Qm (kB Qm))))) bO9))))) (Zf (La rfl) Z.z7 boot_max (dS (kB cb6) (cr1 bJ1 Z.z8 (Qd cb6 AS)))))
def kJ:TN "_law_deed" 3 2 xN:=bm6 Z.HK Qcs 2 (cj9 (Uz Z) 0 i3) 3 bO9 (si (at0 Vb ag Qm (bl8 AS)) (at0 Vb ag Qm (bl8 (Tu 2 (ϊ YS bO9)))) (Qf (at0 Vb ag Qm (bl8 AS)) (dL 4 (cr1 bJ1 Z.z8 (Tu 2 (ϊ YS cb6))) 5 (Zf (La rfl) Z.z7 boot_max (dS cF0 (QA (Uz Z) a Á QD (Qd (ay5 à) i3)))) (Ϥ (cT7 Da bO9 Qm (Qo (Qu 5 s (cr1 bJ1 Z.z8 (dS cb6 (F9 cF0 bO9)))))) (bl8 (Ï 4 aU8))))))
def QdI:TN "levels" 3 1 KD:=bN4 Z.HI Qhj (QA (Xn Z) a Á QD (dS (Z3 (JN Z) a Á QD à) (Z3 (JW Z) a Á QD à)))
def xq:XU P w K mg O8 Ü bt6 2 2 Xw:=wb Z.HG yi a (bY4 (Zu (bi8 (Jd Z) i3)) (AW Z.k0 ő))
def x6:wF P w K mg O8 Ü 1 2 J1:=hI Z.HE Vs (Þ c (let ⟨_,b,a⟩:=Z.t0.ex;si (AW Z.k11 ő) (AW Z.k1 (XB (ě (QkF rfl b a)))) (si (AW Z.k0 Qm) (AW Z.k2 Qm) (Qo (AW Z.k9 Qm)))))
def kL:TN "shelf_of" 3 2 xP:=On Z.HC Qcv (ϔ 2 (Wo (x6 Z) a Á QD i3) (si (Zu (bi7 (Xm Z) ŝ (dS Qm NS))) (aa8 rfl (XE (Sd à (Z1 Qm) Jn)) (JB 3 s) (O0 (bi7 (qo Z) ŝ as5))) (Ϥ (Zu (bi7 (xq Z) ŝ (ě (ϊ YS cE6)))) ŝ)))
def Gi:TN "linked" 1 3 jo:=On Z.HA Qhk (cu1 3 as0 (om rfl (Yx rfl Z.z1 (ě (LH i3))) (JB 4 s) (dL 5 cF0 6 (cO4 hZ tr (LH i3)) (dL 7 (Uv (Y0 P1) ZJ (sF (ϫ ő tr))) 8 (Uv (Y0 P1) ZJ (F9 ŝ tr)) (O0 (ϛ XH ag (ě (Zm (cP9 0 (sF (ϫ ő dQ)) (Qd (sF (ϫ ő dQ)) (Ï 7 (Ŀ 8))))))))))) ag)
def Ge:TN "kid_counts" 1 2 Yo:=bm6 Z.Hn uj 2 (Qr Qnp (YH i3) (Qr K_ à ő)) 3 (Qr Jy à ő) (Ϥ (at0 Da ag Qm (F9 (Ya ŝ Jn (Z1 (kB Qm))) (YH (dS (ϊ YS ő) Qm)))) (Uv (fN m7 ag Qm) (F9 ŝ (YH as5)) ŝ))
def Gc:TN "fork_fills" 2 3 Yn:=On Z.Hm ue (Qf (Lr 3 s) (ϔ 4 Qm (bY4 (aa8 rfl (XE (QA (Ge Z) a Á QD (Qd cE6 AS))) (JB 5 s) (ϔ 6 (F9 dQ tr) (si (WO 7 s (caps:=[]) (idx:=[]) ⟨í,ā,rfl,ā,rfl,ac8,í,ac8,Á⟩ rfl (XE (Ya à (Z1 dQ) cr2)) bL6 (dt NS)) (Lp 3 (wv (sF ai6) (dS (bi4 jw Z.z6 (ě (Ya ai6 (Z1 Qm) Jn))) (QkH Z.z6 Z.z1 rfl (dS (F9 ő dQ) (F9 ő P1)))))) (Qo (Qu 4 s P1))))) (Ln 3 (QC ag)))))
def Gh:TN "leaf_fills" 1 2 qY:=On Z.Hk ur (si (mo (YI (Lk à)) (YH (ě (wv ZJ (dS (Zm Qi) (Zm Qi)))))) (Lr 2 s) (bY4 (om rfl (Qgt rfl Z.z1 (Qd Qm (Qd cE6 i3))) (JB 3 s) (dL 4 (Sd à (Z1 ag) (Z1 (F9 ag ő))) 5 (bi4 jw Z.z6 (ě (ak7 [] idx [] ⟨í,ā,rfl,ā,rfl,ac8,í,ac8,Á⟩ rfl (XE dQ) bL6 (dt NS)))) (Qo (Lp 2 (wv (sF tr) (Tu 5 (bi4 jw Z.z6 (ě (ak7 [] idx [] ⟨í,ā,rfl,ā,rfl,ac8,í,ac8,Á⟩ rfl (XE dQ) bL6 (dt NS)))))))))) (Ln 2 (QC ŝ))))
def QdJ:TN "packed" 4 2 yo:=bm6 Z.He Qhl 2 Qm 3 (cj9 (Gh Z) 0 i3) (cu1 4 (cj9 (Gi Z) 2 (Tu 3 Qm)) (K0 Ņ PassesOwn.never (fN m7 (LH as5) Qm) (Qf (Qgu 2 s Qm) (ϔ 3 (cj9 (Gc Z) 3 (dS (Qr YS (LH (Ŀ 4)) (LH as5)) cE9)) (O0 (ic YQ dQ (ě (cj9 (Gi Z) 2 (Tu 3 (LH (Ŀ 4)))))))))) (cj9 (kL Z) 4 i3))
def kK:TN "_law_size" 2 2 xO:=On Z.Hd Qct (ϔ 2 bO9 (si (at0 Da ŝ Qm bO9) (at0 Da ŝ Qm (cr1 bJ1 Z.z8 (dS Qm (F9 (bI8 (bI8 ő cE9) (F9 Qm bO9)) (bI8 bO9 ő))))) (Ϥ (at0 Da ŝ Qm (cr1 bJ1 Z.z8 (dS Qm (F9 (bI8 (bI8 ő cE9) cE9) (Qr Jy (cS Fh a 0 Qm) (ay5 (bI8 Qm ő))))))) bO9)))
def JF:TN "_law_cell_at" 1 2 Zh:=On Z.u64 G8 (Ϥ (at0 Vb ő (eR uC aU7) (Jw à ő)) Qm)
def vS:TN "_law_table" 2 2 jn:=bm6 Z.Hc QaB 2 (ϊ YS (ϊ Jy (QA Fh a Á QD (dS (cS (JF Z) a 0 Qm) Qm)))) 3 (ϊ Jy (QA Fh a Á QD (dS (cS (JF Z) a 0 Qm) Qm))) (si (cT7 Da ag Qm (Qo (Qu 2 s (Qr YS (QA Fh a Á QD (dS (cS (JF Z) a 0 Qm) Qm)) cb6)))) (Lr 4 s) (bY4 (om rfl (Yx rfl Z.z1 i3) (JB 5 s) (dL 6 (F9 (cS (JF Z) a 0 (Qr Jy tr (Zf (La rfl) Z.z7 boot_max (dS Qm (eR uC aU7))))) tr) 7 (ϊ YS (bO8 6)) (si (cT7 Da (bO8 6) Qm (Qo (Qu 7 s (Qr YS (Qr Jy (F9 (ϊ XJ P1) cb6) (ay5 (bI8 Qm cb6))) cb6)))) (Lp 4 (Zm (Ï 2 (Ŀ 7)))) (Qo (Qu 2 s (F9 (ay5 ŝ) (bI8 (Qr Jy (cS Fh a 6 Qm) (Jw (YH (Qd Qm (dS Qm (bI8 Qm cb6)))) ag)) (Jw (YH (Qd Qm (dS Qm cb6))) ag)))))))) (Ln 4 (QC dQ))))
def law_fn{g:Addr}{fd:FuncData}(F:Fun K cO5 cO5 UW g fd):jq P w K mg O8 CX0 8 g fd [N4] (lE K 1 wR):=Qor F lJ λ_ _ _ _ _ _ a=>have s:=lJ.nd;dL 1 (cS (JF Z) a 0 Qm) 2 (F9 Qm (bO8 1)) (dL 3 (cS (vS Z) a 0 (cj9 (kK Z) 1 AS)) 4 (QA (QdJ Z) a Á QD (Qd (yD R5 Z.z4 boot_list as5) AS)) (dL 5 (yD (Qkx rfl) Z.z9 boot_dict as5) 6 (bm4 (cj9 (QdI Z) 4 Qi)) (cu1 7 YG (aa8 rfl (XE (Ya à Jn (Z1 Qm))) (JB 1 s) (dL 8 (cS (kJ Z) a 1 (Zf (uD rfl) Z.z5 boot_sorted aU8)) 7 (Lg ai6 (kC (cO4 hZ (sF bY5) ZZ))) (dL 9 (Z3 (YK Z) a Á QD dQ) 10 (cj9 (Gg Z) 4 (Ŀ 8)) (bY4 (bp0 (uM (fN m5 (Qa 10) ZJ) (K1 (fN ae4 (Z3 (Kc Z) a Á QD (Qa 10)) (cj9 (QbN Z) 8 aU8)))) YG) (bp0 (jA (fN hZ (sF bY5) ZZ) (jA (bY6 ai6) (j8 (fN m7 (Qr YS (Z3 (YK Z) a Á QD dQ) (Qa 9)) P1)))) YG))))) (Ls (cO4 m5 (cj9 (kH Z) 4 Qi) YG) (Ls (cO4 hZ (cj9 (QdL Z) 4 Qi) (YH Qi)) (kC (cO4 hZ (cj9 (kN Z) 4 Qi) (Qia Z.z5 rfl tr))))))))
#where
def Mc{g g':DV->fS}{fa e c:aJ}{b a:Bool}(f:bx8>=(x,hp))(h:bs5>=(y,hp))(i:aN7>=(z,hp))(h1:g x y=nv b)(h2:g' y z=nv a):JV g g' fa e c env hp>=(ξ (b&&a),hp):=by
  unfold JV;rw[Qe f,NB,h1,Er];show((df b _ _:į)) hp=_;cases b with
  |false=>rfl
  |true=>show(cm2 >>= λ w=>g' y w) hp=_;rw[Qe i,h2];cases a<;>rfl
def QlG{e f g:aJ}{w b:Hs}{a i:Nat}{ds:á}(h:bs4 w>=(d,b))(hf:η b>=(ų,b))(c:ie b a ds)(l:HJ b>=(ú i,b))(n:i<Ć):zG e (d9 f g) env w>=(L3,b.set a (Ø (cL5 i))):=by
 refine Mj h ?_;unfold d9;rw[bs0,Qe l];have:sH Ŗ ↥nW d b>=((),b.set a (Ø (cL5 i))):=by show(cL3 >>= _) b=_;rw[Φ c];show(dZ ↥nW >>= λ k=>match ixN Ć k with|some j=>yn a (Ø (cL5 j))|none=>failure) b=_;rw[Qe (rfl:dZ ↥nW b>=(nW,b)),Qk5 n];rfl
 rw[LW];rfl
def Wz{c f:Str}{o e:aJ}{hp:Hs}{a:Nat}{fs:ay3}{x y:Int}(n:cq2>=(ų,hp))(h:E8 a>=bw0)(hf:cc7>=bU7)(j:bs5>=(È y,hp))(l:aF1<FI):GO c f VL o e env hp>=(L3,μ a (cS2 c f ↥(x+y) fs)):=by
 unfold GO;have b:sG c f Ŗ hp>=(cj4,hp):=Υ sG (yZ h) hf
 have i:su c f Ŗ ↥(x+y) hp>=((),μ a (cS2 c f ↥(x+y) fs)):=Υ su (yZ h) (Em l)
 rw[Qe n,bH1,Qe j,Qe (rfl:VL bU7 ↥y hp>=(È (x+y),hp)),Qe i];rfl
def Q_{e:aJ}{fa:bR}{v:DV}(h:bs5>=(v,hp1))(h':aH7 hp1>=(ds,hp2)):Qc e fa env hp>=(v::ds,hp2):=Υ Qc NB (Qe h')
def aR(r:Int)(k:Nat)(t a b:Int):ay3:=[(Pw, È r),("kept", ë k),(bi3, È t),(LX, È a),(Fy, È b)]
def QjS(r:Int)(k:Nat)(t a b:Int):hV Pw (aR r k t a b)>=(oT r):=ϱ
def Yd(r:Int)(k:Nat)(t a b:Int):hV "kept" (aR r k t a b)>=(DV.ref k):=ϱ
def MF(r:Int)(k:Nat)(t a b:Int):hV bi3 (aR r k t a b)>=(oT t):=ϱ
def Qo6(r:Int)(k:Nat)(t a b:Int):hV Fy (aR r k t a b)>=(oT b):=ϱ
def Pj(r:Int)(k:Nat)(t a b:Int):hV LX (aR r k t a b)>=(oT a):=ϱ
def QjR(r:Int)(k:Nat)(t a b c:Int):XS (Ŕ Fy) ↥c (aR r k t a b)=aR r k t a c:=ϱ
def WC(r:Int)(k:Nat)(t a b c:Int):XS (Ŕ LX) ↥c (aR r k t a b)=aR r k t c b:=ϱ
def WB(r:Int)(k:Nat)(t a b c:Int):XS (Ŕ bi3) ↥c (aR r k t a b)=aR r k c a b:=ϱ
def xj(r:Int)(k:Nat)(t a b:Int):sT Ll (aR r k t a b):=ϱ
def Um(r:Int)(k:Nat)(t a b:Int):sT "lay" (aR r k t a b):=ϱ
def Qet(r:Int)(k:Nat)(t a b:Int):sT aP3 (aR r k t a b):=ϱ
def qd(r:Int)(k:Nat)(t a b:Int):sT bt5 (aR r k t a b):=ϱ
def YW(r:Int)(k:Nat)(t a b:Int):sT ak6 (aR r k t a b):=ϱ
def Qes(r:Int)(k:Nat)(t a b:Int):sT bt6 (aR r k t a b):=ϱ
def QcD(r:Int)(k:Nat)(t a b:Int):sT bc5 (aR r k t a b):=ϱ
def QjQ(r:Int)(k:Nat)(t a b:Int):sT FT (aR r k t a b):=ϱ
def U0(r:Int)(k:Nat)(t a b:Int):sT lT (aR r k t a b):=ϱ
def WE(r:Int)(k:Nat)(t a b:Int):sT aA6 (aR r k t a b):=ϱ
section
variable{r t a b:Int}{n k:Nat}{ps:á}{hp:Hs}
def MY(h1:bU1 r t a b)(h2:L4 k ps):Xd [LD] hp>=(È dO,hp):=bk7 [! s0] (J7 (hO h1 aQ2) h2)
def Vg(h1:bU1 r t a b):ZG [LD] hp>=(È t,hp):=bk7 [! s0] (hO h1 (MF ..))
def QlS(h1:bU1 r t a b):J3 [LD] hp>=(È r,hp):=bk7 [! s0] (hO h1 (QjS ..))
def UO(h1:bU1 r t a b):J2 [LD] hp>=(È a,hp):=bk7 [! s0] (hO h1 (Pj ..))
def yz{i:Int}(h1:bU1 r t a b)(h2:L4 k ps)(c:0<=i)(e:i<dO):
  ZK [LD,ng] hp>=(ī,hp) :=
 Vh (env:=[! s0,r0]) (Zt (aQ3 b true (å (Mc rfl Â (J7 (hO h1 aQ2) h2) rfl rfl) (Ρ (Em c) (Em e)))))
def Wr{E:En}(c:E[0]?>=(Õ s0))(h1:bU1 r t a b):GO Ü Fy VL Ë Ÿ E hp>=(ϧ E,as7 n r t a (b+1)):=œ (Wz (ak c) h1 (Qo6 ..) rfl (a0 ((5:Nat)<FI))) QjR
def QlP{i:Nat}(h1:bU1 r t a b)(h2:L4 k ps)(c:n≠k)(hd:dC ps d):
  Xx [LD,ng] hp>=(d,as7 n r t (a+1) b):=by
 have e:i<dO:=bi9;have g:as7 n r t (a+1) b=μ n (cS2 Ü LX ↥(a+1) (aR r k t a b)):=nV WC
 rw[g];refine Ĥ [! s0,r0] (aC (ZM (Tm Â h1 (xj ..) uq (yz (i:=nW) h1 h2 À À))) (Wz Â h1 (Pj ..) rfl (a0 ((5:Nat)<FI))) (QF (Qn (hO (Jx _ _ _ (û h1)) (å (im _ (WC ..)) aQ2)) Â (kU (å (Jg _ _ _ _ c) h2) hd))))
def Qae{i:Nat}(h1:bU1 r t a b)(h2:L4 k ps)(c:i<dO):
  Xw [LD,ng] hp>=(ī,as7 n r i a b) :=
 Vh (env:=[! s0,r0]) (Qq (ZM (Tm Â h1 (xj ..) uq (yz (i:=nW) h1 h2 À À))) (bk4 (Ji Â Â h1 (a0 ((5:Nat)<FI))) WB))
def VF{i:Nat}{d:DV}(h1:bU1 r t a b)(h2:L4 k ps)(c:n≠k)(e:i<dO):
  JJ [LD,ng,d] hp>=(ī,(as7 n r t a (b+1)).set k (Ø (ps.set i d))) :=
 Vh (env:=[! s0,r0,! d]) (aC (ZM (Tm Â h1 (xj ..) uq (yz (i:=nW) h1 h2 À À))) (Wr rfl h1) (QlG Â (hO (Jx _ _ _ (û h1)) aQ2) (å (Jg _ _ _ _ c) h2) Â e))
def Lz{pg:DV}(h1:bU1 r t a b)(h2:L4 k ps)(c:n≠k)(e:dO<99999):
  JR [LD,pg] hp>=(È dO,(as7 n r t a (b+1)).set k (bu9 ps [pg])):=by
 have g1:=å (Jg hp n k (TH r t a (b+1)) c) h2;have g2:bU0 (as7 n r t a (b+1))[n]? r t a (b+1):=Jx _ _ _ (û h1);refine Ĥ [! s0,! pg] (aC (Wr rfl h1) (ZM (jW (hO g2 aQ2) g1 Â À)) (QF (gp (J7 (hO (å (Jg _ _ _ _ c.symm) g2) aQ2) (Jx _ _ _ (û g1))) ?_)));show è (oT (Ì ⇑(ps++[pg])-1),_)=_;rw[An];simp
#where
def Qeb{c:Int}{n i:Nat}{d:DV}(h:dC (XM c n) d):i<n/\d=È (nW * c):=by
 have hi:i<n:=dP cO6 XM
 unfold XM at h;rw[qH hi]at h;exact Ĭ hi (aL4 h)
def QlM{n m:Nat}(a:1<=m):cT (Ì (aK1:Nat)) nC=TP.qn n m:=by
 unfold cT TP.qn;have:Ì (aK1:Nat)+nC-1=Ì (aK1+m-1:Nat):=À
 rw[this,<- Int.natCast_ediv,B0]
def cJ(w:Hs)(T:DV)(rows:TP.Rw):Û:=T=Ø ϲ∨∃n,T=LD/\ie w n ϲ
def cJ.len{w:Hs}{T:DV}{rows:TP.Rw}(h:cJ w T rows){f:aJ}(hf:η w>=(T,w)):bX9 Z2 f env w>=(ú rows.length,w):=by
 rcases h with rfl|⟨n,rfl,a⟩
 ·rw[yf hf,XL]
 ·rw[J7 hf a,XL]
def cJ.sS{w:Hs}{T:DV}{rows:TP.Rw}(h:cJ w T rows){f:aJ}(hf:η w>=(T,w)):zZ f env w>=(mP rows.isEmpty,w):=by
 have e:(ϲ).isEmpty=rows.isEmpty:=Ks (XL rows);unfold zZ;rw[bs0];rcases h with rfl|⟨n,rfl,a⟩
 ·show è (mP (ϲ).isEmpty,w)=_;rw[e]
 ·show(OU >>= _) w=_;rw[Φ a];show è (mP (ϲ).isEmpty,w)=_;rw[e]
def QmQ{x:Int × Int}{w:Hs}:wy Ë kw (Õ (ñ [È x.1,È x.2])::env) w>=(È x.1,w):=cw0 i 0 rfl
def QnV{x:Int × Int}{w:Hs}:wy Ë Ÿ (Õ (ñ [È x.1,È x.2])::env) w>=(È x.2,w):=cw0 i 1 rfl
def Qh6{w:Hs}{f:aJ}{c:TP.Rw}(hf:η w>=(bv0 c,w))(a:ch3<Ņ):Jb false (cW f) [] nA am8 env w>=(Ø (c.map λ r=>È r.1),w):=by
 rw[jX (m:=Ih) (nw:=false) (Ye hf) EK (λ x hx=>aC2 p rfl hx QmQ) (Å XL a),Sw];rfl
def Qh7{w:Hs}{f:aJ}{c:TP.Rw}(hf:η w>=(bv0 c,w))(a:ch3<Ņ):Jb false (cW f) [] nA al3 env w>=(Ø (c.map λ r=>È r.2),w):=by
 rw[jX (m:=QpF) (nw:=false) (Ye hf) EK (λ x hx=>aC2 p rfl hx QnV) (Å XL a),Sw];rfl
def Mx{w:Hs}{f:aJ}(hf:η w>=(fI,w)):bX9 Uq f env w>=(o0,w):=bt4 hf rfl
def sl3(f:NU DV):NU Sl
 |0=>Ś
 |i+1=>Õ (f i)
def Qh1(rows:TP.Rw)(m:Nat)(fork:Bool)(k:Nat):ab9 ⇑(hX m fork k):=cJ1 TP.Q1 A9 Bp
def Qk8{w:Hs}{T:DV}{rows:TP.Rw}{m:Nat}(l:cJ w T rows)(h:1<=m)(O:E9 m)(hl:al7 FI):qY [T,ú m] w>=(Ø (Dn m false),w):=by
 by_cases h0:rows=[]
 ·subst h0;have q1:TP.qn 0 m=1:=by
   obtain⟨a,b,c⟩:=bc8 0 h;unfold TP.qn at *;have:(av8 0+m-1) / m<=1:=by refine Nat.le_of_lt_succ ((Nat.div_lt_iff_lt_mul À).mpr À)
   lia
  refine Ĥ [! T,Ö m,Ś,Ś,Ś,Ś] (ao9 (Jc (l.sS Â)) cr3);have:ZR [] m false=[ñ [ī,bK8,bK8]]:=by unfold ZR;rw[tz (CS ([]:TP.Rw)=0),q1];show[Xh [] m false 0]=_;simp[Xh,kn,uZ,Ug,TP.Q1]
  rw[this];rfl
 have R:ab9 1:=by cases rows with|nil=>exact aA7 h0|cons _ _=>simp
 have Q:av8 rows.length=rows.length:=À
 have ne:ė rows.isEmpty:=by cases rows with|nil=>exact aA7 h0|cons _ _=>rfl
 have X:ab9 NH:=by obtain⟨a,b,c⟩:=cf7 h;have:(NH-1) * 1<=(NH-1) * m:=ś h;lia
 let q:=NH
 let J:cd7:=λ i=>[! T,Ö m,q7 (cy3 i m),bb0 (È (nW * m)),bb0 (bv0 (Po m i)),bb0 (bR5 (Po m i) r r.1)]
 have j:jt aN8 w>=(TD q,w):=by
  have u:Dg (Qc kw (Qc bC1 fy)) aN8 w>=(XM m q,w):=by unfold Dg;rw[Qe (Xf (rfl:eC ↥0 aN8 w>=(È 0,w)) (l.len Â) (Â:Qb 1 aN8 w>=(È m,w)))];have e:=QlM (n:=rows.length) h;rw[Q]at e;have ok:Ĝ (FJ 0 (Ì rows.length) nC):=Em ⟨rfl,À,À,À,À⟩;show(QJ (FJ 0 (Ì rows.length) nC) >>= λ_=>Ô (XM m (cT rows.length m)):cA9) w=_;rw[ok,e];rfl
  have len:⇑(XM nC q)=q:=ą XM
  have f:=Wx (b:=aC4 d env' 3 d (YN env')) J w (XM nC q) (λ i d hd=>by
   obtain⟨hi,L⟩:=Qeb hd;subst L;have hi:i<NH:=hi;have F:=TP.Qdo (rows:=rows) h hi;obtain⟨_,v⟩:=TP.Yv (rows:=rows) (fork:=false) h Ê R hi;have Y:=Qh1 rows m false i;obtain⟨t,z,y⟩:∃t z,Po m i=t::z:=by
    cases e:Po m i with
    |nil=>rw[e]at v;simp at v
    |cons a b=>exact Œ a b
   let x:En:=[! T,Ö m,q7 (cy3 i m),Ö (nW * m),bb0 (bv0 (Po m i)),bb0 (bR5 (Po m i) r r.1)]
   let I:En:=[! T,Ö m,q7 (cy3 i m),Ö (nW * m),aw6 (aM (Po m i)),bb0 (bR5 (Po m i) r r.1)]
   let o:En:=[! T,Ö m,q7 (cy3 i m),Ö (nW * m),aw6 (aM (Po m i)),!(bR5 (Po m i) r r.1)]
   show YN x w=_;have P:(nW * nC)=Ì (i * m:Nat):=Ê
   have C:(nW * nC+nC)=Ì (i * m+m:Nat):=Ê
   have U:oG Ë (Ze io) (Ze (IJ io Ġ)) x w>=(bv0 (Po m i),w):=by rw[Qhu (a:=i * m) (b:=i * m+m) (d:=T) (ds:=ϲ) Â (æ P Â) (æ C (Ko Â Â)) À l,Qjn,Qjo,F,Nat.add_sub_cancel_left]
   refine Fi I w U;refine Fi o w (Mx (Qh6 Â À));have fd:ZO (Qc (bw1 5) (nB 5 (sR Uq jh))) o w>=(Xh rows m false i,w):=by refine ϯ (Jk (ds:=[È t.1,bR5 (Po m i) r r.1,bR5 (Po m i) r r.2]) (cq3 (G2 i 0 Â (û y)) (Mx (Qh7 Â À))) Ê);unfold Xh kn uZ Ug;rw[y];rfl
   rw[Lw fd (rfl:o[2]?=_) (OQ Bq List.length_range)];show è (aV5 _,w)=_;congr 3;show[_,_,Sl.acc (cy3 i m++[Xh rows m false i]),_,_,_]=J (i+1);show _=[_,_,Sl.acc (cy3 (i+1) m),_,_,_];rw[List.range_succ,List.map_append];rfl)
  rw[len]at f;exact X0 u f
 refine Oe ((J q).set 2 (Õ (Ø (Dn m false))));refine cS3 (Ρ (Jc (l.sS Â)) ne) (rfl:v7 2 _ w>=(TD 0,w)) (l5 j);exact QF rfl
def j9(rows:TP.Rw)(m:Nat)(fork:Bool):⇑az1=NH:=ą ZR
def qG(rows:TP.Rw)(m:Nat)(fork:Bool)(lv first:Nat):⇑(JX rows m fork lv first)=NH:=ą JX
def Qca{n i:Nat}{d:DV}(h:dC (Zg 0 n) d):i<n/\d=ú i:=T5 h
def gh(w:Hs)(rows:TP.Rw)(m:Nat)(fork:Bool)(lv first:Nat)(I:NH<=FI):jo [ú lv,bk0,ú first] w>=(aJ1,w++[Ø (JX rows m fork lv first)]):=by
 let q:=NH
 let e:=az1
 let last:AD Nat:=λ i=>(nW+1==Ì ⇑e)
 let hi:NU DV:=λ i=>É (i+1=q) ī (kn rows m fork (i+1))
 let sd:NU DV:=λ i=>É (i+1=q) ī (ú (first+(i+1):Nat))
 let J:cd7:=λ i=>[Ö lv,aw6 e,ag7,! ĝ,bb0 ng,bb0 (È (nW+1)),bb0 bR6,FB hi,FB sd]
 let W:NU Hs:=λ i=>w++[Ø (pe i (UN rows m fork lv first))]
 have x:⇑e=q:=j9 rows m fork;have y:∀i,aw7=oX (i+1) q:=λ i=>by
  show(nW+1==Ì ⇑e)=_;rw[x];by_cases c:i+1=q
  ·rw[Em c];simp;lia
  ·rw[Ep c];simp;lia
 have f:=Qio (b:=aC4 d env' 4 d (yb env')) J W (Zg 0 q) (λ i d hd=>by
  obtain⟨h,F⟩:=Qca hd;subst F;have v:dC e (Xh rows m fork i):=qH h
  let l:Sl:=Ö (nW+1)
  let z:En:=[Ö lv,aw6 e,ag7,! ĝ,r0,bb0 (È (nW+1)),bb0 bR6,FB hi,FB sd]
  let C:En:=[Ö lv,aw6 e,ag7,! ĝ,r0,l,bb0 bR6,FB hi,FB sd]
  let r:En:=[Ö lv,aw6 e,ag7,! ĝ,r0,l,! bR6,FB hi,FB sd]
  let u:En:=[Ö lv,aw6 e,ag7,! ĝ,r0,l,! bR6,!(hi i),FB sd]
  let n:En:=[Ö lv,aw6 e,ag7,! ĝ,r0,l,! bR6,!(hi i),!(sd i)]
  show yb z YP=_;have o:(nW+1)=Ì (i+1:Nat):=Ê
  refine Fi C YP (Ko Â rfl);refine Fi r YP (LR Â (yf Â));refine Fi u YP ?_
  ·have t:eB LV r YP>=(aw7,YP):=Q5 Â;rw[y i]at t;by_cases c:i+1=q
   ·rw[Em c]at t;rw[uP t];show _>=(É (i+1=q) DV.non _,_);rw[Eh c];rfl
   ·rw[Ep c]at t;rw[uO t];show _>=(É (i+1=q) DV.non _,_);rw[Eg c];exact cw0 i 0 (XV (i:=i+1) (d:=Xh rows m fork (i+1)) Â (æ o Â) (qH (lL (i+1<q))))
  refine Fi n YP ?_
  ·have t:eB LV u YP>=(aw7,YP):=Q5 Â;rw[y i]at t;by_cases c:i+1=q
   ·rw[Em c]at t;rw[uP t];show _>=(É (i+1=q) DV.non _,_);rw[Eh c];rfl
   ·rw[Ep c]at t;rw[uO t];show _>=(É (i+1=q) DV.non _,_);rw[Eg c];exact zh (j:=i+1) Â (æ o Â)
  have tp:ZO (bZ6 0 (cV6 4 1) (Qc (cV6 4 2) (cP5 7 8))) n YP>=(UN rows m fork lv first i,YP) :=
   Jk (Du Â (cw0 i 1 (XV (i:=i) Â Â v)) (cw0 i 2 (XV (i:=i) Â Â v)) Â Â) Į
  rw[ZM (jW (a:=ĳ) (ds:=pe i (UN rows m fork lv first)) (d:=UN rows m fork lv first i) Â (VZ w _ []) tp (by rw[Bq,List.length_range];have:i<NH:=h;lia)),Fb];show è (aV5 n,w++[ck _])>=(aV5 (J (i+1)),w++[ck (pe (i+1) (UN rows m fork lv first))]);rw[List.range_succ,List.map_append];rfl)
 rw[JZ]at f;refine Oe (J q);refine nK aN8 bi0 rfl (IM ?_ rfl);refine X0 (ds:=Zg 0 q) (yS (m:=q) (Zn ?_) (lL (NH<=_))) f;rw[yf (ds:=e) Â,x]
def Qgo{n m:Nat}(L:3<=m)(j:E9 m)(O:2<=n)(J:n<=FI):Yo [ú n,ú m]=E6 (pc (TP.wG n m) (λ(k:Nat)=>oT Ϯ)):=by
 have dv:pZ ↥oq ↥nC=cc5 (n / m:Nat):=Ŷ (KS _ _ À À)
 have l:Z4 ↥oq ↥nC=cc5 (n % m:Nat):=Ŷ (Z9 _ _ À)
 have C:n / m<=n:=Nat.div_le_self _ _
 let R:á:=Ī (n / m) ↥nC
 have o:CW (Ø [ú m]) ↥(Ì (n / m:Nat))=E6 R:=bn5 ((QJ (Ó (0<=Ì (n / m:Nat)/\cU7 (n / m:Nat)<=Ņ)) >>= λ_=>cs5 (Ī (cU7 (n / m:Nat)) ↥nC):į)=_) (Em (Ĭ (Int.natCast_nonneg _) (Ĵ B0))) B0
 let c:En:=[Ö n,Ö m,aw6 R,ģ (n % m:Nat)]
 have pre:∀r,(Qs (cF3 eE 3 1 (IJ (bH Ŏ Zw cB6) (Xg (Ĺ (ò XO 1 1) am4)))) (QT (cL (br7 dD 3 0) (IJ Ŏ bG7) Ŏ))) c=r->yy [Ö n,Ö m,Ś,Ś]=r:=λ r h=>by refine ID d (Ø R) (QH (x:=Ø [ú m]) (y:=ú (n / m:Nat)) rfl (AT x n y m rfl dv) o);exact å (oU d (ú (n % m:Nat)) (AT x n y m rfl l)) h
 have f:ŗ a b á (a<=FI->bE3<=5->Q7 (Ø (Ī a ↥nC)) (Ø b)=E6 (Ī a ↥nC++b)):=λ a b F I=>Ő ((br8 (Ī a (oT nC)++b) >>= λ_=>cs5 _:į)=_) (X1 (OQ An List.length_replicate))
 refine CH c (pre _ ?_);unfold TP.wG;by_cases e:n % m=1
 ·rw[aL7];refine Mi (å (wH (K2 (Ħ x (ú (n % m:Nat)) y 1 rfl rfl (bk4 (Xk _ _) e)))) (Jo ?_));have q1:1<=n / m:=by
   have i:=bt3 n;rcases aP5 n m with z|z
   ·rw[z,Nat.mul_zero]at i;lia
   ·exact z
  have cut:zY R none (è (-1))=Ī (n / m-1) ↥nC:=by unfold D.zY;show EH (R.drop 0) (É (Ì (-1)<0) (IS (Ì (-1)+Ì ⇑R)) (min (cU7 (-1)) ⇑R)-0)=_;rw[Eh Á,List.drop_zero,Nat.sub_zero];have u:⇑R=n / m:=List.length_replicate;rw[u,List.take_replicate];congr 1;lia
  have v:bH Ŏ Zw cB6 c=E6 (Ī (n / m-1) ↥nC):=by have:bH Ŏ Zw cB6 c=E6 (zY R none (è (-1))):=rfl;rw[this,cut]
  refine ϯ (QH v (y:=Ø [È (nC-1),È 2]) rfl (f _ _ À Į));rw[List.map_append,List.map_replicate];congr 3;simp;lia
 ·rw[OO];have z:Ì (n % m:Nat)≠1:=λ h=>e À;refine ai7 (cs7 (wI (K2 (Ħ x (ú (n % m:Nat)) y 1 rfl rfl (œ (Xk _ _) (show pk (Ì (n % m:Nat)) 1 by simpa using z)))))) (Jo ?_);have t:eB (ò dD 3 0) c=Ô (AN 0 (Ì (n % m:Nat))):=K2 rfl;by_cases r:0<n % m
  ·rw[Eh r];rw[bf6]at t;have:cL (br7 dD 3 0) (IJ Ŏ bG7) Ŏ c=Qh Q7 Ŏ bG7 c:=cL8 cL t Er sj
   rw[this];refine ϯ (QH (x:=Ø R) (y:=Ø [ú (n % m:Nat)]) rfl rfl (f _ _ À Į));rw[List.map_append,List.map_replicate];rfl
  ·rw[Eg r];rw[aF0]at t;have:cL (br7 dD 3 0) (IJ Ŏ bG7) Ŏ c=Qb 2 c:=cL8 cL t Er cl9
   rw[this,List.map_replicate];rfl
def Ql8{f g:aJ}{w:Hs}{a b:Nat}(hf:η w>=(ú a,w))(h:HJ w>=(ú b,w))(c:a<=b)(j:b<=10000):wN (Ĺ f g) env w>=(ñ (Zg a (b-a)),w):=by
 unfold wN;rw[Qe (Zk hf h)];have e:pW [ú a,ú b] w>=(Zg a (b-a),w):=by show(QJ (qw (Ì a)&&qw (Ì b)) >>= λ_=>Ô (Zg a (IS (Ì b-a))):cA9) w=_;rw[qP À,qP À,ð (IS (Ì b-a)=b-a)];rfl
 rw[Qe e];have i:Ĝ (qO (Zg (Ì a) (b-a))):=X1 (Ĵ JZ);rw[Qe (show QJ (qO (Zg (Ì a) (b-a))) w>=((),w)by rw[i];rfl)];rfl
def Mm{rows:TP.Rw}{m:Nat}{fork:Bool}{k:Nat}(h:1<=⇑(hX m fork k)):kn rows m fork k=È (TP.YE rows m fork k):=by
 unfold kn TP.YE;cases e:hX m fork k with
 |nil=>rw[e]at h;simp at h
 |cons a b=>rfl
def QgB{rows:TP.Rw}{m:Nat}{fork:Bool}(b:1<=m)(hf:bv2->3<=m)(c:ab9 1)(first:Nat):pc az1 Ih=at5 bP0 r r.1:=by unfold ZR TP.zS;rw[List.map_map,List.map_map];refine My (Ź k a);show kn rows m fork k=_;exact Mm (TP.Yv b hf c (Cg.mp a)).2
def QiT(rows:TP.Rw)(m:Nat)(fork:Bool)(first:Nat)(a b:Nat)(c:b<=NH):NM (EH (Na bP0 a) (b-a)) r (oT r.2)=Zg (Ì (first+a:Nat)) (b-a):=by
 apply List.ext_getElem?;intro i;rw[Bt,Ed];by_cases h:i<b-a
 ·rw[cH1,Cb];have l:a+i<NH:=À
  unfold TP.zS;rw[Bt,EG l];unfold Zg;rw[qH h];simp only[Option.map_some];congr 2;lia
 ·rw[Eg h,C0 (Ĵ JZ)];rfl
def QkR{w:Hs}{rows:TP.Rw}{m:Nat}{fork:Bool}{first M:Nat}(hm:1<=m)(hf:bv2->3<=m)(hn:ab9 1)(hM:3<=M)(Y:E9 M)(h2:2<=NH)(o:NH<=FI)(a8:first<=2000):
  Yn [bk0,ú first,ú M] w>=(Ø (ZR bP0 M true),w):=by
 let N:=bP0
 have t:ch4=NH:=TP.Ue rows m fork first
 let n:=NH
 have ql:aH9 N M<n:=Å t (TP.T_ À h2)
 let q:=aH9 N M
 let K:=az1
 have P:⇑K=n:=j9 rows m fork
 let S:NU Nat:=TP.sx ch4 M true
 have R:S 0=0:=TP.VB À true;have U:∀i,i<q->S i<S (i+1):=λ i h=>TP.IK À (λ_=>hM) À h;have X:∀i,i<=q->S i<=n:=λ i h=>aK9 (TP.IV (n:=ch4) (m:=M) À true h À) (Bj this (Nat.le_of_eq t))
 let C:á:=pe q (λ i=>ú (S (i+1)-S i:Nat))
 have u:⇑C=q:=ą C
 have cn:pc (TP.wG n M) (λ(k:Nat)=>oT Ϯ)=C:=by rw[TP.QkB hM h2,List.map_map];show _=pe (aH9 N M) (λ i=>oT (Ì (TP.sx ch4 M true (i+1)-TP.sx ch4 M true i:Nat)));rw[t];rfl
 let J:cd7:=λ i=>[aw6 K,ag7,Ö M,q7 (bw9 i N M true),Ö (S i:Nat),bb0 (ú (S (i+1)-S i:Nat)),bb0 (È (S (i+1):Nat)),bb0 (Ø (at5 (au0 N M i) r r.1))]
 have c:=K7 (b:=aC4 d env' 5 d (YL env')) J (λ_=>w) C (by rw[u];show aH9 N M<_;lia) (λ i d hd=>by
  have hi:i<q:=by have:=bi9;rwa [u]at this
  have ed:d=ú (S (i+1)-S i:Nat):=mE (Ý (ŵ C=_) (qH hi)) hd (aL4 hd)
  subst ed;have s1:=U i hi;have s2:=X (i+1) hi;obtain⟨_,I⟩:=TP.Yv (rows:=N) (m:=M) (fork:=true) À (λ_=>hM) À hi;have L:au0 N M i=EH (N.drop (S i)) (S (i+1)-S i):=rfl;obtain⟨z,Q,v⟩:∃z Q,au0 N M i=z::Q:=by
   cases e:au0 N M i with
   |nil=>rw[e]at I;simp at I
   |cons a b=>exact Œ a b
  let F:Sl:=ģ (S (i+1)-S i:Nat)
  let A:Sl:=q7 (bw9 i N M true)
  let e5:En:=[aw6 K,ag7,Ö M,A,Ö (S i:Nat),F,bb0 (È (S (i+1):Nat)),bb0 (Ø (at5 (au0 N M i) r r.1))]
  let O:En:=[aw6 K,ag7,Ö M,A,Ö (S i:Nat),F,Ö (S (i+1):Nat),bb0 (Ø (at5 (au0 N M i) r r.1))]
  let l:En:=[aw6 K,ag7,Ö M,A,Ö (S i:Nat),F,Ö (S (i+1):Nat),aw6 (at5 (au0 N M i) r r.1)]
  show YL e5 w=_;refine Ē aF O w (Qw (d:=È (S (i+1):Nat)) ?_) ?_
  ·rw[zh (i:=S i) (j:=S (i+1)-S i) Â Â,ð (S i+(S (i+1)-S i)=S (i+1))]
  refine Fi l w ?_
  ·have sl:bH Ë (Ze dd) co7 O w>=(Ø (EH (K.drop (S i)) (S (i+1)-S i)),w):=QjU Â Â Â À;refine ϯ (jX (m:=Ih) (nw:=false) (Ye sl) EK (Ź x hx) (by rw[A9,Bp,P];show _<Ņ;have:n<=FI:=o;lia))
   ·have hx:=Cc (Bw hx);obtain⟨k,hk,rfl⟩:=bI4 hx;exact cw0 i 0 rfl
   ·rw[List.map_take,List.map_drop,QgB hm hf hn first,L,List.map_take,List.map_drop]
  have tp:ZO (B6 (bw1 7) (sR Uq (bN9 OT Ÿ)) (wN (Ĺ (ŷ Q7 Ġ 4) (ŷ Q7 Ġ 6)))) l w>=(Xh N M true i,w):=by have t1:wy OT kw l w>=(È z.1,w):=XV (i:=0) Â rfl (û v);have t2:bX9 Uq (bN9 OT Ÿ) l w>=(ñ (Na (NM (au0 N M i) r (oT r.1)) 1),w):=Mx (Ql5 (a:=1) Â rfl);have t3:=Ql8 (a:=first+S i) (b:=first+S (i+1)) (w:=w) (env:=l) (zh Â Â:Qh Q7 Ġ dd l w=_) (zh Â Â:Qh Q7 Ġ LV l w=_) À (pD (n<=FI) o);rw[Jk (Xf t1 t2 t3) Į];unfold Xh uZ Ug kn;rw[ð (first+S (i+1)-(first+S i)=S (i+1)-S i),<- QiT rows m fork first (S i) (S (i+1)) s2,<- List.map_drop];rw[v];rw[<- L,v];rfl
  refine l5 (Lw tp (rfl:l[3]?=_) (by rw[Bq,List.length_range];have:q<n:=ql;have:n<=FI:=o;lia));refine ϯ (Qw Â);show è (aV5 [_,_,_,Sl.acc (bw9 i N M true++[Xh N M true i]),Sl.val ↥(S (i+1):Nat),_,_,_],w)>=(aV5 [_,_,_,Sl.acc (bw9 (i+1) N M true),Sl.val ↥(S (i+1):Nat),_,_,_],w);rw[List.range_succ,List.map_append];rfl)
 rw[u]at c;refine Oe ((J q).set 3 (Õ (Ø (ZR N M true))));refine Qq (rfl:v7 3 _ w>=(ϧ _,w)) (Ē aF aN8 w (Qw (d:=È (S 0:Nat)) (û R)) (Ē aF (J q) w ?_ (Ý (QT io ((J q).set 3 (Õ (Ø (ZR N M true)))) w=_) (QF rfl))));refine zH (Ye (f:=Qx 2 Yo (Qc bC1 ww)) (ds:=C) ?_) c;refine Qgv (x:=ú n) (y:=ú M) ?_ Â (Z5 (œ (Qgo hM Y h2 o) cn) w);rw[yf (ds:=K) Â,P]
def Qiv{n:Nat}(h:1<=n):ixN n (-1)>=(n-1):=by unfold ixN;rw[Eg Á,aL8];congr 1;lia
def emp:DV:=ñ [È 0,bK8,bK8,ī,ī]
def Qk0(r:Int)(hp:Hs):J1 [cs9,È r] (hp++[cS1 Ü])>=(ī,hp++[lI r (ot+1) 0 0 0,Ø [emp]]):=by
 let E:En:=[! bT,Ö r]
 have a:∀{X:ay3} {t t':Ã OV} {f:Str} {e:aJ} {v:DV},e E (hp++Ϸ Ü X::t)>=(v,hp++Ϸ Ü X::t')->⇑X<FI->ZV Ü f Ë e E (hp++Ϸ Ü X::t)>=(ϧ E,hp++cS2 Ü f v X::t'):=λ{X t t' f e v} b c=>by refine ϯ (Ji b Â (VZ ..) c);rw[Fb]
 have h:YJ (é (eC (ñ [È 0,bK8,bK8,ī,ī]))) E (hp++[Ϸ Ü [(Pw, È r)]])>=(ë (ot+1),hp++Ϸ Ü [(Pw, È r)]::[Ø [emp]]):=bn5 (è (aO7 (hp++[OV.ins Ü [(Pw, È r)]]),(hp++[_])++[ck [emp]])=_) An A8
 exact Vh (env:=E) (aC (a (X:=[]) (t:=[]) (t':=[]) Â Á) (a h (a0 ((1:Nat)<FI))) (aC (a rfl (Θ (a0 ((2:Nat)<FI)))) (a rfl (Θ (a0 ((3:Nat)<FI)))) (a rfl (Θ (a0 ((4:Nat)<FI))))))
def dM(w:Hs)(O4 t b:Int)(ps:á):Hs:=w++[lI O4 (ĳ+1) t 0 b,Ø ps]
def vg(w:Hs)(O4 t b:Int)(ps:á):(cO9 t b)[ĳ]?>=(lI O4 (ĳ+1) t 0 b):=ą dM
def Dm(w:Hs)(O4 t b:Int)(ps:á):ie (cO9 t b) (ĳ+1) ps:=Υ dM aG2 Nat.add_sub_cancel_left
def TX(w:Hs)(O4 t b t' c:Int)(ps a:á):((cO9 t b).set ĳ (lI O4 (ĳ+1) t' 0 c)).set (ĳ+1) (Ø a)=cO8 t' c a:=by unfold dM;rw[cm _ ę,Nat.sub_self,cm _ À,Nat.add_sub_cancel_left];rfl
def QjT(w:Hs)(O4 t b t' a:Int)(ps:á):(cO9 t b).set ĳ (lI O4 (ĳ+1) t' 0 a)=cO9 t' a:=Υ dM (cm _ ę) Nat.sub_self
def TY{w:Hs}{i:Nat}(h:i<ĳ)(O4 t b:Int)(ps:á):ŵ (cO9 t b)=ŵ w:=Ah h
def QjV{r:Int}{fa:bR}{a hp:Hs}(c:aH7 a>=([È r],hp)):K4 Ü 2 J1 fa env a>=(cs9,dM hp r 0 0 [emp]):=by unfold K4;rw[bQ3];have al:Xr (cS1 Ü) hp>=(cs9,hp++[cS1 Ü]):=rfl;have b:QJ (oX (CS [oT r]+1) 2) hp>=((),hp):=rfl;rw[bH1,Qe al,Qe (Qk0 r hp)];rfl
def QcH{w:Hs}{a O4:Nat}{ps:á}(o:ie w a ps)(h1:1<=dO)(O:dO<=5000):xP [ų,ú O4] w>=(aJ1,cO9 (Ì (dO-1:Nat)) dO):=by
 have F:a<ĳ:=ZC o;have l:∀t b u,ie (cO8 t b u) a ps:=λ t b u=>Å (TY F) o
 obtain⟨e,c,ep⟩:∃e c,ps=e::c:=by cases ps with|nil=>simp at h1|cons x y=>exact Œ x y
 let h:Sl->En:=λ z=>[Lm,bZ9,! ĝ,z]
 refine Oe (h (sl3 (λ i=>c.getD i ī) ch3));refine Fi (h Ś) (cO8 0 0 [emp]) (QjV uq);refine Ē aF (h Ś) (cO8 0 1 [e]) (ZM (wE a ĳ Â bt9 (qd ..) (Zk rfl (Yi (i:=0) (d:=e) Â (l _ _ _) rfl (û ep))) (bk4 (VF (i:=0) (d:=e) bt9 (Dm ..) À Ê) TX))) ?_
 let J:cd7:=λ i=>h (bb0 (c.getD i ī))
 let W:NU Hs:=λ i=>cO8 0 (Ì (1+i:Nat)) (e::c.take i)
 have L:ch3+1=dO:=û ep
 have j:=K7 (b:=aC4 d env' 3 d (zx env')) J W c À (λ i d hd=>by
  have hi:i<ch3:=bi9;have C:c.getD i ī=d:=Ρ Cp hd
  show zx (h as3) YP>=(ϧ (h (Õ (c.getD i ī))),W (i+1));rw[C];have I:JR [aJ1,d] YP>=(ú ⇑(e::c.take i),W (i+1)):=å (Lz (pg:=d) bt9 (Dm ..) À (OQ Ba A9)) (by rw[TX];show è (_,cO8 0 (Ì (1+i:Nat)+1) (e::c.take i++[d]))>=(_,cO8 0 (Ì (1+(i+1):Nat)) (e::c.take (i+1)));rw[List.take_add_one,hd,ð ((Ì (1+i:Nat)+1)=Ì (1+(i+1):Nat))];rfl)
  exact ZM (wE a ĳ Â bt9 (Um ..) uq I))
 refine Ē aF (J ch3) (cO9 0 (Ì (1+ch3:Nat))) ?_ ?_
 ·refine ϯ (zH (Ye (ds:=c) ?_) j)
  ·have:=Qj8 (a:=1) (n:=a) (ds:=ps) (f:=Ë) (g:=Ÿ) (env:=aN8) (hp:=bi0) Â (l _ _ _) rfl;exact this.trans (û ep)
  ·show è ((_,J ch3),cO8 0 _ (e::c.take ch3))=_;rw[List.take_length,<- ep]
 have r:=Qae (i:=dO-1) (hp:=cO9 0 (Ì (1+ch3:Nat))) bt9 (Dm ..) À;rw[QjT]at r;refine Ē aF (J ch3) (cO9 (Ì (dO-1:Nat)) dO) (ZM (wE a ĳ Â bt9 (Qes ..) (Zn (v:=ú (dO-1:Nat)) ?_) (r.trans (nV (ð (Ì (1+ch3:Nat)=Ì dO)))))) (QF rfl);rw[VA (bQ9 n a (l _ _ _)) rfl];congr 3;lia
def UK(M:Nat):NU (TP.Rw->NU (bD6 (NU (NU (á->á)))))
 |0,_,_,_,_,_,P=>P
 |k+1,rows,m,fork,lv,first,P=>É (NH<=1) P (UK M k bP0 M true (lv+1) bE4 (P++JX bP0 M true (lv+1) bE4))
def Dr{n m:Nat}(a:1<=m):TP.qn n m<=aK1:=by obtain⟨q1,b,c⟩:=bc8 n a;have:(TP.qn n m-1) * 1<=(TP.qn n m-1) * m:=ś a;lia
def xW{o:aJ}{fa:bR}{hp hp1:Hs}{a b:Nat}{ds es:á}(j:cq2>=(ų,hp))(h:bM8 a)(e:bx8>=([ca2],hp1))(h1:ie hp1 a ds)(f:ie hp1 b es)(i:Ć+⇑es<=Ņ):JC Ā JD o fa env hp>=(ī,hp1.set a cF9):=by
 unfold JC;rw[Qe j];have c:yW Ā Ŗ hp>=((),hp):=Ő ((cL3 >>= _) hp=_) bk8
 rw[bQ3,Qe e];show(cL3 >>= _) hp1=_;rw[Φ h1];show(Zx b >>= _) hp1=_;rw[Φ f];show(QJ (FX (Ć+⇑es) lim) >>= λ_=>yn a cF9 >>= λ_=>Ô DV.non) hp1=_;rw[cG3 (FX (Ć+⇑es) lim) i];rfl
def Qb9{rows:TP.Rw}{m:Nat}(a:1<=m)(h:¬ NH<=1):ab9 1:=Ě (bY7 n a)
def QgW{T:DV}{O4:Nat}(hr:2<=O4)(I:O4<=50)(w:Hs):∀(k:Nat)(rows:TP.Rw)(m:Nat)(fork:Bool)(lv first:Nat)(P:á)(t:Hs)(e:Nat),NH<=k->k<e->1<=m->(bv2->3<=m)->al7 FI->bE4=first+NH->bE4+2 * NH<=2000 ->
    ∃h fs t',J0 (eB (Ò dD (wS 3) 1)) yc e [! T,ģ O4,ģ lv,aw6 az1,! ĝ] (w++Ø P::t)>=(ϧ [! T,bZ9,! h,! fs,! ĝ],w++Ø (UK (O4+1) k rows m fork lv first P)::t')/\CS (UK (O4+1) k rows m fork lv first P)<=bE4+2 * NH/\bE4<=⇑(UK (O4+1) k rows m fork lv first P):=by
  intro k;induction k with
  |zero =>
    intro rows m fork lv first P t e h1 h2 i
    have:=(cf7 i).1;lia
  |succ k J =>
    intro rows m fork lv first P t e hq F i hf hl hP C
    obtain⟨e,rfl⟩:∃f,e=f+1:=by3 e;have r:eB (Ò dD (wS 3) 1) [! T,ģ O4,ģ lv,aw6 az1,! ĝ] (w++Ø P::t)>=(AN 1 NH,w++Ø P::t):=by
      refine ϯ (Q5 (K9 (yf (ds:=az1) Â) rfl));rw[j9];congr 2;by_cases c:1<NH
      . rw[Em c,bf6]
      . rw[Ep c,aF0]
    unfold UK;by_cases c:NH<=1
    . rw[Eh c]
      refine⟨È lv,bk0,t,Qke (r.trans (nV aF0)),À,ę⟩
    . rw[Eg c]
      have O:=Qb9 i c;have Ng:=bY7 n i
      let N:=bP0
      have v:ch4=NH:=TP.Ue rows m fork first
      have Ny:aH9 N (O4+1)<NH:=Å v (TP.T_ À À)
      have u:2 * aH9 N (O4+1)<=NH+1:=by obtain⟨a1,a2,a3⟩:=bc8 ch4 (ð (1<=O4+1));have:(aH9 N (O4+1)-1) * 2<=(aH9 N (O4+1)-1) * (O4+1):=ś À;lia
      let Q:=P++JX N (O4+1) true (lv+1) bE4
      have z:⇑Q=bE4+aH9 N (O4+1):=Ξ An qG
      let E:DV->DV->En:=λ x y=>[! T,bZ9,! x,! y,! ĝ]
      have hp:ie (w++Ø P::t) ĳ P:=VZ w _ t;have Y:CZ 2 VL Ÿ (E ↥lv bk0) (w++Ø P::t)>=(ϧ (E ↥(Ì lv+1) bk0),w++Ø P::t):=rfl;have l:(Ì lv+1)=Ì (lv+1:Nat):=Ê
      have s2:Qx 3 Yn (Ç 3 (Ĺ (Qh XO (wS 4) (wS 3)) cx2)) (E ↥(Ì lv+1) bk0) (w++Ø P::t)>=(Ø (ZR N (O4+1) true),w++Ø P::t):=by refine bG (Xf Â (v':=ú first) ?_ (zh (j:=1) Â rfl)) (QkR i hf O À À À À À);rw[VA (bQ9 n ĳ hp) (yf (ds:=az1) Â),j9];congr 3;lia
      have L:=gh (w++Ø P::t) N (O4+1) true (lv+1) bE4 À;have s3:JC Ā JD dd (é (ù 3 jo 2 (nB 3 (wS 4)))) (E ↥(Ì lv+1) (Ø (ZR N (O4+1) true))) (w++Ø P::t)>=(ī,w++Ø Q::(t++[Ø (JX N (O4+1) true (lv+1) bE4)])):=by
        have o:(w++Ø P::t)++[ck (JX N (O4+1) true (lv+1) bE4)]=w++Ø P::(t++[Ø (JX N (O4+1) true (lv+1) bE4)]):=Ê
        refine œ (xW (a:=ĳ) (b:=⇑(w++Ø P::t)) (ds:=P) (es:=JX N (O4+1) true (lv+1) bE4) (hp1:=w++Ø P::(t++[Ø (JX N (O4+1) true (lv+1) bE4)])) Â hp (Zn ?_) (VZ w _ _) ?_ (Ĵ qG)) Fb
        . refine bG (cq3 Â (bQ9 n ĳ hp)) ?_
          rw[l,<- o];exact L
        . rw[<- o,aW6,Nat.sub_self];rfl
      have step:yc (E ↥lv bk0) (w++Ø P::t)>=(ϧ (E ↥(Ì (lv+1:Nat)) (Ø (ZR N (O4+1) true))),w++Ø Q::(t++[Ø (JX N (O4+1) true (lv+1) bE4)])):=æ l (aC Y (Qw s2) (ZM s3))
      obtain⟨h,fs,t',R,U,X⟩:=J N (O4+1) true (lv+1) bE4 Q (t++[Ø (JX N (O4+1) true (lv+1) bE4)]) e À À À (λ_=>À) À z À;refine⟨h,fs,t',å (VD (r.trans (nV bf6)) step) R,Bj U À,Bj À X⟩
def zT(rows:TP.Rw)(O4:Nat):á:=UK (O4+1) (ï O4) rows O4 false 0 0 (JX rows O4 false 0 0)
def QgX{w:Hs}{T:DV}{rows:TP.Rw}{O4:Nat}(i:cJ w T rows)(j:2<=O4)(f:O4<=50)(u:al7 300):∃t,yo [T,ú O4] w>=(ë ⇑(w++t),cO7 (w++t) (Ì (⇑ap1-1:Nat)) ⇑ap1 ap1)/\1<=⇑ap1/\CS ap1<=2000:=by have r:=bY7 n (ð (1<=O4));have q1:=(cf7 (ð (1<=O4))).1;have lf:=Qk8 i (ð (1<=O4)) À À;have l:=gh w rows O4 false 0 0 À;obtain⟨h,fs,t',e,b,c⟩:=QgW (T:=T) j f w (ï O4) rows O4 false 0 0 (JX rows O4 false 0 0) [] Ņ ę À À Ê À (Ĵ qG) (Ĵ qG);rw[qG]at b c;have b:⇑ap1<=ï O4+2 * ï O4:=b;have c:ï O4<=⇑ap1:=c;refine cV1 (Ø ap1::t') À À;have o:=QcH (w:=w++Ø ap1::t') (a:=ĳ) (O4:=O4) (ps:=ap1) (VZ w _ t') À À;refine Oe [! T,bZ9,! h,! fs,! ĝ];refine Fi [! T,bZ9,ģ (0:Nat),Ś,Ś] w rfl;refine Fi [! T,bZ9,ģ (0:Nat),aw6 (Dn O4 false),Ś] w (cf0 lf);refine Fi [! T,bZ9,ģ (0:Nat),aw6 (Dn O4 false),! ĝ] (w++[Ø (JX rows O4 false 0 0)]) (bG (cq3 Â rfl) l);refine l5 (show xR _ _=_ by unfold xR;exact e);exact QF (cf0 o)
def ZL(l:Int)(ks ps:Ď)(hi sd:Č):DV:=ñ [È l,cs,ab6,opt hi,opt sd]
def NP(hi:Č)(k:Int):Bool:=match hi with
 |none=>false
 |some h=>FX h k
def aL(ks:Ď)(k:Int):Nat:=⇑(ae2 x (FX x k))
def aU(ks:Ď)(k:Int):Nat:=⇑(ae2 x (AN x k))
def Xb(ks:Ď)(k:Int):i8<=bw:=Ca _ _
def VP(ks:Ď)(k:Int):oQ<=bw:=Ca _ _
def Qn0{f:aJ}(hf:aT>=(o0,hp)):lF f env hp>=(ds,hp):=lw lF hf
def Sg{t:bV}{p:bx1}(ks:Ď)(k:Int)(b:E9 bw)(a:∀x hp,t [Ö x,Ö k] hp>=(p x,hp))(hp:Hs):bX9 Z2 (bo1 cL7 [1] t Ë) [! cs,Ö k] hp>=(È ⇑(ks.filter p),hp):=by
 have q:Jb false cL7 [1] t Ë [! cs,Ö k] hp>=(Ø (pd (NM (ks.filter p) x x)),hp):=ϻ Jb (Qe (D_ (Qn0 (ds:=ø) Â))) (cs7 (Qe (Qdp (p:=p) (g:=λ x=>x) ks (λ i hi=>jO ø i (Å Bq hi) hp) (λ x=>a x hp) (λ x=>rfl) À)))
 rw[bt4 q (MC ..),Bq,Bq]
def ku(ks:Ď)(k:Int)(a:E9 bw):ZP [cs,aY7]=hA i8:=yt λ hp=>bk7 [! cs,Ö k] (Sg ks k a EK hp)
def P_(ks:Ď)(k:Int)(a:E9 bw):X5 [cs,aY7]=hA oQ:=yt λ hp=>bk7 [! cs,Ö k] (Sg ks k a EK hp)
def Qgg(l:Int)(ks ps:Ď)(hi sd:Č)(k:Int):qx [aC9,aY7]=nv (NP hi k):=kb hi
def Qm2(l:Int)(ks ps:Ď)(hi sd:Č)(k:Int)(b:E9 bw)(hp:dO=bw+1):qy [aC9,aY7]=hA (ps.getD i8 0):=by
 have h:=Xb ks k;have a:=gR ps (i:=Ì i8) À À;rw[B0]at a;refine JE (Jo (Ħ x ab6 y i8 rfl (G5 x cs y k rfl rfl (ku ks k b)) ?_))<;>try exact[]
 simp[bF,a]
def Qkj(l:Int)(ks ps:Ď)(hi sd:Č)(k:Int)(e:E9 bw)(hp:dO=bw):Xq [aC9,aY7]=Ô (É (oQ=i8) ī (È (ps.getD oQ 0))):=by
 have h:=Xb ks k;have j:=VP ks k;refine CH [! aC9,Ö k,! cs,Ö oQ] ?_;refine cU6 d cs;refine ID d (È oQ) (G5 x cs y k rfl rfl (P_ ks k e));have c:eB (Qh eE io (ù 2 ZP 2 fy)) [! aC9,Ö k,! cs,Ö oQ]=Ô (oX oQ i8):=by refine K2 (Μ x oQ y i8 rfl (G5 x cs y k rfl rfl (ku ks k e)) ?_);rw[Xk];congr 2;rw[Bool.eq_iff_iff];simp only[beq_iff_eq,decide_eq_true_eq];lia
 by_cases b:oQ=i8
 ·rw[Eh b];exact Mi (å (wH (c.trans (ą b))) (Jo rfl))
 ·rw[Eg b];refine ϯ (Zc (cs7 (wI (c.trans (ą b)))));have f:oQ<bw:=by
   have:oQ<=i8:=by unfold aU aL;rw[<- List.countP_eq_length_filter,<- List.countP_eq_length_filter];exact List.countP_mono_left λ x _ hx=>by simp at hx ⊢;lia
   lia
  have a:=gR ps (i:=Ì oQ) À À;rw[B0]at a;exact Jo (Ħ x ab6 y oQ rfl rfl (ky bF a))
def KG{f:aJ}{g:bR}{x:DV}(h:aT>=(x,hp1))(h':bS5>=(xs,hp2)):Qc f g env hp>=(x::xs,hp2):=Υ Qc NB (Qe h')
def RK{F:Ez}{f c a e:aJ}(h:dc=bZ8)(h':cm2=Ô y)(b:bF4=Ô z)(h3:e env=Ô u)(i:F [x,y,z,u]=bK2):Qx 4 F (Qc f (B6 c a e)) env=bK2:=by simp[Qx,Qc,Qj,h,h',b,h3,QJ,i]
def UP(l:Int)(ks ps:Ď)(hi sd:Č)(a b:DV):qZ [aC9,a,b]=N9 [È l,a,b,opt hi,opt sd]:=rfl
def runs(ks ns:Ď)(a b:Nat)(h:bw<=FI)(c:mh<=10):(co8 x (iI cs none ce7) y (Q7 x (ñ Ľ)) d (iI cs (ai8 b) none) (Q7 y d):į)=N9 (pd (EF a++ns++OZ b)):=by rw[vj,vi];simp only[Er,Q7];rw[X1 č];simp only[QJ,if_true,Er];rw[X1 č];simp[List.map_take,List.map_drop]
def PN{f g h q:aJ}{ks ns:Ď}{a b:Nat}(hf:dc=Ô cs)(i:SU=cc5 a)(j:h env=cc5 b)(o:q env=N9 Ľ)(l:bw<=FI)(n:mh<=10):Qh Q7 (IJ (bH f Zw ar2) q) (bN9 f h) env=N9 (pd (EF a++ns++OZ b)):=by
 have c:bH f Zw ar2 env=iI cs none ce7:=bt1 bH hf i Zw Ze dZ
 have e:bH f (Ze h) Zw env=iI cs (ai8 b) none:=bt1 bH hf j Zw Ze dZ
 rw[<- runs ks ns a b l n];simp only[Qh,c,e,o,Er,bind_assoc]
def U4(l:Int)(ks ps nk nw:Ď)(hi sd:Č)(k:Int)(a:E9 bw)(hp:E9 dO)(h1:nk.length<=10)(h2:nw.length<=10):zd [aC9,aY7,ñ (nk.map .int),ñ (nw.map .int)]=Ô (aC6 l (EF oQ++nk++OZ i8) (ps.take oQ++nw++ps.drop i8)):=by refine CH [! aC9,Ö k,!(ñ (nk.map .int)),!(ñ (nw.map .int)),! cs,! ab6,ģ oQ,ģ i8] ?_;refine cU6 d cs;refine cU6 d ab6;refine ID d (ú oQ) (G5 x cs y k rfl rfl (P_ ks k a));refine ID d (ú i8) (G5 x cs y k rfl rfl (ku ks k a));exact Jo (RL (x:=aC9) rfl (PN rfl rfl rfl rfl À h1) (PN rfl rfl rfl rfl À h2) (UP l ks ps hi sd _ _))
def rB(ks:Ď)(c:Nat)(k:Int):Ď:=EF c++k::OZ c
def QnT(ks:Ď)(c:Nat)(k:Int)(h:bw<=FI):(co8 a (iI cs none (è ts)) b (Q7 a (ñ [aY7])) d (iI cs (è ts) none) (Q7 b d):į)=N9 (pd (rB ks c k)):=by rw[vj,vi];simp only[Er,Q7];rw[X1 č];simp only[QJ,if_true,Er];rw[X1 č];simp[rB,List.map_take,List.map_drop]
def Wf{f g h:aJ}{ks:Ď}{c:Nat}{k:Int}(hf:dc=Ô cs)(a:SU=hA ts)(j:h env=hA k)(l:bw<=FI):Qh Q7 (IJ (bH f Zw ar2) (ZO (é h))) (bH f ar2 Zw) env=N9 (pd (rB ks c k)):=by
 have b:bH f Zw ar2 env=iI cs none (è ts):=bt1 bH hf a Zw Ze dZ
 have e:bH f ar2 Zw env=iI cs (è ts) none:=bt1 bH hf a Zw Ze dZ
 have i:ZO (é h) env=N9 [aY7]:=by simp only[ZO,Qc,Qj,j,Er];rfl
 rw[<- QnT ks c k l];simp only[Qh,b,e,i,Er,bind_assoc]
def QgL(l:Int)(ks ps:Ď)(hi sd:Č)(k kid:Int)(a:E9 bw)(hp:dO<=FI):zc [aC9,aY7,È kid]=Ô (aC6 l (rB ks i8 k) (rB ps (i8+1) kid)):=by
 refine CH [! aC9,Ö k,Ö kid,! cs,! ab6,ģ i8,Ö (Ì i8+1)] ?_;refine cU6 d cs;refine cU6 d ab6;refine ID d (ú i8) (G5 x cs y k rfl rfl (ku ks k a));refine cU6 d (È (Ì i8+1));refine Jo (RL (x:=aC9) (y:=ñ (pd (rB ks i8 k))) (z:=ñ (pd (rB ps (i8+1) kid))) rfl ?_ ?_ (UP l ks ps hi sd _ _))
 ·exact Wf rfl rfl rfl À
 ·exact Wf rfl (N2 (Ô (oT (Ì i8+1)):į) _ (ð ((Ì i8+1)=Ì (i8+1:Nat)))) rfl hp
def Zz(l:Int)(n:Nat):Nat:=É (l=0) (n / 2) (n / 2+1)
def J_(l:Int)(ks ps:Ď)(hi sd:Č)(a:Int):DV :=
 ñ [ZL l cI6 (ps.take (Zz l bw)) (è (ks.getD cI5 0)) (è a),aC6 l (OZ (Zz l bw)) (ps.drop (Zz l bw)),È (ks.getD cI5 0)]
def QgY(l:Int)(ks ps:Ď)(hi sd:Č)(b:Int)(h3:3<=bw)(u:E9 bw):yp [aC9,È b]=Ô (J_ l ks ps hi sd b):=by
 have t:(Ì bw) / 2=Ì (cI5:Nat):=À
 have a:=gR ks (i:=Ì (cI5:Nat)) À À;rw[B0]at a;have j:É (l=0) (oT (Ì (cI5:Nat))) (È (Ì (cI5:Nat)+1))=ú (Zz l bw:Nat):=aB6 Zz
 generalize o:Zz l bw=C at j;generalize r:ks.getD cI5 0=c at a;have n:cL (br7 eE 2 0) Id (ax4 5) [! aC9,Ö b,bA8,! cs,! ab6,ģ (cI5:Nat),bo4,Ś,Ś,Ś]=cc5 C:=by
  rw[<- j];by_cases q:l=0
  ·simp[cL,eB,Qh,Qb,eC,Xk,fU,q]
  ·have:pk l 0:=bc9
   simp[cL,eB,Qh,Qb,eC,Xk,fU,q,this,ju]
 unfold J_;rw[o,r];refine CH [! aC9,Ö b,bA8,! cs,! ab6,ģ (cI5:Nat),bo4,ģ C,!(ZL l cI6 bj0 bA9 (è b)),!(aC6 l (OZ C) (ps.drop C))] ?_;refine cU6 d (È l);refine cU6 d cs;refine cU6 d ab6;refine ID d (ú (cI5:Nat)) ?_
 ·refine Ħ x (ú bw) y 2 ?_ rfl (œ (KS _ 2 Á Á) t);show(Ô (oT (Ì ⇑(ks.map DV.int))):į)=_;rw[Bq]
 refine ID d bK0 (QH (x:=cs) (y:=ú (cI5:Nat)) rfl rfl (Qk3 a));refine ID d (ú C) n;refine ID d (ZL l cI6 bj0 bA9 (è b)) ?_
 ·have e:=WH (f:=io) (g:=Id) (env:=[! aC9,Ö b,bA8,! cs,! ab6,ģ (cI5:Nat),bo4,ģ C,Ś,Ś]) (ds:=ø) (m:=cI5) rfl rfl;have h:=WH (f:=dd) (g:=OT) (env:=[! aC9,Ö b,bA8,! cs,! ab6,ģ (cI5:Nat),bo4,ģ C,Ś,Ś]) (ds:=ϋ) (m:=C) rfl rfl;simp only[List.set_cons_succ,List.set_cons_zero,Bb,List.map_nil,Ba,List.length_nil,List.cons_append,List.nil_append,List.replicate,ZO,Qc,Qj,e,h,Er];simp only[ZL,List.map_take,opt];rfl
 refine ID d (aC6 l (OZ C) (ps.drop C)) ?_
 ·have e:=WI (f:=io) (g:=OT) (env:=[! aC9,Ö b,bA8,! cs,! ab6,ģ (cI5:Nat),bo4,ģ C,!(ZL l cI6 bj0 bA9 (è b)),Ś]) (ds:=ø) (m:=C) rfl rfl;have h:=WI (f:=dd) (g:=OT) (env:=[! aC9,Ö b,bA8,! cs,! ab6,ģ (cI5:Nat),bo4,ģ C,!(ZL l cI6 bj0 bA9 (è b)),Ś]) (ds:=ϋ) (m:=C) rfl rfl;simp only[List.set_cons_succ,List.set_cons_zero,Bb,List.map_nil,Ba,List.length_nil,List.cons_append,List.nil_append,List.replicate,ZO,Qc,Qj,e,h,Er];simp only[ZL,List.map_drop];rfl
 exact Jo rfl
def XY(p:TR.Pg):Ō=ZL p.lv p.ks p.ps p.hi (bu0 n oq):=by unfold aK ZL;cases p.sd<;>rfl
def Qg1(p:TR.Pg)(k:Int):qx [Ō,aY7]=nv (TR.Zy p k):=by rw[XY,Qgg];unfold NP TR.Zy;cases p.hi<;>rfl
def QnB(p:TR.Pg)(k c:Int)(b:bM7)(hp:Ϲ=Š+1)(a:aK4 (cC4 k)>=c):qy [Ō,aY7]=hA c:=by rw[XY,Qm2 _ _ _ _ _ _ b hp];rw[Cp,Ý (aK4 Pe>=c) a];rfl
def Qji(p:TR.Pg)(k:Int)(a:bM7)(hp:Ϲ=Š):Xq [Ō,aY7]=Ô (opt (TR.Q4 p k)):=by
 rw[XY,Qkj _ _ _ _ _ _ a hp];unfold TR.Q4;by_cases h:oS=Pe
 ·rw[cH1,Eh (Ý (bu1 k=cC4 k) h)];rfl
 ·rw[Eg h,Eg (Ý (¬ bu1 k=cC4 k) h)];have h1:=TR.ko p.ks k;have h2:=TR.Xb p.ks k;have h3:¬ bu1 k=cC4 k:=h;rw[Cp,Ý (aK4 oS>=(p.ps[bu1 k]' À)) (Ab _),Ab (ð (bu1 k<Ϲ))];rfl
def Qls(p:TR.Pg)(k x:Int)(a:bM7)(hp:E9 Ϲ):jp [Ō,aY7,cj4]=Ô (aK (TR.QM p k x)):=by have e:=U4 p.lv p.ks p.ps [k] [x] p.hi (bu0 n oq) k a hp Ê Ê;rw[XY,XY];refine CH [!(ZL p.lv p.ks p.ps p.hi (bu0 n oq)),Ö k,Ö x] (Jo (RK rfl rfl rfl rfl (aW3 ?_)));simp[TR.QM,TR.aU,TR.aL,aU,aL]
def Qd7(p:TR.Pg)(k:Int)(a:bM7)(hp:E9 Ϲ):VJ [Ō,aY7]=Ô (aK (TR.without p k)):=by have e:=U4 p.lv p.ks p.ps [] [] p.hi (bu0 n oq) k a hp Ê Ê;rw[XY,XY];refine CH [!(ZL p.lv p.ks p.ps p.hi (bu0 n oq)),Ö k] (Jo (RK rfl rfl rfl rfl (aW3 ?_)));simp[TR.without,TR.aU,TR.aL,aU,aL]
def Qd6(p:TR.Pg)(k:Int)(c:Nat)(a:bM7)(hp:Ϲ<=FI):zc [Ō,aY7,bK0]=Ô (aK (TR.Zb p k c)):=by rw[XY,QgL _ _ _ _ _ _ _ a hp,XY];rfl
def Qlr(p:TR.Pg)(O4:Nat):Yt [Ō,È O4]=nv (AN O4 Š):=by
 have e:AN rG (Ì ⇑ir)=AN O4 Š:=by rw[Bq];congr 1;rw[eq_iff_iff];lia
 refine CH [! Ō,bZ9] (Jo (Ħ x (ú ⇑ir) y O4 rfl rfl (ϯ (yN _ _))));rw[<- e]
def Qg2(p:TR.Pg)(n:Nat)(h3:3<=Š)(b:bM7):yp [Ō,È n]=N9 [aK (TR.Q9 p n),aK (TR.QR p),È (TR.J9 p)]:=by
 rw[XY,QgY _ _ _ _ _ _ h3 b];unfold J_;rw[XY,XY];have a:Zz p.lv Š=TR.Zz p:=by
  unfold Zz TR.Zz TR.mid;by_cases h:LJ
  ·simp[h]
  ·rw[Eg h,aE]
 rw[a];rfl
structure At(hp:Hs)(n k a f q:Nat)(S:TR.Sh)(w:TR.Wk):Û where
 h1:bU1 S.O4 S.top S.rd S.wr
 h2:L4 k Ů
 h3:E8 a>=(fV n f q w)
 h4:E8 f>=(nj (fJ w.O5))
 h5:L4 q (aM w.pairs)
structure fC(n k a f q:Nat):Û where
 nk:n≠k
 na:n≠a
 nf:n≠f
 nq:n≠q
 ka:k≠a
 kf:k≠f
 kq:k≠q
 af:a≠f
 aq:a≠q
 fq:f≠q
def Fr(hp hp':Hs)(n k a f q:Nat):Û:=ot<=hp'.length/\∀i,i<ot->i≠n->i≠k->i≠a->i≠f->i≠q->ŵ hp'=ŵ hp
section
variable{hp hp' hp2:Hs}{n k a f q:Nat}{S S':TR.Sh}{w w':TR.Wk}
def Fr.refl:cr4 hp n k a f q:=Ĭ ę (λ_ _ _ _ _ _ _=>rfl)
def Fr.trans(x:cr5 n k a f q)(y:Fr hp' hp2 n k a f q):cr4 hp2 n k a f q:=Ĭ (Bj x.1 y.1) (λ i hi b c e h j=>å (y.2 i (Ay hi x.1) b c e h j) (x.2 i hi b c e h j))
def gs{n m:Nat}{Y:Ð OV}(h:n≠m)(h':E8 m=Y):(μ n X)[m]?=Y:=å (Jg _ _ _ _ h) h'
def rR{n:Nat}(h':bC5>=Y):(μ n X)[n]?>=X:=Jx _ _ _ (û h')
def At.walk(A:At hp n k a f q S w)(D:fC n k a f q)(w':TR.Wk)(c:w'.O5=w.O5)(e:cw7):At (μ a (fV n f q w')) n k a f q S w'/\cr4 (μ a (fV n f q w')) n k a f q :=
 da ⟨gs D.na.symm A.h1,gs D.ka.symm A.h2,rR A.h3,cP0 D.af c A.h4,cP0 D.aq e A.h5⟩ Ê (λ i hi h j b l o=>Jg _ _ _ _ (Ş b))
def At.shelf(A:At hp n k a f q S w)(D:fC n k a f q)(S':TR.Sh)(e:S'.O4=S.O4):At ((as7 n S.O4 S'.top S'.rd S'.wr).set k (Ø (S'.pg.map aK))) n k a f q S' w/\cr4 ((as7 n S.O4 S'.top S'.rd S'.wr).set k (Ø (S'.pg.map aK))) n k a f q :=
 da ⟨cP0 D.nk.symm e (rR A.h1),rR (gs D.nk A.h2),gs D.ka (gs D.na A.h3),gs D.kf (gs D.nf A.h4),gs D.kq (gs D.nq A.h5)⟩ Ê (λ i hi b c h j l=>å (Jg _ _ _ _ (Ş c)) (Jg _ _ _ _ (Ş b)))
def At.count(A:At hp n k a f q S w)(D:fC n k a f q)(S':TR.Sh)(e:S'.O4=S.O4)(c:S'.pg=S.pg):At (as7 n S.O4 S'.top S'.rd S'.wr) n k a f q S' w/\cr4 (as7 n S.O4 S'.top S'.rd S'.wr) n k a f q :=
 da ⟨Å e (rR A.h1),cP0 D.nk c A.h2,gs D.na A.h3,gs D.nf A.h4,gs D.nq A.h5⟩ Ê (λ i hi b h j l o=>Jg _ _ _ _ (Ş b))
def At.fork(A:At hp n k a f q S w)(D:fC n k a f q)(w':TR.Wk)(h:fV n f q w'=fV n f q w)(e:cw7):At (μ f (nj (fJ w'.O5))) n k a f q S w'/\cr4 (μ f (nj (fJ w'.O5))) n k a f q :=
 da ⟨gs D.nf.symm A.h1,gs D.kf.symm A.h2,cP0 D.af.symm h A.h3,rR A.h4,cP0 D.fq e A.h5⟩ Ê (λ i hi c j l b o=>Jg _ _ _ _ (Ş b))
def At.pair(A:At hp n k a f q S w)(D:fC n k a f q)(w':TR.Wk)(h:fV n f q w'=fV n f q w)(e:w'.O5=w.O5):At (μ q (bv0 w'.pairs)) n k a f q S w'/\cr4 (μ q (bv0 w'.pairs)) n k a f q :=
 da ⟨gs D.nq.symm A.h1,gs D.kq.symm A.h2,cP0 D.aq.symm h A.h3,cP0 D.fq.symm e A.h4,rR A.h5⟩ Ê (λ i hi c j l o b=>Jg _ _ _ _ (Ş b))
def At.more(A:At hp n k a f q S w)(x:OV):At (hp++[x]) n k a f q S w/\cr4 (hp++[x]) n k a f q:=by
 have b:bD8 i y OV (dC hp y->dC (hp++[x]) y):=λ{i y} h=>Å (Ah cO6) h
 exact da ⟨b A.h1,b A.h2,b A.h3,b A.h4,b A.h5⟩ Ê (λ i hi _ _ _ _ _=>Ah hi)
def S_(ps:bZ5)(p:TR.Pg):ps.map aK++[Ō]=pc (ps++[p]) aK:=Ê
def map_set(ps:bZ5)(i:Nat)(p:TR.Pg):(ps.map aK).set i Ō=pc (ps.set i p) aK:=nV List.map_set
def aX(A:At hp n k a f q S w){env:En}(h:aL6 0>=(Õ Ŗ)):QX ã ό Ë env hp>=(LD,hp):=QZ (ak h) A.h3 (QhA ..)
def gC(A:At hp n k a f q S w)(D:fC n k a f q){i:Nat}(hi:i<Î)(P:TR.Pg)(h3:S.O4<Ν->3<=Ν)(L:E9 Ν)(Q:Î<aw9):
  ∃hp',X4 [ų,ng,cj1] hp>=(oN (XP w i P).1,hp')/\At hp' n k a f q (XP w i P).2.1 (XP w i P).2.2/\cr5 n k a f q:=by
 have t0:Qx 2 Yt (nB 2 (ba6 FT J3 FF)) [Lm,r0,! cj1,Ś] hp>=(cR8 S.O4 Ν,hp) :=
  bn0 (Tm bY9 A.h1 (QjQ ..) XQ (QlS A.h1)) (Qlr P S.O4) hp
 unfold TR.Qt;by_cases x:cm1
 ·rw[Eh x];have hd:ė (AN S.O4 Ν):=aF0;rw[hd]at t0;have o:qk (eB (cj5 Yt 2 (ba6 FT J3 FF))) [Lm,r0,! cj1,Ś] hp>=(true,hp):=aQ3 b false t0;have wr:=VF (d:=cj1) (i:=i) A.h1 A.h2 D.nk aI7;rw[map_set]at wr;obtain⟨e,j⟩:=A.shelf D (Ė S pg (oh i P) wr cA2) rfl;obtain⟨c,l⟩:=e.walk D bK7 rfl rfl;refine cV1 _ c (j.trans l);refine Ĥ [Lm,r0,! cj1,Ś] (ao9 o ?_);refine l5 (ZM (Tm bY9 A.h1 (qd ..) cN7 wr));exact Qq (cP1 v ο rfl e.h3 wl) (QF (d:=ī) rfl)
 ·rw[Eg x];have hd:Ĝ (AN S.O4 Ν):=bf6;rw[hd]at t0;have o:qk (eB (cj5 Yt 2 (ba6 FT J3 FF))) [Lm,r0,! cj1,Ś] hp>=(Ž hp):=aQ3 b true t0;have pl:⇑Ů=Î:=Ê
  have O:=Qg2 P Î (h3 À) L;have y:=Lz (pg:=aK bJ3) A.h1 A.h2 D.nk (Ĵ pl);rw[pl,S_]at y;obtain⟨e,j⟩:=A.shelf D (Ė S pg (n4 [bJ3]) wr cA2) rfl;obtain⟨c,l⟩:=e.walk D (bK3 O1 (è Î)) rfl rfl;have wr:=VF (d:=aK (TR.Q9 P Î)) (i:=i) c.h1 c.h2 D.nk č;rw[map_set]at wr;obtain⟨r,z⟩:=c.shelf D (Ė S pg ((n4 [bJ3]).set i (TR.Q9 P Î)) wr (cA2+1)) rfl;obtain⟨t,C⟩:=r.walk D (Ė w O1 (è Î) aim bJ4) rfl rfl;obtain⟨h,F⟩:=t.walk D { w with O1:=è Î,aim:=bJ4,O6:=P.lv+1 } rfl rfl;obtain⟨u,I⟩:=h.walk D { w with O1:=è Î,aim:=bJ4,O6:=P.lv+1,place:=TR.Ju w.O5 (P.lv+1) } rfl rfl;refine cV1 _ u (j.trans (l.trans (z.trans (C.trans (F.trans I)))));refine Oe [Lm,r0,! cj1,!(ñ [aK (TR.Q9 P Î),aK bJ3,È bJ4])];refine cu6 o;have pg:=MY A.h1 A.h2;rw[pl]at pg;refine cu7 (bn0 (Tm bY9 A.h1 (U0 ..) XQ pg) O hp);refine l5 (Ji (Tm bY9 A.h1 (Um ..) (Zn (bL9 (AM i 1 _))) y) Â e.h3 wl);refine l5 (ZM (Tm (bY8 c) c.h1 (qd ..) (cN6 (bL9 (AM i 0 _))) wr));refine l5 (Ji (bL9 (AM i 2 _)) Â r.h3 wl);refine l5 (cP1 v (ú (P.lv+1:Nat)) (gp (bL9 (Ro P _)) rfl) t.h3 wl);have J:JC ss yY as6 (é CL) [Lm,r0,! cj1,!(ñ [aK (TR.Q9 P Î),aK bJ3,È bJ4])] _>=(oN (TR.Ju w.O5 (P.lv+1)),_) :=
   QkJ (hO h.h3 (gK ..)) h.h4 (Zn (hO h.h3 (Z_ ..)))
  refine l5 (Ji J Â h.h3 wl);exact QF (hO u.h3 (Mv ..))
#where
def vZ{r a b:Int}{n k:Nat}{ps:á}{hp:Hs}{t i:Nat}{key:Int}{l:Int}{ks h:Ď}{hi sd:Č}(h1:bU1 r t a b)(h2:L4 k ps)(c:n≠k)(hi1:i<dO)(o:ps[t]?>=(aC7 l h))(j:dO<99999):
  Jz [LD,È key,ng] hp>=(È dO,(as7 n r dO a (b+1)).set k (bu9 ps [ZL (l+1) [key] [Ì t,nW] none none])):=by
 let pg:DV:=ZL (l+1) [key] [Ì t,nW] none none
 let f:Hs:=(as7 n r t a (b+1)).set k (bu9 ps [pg])
 have y:JR [LD,pg] hp>=(È dO,f):=Lz h1 h2 c j;have g1:bU0 f[n]? r t a (b+1):=å (Jg _ _ _ _ c.symm) (Jx _ _ _ (û h1));have g2:f.set n (TH r dO a (b+1))=(as7 n r dO a (b+1)).set k (bu9 ps [pg]):=by show((μ n _).set k _).set n _=_;rw[List.set_comm _ _ c.symm,List.set_set]
 show _>=(_,(μ n _).set k (bu9 ps [pg]));rw[<- g2]
 let E:Sl->En:=λ z=>[! s0,cs6,r0,z]
 have tp:∀z,QX Ü bi3 Ë (E z) hp>=(È t,hp):=λ z=>hO h1 (MF ..);have lv:Qh Q7 (bL5 al6 (ŀ Ü bi3) 0) Ÿ bR0 hp>=(È (l+1),hp):=gp (LP x (aC7 l h) (Qn (hO h1 aQ2) (tp _) (kU h2 o)) (AM i 0 hp)) rfl
 let e:En:=E (Ö (l+1))
 have u:ZO (bZ6 3 (ZO fy) (B6 (rO (ŀ Ü bi3) ww) iN iN)) e hp>=(pg,hp):=Jk (ds:=[È (l+1),ñ [È key],ñ [È t,ng],ī,ī]) (Q_ Â (Q_ (Jk uq Į) (Xf (Jk (Zk (tp _) Â) Į) rfl rfl))) Į;refine Ĥ e (Qq (ZM (Tm Â h1 (xj ..) uq (yz (i:=nW) h1 h2 À À))) (Qq (aF:=e) (Qw lv) (IM (œ (Ji (Tm Â h1 (Um ..) (Zn u) y) Â g1 (a0 ((5:Nat)<FI))) WB) (hO (Jx _ _ _ (û g1)) (MF ..)))))
def Qjz{n k a f q:Nat}{S:TR.Sh}{w:TR.Wk}(A:At hp n k a f q S w)(D:fC n k a f q){c:Nat}{key:Int}(b:c<Î)(h:NJ r)(l:Î<aw9):
  Jz [LD,È key,bK0] hp>=(È Î,(as7 n S.O4 Î S.rd cA2).set k (Ø (pc (n4 [(OA (r.lv+1) [key] [dX,ts]:TR.Pg)]) aK))):=by
 have j:Ů[S.top]?>=(ZL r.lv r.ks r.ps r.hi (r.sd.map λ n=>oq)):=by rw[Bt,h,Option.map_some,XY]
 have e:=vZ (key:=key) A.h1 A.h2 D.nk (i:=c) (Ä b) j č;rw[e,Bq];rw[tz (ZL (Ì r.lv+1) [key] [dX,ts] none none=aK (OA (r.lv+1) [key] [dX,ts])),S_]
def QaI(S:TR.Sh)(w:TR.Wk)(i:Nat)(P:TR.Pg):(XP w i P).2.2.O3=w.O3:=aI1 TR.Qt
section
variable{hp:Hs}{n k a f q:Nat}{S:TR.Sh}{w:TR.Wk}{i:Nat}{p:TR.Pg}
def MG(A:At hp n k a f q S w)(D:fC n k a f q)(b:Str)(t:wd):∃hp',J4 [ų,Ϩ b,ng,oN t] hp>=(ñ [Ϩ b,ng,oN t],hp')/\At hp' n k a f q S (cg8 t)/\cr5 n k a f q:=by obtain⟨c,e⟩:=A.walk D (cg8 t) rfl rfl;refine cV1 _ c e;refine Oe [Lm,!(Ϩ b),r0,!(oN t)];exact IM (Ji Â Â A.h3 wl) (Jk (cq3 Â Â) Ê)
def vY(A:At hp n k a f q S w)(D:fC n k a f q){c:Nat}(x:bq2 c)(o:c<Î)(u:NJ r)(t:Î<aw9):∃hp',Ja [ų,ng] hp>=(ñ [Ϩ "raised", ng,È Î],hp')/\At hp' n k a f q { S with pg:=n4 [cE7 (r.lv+1) [dX,ts]],top:=Î,wr:=cA2 } bK7/\cr5 n k a f q:=by obtain⟨b,j⟩:=A.walk D bK7 rfl rfl;have e:=Qjz (key:=w.aim) b D o u t;obtain⟨h,l⟩:=b.shelf D { S with pg:=n4 [cE7 (r.lv+1) [dX,ts]],top:=Î,wr:=cA2 } rfl;refine cV1 _ h (j.trans l);refine Oe [Lm,r0];refine l5 (cP1 v ο rfl A.h3 wl);refine cq5 (Tm (bY8 b) b.h1 (QcD ..) (Zk (as9 b.h3) (QZ (d:=bK0) Â b.h3 (å (Mv ..) (Ő (è (oN w.O1)=_) x)))) e)
def vw(A:At hp n k a f q S w)(D:fC n k a f q){env:En}(b:aL6 0>=(Õ Ŗ))(h:aL6 2>=(Õ Ō))(h1:bM7)(h2:Ϲ=Š):
  ∃hp',ZV ã AV Ë (ck8 Xq 2) env hp>=(L3,hp')/\At hp' n k a f q S bK5/\cr5 n k a f q:=by
 obtain⟨c,e⟩:=A.walk D bK5 rfl rfl;exact Nc _ (Ji (mw (ak h) (QZ (ak b) A.h3 (qf ..)) (Z5 (Qji p w.aim h1 h2) hp)) (ak b) A.h3 wl) c e
def QkM(A:At hp n k a f q S w)(D:fC n k a f q)(h1:bM7)(h2:Ϲ=Š):
  ∃hp',Xy [ų,ng,Ō] hp>=(ñ [Ϩ "found", ng,opt pT],hp')/\At hp' n k a f q S bN3/\cr5 n k a f q:=by
 obtain⟨hp1,j,b,e⟩:=vw (env:=[Lm,r0,! Ō]) A D rfl rfl h1 h2;obtain⟨c,h⟩:=b.walk D bN3 rfl rfl;refine cV1 _ c (aW3 h);refine Oe [Lm,r0,! Ō];refine aC j (cP1 v ο rfl b.h3 wl) ?_;exact cq5 (bw5 c.h3)
def QnN(A:At hp n k a f q S w)(D:fC n k a f q)(hi:i<Î){x y:Int}(hd:w.O2=.put y x)(h1:Š<=90)(h2:Ϲ=Š)(h3:S.O4<cb9 p x->3<=cb9 p x)(h4:E9 (cb9 p x))(r:Î<aw9):
  ∃hp',Yf [ų,ng,Ō] hp>=(ñ [Ϩ tI, ng,opt pT,oN (XP bK5 i (iO p x)).1],hp')/\At hp' n k a f q (XP bK5 i (iO p x)).2.1 (XP bK5 i (iO p x)).2.2/\cr5 n k a f q:=by
 obtain⟨hp1,l,b,e⟩:=vw (env:=[Lm,r0,! Ō,Ś]) A D rfl rfl À h2;obtain⟨hp2,o,c,h⟩:=gC b D hi (iO p x) h3 h4 r;refine cV1 hp2 c (aW3 h);refine Oe [Lm,r0,! Ō,!(oN (XP bK5 i (iO p x)).1)];refine l5 l;have j:aB bh7 ↥2 hp1>=(cj4,hp1):=cs3 (AM i 2 hp1)
 refine cu7 (Tm Â b.h3 (Rb ..) (cN6 (bG (Xf Â (as9 b.h3) (gp (aL2 b.h3) j)) (Z5 (Qls p w.aim x À À) hp1))) o);refine bd8 (wQ rfl Â (hO c.h3 (ϯ (Yy ..))) Â);rw[QaI]
def kA(A:At hp n k a f q S w)(D:fC n k a f q)(hi:i<Î)(h1:bM7)(h2:Ϲ=Š):
    ∃hp',YB [ų,ng,Ō] hp>=(ñ [Ϩ N3, ng,opt pT],hp')/\At hp' n k a f q (df (aq8 pT) (Ė S pg (oh i (aA5 p)) wr cA2) S) bN3/\cr5 n k a f q:=by
  obtain⟨hp1,o,c,l⟩:=vw (env:=[Lm,r0,! Ō]) A D rfl rfl h1 h2;have t:∀b:Bool,aq8 pT=b->eB (Æ V5 bL2 ī) [Lm,r0,! Ō] hp1>=(b,hp1):=λ b x=>aY3 (bw5 c.h3) (Ρ Qd0 x);cases r:aq8 pT with
  |true=>rw[sj];have wr:=VF (d:=aK (aA5 p)) (i:=i) c.h1 c.h2 D.nk aI7;rw[map_set]at wr;obtain⟨j,u⟩:=c.shelf D (Ė S pg (oh i (aA5 p)) wr cA2) rfl;obtain⟨e,h⟩:=j.walk D bN3 rfl rfl;refine cV1 _ e (l.trans (u.trans h));refine Oe [Lm,r0,! Ō];refine l5 o;refine l5 (JG (t true r) (ZM (Tm (bY8 c) c.h1 (qd ..) (cN6 (bn0 (as9 c.h3) (Qd7 p w.aim À À) hp1)) wr)));refine l5 (cP1 v ο rfl j.h3 wl);exact cq5 (bw5 e.h3)
  |false=>rw[cl9];obtain⟨e,h⟩:=c.walk D bN3 rfl rfl;refine cV1 _ e (l.trans h);refine Oe [Lm,r0,! Ō];refine l5 o;refine cu6 (t false r);refine l5 (cP1 v ο rfl c.h3 wl);exact cq5 (bw5 e.h3)
def Ql6(A:At hp n k a f q S w)(D:fC n k a f q)(hi:i<Î){c:Nat}(l:bq2 c)(h1:Š<=90)(h2:E9 Ϲ)(h3:S.O4<a7 (Pc p c)->3<=a7 (Pc p c))(h4:E9 (a7 (Pc p c)))(j:Î<aw9):
  ∃hp',XT [ų,ng,Ō] hp>=(ñ [Ϩ bQ5, ng,oN (XP w i (Pc p c)).1],hp')/\At hp' n k a f q (XP w i (Pc p c)).2.1 (XP w i (Pc p c)).2.2/\cr5 n k a f q:=by
 obtain⟨hp2,h,b,e⟩:=gC A D hi (Pc p c) h3 h4 j;refine cV1 hp2 b e;refine Oe [Lm,r0,! Ō,!(oN (XP w i (Pc p c)).1)];have nw:QX ã zu Ë [Lm,r0,! Ō,Ś] hp>=(bK0,hp):=cT0 (bk4 (Mv ..) l);refine cu7 (Tm Â A.h3 (Rb ..) (cN6 (bG (Xf Â (as9 A.h3) nw) (Z5 (Qd6 p w.aim c À À) hp))) h);exact cq5 Â
#where
section
variable{hp:Hs}{n k a f q:Nat}{S:TR.Sh}{w:TR.Wk}{i:Nat}{p:TR.Pg}
def Qi6(A:At hp n k a f q S w){l h:Int}(v:bM7):
  Jq [Lm,r0,! Ō,bA8,bR4,Ś] hp>=(cs9,hp++[cF2 l h]):=by
 have j:kQ (bp 2 1) (bp 2 2) [Lm,r0,! Ō,bA8,bR4,Ś] hp>=(aM OI,hp):=by have b:wy Ŏ Ÿ [Lm,r0,! Ō,bA8,bR4,Ś] hp>=(MP,hp):=bL9 (Qnz p hp);have u:wy Ŏ am4 [Lm,r0,! Ō,bA8,bR4,Ś] hp>=(AY,hp):=bL9 (QnA p hp);unfold kQ;rw[bH1];show(oF MP >>= _) hp=_;rw[tz (oF MP=Ô ħ),Er,Qe u,tz (oF AY=Ô Ę),Er,Wc];rfl
 have o:iV (kQ (bp 2 1) (bp 2 2)) [Lm,r0,! Ō,bA8,bR4,Ś] hp>=(d7 (aM OI),hp):=lw iV j
 have hz:E9 ⇑OI:=Ĵ List.length_zip
 have e:=Qgm (hp:=hp) (t:=λ d=>eB (JV fH cU Ġ am8 Ŏ) (cE [3,4] [Lm,r0,! Ō,bA8,bR4,Ś] d)) (f:=λ d=>Qb 0 (cE [3,4] [Lm,r0,! Ō,bA8,bR4,Ś] d)) (p:=CQ l h) (aM OI) (λ d hd=>by
   obtain⟨z,_,rfl⟩:=bI4 hd;have c:cE [3,4] [Lm,r0,! Ō,bA8,bR4,Ś] (ñ [È z.1,È OB])=[!(ñ [È z.1,È OB]),bA8,bR4]:=rfl;show eB (JV fH cU Ġ am8 Ŏ) (cE [3,4] [Lm,r0,! Ō,bA8,bR4,Ś] (ñ [È z.1,È OB])) hp=_;rw[c];have b:wy Ë kw [!(ñ [È z.1,È OB]),bA8,bR4] hp>=(È z.1,hp):=bL9 (AM i 0 hp);by_cases q1:l<=z.1
   ·by_cases r:z.1<h<;>simp[eB,JV,W6,run_pure,b,Qb,zA,Y3,fU,CQ,q1,r]
   ·simp[eB,JV,W6,run_pure,b,Qb,zA,Y3,fU,CQ,q1])
  (λ d hd=>rfl) (Ĵ XL)
 rw[Qd9]at e;unfold Jq Jb;rw[Qe o,Qe (Ý (Js _ _ _ lim 0 hp=_) e)];rfl
def v0(A:At hp n k a f q S w)(D:fC n k a f q){l h:Int}(hd:w.O2=aj6 l h)(h1:bM7)(hw:aV3<=50000)(Q:(aZ2/\bv5)∨∃x s,aL5 x/\cl5):
  ∃hp',Xz [ų,ng,Ō] hp>=(wz (aY1 w i p).1,hp')/\At hp' n k a f q (aY1 w i p).2.1 (aY1 w i p).2.2/\cr5 n k a f q:=by
 have d1:cN9 bh7 1>=(È l,hp):=cs3 (AM i 1 hp)
 have d2:cN9 bh7 2>=(È h,hp):=cs3 (AM i 2 hp)
 obtain⟨C,R⟩:=A.more (cF2 l h);obtain⟨y,U⟩:=C.pair D (bK3 pairs cV9) rfl rfl;have pl:E9 ⇑(mi l h):=bo3 TR.Za (Bj (Ca _ _) ?_)
 have Y:ie (hp++[cF2 l h]) ot (aM (mi l h)):=Ê
 have ql:q≠ot:=λ e=>cQ9 A.h5
 have ex:=Qgz (o:=ţ ao4) (fa:=bv1) (env:=[Lm,r0,! Ō,bA8,bR4,! bT]) (hO C.h3 (gL ..)) C.h5 uq Y (OQ XL XL);rw[Mp]at ex;have tw:∀{c:Hs}{env:En},ie c ot (aM (mi l h))->aL6 5>=(Õ bT)->QY Uq bv1 env c>=(ñ (aM (mi l h)),c):=λ{c env} hx he=>hU QY (Zn (ak he)) ((Zx ot >>= _) c=_) (Φ hx)
 have X:ie ((hp++[cF2 l h]).set q (aR5 cV9)) ot (aM (mi l h)):=gs ql Y;have al:a≠ot:=λ e=>cQ9 A.h3
 have start:∀(g:aG)(r:(Fl × En)× Hs),g [Lm,r0,! Ō,bA8,bR4,! bT] ((hp++[cF2 l h]).set q (aR5 cV9))>=r ->
   Qs (QI 3 (cD8 1)) (bn 4 (cD8 2) 5 Jq (Qs (OH Ā JD (ţ ao4) bv1) g)) [Lm,r0,! Ō,Ś,Ś,Ś] hp>=r:=λ g r hg=>by
  refine cu7 (gp cW0 d1);refine cu7 (gp cW0 d2);refine cu7 (Qi6 A h1);exact Qq (ZM ex) hg
 have u:∃hp',Qs (OM F7 aO2) (QT (L5 aP3 (Ç 1 (B6 (ŭ Uq 5) iN iN)))) [Lm,r0,! Ō,bA8,bR4,! bT] ((hp++[cF2 l h]).set q (aR5 cV9))>=((.rt (wz (.read i (mi l h) none)),[Lm,r0,! Ō,bA8,bR4,! bT]),hp')/\At hp' n k a f q S cX5/\cr5 n k a f q:=by obtain⟨z,J⟩:=y.walk D cX5 rfl rfl;refine at4 _ ?_ z (U.trans J);refine l5 (cP1 v ο rfl y.h3 wl);exact bd8 (Du rfl Â (tw (gs al X) rfl) rfl rfl)
 have t:∀c:Hs,wy Ŏ ca3 [Lm,r0,! Ō,bA8,bR4,! bT] c>=(ϓ,c):=λ c=>bL9 (Qny p c);have D4:∀c:Hs,wy Ŏ (ì 4) [Lm,r0,! Ō,bA8,bR4,! bT] c>=(ig,c):=λ c=>bL9 (Rn p c);rcases Q with ⟨j,O⟩|⟨x,s,j,O⟩
 ·rw[QgO hd j];obtain⟨hp',P,I,L⟩:=u;refine Nc hp' (QE (start _ _ (ZN (bJ5 _ ?_ P)))) I L;exact Qoo (aY3 (t _) (Ρ Uf j))
 ·rw[QiF hd j O];by_cases hx:h<=x
  ·rw[Eh hx];obtain⟨hp',P,I,L⟩:=u;refine Nc hp' (QE (start _ _ (ZN (bJ5 _ ?_ P)))) I L;exact cQ6 (Pd b (gp (t _) (Ρ Uf j))) (Q5 (Qn (t _) Â (by rw[j];show n8 bU7 ↥h _=_;rw[yM,Em hx];rfl)))
  ·rw[Eg hx];obtain⟨z,J⟩:=y.walk D (Ė w pairs cV9 aim x) rfl rfl;obtain⟨F,F4⟩:=z.walk D (bG0 w pairs cV9 aim place cs8) rfl rfl;refine at4 _ (Ĥ [Lm,r0,! Ō,bA8,bR4,! bT] (start _ _ ?_)) F (U.trans (J.trans F4));refine cu6 (cQ6 (Pd b (gp (t _) (Ρ Uf j))) (Pd b (Qn (t _) Â (by rw[j];show n8 bU7 ↥h _=_;rw[yM,Ep hx];rfl))));refine l5 (cP1 v cj4 (bk4 (t _) j) y.h3 wl);refine l5 (cP1 v (È s) (bk4 (D4 _) O) z.h3 wl);exact bd8 (Du rfl Â (tw (gs al (gs al X)) rfl) (hO F.h3 cr6) (as9 F.h3))
#where
section
variable{hp:Hs}{n k a f q:Nat}{S:TR.Sh}{w:TR.Wk}{i:Nat}{p:TR.Pg}
def JI:Ζ t9:=ā
def JO:Ζ tI:=ā
def Xa:Ζ N3:=ā
def X7:Ζ fF:=ā
def YZ:TR.bU->Str
 |.find _ => t9
 |.put _ _ => tI
 |.cut _ => N3
 |.stretch _ _ => fF
def VS(d:TR.bU)(hp:Hs):cN9 NG 0>=(Ϩ cj2,hp):=by cases d<;>exact AM i 0 hp
def Qdu(A:At hp n k a f q S w)(D:fC n k a f q)(hi:i<Î)(h1:Š<=90)(h2:Ϲ=Š)(h3:∀x,S.O4<cb9 p x->3<=cb9 p x)(h4:∀x,E9 (cb9 p x))(L:Î<aw9)(O:aV3<=50000)(C:(aZ2/\bv5)∨∃x s,aL5 x/\cl5):
    ∃hp',YC [ų,ng,Ō] hp>=(wz (aY1 w i p).1,hp')/\At hp' n k a f q (aY1 w i p).2.1 (aY1 w i p).2.2/\cr5 n k a f q:=by
  have z:QI 3 (cD8 0) [Lm,r0,! Ō,Ś] hp>=(ϧ [Lm,r0,! Ō,! cD9],hp):=Qw (gp cW0 (VS w.O2 hp));have c:∀(x:Str)(b:Bool),Ζ aQ4->Ζ x->(aQ4==x)=b->eB (Æ cP io aJ4) [Lm,r0,! Ō,! cD9] hp>=(b,hp):=λ x b P o2 e=>aY3 Â (u_ hp P o2 e);have v:∀(nm:Str) (fn:Ez) (d:DV) (hp':Hs),Ū (List.lookup nm (cX n f q bh7 ↥w.aim ↥w.O6 (oN w.place) (oN w.O1) (opt w.O3) (ξ w.O7)))->fn [ų,ng,Ō] hp>=(d,hp')->QT (Zd ã nm 3 fn Ë (Ç 1 ww)) [Lm,r0,! Ō,! cD9] hp>=((.rt d,[Lm,r0,! Ō,! cD9]),hp'):=λ nm fn d hp' I J=>QF (Tm Â A.h3 I cN7 J);cases hd:w.O2 with
  |find y =>obtain⟨hp',e,j,o⟩:=QkM (i:=i) A D À h2;refine cV1 hp' (Å (Gu hd) j) o;rw[Gu hd];have t:=c t9 true (cs3 JI) JI (li (PH cb3 cb3));exact QE (Qq z (ao9 t (v _ _ _ _ (Qn8 ..) e)))
  |put y x =>obtain⟨hp',e,j,o⟩:=QnN (i:=i) A D hi hd h1 h2 (h3 x) (h4 x) L;refine cV1 hp' (Å (gc hd) j) o;rw[gc hd];have r:=c t9 false (cs3 JO) JI (li (ay8 tI cb3));have u:=c tI true (cs3 JO) JO (li (PH bv4 bv4));exact QE (aC z (Zt r) (ao9 u (v _ _ _ _ (Qn9 ..) e)))
  |cut y =>obtain⟨hp',e,j,o⟩:=kA (i:=i) A D hi À h2;refine cV1 hp' (Å (gb hd) j) o;rw[gb hd];have r:=c t9 false (cs3 Xa) JI (li (ay8 N3 cb3));have u:=c tI false (cs3 Xa) JO (li (ay8 N3 bv4));have F:=c N3 true (cs3 Xa) Xa (li (PH (Ŕ N3) (Ŕ N3)));exact QE (aC z (Zt r) (Qq (Zt u) (ao9 F (v _ _ _ _ (Qoa ..) e))))
  |stretch l h =>obtain⟨hp',e,j,o⟩:=v0 (i:=i) A D hd À O C;refine cV1 hp' j o;have r:=c t9 false (cs3 X7) JI (li (ay8 fF cb3));have u:=c tI false (cs3 X7) JO (li (ay8 fF bv4));have F:=c N3 false (cs3 X7) Xa (li (ay8 fF (Ŕ N3)));exact QE (aC z (Zt r) (cS3 u (Zt F) (v _ _ _ _ (Qob ..) e)))
def Ql2{r:TR.Row}(T:wc S)(W:TR.aO S bg w)(hr:S.O4<=50)(A:At hp n k a f q S w)(D:fC n k a f q)(hl:Î<aw9)(hf:⇑w.O5<5000)(hw:aV3<=50000)(hs:TR.JP S w>=(r,S',w')):
    ∃hp',jm by9 hp>=(wz r,hp')/\At hp' n k a f q S' w'/\cr5 n k a f q:=by
  cases he:w.O7 with
  |true=>unfold TR.JP at hs;rw[Eh he]at hs;cases hs;refine cV1 hp A Fr.refl;exact Ĥ [Lm,Ś,Ś] (ao9 (Q5 (cT0 (œ cr7 he))) (QF (d:=ī) rfl))
  |false =>
    obtain⟨p,o,v⟩:=TR.Vy he hs;clear hs;generalize F:ß=m at o v;have I:tR m∨(Ϭ/\aV1 m):=by
      cases e:w.place with
      |none=>rw[e]at F;exact Ğ (Ť F.symm)
      |some z=>rw[e]at F;exact ê (im some F)
    have ok:=eW m p o;have Y:m<Î:=ZC o;have a9:E9 Ϲ:=by have a1:=ok.parts;have a2:=ok.few;split at a1<;>lia
    have X:Š<=90:=by have a2:=ok.few;lia
    have r2:=T.bx
    let E:En:=[Lm,Ö m,! Ō]
    let h1:Hs:=as7 n S.O4 S.top cc6 S.wr
    have ay:aQ (eB ct3) (QT iN) ZD [Lm,Ś,Ś] hp>=(ϧ [Lm,Ś,Ś],hp):=(Zt (Q5 (cT0 (œ cr7 he))));have am:cL ce1 (bD4 FF) ak9 [Lm,Ś,Ś] hp>=(È m,hp):=by
      rcases I with e|⟨e,e2⟩
      . exact å (uO (Pd b (gp (cT0 cr6) (Ρ GI e)))) (cT0 (bk4 cr6 e))
      . exact å (uP (aY3 (cT0 cr6) (Ρ GI e))) (œ (Tm bY9 A.h1 cr8 XQ (Vg A.h1)) e2)
    have rd:=QlP (i:=m) (d:=Ō) A.h1 A.h2 D.nk (Ρ Bt o);obtain⟨l,R⟩:At h1 n k a f q sL w/\cr4 h1 n k a f q:=A.count D sL rfl rfl;have ba:=Qw (i:=1) am;have be:QI 2 (tq aP3 2 Xx FF fy) [Lm,Ö m,Ś] hp>=(ϧ E,h1):=Qw (Tm bY9 A.h1 (Qet ..) uq rd);have P:wy Ŏ kw E h1>=(rp,h1):=bL9 (Ro p h1);have Nj:eB (Æ isD ak9 ī) E h1>=(w.place.isNone,h1):=aY3 (hO l.h3 cr6) (û GI);have Hw:QX ã cp8 Ë E h1>=(È w.O6,h1):=hO l.h3 (Z_ ..);have O:∀x y:Nat,AN (Ì x) y=AN x y:=λ x y=>Ĵ decide_eq_decide
    have t1:Yh ce1 (E4 cU bw3 CL) E h1>=(Ó (Ϭ/\TU),h1):=by
      rcases I with e|⟨e,_⟩
      . rw[Ep (λ h=>ĩ e h h.1)]
        exact xU (Nj.trans ca5)
      . refine å (zq (Nj.trans ca5)) (ϯ (Q5 (Qn P Hw rfl)))
        rw[O,(decide_eq_decide (q:=Ϭ/\TU)).mpr (cb0 h (Ĭ e h) (λ h=>h.2))]
    have go:∀(g:aG) (x:(Fl × En)× Hs),g E h1>=x->Qs (aS0 ct3 iN) (bn 1 (cL ce1 (bD4 FF) ak9) 2 (tq aP3 2 Xx FF fy) g) [Lm,Ś,Ś] hp>=x:=λ g x o=>aC ay ba (Qq be o);have t2:eB (ck8 qx 2) E h1>=(TR.Zy p w.aim,h1):=Q5 (bn0 (as9 l.h3) (Qg1 p w.aim) _);have C:¬ (Ϭ/\TU)->∀(g:aG) (x:(Fl × En)× Hs),g E h1>=x->Qs (br9 (Yh ce1 (E4 cU bw3 CL)) (QT (Zd ã Tl 2 Ja Ë fy))) g E h1>=x:=λ z g x o=>Qq (Zt (t1.trans (nV (Ep z)))) o;have t3:eB (Qh dD bw3 CL) E h1>=(AN w.O6 p.lv,h1):=å (Q5 (Qn P Hw rfl)) aB8;have N6:¬ Ĝ (TR.Zy p w.aim)->¬ bb1->∀(g:aG) (x:(Fl × En)× Hs),g E h1>=x->Qs (aS0 (ck8 qx 2) (Zd ã bs9 4 J4 Ë (Qc (q0 "side") (nB 1 (bp 2 4))))) (Qs (eT (Qh dD bw3 CL) (ϕ (zG Ġ (d9 as6 bw3)) (Zd ã bs9 4 J4 Ë (Qc (q0 "down") (nB 1 (ck8 qy 2))))) ZD) g) E h1>=x:=λ y z g x o=>cS3 (t2.trans (nV (eH y))) (Zt (t3.trans (nV (Ep z)))) o;have t4:eB (Ò dD CL 0) E h1>=(AN 0 w.O6,h1):=å (aY3 Hw rfl) (cL4 O);cases v with
    |raised j hn =>
      have a8:aV1 m:=by
        rcases I with e|⟨_,e⟩
        . rw[j.1]at e;cases e
        . exact e
      subst a8;obtain⟨U,z,J,Q,_⟩:=W.tell À;have b3:=Ak (hn.symm.trans J);subst b3;obtain⟨hp',e,t,u⟩:=vY (i:=S.top) l D hn (ZC Q) o hl;exact at4 hp' (QE (go _ _ (ao9 (t1.trans (nV (Em j))) (QF (Tm Â l.h3 (Qn7 ..) uq e))))) t u
    |@side s j L ae =>obtain⟨hp',e,t,u⟩:=MG (i:=m) l D "side" cs8;refine at4 hp' ?_ t u;refine QE (go _ _ (C j _ _ (ao9 (t2.trans (nV L)) (QF (Tm Â l.h3 (Rf ..) (cq4 (bL9 (Rn p _))) ?_)))));rw[ae];exact e
    |@down c j L hd hc =>have pl:=ok.parts;rw[aE]at pl;obtain⟨U,z,J,Q,_⟩:=T.kid m p o À _ _ hc;subst J;obtain⟨A2,F2⟩:=l.fork D (bK3 O5 (TR.xu w.O5 p.lv m)) rfl rfl;obtain⟨hp',e,t,u⟩:=MG (i:=m) A2 D "down" (è U);refine at4 hp' ?_ (Å B0 t) (F2.trans u);have ke:=QnB p w.aim U À pl hc;have pt:zG Ġ (d9 as6 bw3) E h1>=(ϧ E,h1.set f (nj (fJ (TR.xu w.O5 p.lv m)))):=QnW Â (hO l.h3 (gK ..)) P l.h4 hf;refine QE (go _ _ (C j _ _ (Qq (Zt (t2.trans (nV (eH L)))) (ao9 (t3.trans (nV (Em hd))) (IM pt (Tm Â A2.h3 (Rf ..) (cq4 (bn0 (as9 A2.h3) ke _)) ?_))))));rw[Ý (wz (TR.Row.down m (cU7 U))=ñ [Ϩ "down", È m,È U]) (û B0)];exact e
    |@told c j L hd h0 hn =>
      have bh:cH4:=by
        rcases I with e|⟨e,_⟩
        . obtain⟨p',J,Q,_⟩:=W.at_ m e
          rw[Ak (o.symm.trans J)];exact Q
        . exact C4 λ h=>j (Ĭ e h)
      have kl:=TR.U2 ok (k:=w.aim) (c:=c);obtain⟨hp',e,t,u⟩:=Ql6 (i:=m) (p:=p) l D Y hn X a9 (λ z=>pD (S.O4<a7 (Pc p c)) z) À hl;exact at4 hp' (QE (go _ _ (C j _ _ (N6 L hd _ _ (ao9 (t4.trans (nV (Em h0))) (QF (Tm Â l.h3 (Qn6 ..) cN7 e))))))) t u
    |leaf j L hd g0 ad =>
      have hz:LJ:=À
      have pl:=ok.parts;rw[Eh hz]at pl;have kl:∀x,cb9 p x<=S.O4+1:=λ x=>TR.VE ok;obtain⟨hp',e,t,u⟩:=Qdu (i:=m) (p:=p) l D Y X À (λ x z=>pD (S.O4<cb9 p x) z) (λ x=>Ě (kl x)) hl hw ((at9 m o).imp id λ⟨x,s,_,J,Q,_⟩=>Nc x s J Q);rw[ad]at e t;exact at4 hp' (QE (go _ _ (C j _ _ (N6 L hd _ _ (IM (Zt (t4.trans (nV aF0))) (Tm Â l.h3 (Qn5 ..) cN7 e)))))) t u
#where
def Qkf(n:Nat)(d:TR.bU)(hp:Hs):Xj [cs9,LD,NG] (hp++[cS1 ã])>=(ī,hp++[fV n (ot+1) (ot+2) Lq,LT,l7]):=by
 have a:∀(nm:Str) (e:aJ) (v:DV) (fs:ay3) (t t':Hs),e [! bT,! s0,! NG] (hp++cy1::t)>=(v,hp++cy1::t')->aF1<FI->ZV ã nm Ë e [! bT,! s0,! NG] (hp++cy1::t)>=(ϧ [! bT,! s0,! NG],hp++cS2 ã nm v fs::t'):=λ nm e v fs t t' f h=>Ξ (Ji f Â (VZ hp _ _) h) Fb
 have b:∀fs,xV [! bT,! s0,! NG] (hp++cy1::[])>=(ë (ot+1),hp++cy1::[LT]):=λ fs=>bX0 (è (aO7 (hp++[OV.ins ã fs]),(hp++[OV.ins ã fs])++[OV.aH []])=_)
 have c:∀fs,YJ Qj [! bT,! s0,! NG] (hp++cy1::[LT])>=(ë (ot+2),hp++cy1::[LT,l7]):=λ fs=>bX0 (è (aO7 (hp++[OV.ins ã fs,OV.aH []]),(hp++[OV.ins ã fs,OV.aH []])++bU6)=_)
 refine Vh (env:=[! bT,! s0,! NG]) ?_;refine l5 (a ό _ s0 [] [] [] Â (ŏ m 20 CO aU0 Á));refine l5 (a zg _ NG _ [] [] Â (ŏ m 20 CO aU0 Á));refine l5 (a "aim" _ ↥d.key _ [] [] (bL9 (WV d _)) (ŏ m 20 CO aU0 Á));refine l5 (a cp8 _ ↥0 _ [] [] rfl (ŏ m 20 CO aU0 Á));refine l5 (a i9 _ ī _ [] [] rfl (ŏ m 20 CO aU0 Á));refine l5 (a cN5 _ ↑(ot+1) _ [] [LT] (b _) (ŏ m 20 CO aU0 Á));refine l5 (a zu _ ī _ [LT] [LT] rfl (ŏ m 20 CO aU0 Á));refine l5 (a AV _ ī _ [LT] [LT] rfl (ŏ m 20 CO aU0 Á));refine l5 (a ao4 _ ↑(ot+2) _ [LT] [LT,l7] (c _) (ŏ m 20 CO aU0 Á));exact a F7 _ π _ [LT,l7] [LT,l7] rfl (ŏ m 20 CO aU0 Á)
def Qki{n:Nat}{d:TR.bU}{fa:bR}{a hp:Hs}(c:aH7 a>=([LD,NG],hp)):K4 ã 3 Xj fa env a>=(cs9,hp++[fV n (ot+1) (ot+2) Lq,LT,l7]):=by unfold K4;rw[bQ3];have al:Xr (cS1 ã) hp>=(cs9,hp++[cS1 ã]):=rfl;have b:QJ (oX (CS [DV.ref n,NG]+1) 3) hp>=((),hp):=rfl;rw[bH1,Qe al,Qe (Qkf n d hp)];rfl
def SM{hp:Hs}{n f q a:Nat}{w:TR.Wk}(h:E8 a>=(fV n f q w)):ji by9 hp>=(ξ w.O7,hp):=QE (QF (hO h cr7))
def QpE{α:re}{d a:Nat}(e:d≠a){l:To}{x b y c:α}:(((cP2 x).set a y).set d b).set a c=(cP2 b).set a c:=by
 have:((cP2 x).set a y).set d b=(cP2 b).set a y:=Ξ (Ý (((cP2 x).set a y).set d b=((cP2 x).set d b).set a y) (List.set_comm _ _ (Ş e))) List.set_set
 rw[this,List.set_set]
def cI(seen:ć):Ϧ:=seen.map λ m:Nat=>(ê nC,ο)
def S7(k:Nat):∀seen:ć,Jv aI6 Tx=aI8 (k∈seen) ο none
  | []=>rfl
  |x::xs=>by
    have a:=S7 k xs;unfold Jv at a ⊢;show cV5 _ ((f7 (Ì x),DV.bl true)::cI xs)=_;rw[B7];by_cases h:x=k
    . subst h;simp
    . have b:¬ (f7 (Ì x):Key)=f7 Ϯ:=λ e=>h (af7 e e)
      rw[Ep b];show cV5 _ (cI xs)=_;rw[a];by_cases m:k∈xs
      . rw[Eh m,Eh (ch6 m)]
      . rw[Eg m,Eg (λ z=>ac1 (Nm z) e e (h e.symm) (m e))]
def Qlb{seen:ć}{k:Nat}(h:k∉seen):JQ aI6 Tx ο=cI (seen++[k]):=by
 unfold JQ;rw[Eg (NV z)]
 ·unfold cI;rw[List.map_append];rfl
 ·rw[List.any_eq_true]at z;obtain⟨a,m,e⟩:=z;obtain⟨x,hx,rfl⟩:=bI4 m;have e:=Eo e;have:x=k:=af7 e e
  exact h (this▸hx)
def Qnf{hp:Hs}{d k:Nat}{seen:ć}(h:E8 d>=bm3):GH ↥Ϯ cm3 hp>=(bv6 (Ó (k∈seen)),hp):=by
 unfold GH;have:Di ↥Ϯ cm3 hp>=(Ó (k∈seen),hp):=by
  show(Zx d >>= _) hp=_;rw[bk8];show è (aq8 (Jv aI6 Tx),hp)=_;rw[S7];by_cases m:k∈seen
  ·rw[Eh m,Em m];rfl
  ·rw[Eg m,Ep m];rfl
 rw[LW];rfl
def Qnc{e f g:aJ}{hp:Hs}{d k:Nat}{seen:ć}(a:bs5>=(ο,hp))(hf:aT>=(ë d,hp))(hd:E8 d>=bm3)(b:az0>=(ú k,hp))(h:k∉seen)(c:bT9<Ņ):zG e (d9 f g) env hp>=(L3,μ d (F5 (seen++[k]))):=by
 unfold zG;rw[Qe a];have:d9 f g ο env hp>=(env,μ d (F5 (seen++[k]))):=by
  unfold d9;rw[bs0,bH1];have q:sH cm3 ↥Ϯ ο hp>=((),μ d (F5 (seen++[k]))):=by show(Zx d >>= _) hp=_;rw[Φ hd];show(QJ (bl9 ⇑aI6) >>= λ_=>yn d (nj (JQ aI6 Tx ο))) hp=_;rw[cG3 (bl9 ⇑aI6) (ϻ cI Bq c),Qlb h];rfl
  rw[Qe q];rfl
 rw[LW];rfl
section
variable{S:TR.Sh}{bg:TR.Bg}
def bA(S:TR.Sh):DV:=Ø Ů
def Yr{n:Nat}(h:dA):Ů[n]?>=Ō:=Ρ Bt h
def Qht{d a:Nat}(F:d≠a)(lf:DV):∀{n:Nat}{r:ć},aD0 n r->∀(b:Nat)(seen done:ć)(hp:Hs),lc<b->E8 d>=bm3->L4 a bH2->(∀m∈r,m∉seen)->r.Nodup->bT9+lc<Ņ->done.length+lc<Ņ ->
    J0 (Yh (cd9 V5 dd) (Yh (eB (JV fH cU kw dd bC1)) (E4 GH dd Ŏ))) zy b [! ν,! lf,! cm3,Lm,ģ n] hp =
      è (ϧ [! ν,! lf,! cm3,Lm,Õ ī],(μ d (F5 (seen++r))).set a (Ø (nD (done++r)))):=by
  have j:∀(n:Nat)(p:TR.Pg)(seen done:ć)(hp:Hs),dA->E8 d>=bm3->L4 a bH2->n∉seen->bT9<Ņ->done.length<Ņ ->
      (Yh (cd9 V5 dd) (Yh (eB (JV fH cU kw dd bC1)) (E4 GH dd Ŏ))) [! ν,! lf,! cm3,Lm,ģ n] hp>=(true,hp) /\
      zy [! ν,! lf,! cm3,Lm,ģ n] hp>=(ϧ [! ν,! lf,! cm3,Lm,! ig],(μ d (F5 (seen++[n]))).set a (Ø (nD (done++[n])))):=by
    intro n p seen done hp u hd t v l o;have U:n<Î:=ZC u
    let e:En:=[! ν,! lf,! cm3,Lm,ģ n]
    constructor
    . rw[zq (Q5 (cW8 (ú n) Â)),zq (Q5 (Qh0 (i:=oq) (n:=Î) rfl Â (Ξ (yf (ds:=Ů) Â) Bq) À À))]
      refine Q5 ?_;rw[Qn Â Â (Qnf hd),Ep v];rfl
    . have I:ie (μ d (F5 (seen++[n]))) a bH2:=Å (Am F) t
      refine aC (Qnc (d:=d) (k:=n) rfl Â hd Â v l) (ZM (jW (a:=a) (ds:=bH2) (d:=ú n) Â I Â (Å XX o))) ?_;rw[show bH2++[oT oq]=nD (done++[n])by rw[<- Qnd];rfl];exact Qw (aJ6 i 4 [rp,MP,AY,ϓ,ig] (XV (i:=n) (ds:=Ů) (d:=Ō) Â Â (Yr u)))
  intro n r c;induction c with
  |@last n p u v=>intro b seen done hp hf hd t C y l o;have l:bT9+1<Ņ:=l;have o:done.length+1<Ņ:=o;have hf:1<b:=hf;obtain⟨J,L⟩:=j n p seen done hp u hd t (C n Ê) À À;obtain⟨f,rfl⟩:∃f,b=f+2:=bm9 b 2;rw[VD J L,v];exact Mw (xU (Q5 (cW8 ī Â)))
  |@next n p s r u v c O =>
    intro b seen done hp hf hd t C y l o;have hf:lc+1<b:=hf;have l:bT9+(lc+1)<Ņ:=l;have o:done.length+(lc+1)<Ņ:=o;obtain⟨J,L⟩:=j n p seen done hp u hd t (C n Ê) À À;obtain⟨f,rfl⟩:∃f,b=f+1:=by3 b;have Q:d<ot:=bi9;have P:a<ot:=ZC t;obtain⟨R,nd⟩:=Cy.mp y;rw[VD J L,v];refine ϯ (O f (seen++[n]) (done++[n]) _ À (Ξ (n9 F) (Au Q)) (nV (Au (bj5 P))) (Ł m h z) nd wq wq)
    . rcases cv0 with z|z
      . exact C m (ch6 h) z
      . rw[Fs z]at h;exact R h
    . rw[A8,A8,QpE F];rfl
def QcI{n d:Nat}{r:ć}(c:aD0 n r){seen:ć}{w:Hs}(hd:w[d]?>=bm3)(h:∀m∈r,m∉seen)(b:r.Nodup)(h1:bT9+lc<aw9):
  xQ [ν,ú n,ë d] w>=(aJ1,w.set d (F5 (seen++r))++[Ø rg]):=by
 have e:d<ĳ:=bi9;have f:=Qht (S:=S) (d:=d) (a:=ĳ) À ↥oq c Ņ seen [] (w++[l7]) À (Å (Ah e) hd) cw8 h b À č;rw[List.nil_append,List.set_append_left _ _ e,cm _ (bj5 ę),List.length_set,Nat.sub_self]at f;refine Oe [! ν,ģ n,! cm3,! ĝ,Õ ī];refine nK [! ν,ģ n,! cm3,! ĝ,Ś] (w++[l7]) rfl (cu7 Â);exact IM (Ý (yr _ _=_) f) Â
def kF{n c a:Nat}{r:ć}{p:TR.Pg}{w:Hs}(f:ie w a (nD (n::r)))(l:dA)(b:aK4 0>=ts):X8 [ν,ų] w>=(ú c,w):=by
 let e:En:=[! ν,Lm]
 have o:zZ Ġ e w>=(true,w):=hU zZ (Â:Qb 1 e w>=(ų,w)) ((cL3 >>= _) w=_) (Φ f)
 have u:wy Ġ kw e w>=(ú n,w):=cC5 i 0 f rfl rfl;have v:wy Ë bw2 e w>=(Ō,w):=XV (i:=n) (ds:=Ů) Â u (Yr l);have j:wy (NO Ë bw2) am4 e w>=(AY,w):=cw0 i 2 v;have t:zZ (bL5 Ë bw2 2) e w>=(true,w):=by
  unfold zZ;rw[Qe j];show è (mP (p.ps.map DV.int).isEmpty,w)=_;cases h:p.ps with
  |nil=>rw[h]at b;cases b
  |cons _ _=>rfl
 refine Ĥ e (IM bJ2 (G2 i 0 j (Ρ Bt b)));exact cQ6 (Jc o) (Jc t)
def vO{n a:Nat}{r:ć}{w:Hs}(b:ie w a (nD (n::r)))(t:dA):∃d,X8 [ν,ų] w>=(d,w):=by
  cases h:p.ps with
  |cons x xs =>
    let e:En:=[! ν,Lm]
    have f:zZ Ġ e w>=(true,w):=hU zZ (Â:Qb 1 e w>=(ų,w)) ((cL3 >>= _) w=_) (Φ b)
    have l:wy Ġ kw e w>=(ú n,w):=cC5 i 0 b rfl rfl;have o:wy Ë bw2 e w>=(Ō,w):=XV (i:=n) (ds:=Ů) Â l (Yr t);have c:wy (NO Ë bw2) am4 e w>=(AY,w):=cw0 i 2 o;have j:zZ (bL5 Ë bw2 2) e w>=(true,w):=Υ zZ bQ3 h
    refine Ĭ cj4 (Ĥ e (IM bJ2 (G2 i 0 c (û h))));exact cQ6 (Jc f) (Jc j)
  |nil =>
    let e:En:=[! ν,Lm]
    have f:zZ Ġ e w>=(true,w):=hU zZ (Â:Qb 1 e w>=(ų,w)) ((cL3 >>= _) w=_) (Φ b)
    have l:wy Ġ kw e w>=(ú n,w):=cC5 i 0 b rfl rfl;have o:wy Ë bw2 e w>=(Ō,w):=XV (i:=n) (ds:=Ů) Â l (Yr t);have c:wy (NO Ë bw2) am4 e w>=(AY,w):=cw0 i 2 o;have j:zZ (bL5 Ë bw2 2) e w>=(Ž w):=Υ zZ bQ3 h
    refine Ĭ ī (Ĥ e (ao9 ?_ (QF rfl)));exact cQ6 (Jc f) (Jc j)
#where
section
variable{S:TR.Sh}{bg:TR.Bg}
def zF(b k:Nat):á:=pe k (λ i=>ë (b+i))
def YU(b k:Nat):⇑(zF b k)=k:=ą zF
def Qhc(b k:Nat):zF b k++[ë (b+k)]=zF b (k+1):=Υ zF List.range_succ List.map_append
def YT{b k i:Nat}(h:i<k):dC (zF b k) ↑(b+i):=Υ zF Bt (EG h)
def Wk(w:Hs)(a:Ts):Hs:=w++Ø (zF (ĳ+2) cG7)::F5 a.flatten::a.map λ r=>Ø rg
def Mg(w:Hs)(a:Ts):⇑bJ7=ĳ+2+cG7:=by unfold Wk;simp;lia
def sJ(w:Hs)(a:Ts):ie bJ7 ĳ (zF (ĳ+2) cG7):=Υ Wk aW6 Nat.sub_self
def Qpn(w:Hs)(a:Ts):bJ7[ĳ+1]?>=(F5 a.flatten):=Υ Wk aG2 (ð (ĳ+1-ĳ=1))
def wC{w:Hs}{a:Ts}{i:Nat}{r:ć}(h:dC a r):ie bJ7 (ĳ+2+i) rg:=by unfold Wk;rw[aG2,ð (ĳ+2+i-ĳ=i+2)];show ŵ (a.map λ r=>ck rg)=_;rw[Bt,h];rfl
def Mf{w:Hs}{a:Ts}{i:Nat}(h:i<ĳ):ŵ bJ7=ŵ w:=Ah h
def Qkr(w:Hs)(a:Ts)(r:ć):(List.set ((bJ7).set (ĳ+1) (F5 (a.flatten++r))++[ck rg]) ĳ (ck (zF (ĳ+2) cG7++[aO7 bJ7])):Hs)=bJ6 (a++[r]):=by
 have b:(bJ7).set (ĳ+1) (F5 (a.flatten++r))=w++ck (zF (ĳ+2) cG7)::OV.aH (cI (a.flatten++r))::a.map λ r=>ck rg:=Υ Wk (cm _ À) (ð (ĳ+1-ĳ=1))
 rw[Mg,Qhc,b,A8,cm _ ę,Nat.sub_self];unfold Wk;rw[List.flatten_append,L9 (([r]:Ts).flatten=r),List.map_append,An];rfl
def Row(S:TR.Sh)(n:Nat)(r:ć):Û:=∃p,dA/\aD0 n r/\r.Nodup/\∀m,m∈r↔∃q,bS3/\bE0
inductive Rows(S:TR.Sh):ć->Δ Ts
 |nil:Rows S [] []
 |cons {n:Nat} {r:ć} {ls:ć} {rs:Ts}:Row S n r->Rows S ls rs->Rows S (n::ls) (r::rs)
def Rows.len{a:ć}{b:Ts}(h:Rows S a b):bE3=cG7:=by
 induction h with
 |nil=>rfl
 |cons _ _ c=>simp[c]
def Rows.get{b:ć}{c:Ts}(h:Rows S b c):bD8 i n Nat (dC b n->∃r,dC c r/\Row S n r):=by
  induction h with
  |nil=>intro i n h;simp at h
  |cons a _ e =>
    intro i n h;cases i with
    |zero=>cases h;exact ĸ _ a
    |succ i=>exact e h
def zn{n:Nat}{r:ć}(c:aD0 n r):∃a,r=n::a:=by
 cases c with
 |last _ _=>exact õ []
 |next _ _ _=>exact aU3
def QdS(T:wc S)(top:Nat){R:Nat}{rt:TR.Pg}(ht:av top rt)(hR:rt.lv=R)(w:Hs)(hN:(R+1) * Î<aY5):∀{n:Nat}{I:ć},TR.cO S bg n I->∀(p:TR.Pg)(b:Ts)(j:Nat)(z5:Sl),dA->Sk bE3=R->⇑I<j->(∀r∈b,∀m∈r,∃q,bS3/\p.lv<q.lv)->cl3<=bE3 * Î ->
    ∃(v : Ts)(Q P : Sl), Rows S I v /\ J0 (E4 fH cd4 (bL5 Ë Ġ 0)) Yj j [! ν, ģ top, Õ ĝ, Õ ↑(ĳ + 1), ģ n, z5] cX4 =
      è (ϧ [! ν,ģ top,! ĝ,!↑(ĳ+1),Q,P],bJ6 (b++v)):=by
  have o:∀(b:Ts)(z4 z5:Sl),eB (Qh fH cd4 (bL5 Ë Ġ 0)) [! ν,ģ top,! ĝ,!↑(ĳ+1),z4,z5] cX4>=(FX bE3 R,cX4):=λ b z4 z5=>by
    refine Q5 ?_;rw[aL1 (ú bE3) y (ú R) (Ξ (bQ9 n ĳ (sJ w b)) YU) (Zq (i:=0) (d:=ú R) (ds:=[È rt.lv,ñ (rt.ks.map .int),ñ (rt.ps.map .int),opt rt.hi,oN rt.sd]) (XV (i:=top) (ds:=Ů) (d:=aK rt) Â Â (Yr ht)) rfl (û hR)) rfl];show è (DV.bl (FX (Ì bE3) (Ì R)),_)=_;congr 3;by_cases c:bE3<=R
    . rw[Em c,bf6]
    . rw[Ep c,aF0]
  have C:∀(n:Nat)(r:ć)(b:Ts)(z5:Sl)(d:DV),Row S n r->bE3<=R->(∀x∈b,∀m∈x,m∉r)->cl3<=bE3 * Î->X8 [ν,ë (ĳ+2+bE3)] (bJ6 (b++[r]))>=(d,bJ6 (b++[r])) ->
      Yj [! ν,ģ top,! ĝ,!↑(ĳ+1),ģ n,z5] cX4>=(ϧ [! ν,ģ top,! ĝ,!↑(ĳ+1),! d,!↑(ĳ+2+bE3)],bJ6 (b++[r]))/\lc<=Î:=by
    intro n r b z5 d ⟨p,l,c,nd,mem⟩ hle dis L fk;have rl:lc<=Î:=Å (TR.Ml T nd mem) (Bj (Ca _ _) Ê)
    have a8:cl3+lc<aw9:=by
      have:bE3 * Î<=R * Î:=ϩ hle;have e:(R+1) * Î=R * Î+Î:=LM
      lia
    have l1:1<=Î:=cQ9 l
    have l2:R * 1<=R * Î:=ś l1;have R9:R<Ņ:=by
      have e:(R+1) * Î=R * Î+Î:=LM
      lia
    refine Ĭ ?_ rl;have sr:=QcI (S:=S) (d:=ĳ+1) c (seen:=b.flatten) (Qpn w b) (λ m h z=>ah1 x hx t (List.mem_flatten.mp z) (dis x hx m t h)) nd a8
    have ap:ie ((cX4).set (ĳ+1) (F5 (b.flatten++r))++[Ø rg]) ĳ (zF (ĳ+2) bE3):=eI (Ah (OQ List.length_set Mg)) (Am À) (sJ w b)
    refine aC (Qw (bG (cq3 Â Â) sr)) (ZM (jW (a:=ĳ) Â ap Â (Å YU (Bx hle R9)))) ?_;rw[Qkr,Mg];exact Qw (cf0 fk)
  intro n I lf;induction lf with
  |@leaf n O l h0 X =>
    intro p b j z5 hp hl hf u L;rw[l]at hp;cases hp;obtain⟨r,c,nd,mem⟩:=TR.Li T l X;have row:Row S n r:=⟨O,l,c,nd,mem⟩;obtain⟨Y,U⟩:=zn c;have wr:ie (bJ6 (b++[r])) (ĳ+2+bE3) (nD (n::Y)):=æ U (wC cw8)
    obtain⟨d,fk⟩:=vO (S:=S) wr l;obtain⟨t1,_⟩:=C n r b z5 d row À (λ x hx m t z=>by obtain⟨q,q1,q2⟩:=u x hx m t;obtain⟨J,F,q4⟩:=(mem m).mp z;rw[q1]at F;cases F;lia) L fk
    have hf:1<j:=hf;obtain⟨f,rfl⟩:∃f,j=f+2:=bm9 j 2;have t0:=o b (ģ n) z5;rw[bf6]at t0;have t2:=o (b++[r]) as3 (Õ ↑(ĳ+2+bE3));rw[Ep wq]at t2;exact⟨[r],! d,_,fX row mT,å (VD t0 t1) (Mw t2)⟩
  |@fork n c0 O I l h0 X hk lf ih =>
    intro p b j z5 hp hl hf u L;rw[l]at hp;cases hp;obtain⟨r,c,nd,mem⟩:=TR.Li T l X;have row:Row S n r:=⟨O,l,c,nd,mem⟩;obtain⟨Y,U⟩:=zn c;have wr:ie (bJ6 (b++[r])) (ĳ+2+bE3) (nD (n::Y)):=æ U (wC cw8)
    obtain⟨t1,rl⟩:=C n r b z5 ↥(Ì c0) row À (λ x hx m t z=>by obtain⟨q,q1,q2⟩:=u x hx m t;obtain⟨J,F,q4⟩:=(mem m).mp z;rw[q1]at F;cases F;lia) L (kF (S:=S) wr l hk)
    have hf:⇑I+1<j:=hf;obtain⟨f,rfl⟩:∃f,j=f+1:=by3 j;have t0:=o b (ģ n) z5;rw[bf6]at t0;obtain⟨cc,q,a1,a2,a3,a4⟩:=T.kid n O l h0 0 _ hk;have:c0=cc:=À
    subst this;obtain⟨v,Q,P,h1,h2⟩:=ih q (b++[r]) f (Õ ↑(ĳ+2+bE3)) a2 wq À (λ x hx m t=>by
      rcases bx0 with h|h
      . obtain⟨J,q1,q2⟩:=u x h m t
        exact da J q1 À
      . rw[Fs h]at t
        obtain⟨J,F,q4⟩:=(mem m).mp t;exact da J F À) (by rw[List.flatten_append,An,An,L9 (([r]:Ts).flatten=r),tz (CS ([r]:Ts)=1),Nat.add_mul,Nat.one_mul];lia)
    exact⟨r::v,Q,P,fX row h1,å (VD t0 t1) (Ρ h2 A8)⟩
#where
section
variable{S:TR.Sh}{bg:TR.Bg}
def XG(T:wc S){rt:TR.Pg}(b:NJ rt)(hN:bC0<aY5)(w:Hs):∃(a:ć)(c:Ts),TR.cO S bg S.top a/\cG7=bB8/\Rows S a c/\Z0 [ν,ú S.top] w>=(aJ1,bJ6 c):=by
 obtain⟨a,h1,h2⟩:=TR.MD T rt.lv S.top rt rfl b T.j_;have f:1<=Î:=cQ9 b
 have n:bB9 1<=bC0:=ś f;obtain⟨c,z4,z5,i,j⟩:=QdS T S.top b rfl w hN h1 rt [] Ņ Ś b Ê À (au6 r h h) Ê;refine⟨a,c,h1,h2,i,Oe [! ν,ģ S.top,! ĝ,!↑(ĳ+1),z4,z5]⟩;have e:bJ6 []=(w++[l7])++[LT]:=þ Wk A8
 have l:xV [! ν,ģ S.top,! ĝ,Ś,Ś,Ś] (w++[l7])>=(ë (ĳ+1),bJ6 []):=by rw[e];show è (aO7 (w++bU6),_)=_;rw[An];rfl
 refine nK [! ν,ģ S.top,! ĝ,Ś,Ś,Ś] (w++[l7]) rfl (aC (Qw l) (Qw Â) ?_);exact IM (Ý (zO _ _=_) j) Â
def zC{hp:Hs}{n k:Nat}{r t a b:Int}(h1:bU1 r t a b)(h2:L4 k Ů):Jl [LD] hp>=(ν,hp):=by
 refine bk7 [! s0] (bt4 (QZ (a:=n) Â h1 aQ2) ?_);show((Zx k >>= λ o=>cl1 o ds cs4 failure cA9) >>= λ ds=>cs5 ds) hp=_;have:(Zx k >>= λ o=>cl1 o ds cs4 failure cA9) hp>=(Ů,hp):=û (Φ h2)
 rw[LW];rfl
def QgP(T:wc S){rt:TR.Pg}(l:NJ rt)(hN:bC0<aY5){w:Hs}{n k:Nat}{r a b:Int}(h1:bU0 w[n]? r dX a b)(h2:ie w k Ů):
  ∃(c:ć)(e:Ts),TR.cO S bg S.top c/\ch3=bB8/\Rows S c e/\KD [LD] w>=(aJ1,bJ6 e):=by
 obtain⟨c,e,f,h,i,j⟩:=XG T l hN w;exact⟨c,e,f,h,i,bk7 [! s0] (mw (wE a n Â h1 rfl XQ (zC h1 h2)) (wE a n Â h1 cr8 XQ (Vg h1)) j)⟩
#where
def Qip{b:DV->aG}(J:cd7)(W:NU Hs)(a:Nat)(ds:á)(f:Ć<Ņ)(c:∀i,i<=Ć->ie YP a ds)(j:∀(i:Nat) d,aR9->b d (J i) YP>=(TD (i+1),W (i+1))):xY (g_ a) b Ņ 0 aN8 bi0>=(cV4,W Ć):=by
 have:=Kn (b:=b) (env:=aN8) (hp:=bi0) (nxt:=g_ a) (Q:=λ r h=>r=cV4/\h=W Ć) ds (λ i env h=>i<=Ć/\env=J i/\h=YP) f (λ i env h hi ⟨_,e1,e2⟩=>by
  subst e2;exact DP (c i hi) i) (ĸ CO rfl) (λ i d hd env h ⟨_,e1,e2⟩=>by
  subst e1 e2;exact WP.of (j i d hd) (ĸ bi9 rfl)) (λ env h ⟨_,e1,e2⟩=>Ĭ (nV e1) e2)
 obtain⟨r,h,e,rfl,rfl⟩:=this;exact e
def wB(w:Hs)(d:DV)(ds:á):Û:=d=fI∨∃n,d=LD/\ie w n ds
def QjH{f:aJ}{g:iU}{a:aG}{hp:Hs}{ds:á}(J:cd7)(W:NU Hs)(hf:aT>=(d,hp))(hx:wB hp d ds)(b:Ć<Ņ)(h0:aN8=env)(e:bi0=hp)(keep:∀(i n:Nat),i<=Ć->bC5>=(ck ds)->YP[n]?>=(ck ds))
  (hs:∀(i:Nat) d,aR9->(do let env' <- g d (J i);a env':M (Fl × En)) YP>=(TD (i+1),W (i+1))):qJ (cW f) g a env hp>=(cV4,W Ć):=by
 subst h0 e;rcases hx with rfl|⟨n,rfl,c⟩
 ·exact zH (Ye hf) (K7 J W ds b hs)
 ·have x:cW f aN8 bi0>=(g_ n,bi0):=hU cW hf ((OU >>= _) bi0=_) (Φ c)
  unfold qJ;rw[Qe x];exact Qip J W n ds b (λ i hi=>keep i n hi c) hs
section
variable{S:TR.Sh}{bg:TR.Bg}
def uF{n:Nat}{r:ć}(c:aD0 n r):∀{i m:Nat},dC r m->∃p,aw m/\p.sd=r[i+1]?:=by
  induction c with
  |@last n p a b =>
    intro i m h;cases i with
    |zero=>cases h;exact da p a b
    |succ i=>simp at h
  |@next n p s r a b c f =>
    intro i m h;cases i with
    |zero=>cases h;obtain⟨j,e⟩:=zn c;exact da p a (Ρ b e)
    |succ i=>exact f h
def eF(bg:TR.Bg)(r:ć):Ϧ:=r.map λ m:Nat=>(ê nC,PZ m)
def Qkv{r:ć}{k:Nat}(h:k∉r):JQ (aD1 r) Tx (PZ k)=aD1 (r++[k]):=by
 unfold JQ;rw[Eg (NV z)]
 ·unfold eF;rw[List.map_append];rfl
 ·rw[List.any_eq_true]at z;obtain⟨a,m,e⟩:=z;obtain⟨x,hx,rfl⟩:=bI4 m;have e:=Eo e;have:x=k:=af7 e e
  exact h (this▸hx)
def Kr(k:Nat):∀{r:ć},k∈r->Jv (aD1 r) Tx>=(PZ k)
  |x::xs,h=>by
    unfold Jv;show cV5 _ ((f7 (Ì x),PZ x)::aD1 xs)=_;rw[B7];by_cases e:x=k
    . subst e;simp
    . have a:¬ (f7 (Ì x):Key)=f7 Ϯ:=λ z=>e (af7 z z)
      rw[Ep a];rcases Nm h with z|z
      . exact ď z.symm e
      . exact Kr k z
def YF(bg:TR.Bg)(r:ć)(i:Nat):DV:=match ŵ r with
 |some m=>PZ m
 |none=>ī
def U_{e f g:aJ}{hp:Hs}{d:Nat}{k:Int}{kvs:Ϧ}(a:bs5>=(x,hp))(hf:aT>=(ë d,hp))(hd:E8 d>=nl)(b:az0>=(aY7,hp))(c:Ϟ<Ņ):zG e (d9 f g) env hp>=(L3,μ d (ba0 AO x)):=by
 unfold zG;rw[Qe a];have:d9 f g x env hp>=(env,μ d (ba0 AO x)):=by
  unfold d9;rw[bs0,bH1];have q:sH cm3 ↥k x hp>=((),μ d (ba0 AO x)):=ac3 ((Zx d >>= _) hp=_) hd ((QJ bm0 >>= λ_=>yn d (ba0 AO x)) hp=_) (cG3 bm0 c)
  rw[Qe q];rfl
 rw[LW];rfl
def uw{r:ć}(y:∀{i m:Nat},dC r m->∃p,aw m/\YF bg r (i+1)=ϓ)(h0:YF bg r 0=ī)(l:r.Nodup)(U:lc<aw9){w:Hs}(hx:wB w d rg):YY [ν,d] w>=(aJ1,w++[cx3]):=by
 let J:cd7:=λ i=>[! ν,! d,! ĝ,!(YF bg r i),match i with|0=>Ś|j+1=>Õ (match r[j]? with|some m=>ú m|none=>ī)]
 let W:NU Hs:=λ i=>w++[aD2 ac6]
 have old:∀(i n:Nat)(ds:á),w[n]?>=(ck ds)->YP[n]?>=(ck ds):=λ i n ds h=>hW ((w++_)[n]?=_) (Ah cO6) h
 have o:wB bi0 d rg:=by
  rcases hx with h|⟨n,h,c⟩
  ·exact ca1
  ·exact Ğ (da n h (old 0 n _ c))
 have a:xy aN8 bi0>=(TD ⇑rg,W ⇑rg):=by
  refine QjH J W (Â:Qb 1 aN8 bi0>=(d,bi0)) o (Ĵ XX) rfl rfl (nL i n hi c) (Ł i x b)
  ·by_cases e:n=ĳ
   ·subst e;have:bi0[ĳ]?>=(aD2 (r.take 0)):=bn5 ((w++_)[ĳ]?=_) aW6 Nat.sub_self
    rw[this]at c;cases c
   ·have F:n<ĳ:=by
     have:=ZC c;have R:⇑bi0=ĳ+1:=ą W
     lia
    refine old i n _ ?_;have:bi0[n]?=w[n]?:=Ah F;rw[<- this];exact c
  ·have t:i<lc:=bk9 (ZC b) XX
   have f:dC r r[i]:=Ab t;rw[GD f]at b;cases b;obtain⟨p,I,L⟩:=y f;have bi:YF bg r i=PZ r[i]:=Ż YF f
   have P:YP[ĳ]?>=(aD2 ac6):=bn5 ((w++_)[ĳ]?=_) aW6 Nat.sub_self
   let e:En:=[! ν,! d,! ĝ,!(YF bg r i),ģ r[i]]
   show xC e YP=_;have u:r[i]∉ac6:=λ z=>by obtain⟨j,C,v⟩:=Cs.mp z;rw[A9]at C;rw[C1]at v;exact(Cq.mp l j i À t À) v
   have O:(YP).set ĳ (nj (JQ (aD1 ac6) (ê (Ì r[i])) (YF bg r i)))=W (i+1):=by rw[bi,Qkv u];show(w++_).set ĳ _=w++_;rw[cm _ ę,Nat.sub_self,aa5 t];rfl
   refine l5 (U_ (d:=ĳ) (k:=Ì r[i]) Â Â P Â (cJ1 eF Bq A9));rw[O];refine ϯ (Qw (Zq (i:=3) (d:=ϓ) (ds:=[rp,MP,AY,ϓ,ig]) (XV (i:=r[i]) (ds:=Ů) (d:=Ō) Â Â (Yr I)) rfl rfl));show è (aV5 [_,_,_,Sl.val ϓ,_],_)>=(aV5 [_,_,_,Sl.val (YF bg r (i+1)),Sl.val (match ŵ r with|some m=>oT nC|none=>DV.non)],_);rw[L,f]
 rw[XX]at a;have Q:W lc=w++[cx3]:=N2 (w++_) _ List.take_length
 rw[Q]at a;refine Oe (J lc);refine nK [! ν,! d,! ĝ,Ś,Ś] (w++[LT]) rfl (Ē aF aN8 bi0 ?_ (IM a Â));show è (aV5 [_,_,_,Sl.val DV.non,_],_)>=(aV5 [_,_,_,Sl.val (YF bg r 0),_],_);rw[h0];rfl
#where
def Wv{f g:aJ}(hf:aT>=(o0,hp))(a:az0>=(ñ es,hp)):kQ f g env hp>=(YX ds es,hp):=by unfold kQ;rw[bs0,Qe (rfl:oF o0 hp>=(ds,hp)),Qe a];rfl
def Qka{f g:aJ}{ds:á}{a:Nat}(hf:aT>=(o0,hp))(c:az0>=(ú a,hp)):bH f ar2 Zw env hp>=(ñ cE5,hp):=by
 unfold bH Ze Zw;rw[bs0];have b:(cB5 i SU:M Č) hp>=(ce7,hp):=û bQ3
 rw[bH1,Qe (rfl:(aI9:M Č) hp>=(aE1 hp)),<- yA ds a];rfl
def LK{f:aJ}(hf:aT>=(o0,hp)):lF f env hp>=(ds,hp):=lw lF hf
def yH{f g:aJ}{b:Bool}(h:aT>=(LZ,hp1)):kE f g env hp=df b (è (ο,hp1)) bS5:=ak2 kE b
def Me:∀ds:á,oA cE8>=bT0
  | []=>rfl
  |_::ds=>Ő (pc (oA cE8) (true :: ·)=_) (Me ds)
def Lx{c:aJ}{ds:á}(h:aN7>=(Ø cE8,hp)):bX9 q_ c env hp>=(ο,hp):=by refine bt4 h ?_;show(rK (oA cE8) >>= λ bs=>Ô (DV.bl aI3)) hp=_;rw[Me,Qe (rfl:rK (è bT0) hp>=(bT0,hp))];show è (DV.bl ((bT0).all id),hp)=_;congr 3;rw[List.all_eq_true];intro x hx;obtain⟨_,_,rfl⟩:=bI4 hx;rfl
section
def Qd1{O4:Nat}{b:Č}(ok:TR.Jh O4 b p)(F:E9 O4)(hp:Hs):qV [Ō,E5] hp>=(ο,hp):=by
  have few:=ok.few
  let e:En:=[! Ō,! E5,! MP,! ϓ]
  have l:⇑ir<Ņ:=Ĵ Bq
  have n:∀x∈ir,∃k∈p.ks,x=aY7:=λ x hx=>ah1 k h rfl (bI4 hx) (Œ k h)
  have t:jf e hp>=(Ø (pc (YX ħ (Na ħ 1)) be8),hp):=by refine jX (nw:=false) (m:=be8) (D_ (Wv Â (Qka (a:=1) Â rfl))) EK (Ź x hx) (Ĵ VH);obtain⟨i,hi⟩:=bY1 hx;obtain⟨u,v,h1,h2,rfl⟩:=VG hi;rw[Cb]at h2;rw[Bt]at h1 h2;obtain⟨k1,g1,rfl⟩:=bG5 h1;obtain⟨k2,g2,rfl⟩:=bG5 h2;have lt:=TR.X2 ok.sorted g1 g2 À;refine ϯ (E2 x k1 y k2 (cf6 0 [È k1,È k2]) (cf6 1 [È k1,È k2]) rfl);show è (DV.bl (AN k1 k2),hp)=_;rw[Em lt]
  have r:∀v,b>=v->YA e hp>=(Ø (pc ir be8),hp):=λ v f=>by refine jX (nw:=false) (m:=be8) (D_ (LK Â)) EK (Ź x hx) l;obtain⟨k,h,rfl⟩:=n x hx;have:=ok.low k h v f;refine ϯ (E2 x v y k (Ő (è (E5,hp)=_) f) Â rfl);show è (DV.bl (FX v k),hp)=_;rw[Em this]
  have o:∀v,aL5 v->Yz e hp>=(Ø (pc ir be8),hp):=λ v f=>by refine jX (nw:=false) (m:=be8) (D_ (LK Â)) EK (Ź x hx) l;obtain⟨k,h,rfl⟩:=n x hx;have:=ok.high k h v f;refine ϯ (E2 x k y v Â (Ő (è (ϓ,hp)=_) f) rfl);show è (DV.bl (AN k v),hp)=_;rw[Em this]
  refine Oe e;refine Qq (Qw (cf6 1 [rp,MP,AY,ϓ,ig])) (Qq (aF:=e) (Qw (cf6 3 [rp,MP,AY,ϓ,ig])) ?_);refine cu6 (Jc (Q5 (Lx t)));have C:aQ (Yh (cd9 V5 Ġ) (aO3 (sR q_ YA))) aG6 ZD e hp>=(ϧ e,hp):=by
    refine bJ2;cases c:b with
    |none=>exact xU (Q5 (cW9 ī (è (E5,hp)=_) c))
    |some v=>exact å (zq (Q5 (cW9 (È v) (è (E5,hp)=_) c))) (Jc (Q5 (Lx (r v c))))
  have z:aQ (Yh (cd9 V5 io) (aO3 (sR q_ Yz))) aG6 ZD e hp>=(ϧ e,hp):=by
    refine bJ2;cases c:p.hi with
    |none=>exact xU (Q5 (cW9 ī (è (ϓ,hp)=_) c))
    |some v=>exact å (zq (Q5 (cW9 (È v) (è (ϓ,hp)=_) c))) (Jc (Q5 (Lx (o v c))))
  refine aC C z cr3;cases c:b with
  |none=>exact yH (b:=true) (cW9 ī (è (E5,hp)=_) c)
  |some v =>
    refine ϯ (yH (b:=false) (cW9 (È v) (è (E5,hp)=_) c));cases j:p.hi with
    |none=>exact yH (b:=true) (cW9 ī (è (ϓ,hp)=_) j)
    |some u=>refine ϯ (yH (b:=false) (cW9 (È u) (è (ϓ,hp)=_) j));have:=ok.wide u j v c;refine ϯ (E2 x v y u (Ő (è (E5,hp)=_) c) (Ő (è (ϓ,hp)=_) j) rfl);show è (DV.bl (AN v u),hp)=_;rw[Em this]
#where
def RP(o:wd):oN o=opt (o.map λ n:Nat=>oq):=kb o
section
variable{S:TR.Sh}{bg:TR.Bg}
def Qhz{O4:Nat}{b:Č}{p:TR.Pg}(ok:TR.Jh O4 b p)(hp:Hs):YD [Ō] hp>=(È Ϲ,hp):=by
 let e:En:=[! Ō]
 have a:wy Ë kw e hp>=(rp,hp):=cf6 0 [rp,MP,AY,ϓ,ig];have c:bX9 Z2 al3 e hp>=(È Š,hp):=œ (bt4 (cf6 1 [rp,MP,AY,ϓ,ig]) (yX _ hp)) Bq;have pl:=ok.parts;refine bk7 e ?_;by_cases z:LJ
 ·rw[Eh z,Nat.add_zero]at pl;refine ϯ (uP (hp1:=hp) (Q5 (b:=true) ?_))
  ·exact bk4 (LR a rfl) z
  ·exact c.trans (nV pl)
 ·rw[Eg z]at pl;refine ϯ (uO (hp1:=hp) (Pd b ?_))
  ·refine ϯ (LR a rfl);congr 2;simp;lia
  ·refine ϯ (Ko c rfl);rw[pl];rfl
def GL{O4:Nat}{b:Č}{p:TR.Pg}(ok:TR.Jh O4 b p)(h:(aZ2/\bv5)∨∃(x:Int)(s:Nat),aL5 x/\cl5)(j:E9 O4)(w:Hs)(m:Int):Xe [È m,Ō,rp,E5,ig] w>=(aJ1,w++[l7]):=by
 let e:En:=[Ö m,! Ō,Ö p.lv,! E5,! ig,! ĝ]
 let v:=w++bU6
 have l:wy Ġ kw e v>=(rp,v):=cf6 0 [rp,MP,AY,ϓ,ig];have o:bX9 Z2 (bp 1 2) e v>=(È Ϲ,v):=œ (bt4 (cf6 2 [rp,MP,AY,ϓ,ig]) (yX _ v)) Bq;have c:wy Ġ ca3 e v>=(ϓ,v):=cf6 3 [rp,MP,AY,ϓ,ig];have a:wy Ġ (ì 4) e v>=(ig,v):=cf6 4 [rp,MP,AY,ϓ,ig];refine Oe e;refine Fi e v rfl;refine cu6 (Q5 (Qn l Â (Ox _ _)));refine cu6 (Jc (Q5 (cf0 (Qd1 ok j v))));refine cu6 (Q5 (Qn o (bG uq (Qhz ok v)) (Ox _ _)));refine IM bJ2 Â;have f:Qh eN (Æ isD (bp 1 3) ī) (Æ isD (bp 1 4) ī) e v>=(π,v):=by
  rcases h with ⟨h1,h2⟩|⟨x,s,h1,h2⟩
  ·exact aL1 ο y ο (cW8 ī (Ρ c h1)) (cW8 ī (Ρ a h2)) (Oz _ _)
  ·exact aL1 π y π (cW8 cj4 (Ρ c h1)) (cW8 (È s) (Ρ a h2)) (Oz _ _)
 refine cQ6 (Q5 f) (Q5 ?_);rw[RP]at a;refine ϯ (Qn a (y:=opt (p.sd.map λ n:Nat=>oq)) (N2 (è (ig,v)) _ RP) (Np _ _ _));simp;rfl
def vU{b:Č}{p:TR.Pg}{r:ć}{kd:Nat}{w:Hs}(o:w[kd]?>=cx3)(L:Ϲ=Š+1)(U:bM7)(I:ŗ j x Int (aK4 j>=x->∃c:Nat,x=ts/\c∈r/\bh4=TR.Z8 b p.ks j))(m:Int):Yp [È m,Ō,E5,ë kd] w>=(aJ1,w++[l7]):=by
  let v:=w++bU6
  have P:kd<ĳ:=ZC o;have f:v[kd]?>=cx3:=hW ((w++_)[kd]?=_) (Ah P) o
  let e:á:=E5::ħ
  let J:cd7:=λ i=>[Ö m,! Ō,! E5,!↑kd,! AY,!(ñ e),! ĝ,match i with|0=>Ś|j+1=>ģ j,match i with|0=>Ś|j+1=>Õ (match aK4 j with|some x=>cj4|none=>ī)]
  have a:=Wx (b:=aC4 d env' 7 d (YM env')) J v (Zg 0 Ϲ) (λ i d hd=>by
    obtain⟨hi,C⟩:=T5 hd;subst C;have hx:dC p.ps p.ps[i]:=co5;obtain⟨c,n,l,u⟩:=I i _ hx
    let z8:Sl:=match i with|0=>Ś|j+1=>Õ (match aK4 j with|some x=>cj4|none=>ī)
    let z:En:=[Ö m,! Ō,! E5,!↑kd,! AY,!(ñ e),! ĝ,aU6,z8]
    let h:En:=[Ö m,! Ō,! E5,!↑kd,! AY,!(ñ e),! ĝ,aU6,ģ c]
    have O:J (i+1)=h:=by show[_,_,_,_,_,_,_,_,Sl.val (match ŵ p.ps with|some x=>oT x|none=>DV.non)]=_;rw[hx,n]
    rw[O];show YM z v=_;refine nK h v (de i i Ę Â Â (by rw[Bt,hx,n];rfl)) bJ2;have F:Qh n8 OT (wS 5) h v>=(π,v):=by refine ϯ (aL1 (ú i) y (ú ⇑e) Â (Jj uq (yX _ v)) rfl);show è (DV.bl (FX (Ì ⇑e) nW),v)=_;rw[Ep (by show ¬ (Ì ⇑(E5::ir)<=nW);rw[Ba,Bq];lia)]
    have R:dC e (opt (TR.Z8 b p.ks i)):=by
      cases i with
      |zero=>rfl
      |succ i=>show dC ir (opt (ŵ p.ks));rw[Bt,Ab À];rfl
    refine cQ6 (Q5 F) (cQ6 (Q5 (aL1 (ú c) y (ë kd) Â Â (SQ f (Kr c l)))) (Q5 ?_));refine ϯ (aL1 (PZ c) y (PZ c) (aL1 (ë kd) y (ú c) Â Â (Rx f (Kr c l))) (de i i e Â Â (Ξ R u)) (Np _ _ _));simp)
  rw[JZ]at a;refine Oe (J Ϲ)
  let t:En:=[Ö m,! Ō,! E5,!↑kd,! AY,Ś,Ś,Ś,Ś]
  refine Fi t w (cf6 2 [rp,MP,AY,ϓ,ig]);have Q:Qh Q7 (ZO ww) (bp 1 1) t w>=(ñ e,w):=by refine aL1 (ñ [E5]) y MP (Jk uq Į) (cf6 1 [rp,MP,AY,ϓ,ig]) ?_;show(br8 ([E5]++ir) >>= λ_=>N9 ([E5]++ir):į) w=_;rw[X1 (by rw[An,Bq];simp;lia)];rfl
  refine Qq (Qw Q) (nK aN8 v rfl (IM (X0 (ds:=Zg 0 Ϲ) (yS (m:=Ϲ) (Zn ?_) À) a) Â));exact œ (Jj uq (yX Ę v)) Bq
#where
section
variable{S:TR.Sh}{bg:TR.Bg}
def W7(T:wc S){n:Nat}{r:ć}(h:Row S n r)(j:Ū ň):(∀{i m:Nat},dC r m->∃p,aw m/\YF bg r (i+1)=ϓ)/\YF bg r 0=ī:=by
 obtain⟨v,u,c,nd,mem⟩:=h;refine CB (λ{i m} l=>?_)
 ·obtain⟨p,h1,h2⟩:=uF c l;refine AB p h1;unfold YF;rcases at9 m h1 with ⟨a,b⟩|⟨x,s,q,a,b,o,t,f⟩
  ·rw[<- h2,b,a];rfl
  ·rw[<- h2,b,a];show PZ s=_;rw[f]
 ·obtain⟨y,e⟩:=zn c;unfold YF;rw[e];show opt ň=_;rw[j];rfl
def yJ{w v:Hs}{o:aJ}{fa:bR}{a x:Nat}(e:cq1 w>=(ų,w))(c:ie w a [])(hf:aH7 w>=([ë x],v))(b:ie v a [])(hx:ie v x []):Z7 (JC Ā JD o fa) env w>=(L3,v):=by have:=xW e c hf b hx Ê;rw[tz (([]:á)++[]=[]),MJ b]at this;exact ZM this
def Qv{w t:Hs}{i:Nat}(h:EB w):EB (w++t):=Å (Ah cO6) h
def Xl(w:Hs)(x:OV):(w++[x])[ĳ]?>=x:=cw8
def jM(T:wc S)(hr:E9 S.O4){n:Nat}{r rb:ć}(row:Row S n r)(hb:Ū ň){lv:Nat}(n6:∀p,dA->rL lv)(a8:lc<aY5)(a9:rb.length<aY5)(P:rb.Nodup)
  (hbe:(∀{i m:Nat},dC rb m->∃p,aw m/\YF bg rb (i+1)=ϓ)/\YF bg rb 0=ī) (Ho:0<lv->∀c q,rq c->ci0=lv->c∈rb) {w:Hs} {a:Nat} {dB:DV} (ha:ie w a rg) (hB:wB w dB (nD rb)) :
  ∃(t:Hs)(x:Nat),qg [ν,ų,ú lv,dB] w>=(ë x,w++t)/\ie (w++t) x []:=by
 have oZ:=row;obtain⟨p0,hn,c,nd,mem⟩:=row;have l0:=n6 p0 hn;obtain⟨SO,SS⟩:=W7 T oZ hb
 let l:=w++[aY4 r]
 let o:=l++[aY4 rb]
 let e:=o++bU6
 have U:⇑l=ĳ+1:=ą l
 have L2:⇑o=ĳ+2:=ky o l
 have d1:e[ĳ]?>=cx3:=MN (Xl w _);have d2:e[ĳ+1]?>=(aD2 rb):=τ (Xl l (aY4 rb)) U (Qv this)
 have z:ie e (ĳ+2) []:=bk9 (Xl o bl5) L2
 have Y:ie e a rg:=MN (Qv ha);have Su:wB l dB (nD rb):=by
  rcases hB with h|⟨k,h1,h2⟩
  ·exact ca1
  ·exact Ğ (da k h1 (Qv h2))
 let E:Sl->Sl->Sl->Sl->En:=λ z7 z8 z9 y=>[! ν,Lm,ģ lv,! dB,! ĝ,!↑(ĳ+1),!↑(ĳ+2),z7,z8,z9,y]
 obtain⟨u,hp',e4,Q,y7,y8,y9,R,rfl,rfl⟩:=Uy (b:=aC4 d u 7 d (Xo u)) (λ_ env hp=>∃(t:Hs)(z7 z8 z9 y:Sl),env=E z7 z8 z9 y/\hp=e++t) lc (E Ś Ś Ś Ś) e ⟨[],Ś,Ś,Ś,Ś,rfl,Ê⟩ (λ i hi env hp aD=>by
  obtain⟨t,z7,z8,z9,y,e1,e2⟩:=aD;subst e1 e2;have hm:dC r r[i]:=co5;obtain⟨p,C,p2⟩:=uF c hm;have pl:rL lv:=by obtain⟨q,q1,q2⟩:=(mem r[i]).mp (B8 hi);rw[C]at q1;cases q1;lia
  have ok:=eW r[i] p C;have lk:(aZ2/\bv5)∨∃(x:Int)(s:Nat),aL5 x/\cl5:=by
   rcases at9 r[i] C with h|⟨x,s,q,a1,a2,_⟩
   ·exact ca1
   ·exact ax6 x s a1 a2
  let v:=e++t
  let L:=E aU6 z8 z9 y
  let e8:=E aU6 (ģ r[i]) z9 y
  let O:=E aU6 (ģ r[i]) (Õ Ō) y
  let f:=E aU6 (ģ r[i]) (Õ Ō) (Õ ig)
  have I:ie v a rg:=Qv Y;have s8:wy Ġ OT L v>=(ú r[i],v):=cC5 i i I Â (GD hm);have s9:wy Ë (Qb 8) e8 v>=(Ō,v):=XV (i:=r[i]) (ds:=Ů) Â Â (Yr C);have mR:QY Z2 fy O v>=(È lc,v):=Ξ (bQ9 n a I) XX
  have nx:Qh Q7 OT Ÿ O v>=(ú (i+1:Nat),v):=zh (i:=i) (j:=1) Â rfl;have w6:cL (E4 cU (ax4 7) (wS 1)) (NO Ġ (ax4 7)) iN O v>=(ig,v):=by
   by_cases q:i+1<lc
   ·have h':r[i+1]?>=r[i+1]:=Ab q;refine ϯ (uP (hp1:=v) (Q5 (b:=true) (œ (RX nx mR) bf6)));rw[p2,h'];exact cC5 i (i+1) I nx (GD h')
   ·refine ϯ (uO (hp1:=v) (Pd b (œ (RX nx mR) aF0)));rw[p2,C0 À];rfl
  have X:∀(v':Hs)(h:v'[ĳ]?>=cx3),wy dd (Qb 8) f v'>=(PZ r[i],v'):=λ v' h=>Qn Â Â (Rx h (Kr r[i] (B8 hi)));have pf:Xe [ú r[i],Ō,ú lv,PZ r[i],ig] v>=(ë ⇑v,v++[l7]):=bk9 (GL ok lk hr v (Ì r[i])) pl
  let v':=v++bU6
  have x1:Z7 (JC Ā JD LV (é (ù 5 Xe 8 (Ç 9 (bZ6 2 (ax9 dd 8) (Đ 10)))))) f v>=(ϧ f,v') :=
   yJ (a:=ĳ+2) (x:=⇑v) Â (Qv z) (Zn (bG (Du Â Â Â (X v (Qv d1)) Â) pf)) (MN z) (Xl v _)
  by_cases lz:0<lv
  ·have pp:=ok.parts;rw[aE]at pp;have kf:Yp [ú r[i],Ō,PZ r[i],ë (ĳ+1)] v'>=(ë ⇑v',v'++[l7]):=vU (r:=rb) (MN d2) pp (Bj ok.few hr) (λ j x hx=>by obtain⟨cc,q,J,F,b3,b4⟩:=T.kid r[i] p C À j x hx;exact Nc cc J (Ho lz cc q F À) b4) _
   refine⟨f,v'++[l7],?_,t++[l7]++[l7],_,_,_,_,rfl,ky v' v⟩;show Xo L v=_;refine aC (Qw s8) (Qw s9) (aC (Qw w6) x1 (bJ5 v' (Q5 (b:=true) ?_) ?_))
   ·exact œ (K9 (i:=Ì lv) Â rfl) bf6
   ·exact yJ (a:=ĳ+2) (x:=⇑v') Â (MN z) (Zn (bG (wQ Â Â (X v' (MN d1)) Â) kf)) (MN (Qv z)) (Xl v' _)
  ·refine⟨f,v',?_,t++[l7],_,_,_,_,rfl,ky v' v⟩;show Xo L v=_;refine aC (Qw s8) (Qw s9) (aC (Qw w6) x1 (cP3 v' (Pd b ?_)));exact œ (K9 (i:=Ì lv) Â rfl) aF0)
 refine Nc ([aY4 r,aY4 rb,bl5]++Q) (ĳ+2) (Oe (E y7 y8 y9 R)) (by have:=Qv (t:=Q) z;simpa [e,o,l]using this);have J:=uw (S:=S) (bg:=bg) SO SS nd À (w:=w) (d:=ų) (Ğ (ĸ a ha));have F:=uw (S:=S) (bg:=bg) hbe.1 hbe.2 P À (w:=l) (d:=dB) Su;rw[U]at F;refine Fi [! ν,Lm,ģ lv,! dB,! ĝ,Ś,Ś,Ś,Ś,Ś,Ś] l (cf0 J);refine Fi [! ν,Lm,ģ lv,! dB,! ĝ,!↑(ĳ+1),Ś,Ś,Ś,Ś,Ś] o (cf0 F);have n3:YJ Qj [! ν,Lm,ģ lv,! dB,! ĝ,!↑(ĳ+1),Ś,Ś,Ś,Ś,Ś] o>=(ë (ĳ+2),e):=N2 (è (aO7 o,_)) _ L2
 refine nK (E Ś Ś Ś Ś) e n3 (IM (X0 (ds:=Zg 0 lc) (yS (m:=lc) (Zn (Ξ (bQ9 n a Y) XX)) À) e4) ?_);show è (DV.ref (ĳ+2),e++Q)=_;simp[e,o,l]
#where
section
variable{S:TR.Sh}{bg:TR.Bg}
def Row.lt(T:wc S){n:Nat}{r:ć}(h:Row S n r):lc<=Î:=by obtain⟨p,a,c,nd,mem⟩:=h;rw[TR.Ml T nd mem];exact Bj (Ca _ _) Ê
def QgA(T:wc S)(hr:E9 S.O4){rt:TR.Pg}(ht:NJ rt)(hN:bC0<aY5){w:Hs}{n k:Nat}{rm a b:Int}(h1:bU0 w[n]? rm dX a b)(h2:ie w k Ů):
  ∃(t:Hs)(x:Nat),KC [LD] w>=(ë x,w++t)/\ie (w++t) x []:=by
 obtain⟨y,f,lf,ll,C,lv⟩:=XG T ht hN w;have rl:=C.len;have l1:1<=Î:=cQ9 ht
 have pN:Î<aY5:=pD (1 * Î<=bC0) cR9
 have R9:bB8<aY5:=pD (bB9 1<=bC0) (ś l1)
 have lg:=lf.get T rt ht
 let Q:=bJ6 f
 let l:=Q++bU6
 let N:=⇑Q
 have F:ie l ĳ (zF (ĳ+2) by5):=Qv (sJ w f);have r2:bD8 i r ć (dC f r->ie l (ĳ+2+i) rg):=λ h=>Qv (wC h);have P:ie l N []:=Xl Q _
 let E:Sl->Sl->Sl->En:=λ z4 z5 z6=>[! s0,! ν,! ĝ,!↑N,z4,z5,z6]
 obtain⟨o,hp',I,t4,y4,y5,y6,rfl,rfl⟩:=Uy (b:=aC4 d o 4 d (zw o)) (λ_ env hp=>∃(t:Hs)(z4 z5 z6:Sl),env=E z4 z5 z6/\hp=l++t) by5 (E Ś Ś Ś) l (EC [] Ś Ś Ś Ê) (λ i hi env hp aD=>by
  obtain⟨t,z4,z5,z6,e1,e2⟩:=aD;subst e1 e2
  let v:=l++t
  have il:i<⇑y:=À
  have hl:dC y y[i]:=Ab il;obtain⟨r,O,row⟩:=C.get hl;obtain⟨q,q1,q2,q3⟩:=lg.2 i _ hl
  let lvl:=rt.lv-i
  have mR:∀e:En,Qb 2 e v>=(aJ1,v)->QY Z2 ww e v>=(È by5,v):=λ e he=>Ξ (J7 (n:=ĳ) he (Qv F)) YU
  let I:=E aU6 z5 z6
  let U:=E aU6 (ģ lvl) z6
  have s5:Qh XO (Ò XO cd4 1) dd I v>=(ú lvl,v):=by refine ϯ (VA (VA (mR I Â) rfl) Â);congr 3;show Ì by5-1-nW=Ì (rt.lv-i:Nat);lia
  have g0:wy Ŏ dd U v>=(ë (ĳ+2+i),v):=cC5 i i (Qv F) Â (YT hi);have tW:∀p,aw y[i]->rL lvl:=λ p hp=>by rw[q1]at hp;cases hp;show bD9 (rt.lv-i);lia
  by_cases z:0<lvl
  ·have i1:i+1<⇑y:=by show _;have:0<rt.lv-i:=z;lia
   have L:y[i+1]?>=y[i+1]:=Ab i1;obtain⟨rb,ad,R⟩:=C.get L;obtain⟨qb,o9,Rc,Nh⟩:=lg.2 (i+1) _ L;have nb:rb.Nodup:=let ⟨_,_,_,nd,_⟩:=R;nd;obtain⟨t',x,X,Y⟩:=jM T hr row q3 tW (Bx cj3 pN) (Bx (R.lt T) pN) nb (W7 T R Nh) (λ_ c qc a8 a9=>by obtain⟨pb,J,_,_,pB⟩:=R;rw[o9]at J;cases J;exact(pB c).mpr (da qc a8 (pD (qc.lv+1=rt.lv-i) a9))) (w:=v) (a:=ĳ+2+i) (dB:=ë (ĳ+2+(i+1))) (Qv (r2 O)) (Ğ (ĸ _ (Qv (r2 ad))))
   have s6:cL (br7 dD 5 0) (NO Ŏ aS8) aB4 U v>=(ë (ĳ+2+(i+1)),v):=by refine ϯ (uP (hp1:=v) (Q5 (b:=true) (œ (K9 (i:=Ì lvl) Â rfl) bf6)));exact cC5 i (i+1) (Qv F) (zh (i:=i) (j:=1) Â rfl) (YT À)
   refine⟨E aU6 (ģ lvl) (Õ ↑(ĳ+2+(i+1))),v++t',?_,t++t',_,_,_,rfl,ą v⟩;show zw I v=_;refine aC (Qw s5) (Qw s6) ?_;exact yJ (a:=N) (x:=x) Â (Qv P) (Zn (bG (wQ Â (cC5 i i (Qv F) Â (YT hi)) Â Â) X)) (MN P) Y
  ·obtain⟨t',x,X,Y⟩:=jM T hr (rb:=[]) row q3 tW (Bx cj3 pN) Ê List.nodup_nil (õ (λ{i m} h=>c9 h)) (λ h=>cD2 z) (w:=v) (a:=ĳ+2+i) (dB:=l7) (Qv (r2 O)) ı;have s6:cL (br7 dD 5 0) (NO Ŏ aS8) aB4 U v>=(l7,v):=by refine cs7 (uO (hp1:=v) (Pd b (œ (K9 (i:=Ì lvl) Â rfl) aF0)))
   refine⟨E aU6 (ģ lvl) (Õ l7),v++t',?_,t++t',_,_,_,rfl,ą v⟩;show zw I v=_;refine aC (Qw s5) (Qw s6) ?_;exact yJ (a:=N) (x:=x) Â (Qv P) (Zn (bG (wQ Â (cC5 i i (Qv F) Â (YT hi)) Â Â) X)) (MN P) Y)
 have wk:∃u,l++t4=w++u:=Ĭ ((ck (zF (ĳ+2) by5)::OV.aH (cI f.flatten)::f.map λ r=>ck rg)++bU6++t4) (by simp[l,Q,Wk]);obtain⟨u,eu⟩:=wk;refine Nc u N (Oe (E y4 y5 y6)) (æ eu (Qv P));rw[<- eu];refine Fi [! s0,! ν,Ś,Ś,Ś,Ś,Ś] w (wE a n Â h1 rfl XQ (zC h1 h2));refine Fi [! s0,! ν,! ĝ,Ś,Ś,Ś,Ś] Q (aD8 (wE a n Â h1 cr8 XQ (Vg h1)) lv);refine nK (E Ś Ś Ś) l rfl (IM (X0 (ds:=Zg 0 by5) (yS (m:=by5) (Zn (Ξ (bQ9 n ĳ F) YU)) À) I) Â)
def QjX(T:wc S)(f:E9 S.O4){rt:TR.Pg}(h:NJ rt)(hN:bC0<aY5){w:Hs}{n k:Nat}{rm a b:Int}(h1:bU0 w[n]? rm dX a b)(h2:ie w k Ů):
  ∃t:Hs,qW [LD] w>=(ο,w++t):=by
 obtain⟨t,x,c,e⟩:=QgA T f h hN h1 h2;exact Ĭ t (bk7 [! s0] (aL1 (ë x) y l7 (bG uq c) rfl (K6 (n:=0) e (au6 d hd hd) Á)))
#where
def QlF(kvs:Ϧ)(k:Key)(v:DV):⇑(OW k v)<=Ϟ+1:=by
 unfold JQ;split
 ·rw[Bq];lia
 ·rw[An];simp
def MW(k:Key)(v:DV)(j:Key)(kvs:Ϧ)(h:j=k∨tF (Cl j)):tF (Jv (OW k v) j):=by
  have any:∀l:Ϧ,aq8 (Jv l j)=l.any λ n=>oX n.1 j:=λ l=>by
    unfold Jv;induction l with
    |nil=>rfl
    |cons p r i =>
      rw[B7,Ct];by_cases e:ϰ=j
      . rw[Em e];rfl
      . rw[Ep e];exact i
  rw[any]at h ⊢;rw[List.any_eq_true]at *;unfold JQ;split
  . rename_i c
    rcases h with rfl|⟨p,hp,a⟩
    . rw[List.any_eq_true]at c
      obtain⟨q,f,b⟩:=c;refine AB _ (Eb.mpr (Œ q f));rw[Eh (Eo b)];exact b
    . refine AB _ (Eb.mpr (Œ p hp))
      split<;>exact a
  . rcases h with rfl|⟨p,hp,a⟩
    . exact cK6 (bG1 (Ar.mpr rfl)) Ê
    . exact da p (A7 _ hp) a
section
variable{S:TR.Sh}{bg:TR.Bg}
def Has(kvs:Ϧ)(xs:Ď):Û:=∀x∈xs,tF (Cl (ê x))
def Tg{w:Hs}{d:Nat}(A B b:Sl)(D:DV):∀(xs:Ď)(kvs:Ϧ)(w:Hs)(z:Sl),w[d]?>=nl->Ϟ+ŕ<Ņ ->
    ∃(a:Ϧ)(i:Sl),Yb (aC4 x env' 4 x (jJ env')) (A4 .int) [A,B,! cm3,b,z] w>=(ϧ [A,B,! cm3,b,i],w.set d (nj a))/\cG7<=Ϟ+ŕ/\Has a xs/\∀ys,Has kvs ys->Has a ys
  | [],kvs,w,z,hd,f=>⟨kvs,z,û (MJ hd),Ê,au6 x h h,λ ys h=>h⟩
  |x::xs,kvs,w,z,hd,f=>by
    have f:Ϟ+(ŕ+1)<Ņ:=f;have n:d<ĳ:=bi9;have le:=QlF kvs (ê x) ο;obtain⟨a,i,e,l,h1,h2⟩:=Tg (d:=d) (w:=w) A B b D xs (OW (ê x) ο) (w.set d (ba0 (ê x) ο)) (Ö x) (Au n) À;refine⟨a,i,å (Ku (aF:=[A,B,! cm3,b,Ö x]) (hp1:=w.set d (ba0 (ê x) ο)) ?_) (mE List.set_set e e),Ĵ Ba,Ź y c,λ ys h=>h2 ys λ y c=>MW _ _ _ _ (Ğ (h y c))⟩
    . show jJ [A,B,! cm3,b,Ö x] w=_
      exact U_ (d:=d) (k:=x) rfl Â hd Â À
    . rcases Nm c with rfl|c
      . exact h2 [y] (λ q j=>bj6 j (MW _ _ _ _ ı)) y (Ar.mpr rfl)
      . exact h1 y c
def Qk7{r:ć}{M:Nat}(X:∀m∈r,∃p,aw m/\Ϲ<=M)(hl:lc * M<aw9)(U:lc<aw9){w:Hs}{a:Nat}(u:ie w a rg):∃kvs,jV [ν,ų] w>=(aJ1,w++[nl])/\∀m∈r,∀p,aw m->Has kvs p.ps:=by
 let E:Sl->Sl->En:=λ z3 z4=>[! ν,Lm,! ĝ,z3,z4]
 have al:a<ĳ:=ZC u;have:=Kn (b:=aC4 d f 3 d (UB f)) (env:=E Ś Ś) (hp:=w++[LT]) (nxt:=g_ a) (Q:=λ q h=>q.1=.nx/\∃(kvs:Ϧ)(z3 z4:Sl),q.2=E z3 z4/\h=w++[nl]/\∀m∈r,∀p,aw m->Has kvs p.ps)
  rg (λ i env h=>∃(kvs:Ϧ)(z3 z4:Sl),env=E z3 z4/\h=w++[nl]/\Ϟ<=i * M/\∀(j m:Nat),j<i->r[j]?>=m->∀p,aw m->Has kvs p.ps) (Ĵ XX)
  (λ i env h hi t=>by obtain⟨kvs,z3,z4,n,l,_⟩:=t;subst l;exact DP (Qv u) i) (bE7 [] Ś Ś rfl Ê (λ j m h=>cD2 (Nat.not_lt_zero _)))
  (λ i d hd env h t=>by
   obtain⟨kvs,z3,z4,n,l,Y,z⟩:=t;subst n l;have I:i<lc:=bk9 bi9 XX
   have o:dC r r[i]:=Ab I;rw[GD o]at hd;cases hd;obtain⟨p,J,p2⟩:=X r[i] (B8 I);have le:(i+1) * M<=lc * M:=cR9;have ex:(i+1) * M=i * M+M:=LM
   obtain⟨c,z',F,f2,O,P⟩:=Tg (w:=w) (d:=ĳ) (Õ ν) (Õ Ŗ) (ģ r[i]) ī p.ps kvs (w++[nl]) z4 (Xl w _) À;have st:(w++[OV.aH kvs]).set ĳ (nj c)=w++[nj c]:=al0 (cm _ ę)
   rw[st]at F;refine WP.of (x:=ϧ (E (ģ r[i]) z')) (hp':=w++[nj c]) ?_ (bE7 c _ _ rfl À (bF5 j m v Hq q y))
   ·show Us (E (ģ r[i]) z4) (w++[nl])=_;exact X0 (ds:=Ę) (hp1:=w++[nl]) (LK (aJ6 i 2 [rp,MP,AY,ϓ,ig] (XV (i:=r[i]) (ds:=Ů) (d:=Ō) Â Â (Yr J)))) F
   ·by_cases e:j=i
    ·subst e;rw[o]at Hq;cases Hq;rw[J]at y;cases y;exact O
    ·exact P _ (z j m À Hq q y)) (λ env h ⟨kvs,z3,z4,n,l,Y,z⟩=>⟨rfl,kvs,z3,z4,n,l,λ m o p hp=>by
    obtain⟨j,v,L⟩:=Cs.mp o;exact z j m (Å XX v) (Ξ (Ab v) L) p hp⟩)
 obtain⟨⟨R,f⟩,h',e,q1,kvs,z3,z4,C,q3,q4⟩:=this;have q1:R=.nx:=q1;have C:f=E z3 z4:=C;subst q1 C q3;refine da kvs (Oe (E z3 z4)) q4;have x:cW Ġ (E Ś Ś) (w++[LT])>=(g_ a,w++[LT]):=hU cW (Â:Qb 1 (E Ś Ś) (w++[OV.aH []])>=(ų,_)) ((cL3 >>= _) _=_) (Φ (Qv u))
 have lp:jr (E Ś Ś) (w++[LT])>=(ϧ (E z3 z4),w++[nl]):=by unfold jr qJ;rw[Qe x];exact e
 exact nK (E Ś Ś) (w++[LT]) rfl (IM lp Â)
#where
def Qbm{nxt:NX}{t:DV->OS}(ds:á)(j:∀i,i<=Ć->nxt i hp>=(ct6,hp))(o:∀d∈ds,t d hp>=(Ž hp))(l:Ć<Ņ):Js nxt t f Ņ 0 hp>=([],hp):=by
  suffices h:∀(m i n:Nat),m+i=Ć->m<n->Js nxt t f n i hp>=([],hp)from h Ć 0 Ņ rfl l;intro m;induction m with
  |zero =>
    intro i n e c;obtain⟨n,rfl⟩:∃k,n=k+1:=bO7;have:i=Ć:=À
    subst this;have a:=j Ć ę;rw[cV0 ds[Ć]?]at a;rw[Js,Qe a];rfl
  |succ m r =>
    intro i n e c;obtain⟨n,rfl⟩:∃k,n=k+1:=bO7;have b:i<Ć:=À
    have a:=j i À;rw[Ab b]at a;rw[Js,Qe a];show(t ds[i] >>= _) hp=_;rw[Qe (o ds[i] (B8 b))];exact r (i+1) n À À
section
variable{S:TR.Sh}{bg:TR.Bg}
def Qhy(T:wc S){rt:TR.Pg}(X:NJ rt)(hN:bC0<aY5)(hM:Î * (S.O4+1)<aw9)(told:ŗ c q TR.Pg (rq c->q.lv<rt.lv->hH m f TR.Pg (av m f/\f.lv=ci0/\ts∈f.ps)))
  {w:Hs} {n k:Nat} {rm a b:Int} (h1:bU0 w[n]? rm dX a b) (h2:ie w k Ů):∃(t:Hs) (x:Nat),yq [LD] w>=(ë x,w++t)/\ie (w++t) x []:=by
 obtain⟨J,e,lf,ll,z,lv⟩:=XG T X hN w;have rl:=z.len;have l1:1<=Î:=cQ9 X
 have pN:Î<aY5:=pD (1 * Î<=bC0) cR9
 have R9:bB8<aY5:=pD (bB9 1<=bC0) (ś l1)
 have lg:=lf.get T rt X
 let L:=bJ6 e
 let l:=L++bU6
 let N:=⇑L
 have P:ie l ĳ (zF (ĳ+2) ⇑e):=Qv (sJ w e);have r2:bD8 i r ć (dC e r->ie l (ĳ+2+i) rg):=λ h=>Qv (wC h);have t2:ie l N []:=Xl L _
 let E:Sl->Sl->En:=λ z4 z5=>[! s0,! ν,! ĝ,!↑N,z4,z5]
 have I:=LQ (b:=aC4 d o 4 d (yd o)) (λ_ env hp=>∃(t:Hs)(z4 z5:Sl),env=E z4 z5/\hp=l++t) (Zg 1 (⇑e-1)) 0 (E Ś Ś) l (dE [] Ś Ś Ê) (λ i d hd env hp aD=>by
  obtain⟨t,z4,z5,e1,e2⟩:=aD;subst e1 e2;obtain⟨hi,rfl⟩:=zD hd
  let v:=l++t
  have il:i+1<⇑J:=À
  have hl:dC J J[i]:=Ab À;have F:J[i+1]?>=J[i+1]:=Ab il;obtain⟨r,U,row⟩:=z.get hl;obtain⟨rb,R,fZ⟩:=z.get F;obtain⟨q,q1,q2,q3⟩:=lg.2 i _ hl;obtain⟨qb,o9,Rc,Nh⟩:=lg.2 (i+1) _ F;have lO:=cj3;have Ft:=fZ.lt T;obtain⟨pr,Fw,_,_,mK⟩:=row;obtain⟨pb,Nk,_,_,pB⟩:=fZ;rw[q1]at Fw;cases Fw;rw[o9]at Nk;cases Nk;obtain⟨kvs,k1,k2⟩:=Qk7 (S:=S) (M:=S.O4+1) (r:=r) (λ m Q=>by obtain⟨p,p1,p2⟩:=(mK m).mp Q;refine AB p p1;have ok:=eW m p p1;have:=ok.parts;have:=ok.few;split at * <;> lia) (Bx (ϩ lO) hM) À (w:=v) (a:=ĳ+2+i) (Qv (r2 U))
  let O:=E (Ö (1+nW)) z5
  let C:=E (Ö (1+nW)) (Õ ↑v.length)
  let v':=v++[OV.aH kvs]
  have s5:Qx 2 jV (nB 1 (NO Ŏ (ò XO 4 1))) O v>=(ë ⇑v,v'):=by refine aD8 (cC5 i i (Qv P) ?_ (YT À)) k1;refine ϯ (VA (i:=1+nW) Â rfl);congr 3;lia
  have dv:v'[⇑v]?>=nl:=Xl v _;have rv:ie v' (ĳ+2+(i+1)) (nD rb):=MN (r2 R);have Y:cW (ax9 Ŏ 4) C v'>=(g_ (ĳ+2+(i+1)),v'):=hU cW (Yi (i:=i+1) (n:=ĳ) Â (MN P) (by show è (oT (1+nW),v')=_;congr 3;lia) (YT À):wy Ŏ dd C v'>=(ë (ĳ+2+(i+1)),v')) ((Zx _ >>= _) v'=_) (Φ rv)
  have cp:xM C v'>=(ë ⇑v',v'++[l7]):=by
   unfold xM Jb;rw[Qe Y];have cx:=Qbm (hp:=v') (nxt:=g_ (ĳ+2+(i+1))) (t:=λ d=>eB (Qh GH Ë Ġ) (cE [5] C d)) (f:=λ d=>Qb 0 (cE [5] C d)) (nD rb) (λ j _=>DP rv j) (λ d hd=>by obtain⟨c,hc,rfl⟩:=bI4 hd;obtain⟨qc,D9,a8⟩:=(pB c).mp hc;obtain⟨m,f,f1,f2,f3⟩:=told c qc D9 À;have Q:m∈r:=(mK m).mpr (da f f1 À);have hv:=k2 m Q f f1 c f3;obtain⟨y,hy⟩:=ah6 hv;exact Pd b (aL1 (ú c) y (ë ⇑v) Â Â (SQ dv hy))) (Ĵ XX)
   rw[Qe (Ý (Js _ _ _ lim 0 v'=_) cx)];rfl
  refine⟨C,v'++[l7],?_,t++[nl]++[l7],_,_,rfl,ky v' v⟩;show yd O v=_;exact Qq (Qw s5) (yJ (a:=N) (x:=⇑v') Â (MN t2) (Zn cp) (MN (Qv t2)) (Xl v' _)))
 obtain⟨o,hp',O,t4,y4,y5,rfl,rfl⟩:=I;have wk:∃u,l++t4=w++u:=Ĭ ((ck (zF (ĳ+2) ⇑e)::OV.aH (cI e.flatten)::e.map λ r=>ck rg)++bU6++t4) (by simp[l,L,Wk]);obtain⟨u,eu⟩:=wk;refine Nc u N (Oe (E y4 y5)) (æ eu (Qv t2));rw[<- eu];refine Fi [! s0,! ν,Ś,Ś,Ś,Ś] w (wE a n Â h1 rfl XQ (zC h1 h2));refine Fi [! s0,! ν,! ĝ,Ś,Ś,Ś] L (aD8 (wE a n Â h1 cr8 XQ (Vg h1)) lv);refine nK (E Ś Ś) l rfl (IM (X0 (ds:=Zg 1 (⇑e-1)) (QkY (a:=1) (b:=⇑e) (Zk rfl (Ξ (bQ9 n ĳ P) YU)) À À) O) Â)
#where
section
variable{S:TR.Sh}{bg:TR.Bg}
def Ym(S:TR.Sh)(m:Nat):bk2:=match ä m with
 |some p=>ap2
 |none=>[]
def X_:∀(a b:Ď),YX (a.map .int) (b.map .int)=aM (a.zip b)
  | [],_=>ky YX aM
  |_::_,[]=>ky YX aM
  |x::xs,y::ys=>Ő (DV.tup [cj4,È y]::YX (A4 .int) (ys.map .int)=_) (X_ xs ys)
def Qj5{row tb:Nat}(rt:row≠tb){r:ć}{M:Nat}(I:∀m∈r,∃p,aw m/\CS ap2<=M)(hl:lc * M<aw9)(P:lc<aw9){w:Hs}(t:ie w row rg)(z:ie w tb [])(N:Nat):
    ∃(z3:Sl)(hp':Hs),xY (g_ row) (aC4 d c 3 d (Yq c)) Ņ 0 [!↑N,! ν,!↑tb,Ś] w>=(ϧ [!↑N,! ν,!↑tb,z3],hp')/\ie hp' tb (aM (aT9 S))/\∀i x,i≠tb->EB w->EB hp':=by
  have y:∀i,i<=lc->⇑((ac6).flatMap cC6)<=i * M:=by
    intro i;induction i with
    |zero=>intro _;simp
    |succ i U =>
      intro hi;have l:i<lc:=À
      have:=U À;obtain⟨p,v,X⟩:=I r[i] (B8 l);rw[aa5 l,List.flatMap_append,An];have e:([r[i]].flatMap cC6)=ap2:=ky Ym v
      rw[e,Nat.add_mul,Nat.one_mul];lia
  have:=Kn (b:=aC4 d c 3 d (Yq c)) (env:=[!↑N,! ν,!↑tb,Ś]) (hp:=w) (nxt:=g_ row) (Q:=λ q h=>q.1=.nx/\∃z3:Sl,q.2=[!↑N,! ν,!↑tb,z3]/\ie h tb (aM (aT9 S))/\∀i x,i≠tb->EB w->EB h)
    rg (λ i env h=>i<=lc/\∃z3:Sl,env=[!↑N,! ν,!↑tb,z3]/\ie h tb (aM ((ac6).flatMap cC6))/\∀i x,i≠tb->EB w->EB h) (Ĵ XX)
    (λ i env h hi ⟨_,z3,u,f,n⟩=>DP (n row _ rt t) i) (A5 CO Ś z (λ i x _ h=>h))
    (λ i d hd env h L=>by
      obtain⟨_,z3,u,f,n⟩:=L;subst u;have l:i<lc:=bk9 bi9 XX
      have R:dC r r[i]:=Ab l;rw[GD R]at hd;cases hd;obtain⟨p,v,X⟩:=I r[i] (B8 l)
      let e:En:=[!↑N,! ν,!↑tb,ģ r[i]]
      have J:wy Ġ io e h>=(Ō,h):=XV (i:=r[i]) (ds:=Ů) Â Â (Yr v);have zz:Ds (cV6 3 1) (cV6 3 2) e h>=(ë ⇑h,h++[bv0 ap2]):=Υ Ds (Qe (Wv (ds:=ħ) (es:=Ę) (aJ6 i 1 [rp,MP,AY,ϓ,ig] J) (aJ6 i 2 [rp,MP,AY,ϓ,ig] J))) X_
      have b:=y i À;have ml:i * M+M<=lc * M:=by have:=Nat.mul_le_mul_right M (ð (i+1<=lc));rw[Nat.add_mul,Nat.one_mul]at this;exact this
      have ex:=xW (a:=tb) (b:=⇑h) (ds:=aM ((ac6).flatMap cC6)) (es:=aM ap2) (env:=e) (o:=Ŏ) Â f (Zn zz) (Qv f) (Xl h _) (OQ XL XL);have tl:tb<⇑h:=ZC f;refine WP.of (x:=ϧ e) (hp':=(h++[aR5 ap2]).set tb (ck (aM ((ac6).flatMap cC6)++aM ap2))) ?_ (A5 À _ ?_ (nL j x F hx))
      . show Yq e h=_
        exact ZM ex
      . rw[Au (Ĵ An),Mp]
        congr 3;rw[aa5 l,List.flatMap_append];congr 1;simp[Ym,v]
      . rw[n9 F]
        exact Qv (n j x F hx)) (λ env h ⟨_,z3,u,f,n⟩=>⟨rfl,z3,u,by rw[XX,List.take_length]at f;exact f,n⟩)
  obtain⟨⟨O,c⟩,h',e,q1,z3,C,Y,q4⟩:=this;have q1:O=.nx:=q1;have C:c=[!↑N,! ν,!↑tb,z3]:=C;subst q1 C;exact⟨z3,h',e,Y,q4⟩
def Qj6(T:wc S)(u:E9 S.O4){rt:TR.Pg}(z:NJ rt)(hN:bC0<aY5)(hM:Î * (S.O4+1)<aw9){w:Hs}{n k:Nat}{rm a b:Int}(h1:bU0 w[n]? rm dX a b)(h2:ie w k Ů):
  ∃(c:Nat)(r:ć)(hp':Hs),Row S c r/\Ū bh4/\(∀q,rq c->bD9 0)/\q8 [LD] w>=(aJ1,hp')/\ie hp' ĳ (aM (aT9 S))/\ŗ i x OV (EB w->EB hp'):=by
 let f:=w++bU6
 have L1:by5=ĳ+1:=ą f
 obtain⟨C,j,lf,ll,o,lv⟩:=XG T z hN f;have rl:=o.len;have X:=lf.get T rt z;have v:C[rt.lv]?>=(C[rt.lv]' À):=Ab _;obtain⟨r,t,row⟩:=o.get v;obtain⟨q,q1,q2,q3⟩:=X.2 rt.lv _ v;have U:=cj3;have oZ:=row;obtain⟨pr,Fw,_,_,Y⟩:=row
 let h:=Wk f j
 have tb:ie h ĳ []:=hW ((Wk f j)[ĳ]?=_) (Mf À) (Xl w _)
 have I:ie h (by5+2+rt.lv) rg:=wC t;have r9:lc<aw9:=pD (Î * 1<=Î * (S.O4+1)) (ś À)
 obtain⟨z3,hp',L,O,P⟩:=Qj5 (S:=S) (row:=by5+2+rt.lv) (tb:=ĳ) À (r:=r) (M:=S.O4+1) (λ m Q=>by obtain⟨p,F,p2⟩:=(Y m).mp Q;refine AB p F;have ok:=eW m p F;have:=ok.few;unfold TR.prs;rw[List.length_zip];lia) (Bx (ϩ U) hM) r9 (w:=h) I tb n
 refine⟨_,r,hp',oZ,q3,λ q' h'=>by rw[q1]at h';cases h';lia,Oe [! s0,! ν,! ĝ,z3],O,Ł i x hx⟩
 ·refine Fi [! s0,! ν,Ś,Ś] w (wE a n Â h1 rfl XQ (zC h1 h2))
  let e:En:=[! s0,! ν,! ĝ,Ś]
  refine nK e f rfl (IM ?_ Â);have l:bU0 f[n]? rm dX a b:=Qv h1;have J:Qx 2 Z0 (nB 1 bD5) e f>=(ë by5,h):=aD8 (wE a n Â l cr8 XQ (Vg l)) lv;have R:wy (cj5 Z0 1 bD5) aB5 e f>=(ë (by5+2+rt.lv),h):=by
   refine Qn J (y:=È (-1)) rfl ?_;show(Zx by5 >>= _) h=_;rw[Φ (sJ f j)];show(m9 (atI (zF (by5+2) cz6) (-1))) h=_;have:atI (zF (by5+2) cz6) (-1)>=↑(by5+2+rt.lv):=by unfold atI;rw[YU,Qiv À];show(zF (by5+2) cz6)[cz6-1]?=_;rw[YT À];congr 2;lia
   rw[this];rfl
  have x:cW (NO (cj5 Z0 1 bD5) aB5) e f>=(g_ (by5+2+rt.lv),h):=hU cW R ((Zx _ >>= _) h=_) (Φ I)
  show zf e f=_;unfold zf qJ;rw[Qe x];exact L
 ·have il:i<ĳ:=ZC hx;refine P i x À ?_;show ŵ (Wk f j)=_;rw[Mf À];exact Qv hx
#where
def Qi4{O4:Nat}{L:TP.Lv}(O:mB){k:Nat}(h:k<L.q):UN L.rows L.m L.fork L.lv L.first k=aK (TP.ZF L k):=by
 have a:∀(c:TP.Rw)(f:Int × Int->Int),(c.map λ r=>oT (f r))=pc (c.map f) DV.int:=λ c f=>û List.map_map
 unfold UN uZ Ug;show _=DV.tup [ú L.lv,ñ (pd (bw8 (TP.Q1 L.rows L.m L.fork k) (bj8 1 0))),ñ (pd (CD (TP.Q1 L.rows L.m L.fork k))),opt (ba8 (k+1=L.q) (TP.YE L.rows L.m L.fork (k+1))),oN (ba8 (k+1=L.q) (lB (k+1)))];rw[a,a];by_cases e:k+1=L.q
 ·rw[Eh (Ý (k+1=bi1 ϖ) e),Eh (Ý (k+1=bi1 ϖ) e),aL7,aL7];rfl
 ·have b:=O.lN (k:=k) À;have c:=(TP.Yv (rows:=L.rows) (m:=L.m) (fork:=L.fork) O.m_pos O.m3 b (k:=k+1) (pD (bi1 ϖ=L.q) rfl)).2;rw[Eg (Ý (¬ k+1=bi1 ϖ) e),Eg (Ý (¬ k+1=bi1 ϖ) e),OO,OO,Mm c];rfl
def gk{O4:Nat}{L:TP.Lv}(O:mB):JX L.rows L.m L.fork L.lv L.first=pc (TP.Je L) aK:=by unfold JX TP.Je;rw[List.map_map];exact My (λ k a=>Qi4 O (Cg.mp a))
def MZ{O4:Nat}:bq7 k L TP.Lv P bZ5 (mB->bE4=cu5->UK (O4+1) k L.rows L.m L.fork L.lv L.first (P.map aK)=pc (TP.UL O4 k L P) aK)
  |0,L,P,O,h=>rfl
  |k+1,L,P,O,h=>by
    unfold UK TP.UL;have b:bi1 ϖ=L.q:=rfl;rw[b];have q1:=O.q1;by_cases c:L.q<=1
    . rw[Eh c,Eh c]
    . rw[Eg c,Eg c]
      have a:=O.next À;have e:=MZ k (TP.Zi O4 L) (P++TP.Je (TP.Zi O4 L)) a (by rw[An,h];simp[TP.Je];rfl);rw[<- e,List.map_append,<- gk a,Bq,h];rfl
def dN(rows:TP.Rw)(O4:Nat):TP.Lv:=⟨rows,O4,false,0,0⟩
def JL(rows:TP.Rw)(O4:Nat):bZ5:=TP.UL O4 (ai3).q ai3 (TP.Je ai3)
def RW{rows:TP.Rw}{O4:Nat}(c:2<=O4)(e:m4 a b (a.1<b.1)):(ai3).Ok O4 where
 bx:=c
 m1:=rfl
 fk:=cb0 h cR0 (λ h=>aQ8 h)
 rise:=e
 two:=cR2
def Qi3{rows:TP.Rw}{O4:Nat}(c:2<=O4)(e:m4 a b (a.1<b.1)):ap1=pc FV aK:=by have O:=RW c e;unfold JL;rw[<- MZ _ _ _ O (ky TP.Je dN),<- gk O];rfl
def QgV{rows:TP.Rw}{O4:Nat}(c:2<=O4)(e:m4 a b (a.1<b.1)):∃bg L,TP.Pk O4 ai3 FV bg L/\L.q=1 :=
 TP.Pk.all _ (TP.Pk.O8 (RW c e) rfl rfl) lP
def nO(rows:TP.Rw)(O4:Nat):TR.Sh:=⟨O4,FV,⇑FV-1,0,0⟩
structure PF(S:TR.Sh)(bg:TR.Bg)(rt:TR.Pg)(rows:TP.Rw):Û where
 tree:wc S
 top:NJ rt
 tops:S.top=Î-1
 mQ:rt.lv<12
 sd:Ū rt.sd
 len:Î<=2000
 pos:1<=Î
 O4:S.O4<=8
 told:ŗ c q TR.Pg (rq c->q.lv<rt.lv->hH m f TR.Pg (av m f/\f.lv=ci0/\ts∈f.ps))
 side:ŗ n p TR.Pg (dA->∀s,cl5->s=n+1)
 mono:∀(n m:Nat)(p q:TR.Pg),dA->bS3->p.lv<q.lv->n<m
 fk:TR.Fk S
 zero:TR.Zero S bg
 dn:∀s,s<Î->bq3 s->TR.Kd S s
 cnt:bZ0 S<=300
 tab:∀r:ć,r.Pairwise aI->(∀m,m∈r↔∃q,bS3/\bD9 0)->aT9 S=rows
def uT{O4:Nat}{L0:TP.Lv}(O:L0.Ok O4)(h0:L0.lv=0){pg:bZ5}(lf:∀k,k<L0.q->bE5 k>=(TP.ZF L0 k)){S:TR.Sh}(a:S.pg=pg):∀k,k<=L0.q->(Ĉ k).flatMap cC6=ai5 k
  |0,_=>by have:L0.s 0=0:=TP.VB O.m_pos _;rw[this];rfl
  |k+1,h=>by
    rw[List.range_succ,List.flatMap_append,uT O h0 lf a k À,<- TP.Qey O À];congr 1;have:Ym S k=TP.Q1 L0.rows L0.m L0.fork k:=bq8 Ym a (lf k À) (TP.QiG O h0 k)
    simp[this]
def QoX{rows:TP.Rw}{O4:Nat}(u:2<=O4)(v:O4<=8)(o:m4 a b (a.1<b.1))(I:al7 300)(len:⇑FV<=2000):∃bg rt,PF bu3 bg rt rows:=by
 obtain⟨bg,L,P,f⟩:=QgV (rows:=rows) (O4:=O4) u o;obtain⟨C,X⟩:=TP.Px.all (O4:=O4) (ai3).q (TP.Px.O8 (L:=ai3) rfl);obtain⟨T,h,O⟩:=P.tree f;have t:(ai3).q<=300:=S0 (Dr (n:=rows.length) (m:=O4) À) (ï O4<=300)
 have mQ:L.lv<12:=by have y:=P.small;rw[f,Nat.mul_one]at y;refine aI0 z;have:2 ^ 12<=2 ^ L.lv:=Nat.pow_le_pow_right Á z;lia
 refine⟨bg,TP.ZF L 0,⟨T.bx,T.root,T.j_,T.page,T.link,T.kid,T.dis,T.pred⟩,h,rfl,mQ,?_,len,?_,v,P.sU,X.side,X.mono,P.ne,Nc ?_ (TP.ZF ai3 0) (P.lf 0 (Ay Á P.ok0.q1)).1 rfl,Ł s h1 h2,?_,Ł r h1 h2⟩
 ·show Ū (ba8 (0+1=L.q) _);rw[aL8]
 ·have:=cO6;show 1<=⇑FV;lia
 ·rw[(P.lf 0 (Ay Á P.ok0.q1)).2];rfl
 ·have hp:FV[s]?>=FV[s]:=cK5;obtain⟨F,i⟩:=P.pt.lvl s _ hp;by_cases c:FV[s].lv<L.lv
  ·exact P.pt.told s _ hp c
  ·have b:=i À;have J:=P.pt.len;have h2:s≠CS FV-1:=h2;have h1:s<⇑FV:=h1;lia
 ·refine Bj (?_:_<=(ai3).q) t;unfold TR.JS;have:=TR.qt (l:=IP (Ĉ ⇑FV) (TR.bW bu3 λ x=>oX x 0)) (m:=Ĉ (ai3).q) (sC List.nodup_range) λ x hx=>by obtain⟨h1,h2⟩:=Bm.mp hx;have h1:x<⇑FV:=Cg.mp h1;have hp:FV[x]?>=FV[x]:=cK5;refine Cg.mpr (P.BJ x _ hp ?_);unfold TR.bW at h2;have hp':(bu3).pg[x]?>=FV[x]:=hp;rw[hp']at h2;simpa using h2
  rwa [List.length_range]at this
 ·have e:r=Ĉ (ai3).q:=TP.Qec _ r h1 λ x=>by
   rw[h2];constructor
   ·rintro⟨q,a,b⟩;exact P.BJ x q a b
   ·intro hx;exact bo8 (P.lf x hx).1
  rw[e,uT P.ok0 P.dN (λ k j=>(P.lf k j).1) rfl _ ę,(ai3).s_end,List.take_length];rfl
section
variable{S:TR.Sh}{bg:TR.Bg}{rt:TR.Pg}{rows:TP.Rw}
#where
def kr(ns:Ď)(k:Nat)(b:mh<=63):∃x,Zh [aY8,aY7]=hA x:=by
 by_cases h:k<mh
 ·have a:=Kq (xs:=oI) (j:=k) (v:=È ns[k]) (ą h);refine CB ns[k];have h':Ϯ<aQ5:=À
  simp[Zh,qi,Zj,Qs,QI,QT,Iu,aQ,ZD,Kh,oH,v7,v8,Qh,Qb,eC,eB,fU,Yh,iQ,qk,jB,kE,I_,cL,xp,Qj,Qc,ZO,Xg,Qx,QY,QJ,gN,ju,Vz,yN,Y3,zA,yM,GG,Vc,Ir,Ie,Xk,Mq,ye,bF,dZ,a,h']
 ·have h':¬ Ϯ<aQ5:=À
  exact Ĭ 0 (by simp[Zh,qi,Zj,Qs,QI,QT,Iu,aQ,ZD,Kh,oH,v7,v8,Qh,Qb,eC,eB,fU,Yh,iQ,qk,jB,kE,I_,cL,xp,Qj,Qc,ZO,Xg,Qx,QY,QJ,gN,ju,Vz,yN,Y3,zA,yM,GG,Vc,Ir,Ie,Xk,Mq,ye,h'])
def dF(c t:Int):Int:=c % eJ+t * t+3 * t+11
def QN(c t:Int):Int:=bZ2 * bZ2 % eJ * (bZ2+7 * t) % eJ / 9
def X9(c t:Int)(h0:0<=t)(h1:E9 t):Qy [bK0,È t]=hA (QN c t):=by
 have a:0<=c % eJ:=ar3 Á;have b:c % eJ<eJ:=aO5 Á;have tt:0<=t * t/\t * t<=10000:=Ĭ (P3 h0 h0) (pD (t * t<=100 * 100) (Int.mul_le_mul h1 h1 h0 Á))
 have n0:0<=bZ2/\bZ2<2000000000:=cN1 dF
 have e:0<=bZ2 * bZ2 % eJ:=ar3 Á;have q1:bZ2 * bZ2 % eJ<eJ:=aO5 Á;refine CH [bo4,Ö t,Ö bZ2] (å (oU d (È bZ2) ?_) (Jo ?_))
 ·exact AT x (c % eJ+t * t+3 * t) y 11 (Μ x (c % eJ+t * t) y (3 * t) (Μ x (c % eJ) y (t * t) (AT x c y eJ rfl (Z9 _ _ Á)) (AT x t y t rfl (XW _ _ À À)) rfl) (AT x 3 y t rfl (XW _ _ Á Á)) rfl) rfl
 ·refine AT x (bZ2 * bZ2 % eJ * (bZ2+7 * t) % eJ) y 9 (AT x (bZ2 * bZ2 % eJ * (bZ2+7 * t)) y eJ (Μ x (bZ2 * bZ2 % eJ) y (bZ2+7 * t) (AT x (bZ2 * bZ2) y eJ (AT x bZ2 y bZ2 rfl (XW _ _ À À)) (Z9 _ _ Á)) (Μ x bZ2 y (7 * t) rfl (AT x 7 y t rfl (XW _ _ Á Á)) rfl) (XW _ _ À À)) (Z9 _ _ Á)) (KS _ _ Á Á)
def wK(c k m:Int)(t:En)(h0:0<=k)(h1:E9 k)(a:0<m):Qh Z4 (CC 2 0 k) (ì m) (bo4::t)=hA (P5 k m) :=
 AT x (QN c k) y m (G5 x bK0 y k rfl rfl (X9 c k h0 h1)) (Z9 _ _ a)
def RT(x:Int)(h:0<=x):∃s:Nat,s<=240/\vV [È 240,cj4]=cc5 s:=by
 refine AB (IS (É (x<240) x 240)) au1
 show Ô (oT (É (x<240) x 240))=_;congr 2;split<;>lia
def QlZ(c:Int)(O4:Nat)(h2:O4<=50):∃s:Nat,s<=240/\xO [bK0,ú O4]=cc5 s:=by
 let kd:=P5 2 4
 let i:En:=[bo4,bZ9,Ö kd]
 have l:QI 2 (cd5 2 0 2 4) [bo4,bZ9,Ś]=bS i:=Zr (wK c 2 4 _ Á Á Á);have t:∀j:Int,eB (ò eE 2 j) i=Ô (kd==j):=λ j=>K2 (AT x kd y j rfl (Xk _ _));have nx:∀{t:bV}{A B:aG}{env:En}{r},t env=N7->B env=r->Qs (br9 t A) B env=r:=λ h1 h2=>ai7 (cs7 (wI h1)) h2;have rt:∀{t:bV}{A B:aG}{env e:En}{d:DV},t env=bK1->A env=Ô (.rt d,e)->Qs (br9 t A) B env=Ô (.rt d,e):=λ h1 h2=>Mi (å (wH h1) h2);have u:∀(k m:Int),0<m->m<=240->∃s:Nat,s<=240/\P5 k m=Ì s:=λ k m h h'=>da (IS (P5 k m)) (Ě (bu4 c k m h)) (Ě (bu4 c k m h));have v:=bu4 c 3 3 Á;have z:=bu4 c 4 3 Á;have F:rG * (rG+1)=Ì (O4 * (O4+1):Nat):=Ê
 have rb:O4 * (O4+1)<=50 * 51:=bR1 h2 À;by_cases k0:PH kd 0
 ·obtain⟨s,f,es⟩:=u 3 10 Á Á;exact da s f (CH i (ai7 l (rt (œ (t 0) k0) (Jo (œ (wK c 3 10 _ Á Á Á) es)))))
 have n:=œ (t 0) (eH k0);by_cases k1:PH kd 1
 ·obtain⟨s,f,es⟩:=RT (rG * (rG+1) * (1+P5 3 3)+P5 4 3 * rG) (by have a:0<=rG * (rG+1) * (1+P5 3 3):=P3 (P3 À À) À;have b:0<=P5 4 3 * rG:=P3 À À;lia)
  refine da s f (CH i (ai7 l (nx n (rt (œ (t 1) k1) (Jo (yt λ w=>Jj (Zk rfl (Z5 (Μ x (rG * (rG+1) * (1+P5 3 3)) y (P5 4 3 * rG) (Μ x (rG * (rG+1)) y (1+P5 3 3) (AT x O4 y (rG+1) rfl (XW _ _ À À)) (Μ x 1 y (P5 3 3) rfl (wK c 3 3 _ Á Á Á) rfl) (DQ _ _ À À)) (AT x (P5 4 3) y O4 (wK c 4 3 _ Á Á Á) (XW _ _ À À)) rfl) w)) (Z5 es w)))))))
 have o:=œ (t 1) (eH k1);by_cases k2:PH kd 2
 ·have C:=bu4 c 4 (2 * rG+1) À;obtain⟨s,f,es⟩:=RT (rG * (rG+1) * (rG+1)+P5 4 (2 * rG+1)) (by have a:0<=rG * (rG+1) * (rG+1):=P3 (P3 À À) À;lia)
  refine da s f (CH i (ai7 l (nx n (nx o (rt (œ (t 2) k2) (Jo (yt λ w=>Jj (Zk rfl (Z5 (Μ x (rG * (rG+1) * (rG+1)) y (P5 4 (2 * rG+1)) (AT x (rG * (rG+1)) y (rG+1) (AT x O4 y (rG+1) rfl (XW _ _ À À)) (DQ _ _ À À)) (Μ x (QN c 4) y (2 * rG+1) (G5 x bK0 y 4 rfl rfl (X9 c 4 Á Á)) (AT x (2 * rG) y 1 (AT x 2 y O4 rfl (XW _ _ Á Á)) rfl) (Z9 _ _ À)) rfl) w)) (Z5 es w))))))))
 ·obtain⟨s,f,es⟩:=u 3 200 Á Á;exact da s f (CH i (ai7 l (nx n (nx o (nx (œ (t 2) (eH k2)) (Jo (œ (wK c 3 200 _ Á Á Á) es)))))))
def QhZ(ns:Ď)(i:Int)(h0:0<=i)(a:mh<=63):∃x,Zh [aY8,ng]=hA x:=eP x e (kr ns i.toNat a) (Ĭ x (an9 e (Int.toNat_of_nonneg h0)))
def QjC(ns:Ď)(C:mh<=63)(s:DV)(key h:Int)(I:h=0∨h=1∨h=2)(rows:TP.Rw)(hr:al7 FI)(i:Nat)(z6 z7:Sl):
  ∃(b f:Int)(y6 y7:Sl),key<b/\qq [aw6 Ľ,! s,cs6,bR4,at2,aU6,z6,z7]=bS [aw6 Ľ,! s,Ö b,bR4,q7 (aM (rows++[(key,f)])),aU6,y6,y7]:=by
 let S:DV:=aY8
 have Q:QY m_ (Ĺ Ÿ (ŭ ye 0)) [! S,! s,cs6,bR4,at2,aU6,z6,z7]=hA (É (aQ5 > 1) mh 1):=by simp[QY,Qc,Qj,eC,Qb,ye,m_,S]
 have P:0<É (aQ5 > 1) aQ5 1:=au1
 obtain⟨x,ex⟩:=QhZ ns (nW % (É (aQ5 > 1) aQ5 1)) (ar3 À) C
 let cell:=x+nW
 let E:Int->Sl->Sl->Sl->En:=λ k a z6 z7=>[! S,! s,Ö k,bR4,a,aU6,z6,z7]
 have R:QI 6 (ŷ Q7 (cX8 0 (Qh Z4 Id (co6 m_ Ÿ (ŭ ye 0)))) 5) (E key at2 z6 z7)=bS (E key at2 LA z7) :=
  Zr (AT x x y i (G5 x S y (nW % (É (aQ5 > 1) aQ5 1)) rfl (QH (x:=ng) rfl Q (Z9 _ _ P)) ex) rfl)
 have ch:∀(k m:Int)(a z7:Sl),0<=k->E9 k->0<m->Qh Z4 (CC 2 6 k) (ì m) (E key a LA z7)=hA (aJ7 k m):=λ k m a z7 h0 h1 F =>
  AT x (QN cell k) y m (G5 x (È cell) y k rfl rfl (X9 cell k h0 h1)) (Z9 _ _ F)
 have U:QI 7 (cd6 XO 2 6 7 9 4) (E key at2 LA z7)=bS (E key at2 LA (Ö (aJ7 7 9-4))) :=
  Zr (AT x (aJ7 7 9) y 4 (ch 7 9 _ _ Á Á Á) rfl)
 have Y:∃f:Int,aQ (eB (cd6 eE 2 6 8 3 0)) (QI 7 (cT3 XO (md Z4 (cT3 Q7 (ò J8 6 13)) Q7 (cT3 J8 am4) 1))) ZD (E key at2 LA (Ö (aJ7 7 9-4)))=bS (E key at2 LA aq4):=by
  have t:eB (cd6 eE 2 6 8 3 0) (E key at2 LA (Ö (aJ7 7 9-4)))=Ô (aJ7 8 3==0):=K2 (AT x (aJ7 8 3) y 0 (ch 8 3 _ _ Á Á Á) (Xk _ _));by_cases c:PH (aJ7 8 3) 0
  ·refine Ĭ ((cell * 13+Ĕ) % (2 * Ĕ+1)-Ĕ) (å (wH (bA1 c)) (Zr ?_));exact Μ x ((cell * 13+Ĕ) % (2 * Ĕ+1)) y Ĕ (Μ x (cell * 13+Ĕ) y (2 * Ĕ+1) (Μ x (cell * 13) y Ĕ (AT x cell y 13 rfl (DQ _ _ Á Á)) Vc rfl) (AT x (2 * Ĕ) y 1 (Μ x 2 y Ĕ rfl Vc (XW _ _ Á Á)) rfl) (Z9 _ _ Á)) Vc (Vz _ _)
  ·exact Ĭ _ (cs7 (wI (bA1 (eH c))))
 obtain⟨f,o⟩:=Y;have X:v8 4 (ZO (cP5 2 7)) (E key at2 LA aq4)=bS (E key (q7 (aM (rows++[(key,f)]))) LA aq4):=yt λ w=>by refine ϯ (Lw (d:=ñ [È key,È f]) (ds:=ϲ) (Jk cN7 Į) rfl (Ĵ XL));show è (aV5 (E key (q7 (ϲ++[ñ [È key,È f]])) _ _),w)=_;rw[show ϲ++[DV.tup [È key,È f]]=aM (rows++[(key,f)])by rw[<- Mp];rfl]
 have sK:∃b:Int,key<b/\Qh Q7 (ax4 2) (co1 (Qh Z4 (CC 2 6 9) (ŷ bF (Xg (B6 Ÿ ca3 (cT2 J8 (ì 8) 7))) 3)) (ŷ bF (Xg (B6 Ÿ Ÿ (Ò JY dz 19))) 3)) (E key (q7 (aM (rows++[(key,f)]))) LA aq4)=hA b:=by
  let e:=E key (q7 (aM (rows++[(key,f)]))) LA aq4
  have n:Qx 2 Qy (nB 6 (ì 9)) e=hA (QN cell 9):=G5 x (È cell) y 9 rfl rfl (X9 cell 9 Á Á);have J:Xg (B6 Ÿ ca3 (cT2 J8 (ì 8) 7)) e=E6 [È 1,È 3,È 80000000]:=rfl;have L:Xg (B6 Ÿ Ÿ (Ò JY dz 19)) e=E6 [È 1,È 1,È aD3]:=rfl;have j:∀(A B:Int),0<A->A<=80000000->0<B->bF (Ø [È 1,È 3,È 80000000]) ↥h=hA A->bF (Ø [È 1,È 1,È aD3]) ↥h=hA B->∃b:Int,key<b/\Qh Q7 (ax4 2) (co1 (Qh Z4 (CC 2 6 9) (ŷ bF (Xg (B6 Ÿ ca3 (cT2 J8 (ì 8) 7))) 3)) (ŷ bF (Xg (B6 Ÿ Ÿ (Ò JY dz 19))) 3)) e=hA b:=λ A B l v z h1 h2=>by have r:=bu4 cell 9 A l;exact da (key+1+aJ7 9 A * B) (Ě (P3 r.1 (Cj z))) (Μ x (key+1) y (aJ7 9 A * B) rfl (Μ x (aJ7 9 A) y B (Μ x (QN cell 9) y A n (QH J (y:=È h) rfl h1) (Z9 _ _ l)) (QH L (y:=È h) rfl h2) (XW _ _ À À)) rfl)
  rcases I with rfl|rfl|rfl
  ·exact j 1 1 Á Á Á rfl rfl
  ·exact j 3 1 Á Á Á rfl rfl
  ·exact j 80000000 aD3 Á Á Á rfl rfl
 obtain⟨b,O,u⟩:=sK;exact⟨b,f,_,_,O,ai7 R (ai7 U (ai7 o (ai7 X (Zr u))))⟩
def Qj7(ns:Ď)(z:mh<=63)(s:Nat)(hs:s<=240):∃rows:TP.Rw,rows.length=s/\m4 a b (a.1<b.1)/\jn [aY8,ú s]=E6 ϲ:=by
  let S:DV:=aY8
  obtain⟨x,ex⟩:=kr ns 1 z
  let f:=pE x 6 3
  have Q:f=0∨f=1∨f=2:=S0 (bu4 x 6 3 Á) (pE x 6 3=0∨pE x 6 3=1∨pE x 6 3=2)
  have u:∀(k:Int)(e:En),0<=k->E9 k->Qb 0 e=Ô S->Qx 2 Qy (cY0 0 Ÿ k) e=hA (QN x k):=λ k e h0 h1 P =>
    G5 x cj4 y k (G5 x S y 1 P rfl ex) rfl (X9 x k h0 h1)
  let E:DV->Sl->Sl->En:=λ k w a=>[! S,Ö s,! k,w,a,Ś,Ś,Ś]
  have U:QI 2 (Ò XO (Ò Z4 (Qx 2 Qy (cY0 0 Ÿ 5)) 40) 30) [! S,Ö s,Ś,Ś,Ś,Ś,Ś,Ś]=bS (E ↥(pE x 5 40-30) Ś Ś) :=
    Zr (AT x (pE x 5 40) y 30 (AT x (QN x 5) y 40 (u 5 _ Á Á rfl) (Z9 _ _ Á)) rfl)
  have X:QI 3 (Ò Z4 (Qx 2 Qy (cY0 0 Ÿ 6)) 3) (E ↥(pE x 5 40-30) Ś Ś)=bS (E ↥(pE x 5 40-30) aq4 Ś) :=
    Zr (AT x (QN x 6) y 3 (u 6 _ Á Á rfl) (Z9 _ _ Á))
  have Y:∃k0:Int,aQ (br7 eE 3 2) (QI 2 (cT3 XO (Qx 2 Qy (cY0 0 Ÿ 5)))) ZD (E ↥(pE x 5 40-30) aq4 Ś)=bS (E ↥k0 aq4 Ś):=by
    have t:eB (ò eE 3 2) (E ↥(pE x 5 40-30) aq4 Ś)=Ô (f==2):=K2 (AT x f y 2 rfl (Xk _ _));by_cases c:PH f 2
    . exact Ĭ (QN x 5-Ĕ) (å (wH (bA1 c)) (Zr (Μ x (QN x 5) y Ĕ (u 5 _ Á Á rfl) Vc rfl)))
    . exact Ĭ _ (cs7 (wI (bA1 (eH c))))
  obtain⟨k0,F⟩:=Y;have L:=QbH (b:=λ d env=>(aC3 5 d >>= λ j=>qq j))
    (λ i env=>∃(rows:TP.Rw)(key:Int)(z5 z6 z7:Sl),env=[! S,Ö s,cs6,aq4,at2,z5,z6,z7]/\rows.length=i/\m4 a b (a.1<b.1)/\∀r∈rows,r.1<key)
    s (E ↥k0 aq4 (q7 [])) ⟨[], k0, Ś, Ś, Ś, rfl, rfl, mT, au6 r l l⟩ (λ i hi env C => by
      obtain⟨rows,key,z5,z6,z7,e,l,hp,v⟩:=C;subst e;obtain⟨n,wt,y6,y7,R,I⟩:=QjC ns z ↥s key f Q rows À i z6 z7;exact⟨_,I,rows++[(key,wt)],n,_,y6,y7,rfl,ą l,cp2 hp Ê (λ a J b O=>bj6 O (v a J)),λ r l=>by
        rcases sN l with h|h
        . have:=v r h;lia
        . rw[Fs h];exact R⟩)
  obtain⟨j,e,rows,key,z5,z6,z7,rfl,l,hp,_⟩:=L;refine Nc rows l hp (CH [! S,Ö s,cs6,aq4,aw6 ϲ,z5,z6,z7] ?_);have o:xA (E ↥k0 aq4 (q7 []))=bS [! S,Ö s,cs6,aq4,at2,z5,z6,z7]:=å (Qei (m:=Ì s) (by simp[Qc,Qj,Qb,E]) À À) e;exact ai7 U (ai7 X (ai7 F (ai7 (rfl:v7 4 _=bS (E ↥k0 aq4 (q7 []))) (ai7 o (Ý (QT dd [! S,Ö s,cs6,aq4,aw6 ϲ,z5,z6,z7]=_) (Jo rfl))))))
abbrev Zs:=bk2
def zK(z:Zs):Ď:=ao7
def zE(z:Zs):Ϧ:=cw6 (aD5,bj7)
def cN(z:Zs):Û:=z.Pairwise λ p q=>ϰ<q.1
def sE(z:Zs)(k:Int):Zs:=as1 p (AN ϰ k)
def rZ(z:Zs)(k:Int):Zs:=as1 p (AN k ϰ)
def mZ(z:Zs)(k:Int)(n:Zs):Zs:=sE z k++n++rZ z k
def cN.keys(h:cN z):aV2 aD4 aI:=List.pairwise_map.mpr h
def S9{z:Zs}{k:Int}{p:Int × Int}(h:p∈sE z k):p∈z/\ϰ<k:=aK9 (Bm.mp h) (Ĭ this.1 (Ä this.2))
def Qla{z:Zs}{k:Int}{p:Int × Int}(h:p∈rZ z k):p∈z/\k<ϰ:=aK9 (Bm.mp h) (Ĭ this.1 (Ä this.2))
def W5(h:cN z)(k:Int)(i:cN n)(f:∀p∈n,ϰ=k):cN (mZ z k n):=by
 refine cp2 (cp2 (sC h) i (nL a c b e)) (sC h) (nL a c b e)
 ·have:=(S9 c).2;have:=f b e;lia
 ·have q:=(Qla e).2;rcases sN c with w|w
  ·have:=(S9 w).2;lia
  ·have:=f a w;lia
def Qd4(z:Zs)(k:Int):(as1 p ce9).Perm (sE z k++rZ z k):=by
 have e:=List.filter_append_perm (λ p:Int × Int=>AN ϰ k) (as1 p ce9);rw[List.filter_filter,List.filter_filter]at e;have a:as1 p (AN ϰ k&&ce9)=sE z k:=List.filter_congr λ p _=>by rw[<- Bool.decide_and,decide_eq_decide];lia
 have b:as1 p (mP (AN ϰ k)&&ce9)=rZ z k:=List.filter_congr λ p _=>by rw[<- decide_not,<- Bool.decide_and,decide_eq_decide];lia
 rw[a,b]at e;exact e.symm
def Dz(kvs:Ϧ)(z:Zs):Û:=kvs.Perm bJ8
def Dz.len{kvs:Ϧ}{z:Zs}(d:cC7 z):Ϟ=⇑z:=dP d.length_eq zE
def Dz.nodup{kvs:Ϧ}(d:cC7 z)(h:cN z):aL9 bM6:=by refine(d.map ļ).nodup_iff.mpr ?_;unfold zE;rw[List.map_map];refine List.pairwise_map.mpr (h.imp (Ź q e));have:=Sum.inl.inj e;lia
def Dz.drop(d:cC7 z)(k:Int):Dz (bz7 AO) (mZ z k []):=by
 have e:IP bJ8 (λ a=>as2 a.1 (f7 k:Key))=zE (as1 p ce9):=by unfold zE;rw[List.filter_map];congr 1;apply List.filter_congr;intro p _;show as2 (f7 ϰ:Key) (f7 k)=ce9;rw[decide_eq_decide];exact Ĭ (λ h q=>h (nV q)) (λ h q=>h (Sum.inl.inj q))
 have p:=(List.Perm.filter (λ a:Key × DV=>as2 a.1 (f7 k:Key)) d);rw[e]at p;unfold Dz XD mZ;rw[Br];exact p.trans (pc (Qd4 z k) _)
def Qg8:∀{kvs:Ϧ},aL9 bM6->(OW k d).Perm ((k,d)::cy6):=by
  intro kvs h;unfold JQ;by_cases q:Ĝ (bC9 c c.1 k)
  . rw[Eh q]
    induction kvs with
    |nil=>simp at q
    |cons p r i =>
      obtain⟨h1,h2⟩:=Cy.mp h;by_cases e:ϰ=k
      . have f:∀x∈r,x.1≠k:=λ x hx y=>h1 (by show ϰ∈_;rw[e,<- y];exact bR2)
        have a:r.map (λ c=>É (c.1=k) (c.1,d) c)=r:=by
          conv=>rhs;rw[<- aY0 r]
          exact My (λ x hx=>û (Eg (f x hx)))
        have b:XD (p::r) k=r:=by unfold XD;rw[aa2 (ą e),Cu];intro x hx;simpa using f x hx
        rw[Bb,aL7,a,b,e]
      . have j:Ĝ (r.any λ c=>oX c.1 k):=aX1 e q
        have b:XD (p::r) k=p::XD r k:=Ż XD (Cw cr9)
        rw[Bb,OO,b];exact å ((i h2 j).cons p) (List.Perm.swap _ _ _)
  . rw[Eg q]
    have b:cy6=kvs:=by unfold XD;rw[Cu];intro x hx;have:¬ x.1=k:=λ e=>q (List.any_eq_true.mpr (da x hx cr9));simpa using this
    rw[b];exact List.perm_append_singleton _ _
def Dz.put(d:cC7 z)(h:cN z)(k w:Int):Dz (OW AO ↥w) (mZ z k [(k,w)]):=by refine ϯ (Qg8 (d.nodup h));have e:=(d.drop k).cons ((f7 k:Key),oT w);refine aW3 ?_;unfold mZ zE;rw[Br];rw[A8];exact(List.perm_middle (a:=(k,w)) (l₁:=sE z k) (l₂:=rZ z k)).symm.map (λ p=>((f7 ϰ:Key),oT PP))
def y_:∀{kvs:Ϧ},aL9 bM6->(k,d)∈kvs->bm1>=d
  | [],_,h=>cR0
  |p::r,a,h=>by
    obtain⟨h1,h2⟩:=Cy.mp a;rw[Ur];rcases Nm h with e|e
    . rw[<- e,sj]
    . rw[Eg,y_ h2 e]
      intro q;exact h1 (hW (ϰ∈_) q (List.mem_map_of_mem (f:=ļ) e))
def Dz.val(d:cC7 z)(h:cN z){k w:Int}(a:(k,w)∈z):Cl AO>=↥w :=
 y_ (d.nodup h) (d.mem_iff.mpr (List.mem_map_of_mem (f:=λ p:Int × Int=>((f7 ϰ:Key),oT PP)) a))
def kI:Key->Int
 |.inl i=>i
 |.inr _=>0
def uY:∀{kvs:Ϧ},(∀p∈kvs,∃i,ϰ=ê i)->bh1>=(EE (λ p=>kI ϰ))
  | [],_=>rfl
  | (k,d)::r,h=>by obtain⟨i,e⟩:=h (k,d) (Ec ..);cases e;show pc (yU r) (i :: ·)=_;rw[uY λ p hp=>ch7 p hp];rfl
def Dz.keys(d:cC7 z)(h:cN z):∃ns,bh1>=ns/\aP1=aD4:=by
 refine cK6 (uY (Ź p hp)) (vo ?_ (h.keys.imp λ q=>Cj q)).symm
 ·obtain⟨q,_,rfl⟩:=bI4 cP4;exact õ q.1
 ·have e:=(d.map λ p=>kI ϰ).symm;have a:NM bJ8 p (kI ϰ)=aD4:=by unfold zE zK;rw[List.map_map];rfl
  rwa [a]at e
def TQ(d:cC7 z)(h:cN z){f:aJ}{n:Nat}{hp:Hs}(hf:aT>=(LD,hp))(i:bC5>=nl):bX9 wJ f env hp>=(Ø bd5,hp):=by
 obtain⟨ns,c,e⟩:=d.keys h;have a:Qc f Qj env hp>=([LD],hp):=KG hf rfl;unfold QY;rw[Qe a];show(IW s0 >>= λ ns=>cs5 cE4) hp=_;have b:IW s0 hp>=(ns,hp):=ac3 ((OU >>= _) hp=_) i (vX bh1 hp=_) c
 rw[bH1,e];rfl
def Qk4{n:Nat}{hp:Hs}{k:Int}(h:bC5>=nl)(hd:Cl AO>=d):cN9 s0 k>=(d,hp):=by show(OU >>= _) hp=_;rw[bk8];show(jH ↥k >>= λ k=>m9 bm1) hp=_;rw[tz (jH ↥k=Ô AO),Er,hd];rfl
def Qo5(k w:Int):cN [(k,w)]:=ao0 _
structure Tb(kvs:Ϧ)(z:Zs)(F:E1):Û where
 d:cC7 z
 rise:cN z
 fn:∀k v,bW3>=v↔(k,v)∈z
def T4{k:Int}{p:Int × Int}:p∈mZ z k n↔(ϰ≠k/\p∈z)∨p∈n:=by
 unfold mZ sE rZ;rw[Ai,Ai,Bm,Bm];simp only[decide_eq_true_eq];constructor
 ·rintro((⟨a,b⟩|a)|⟨a,b⟩)
  ·exact n5 À a
  ·exact Ğ a
  ·exact n5 À a
 ·rintro(⟨a,b⟩|a)
  ·rcases(À:ϰ<k∨k<ϰ)with c|c
   ·exact ê (n5 b c)
   ·exact pS b c
  ·exact ê (Ğ a)
def qm{o:aJ}{x y:Str}{b:Bool}(a:cq2>=(aJ4,hp))(h1:Ζ x)(h2:Ζ y)(h:(x==y)=b):eB (cG1 o y) env hp>=(b,hp):=aY3 a (u_ hp h1 h2 h)
section
variable{kvs:Ϧ}{z:Zs}{F:E1}
def Tb.put(t:Tb kvs z F)(k x:Int):Tb (OW AO bU7) (mZ z k [(k,x)]) (TR.pR F k x):=by
 refine da (t.d.put t.rise k x) (W5 t.rise k (Qo5 k x) (λ p hp=>nV (Fs hp))) (Ź j v);rw[T4];unfold TR.pR;by_cases e:j=k
 ·rw[aL7];subst e;simp only[Option.some.injEq,ne_eq,not_true_eq_false,false_and,false_or,Ar,Prod.mk.injEq,true_and];exact eq_comm
 ·rw[OO,t.fn];simp[e]
def Tb.cut(t:Tb kvs z F)(k:Int):Tb (bz7 AO) (mZ z k []) (TR.nu F k):=by
 refine da (t.d.drop k) (W5 t.rise k List.Pairwise.nil (au6 p hp hp)) (Ź j v);rw[T4];unfold TR.nu;by_cases e:j=k
 ·rw[aL7];subst e;simp
 ·rw[OO,t.fn];simp[e]
def Tb.val(t:Tb kvs z F)(k:Int):Cl AO=pd bW3:=by
  cases e:bW3 with
  |some v=>exact t.d.val t.rise ((t.fn k v).mp e)
  |none =>
    cases a:Cl AO with
    |none=>rfl
    |some d =>
      exfalso;unfold Jv at a;obtain⟨b,h1,h2⟩:=bG5 a;have m:=ap3 h1;have q:b.1=(f7 k:Key):=aK9 (List.find?_some h1) (Eo this)
      have c:=(List.Perm.mem_iff t.d).mp m;obtain⟨p,hp,rfl⟩:=bI4 c;have q:(f7 ϰ:Key)=f7 k:=q;injection q with q;subst q;have:=(t.fn ϰ PP).mpr hp;rw[e]at this;cases this
def QlH(kvs:Ϧ)(k:Key)(d:DV):⇑(OW k d)<=Ϟ+1:=Qjw kvs k d
def Qid(kvs:Ϧ)(k:Key):⇑cy6<=Ϟ:=Ca _ _
#where
def Qh5{t:DV->OS}{f:fS}(z:Zs)(p:AD (Int × Int))(o:∀q∈z,t ↥q.1 hp>=(p q,hp))(hf:∀q∈z,f ↥q.1 hp>=(ñ [È q.1,È q.2],hp))(l:⇑z<Ņ):Js (d7 bd5) t f Ņ 0 hp>=(aM (z.filter p),hp):=by
  have zl:⇑(pc aD4 DV.int)=⇑z:=ą zK
  have j:∀i,ŵ (pc aD4 DV.int)=pc (ŵ z) (λ q:Int × Int=>oT q.1):=λ i=>Υ zK List.map_map Bt
  suffices h:∀(m i n:Nat),m+i=⇑z->m<n->Js (d7 bd5) t f n i hp>=(aM (IP (z.drop i) p),hp)by simpa using h ⇑z 0 Ņ rfl l
  intro m;induction m with
  |zero =>
    intro i n e c;obtain⟨n,rfl⟩:∃k,n=k+1:=bO7;have:i=⇑z:=À
    subst this;have b:=jO bd5 ⇑z À hp;rw[j,cV0 z[⇑z]?]at b;rw[Js,bH1,C7];rfl
  |succ m u =>
    intro i n e c;obtain⟨n,rfl⟩:∃k,n=k+1:=bO7;have a:i<⇑z:=À
    have b:=jO bd5 i À hp;rw[j,bg7]at b;have r:=u (i+1) n À À;rw[Js,bH1];show(t (È z[i].1) >>= _) hp=_;rw[Qe (o _ cC0),Bi a,As];cases hp':p z[i]with
    |false=>rw[cl9];exact r
    |true=>rw[sj,sj];show(f (È z[i].1) >>= _) hp=_;rw[Qe (hf _ cC0),Qe r];rfl
def Rk(rows:Ew):∀d∈ϲ,Pl 1 d:=λ d hd=>aC2 p rfl hd (λ x hx=>by simp only[Bk,Ce,or_false]at hx;rcases hx with rfl|rfl<;>exact Rm _ _)
def QmM{z:Zs}{F:E1}(t:Tb kvs z F){a e:Int}{ps:Ew}(R:TR.lC F a e ps):as1 q (FX a q.1&&AN q.1 e)=ps:=by refine TR.zI (sC t.rise) R.1 (NV x);rw[Bm];have:=R.2 x.1 x.2;rw[tz ((x.1,x.2)=x)]at this;rw[this,t.fn];simp
def Qib{o:aJ}{fa:bR}{hp:Hs}{a:Nat}{j:Int}(e:cq2>=(ų,hp))(h:E8 a>=nl)(c:bx8>=([bA7],hp)):JC ss yY o fa env hp>=(cG6 (Cl (ê j)) ī,hp):=by
 unfold JC;rw[Qe e];have b:yW ss Ŗ hp>=((),hp):=Ő ((cL3 >>= _) hp=_) bk8
 rw[bH1,bQ3];show(cL3 >>= _) hp=_;rw[bk8];rfl
def Qlx{n:Nat}{hp:Hs}{k:Int}{f g q:aJ}(c:bC5>=nl)(hf:aT>=(LD,hp))(h:az0>=(aY7,hp))(i:q env hp>=(y,hp)):∃d,JC ss Dj f (Ĺ g q) env hp>=(d,μ n (nj (bz7 AO))):=by
  unfold JC;rw[bs0];have e:yW ss s0 hp>=((),hp):=Ő ((OU >>= _) hp=_) (Φ c)
  rw[Qe e,Qe (KG h (KG i rfl))];show ∃d,(OU >>= _) hp=_;rw[Φ c];show ∃d,(jH ↥k >>= _) hp=_;rw[tz (jH ↥k=Ô AO),Er];cases j:Cl AO with
  |some d=>exact õ d
  |none =>
    refine CB y;have b:bz7 AO=kvs:=by
      unfold XD;rw[Cu];intro x hx;have a:=Qkc kvs AO;rw[j]at a;have:¬ x.1=(f7 k:Key):=λ e=>by have:=(List.any_eq_true (p:=λ l:Key × DV=>oX l.1 (f7 k:Key))).mpr (da x hx (Em e));rw[a]at this;cases this
      simpa using this
    rw[b];have s:μ n nl=hp:=by obtain⟨h1,h2⟩:=Ac.mp c;rw[<- h2];exact List.set_getElem_self h1
    rw[s];rfl
def vD(v:TR.Wk):DV:=match v.O2 with
 |.stretch _ _=>Ø Tk
 |_=>bb7
section
variable{w:Hs}{s a f q:Nat}{v:TR.Wk}
def Qks{l h:Int}(h3:w[a]?>=(fV s f q v))(h5:ie w q Tk)(c:Ĝ v.O7)(hd:v.O2=aj6 l h):JK by9 w>=(aJ1,w++[Ø Tk]):=by
 refine Ĥ [Lm] (Qq (Zt (aQ3 b true (œ (hO h3 cr7) c))) (ZN (bJ5 w ?_ cr3)))
 ·have d0:QX ã zg Ë [Lm] w>=(ñ [Ϩ fF, È l,È h],w):=bk4 (aL2 h3) hd;exact qm (cw0 i 0 d0) X7 X7 Á
 ·refine bt4 (hO h3 (gL ..)) ?_;have e:wu ↑q w>=(Tk,w):=Ő ((Zx q >>= _) w=_) (Φ h5)
  show(wu ↑q >>= λ ds=>Xr fI) w=_;rw[Qe e];rfl
def Qf9(h3:w[a]?>=(fV s f q v))(c:Ĝ v.O7)(hd:∀l h,v.O2≠aj6 l h):JK by9 w>=(bb7,w)/\vD v=bb7:=by
 have nx:∀(x:Str) (ds:á),Jt v.O2=ñ (aJ4::ds)->Ζ x->pk x (Ŕ fF)->JK by9 w>=(bb7,w):=λ x ds e ok ne=>by refine Ĥ [Lm] (cS3 (aQ3 b true (œ (hO h3 cr7) c)) (cP3 w ?_) (QF (bw5 h3)));have d0:QX ã zg Ë [Lm] w>=(ñ (aJ4::ds),w):=œ (aL2 h3) e;exact qm (cw0 i 0 d0) ok X7 ne
 unfold vD;cases e:v.O2 with
 |find k=>exact õ (nx t9 _ ca5 JI Á)
 |put k x=>exact õ (nx tI _ ca5 JO Á)
 |cut k=>exact õ (nx N3 _ ca5 Xa Á)
 |stretch l h=>exact ď e (hd l h)
#where
def Qa2{m:Nat}{S S':TR.Sh}{v v':TR.Wk}(u:TR.Steps m S v S' v'):v.O6=0->(∀k x,v.O2≠.put k x)->aV1 S'.top/\S'.rd=iS m:=by
  induction u with
  |nil S w=>exact λ_ _=>Ť Ê
  |@cons m S S1 S' w i z r o l rest t =>
    intro f hd;have j:i.O6=0/\(∀k x,i.O2≠.put k x)/\aV1 S1.top/\S1.rd=cc6:=by
      cases TR.xl o l with
      |raised _ h _=>exact ď h.2 À
      |told _ _ h _=>exact cD4
      |put _ h _ _ _=>exact cD2 (hd _ _)
      |cut n y b _ _ _ _=>cases b<;>exact cj6 f hd
      |_=>exact cj6 f hd
    obtain⟨a,b,c,e⟩:=j;obtain⟨x,y⟩:=t a b;exact Ĭ (x.trans c) (OQ y e)
def fnOf(z:Zs):Int->Č:=λ k=>CD (z.find? λ p=>bM2)
def MR(h:cN z)(k v:Int):fnOf z k>=v↔(k,v)∈z:=by
  have u:∀{z:Zs},cN z->∀{p q:Int × Int},p∈z->q∈z->ϰ=q.1->p=q:=λ{z} h {p q} hp b e=>by
    obtain⟨i,hi⟩:=bY1 hp;obtain⟨j,a⟩:=bY1 b;obtain⟨o,c⟩:=Ac.mp hi;obtain⟨r,f⟩:=Ac.mp a;have pw:=Cq.mp h;rcases bX7 i j with l|l|l
    . have:=pw i j o r l;rw[c,f]at this;lia
    . subst l;rw[hi]at a;exact Ak a
    . have:=pw j i r o l;rw[c,f]at this;lia
  unfold fnOf;constructor
  . intro e
    obtain⟨p,h1,rfl⟩:=bG5 e;have q:Ĝ bM2:=List.find?_some (p:=λ p:Int × Int=>bM2) h1;have:=Eo q;subst this;exact ap3 h1
  . intro n
    cases e:z.find? λ p=>bM2 with
    |none=>exact ď (Em rfl) (List.find?_eq_none.mp e (k,v) n)
    |some q=>have t:Ĝ (oX q.1 k):=List.find?_some (p:=λ p:Int × Int=>bM2) e;have b:=Eo t;have:=u h (ap3 e) n b;rw[this];rfl
def Od:Dz bJ8 z:=Iy
section
variable{kvs:Ϧ}{z:Zs}{F F':E1}{w:Hs}{v:TR.Wk}{t0:Nat}
def QmL(t:Tb kvs z F)(h:w[t0]?>=nl)(hl:Ϟ<aw9){d:TR.bU}(J:TR.MK F F' v d)(U:v.O2=d):∃a z',VI [NG,ë t0] w>=(vD v,w.set t0 (nj a))/\Tb a z' F'/\cG7<=Ϟ+1:=by
  let E:Sl->En:=λ y=>[! NG,!↑t0,y]
  have same:w.set t0 nl=w:=MJ h;have X:∀l r,d=aj6 l r->vD v=Ø Tk:=λ l r e=>bY0 vD U e
  have L:(∀l r,d≠aj6 l r)->vD v=bb7:=λ e=>by
    unfold vD;rw[U];cases d with
    |stretch l r=>exact aA7 (e l r)
    |_=>rfl
  have u:∀(y:Sl)(b:Hs),wy Ë kw (E y) b>=(Ϩ cj2,b):=λ y b=>bL9 (VS d b);have P:∀(y:Sl)(b:Hs),wy Ë Ÿ (E y) b>=(È d.key,b):=λ y b=>bL9 (WV d b);have O:∀k,d.key=k->QI 2 (JC ss yY Ġ (é al3)) bR0 w>=(ϧ (E bW5),w):=λ k e=>by
    have g:=Qib (o:=Ġ) (env:=bR0) (j:=k) Â h (Zn (e▸P Ś w));rw[t.val]at g;have q:cG6 (pc bW3 DV.int) ī=bW4:=kb bW3
    rw[q]at g;exact Qw g
  have pre:∀(rest:aG) (r:(Fl × En)× Hs) k,d.key=k->Ζ cj2->pk cj2 (Ŕ fF)->rest (E bW5) w>=r->Qs (cW2 am8 fF jg) (ö 2 (JC ss yY Ġ (é al3)) rest) bR0 w>=r:=λ rest r k hk ok ne hr =>
    cS3 (qm (u _ _) ok X7 ne) (O k hk) hr
  cases d with
  |stretch l r =>
    obtain⟨C,R⟩:=J;rw[C,X l r rfl];refine⟨kvs,z,?_,t,À⟩;rw[same];refine Ĥ bR0 (ZN (bJ5 w (bZ3 x fF _ _ X7 X7 Á) cr3));unfold jg Jb;have x:cW (ŭ wJ 1) bR0 w>=(d7 bd5,w):=Ye (TQ t.d t.rise (n:=t0) Â h);refine ϯ (Qe x);have zl:⇑z<Ņ:=Ě t.d.len
    have q:=Qh5 (t:=λ c=>eB (JV fH cU (bp 2 1) Ë (bp 2 2)) (cE [1,0] bR0 c)) (f:=λ c=>ZO (nB 0 (NO Ġ Ë)) (cE [1,0] bR0 c)) (hp:=w) z (λ q=>FX l q.1&&AN q.1 r) (λ q Q=>by refine Q5 ?_;rw[Mc (x:=È l) (y:=È q.1) (z:=È r) (cf6 1 [Ϩ fF, È l,È r]) Â (cf6 2 [Ϩ fF, È l,È r]) (zA ..) (Y3 ..)]) (λ q Q=>Jk (cN6 (Qn Â Â (Qk4 h (t.d.val t.rise Q)))) Ê) zl
    rw[QmM t R]at q;exact cs7 (Qe q)
  |find k =>obtain⟨C,I⟩:=J;rw[C,L (λ l r q=>ĥ q),I];refine⟨kvs,z,?_,t,À⟩;rw[same];refine Ĥ (E bW5) (pre _ _ k rfl JI (cE0 t9 fF) ?_);exact cS3 (bZ3 x t9 _ _ JI JO Á) (Zt (bZ3 x t9 _ _ JI Xa Á)) (QF Â)
  |put k x =>
    obtain⟨C,I⟩:=J;rw[C,L (λ l r q=>ĥ q),I];refine⟨_,_,?_,t.put k x,QlH ..⟩
    let e:En:=E bW5
    have s1:zG (wf 2) (d9 Ġ al3) e w>=(ϧ e,w.set t0 (ba0 AO bU7)):=by refine Mj (d:=cj4) (cf6 2 [Ϩ tI, aY7,cj4]) ?_;unfold d9;have ik:wy Ë Ÿ e w>=(aY7,w):=P _ w;rw[Qe Â,Qe ik,Qe (MU (d:=cj4) h (tz (KY ↥k>=AO)) À)];rfl
    refine Ĥ e (pre _ _ k rfl JO (cE0 tI fF) ?_);exact aC (JG (bZ3 x tI _ _ JO JO Á) s1) (Zt (bZ3 x tI _ _ JO Xa Á)) (QF Â)
  |cut k =>
    obtain⟨C,I⟩:=J;rw[C,L (λ l r q=>ĥ q),I]
    let e:En:=E bW5
    have go:aQ (N0 cP am8 (Ϩ tI)) (zG (wf 2) (d9 Ġ al3)) ZD e w>=(ϧ e,w):=(Zt (bZ3 x N3 _ _ Xa JO Á));obtain⟨y,Y⟩:=Qlx (f:=Ġ) (g:=al3) (q:=kw) (env:=e) h Â (P _ w) rfl;refine⟨_,_,?_,t.cut k,ar9 (Qid ..)⟩;exact Ĥ e (pre _ _ k rfl Xa (cE0 N3 fF) (aC go (JG (bZ3 x N3 _ _ Xa Xa Á) (ZM Y)) (QF Â)))
#where
abbrev bY:Int:=Ĕ
def uG(c k m:Int){env:En}(w:Hs)(b:aL6 0>=bo4)(h0:0<=k)(h1:E9 k)(a:0<m):Qh Z4 (CC 2 0 k) (ì m) env w>=(È (P5 k m),w) :=
 E2 x (QN c k) y m (mw (ak b) rfl (Z5 (X9 c k h0 h1) w)) rfl (Z5 (Z9 _ _ a) w)
def Rv(c:Int)(ks:Ď)(w:Hs):∃k,-bY<=k/\k<=bY/\Yu [bK0,Ø ø] w>=(aY7,w):=by
 let K:DV:=Ø ø
 let e:Int->En:=λ k=>[bo4,! K,Ö k]
 have P:∀env:En,Qh JY dz (ì 30) env w>=(È bY,w):=FG (E2 x 10 y 30 rfl rfl (Z5 Vc w))
 let k0:=(c * 7+bY) % (2 * bY+1)-bY
 have t:QI 2 (cT3 XO (md Z4 (cT3 Q7 (ax0 J8 7)) Q7 (cT3 J8 am4) 1)) [bo4,! K,Ś] w>=(ϧ (e k0),w) :=
  Qw (E2 x ((c * 7+bY) % (2 * bY+1)) y bY (E2 x (c * 7+bY) y (2 * bY+1) (E2 x (c * 7) y bY (E2 x c y 7 Â rfl (Z5 (DQ _ _ Á Á) w)) (P _) rfl) (E2 x (2 * bY) y 1 (E2 x 2 y bY rfl (P _) (Z5 (XW _ _ Á Á) w)) rfl rfl) (Z5 (Z9 _ _ Á) w)) (P _) rfl)
 have a:∃k1,aQ (Yh (E4 mH Ġ aB4) (eB (cd6 dD 2 0 20 5 0))) (QI 2 (IJ (Qh bF Ġ (Qh Z4 (CC 2 0 21) (ŭ ye 1))) (md bF (Xg (Qc kw (B6 kw Ÿ aB5))) Z4 (CC 2 0 22) 4))) ZD (e k0) w>=(ϧ (e k1),w):=by
  have n0:eB (Qh mH Ġ aB4) (e k0) w>=(mP (oX ks []),w):=Q5 (aL1 K y l7 Â rfl (Z5 (Qld ks) w));have g0:eB (cd6 dD 2 0 20 5 0) (e k0) w>=(AN 0 (P5 20 5),w):=aY3 (uG c 20 5 w rfl Á Á Á) rfl;by_cases h:ks=[]
  ·rw[h]at n0;exact Ĭ k0 (Zt (xU (û n0)))
  rw[Ep h]at n0;by_cases q:0<P5 20 5
  ·rw[Em q]at g0;have z:0<bw:=List.length_pos_iff.mpr h;have r:=bu4 c 21 (Ì bw) À;obtain⟨j,b⟩:∃j:Nat,P5 21 (Ì bw)=cP7:=ax7 (IS (P5 21 (Ì bw)));have l:j<bw:=À
   have C:=bu4 c 22 4 Á;obtain⟨u,f⟩:∃u:Int,bF (Ø [È 0,È 0,È 1,È (-1)]) ↥(P5 22 4)=hA u:=by
    rcases(À:P5 22 4=0∨P5 22 4=1∨P5 22 4=2∨P5 22 4=3)with q|q|q|q<;>rw[q]
    ·exact õ 0
    ·exact õ 0
    ·exact õ 1
    ·exact õ (-1)
   have i:bF K ↥cP7=Ô (È ks[j]):=Tn (Kq (Ρ Bt (Ab l)));refine Ĭ (ks[j]+u) (bJ5 w (å (zq n0) g0) (Qw (E2 x ks[j] y u (aL1 K y (ú j) Â ?_ (Z5 i w)) (aL1 (Ø [È 0,È 0,È 1,È (-1)]) y (È (P5 22 4)) rfl (uG c 22 4 w rfl Á Á Á) (Z5 f w)) rfl)));have n:QY ye fy (e k0) w>=(ú bw,w):=œ (Jj uq rfl) Bq;rw[<- b];exact fh x (QN c 21) y (ú bw) (bn0 rfl (X9 c 21 Á Á) w) n (Z5 (Z9 _ _ À) w)
  ·rw[Ep q]at g0;exact Ĭ k0 (Zt (å (zq n0) g0))
 obtain⟨k1,a⟩:=a;have L0:0<bY:=Á
 let m:=É (k1<bY) k1 bY
 let v:=É (m > -bY) m (-bY)
 have m1:m<=bY:=ae5 (É (k1<bY) k1 bY<=bY)
 refine Nc v (ae5 (-bY<=É (m > -bY) m (-bY))) (ae5 (É (m > -bY) m (-bY)<=bY)) (Ĥ (e k1) (aC t a cr3))
 have o:xp (Ò JY dz 30) (e k1) w>=(È (-bY),w):=lw xp (P _)
 exact Jj (Zk (v:=È (-bY)) (v':=È m) o (Jj (Zk (P _) Â) rfl)) rfl
def QkI(c:Int)(ks:Ď)(w:Hs):∃d:TR.bU,TR.Mh d/\xN [bK0,Ø ø] w>=(NG,w):=by
 let K:DV:=Ø ø
 obtain⟨k,k1,k2,J⟩:=Rv c ks w;obtain⟨h,h1,h2,I⟩:=Rv (c+1) ks w
 let kd:=P5 23 7
 let E:Sl->Sl->En:=λ a b=>[bo4,! K,Ö k,Ö kd,a,b]
 have P:∀env:En,Qh JY dz (ì 30) env w>=(È bY,w):=FG (E2 x 10 y 30 rfl rfl (Z5 Vc w));have i:QI 2 (ù 2 Yu 0 fy) [bo4,! K,Ś,Ś,Ś,Ś] w>=(ϧ [bo4,! K,Ö k,Ś,Ś,Ś],w):=Qw (cf0 J);have l:QI 3 (cd5 2 0 23 7) [bo4,! K,Ö k,Ś,Ś,Ś] w>=(ϧ (E Ś Ś),w):=Qw (uG c 23 7 w rfl Á Á Á);have t:∀(j:Int)(b:Bool),AN kd j=b->eB (ò cU 3 j) (E Ś Ś) w>=(b,w):=λ j b h=>Q5 (œ (E2 x kd y j Â rfl (Z5 (Y3 ..) w)) h);by_cases v:kd<2
 ·exact da (.find k) trivial (Ĥ (E Ś Ś) (aC i l (ao9 (t 2 true (Em v)) (bd8 (Zk rfl Â)))))
 have n:=t 2 false (Ep v);by_cases z:kd<4
 ·exact da (.put k (P5 24 100-50)) trivial (Ĥ (E Ś Ś) (aC i l (Qq (Zt n) (ao9 (t 4 true (Em z)) (cq5 (E2 x (P5 24 100) y 50 (uG c 24 100 w rfl Á Á Á) rfl rfl))))))
 have u:=t 4 false (Ep z);by_cases C:kd<6
 ·exact da (.cut k) trivial (Ĥ (E Ś Ś) (aC i l (cS3 n (Zt u) (ao9 (t 6 true (Em C)) (bd8 (Zk rfl Â))))))
 have L:=t 6 false (Ep C)
 let lo:=É (bY-1<k) (bY-1) k
 let hi:=É (h > lo+1) h (lo+1)
 have O:lo<hi:=ae5 (lo<É (h > lo+1) h (lo+1))
 have U:lo+1<=bY:=ae5 (É (bY-1<k) (bY-1) k+1<=bY)
 have Q:QI 4 (QY vV (nB 2 (Ò XO (Ò JY dz 30) 1))) (E Ś Ś) w>=(ϧ (E bj9 Ś),w):=Qw (Jj (cN6 (E2 x bY y 1 (P _) rfl rfl)) rfl);have R:QI 5 (co6 m_ aS8 (Qx 2 Yu (Qc (ax0 Q7 1) fy))) (E bj9 Ś) w>=(ϧ (E bj9 (Ö hi)),w):=Qw (Jj (Zk (E2 x lo y 1 Â rfl rfl) (mw (E2 x c y 1 Â rfl rfl) Â I)) rfl);have o:∃e,lo<e/\aQ (eB (cd6 eE 2 0 25 3 0)) (QI 5 (co6 vV (Ò JY dz 30) (md Q7 aS8 Z4 (CC 2 0 26) 30))) ZD (E bj9 (Ö hi)) w>=(ϧ (E bj9 (Ö e)),w):=by
  have f:eB (cd6 eE 2 0 25 3 0) (E bj9 (Ö hi)) w>=(P5 25 3==0,w):=aY3 (uG c 25 3 w rfl Á Á Á) (Z5 (Xk _ _) w);by_cases q:PH (P5 25 3) 0
  ·rw[q]at f;have r:=bu4 c 26 30 Á;refine da (É (lo+1+P5 26 30<bY) (lo+1+P5 26 30) bY) au1 (JG f (Qw (Jj (Zk (P _) (E2 x (lo+1) y (P5 26 30) (E2 x lo y 1 Â rfl rfl) (uG c 26 30 w rfl Á Á Á) rfl)) rfl)))
  ·rw[eH q]at f;exact da hi O (Zt f)
 obtain⟨e,F,o⟩:=o;exact da (aj6 lo e) F (Ĥ (E bj9 (Ö e)) (aC i l (cS3 n (Zt u) (cS3 L Q (aC R o (cq5 Â))))))
def QkQ{b:DV->aG}{d v:DV}(h:b d env hp>=((.rt v,aF),hp1)):Yb b (d::ds) env hp>=((.rt v,aF),hp1):=Ő ((b d env >>= _) hp=_) NB
def Qf5{m:Nat}{S S':TR.Sh}(o:TR.Steps m S v S' v'):∀{bg:TR.Bg}{F:E1},TR.Al S bg F v->TR.eO S' S'.top<=FC S+1:=by
  induction o with
  |nil S w=>exact λ_=>lP
  |@cons m S S1 S' w J I r f c rest l =>
    intro bg F A;obtain⟨C,x,L,z,u,es,i,g2,_⟩:=A.step f;rw[c]at es;cases es;obtain⟨rt,j,_⟩:=A.tree.root;have t:S.top<Î:=ZC j;have same:aV1 S1.top->TR.eO S1 S1.top=FC S:=λ e=>Å e (TR.MA g2 t)
    have hi:=l i;have a:∀(S:TR.Sh)(w:TR.Wk)(n:Nat)(P:TR.Pg),aV1 (XP w n P).2.1.top:=λ S w n P=>aI1 TR.Qt
    cases TR.xl f c with
    |@raised p k h1 h2 h3 =>
      rw[h2.1]at h1;have e:ci1 (FC S):=TR.yg h1;cases rest with
      |nil=>have q:TR.eO (cA3 S rd cc6 pg [cG5 [dX,Ϯ]] top Î wr cA2) Î=ST:=TR.yg (p:=cG5 [dX,Ϯ]) (bX0 ((n4 _)[Î]?=_));show TR.eO (cA3 S rd cc6 pg [cG5 [dX,Ϯ]] top Î wr cA2) Î<=_;lia
      |cons h _ _=>cases h
    |told _ _ _ _=>have:=same (a ..);lia
    |put _ _ _ _ _=>have:=same (a ..);lia
    |cut n y b _ _ _ _=>have:=same (kb b);lia
    |_=>have:=same rfl;lia
section
variable{n a:Nat}
def Ql9{dv:DV}(D:fC n (n+1) a (a+1) (a+2)){m:Nat}{S:TR.Sh}{v:TR.Wk}{v':TR.Wk}(Y:TR.Steps m S v S' v')(C:Ĝ v'.O7):∀{bg:TR.Bg}{F:E1}{w:Hs}(i:Nat)(ds:á)(z3:Sl),TR.Al S bg F v->S.O4<=50->At w n (n+1) a (a+1) (a+2) S v->Î<=FI+i->⇑v.O5<=i->⇑v.pairs<=50 * i->i+m<FI->m<Ć ->
    ∃x y,Yb (aC4 d env' 3 d (jK env')) ds [! s0,! dv,Lm,z3] w>=((.rt Ŗ,[! s0,! dv,Lm,y]),x)/\At x n (n+1) a (a+1) (a+2) S' v'/\Fr w x n (n+1) a (a+1) (a+2)/\⇑v'.pairs<=50 * (i+m):=by
  induction Y with
  |nil S v =>
    intro bg F w i ds z3 A I b h1 h2 h3 h4 h5;obtain⟨d,ds,rfl⟩:∃d c,ds=d::c:=by cases ds with
      |nil=>simp at h5
      |cons d ds=>exact Œ d ds
    have f:=SM b.h3;rw[C]at f;exact⟨w,! d,QkQ (ZN (bJ5 w (Q5 (wE a a Â b.h3 (Tr ..) XQ f)) (QF Â))),b,Fr.refl,À⟩
  |@cons m S S1 S' v v1 v' r e h rest U =>
    intro bg F w i ds z3 A I b h1 h2 h3 h4 h5;obtain⟨d,ds,rfl⟩:∃d c,ds=d::c:=by cases ds with
      |nil=>simp at h5
      |cons d ds=>exact Œ d ds
    have f:=SM b.h3;rw[e]at f;obtain⟨r',S2,v2,iB,F2,es,J,g2,O,_,X⟩:=A.step e;rw[h]at es;cases es;obtain⟨w2,P,j,o⟩:=Ql2 A.tree (A.iD e) I b D À À À h;have sz:=TR.Qex (m:=50) (λ m p R=>Ě (bI7 m R).few) h;obtain⟨_,_,_,L,z,u⟩:=TR.TJ A.tree (A.iD e) e (A.oV e);rw[h]at z;cases z;have ln:=u.len;obtain⟨w3,y,Q,l,t,p3⟩:=U C (i+1) ds as3 J À j À À À À (aT8 h5);refine⟨w3,y,å (Ku (aF:=[! s0,! dv,Lm,! d]) (hp1:=w2) ?_) Q,l,o.trans t,À⟩;exact Ē aF [! s0,! dv,Lm,! d] w (cP3 w (Q5 (wE a a Â b.h3 (Tr ..) XQ f))) (ZM (wE a a Â b.h3 (Qmb ..) XQ P))
#where
structure lX(w:Hs)(n t0:Nat)(S:TR.Sh)(bg:TR.Bg)(F:E1)(kvs:Ϧ)(z:Zs)(N:Nat):Û where
 T:wc S
 D:∀s,s<Î->bq3 s->TR.Kd S s
 K:TR.Fk S
 tab:TR.bM S F
 Z:TR.Zero S bg
 rm:S.O4<=8
 cnt:bZ0 S<=N+300
 lv:FC S<=N+11
 h0:w[n]?>=(lI S.O4 (n+1:Nat) S.top S.rd S.wr)
 h1:ie w (n+1) Ů
 h2:w[t0]?>=nl
 tb:Tb kvs z F
 zl:Ϟ<=N+300
 d0:t0≠n
 d1:t0≠n+1
section
variable{w:Hs}{n t0:Nat}{S:TR.Sh}{bg:TR.Bg}{F:E1}{kvs:Ϧ}{z:Zs}{N:Nat}
def lX.pages(I:lX w n t0 S bg F kvs z N):Î<=2 * (N+300):=by have:=TR.Qi5 I.T I.K;have:=I.cnt;lia
def Qkd(I:lX w n t0 S bg F kvs z N)(hN:N<64)(d:TR.bU)(hd:TR.Mh d):∃u b r o v' m,qX [LD,NG] w>=(aJ1,u)/\At u n (n+1) ĳ (ĳ+1) (ĳ+2) b v'/\Fr w u n (n+1) ĳ (ĳ+1) (ĳ+2)/\Ĝ v'.O7/\v'.O2=d/\TR.MK F o v' d/\⇑v'.pairs<=50000/\ĳ+2<⇑u/\TR.Steps m S Lq b v'/\(∀k,d=.find k->m=FC S+1)/\TR.Al b r o v'/\TR.bf S bg b r/\b.O4=S.O4/\bZ0 b<=bZ0 S+1/\TR.eO b b.top<=FC S+1:=by
 have pg:=I.pages;obtain⟨m,b,r,o,v',g,t,ml,mf,P,C,an,vd,rm⟩:=TR.QmC I.T I.D I.K I.tab d hd;obtain⟨rt,O,_⟩:=I.T.root
 let a:=ĳ
 let c:=w++[fV n (a+1) (a+2) Lq,LT,l7]
 have l0:n<ĳ:=ZC I.h0;have l1:n+1<ĳ:=ZC I.h1;have D:fC n (n+1) a (a+1) (a+2):=⟨À,À,À,À,À,À,À,À,À,À⟩;have o2:∀i,i<ĳ->ŵ c=ŵ w:=λ i hi=>Ah hi;have J:∀j,c[a+j]?=[fV n (a+1) (a+2) Lq,LT,l7][j]?:=λ j=>by show(w++_)[ĳ+j]?=_;rw[aG2,Nat.add_sub_cancel_left]
 have f:At c n (n+1) a (a+1) (a+2) S Lq:=⟨å (o2 n l0) I.h0,å (o2 _ l1) I.h1,aN8,J 1,J 2⟩;have v:TR.Al S bg F Lq:=by
  refine⟨I.T,I.K,I.tab,λ n h1 h2=>ê (I.D n h1 h2),λ_=>?_,λ_=>TR.aO.fresh rfl rfl rfl,λ_ h=>cD2 (lL (¬ 0<0))⟩;cases d with
  |find k=>rfl
  |put k x=>rfl
  |cut k=>rfl
  |stretch l h=>exact Ĭ hd ı
 have a8:=I.rm;obtain⟨w4,z',e4,Q,L,p4⟩:=Ql9 (dv:=NG) D t C 0 (Zg 0 (2+4 * Î)) Ś v À f À (ą TR.fresh) (ą TR.fresh) À (Ĵ JZ);have l2:ch3=ĳ+3:=ą c
 have l4:=L.1;have lv:=t.leaves v;have v1:TR.mO S Lq=bZ0 S+1:=Ż TR.mO (Eh ft)
 have v2:TR.mO b v'=bZ0 b:=þ TR.mO (Eg (λ q=>ĩ C q q.2))
 refine⟨w4,b,r,o,v',m,?_,Q,Ĭ À (λ i hi R U X Y a5=>å (L.2 i À R U X Y a5) (o2 i hi)),C,vd,an,À,À,t,Ź k e,P,g,rm,À,Qf5 t v⟩
 ·refine Ĥ [! s0,! NG,Lm,z'] (nK [! s0,! NG,Lm,Ś] c (Qki cN7) (ZN ?_));have q:=MY f.h1 f.h2;rw[Bq]at q;have ar:Qc (IJ am4 (co1 (ì 4) (ba6 lT Xd Ë))) Qj [! s0,! NG,Lm,Ś] c>=([ú (2+4 * Î:Nat)],c):=by
   refine ϯ (Zn (E2 x 2 y (4 * Ì Î) rfl (fh x 4 y (ú Î) rfl (wE a n Â f.h1 (U0 ..) XQ q) (Z5 (XW _ _ Á Á) _)) rfl));have:Ì 2+4 * Ì Î=Ì (2+4 * Î:Nat):=À
   rw[this]
  unfold js yh;rw[Qe (yS ar À)];exact e4
 ·rw[TR.yg O];exact mf k e rt O
#where
def vI:DV->Int
 |.int i=>i
 |_=>0
def Dz.back{a:Ϧ}(d:Dz a z):∃z1:Zs,a=zE z1/\z1.Perm z:=by
 refine AB (a.map λ p=>(kI ϰ,vI PP)) ?_
 ·unfold zE;rw[List.map_map]
  conv=>lhs;rw[<- aY0 a]
  refine My (Ź p hp);obtain⟨q,_,rfl⟩:=bI4 cP4;rfl
 ·refine å (d.map _) (List.Perm.of_eq ?_);unfold zE;rw[List.map_map]
  conv=>rhs;rw[<- aY0 z]
  rfl
section
variable{S:TR.Sh}
def Qdn{n:Nat}{r:ć}(a:aD0 n r):∀{e:ć},aD0 n e->r=e:=by
  induction a with
  |last h1 h2 =>
    intro e b;cases b with
    |last _ _=>rfl
    |next h3 h4 _=>rw[h1]at h3;cases h3;rw[h2]at h4;cases h4
  |next h1 h2 _ f =>
    intro e b;cases b with
    |last h3 h4=>rw[h1]at h3;cases h3;rw[h2]at h4;cases h4
    |next h3 h4 c=>rw[h1]at h3;cases h3;rw[h2]at h4;cases h4;rw[f c]
#where
section
variable{w:Hs}{n t0:Nat}{S:TR.Sh}{bg:TR.Bg}{F:E1}{kvs:Ϧ}{z:Zs}{N:Nat}
def Qof{s a f q:Nat}{v:TR.Wk}(h3:w[a]?>=(fV s f q v))(h5:ie w q Tk)(c:Ĝ v.O7):∃x t,JK by9 w>=(x,w++t)/\∀b:Hs,(∀i,ĳ<=i->i<⇑(w++t)->ŵ b=ŵ (w++t))->eN x (vD v) b>=(π,b):=by
 by_cases hd:∃l h,v.O2=aj6 l h
 ·obtain⟨l,h,e⟩:=hd;refine Nc aJ1 [Ø Tk] (Qks h3 h5 c e) (Ź b r);unfold vD;rw[e];exact QiQ (å (r ĳ ę Ê) Ê) (Rk _) Á
 ·obtain⟨j,o⟩:=Qf9 h3 c λ l h e=>hd (da l h e);refine Nc bb7 [] (Å Br j) (λ b _=>?_);rw[o];exact QiR (QnF 0 _) Á b
def Gn:AD TR.bU
 |.put _ _=>true
 |_=>false
def QmG(I:lX w n t0 S bg F kvs z N)(hN:N<64)(X z2 z3 y8 y9 u:Sl)(c:Int)(v:Nat)(put:Bool)(tV:ė put->FC S+1=v):
    ∃C f R Q h Y o r L l,Mu [X,bo4,z2,z3,! s0,!↑t0,Ö v,!(ξ put),y8,y9,u] w>=(ϧ [X,bo4,z2,z3,! s0,!↑t0,Ö v,!(ξ o),r,L,l],C)/\lX C n t0 f R Q h Y (N+1)/\(ė o->TR.eO f f.top+1=v):=by
  obtain⟨d,SK,ed⟩:=QkI c aD4 w;obtain⟨w1,f,R,Q,v',m,ew,A,a8,he,vd,an,pl,wl,st,mf,P,g,rm,cn,lv⟩:=Qkd I hN d SK;obtain⟨x,t,e3,ne⟩:=Qof A.h3 A.h5 he
  let U:=w1++t
  have l0:n<ĳ:=ZC I.h0;have l1:n+1<ĳ:=ZC I.h1;have lt:t0<ĳ:=ZC I.h2;have h2:U[t0]?>=nl:=å (Ah À) (å (a8.2 t0 lt I.d0 I.d1 À À À) I.h2);have zl:=I.zl;obtain⟨h,Y,e4,a9,kl⟩:=QmL I.tb h2 À an vd
  let j:=U.set t0 (nj h)
  have o3:∀i,i≠t0->ŵ j=ŵ U:=λ i hi=>Jg _ _ _ _ (Ş hi);have k0:j[n]?>=(lI f.O4 (n+1:Nat) f.top f.rd f.wr):=å (o3 n (Ş I.d0)) (å (Ah À) A.h1);have k1:ie j (n+1) (f.pg.map aK):=å (o3 _ (Ş I.d1)) (å (Ah À) A.h2);have nn:eN x (vD v') j>=(π,j):=ne j λ i h1 _=>o3 i À
  let o:=put||Gn d
  let E:Sl->Sl->Sl->Sl->En:=λ p a b c'=>[X,bo4,z2,z3,! s0,!↑t0,Ö v,p,a,b,c']
  let r:Sl:=Õ NG
  let L:Sl:=Ö S.rd
  let l:Sl:=Õ ĝ
  have i0:∀(p a b:Sl)(C:Hs),wy (Qb 8) kw (E p r a b) C>=(Ϩ cj2,C):=λ p a b C=>bL9 (VS d C);have Fz:Ζ cj2:=match d with
    |.find _=>JI
    |.put _ _=>JO
    |.cut _=>Xa
    |.stretch _ _=>X7
  have RU:(cj2==bv4)=Gn d:=match d with
    |.find _=>cE0 t9 tI
    |.put _ _=>a0 (PH bv4 tI)
    |.cut _=>cE0 N3 tI
    |.stretch _ _=>cE0 fF tI
  have J:lX j n t0 f R Q h Y (N+1):=⟨P.tree,P.fM (Ğ he),P.fk,P.tab,I.Z.grow g,Ě I.rm,Ě I.cnt,Ě I.lv,k0,k1,Jx _ _ _ (û h2),a9,À,I.d0,I.d1⟩;have quiet:ė (Gn d)->aV1 f.top/\f.rd=iS m/\TR.eO f f.top=FC S:=λ q=>by obtain⟨a,b⟩:=Qa2 st rfl (λ k y e=>by have e:d=.put k y:=e;rw[e]at q;cases q);obtain⟨rt,hr,_⟩:=I.T.root;exact da a b (Å a (TR.MA g (ZC hr)))
  refine⟨j,f,R,Q,h,Y,o,r,L,l,?_,J,NV q⟩
  . refine Fi (E (cQ4 put) r y9 u) w (aD8 (TQ I.tb.d I.tb.rise Â I.h2) ed)
    refine Fi (E (cQ4 o) r y9 u) w ?_
    . refine ϯ (yH (b:=put) Â)
      cases put with
      |true=>rfl
      |false=>refine å (Eg Á) (ϯ (gp (i0 ..) (u_ w Fz JO RU)));rfl
    refine Fi (E (cQ4 o) r L u) w (wE a n Â I.h0 (WE ..) XQ (UO I.h0));refine Fi (E (cQ4 o) r L l) w1 (cf0 ew);refine Ē aF (E (cQ4 o) r L l) j (cP3 j ?_) ?_
    . refine å (yI (hp1:=w1) (Q5 (aL1 aJ1 y ī Â rfl rfl))) (Q5 (Qn (hp1:=U) (hp2:=j) ?_ ?_ nn))
      . exact wE a ĳ Â A.h3 (Qmc ..) XQ e3
      . exact cf0 e4
    refine cP3 j ?_;cases hf:(cj2==cb3)with
    |false=>exact xU (aY3 (i0 ..) (u_ j Fz JI hf))
    |true =>
      refine ϯ (zq (hp1:=j) (aY3 (i0 ..) (u_ j Fz JI hf)));cases hp:o with
      |true=>exact xU (aQ3 b true Â)
      |false =>
        refine ϯ (zq (hp1:=j) (aQ3 b false Â));have O:ė put/\ė (Gn d):=by have:ė (put||Gn d):=hp;simpa using this
        obtain⟨k,dk⟩:∃k,d=.find k:=by
          cases d with
          |find k=>exact õ k
          |put _ _=>exact AQ (PH bv4 t9) hf Á
          |cut _=>exact AQ (PH (Ŕ N3) t9) hf Á
          |stretch _ _=>exact AQ (PH (Ŕ fF) t9) hf Á
        obtain⟨_,q2,_⟩:=quiet O.2;have hm:=mf k dk;have hh:=tV O.1;have gt:dD ↥(f.rd-S.rd) ↥(Ì v)=Ô π:=Ξ yN aF0
        exact Q5 (fh x (f.rd-S.rd) y (ú v) (E2 x f.rd y S.rd (wE a n Â k0 (WE ..) XQ (UO k0)) Â rfl) Â (Z5 gt j))
  . have:ė (put||Gn d):=q
    have O:ė put/\ė (Gn d):=Ä this
    obtain⟨_,_,q3⟩:=quiet O.2;rw[q3];exact tV O.1
def Qop(I:lX w n t0 S bg F kvs z N)(hN:N<65){env:En}(C:aL6 4>=(Õ s0))(e5:aL6 5>=(Õ ↑t0)):∃w',jB (Æ isD (ù 1 qW 4 Qj) ο) (jB (Qh cP (ù 1 yq 4 Qj) aB4) (Qh cP (ù 1 q8 4 Qj) (K5 Id))) env w>=(ο,w'):=by
 have pg:=I.pages;have rm:=I.rm;have lv:=I.lv;obtain⟨rt,i,top⟩:=I.T.root;rw[TR.yg i]at lv;have a:bC0<aY5:=Ě (bR1 (ð (bB8<=77)) (ð (Î<=730)))
 have hM:Î * (S.O4+1)<aw9:=Ě (bR1 (ð (Î<=730)) (ð (S.O4+1<=9)))
 have told:ŗ c q TR.Pg (rq c->q.lv<rt.lv->hH m f TR.Pg (av m f/\f.lv=ci0/\ts∈f.ps)):=λ c q v hl=>by
  have cl:=ZC v;obtain⟨m,f,h1,h2,h3⟩:=I.D c cl (λ e=>by rw[e,i]at v;cases v;lia);obtain⟨j,hj⟩:=bY1 h3;obtain⟨h,q',e1,L,e3,_⟩:=I.T.kid m f h1 h2 j _ hj;have:c=h:=À
  subst this;rw[v]at L;cases L;exact av1 m f h1 À
 obtain⟨t1,f1⟩:=QjX I.T À i a I.h0 I.h1
 let R:=w++t1
 obtain⟨t2,x2,f2,g2⟩:=Qhy I.T i a hM told (w:=R) (Qv I.h0) (Qv I.h1)
 let U:=R++t2
 obtain⟨h,r',y,row,Y,X,tb,t,k5⟩:=Qj6 I.T À i a hM (w:=U) (MN I.h0) (MN I.h1);obtain⟨r,c1,_,rl,_,so,mem⟩:=TR.QiE I.T I.tab I.Z;obtain⟨z0,p0,zp,zl⟩:=I.Z;obtain⟨O,l,J,_,_⟩:=row;have c0:h=0:=by
  by_cases e:h=0
  ·exact e
  ·exfalso;rcases I.T.dis h 0 O p0 l zp (Ξ (X O l) zl) e with ⟨_,u,_,o,_⟩|⟨_,u,_,o,_⟩
   ·rw[z0]at o;cases o
   ·rw[Y]at o;cases o
 subst c0;have:=Qdn c1 J;subst this;have zz:TR.ga S r=z:=TR.zI so I.tb.rise λ p=>by have:=mem ϰ PP;rw[tz ((ϰ,PP)=p)]at this;rw[this,I.tb.fn]
 have t:ie y ⇑U (aM (TR.ga S r)):=t;rw[zz]at t;obtain⟨z1,ez,P⟩:=I.tb.d.back;have nd:aL9 (z1.map ļ):=(P.map (λ p:Int × Int=>ϰ)).nodup_iff.mpr (Ý (aD4).Nodup (I.tb.rise.keys.imp λ q=>Int.ne_of_lt q));have es:pU z1=z:=(U1 nd P.symm (I.tb.rise.imp λ q=>Cj q)).symm;have h3:y[t0]?>=(nj (zE z1)):=Ξ (k5 _ _ (MN I.h2)) ez
 have Q:=QjW (f:=Id) (env:=env) (hp:=y) (z:=z1) (ak e5) h3 nd;rw[es]at Q;refine Ĭ y (å (WN (b:=true) (cW8 ο (bG (Zn (ak C)) f1))) (ϯ sj));refine å (WN (b:=true) (gp (bG (Zn (ak C)) f2) (K6 (n:=0) g2 (au6 d hd hd) Á))) (ϯ sj);exact Qn (bG (Zn (ak C)) tb) Q (K6 t (Rk _) Á)
#where
def gi:∀(z:Zs)(acc:Ϧ),aL9 (bw7 (acc++bJ8))->YR acc bJ8=acc++bJ8
  | [],acc,_=>ky YR zE
  |p::z,acc,h=>by
    have a:JQ acc aD5 ↥PP=acc++[(aD5,bj7)]:=by unfold JQ;rw[Eg];intro q;obtain⟨x,hx,ex⟩:=List.any_eq_true.mp q;rw[List.map_append]at h;exact(List.nodup_append.mp h).2.2 x.1 bR2 aD5 (ą zE) (Ä ex)
    show YR (JQ acc aD5 ↥PP) bJ8=_;rw[a,gi z _ (ad4 zE A8)];simp[zE]
def Sv:∀z:Zs,nQ (aM z)>=bJ8
  | []=>rfl
  |p::z=>by
    show(match KY ↥ϰ,nQ (aM z)with
      |some k,some ps=>è ((k,oT PP)::ps)
      |_,_=>none)=_
    rw[Sv z];rfl
def Kp(w a:Hs):Û:=ŗ i x OV (EB w->EB a)
def Kp.wk(w:Hs)(a:Ts):Kp w bJ7:=λ i x h=>Å (Mf cO6) h
section
variable{S:TR.Sh}{bg:TR.Bg}{rt:TR.Pg}{rows:TP.Rw}
def PF.hN(F:PF S bg rt rows):bC0<aY5:=Ě (bR1 (Ý (bB8<=12) F.mQ) F.len)
def PF.sV(F:PF S bg rt rows)(h:m4 a b (a.1<b.1)):TR.bM S (fnOf rows):=λ k v=>by
 have c:∀m,m∈IP FE (TR.bW S λ x=>oX x 0)↔∃q,bS3/\bD9 0:=λ m=>by
  rw[Bm,Cg];unfold TR.bW;constructor
  ·rintro⟨h1,h2⟩;rw[cK5]at h2 ⊢;exact ĸ _ (Eo h2)
  ·rintro⟨q,h1,h2⟩;refine CB (ZC h1);rw[h1];exact Em h2
 have e:=F.tab _ (sC List.pairwise_lt_range) c;rw[MR h,<- e,List.mem_flatMap];constructor
 ·rintro⟨m,h1,h2⟩;obtain⟨q,q1,f⟩:=(c m).mp h1;unfold Ym at h2;rw[q1]at h2;exact⟨m,q,q1,f,h2⟩
 ·rintro⟨m,q,q1,f,h2⟩;refine AB m ((c m).mpr (da q q1 f));unfold Ym;rw[q1];exact h2
#where
def Qlk{rows:TP.Rw}{O4:Nat}(f:2<=O4)(u:O4<=8)(l:m4 a b (a.1<b.1))(j:al7 300){w:Hs}{T:DV}(o:cJ w T rows):
  ∃(n:Nat) (c:Hs) (bg:TR.Bg) (rt:TR.Pg) (a b:Int),yo [T,ú O4] w>=(LD,c)/\Kp w c/\PF bu3 bg rt rows/\c[n]?>=(lI O4 (n+1) (Ì (bu3).top) a b)/\ie c (n+1) ((bu3).pg.map aK):=by
 obtain⟨t,e,r,q1⟩:=QgX o f À j;have pp:=Qi3 (rows:=rows) (O4:=O4) f l;have pl:⇑ap1=⇑FV:=Ξ pp Bq
 rw[pl]at e r q1;rw[pp]at e;obtain⟨bg,rt,F⟩:=QoX f u l j q1;exact⟨_,_,bg,rt,_,_,e,λ i x h=>by have hi:i<ĳ:=cO6;rw[TY (Ĵ An)];exact Qv h,F,bt9,Dm ..⟩
def QiD(ns:Ď)(h:mh<=63):∃hp,wR [aY8] []>=(ο,hp):=by
 let X:DV:=aY8
 obtain⟨c,ec⟩:=kr ns 0 h;have rr:=bu4 c 1 7 Á;obtain⟨O4,er,r2,r8⟩:∃O4:Nat,2+P5 1 7=rG/\2<=O4/\O4<=8:=Nc (IS (2+P5 1 7)) À À À;obtain⟨sz,hs,es⟩:=QlZ c O4 À;obtain⟨rows,hr,Q,et⟩:=Qj7 ns h sz hs
 let T:DV:=Ø ϲ
 obtain⟨n,j,bg,rt,a,b,e1,_,F,hn,hk⟩:=Qlk r2 r8 Q À (w:=[]) (T:=T) ı;have P:(bu3).O4=O4:=rfl;generalize bu3=t at F hn hk P
 let S:TR.Sh:=Ė t rd a wr b
 let t0:=cz6
 let o:Hs:=j++[nj bj1]
 have nd:aL9 (bw7 bj1):=Od.nodup Q;have ed:Ii [T] j>=(ë t0,o):=by show(tQ T >>= λ ds=>rK (nQ ds) >>= λ ps=>Xr (nj (YR [] ps))) j=_;rw[Qe (rfl:tQ T j>=(ϲ,j)),Sv];show Xr (nj (YR [] bj1)) j=_;rw[gi rows [] (Ä nd)];rfl
 have O:o[n]?>=(lI O4 (n+1:Nat) (Ì t.top) a b):=Qv hn;have L:ie o (n+1) (t.pg.map aK):=Qv hk;obtain⟨ls,R,lf,ll,a9,e3⟩:=QgP F.tree F.top F.hN O L
 let U:=Wk o R
 have k3:Kp o U:=Kp.wk o R;have l0:n+1<cz6:=ZC hk
 let J:=⇑R
 have a8:J=bB8:=by show ⇑R=_;rw[a9.len,ll]
 have Nu:FC S=rt.lv:=TR.yg (S:=S) F.top;have I0:lX U n t0 S bg (fnOf rows) bj1 rows 0:=⟨F.tree.rd a b,F.dn,F.fk,F.sV Q,F.zero,lL (t.O4<=8),S0 F.cnt (bZ0 t<=_),by rw[Nu];have:=F.mQ;lia,by have:=k3 _ _ O;rw[<- P]at this;exact this,k3 _ _ L,k3 _ _ (bX0 ((j++_)[cz6]?=_)),da Od Q (MR Q),pD (⇑bj1=rows.length) (Bq ..),lL (cz6≠n),lL (cz6≠n+1)⟩
 let z2:Sl:=bZ9
 let z3:Sl:=Õ T
 let E:Sl->Sl->Sl->Sl->Sl->En:=λ c p x y u=>[! X,c,z2,z3,! s0,!↑t0,Ö J,p,x,y,u]
 let Y:En:=E bo4 (Õ π) Ś Ś Ś
 have hc:D.zY oI none (è 40)=pd bZ4:=by have q:D.zY oI none (è 40)=EH oI 40:=WZ oI 40;rw[q,List.map_take]
 have sl:bH Ë Zw (Ze (ì 40)) Y=E6 (pd bZ4):=by simp[Y,E,X,bH,Zw,Ze,iI,hc,Zj,Qs,QI,QT,Iu,aQ,ZD,Kh,oH,v7,v8,Qh,Qb,eC,eB,fU,Yh,iQ,qk,jB,kE,I_,cL,xp,Qj,Qc,ZO,Xg,Qx,QY,QJ,gN,ju,Vz,yN,Y3,zA,yM,GG,Vc,Ir,Ie,Xk,Mq,dZ]
 have M:WP (xY (d7 (pd bZ4)) (λ d env=>aC3 1 d >>= λ C=>Mu C) Ņ 0 Y) U λ q w=>∃S bg F kvs z z1 p x y u i,q=ϧ (E z1 p x y u)/\lX w n t0 S bg F kvs z i/\i<64:=by
  refine M2 _ (λ i env w=>∃S bg F kvs z z1 p x y u,env=E z1 (cQ4 p) x y u/\lX w n t0 S bg F kvs z i/\(ė p->FC S+1=J)) č ⟨S,bg,_,_,_,_,false,_,_,_,rfl,I0,λ_=>Ξ Nu a8⟩ (bF5 i d hd env w zz) (Ł env w zz)
  ·obtain⟨S,bg,F,kvs,z,z1,p,x,y,u,e,I,hp⟩:=zz;subst e;have hi:i<40:=Fc bi9
   obtain⟨c,_,rfl⟩:=bI4 (Aw hd);obtain⟨w',S',aN,F',l,z',dU,x8,x9,ad,et,I',hp'⟩:=QmG I À (Õ X) z2 z3 x y u c J p hp;exact⟨_,_,et,S',aN,F',l,z',_,dU,_,_,_,rfl,I',hp'⟩
  ·obtain⟨S,bg,F,kvs,z,z1,p,x,y,u,e,I,hp⟩:=zz;exact⟨S,bg,F,kvs,z,z1,_,x,y,u,_,nV e,I,č⟩
 obtain⟨q,w,eM,S',aN,F',l,z',z1,p,x,y,u,i,rfl,I,hi⟩:=M;obtain⟨w',ee⟩:=Qop I À (env:=E z1 p x y u) rfl rfl
 let G:Sl->Sl->Sl->Sl->Sl->Sl->Sl->En:=λ a b c d e f g=>[! X,a,b,c,d,e,f,g,Ś,Ś,Ś]
 let r:Sl:=bo4
 let z4:Sl:=Õ s0
 let z5:Sl:=Õ ↑t0
 refine Ĭ w' (Oe (E z1 p x y u));refine Fi (G r Ś Ś Ś Ś Ś Ś) [] (bn0 rfl ec _);refine Fi (G r z2 Ś Ś Ś Ś Ś) [] (Z5 (œ (Μ x 2 y (P5 1 7) rfl (AT x (QN c 1) y 7 (G5 x bK0 y 1 rfl rfl (X9 c 1 Á Á)) (Z9 _ _ Á)) (ju _ _)) er) _);refine Fi (G r z2 z3 Ś Ś Ś Ś) [] (bn0 (bn0 Â es _) et _);refine Fi (G r z2 z3 z4 Ś Ś Ś) j (bG (Zk (v:=T) (Jj uq rfl) Â) e1);refine Fi (G r z2 z3 z4 z5 Ś Ś) o (Jj uq ed);refine Fi (G r z2 z3 z4 z5 (Ö J) Ś) U (œ (bt4 (bG uq e3) (MB (sJ o R))) YU);refine Fi Y U rfl;exact IM (zH (Ye (Z5 sl _)) eM) ee
def uv{K:Aa}{c a b:Addr}{d0 d1 e:OK}{n0 j l:Nat}{n o r:an1}{t:Tok}(f:Ο c>=(Nc af9 d0 (cz3 #[LI 0,ų,ca2,bE,bE] n0) n))(i:Ο b>=(Nc af9 e (cz3 Nl l) r))(h:Ο a>=(Nc af9 d1 (cz3 Nl j) o)):bO K (ñ [È 0,bK8,bK8,ī,ī]) ↑c:=(LC (xs:=[È 0,ų,ca2,ī,ī]) f Į (fX aU3 (cc2 (cc2 (cc2 (cc2 mT))))) (jI Qm3 (jI (LC (xs:=[]) h Į mT kY) (jI (LC (xs:=[]) i Į mT kY) (jI Ru (jI Ru kY))))))
def Qm4{P:Program}{w:World}{K:Aa}{h:Heap}{mg:Eu}{fa f:Addr}{o kV i j a ct:Value}{r e:OK}{t:an1}(X:bP2)(G:EN mg)(b:mg cO5 = è ↑fa)(Z:Al K mg)(n:ς K cO5 = è aQ6)(l:Ο f>=(Nc o r (.func (PySem.W.fnOf cO5 cO5 (J6 UW) (Z6 UW) (Qp UW) bE kV i j e a ct)) t))(c:wx K a cO5)(k:bI K PQ):∃fd:FuncData,bz5 s v Value (ci6 s (wP [v]) [(N4, v)])/\∀O8:Heap,K.In O8->ab0 mg->jq P w K mg O8 CX0 8 fa fd [N4] (lE K 1 wR):=ac2 (b.symm.trans (ao6 G n)) (da (PySem.W.fnOf cO5 cO5 (J6 UW) (Z6 UW) (Qp UW) bE kV i j e a ct) (λ s v=>.of_eq rfl) (λ O8 _ _=>law_fn Z (kG l c k)))
def walk{l:PySem.W.OpenLaw}{q:Program}{b:cr}{i:(Eu)->ay1}{e:World->ay1}{d:DefRec}{K:Params->Aa}(r:l.most>=63)(c:bp6 [])
  (hY:∀(w:World)(h:Heap),e w h->(pF).In h)
  (F:∀(w:World)(mg:Eu)(fa:Addr)(h:Heap),(pF).In h->EN mg->mg d.name>=↑fa ->
   ∃fd:FuncData,bz5 s u Value (ci6 s (wP [u]) [(N4, u)])/\∀O8:Heap,(pF).In O8->ab0 mg->jq l.prog w pF mg O8 CX0 8 fa fd [N4] (lE pF 1 wR)) :
  PySem.W.WalkO q b i e l.row.toRowW d [] (λ f vs=>cJ4 f) :=
 L2.QfY (n:=63) (k:=8) (x := N4) (CX:=λ_=>CX0) (sp:=λ w=>lE pF 1 wR) r Á c (bB7 Á Á) hY F (λ w _ a ns o _ j=>Qm5 (QiD ns o) j) λ_ _ _ _ _ z=>z
#print K64
namespace PySem.W.Fast
def tw18344690765533073183:=0
def tw12687519348899978377:=0
def tw14836586721266787650:=0
def tw3952463111358698937:=0
def tw12304332231934059882:=0
def tw2943748019589626020:=0
def tw1096664914198135093:=0
def tw15539064461920769785:=0
def tw2162778619579513599:=0
def tw12325758149849824339:=0
def tw1122176500989209315:=0
def tw4539331238025914873:=0
def tw7931591057063738707:=0
def tw3497773881215998428:=0
def tw16483437598513642194:=0
def tw13001016326212867652:=0
def tw3904224551127803308:=0
def tw13108296883923800917:=0
def tw9523918116950457979:=0
def tw656671304558325966:=0
def tw2053749587745542714:=0
def tw7363245869131302585:=0
def tw10570930340350610869:=0
def tw13550532865544740327:=0
def tw8589360212734842206:=0
def tw4243510592369683586:=0
def tw8210572051498410152:=0
def tw8126018407717880683:=0
def tw13308844137335296323:=0
def tw7672086542649917088:=0
def tw16086579296570913848:=0
def tw6951173954779846404:=0
def tw3066730347814250899:=0
def tw9701614164370113679:=0
def tw11889517490742494174:=0
def tw9762902241111224984:=0
def tw304154015755960754:=0
def tw8036502720782337608:=0
def tw6927546994922975373:=0
def tw2873669407294405223:=0
def tw637326366871002853:=0
def tw4418466412696969743:=0
def tw6783958515690804769:=0
def tw9471652602734416056:=0
def tw792329314701783458:=0
def tw18216848005522127397:=0
def tw14187468386583921916:=0
def tw7563562847235990399:=0
def tw9459527229110203741:=0
def tw15756617279730236041:=0
def tw1669371625725290856:=0
def tw10735381410359256684:=0
def tw3300360249964591449:=0
def tw3314925017134659196:=0
def tw11666291165360712567:=0
def tw15684878407674460770:=0
def tw4929054580015441418:=0
def tw5745526959147664549:=0
def tw14246039377020594324:=0
def tw1549371902959730977:=0
def tw11532662066681612373:=0
def tw12893880467456279926:=0
def tw10481896980125815396:=0
def tw9754652873827368581:=0
def tw11388889829999500276:=0
def tw13500959836800024322:=0
def tw15705624460855856924:=0
def tw2425680474011701535:=0
def tw7088336189129702832:=0
def tw14010666873789777915:=0
def tw14349853073602193396:=0
def tw10922249980311396356:=0
def tw13933661183695998164:=0
def tw2020719639690430017:=0
def tw11774343465413707228:=0
def tw12196901506788889805:=0
def tw8829116153243350668:=0
def tw9207996566894740999:=0
def tw13142018200252204538:=0
def tw2175940403593606538:=0
def tw1330031788613383916:=0
def tw6977737803765113115:=0
def tw13941206828312098928:=0
def tw14818413908206216392:=0
def tw9011623372685583429:=0
def tw10852200954341880052:=0
def tw10035884326255662598:=0
def tw17112368432575780066:=0
def tw7441839369724857345:=0
def tw5825975121200501851:=0
def tw12266134394633355513:=0
def tw6389994399767981162:=0
def tw7228299273446403349:=0
def tw11989274831516623549:=0
def tw81576168403128849:=0
def tw1358025833937830328:=0
def tw4592916700040707849:=0
def tw2586756448880894877:=0
def tw15195797478751525608:=0
def tw7769172535138071616:=0
def tw1517549237837536659:=0
def tw11324856841507242115:=0
def tw16428208593494718744:=0
def tw2790026155158213055:=0
def tw8951839842103572321:=0
def tw18240547258346632190:=0
def tw9545108850695481736:=0
def tw17494412645297047897:=0
def tw17789693625194346101:=0
def tw9519492292699030040:=0
def tw1902210834835652278:=0
def tw956088293941101791:=0
def tw16157259835965547278:=0
def tw3353316717638215464:=0
def tw5766714527524611170:=0
def tw12357363807760729863:=0
def tw3162270661047496126:=0
def tw2360229299957062046:=0
def tw10010512831880045067:=0
def tw15033429506139898367:=0
def tw11358522323848742559:=0
def tw18010720127514385681:=0
def tw12738644428136495234:=0
def tw17267242096327758771:=0
def tw11902734342341471023:=0
def tw780946081230159126:=0
def tw15748602490804742581:=0
def tw15762071277050205566:=0
def tw12549643260823067263:=0
def tw211009861489051706:=0
def tw2637167716162360587:=0
def tw548404255639940710:=0
def tw4902826130500507190:=0
def tw6225154320194712325:=0
def tw3786591620982709605:=0
def tw17816444827990105010:=0
def tw2005514793600427150:=0
def tw14322315188913997404:=0
def tw14554852725838651458:=0
def tw17633348990418031731:=0
def tw18025264380339868205:=0
def tw4717777592078894229:=0
def tw13845600088078257932:=0
def tw13197417876671471508:=0
def tw5277655009549915965:=0
def tw15234277973062599889:=0
def tw7914235797085392313:=0
def tw9219696994676366481:=0
def tw13352177629251556331:=0
def tw1376127767371695823:=0
def tw16710649797691257274:=0
def tw18157633865255729920:=0
def tw4660575896771400868:=0
def tw772451314244044153:=0
def tw17496253703067701905:=0
def tw15356314803669158383:=0
def tw7073712386298310859:=0
def tw3811269254140104607:=0
def tw39304517330584864:=0
def tw13663784150679224719:=0
def tw4772751020231658885:=0
def tw3256464279358256387:=0
def tw15304023806164225646:=0
def tw8502111696707217615:=0
def tw13719030056828996244:=0
def tw7919145201237313589:=0
def tw2374541959601567295:=0
def tw14589384049180159554:=0
def tw6733945432086983706:=0
def tw13760317330588060601:=0
def tw4971961815795421567:=0
def tw2970213843981904169:=0
def tw18230665318033315710:=0
def tw16662365246870725676:=0
def tw9870747948265421652:=0
def tw4936947648237334507:=0
def tw2933754061222584959:=0
def tw18266124609693776968:=0
def tw9215221513256189681:=0
def tw15644513902971351151:=0
def tw16163319585430925119:=0
def tw14287385958868196270:=0
def tw7282394168671155980:=0
def tw15815553617330031359:=0
def tw793050316725481944:=0
def tw17652321930034250127:=0
def tw4326059167500343133:=0
def tw670344679005746723:=0
def tw13101704005379639894:=0
def tw9889867525225143647:=0
def tw5770662790309185817:=0
def tw15908402769838554962:=0
def tw10641129579196417350:=0
def tw10409264961013309304:=0
def tw4214834061647694628:=0
def tw17810400825559150422:=0
def tw13248361225967738838:=0
def tw573675550849738893:=0
def tw12291462364236556174:=0
def tw8818448378056473294:=0
def tw17754483124556342795:=0
def tw6980358857397034979:=0
def tw5507420601575005600:=0
def tw16354204376955972:=0
def tw2208335034967926429:=0
def tw13724864326621779648:=0
def tw5848204827032427777:=0
def tw1271021686044165130:=0
def tw8004674140135978224:=0
def tw12583939630478734165:=0
def tw15072344882897069896:=0
def tw4746310762316511038:=0
def tw2787350549251107531:=0
def tw17103728640930642137:=0
def tw8190227905027887046:=0
def tw2291541228770867424:=0
def tw3066358759126874731:=0
def tw17141291275509993514:=0
def tw17827632756803546977:=0
def tw17380459487606624302:=0
def tw1034695001324747529:=0
def tw13850488257182498459:=0
def tw5846434849715097611:=0
def tw5435377236054216901:=0
def tw1369019558629685967:=0
def tw5586178871966619733:=0
def tw14901617932405573556:=0
def tw18236340463379016377:=0
def tw507417766869818698:=0
def tw16982981487411913982:=0
def tw6232067392410596483:=0
def tw7893947369245749231:=0
def tw16065799758590747659:=0
def tw211246958941325799:=0
def tw13721303534505939394:=0
def tw1256970782720913694:=0
def tw17867678229280841900:=0
def tw17924394004454874356:=0
def tw13797854259055252736:=0
def tw18068093055108524979:=0
def tw10189950232150816340:=0
def tw6505411627336922976:=0
def tw15077480289167927207:=0
def tw7034621318318684996:=0
def tw5827248338107464717:=0
def tw17274424810778698805:=0
def tw13929025531412030477:=0
def tw16646131334401405186:=0
def tw3271670328653112519:=0
def tw11900332130659969677:=0
def tw10659616713346987814:=0
def tw15271033163415067300:=0
def tw7130840809234032202:=0
def tw6405370220808147796:=0
def tw11173989440071392379:=0
def tw3759641097216116484:=0
def tw2862995103558680081:=0
def tw5850653810589699542:=0
def tw10898934632999523586:=0
def tw1300387087235714153:=0
def tw16414235611961938932:=0
def tw10289811130630681134:=0
def tw16995529734689665621:=0
def tw5098696961871661589:=0
def tw12882765395289487958:=0
def tw4357331575255682978:=0
def tw8765909124179075793:=0
def tw17992648006028367545:=0
def tw15200457020132396911:=0
def tw12281519409565627845:=0
def tw7224474882940049701:=0
def tw2046422289123552074:=0
def tw8851837577807754363:=0
def tw11630386361465097371:=0
def tw5175407089696762797:=0
def tw2128024233185568145:=0
def tw16107033028635967193:=0
def tw16942818429174523480:=0
def tw4529860293287430029:=0
def tw8367276366198070377:=0
def tw8618606503537016779:=0
def tw9927579135163104429:=0
def tw13478056861821380919:=0
def tw9733467068039502825:=0
def tw9880325418524188055:=0
def tw3601327385746175731:=0
def tw96432589035092767:=0
def tw1530865808934012463:=0
def tw7633746000496277440:=0
def tw13654064324542429622:=0
def tw16455983626865869714:=0
def tw5862880134255255848:=0
def tw17321639912220619008:=0
def tw7327305030102543268:=0
def tw8484463067861402277:=0
def tw10181526323705723774:=0
def tw5784901258661010650:=0
def tw6081440826058248855:=0
def tw2125406552075999898:=0
def tw16338363473221810473:=0
def tw8557549447114267670:=0
def tw6065644669143979467:=0
def tw3598130759629922825:=0
def tw9757363120814862657:=0
def tw2154822374130965706:=0
def tw12635236443288197077:=0
def tw17310139082596683491:=0
def tw80746357312586077:=0
def tw10752086665988143356:=0
def tw4712818485142482911:=0
def tw536031979508738105:=0
def tw14553932217163383134:=0
def tw13199059346530787922:=0
def tw210064922259337595:=0
def tw9175086423564238945:=0
def tw15071259752540468596:=0
def tw10283031586227532687:=0
def tw4292549452314570909:=0
def tw10389954492640856465:=0
def tw16640359897825015803:=0
def tw17362756207073267441:=0
def tw4062336100889925832:=0
def tw10639734244674812376:=0
def tw14573103919013482290:=0
def tw15788241009466022992:=0
def tw17251315964917388884:=0
def tw7313770919228764348:=0
def tw2754075178802162956:=0
def tw5247943726583443351:=0
def tw6170270433116074860:=0
def tw11858702552479853082:=0
def tw4091116810333905745:=0
def tw2669275396272935985:=0
def tw15749737527290012145:=0
def tw4699641942308811628:=0
def tw15853784020198925206:=0
def tw16565473578130186247:=0
def tw2488755897565493463:=0
def tw5655853213297357116:=0
def tw8191976983137408408:=0
def tw2302142833015246866:=0
def tw2340580603397721660:=0
def tw10263568360577705908:=0
def tw5635407053835027446:=0
def tw5878685927959696063:=0
def tw12993651959838003907:=0
def tw5407905072319890808:=0
def tw10833804487167263548:=0
def tw15675878694974439414:=0
def tw10115464682200439898:=0
def tw15211315806026275517:=0
def tw13754205354089331464:=0
def tw8930832240440699925:=0
def tw14946427464276516969:=0
def tw4590725846437486922:=0
def tw9212138111615524617:=0
def tw10722529910429921915:=0
def tw17402711477615556422:=0
def tw17048642884613139313:=0
def tw5658172557256008939:=0
def tw7313062090644088394:=0
def tw4817308237997750837:=0
def tw6833290246327638082:=0
def tw11071791561406368534:=0
def tw18216076279201024279:=0
def tw5339851369476822538:=0
def tw7121895976013850348:=0
def tw5707994478315936054:=0
def tw5922678425667383084:=0
def tw7456435275545401931:=0
def tw10352792869182795515:=0
def tw1625842353626772276:=0
def tw17623250341030655604:=0
def tw13033061408349107408:=0
def tw8486051723141075036:=0
def tw9741012054357834177:=0
def tw14442204771395310751:=0
def tw18212214190516371662:=0
def tw13639249820540677815:=0
def tw11001803867695789145:=0
def tw12671004270217101523:=0
def tw8691921082623865332:=0
def tw10327832829543365054:=0
def tw11937299398771238743:=0
def tw4057204583189719354:=0
def tw11562874381686773859:=0
def tw15383082922193173609:=0
def tw12867555483633440218:=0
def tw17655592298275904925:=0
def tw2155591827418310054:=0
def tw8014725466787236160:=0
def tw9472186676823102435:=0
def tw17408848926200302727:=0
def tw17802763564241457876:=0
def tw11226066095314812568:=0
def tw2946715935319151318:=0
def tw18148263959311244702:=0
def tw1444329564216827933:=0
def tw5186136430989296554:=0
def tw15069020862347385807:=0
def tw14748231985113884954:=0
def tw297516314118080881:=0
def tw7864442762302246537:=0
def tw15823626443288547539:=0
def tw2823078505034756949:=0
def tw17995692713648999468:=0
def tw8374613350950241528:=0
def tw7404003361752222713:=0
def tw4333903968255244133:=0
def tw5534709315015434581:=0
def tw16196433591715410233:=0
def tw15475130278993506529:=0
def tw6789257762448896255:=0
def tw7606421436533619314:=0
def tw15161476210576430392:=0
def tw16314587385790756378:=0
def tw4681520945854730026:=0
def tw14499757290711175193:=0
def tw2526203209065972845:=0
def tw11070454137956334937:=0
def tw7710055853044445792:=0
def tw14335142159356922228:=0
def tw4094270973982341045:=0
def tw2079221074690759850:=0
def tw14054435921138185820:=0
def tw9994129304062204689:=0
def tw8729134605151631194:=0
def tw576599898976401479:=0
def tw1490248965457713432:=0
def tw13433160081164791399:=0
def tw14116695806542398611:=0
def tw142787566169127898:=0
def tw2693519064986679280:=0
def tw9470980141577001901:=0
def tw2241214607420730956:=0
def tw8220549070046699529:=0
def tw14478112285045123212:=0
def tw3193335813365119223:=0
def tw9755780837137151477:=0
def tw15322895575764661745:=0
def tw3511828971920199063:=0
def tw271683493771088438:=0
def tw10283592160398832415:=0
def tw17826937872723666187:=0
def tw11885949333395699023:=0
def tw13366474929656420064:=0
def tw7059589550685277661:=0
def tw6938313630721920846:=0
def tw10774745433668680937:=0
def tw10726182566426508963:=0
def tw15484839536768640864:=0
def tw7903059313120028706:=0
def tw12270320572649305030:=0
def tw8265731331015851550:=0
def tw2805749087702056515:=0
def tw17725092334117828732:=0
def tw13849223488429873333:=0
def tw18384657701022093421:=0
def tw3167138849382089964:=0
def tw1239340245533730654:=0
def tw11019535034373422731:=0
def tw7675377331255539306:=0
def tw5956878332198435226:=0
def tw16997633518201883226:=0
def tw8389533182028862960:=0
def tw18213010955075544527:=0
def tw1424854233067530131:=0
def tw3116940523522246554:=0
def tw8266212199620818773:=0
def tw8138926281820224589:=0
def tw16031576924096335129:=0
def tw8970023785076555831:=0
def tw1585488195851536669:=0
def tw9045386091970716618:=0
def tw5666449750864296636:=0
def tw14765067613004545691:=0
def tw11837733436575710127:=0
def tw4743697851677764871:=0
def tw3726546170380143689:=0
def tw18380879477165820245:=0
def tw14498629710656304908:=0
def tw16381295421193439035:=0
def tw2634238341202204283:=0
def tw10060164857584624119:=0
def tw14237073876621624262:=0
def tw18298687930598392061:=0
def tw12747615280658089420:=0
def tw6332728392472192336:=0
def tw13291178322211465467:=0
def tw9604460527800949684:=0
def tw17454301743639897417:=0
def tw8689286387189098376:=0
def tw1769755392099584962:=0
def tw17079871755993970036:=0
def tw14940318717004890562:=0
def tw3852293155032641001:=0
def tw4047298089718715434:=0
def tw16889073814063331317:=0
def tw1774512496861735524:=0
def tw3381274420608220272:=0
def tw11646035520766176820:=0
def tw15746344342172187793:=0
def tw10899584811868944221:=0
def tw13260758529024988958:=0
def tw11328313443053994060:=0
def tw8263991707373511337:=0
def tw17330457830727579433:=0
def tw13458251500233083590:=0
def tw6464851444301588412:=0
def tw11011725300584838880:=0
def tw14361057719929589622:=0
def tw7785361943398421178:=0
def tw3629113599313412951:=0
def tw14077624123220490238:=0
def tw17049521695701732005:=0
def tw16593900238010871179:=0
def tw9819871810119860281:=0
def tw17499445328314920790:=0
def tw13329488804725185918:=0
def tw9360559847686921620:=0
def tw9722520700275492079:=0
def tw9190683105112881823:=0
def tw14030204007269078250:=0
def tw4885368420187999235:=0
def tw10305015131252681042:=0
def tw1457814654357982410:=0
def tw12535553976521525265:=0
def tw6666652539213851508:=0
def tw3215025020520354022:=0
def tw14844835294469038457:=0
def tw4506867937116165323:=0
def tw10173446266226504925:=0
def tw3499402766186494144:=0
def tw15108192440514062066:=0
def tw16704026413821900609:=0
def tw3017789534432362852:=0
def tw10707230346400146240:=0
def tw2332911131361204838:=0
def tw11078388961426350888:=0
def tw12611630577554931488:=0
def tw5236520423602624630:=0
def tw78941510008537238:=0
def tw11921151998243202773:=0
def tw2618348632261757788:=0
def tw12679238821087990434:=0
def tw13413186797568827891:=0
def tw7702470179056484877:=0
def tw1666039386350014040:=0
def tw6377915589601578245:=0
def tw4371463678153388778:=0
def tw17020359797979009651:=0
def tw2970600904303883757:=0
def tw6896839964796171351:=0
def tw537802585984280172:=0
def tw8029325375000768291:=0
def tw10289772915140866113:=0
def tw5818769633835082644:=0
def tw4724563261295511302:=0
def tw4694284445617734635:=0
def tw394987533491174308:=0
def tw18300175176260668143:=0
def tw4234691774470047145:=0
def tw9214184263180992456:=0
def tw5488472417548784635:=0
def tw7493725033353165325:=0
def tw2318342106177779353:=0
def tw10347568607034361209:=0
def tw5809360210883900340:=0
def tw3015865518389748576:=0
def tw10552695734365284191:=0
def tw9480437421487516367:=0
def tw16388428167447975076:=0
def tw700268023766025840:=0
def tw16907382233979207739:=0
def tw18191122659121508323:=0
def tw15522522441472807494:=0
def tw18100621319415907673:=0
def tw10981158831041989746:=0
def tw8602704694716608566:=0
def tw10129879726512821449:=0
def tw3519867551589876960:=0
def tw8063395399954106113:=0
def tw1283185864124326845:=0
def tw6842717821160542688:=0
def tw8752288197710985476:=0
def tw939498988027180097:=0
def tw16196075608424791600:=0
def tw534690052122922004:=0
def tw14071236593715881:=0
def tw17453452783402124179:=0
def tw6921424902021297789:=0
def tw2521904440872838899:=0
def tw3857863446071240666:=0
def tw12630412063227522860:=0
def tw6290381481901092528:=0
def tw9422150778461614891:=0
def tw10139553377064864882:=0
def tw7637068084114000954:=0
def tw2498986850019135538:=0
def tw17928568756774875291:=0
def tw1006328780904322719:=0
def tw9617783066280549982:=0
def tw16341154054050472160:=0
def tw13025173448580694744:=0
def tw14186417741907643574:=0
def tw11266355426816698755:=0
def tw12758930836337842075:=0
def tw11533591171869205685:=0
def tw18296219936416140859:=0
def tw5461716800850797530:=0
def tw2437671609521075651:=0
def tw9571981061702734994:=0
def tw16787303239316773303:=0
def tw10617427252848783873:=0
def tw1599583535298357610:=0
def tw17693102715025511083:=0
def tw10604766644860872520:=0
def tw17712243330443042629:=0
def tw9977845566209136005:=0
def tw2060514535264648950:=0
def tw3212228533637637364:=0
def tw16292061344358243067:=0
def tw10587074202041868511:=0
def tw2580714520489298558:=0
def tw303916511599604231:=0
def tw14718693508852196449:=0
def tw12991406719192350204:=0
def tw17544565524374149920:=0
def tw2852900483475407870:=0
#print PySem.W.Fast
end
open PySem PySem.W PyProof.Rows
open D in
set_option maxRecDepth 100000 in
set_option maxHeartbeats 0 in
theorem PySem.Challenge.cw_sidelink_k64_whole_packed_goes_on_holds : PySem.Challenge.rw_sidelink_k64_whole_packed_goes_on.Holds := by
 w_on;o_law;k_head;(case hw=>w_witness2)
 k_fill
 refine K64.walk (l:=PySem.Challenge.rw_sidelink_k64_whole_packed_goes_on) rfl rfl (fun w h Y=>PySem.W.kIn_of Y) ?F
 case F =>
  intro w mg fa h KX G hmg;have c0:UC _ "Shelf" := uc KX (by k_is) (by k_is) (by k_is) (by k_is) (by k_is);have c1:UC _ "Walk" := uc KX (by k_is) (by k_is) (by k_is) (by k_is) (by k_is);exact K64.Qm4 KX G hmg (by constructor;all_goals first|exact PySem.W.mg_none_of KX G (by k_is)|exact uf KX G (by k_is) (by k_is) (by k_is) (by k_is)|exact ug KX G (by k_is)|exact ut KX G (by k_is) (K64.uv (by k_is) (by k_is) (by k_is))|exact uk KX c0 (by k_is) (by k_is)|exact um KX c0 (by k_is) (by k_is) (by k_is) (by k_is) (by k_is) (by k_is)|exact uk KX c1 (by k_is) (by k_is)|exact um KX c1 (by k_is) (by k_is) (by k_is) (by k_is) (by k_is) (by k_is)|exact ui KX G (by k_is) (by k_is) (by k_is) (by k_is) (by k_is) (by k_is) (by k_is) (by k_is)) (by k_is) (by k_is) (by k_is) (by k_is)
